import PyProof.Rows.All
import Wide.All
import OpenK.AllK
import Wide.FinOn
import HandS.ForMost
import HandS.Gcd
import HandS.Wide
import HandS.IsInst
import KE.KTypeName
import PyProof.IsiStr
import HandS.Flow
import HandS.Style
import HandS.Evl
import HandS.Conv
import HandS.Zip
import HandS.TupAny
import HandS.Star
import HandS.Walk
import HandS.More
import HandS.Ends
import HandS.Words
import HandS.WordsExc
import PyProof.ReprRoads
import PyProof.ReprLen
import HandS.Deep
import HandS.TryOnly
import HandS.Lambda
import HandS.Nested
import HandS.CallSlots
import KE.KDflt
import HandS.ExcInit
import HandS.ExcField
import HandS.ExcOwn
import KE.KExcInit
import HandS.TryMany
import HandS.Dict
import KE.KDictPairs
import HandS.Exc
import HandS.Comp
import HandS.Iter
import PyProof.Draws
import PyProof.Rows.CallKwBuiltin
import KE.GoesMore
import KE.GoesEnum
import KE.GoesEnumKw
import KE.GoesZip
import PyProof.ZipIter
import KE.KDictOf
import PyProof.EnumMake
import HandS.DictComp
import HandS.FltList
import KE.DataMinMax
import HandS.TupMul
import HandS.List
import PySem.Challenge.RW_curtainsteps_k25_whole_terms
set_option Elab.async false
set_option maxRecDepth 100000
set_option maxHeartbeats 4000000
/-! x.__class__.__name__ of whole numbers, truth values and tuples; // by any divisor that is not too great. -/
namespace CS
open PySem
section
variable {P : Program} {w : World} {A : Around} {E : Value → Shared → Prop} {hp : Heap} {gs : Array GenState} {dr : Drawn} {tk : Nat} {os : OsState}
theorem cls_of_int {i : Int} {u : Tok} {Q : Value → Shared → Prop} (q : Q (.type "int") ⟨hp, gs, dr, tk + 1, os⟩) : wpAny (model P w) A (getAttr (.int i u) "__class__" true) Q E ⟨hp, gs, dr, tk, os⟩ := by
  have ty : Shared.TypeIs ⟨hp, gs, dr, tk, os⟩ (.int i u) "int" := rfl
  have lo := F.slot_int_getattribute.lookup
  have bi := F.slot_int_getattribute.bind (.int i u)
  unfold getAttr
  all_goals (repeat' first | assumption | wp_step)
  refine class_call_int ?_
  all_goals (repeat' first | assumption | wp_step)
theorem cls_of_bool {b : Bool} {Q : Value → Shared → Prop} (q : Q (.type "bool") ⟨hp, gs, dr, tk + 1, os⟩) : wpAny (model P w) A (getAttr (.bool b) "__class__" true) Q E ⟨hp, gs, dr, tk, os⟩ := by
  have ty : Shared.TypeIs ⟨hp, gs, dr, tk, os⟩ (.bool b) "bool" := rfl
  have lo := F.slot_bool_getattribute.lookup
  have bi := F.slot_bool_getattribute.bind (.bool b)
  unfold getAttr
  all_goals (repeat' first | assumption | wp_step)
  refine class_call_bool ?_
  all_goals (repeat' first | assumption | wp_step)
theorem cls_of_tuple {a : Addr} {od : Option Addr} {dt : Data} {sl : Array (Option Value)} {Q : Value → Shared → Prop} (ha : hp.get? a = some ⟨.type "tuple", od, dt, sl⟩) (q : Q (.type "tuple") ⟨hp, gs, dr, tk + 1, os⟩) :
    wpAny (model P w) A (getAttr (.ref a) "__class__" true) Q E ⟨hp, gs, dr, tk, os⟩ := by
  have ty : Shared.TypeIs ⟨hp, gs, dr, tk, os⟩ (.ref a) "tuple" := ⟨_, ha, rfl⟩
  have lo := F.slot_tuple_getattribute.lookup
  have bi := F.slot_tuple_getattribute.bind (.ref a)
  unfold getAttr
  all_goals (repeat' first | assumption | wp_step)
  refine class_call_tuple ha rfl ?_
  all_goals (repeat' first | assumption | wp_step)
theorem cls_of_str {x : Str} {u : Tok} {Q : Value → Shared → Prop} (q : Q (.type "str") ⟨hp, gs, dr, tk + 1, os⟩) : wpAny (model P w) A (getAttr (.str x u) "__class__" true) Q E ⟨hp, gs, dr, tk, os⟩ := by
  have ty : Shared.TypeIs ⟨hp, gs, dr, tk, os⟩ (.str x u) "str" := rfl
  have lo := F.slot_str_getattribute.lookup
  have bi := F.slot_str_getattribute.bind (.str x u)
  unfold getAttr
  all_goals (repeat' first | assumption | wp_step)
  refine class_call_str ?_
  all_goals (repeat' first | assumption | wp_step)
end
end CS
set_option Elab.async false
set_option maxRecDepth 100000
set_option maxHeartbeats 4000000
namespace CS
open PySem L2
/-- the name of a plain value's class -/
inductive CN (K : PySem.W.Frag) (H : Hp) : V → Str → Prop where
  | int (i : Int) : CN K H (.int i) "int"
  | bl (b : Bool) : CN K H (.bl b) "bool"
  | str (x : Str) : CN K H (.str x) "str"
  | tup {a : Addr} {xs : List V} (h : SqT K H a xs) : CN K H (.ref a) "tuple"
def tCN (K : PySem.W.Frag) (te : TE) : TE := fun σ H Q => te σ H fun x H1 => ∃ nm, CN K H1 x nm ∧ Q (.str nm) H1
section
variable {X : Cx} {pins : List (Addr × Obj)} {σ : St} {H : Hp} {s : Shared}
/-- a built-in class's __name__ -/
theorem name_ok {T q : String} {Q : VK} (I : Inv X pins σ H s) (ht : PySem.W.kitMeta T = true) (hs : Manifest.isStub T = false)
    (e : PySem.W.findCls X.K (.type T) (.type "type") "__name__" = some (.get (.builtin "getset_descriptor.__get__") (.builtin "type.__name__") (.type T) (.type "type"))) (hq : PySem.W.ktynFast T = q) (hz : (Str.ofString q).length ≤ sizeLine)
    (h : Q (.str (Str.ofString q)) H) : wpAny (model X.prog X.w) X.A (getAttr (.type T) "__name__" true) (EP X pins σ Q) X.xe s := by
  obtain ⟨m, Fm⟩ := I.fr
  exact PySem.W.ktyn_attr Fm I.ok.mod.kin ht hs e hq hz fun tk u => ⟨.str _, H, I.tok u, ⟨tk, rfl⟩, h⟩
theorem cn_ok {x : V} {u : Value} {nm : Str} {Q : VK} (I : Inv X pins σ H s) (r : RelV x u) (c : CN X.K H x nm) (h : Q (.str nm) H) :
    wpAny (model X.prog X.w) X.A (getAttr u "__class__" true) (fun v s1 => wpAny (model X.prog X.w) X.A (getAttr v "__name__" true) (EP X pins σ Q) X.xe s1) X.xe s := by
  cases c with
  | int i =>
    obtain ⟨t, rfl⟩ := r
    obtain ⟨hh, g, d, tt, os⟩ := s
    exact cls_of_int (name_ok (I.tok (tt + 1)) (by decide +kernel) (by decide +kernel) (by first | kernel_rfl | rfl) (by decide +kernel) (by decide +kernel) h)
  | bl b =>
    cases (show u = Value.bool b from r)
    obtain ⟨hh, g, d, tt, os⟩ := s
    exact cls_of_bool (name_ok (I.tok (tt + 1)) (by decide +kernel) (by decide +kernel) (by first | kernel_rfl | rfl) (by decide +kernel) (by decide +kernel) h)
  | str x =>
    obtain ⟨t, rfl⟩ := r
    obtain ⟨hh, g, d, tt, os⟩ := s
    exact cls_of_str (name_ok (I.tok (tt + 1)) (by decide +kernel) (by decide +kernel) (by first | kernel_rfl | rfl) (by decide +kernel) (by decide +kernel) h)
  | @tup a xs hT =>
    cases (show u = Value.ref a from r)
    obtain ⟨its, _, ⟨o, h1, h2, _⟩, _⟩ := I.tuple hT
    obtain ⟨oc, od, dt, sl⟩ := o
    simp only at h2
    subst h2
    obtain ⟨hh, g, d, tt, os⟩ := s
    exact cls_of_tuple h1 (name_ok (I.tok (tt + 1)) (by decide +kernel) (by decide +kernel) (by first | kernel_rfl | rfl) (by decide +kernel) (by decide +kernel) h)
/-- e.__class__.__name__ -/
theorem pe_cn {e : Expr} {te : TE} {p1 p2 : PySem.Pos} (he : PE X e te) (hb1 : attributeBase e "__class__" X.env (eval e X.env) = eval e X.env := by rfl)
    (hb2 : attributeBase (.Attribute e "__class__" p1) "__name__" X.env (eval (.Attribute e "__class__" p1) X.env) = eval (.Attribute e "__class__" p1) X.env := by rfl) :
    PE X (.Attribute (.Attribute e "__class__" p1) "__name__" p2) (tCN X.K te) :=
  ⟨fun pins s σ H Q I h => attr_of hb2 (attr_of hb1 (thn (he.run pins s σ H _ I h) fun u s1 ⟨x, H1, I1, rx, nm, c, q⟩ => cn_ok I1 rx c q))⟩
/-- // by any divisor below 2 ^ 9000 in size -/
def CDivX (_ j : Int) : Prop := j ≠ 0 ∧ j.natAbs.log2 < 9000
theorem op_fdivX : OpR X (binaryOp .FloorDiv) (rI CDivX fun i j => .int (i.fdiv j)) := opI fun _ _ _ _ _ _ _ hc q =>
  PyProof.Rows.floordiv_int hc.1 q (.inl (PyProof.noPylong_of_log2 hc.2))
end
end CS
set_option maxHeartbeats 1000000
namespace CS
/-- in least terms, the lower one positive -/
def Fr (x : Int × Int) : Prop := 1 ≤ x.2 ∧ Int.gcd x.1 x.2 = 1
instance (x : Int × Int) : Decidable (Fr x) := by unfold Fr; infer_instance
def Sz (n : Nat) (x : Int × Int) : Prop := x.1.natAbs < 2 ^ n ∧ x.2.natAbs < 2 ^ n
def cm (t b : Int) : Int := if b < 0 then -(Int.gcd t b : Int) else (Int.gcd t b : Int)
def low (t b : Int) : Int × Int := (t.fdiv (cm t b), b.fdiv (cm t b))
theorem gcd_pos {t b : Int} (hb : b ≠ 0) : 0 < Int.gcd t b := Int.gcd_pos_of_ne_zero_right t hb
theorem cm_ne {t b : Int} (hb : b ≠ 0) : cm t b ≠ 0 := by
  have := gcd_pos (t := t) hb
  unfold cm
  split <;> omega
theorem cm_dvd (t b : Int) : cm t b ∣ t ∧ cm t b ∣ b := by
  unfold cm
  split
  · exact ⟨Int.neg_dvd.mpr (Int.gcd_dvd_left t b), Int.neg_dvd.mpr (Int.gcd_dvd_right t b)⟩
  · exact ⟨Int.gcd_dvd_left t b, Int.gcd_dvd_right t b⟩
theorem cm_abs (t b : Int) : (cm t b).natAbs = Int.gcd t b := by
  unfold cm
  split <;> omega
theorem low_parts {t b : Int} (hb : b ≠ 0) : t = cm t b * (low t b).1 ∧ b = cm t b * (low t b).2 := by
  obtain ⟨⟨t', ht⟩, ⟨b', hb'⟩⟩ := cm_dvd t b
  have hg := cm_ne (t := t) hb
  have e1 : t.fdiv (cm t b) = t' := by
    conv => lhs; lhs; rw [ht]
    exact Int.mul_fdiv_cancel_left t' hg
  have e2 : b.fdiv (cm t b) = b' := by
    conv => lhs; lhs; rw [hb']
    exact Int.mul_fdiv_cancel_left b' hg
  unfold low
  simp only [e1, e2]
  exact ⟨ht, hb'⟩
theorem low_fr {t b : Int} (hb : b ≠ 0) : Fr (low t b) := by
  obtain ⟨h1, h2⟩ := low_parts (t := t) hb
  have hp := gcd_pos (t := t) hb
  have hs : (b < 0 → cm t b < 0) ∧ (0 < b → 0 < cm t b) := by
    unfold cm
    split <;> constructor <;> intro h <;> omega
  have e : Int.gcd t b = (cm t b).natAbs * Int.gcd (low t b).1 (low t b).2 := by
    have z : ∀ g a c : Int, t = g * a → b = g * c → Int.gcd t b = g.natAbs * Int.gcd a c := by
      intro g a c e1 e2
      rw [e1, e2, Int.gcd_mul_left]
    exact z _ _ _ h1 h2
  rw [cm_abs] at e
  constructor
  · rcases Int.lt_or_gt_of_ne hb with h | h
    · have hc := hs.1 h
      rcases Int.lt_or_le 0 (low t b).2 with q | q
      · omega
      · have : 0 ≤ cm t b * (low t b).2 := Int.mul_nonneg_of_nonpos_of_nonpos (by omega) q
        omega
    · have hc := hs.2 h
      rcases Int.lt_or_le 0 (low t b).2 with q | q
      · omega
      · have : cm t b * (low t b).2 ≤ 0 := Int.mul_nonpos_of_nonneg_of_nonpos (by omega) q
        omega
  · have e' : Int.gcd t b * 1 = Int.gcd t b * Int.gcd (low t b).1 (low t b).2 := by omega
    exact (Nat.eq_of_mul_eq_mul_left hp e').symm
theorem low_cross {t b : Int} (hb : b ≠ 0) : (low t b).1 * b = t * (low t b).2 := by
  obtain ⟨h1, h2⟩ := low_parts (t := t) hb
  generalize low t b = y at *
  generalize cm t b = g at *
  subst h1
  subst h2
  grind
theorem low_le {t b : Int} (hb : b ≠ 0) : (low t b).1.natAbs ≤ t.natAbs ∧ (low t b).2.natAbs ≤ b.natAbs := by
  obtain ⟨h1, h2⟩ := low_parts (t := t) hb
  have hg : 0 < (cm t b).natAbs := by have := cm_ne (t := t) hb; omega
  constructor
  · conv => rhs; rw [h1, Int.natAbs_mul]
    exact Nat.le_mul_of_pos_left _ hg
  · conv => rhs; rw [h2, Int.natAbs_mul]
    exact Nat.le_mul_of_pos_left _ hg
theorem cop_dvd {k m n : Int} (h : k ∣ m * n) (c : Int.gcd k m = 1) : k ∣ n := by
  have h2 : k.natAbs ∣ m.natAbs * n.natAbs := by
    rw [← Int.natAbs_mul]
    exact Int.natAbs_dvd_natAbs.mpr h
  exact Int.natAbs_dvd_natAbs.mp (Nat.Coprime.dvd_of_dvd_mul_left (show Nat.Coprime k.natAbs m.natAbs from c) h2)
theorem Fr.uniq {x y : Int × Int} (hx : Fr x) (hy : Fr y) (h : x.1 * y.2 = y.1 * x.2) : x = y := by
  obtain ⟨a, b⟩ := x
  obtain ⟨c, d⟩ := y
  obtain ⟨hb, hab⟩ := hx
  obtain ⟨hd, hcd⟩ := hy
  simp only at *
  have d1 : b ∣ d := by
    have : b ∣ a * d := ⟨c, by grind⟩
    exact cop_dvd this (by rw [Int.gcd_comm]; exact hab)
  have d2 : d ∣ b := by
    have : d ∣ c * b := ⟨a, by grind⟩
    exact cop_dvd this (by rw [Int.gcd_comm]; exact hcd)
  have e : b = d := Int.dvd_antisymm (by omega) (by omega) d1 d2
  subst e
  have : a = c := Int.eq_of_mul_eq_mul_right (by omega) h
  rw [this]
theorem low_uniq {t b : Int} {x : Int × Int} (hb : b ≠ 0) (hx : Fr x) (h : x.1 * b = t * x.2) : low t b = x := by
  refine (low_fr hb).uniq hx ?_
  have c := low_cross (t := t) hb
  have : b * ((low t b).1 * x.2) = b * (x.1 * (low t b).2) := by
    generalize low t b = y at *
    grind
  exact Int.eq_of_mul_eq_mul_left hb this
def fadd (x y : Int × Int) : Int × Int := low (x.1 * y.2 + y.1 * x.2) (x.2 * y.2)
def fsub (x y : Int × Int) : Int × Int := low (x.1 * y.2 - y.1 * x.2) (x.2 * y.2)
def fmul (x y : Int × Int) : Int × Int := low (x.1 * y.1) (x.2 * y.2)
def fdiv (x y : Int × Int) : Int × Int := low (x.1 * y.2) (x.2 * y.1)
def flt (x y : Int × Int) : Bool := decide (x.1 * y.2 < y.1 * x.2)
theorem Fr.pos {x : Int × Int} (h : Fr x) : 0 < x.2 := by have := h.1; omega
theorem Fr.ne {x : Int × Int} (h : Fr x) : x.2 ≠ 0 := by have := h.1; omega
theorem dd {x y : Int × Int} (hx : Fr x) (hy : Fr y) : x.2 * y.2 ≠ 0 := Int.mul_ne_zero hx.ne hy.ne
theorem dd0 {x y : Int × Int} (hx : Fr x) (hy : Fr y) : 0 < x.2 * y.2 := Int.mul_pos hx.pos hy.pos
theorem fadd_fr {x y : Int × Int} (hx : Fr x) (hy : Fr y) : Fr (fadd x y) := low_fr (dd hx hy)
theorem fsub_fr {x y : Int × Int} (hx : Fr x) (hy : Fr y) : Fr (fsub x y) := low_fr (dd hx hy)
theorem fmul_fr {x y : Int × Int} (hx : Fr x) (hy : Fr y) : Fr (fmul x y) := low_fr (dd hx hy)
theorem fdiv_fr {x y : Int × Int} (hx : Fr x) (h : y.1 ≠ 0) : Fr (fdiv x y) := low_fr (Int.mul_ne_zero hx.ne h)
theorem fadd_comm (x y : Int × Int) : fadd x y = fadd y x := by
  unfold fadd
  rw [Int.add_comm, Int.mul_comm x.2 y.2]
theorem fsub_fadd {x y : Int × Int} (hx : Fr x) (hy : Fr y) : fsub (fadd x y) y = x := by
  have hp := fadd_fr hx hy
  have c : (fadd x y).1 * (x.2 * y.2) = (x.1 * y.2 + y.1 * x.2) * (fadd x y).2 := low_cross (dd hx hy)
  refine low_uniq (dd hp hy) hx ?_
  generalize fadd x y = p at *
  grind
theorem fmul_fdiv {x y : Int × Int} (hx : Fr x) (hy : Fr y) (h : y.1 ≠ 0) : fmul (fdiv x y) y = x := by
  have hp := fdiv_fr hx h
  have c : (fdiv x y).1 * (x.2 * y.1) = (x.1 * y.2) * (fdiv x y).2 := low_cross (Int.mul_ne_zero hx.ne h)
  refine low_uniq (dd hp hy) hx ?_
  generalize fdiv x y = p at *
  grind
theorem low_neg {t b : Int} (hb : b ≠ 0) : low (-t) (-b) = low t b := by
  refine low_uniq (by omega) (low_fr hb) ?_
  have c := low_cross (t := t) hb
  grind
theorem due_eq {x y : Int × Int} (h : y.1 ≠ 0) (hx : Fr x) : low (x.1 * y.2 * (if 0 < y.1 then 1 else -1)) (x.2 * (y.1.natAbs : Int)) = fdiv x y := by
  unfold fdiv
  split
  · next q =>
    rw [show ((y.1.natAbs : Nat) : Int) = y.1 by omega]
    congr 1
    omega
  · next q =>
    rw [show ((y.1.natAbs : Nat) : Int) = -y.1 by omega]
    have := low_neg (t := x.1 * y.2) (b := x.2 * y.1) (Int.mul_ne_zero hx.ne h)
    rw [← this]
    congr 1
    · omega
    · grind
theorem flt_sub {x y : Int × Int} (hx : Fr x) (hy : Fr y) : flt x y = flt (fsub x y) (0, 1) := by
  have hp := fsub_fr hx hy
  have c : (fsub x y).1 * (x.2 * y.2) = (x.1 * y.2 - y.1 * x.2) * (fsub x y).2 := low_cross (dd hx hy)
  have k := dd0 hx hy
  have m := hp.pos
  unfold flt
  simp only [Int.mul_one, Int.zero_mul]
  generalize fsub x y = p at *
  generalize hk : x.2 * y.2 = kk at *
  generalize hd : x.1 * y.2 - y.1 * x.2 = dl at *
  rw [decide_eq_decide]
  constructor
  · intro q
    have q2 : dl < 0 := by omega
    have : dl * p.2 < 0 := Int.mul_neg_of_neg_of_pos q2 m
    rcases Int.lt_or_le p.1 0 with z | z
    · exact z
    · have := Int.mul_nonneg z (Int.le_of_lt k)
      omega
  · intro q
    have : p.1 * kk < 0 := Int.mul_neg_of_neg_of_pos q k
    rcases Int.lt_or_le dl 0 with z | z
    · omega
    · have := Int.mul_nonneg z (Int.le_of_lt m)
      omega
theorem fadd_zero {x : Int × Int} (hx : Fr x) : fadd x (0, 1) = x := by
  unfold fadd
  refine low_uniq ?_ hx ?_
  · have := hx.ne
    simp only [Int.mul_one]
    exact this
  · grind
/-! sizes -/
theorem abs_mul_lt {a b : Int} {m n : Nat} (ha : a.natAbs < 2 ^ m) (hb : b.natAbs < 2 ^ n) : (a * b).natAbs < 2 ^ (m + n) := by
  rw [Int.natAbs_mul, Nat.pow_add]
  exact Nat.mul_lt_mul'' ha hb
theorem abs_add_lt {a b : Int} {m : Nat} (ha : a.natAbs < 2 ^ m) (hb : b.natAbs < 2 ^ m) : (a + b).natAbs < 2 ^ (m + 1) := by
  rw [Nat.pow_succ]
  omega
theorem abs_sub_lt {a b : Int} {m : Nat} (ha : a.natAbs < 2 ^ m) (hb : b.natAbs < 2 ^ m) : (a - b).natAbs < 2 ^ (m + 1) := by
  rw [Nat.pow_succ]
  omega
theorem lt_up {a : Nat} {m n : Nat} (ha : a < 2 ^ m) (h : m ≤ n) : a < 2 ^ n := Nat.lt_of_lt_of_le ha (Nat.pow_le_pow_right (by decide) h)
theorem Sz.up {x : Int × Int} {m n : Nat} (h : Sz m x) (q : m ≤ n) : Sz n x := ⟨lt_up h.1 q, lt_up h.2 q⟩
theorem low_sz {t b : Int} {n : Nat} (hb : b ≠ 0) (h1 : t.natAbs < 2 ^ n) (h2 : b.natAbs < 2 ^ n) : Sz n (low t b) :=
  ⟨Nat.lt_of_le_of_lt (low_le hb).1 h1, Nat.lt_of_le_of_lt (low_le hb).2 h2⟩
theorem fadd_sz {x y : Int × Int} {m n : Nat} (hx : Fr x) (hy : Fr y) (sx : Sz m x) (sy : Sz n y) : Sz (m + n + 1) (fadd x y) := by
  refine low_sz (dd hx hy) ?_ ?_
  · refine abs_add_lt (abs_mul_lt sx.1 sy.2) ?_
    rw [Int.mul_comm]
    exact abs_mul_lt sx.2 sy.1
  · exact lt_up (abs_mul_lt sx.2 sy.2) (by omega)
theorem fsub_sz {x y : Int × Int} {m n : Nat} (hx : Fr x) (hy : Fr y) (sx : Sz m x) (sy : Sz n y) : Sz (m + n + 1) (fsub x y) := by
  refine low_sz (dd hx hy) ?_ ?_
  · refine abs_sub_lt (abs_mul_lt sx.1 sy.2) ?_
    rw [Int.mul_comm]
    exact abs_mul_lt sx.2 sy.1
  · exact lt_up (abs_mul_lt sx.2 sy.2) (by omega)
theorem fmul_sz {x y : Int × Int} {m n : Nat} (hx : Fr x) (hy : Fr y) (sx : Sz m x) (sy : Sz n y) : Sz (m + n) (fmul x y) :=
  low_sz (dd hx hy) (abs_mul_lt sx.1 sy.1) (abs_mul_lt sx.2 sy.2)
theorem fdiv_sz {x y : Int × Int} {m n : Nat} (hx : Fr x) (h : y.1 ≠ 0) (sx : Sz m x) (sy : Sz n y) : Sz (m + n) (fdiv x y) :=
  low_sz (Int.mul_ne_zero hx.ne h) (abs_mul_lt sx.1 sy.2) (abs_mul_lt sx.2 sy.1)
/-! Euclid's loop -/
theorem euclid_step {a b : Int} (h : 0 ≤ a) (hb : 0 < b) : Int.gcd b (a % b) = Int.gcd a b := by
  obtain ⟨m, rfl⟩ := Int.eq_ofNat_of_zero_le h
  obtain ⟨n, rfl⟩ := Int.eq_ofNat_of_zero_le (Int.le_of_lt hb)
  show Nat.gcd n ((m : Int) % (n : Int)).natAbs = Nat.gcd m n
  rw [← Int.natCast_emod, Int.natAbs_natCast, Nat.gcd_comm m n, Nat.gcd_rec n m, Nat.gcd_comm]
end CS
set_option Elab.async false
set_option maxRecDepth 100000
set_option maxHeartbeats 4000000
set_option linter.unusedVariables false
namespace CS
open PySem L2
theorem PE.imp {X : Cx} {e : Expr} {t t1 : TE} (h : PE X e t) (k : ∀ σ H Q, t1 σ H Q → t σ H Q) : PE X e t1 := ⟨fun pins s σ H Q I q => h.run pins s σ H Q I (k σ H Q q)⟩
/-- a fraction's tuple stands at p -/
abbrev FT (K : PySem.W.Frag) (H : Hp) (p : Addr) (x : Int × Int) : Prop := SqT K H p [.int x.1, .int x.2]
/-- slot i holds a fraction's tuple: its item 0, its item 1 -/
def tFst (K : PySem.W.Frag) (i : Nat) : TE := fun σ H Q => ∃ p x, σ[i]? = some (some (.ref p)) ∧ FT K H p x ∧ Q (.int x.1) H
def tSnd (K : PySem.W.Frag) (i : Nat) : TE := fun σ H Q => ∃ p x, σ[i]? = some (some (.ref p)) ∧ FT K H p x ∧ Q (.int x.2) H
section
variable {X : Cx}
theorem pe_fst (i : Nat) {x : Str} {pos p2 pos' : PySem.Pos} {j : Nat} (hN : X.N[i]? = some x := by rfl) (hv : Vis X.env.scope x := by first | exact Or.inl rfl | exact Or.inr (Or.inl rfl) | exact Or.inr (Or.inr rfl)) (hd : (x == ("__debug__" : Str)) = false := by decide)
    (hcd : (x == ("__classdict__" : Str)) = false := by decide) : PE X (.Subscript (.Name x pos) (.Constant (.int 0) j p2) pos') (tFst X.K i) :=
  PE.imp (pe_ix ix_tup (pe_var hN hv hd hcd) pe_int (fun _ _ => rfl)) fun σ H Q ⟨p, x, e, h, q⟩ => ⟨_, e, p, _, 0, .int x.1, rfl, rfl, h, atI_nat (j := 0) rfl, q⟩
theorem pe_snd (i : Nat) {x : Str} {pos p2 pos' : PySem.Pos} {j : Nat} (hN : X.N[i]? = some x := by rfl) (hv : Vis X.env.scope x := by first | exact Or.inl rfl | exact Or.inr (Or.inl rfl) | exact Or.inr (Or.inr rfl)) (hd : (x == ("__debug__" : Str)) = false := by decide)
    (hcd : (x == ("__classdict__" : Str)) = false := by decide) : PE X (.Subscript (.Name x pos) (.Constant (.int 1) j p2) pos') (tSnd X.K i) :=
  PE.imp (pe_ix ix_tup (pe_var hN hv hd hcd) pe_int (fun _ _ => rfl)) fun σ H Q ⟨p, x, e, h, q⟩ => ⟨_, e, p, _, 1, .int x.2, rfl, rfl, h, atI_nat (j := 1) rfl, q⟩
end
theorem cmw {a b : Int} (ha : a.natAbs < 2 ^ 1900) (hb : b.natAbs < 2 ^ 1900) : CMulW a b := wide_mul ha hb (by decide) (by decide) (by decide)
end CS
set_option maxHeartbeats 1000000
set_option linter.unusedVariables false
namespace CS
abbrev Fx := Int × Int
def lk (f : List (Int × Fx)) (k : Int) : Fx := (f.lookup k).getD (0, 1)
def ups : List (Int × Fx) → Int → Fx → List (Int × Fx)
  | [], k, x => [(k, x)]
  | (j, y) :: f, k, x => if j = k then (j, x) :: f else (j, y) :: ups f k x
def gat (f : List (Int × Fx)) (xs : List (Int × Fx)) : List (Int × Fx) := xs.foldl (fun f kx => ups f kx.1 (fadd (lk f kx.1) kx.2)) f
theorem lk_cons (j : Int) (y : Fx) (f : List (Int × Fx)) (k : Int) : lk ((j, y) :: f) k = if k = j then y else lk f k := by
  unfold lk
  rw [List.lookup_cons]
  by_cases h : k = j
  · subst h
    simp
  · have : (k == j) = false := by simpa using h
    simp [this, h]
theorem lk_ups : ∀ (f : List (Int × Fx)) (k : Int) (x : Fx) (j : Int), lk (ups f k x) j = if j = k then x else lk f j
  | [], k, x, j => by
    show lk [(k, x)] j = _
    rw [lk_cons]
  | (i, y) :: f, k, x, j => by
    show lk (if i = k then (i, x) :: f else (i, y) :: ups f k x) j = _
    by_cases h : i = k
    · subst h
      rw [if_pos rfl, lk_cons, lk_cons]
      by_cases q : j = i <;> simp [q]
    · rw [if_neg h, lk_cons, lk_cons, lk_ups f k x j]
      by_cases q : j = i
      · subst q
        simp [h]
      · simp [q]
theorem ups_keys (f : List (Int × Fx)) (k : Int) (x : Fx) : ∀ j, j ∈ (ups f k x).map (·.1) ↔ j = k ∨ j ∈ f.map (·.1) := by
  induction f with
  | nil =>
    intro j
    simp [ups]
  | cons a f ih =>
    obtain ⟨i, y⟩ := a
    intro j
    by_cases h : i = k
    · subst h
      simp [ups]
    · have := ih j
      simp [ups, h] at *
      grind
theorem ups_nodup (f : List (Int × Fx)) (k : Int) (x : Fx) (h : (f.map (·.1)).Nodup) : ((ups f k x).map (·.1)).Nodup := by
  induction f with
  | nil => simp [ups]
  | cons a f ih =>
    obtain ⟨i, y⟩ := a
    by_cases q : i = k
    · subst q
      simpa [ups] using h
    · rw [List.map_cons, List.nodup_cons] at h
      have e : ups ((i, y) :: f) k x = (i, y) :: ups f k x := by simp [ups, q]
      rw [e, List.map_cons, List.nodup_cons]
      refine ⟨fun m => ?_, ih h.2⟩
      rcases (ups_keys f k x i).mp m with z | z
      · exact q z
      · exact h.1 z
theorem ups_len (f : List (Int × Fx)) (k : Int) (x : Fx) : (ups f k x).length ≤ f.length + 1 := by
  induction f with
  | nil => simp [ups]
  | cons a f ih =>
    obtain ⟨i, y⟩ := a
    by_cases q : i = k
    · simp [ups, q]
    · simp [ups, q]; omega
/-- the strictly ascending list of what is not nought in a table -/
def IsS (f r : List (Int × Fx)) : Prop := (r.map (·.1)).Pairwise (· < ·) ∧ ∀ k x, (k, x) ∈ r ↔ (lk f k = x ∧ x ≠ (0, 1))
theorem asc_same : ∀ {r q : List (Int × Fx)}, (r.map (·.1)).Pairwise (· < ·) → (q.map (·.1)).Pairwise (· < ·) → (∀ a, a ∈ r ↔ a ∈ q) → r = q
  | [], [], _, _, _ => rfl
  | [], b :: q, _, _, h => absurd ((h b).mpr List.mem_cons_self) (by simp)
  | a :: r, [], _, _, h => absurd ((h a).mp List.mem_cons_self) (by simp)
  | a :: r, b :: q, h1, h2, h => by
    rw [List.map_cons, List.pairwise_cons] at h1 h2
    have low1 : ∀ c ∈ r, a.1 < c.1 := fun c hc => h1.1 _ (List.mem_map.mpr ⟨c, hc, rfl⟩)
    have low2 : ∀ c ∈ q, b.1 < c.1 := fun c hc => h2.1 _ (List.mem_map.mpr ⟨c, hc, rfl⟩)
    have e : a = b := by
      rcases List.mem_cons.mp ((h a).mp List.mem_cons_self) with z | z
      · exact z
      · rcases List.mem_cons.mp ((h b).mpr List.mem_cons_self) with y | y
        · exact y.symm
        · have := low1 b y
          have := low2 a z
          omega
    subst e
    have : r = q := asc_same h1.2 h2.2 fun c => by
      constructor
      · intro hc
        rcases List.mem_cons.mp ((h c).mp (List.mem_cons_of_mem _ hc)) with z | z
        · subst z
          have := low1 c hc
          omega
        · exact z
      · intro hc
        rcases List.mem_cons.mp ((h c).mpr (List.mem_cons_of_mem _ hc)) with z | z
        · subst z
          have := low2 c hc
          omega
        · exact z
    rw [this]
theorem IsS.uniq {f g r q : List (Int × Fx)} (h1 : IsS f r) (h2 : IsS g q) (h : ∀ k, lk f k = lk g k) : r = q := by
  refine asc_same h1.1 h2.1 fun ⟨k, x⟩ => ?_
  rw [h1.2 k x, h2.2 k x, h k]
theorem lk_mem {f : List (Int × Fx)} {k : Int} (h : lk f k ≠ (0, 1)) : k ∈ f.map (·.1) := by
  induction f with
  | nil => exact absurd rfl h
  | cons a f ih =>
    obtain ⟨j, y⟩ := a
    rw [lk_cons] at h
    by_cases q : k = j
    · simp [q]
    · rw [if_neg q] at h
      have := ih h
      simp at *
      grind
theorem isS_of {f : List (Int × Fx)} {ys : List Int} (hp : ys.Perm (f.map (·.1))) (hn : (f.map (·.1)).Nodup) (hs : ys.Pairwise (· ≤ ·)) : IsS f ((ys.filter fun k => decide (lk f k ≠ (0, 1))).map fun k => (k, lk f k)) := by
  have hn2 : ys.Nodup := hp.nodup_iff.mpr hn
  have hlt : ys.Pairwise (· < ·) := by
    have := List.Pairwise.and hs hn2
    refine this.imp ?_
    rintro a b ⟨h1, h2⟩
    omega
  constructor
  · rw [List.map_map]
    have : ((fun x : Int × Fx => x.1) ∘ fun k => (k, lk f k)) = id := rfl
    rw [this, List.map_id]
    exact hlt.filter _
  · intro k x
    rw [List.mem_map]
    constructor
    · rintro ⟨j, hj, e⟩
      injection e with e1 e2
      subst e1
      rw [List.mem_filter] at hj
      exact ⟨e2, by rw [← e2]; exact of_decide_eq_true hj.2⟩
    · rintro ⟨e, hx⟩
      subst e
      exact ⟨k, List.mem_filter.mpr ⟨hp.mem_iff.mpr (lk_mem hx), decide_eq_true hx⟩, rfl⟩
/-- a share's parts -/
def AllF (n : Nat) (xs : List (Int × Fx)) : Prop := ∀ a ∈ xs, Fr a.2 ∧ Sz n a.2
theorem fr01 : Fr ((0, 1) : Fx) := by decide
theorem sz01 {n : Nat} (h : 0 < n) : Sz n ((0, 1) : Fx) := ⟨Nat.two_pow_pos _, Nat.one_lt_two_pow (by omega)⟩
theorem zero_fadd {x : Fx} (hx : Fr x) : fadd (0, 1) x = x := by rw [fadd_comm, fadd_zero hx]
theorem lk_fr {n : Nat} {f : List (Int × Fx)} (h : AllF n f) (h0 : 0 < n) (k : Int) : Fr (lk f k) ∧ Sz n (lk f k) := by
  induction f with
  | nil => exact ⟨fr01, sz01 h0⟩
  | cons a f ih =>
    obtain ⟨j, y⟩ := a
    rw [lk_cons]
    by_cases q : k = j
    · rw [if_pos q]
      exact h _ List.mem_cons_self
    · rw [if_neg q]
      exact ih fun b hb => h b (List.mem_cons_of_mem _ hb)
theorem lk_gat : ∀ (xs f : List (Int × Fx)) (j : Int), lk (gat f xs) j = xs.foldl (fun a kx => if j = kx.1 then fadd a kx.2 else a) (lk f j)
  | [], f, j => rfl
  | (k, x) :: xs, f, j => by
    show lk (gat (ups f k (fadd (lk f k) x)) xs) j = xs.foldl _ _
    rw [lk_gat xs, lk_ups]
    by_cases h : j = k
    · subst h
      simp
    · simp [h]
theorem gat_nodup : ∀ (xs f : List (Int × Fx)), (f.map (·.1)).Nodup → ((gat f xs).map (·.1)).Nodup
  | [], _, h => h
  | (k, x) :: xs, f, h => gat_nodup xs _ (ups_nodup f k _ h)
theorem gat_len : ∀ (xs f : List (Int × Fx)), (gat f xs).length ≤ f.length + xs.length
  | [], _ => Nat.le_refl _
  | (k, x) :: xs, f => by
    have h1 := gat_len xs (ups f k (fadd (lk f k) x))
    have h2 := ups_len f k (fadd (lk f k) x)
    show (gat (ups f k (fadd (lk f k) x)) xs).length ≤ _
    rw [List.length_cons]
    omega
theorem fold_none : ∀ (xs : List (Int × Fx)) (j : Int) (a : Fx), j ∉ xs.map (·.1) → xs.foldl (fun a kx => if j = kx.1 then fadd a kx.2 else a) a = a
  | [], _, _, _ => rfl
  | (k, x) :: xs, j, a, h => by
    simp only [List.map_cons, List.mem_cons, not_or] at h
    show xs.foldl _ (if j = k then fadd a x else a) = a
    rw [if_neg h.1]
    exact fold_none xs j a h.2
theorem lk_none {xs : List (Int × Fx)} {j : Int} (h : j ∉ xs.map (·.1)) : lk xs j = (0, 1) := by
  by_cases q : lk xs j = (0, 1)
  · exact q
  · exact absurd (lk_mem q) h
/-- one more share gathered: each key's sum -/
theorem fold_nodup : ∀ (xs : List (Int × Fx)) (j : Int) (a : Fx), Fr a → (xs.map (·.1)).Nodup → xs.foldl (fun a kx => if j = kx.1 then fadd a kx.2 else a) a = fadd a (lk xs j)
  | [], j, a, ha, _ => (fadd_zero ha).symm
  | (k, x) :: xs, j, a, ha, hn => by
    simp only [List.map_cons, List.nodup_cons] at hn
    show xs.foldl _ (if j = k then fadd a x else a) = _
    rw [lk_cons]
    by_cases h : j = k
    · subst h
      rw [if_pos rfl, if_pos rfl]
      exact fold_none xs j _ hn.1
    · rw [if_neg h, if_neg h]
      exact fold_nodup xs j a ha hn.2
theorem lk_gat_nodup {xs f : List (Int × Fx)} {n : Nat} (hf : AllF n f) (h0 : 0 < n) (hn : (xs.map (·.1)).Nodup) (j : Int) : lk (gat f xs) j = fadd (lk f j) (lk xs j) := by
  rw [lk_gat, fold_nodup xs j _ (lk_fr hf h0 j).1 hn]
/-! sums -/
def fsum (l : List Fx) : Fx := l.foldl fadd (0, 1)
def scl (x : Fx) (k : Int) : Fx := low (x.1 * k) x.2
theorem scl_fr {x : Fx} (h : Fr x) (k : Int) : Fr (scl x k) := low_fr h.ne
theorem scl_sz {x : Fx} {n m : Nat} {k : Int} (h : Fr x) (z : Sz n x) (hk : k.natAbs < 2 ^ m) : Sz (n + m) (scl x k) :=
  low_sz h.ne (abs_mul_lt z.1 hk) (lt_up z.2 (by omega))
theorem scl_mul (x : Fx) (k : Int) : fmul x (k, 1) = scl x k := by
  unfold fmul scl
  simp only [Int.mul_one]
theorem fold_fr : ∀ (l : List Fx) (a : Fx), Fr a → (∀ x ∈ l, Fr x) → Fr (l.foldl fadd a)
  | [], _, h, _ => h
  | x :: l, a, h, g => fold_fr l _ (fadd_fr h (g x List.mem_cons_self)) fun y hy => g y (List.mem_cons_of_mem _ hy)
theorem fold_sz (n : Nat) : ∀ (l : List Fx) (a : Fx) (m : Nat), Fr a → Sz m a → (∀ x ∈ l, Fr x ∧ Sz n x) → Sz (m + l.length * (n + 1)) (l.foldl fadd a)
  | [], a, m, _, z, _ => z.up (by simp)
  | x :: l, a, m, h, z, g => by
    have hx := g x List.mem_cons_self
    have := fold_sz n l (fadd a x) (m + n + 1) (fadd_fr h hx.1) (fadd_sz h hx.1 z hx.2) fun y hy => g y (List.mem_cons_of_mem _ hy)
    refine this.up ?_
    rw [List.length_cons, Nat.succ_mul]
    omega
end CS
namespace CS
def ftot (xs : List (Int × Fx)) : Fx := fsum (xs.map (·.2))
def fmom (xs : List (Int × Fx)) : Fx := fsum (xs.map fun a => scl a.2 a.1)
def frest (xs : List (Int × Fx)) (k : Int) : Fx := fsum ((xs.filter fun a => decide (k < a.1)).map fun a => scl a.2 (a.1 - k))
end CS
namespace CS
theorem cfold_fr (j : Int) : ∀ (xs : List (Int × Fx)) (a : Fx), Fr a → (∀ x ∈ xs, Fr x.2) → Fr (xs.foldl (fun a kx => if j = kx.1 then fadd a kx.2 else a) a)
  | [], a, h, _ => h
  | x :: l, a, h, g => by
    refine cfold_fr j l _ ?_ fun y hy => g y (List.mem_cons_of_mem _ hy)
    show Fr (if j = x.1 then fadd a x.2 else a)
    split
    · exact fadd_fr h (g x List.mem_cons_self)
    · exact h
theorem cfold_sz (n : Nat) (j : Int) : ∀ (xs : List (Int × Fx)) (a : Fx) (m : Nat), Fr a → Sz m a → (∀ x ∈ xs, Fr x.2 ∧ Sz n x.2) → Sz (m + xs.length * (n + 1)) (xs.foldl (fun a kx => if j = kx.1 then fadd a kx.2 else a) a)
  | [], a, m, _, z, _ => z.up (by simp)
  | x :: l, a, m, h, z, g => by
    have hx := g x List.mem_cons_self
    have h2 : Fr (if j = x.1 then fadd a x.2 else a) ∧ Sz (m + n + 1) (if j = x.1 then fadd a x.2 else a) := by
      split
      · exact ⟨fadd_fr h hx.1, fadd_sz h hx.1 z hx.2⟩
      · exact ⟨h, z.up (by omega)⟩
    have := cfold_sz n j l _ (m + n + 1) h2.1 h2.2 fun y hy => g y (List.mem_cons_of_mem _ hy)
    refine this.up ?_
    rw [List.length_cons, Nat.succ_mul]
    omega
theorem gat_fr {n : Nat} {xs : List (Int × Fx)} (h : AllF n xs) (j : Int) : Fr (lk (gat [] xs) j) := by
  rw [lk_gat]
  exact cfold_fr j xs _ fr01 fun x hx => (h x hx).1
theorem gat_sz {n : Nat} {xs : List (Int × Fx)} (h : AllF n xs) (j : Int) : Sz (1 + xs.length * (n + 1)) (lk (gat [] xs) j) := by
  rw [lk_gat]
  exact cfold_sz n j xs _ 1 fr01 (sz01 (by decide)) h
theorem gat_snoc (xs : List (Int × Fx)) (f : List (Int × Fx)) (a : Int × Fx) : gat f (xs ++ [a]) = ups (gat f xs) a.1 (fadd (lk (gat f xs) a.1) a.2) := by
  unfold gat
  rw [List.foldl_append]
  rfl
theorem AllF.take {n i : Nat} {xs : List (Int × Fx)} (h : AllF n xs) : AllF n (xs.take i) := fun a ha => h a (List.mem_of_mem_take ha)
/-- what a share is -/
def Shr (xs : List (Int × Fx)) : Prop := xs.length ≤ 8 ∧ (∀ a ∈ xs, -100 ≤ a.1 ∧ a.1 ≤ 100 ∧ Fr a.2 ∧ 0 < a.2.1) ∧ (xs.map (·.1)).Pairwise (· < ·)
instance (xs : List (Int × Fx)) : Decidable (Shr xs) := by unfold Shr; infer_instance
theorem asc_zip : ∀ (ns : List Int), (List.zipWith (fun a b => decide (a < b)) ns (ns.drop 1)).all id = decide (ns.Pairwise (· < ·))
  | [] => by simp
  | [a] => by simp
  | a :: b :: ns => by
    have ih := asc_zip (b :: ns)
    simp only [List.drop_succ_cons, List.drop_zero] at *
    rw [List.zipWith_cons_cons, List.all_cons, ih, Bool.eq_iff_iff]
    simp only [id, Bool.and_eq_true, decide_eq_true_eq, List.pairwise_cons]
    constructor
    · rintro ⟨h1, h2, h3⟩
      refine ⟨?_, h2, h3⟩
      intro c hc
      rcases List.mem_cons.mp hc with q | q
      · omega
      · have := h2 c q
        omega
    · rintro ⟨h1, h2⟩
      exact ⟨h1 b List.mem_cons_self, h2⟩
end CS
set_option Elab.async false
set_option maxRecDepth 100000
set_option maxHeartbeats 4000000
set_option linter.unusedVariables false
namespace CS
open PySem L2
/-- a def of the text, how its arguments bind, where its name leads -/
structure Df (K : PySem.W.Frag) (mg : Str → Option Value) (x : Str) (st : Stmt) (ps : List Str) (f : Addr) (fd : FuncData) : Prop where
  F : Fun K x x st f fd
  b : Binds K fd ps []
  g : mg x = some (.ref f)
/-- what the walk asks of the module's names -/
structure Bt (mg : Str → Option Value) : Prop where
  isinstance : mg "isinstance" = none
  int : mg "int" = none
  tuple : mg "tuple" = none
  len : mg "len" = none
  abs : mg "abs" = none
  range : mg "range" = none
  list : mg "list" = none
  sorted : mg "sorted" = none
  zip : mg "zip" = none
  all : mg "all" = none
  dict : mg "dict" = none
end CS
namespace L2
open PySem
theorem Same.tup {K : PySem.W.Frag} {H H' : Hp} {a : Addr} {xs : List V} (e : Same H H') (h : SqT K H a xs) : SqT K H' a xs := by
  rcases h with (h | ⟨o, h⟩) | h
  · exact .inl (.inl (e _ _ h))
  · exact .inl (.inr ⟨o, e _ _ h⟩)
  · exact .inr h
theorem Same.new {H : Hp} {p : Addr} {o : HO} (h : H p = none) : Same H (upd H p o) := fun b u e => by
  rw [upd_ne (ne_of_none e h)]
  exact e
end L2
namespace CS
open PySem L2
/-! promises -/
def spLow : Sp := fun vs H Q _ => ∃ t b : Int, vs = [.int t, .int b] ∧ b ≠ 0 ∧ t.natAbs < 2 ^ 4000 ∧ b.natAbs < 2 ^ 4000 ∧
  ∀ p, H p = none → Q (.ref p) (upd H p (.tup [.int (low t b).1, .int (low t b).2]))
/-- two fractions in, a new one out -/
def spF2 (K : PySem.W.Frag) (ok : Int × Int → Int × Int → Prop) (f : Int × Int → Int × Int → Int × Int) : Sp := fun vs H Q _ => ∃ p q x y, vs = [.ref p, .ref q] ∧ FT K H p x ∧ FT K H q y ∧ Fr x ∧ Fr y ∧ Sz 1900 x ∧ Sz 1900 y ∧ ok x y ∧
  ∀ r, H r = none → Q (.ref r) (upd H r (.tup [.int (f x y).1, .int (f x y).2]))
def spB2 (K : PySem.W.Frag) (f : Int × Int → Int × Int → Bool) : Sp := fun vs H Q _ => ∃ p q x y, vs = [.ref p, .ref q] ∧ FT K H p x ∧ FT K H q y ∧ Fr x ∧ Fr y ∧ Sz 1900 x ∧ Sz 1900 y ∧ Q (.bl (f x y)) H
def spWhole (K : PySem.W.Frag) : Sp := fun vs H Q _ => ∃ i : Int, vs = [.int i] ∧ Q (.bl true) H
def spRow (K : PySem.W.Frag) : Sp := fun vs H Q _ => ∃ p xs, vs = [.ref p] ∧ SqT K H p xs ∧ Q (.bl true) H
def spRowOf (K : PySem.W.Frag) : Sp := fun vs H Q _ => ∃ p xs n, vs = [.ref p, .int n] ∧ SqT K H p xs ∧ Q (.bl (decide ((xs.length : Int) = n))) H
def spIsFr (K : PySem.W.Frag) : Sp := fun vs H Q _ => ∃ p x, vs = [.ref p] ∧ FT K H p x ∧ Q (.bl (decide (Fr x))) H
def spNeedFr (K : PySem.W.Frag) : Sp := fun vs H Q _ => ∃ p x, vs = [.ref p] ∧ FT K H p x ∧ Fr x ∧ Q (.ref p) H

end CS
namespace CS
open PySem L2
/-- the pairs of a state of draws -/
def stD (c l : Addr) (k : Int) : List (Key × V) := [(Sum.inr "cells", .ref c), (Sum.inr "lefts", .ref l), (Sum.inr "at", .int k), (Sum.inr "room", .int 0)]
theorem kn1 : ¬ (("cells" : Str) = "lefts") := by decide +kernel
theorem kn2 : ¬ (("cells" : Str) = "at") := by decide +kernel
theorem kn3 : ¬ (("cells" : Str) = "room") := by decide +kernel
theorem kn4 : ¬ (("lefts" : Str) = "at") := by decide +kernel
theorem kn5 : ¬ (("lefts" : Str) = "room") := by decide +kernel
theorem kn6 : ¬ (("at" : Str) = "room") := by decide +kernel
theorem kn7 : ¬ (("room" : Str) = "at") := by decide +kernel
theorem stD_cells (c l : Addr) (k : Int) : valV (stD c l k) (Sum.inr ("cells" : Str)) = some (.ref c) := valV_pos rfl
theorem stD_lefts (c l : Addr) (k : Int) : valV (stD c l k) (Sum.inr ("lefts" : Str)) = some (.ref l) := by
  simp [stD, valV, List.find?_cons, kn1]
theorem stD_at (c l : Addr) (k : Int) : valV (stD c l k) (Sum.inr ("at" : Str)) = some (.int k) := by
  simp [stD, valV, List.find?_cons, kn2, kn4]
theorem stD_put (c l : Addr) (k k' : Int) : putK (stD c l k) (Sum.inr ("at" : Str)) (.int k') = stD c l k' := by
  simp [stD, putK, kn2, kn4, kn7]
theorem stD_make (c l : Addr) : mergeK [] [((Sum.inr ("cells" : Str) : Key), V.ref c), (Sum.inr ("lefts" : Str), .ref l), (Sum.inr ("at" : Str), .int 0), (Sum.inr ("room" : Str), .int 0)] = stD c l 0 := by
  simp [mergeK, putK, stD, kn1, kn2, kn3, kn4, kn5, kn6]
/-- a state of draws, k of them done -/
structure StAt (H : Hp) (d c l : Addr) (k : Nat) : Prop where
  hd : H d = some (.dK (stD c l k))
  ne : c ≠ l
  ex : ∃ cs ls : List Int, H c = some (.lst (cs.map V.int)) ∧ H l = some (.lst (ls.map V.int)) ∧ cs.length = ls.length ∧ 0 < cs.length ∧ cs.length ≤ 64 ∧ ∀ v ∈ ls, 0 ≤ v
/-- what does not belong to the state is as it was -/
def Fm (d l : Addr) (H H' : Hp) : Prop := ∀ b o, H b = some o → b ≠ d → b ≠ l → H' b = some o
theorem Fm.refl (d l : Addr) (H : Hp) : Fm d l H H := fun _ _ e _ _ => e
theorem Fm.trans {d l : Addr} {H H1 H2 : Hp} (a : Fm d l H H1) (b : Fm d l H1 H2) : Fm d l H H2 := fun c o h n m => b c o (a c o h n m) n m
theorem Fm.same {d l : Addr} {H H1 H2 : Hp} (a : Fm d l H H1) (b : Same H1 H2) : Fm d l H H2 := fun c o h n m => b c o (a c o h n m)
theorem same_fm {d l : Addr} {H H1 : Hp} (a : Same H H1) : Fm d l H H1 := fun c o h _ _ => a c o h
theorem StAt.same {H H' : Hp} {d c l : Addr} {k : Nat} (S : StAt H d c l k) (e : Same H H') : StAt H' d c l k := by
  obtain ⟨hd, ne, cs, ls, h1, h2, r⟩ := S
  exact ⟨e _ _ hd, ne, cs, ls, e _ _ h1, e _ _ h2, r⟩
/-- a tuple that stood stands -/
theorem Fm.tup {K : PySem.W.Frag} {H H' : Hp} {d c l p : Addr} {k : Nat} {xs : List V} (e : Fm d l H H') (S : StAt H d c l k) (h : SqT K H p xs) : SqT K H' p xs := by
  obtain ⟨hd, ne, cs, ls, h1, h2, r⟩ := S
  rcases h with (h | ⟨o, h⟩) | h
  · exact .inl (.inl (e _ _ h (fun q => by subst q; rw [hd] at h; cases h) (fun q => by subst q; rw [h2] at h; cases h)))
  · exact .inl (.inr ⟨o, e _ _ h (fun q => by subst q; rw [hd] at h; cases h) (fun q => by subst q; rw [h2] at h; cases h)⟩)
  · exact .inr h
def spMixed : Sp := fun vs H Q _ => ∃ c k : Int, vs = [.int c, .int k] ∧ 0 ≤ k ∧ k ≤ 1000000 ∧ ∀ r : Int, 0 ≤ r → r < 2147483629 → Q (.int r) H
def spBegin (K : PySem.W.Frag) : Sp := fun vs H Q _ => ∃ (a : Addr) (ns : List Int), vs = [.ref a] ∧ SqL K H a (ns.map V.int) ∧ ns.length ≤ 63 ∧ ∀ d c l H', H d = none → Same H H' → StAt H' d c l 0 → Q (.ref d) H'
def spDraw : Sp := fun vs H Q _ => ∃ (d c l : Addr) (k : Nat) (m : Int), vs = [.ref d, .int m] ∧ StAt H d c l k ∧ 0 < m ∧ m.natAbs < 2 ^ 200 ∧ k ≤ 100000 ∧ ∀ r H', 0 ≤ r → r < m → StAt H' d c l (k + 1) → Fm d l H H' → Q (.int r) H'

end CS
namespace CS
open PySem L2
def spLowP : Sp := fun vs H Q _ => ∃ t b : Int, vs = [.int t, .int b] ∧ 0 < b ∧ t.natAbs < 2 ^ 4000 ∧ b.natAbs < 2 ^ 4000 ∧
  ∀ p, H p = none → Q (.ref p) (upd H p (.tup [.int (low t b).1, .int (low t b).2]))
def spDrawn (K : PySem.W.Frag) : Sp := fun vs H Q _ => ∃ (d c l : Addr) (k : Nat), vs = [.ref d] ∧ StAt H d c l k ∧ k ≤ 90000 ∧
  ∀ p H' x, Fr x → Sz 70 x → StAt H' d c l (k + 3) → Fm d l H H' → FT K H' p x → Q (.ref p) H'

end CS
namespace CS
open PySem L2
section
variable {K : PySem.W.Frag}
theorem eqv2 (x : Int × Int) : PyData.eqv (.tuple [.int x.1, .int x.2]) (.tuple [.int x.1, .int x.2]) = true := by
  simp [PyData.eqv, PyData.eqvAll]
theorem ne_same {H : Hp} {p q : Addr} {x y : Int × Int} {Q : VK} (hp : FT K H p x) (hq : FT K H q y) (e : x = y) (h : Q (.bl false) H) : rNeD K (.ref p) (.ref q) H Q := by
  subst e
  refine ⟨.tuple [.int x.1, .int x.2], .tuple [.int x.1, .int x.2], .tup hp (.cons (.int _) (.cons (.int _) .nil)), .tup hq (.cons (.int _) (.cons (.int _) .nil)), rfl, rfl, ?_⟩
  rw [eqv2]
  exact h
theorem eq_same {H : Hp} {p q : Addr} {x y : Int × Int} {Q : VK} (hp : FT K H p x) (hq : FT K H q y) (e : x = y) (h : Q (.bl true) H) : rEqD K (.ref p) (.ref q) H Q := by
  subst e
  refine ⟨.tuple [.int x.1, .int x.2], .tuple [.int x.1, .int x.2], .tup hp (.cons (.int _) (.cons (.int _) .nil)), .tup hq (.cons (.int _) (.cons (.int _) .nil)), rfl, rfl, ?_⟩
  rw [eqv2]
  exact h
theorem FT.new {H : Hp} {r : Addr} {x : Int × Int} : FT K (upd H r (.tup [.int x.1, .int x.2])) r x := SqT.of upd_same
theorem abs_if (z : Int) : (if z < 0 then -z else z) = ((z.natAbs : Nat) : Int) := by split <;> omega
end
/-! shares in the heap -/
/-- refs to pairs of a number and a fraction -/
inductive PrsAt (K : PySem.W.Frag) (H : Hp) : List V → List (Int × Fx) → Prop where
  | nil : PrsAt K H [] []
  | cons {q r : Addr} {m : Int} {x : Fx} {vs : List V} {xs : List (Int × Fx)} (h1 : SqT K H q [.int m, .ref r]) (h2 : FT K H r x) (h3 : PrsAt K H vs xs) : PrsAt K H (.ref q :: vs) ((m, x) :: xs)
def ShAt (K : PySem.W.Frag) (H : Hp) (p : Addr) (xs : List (Int × Fx)) : Prop := ∃ vs, SqT K H p vs ∧ PrsAt K H vs xs
/-- refs to fractions -/
inductive FsAt (K : PySem.W.Frag) (H : Hp) : List V → List Fx → Prop where
  | nil : FsAt K H [] []
  | cons {r : Addr} {x : Fx} {vs : List V} {xs : List Fx} (h2 : FT K H r x) (h3 : FsAt K H vs xs) : FsAt K H (.ref r :: vs) (x :: xs)
section
variable {K : PySem.W.Frag} {H H' : Hp}
/-- what keeps tuples -/
def TK (K : PySem.W.Frag) (H H' : Hp) : Prop := ∀ (p : Addr) (xs : List V), SqT K H p xs → SqT K H' p xs
theorem tk_same (e : Same H H') : TK K H H' := fun _ _ h => e.tup h
theorem tk_fm {d c l : Addr} {k : Nat} (e : Fm d l H H') (S : StAt H d c l k) : TK K H H' := fun _ _ h => e.tup S h
theorem TK.trans {H1 : Hp} (a : TK K H H1) (b : TK K H1 H') : TK K H H' := fun p xs h => b p xs (a p xs h)
theorem PrsAt.tk (e : TK K H H') : ∀ {vs : List V} {xs : List (Int × Fx)}, PrsAt K H vs xs → PrsAt K H' vs xs
  | _, _, .nil => .nil
  | _, _, .cons a b c => .cons (e _ _ a) (e _ _ b) (PrsAt.tk e c)
theorem ShAt.tk {p : Addr} {xs : List (Int × Fx)} (e : TK K H H') (h : ShAt K H p xs) : ShAt K H' p xs := by
  obtain ⟨vs, a, b⟩ := h
  exact ⟨vs, e _ _ a, b.tk e⟩
theorem FsAt.tk (e : TK K H H') : ∀ {vs : List V} {xs : List Fx}, FsAt K H vs xs → FsAt K H' vs xs
  | _, _, .nil => .nil
  | _, _, .cons a b => .cons (e _ _ a) (FsAt.tk e b)
theorem PrsAt.len : ∀ {vs : List V} {xs : List (Int × Fx)}, PrsAt K H vs xs → vs.length = xs.length
  | _, _, .nil => rfl
  | _, _, .cons _ _ c => by simp [c.len]
theorem FsAt.len : ∀ {vs : List V} {xs : List Fx}, FsAt K H vs xs → vs.length = xs.length
  | _, _, .nil => rfl
  | _, _, .cons _ c => by simp [c.len]
theorem PrsAt.get : ∀ {vs : List V} {xs : List (Int × Fx)} {i : Nat} {v : V}, PrsAt K H vs xs → vs[i]? = some v → ∃ q r m x, v = .ref q ∧ xs[i]? = some (m, x) ∧ SqT K H q [.int m, .ref r] ∧ FT K H r x
  | _, _, 0, _, .cons a b c, e => by
    cases e
    exact ⟨_, _, _, _, rfl, rfl, a, b⟩
  | _, _, i + 1, _, .cons a b c, e => by
    obtain ⟨q, r, m, x, h1, h2, h3, h4⟩ := PrsAt.get c (by simpa using e)
    exact ⟨q, r, m, x, h1, by simpa using h2, h3, h4⟩
theorem FsAt.get : ∀ {vs : List V} {xs : List Fx} {i : Nat} {v : V}, FsAt K H vs xs → vs[i]? = some v → ∃ r x, v = .ref r ∧ xs[i]? = some x ∧ FT K H r x
  | _, _, 0, _, .cons a b, e => by
    cases e
    exact ⟨_, _, rfl, rfl, a⟩
  | _, _, i + 1, _, .cons a c, e => by
    obtain ⟨r, x, h1, h2, h4⟩ := FsAt.get c (by simpa using e)
    exact ⟨r, x, h1, by simpa using h2, h4⟩
theorem PrsAt.app {vs ws : List V} {xs ys : List (Int × Fx)} (a : PrsAt K H vs xs) (b : PrsAt K H ws ys) : PrsAt K H (vs ++ ws) (xs ++ ys) := by
  induction a with
  | nil => exact b
  | cons h1 h2 h3 ih => exact .cons h1 h2 ih
theorem FsAt.app {vs ws : List V} {xs ys : List Fx} (a : FsAt K H vs xs) (b : FsAt K H ws ys) : FsAt K H (vs ++ ws) (xs ++ ys) := by
  induction a with
  | nil => exact b
  | cons h1 h3 ih => exact .cons h1 ih
/-! shares as data -/
def prD (a : Int × Fx) : PyData := .tuple [.int a.1, .tuple [.int a.2.1, .int a.2.2]]
def shD (xs : List (Int × Fx)) : PyData := .tuple (xs.map prD)
theorem PrsAt.dp : ∀ {vs : List V} {xs : List (Int × Fx)}, PrsAt K H vs xs → DpAll K H vs (xs.map prD)
  | _, _, .nil => .nil
  | _, _, .cons a b c => .cons (.tup a (.cons (.int _) (.cons (.tup b (.cons (.int _) (.cons (.int _) .nil))) .nil))) c.dp
theorem ShAt.dp {p : Addr} {xs : List (Int × Fx)} (h : ShAt K H p xs) : Dp K H (.ref p) (shD xs) := by
  obtain ⟨vs, a, b⟩ := h
  exact .tup a b.dp
theorem cl1 : ∀ xs : List (Int × Fx), PyData.canLayAll0 (xs.map prD) = true
  | [] => rfl
  | n :: ns => by
    show (PyData.canLay0 (prD n) && PyData.canLayAll0 (ns.map prD)) = true
    rw [cl1 ns]
    rfl
theorem dp1 : ∀ xs : List (Int × Fx), PyData.depthAll (xs.map prD) ≤ 2
  | [] => by decide
  | n :: ns => by
    have := dp1 ns
    simp [PyData.depthAll, PyData.depth, prD] at *
    omega
theorem shShaped (xs : List (Int × Fx)) : SeqAt.shaped (shD xs) = true := by
  have h1 := cl1 xs
  have h2 := dp1 xs
  simp [SeqAt.shaped, PyData.canLay0, PyData.depth, h1, shD]
  omega
theorem eqvPr (a b : Int × Fx) : PyData.eqv (prD a) (prD b) = decide (a = b) := by
  obtain ⟨m, x, y⟩ := a
  obtain ⟨n, z, w⟩ := b
  simp only [prD, PyData.eqv, PyData.eqvAll, Bool.and_true]
  by_cases h1 : m = n <;> by_cases h2 : x = z <;> by_cases h3 : y = w <;> simp [h1, h2, h3]
theorem eqvPrs : ∀ xs ys : List (Int × Fx), PyData.eqvAll (xs.map prD) (ys.map prD) = decide (xs = ys)
  | [], [] => by simp [PyData.eqvAll]
  | [], _ :: _ => by simp [PyData.eqvAll]
  | _ :: _, [] => by simp [PyData.eqvAll]
  | a :: xs, b :: ys => by
    simp only [List.map_cons, PyData.eqvAll, eqvPr, eqvPrs xs ys]
    by_cases h1 : a = b <;> by_cases h2 : xs = ys <;> simp [h1, h2]
theorem eqvSh (xs ys : List (Int × Fx)) : PyData.eqv (shD xs) (shD ys) = decide (xs = ys) := eqvPrs xs ys
theorem shNe {p q : Addr} {xs ys : List (Int × Fx)} {Q : VK} (hp : ShAt K H p xs) (hq : ShAt K H q ys) (h : Q (.bl (!decide (xs = ys))) H) : rNeD K (.ref p) (.ref q) H Q :=
  ⟨shD xs, shD ys, hp.dp, hq.dp, shShaped _, shShaped _, by rw [eqvSh]; exact h⟩
theorem shEq {p q : Addr} {xs ys : List (Int × Fx)} {Q : VK} (hp : ShAt K H p xs) (hq : ShAt K H q ys) (h : Q (.bl (decide (xs = ys))) H) : rEqD K (.ref p) (.ref q) H Q :=
  ⟨shD xs, shD ys, hp.dp, hq.dp, shShaped _, shShaped _, by rw [eqvSh]; exact h⟩
theorem eqvF (x y : Fx) : PyData.eqv (.tuple [.int x.1, .int x.2]) (.tuple [.int y.1, .int y.2]) = decide (x = y) := by
  obtain ⟨a, b⟩ := x
  obtain ⟨c, d⟩ := y
  simp only [PyData.eqv, PyData.eqvAll, Bool.and_true]
  by_cases h1 : a = c <;> by_cases h2 : b = d <;> simp [h1, h2]
def frD (x : Fx) : PyData := .tuple [.int x.1, .int x.2]
theorem ftDp {p : Addr} {x : Fx} (h : FT K H p x) : Dp K H (.ref p) (frD x) := .tup h (.cons (.int _) (.cons (.int _) .nil))
theorem eqvFr (x y : Fx) : PyData.eqv (frD x) (frD y) = decide (x = y) := eqvF x y
theorem ftNe {p q : Addr} {x y : Fx} {Q : VK} (hp : FT K H p x) (hq : FT K H q y) (h : Q (.bl (!decide (x = y))) H) : rNeD K (.ref p) (.ref q) H Q :=
  ⟨.tuple [.int x.1, .int x.2], .tuple [.int y.1, .int y.2], .tup hp (.cons (.int _) (.cons (.int _) .nil)), .tup hq (.cons (.int _) (.cons (.int _) .nil)), rfl, rfl, by rw [eqvF]; exact h⟩
/-! tables from numbers to fractions -/
inductive DPr (K : PySem.W.Frag) (H : Hp) : List (Key × V) → List (Int × Fx) → Prop where
  | nil : DPr K H [] []
  | cons {k : Int} {r : Addr} {x : Fx} {kvs : List (Key × V)} {f : List (Int × Fx)} (h : FT K H r x) (t : DPr K H kvs f) : DPr K H ((Sum.inl k, .ref r) :: kvs) ((k, x) :: f)
theorem DPr.tk (e : TK K H H') : ∀ {kvs : List (Key × V)} {f : List (Int × Fx)}, DPr K H kvs f → DPr K H' kvs f
  | _, _, .nil => .nil
  | _, _, .cons a b => .cons (e _ _ a) (DPr.tk e b)
theorem DPr.keys : ∀ {kvs : List (Key × V)} {f : List (Int × Fx)}, DPr K H kvs f → kvs.map (·.1) = (f.map (·.1)).map Sum.inl
  | _, _, .nil => rfl
  | _, _, .cons _ b => by simp [b.keys]
theorem DPr.len {kvs : List (Key × V)} {f : List (Int × Fx)} (h : DPr K H kvs f) : kvs.length = f.length := by
  have := congrArg List.length h.keys
  simpa using this
theorem DPr.val : ∀ {kvs : List (Key × V)} {f : List (Int × Fx)}, DPr K H kvs f → ∀ k : Int, k ∈ f.map (·.1) → ∃ r, valV kvs (Sum.inl k : Key) = some (.ref r) ∧ FT K H r (lk f k)
  | _, _, .nil, k, hm => by cases hm
  | _, _, @DPr.cons _ _ j r x kvs f a b, k, hm => by
    by_cases h : k = j
    · subst h
      refine ⟨r, valV_pos rfl, ?_⟩
      rw [lk_cons, if_pos rfl]
      exact a
    · have hm2 : k ∈ f.map (·.1) := by
        simp only [List.map_cons, List.mem_cons] at hm
        rcases hm with q | q
        · exact absurd q h
        · exact q
      obtain ⟨r', h1, h2⟩ := b.val k hm2
      refine ⟨r', ?_, ?_⟩
      · rw [valV_neg (by intro z; exact h (Sum.inl.inj z).symm)]
        exact h1
      · rw [lk_cons, if_neg h]
        exact h2
theorem DPr.non : ∀ {kvs : List (Key × V)} {f : List (Int × Fx)}, DPr K H kvs f → ∀ k : Int, k ∉ f.map (·.1) → valV kvs (Sum.inl k : Key) = none
  | _, _, .nil, k, hm => rfl
  | _, _, @DPr.cons _ _ j r x kvs f a b, k, hm => by
    simp only [List.map_cons, List.mem_cons, not_or] at hm
    rw [valV_neg (by intro z; exact hm.1 (Sum.inl.inj z).symm)]
    exact b.non k hm.2
theorem putK_c1 {k : Key} {u v : V} {kvs : List (Key × V)} (hn : ∀ p ∈ kvs, p.1 ≠ k) : putK ((k, u) :: kvs) k v = (k, v) :: kvs := by
  unfold putK
  have : (((k, u) :: kvs).any fun kv => decide (kv.1 = k)) = true := by simp
  rw [if_pos this]
  simp only [List.map_cons, if_pos]
  congr 1
  conv => rhs; rw [← List.map_id kvs]
  apply List.map_congr_left
  intro p hp
  simp [hn p hp]
theorem putK_c2 {j k : Key} {u v : V} {kvs : List (Key × V)} (h : j ≠ k) : putK ((j, u) :: kvs) k v = (j, u) :: putK kvs k v := by
  unfold putK
  by_cases q : (kvs.any fun kv => decide (kv.1 = k)) = true
  · have : (((j, u) :: kvs).any fun kv => decide (kv.1 = k)) = true := by simp only [List.any_cons, q, Bool.or_true]
    rw [if_pos this, if_pos q]
    simp [h]
  · have : ¬ (((j, u) :: kvs).any fun kv => decide (kv.1 = k)) = true := by
      simp only [List.any_cons, Bool.or_eq_true, not_or]
      exact ⟨by simp [h], q⟩
    rw [if_neg this, if_neg q]
    rfl
theorem DPr.put {kvs : List (Key × V)} {f : List (Int × Fx)} (h : DPr K H kvs f) (hn : (f.map (·.1)).Nodup) {k : Int} {r : Addr} {x : Fx} (hr : FT K H r x) : DPr K H (putK kvs (Sum.inl k : Key) (.ref r)) (ups f k x) := by
  induction h with
  | nil =>
    show DPr K H [(Sum.inl k, .ref r)] [(k, x)]
    exact .cons hr .nil
  | @cons j r' y kvs f a b ih =>
    rw [List.map_cons, List.nodup_cons] at hn
    by_cases q : j = k
    · subst q
      rw [putK_c1 (by
        intro p hp e
        have : p.1 ∈ kvs.map (·.1) := List.mem_map.mpr ⟨p, hp, rfl⟩
        rw [b.keys, e] at this
        obtain ⟨z, hz, ez⟩ := List.mem_map.mp this
        exact hn.1 ((Sum.inl.inj ez) ▸ hz))]
      have : ups ((j, y) :: f) j x = (j, x) :: f := by simp [ups]
      rw [this]
      exact .cons hr b
    · rw [putK_c2 (by intro z; exact q (Sum.inl.inj z))]
      have : ups ((j, y) :: f) k x = (j, y) :: ups f k x := by simp [ups, q]
      rw [this]
      exact .cons a (ih hn.2)
end
section
variable {K : PySem.W.Frag} {H H4 : Hp} {D : Addr}
theorem tk_lst {xs ys : List V} (h : H D = some (.lst xs)) : TK K H (upd H D (.lst ys)) := fun p zs hp => by
  rcases hp with (hp | ⟨o, hp⟩) | hp
  · exact .inl (.inl (by rw [upd_ne (fun z => by rw [z, h] at hp; cases hp)]; exact hp))
  · exact .inl (.inr ⟨o, by rw [upd_ne (fun z => by rw [z, h] at hp; cases hp)]; exact hp⟩)
  · exact .inr hp
theorem tk_dk {xs ys : List (Key × V)} (h : H D = some (.dK xs)) : TK K H (upd H D (.dK ys)) := fun p zs hp => by
  rcases hp with (hp | ⟨o, hp⟩) | hp
  · exact .inl (.inl (by rw [upd_ne (fun z => by rw [z, h] at hp; cases hp)]; exact hp))
  · exact .inl (.inr ⟨o, by rw [upd_ne (fun z => by rw [z, h] at hp; cases hp)]; exact hp⟩)
  · exact .inr hp
theorem same_upd {H0 : Hp} {o : HO} (h0 : H0 D = none) (s : Same H0 H4) : Same H0 (upd H4 D o) := fun b u e => by
  rw [upd_ne (ne_of_none e h0)]
  exact s b u e
/-- a list of fractions that is being made at D -/
def LcF (K : PySem.W.Frag) (H : Hp) (D : Addr) (zs : List Fx) (H' : Hp) : Prop := ∃ ws, H' D = some (.lst ws) ∧ Same H H' ∧ FsAt K H' ws zs
theorem LcF.start (h : H D = none) : LcF K H D [] (upd H D (.lst [])) := ⟨[], upd_same, Same.new h, .nil⟩
theorem LcF.step {zs : List Fx} {ws : List V} {y : Addr} {x : Fx} (h0 : H D = none) (h1 : H4 D = some (.lst ws)) (s : Same H H4) (f : FsAt K H4 ws zs) (hx : FT K H4 y x) : LcF K H D (zs ++ [x]) (upd H4 D (.lst (ws ++ [.ref y]))) :=
  ⟨_, upd_same, same_upd h0 s, (f.app (.cons hx .nil)).tk (tk_lst h1)⟩
/-- a list of pairs that is being made at D -/
def LcP (K : PySem.W.Frag) (H : Hp) (D : Addr) (zs : List (Int × Fx)) (H' : Hp) : Prop := ∃ ws, H' D = some (.lst ws) ∧ Same H H' ∧ PrsAt K H' ws zs
theorem LcP.start (h : H D = none) : LcP K H D [] (upd H D (.lst [])) := ⟨[], upd_same, Same.new h, .nil⟩
theorem LcP.step {zs : List (Int × Fx)} {ws : List V} {q r : Addr} {m : Int} {x : Fx} (h0 : H D = none) (h1 : H4 D = some (.lst ws)) (s : Same H H4) (f : PrsAt K H4 ws zs) (hq : SqT K H4 q [.int m, .ref r]) (hx : FT K H4 r x) :
    LcP K H D (zs ++ [(m, x)]) (upd H4 D (.lst (ws ++ [.ref q]))) :=
  ⟨_, upd_same, same_upd h0 s, (f.app (.cons hq hx .nil)).tk (tk_lst h1)⟩
theorem take_snoc {α : Type} {l : List α} {i : Nat} {a : α} (h : l[i]? = some a) : l.take (i + 1) = l.take i ++ [a] := by
  rw [List.take_add_one, h]
  rfl
theorem small {n : Nat} (h : n ≤ 1000) : n ≤ sizeLine := Nat.le_of_lt (small1000 h)
end
/-! promises -/
def spScaled (K : PySem.W.Frag) : Sp := fun vs H Q _ => ∃ p x k, vs = [.ref p, .int k] ∧ FT K H p x ∧ Fr x ∧ Sz 1900 x ∧ k.natAbs < 2 ^ 20 ∧ ∀ r, H r = none → Q (.ref r) (upd H r (.tup [.int (scl x k).1, .int (scl x k).2]))
def spSum (K : PySem.W.Frag) : Sp := fun vs H Q _ => ∃ a ws xs, vs = [.ref a] ∧ SqL K H a ws ∧ FsAt K H ws xs ∧ (∀ x ∈ xs, Fr x ∧ Sz 100 x) ∧ xs.length ≤ 16 ∧ ∀ H' p, Same H H' → FT K H' p (fsum xs) → Q (.ref p) H'
/-- of a share: a fraction -/
def spShF (K : PySem.W.Frag) (f : List (Int × Fx) → Fx) : Sp := fun vs H Q _ => ∃ p xs, vs = [.ref p] ∧ ShAt K H p xs ∧ AllF 90 xs ∧ (∀ a ∈ xs, a.1.natAbs ≤ 200) ∧ xs.length ≤ 16 ∧ ∀ H' r, Same H H' → FT K H' r (f xs) → Q (.ref r) H'
def spShFk (K : PySem.W.Frag) (f : List (Int × Fx) → Int → Fx) : Sp := fun vs H Q _ => ∃ p xs k, vs = [.ref p, .int k] ∧ ShAt K H p xs ∧ AllF 90 xs ∧ (∀ a ∈ xs, a.1.natAbs ≤ 200) ∧ k.natAbs ≤ 200 ∧ xs.length ≤ 16 ∧ ∀ H' r, Same H H' → FT K H' r (f xs k) → Q (.ref r) H'
end CS
set_option Elab.async false
set_option maxRecDepth 100000
set_option maxHeartbeats 4000000
set_option linter.unusedVariables false
namespace CS
open PySem L2
def top (i : Nat) : Stmt := PySem.Challenge.pw_curtainsteps_k25_whole_terms.main.body.getD i (.Pass ⟨0, 0, 0, 0⟩)
abbrev sSteperror : Stmt := top 1
abbrev sBadDays : Stmt := top 2
abbrev sBadTerm : Stmt := top 3
abbrev sIsWhole : Stmt := top 6
abbrev sIsWord : Stmt := top 7
abbrev sIsRow : Stmt := top 8
abbrev sIsRowOf : Stmt := top 9
abbrev sIsWholeWithin : Stmt := top 10
abbrev sIsNumber : Stmt := top 11
abbrev sAscends : Stmt := top 12
abbrev sIsDay : Stmt := top 17
abbrev sCountPaths : Stmt := top 18
abbrev sIsDays : Stmt := top 19
abbrev sAllPaths : Stmt := top 20
abbrev sIsWholeClaimed : Stmt := top 21
abbrev sIsClaim : Stmt := top 22
abbrev sNeedDays : Stmt := top 24
abbrev sKidPlaces : Stmt := top 32
abbrev sMayStand : Stmt := top 33
abbrev sIsInOrder : Stmt := top 34
abbrev sIsFormed : Stmt := top 35
abbrev sFaultIn : Stmt := top 36
abbrev sNeedTerm : Stmt := top 38
abbrev sKidsOf : Stmt := top 39
abbrev sLeafPays : Stmt := top 40
abbrev sTermPays : Stmt := top 41
abbrev sClaimAt : Stmt := top 42
abbrev sClaimOf : Stmt := top 43
abbrev sMixed : Stmt := top 45
abbrev sBegin : Stmt := top 46
abbrev sDraw : Stmt := top 47
abbrev sLawOf : Stmt := top 48
abbrev sLawDays : Stmt := top 49
abbrev sLawPaths : Stmt := top 50
abbrev sLawPays : Stmt := top 51
abbrev sLawPlaces : Stmt := top 52
abbrev sLawFault : Stmt := top 53
abbrev sLawTerm : Stmt := top 54
abbrev sLawHeard : Stmt := top 55
abbrev sLawIsRight : Stmt := top 56
abbrev sLawHandRight : Stmt := top 57
abbrev sLaw : Stmt := top 58
section
variable {P : Program} {w : World} {K : PySem.W.Frag} {mg : Str → Option Value} {base : Heap}
theorem scIsWhole : FnScope ["thing"] ["thing"] (defScope sIsWhole) := ⟨rfl, rfl, rfl, by decide +kernel, rfl, by decide +kernel, by decide +kernel⟩
theorem ok_is_whole {f : Addr} {fd : FuncData} (F : Df K mg "is_whole" sIsWhole ["thing"] f fd) (T : Bt mg) : FnOk P w K mg base CX0 1 f fd ["thing"] (spWhole K) := by
  refine F.F.ok scIsWhole (fun vs H Q E h => ?_) (fun cdv A outer s H vs Q E hr h => ?_)
  · obtain ⟨i, rfl, _⟩ := h
    rfl
  · obtain ⟨i, rfl, k⟩ := h
    refine ⟨_, pss_one (ps_ret (pe_and (pe_callB call_isi (by rfl) T.isinstance (by decide +kernel) (pa_cons (pv 0) (pa_cons (pe_bltn (v := .ty "int") (by rfl) T.int (by decide +kernel) rfl) pa_nil))) (pe_one (pe_cmpR op_eq (pe_cn (pv 0)) pe_str (nomark _))))), ?_⟩
    refine ⟨_, rfl, _, _, _, _, true, rfl, .ty _, .base (.int i), kit_ty (a := "int") (b := "int") (by decide +kernel), _, rfl, iteT ?_⟩
    refine ⟨_, rfl, _, .int i, rfl, ?_⟩
    exact k
theorem scIsRow : FnScope ["thing"] ["thing"] (defScope sIsRow) := ⟨rfl, rfl, rfl, by decide +kernel, rfl, by decide +kernel, by decide +kernel⟩
theorem TyX.of_tup {K : PySem.W.Frag} {H : Hp} {p : Addr} {xs : List V} (h : SqT K H p xs) : TyX K H (.ref p) (.type "tuple") := by
  rcases h with (h | ⟨o, h⟩) | ⟨o, its, n, h, c, _⟩
  · exact .base (.tup h)
  · exact .fTuple h
  · exact .kTuple h c
theorem ok_is_row {f : Addr} {fd : FuncData} (F : Df K mg "is_row" sIsRow ["thing"] f fd) (T : Bt mg) : FnOk P w K mg base CX0 1 f fd ["thing"] (spRow K) := by
  refine F.F.ok scIsRow (fun vs H Q E h => ?_) (fun cdv A outer s H vs Q E hr h => ?_)
  · obtain ⟨i, xs, rfl, _⟩ := h
    rfl
  · obtain ⟨i, xs, rfl, hp, k⟩ := h
    refine ⟨_, pss_one (ps_ret (pe_and (pe_callB call_isi (by rfl) T.isinstance (by decide +kernel) (pa_cons (pv 0) (pa_cons (pe_bltn (v := .ty "tuple") (by rfl) T.tuple (by decide +kernel) rfl) pa_nil))) (pe_one (pe_cmpR op_eq (pe_cn (pv 0)) pe_str (nomark _))))), ?_⟩
    refine ⟨_, rfl, _, _, _, _, true, rfl, .ty _, TyX.of_tup hp, kit_ty (a := "tuple") (b := "tuple") (by decide +kernel), _, rfl, iteT ?_⟩
    refine ⟨_, rfl, _, .tup hp, rfl, ?_⟩
    exact k
theorem scIsRowOf : FnScope ["thing", "many"] ["thing", "many"] (defScope sIsRowOf) := ⟨rfl, rfl, rfl, by decide +kernel, rfl, by decide +kernel, by decide +kernel⟩
theorem ok_is_row_of {f f1 : Addr} {fd fd1 : FuncData} (F : Df K mg "is_row_of" sIsRowOf ["thing", "many"] f fd) (F1 : Df K mg "is_row" sIsRow ["thing"] f1 fd1) (T : Bt mg) : FnOk P w K mg base CX0 2 f fd ["thing", "many"] (spRowOf K) := by
  have G1 : FnOk P w K mg base CX0 1 f1 fd1 ["thing"] (spRow K) := ok_is_row F1 T
  refine F.F.ok scIsRowOf (fun vs H Q E h => ?_) (fun cdv A outer s H vs Q E hr h => ?_)
  · obtain ⟨i, xs, n, rfl, _⟩ := h
    rfl
  · obtain ⟨i, xs, n, rfl, hp, k⟩ := h
    refine ⟨_, pss_one (ps_ret (pe_and (pe_call G1 hr (by rfl) F1.g F1.F.kp F1.b .nil pass0 (pa_cons (pv 0) pa_nil)) (pe_one (pe_cmpR op_eq (pe_callB call_len_seq (by rfl) T.len PySem.boot_len (pa_cons (pv 0) pa_nil)) (pv 1) (nomark _))))), ?_⟩
    refine ⟨_, rfl, _, _, rfl, hp, _, rfl, iteT ?_⟩
    refine ⟨_, rfl, _, _, rfl, .inr hp, _, rfl, rfl, ?_⟩
    have e : decide (V.int (xs.length : Int) = V.int n) = decide ((xs.length : Int) = n) := by
      rw [decide_eq_decide]
      constructor
      · intro h; injection h
      · intro h; rw [h]
    rw [e]
    exact k
theorem scMixed : FnScope ["cell", "k"] ["cell", "k"] (defScope sMixed) := ⟨rfl, rfl, rfl, by decide +kernel, rfl, by decide +kernel, by decide +kernel⟩
theorem ok_mixed {f : Addr} {fd : FuncData} (F : Df K mg "_law_mixed" sMixed ["cell", "k"] f fd) (T : Bt mg) : FnOk P w K mg base CX0 1 f fd ["cell", "k"] spMixed := by
  refine F.F.ok scMixed (fun vs H Q E h => ?_) (fun cdv A outer s H vs Q E hr h => ?_)
  · obtain ⟨c, k, rfl, _⟩ := h
    rfl
  · obtain ⟨c, k, rfl, k0, k1, q⟩ := h
    refine ⟨_, pss_cons (ps_set (i := 0) scMixed.nd rfl (Or.inl rfl) (pe_op op_mod (pe_callTy call_int1 (by rfl) T.int (by decide +kernel) (pa_cons (pv 0) pa_nil)) pe_int))
      (pss_one (ps_ret (pe_op op_mod (pe_op op_mul (pe_op op_mod (pe_op op_add (pe_op op_add
        (pe_op op_mul (pv 0) (pe_op op_add pe_int (pe_op op_mul (pe_op op_mul pe_int (pv 1)) (pv 1))))
        (pe_op op_mul pe_int (pv 1))) pe_int) pe_int) pe_int) pe_int))), ?_⟩
    have hc0 : 0 ≤ c % 2147483647 := Int.emod_nonneg _ (by decide)
    have hc1 : c % 2147483647 < 2147483647 := Int.emod_lt_of_pos _ (by decide)
    refine ⟨_, rfl, .inl ⟨c, rfl, _, _, rfl, rfl, (by show (0 : Int) < 2147483647; decide), ?_⟩⟩
    generalize hcc : c % 2147483647 = cc at *
    refine ⟨_, rfl, _, rfl, _, _, rfl, rfl, .inl ⟨by decide, by decide⟩, _, rfl, _, _, rfl, rfl, .inr ⟨by omega, by omega⟩, _, _, rfl, rfl, ?_⟩
    generalize 48271 + 2 * k * k = z
    refine ⟨_, _, rfl, rfl, .inl ⟨by omega, by omega⟩, _, rfl, _, _, rfl, rfl, .inl ⟨by decide, by decide⟩, _, _, rfl, rfl, _, _, rfl, rfl, _, _, rfl, rfl, (by show (0 : Int) < 2147483647; decide), ?_⟩
    generalize hy : (cc * z + 69621 * k + 11) = y
    have hy0 : 0 ≤ y % 2147483647 := Int.emod_nonneg _ (by decide)
    have hy1 : y % 2147483647 < 2147483647 := Int.emod_lt_of_pos _ (by decide)
    refine ⟨_, _, rfl, rfl, .inl ⟨by omega, by omega⟩, _, _, rfl, rfl, (by show (0 : Int) < 2147483629; decide), ?_⟩
    exact q _ (Int.emod_nonneg _ (by decide)) (Int.emod_lt_of_pos _ (by decide))
theorem dpInts (K : PySem.W.Frag) (H : Hp) : ∀ ns : List Int, DpAll K H (ns.map V.int) (ns.map PyData.int)
  | [] => .nil
  | n :: ns => .cons (.int n) (dpInts K H ns)
theorem cl0 : ∀ ns : List Int, PyData.canLayAll0 (ns.map PyData.int) = true
  | [] => rfl
  | n :: ns => by
    show (PyData.canLay0 (.int n) && PyData.canLayAll0 (ns.map PyData.int)) = true
    rw [cl0 ns]
    rfl
theorem dp0 : ∀ ns : List Int, PyData.depthAll (ns.map PyData.int) ≤ 1
  | [] => by decide
  | n :: ns => by
    have := dp0 ns
    simp [PyData.depthAll, PyData.depth] at *
    omega
theorem shInts (ns : List Int) : SeqAt.shaped (.list (ns.map PyData.int)) = true := by
  have h1 := cl0 ns
  have h2 := dp0 ns
  simp [SeqAt.shaped, PyData.canLay0, PyData.depth, h1]
  omega
theorem scBegin : FnScope ["script", "cells", "cell"] ["script"] (defScope sBegin) := ⟨rfl, rfl, rfl, by decide +kernel, rfl, by decide +kernel, by decide +kernel⟩
theorem ok_begin {f : Addr} {fd : FuncData} (F : Df K mg "_law_begin" sBegin ["script"] f fd) (T : Bt mg) : FnOk P w K mg base CX0 1 f fd ["script"] (spBegin K) := by
  refine F.F.ok scBegin (fun vs H Q E h => ?_) (fun cdv A outer s H vs Q E hr h => ?_)
  · obtain ⟨a, ns, rfl, _⟩ := h
    rfl
  · obtain ⟨a, ns, rfl, hS, hlen, k⟩ := h
    refine ⟨_, Evl.pss_cut (ps_set (i := 1) scBegin.nd rfl (Or.inl rfl) (pe_ifExp (pt_cmpR (op_neD hr.units) (pv 0) (pe_lst pa_nil) (nomark _)) (pe_callTy call_list_of (by rfl) T.list (by decide +kernel) (pa_cons (pv 0) pa_nil)) (pe_lst (pa_cons pe_int pa_nil))))
      (pss_one (ps_ret (pe_disp (pps_cons pe_str (pv 1) (pps_cons pe_str
        (pe_lc (own := [("cell", 2)]) (g := gName 2) (tt := tYes) rfl scBegin.nd (pi_list (pv 1)) (blkOk_by (N := ["script", "cells", "cell"]) (sc := defScope sBegin) (by decide +kernel)) (fun _ _ _ _ _ => pg_name (i := 2) scBegin.nd rfl (Or.inl rfl)) (fun _ _ _ _ _ => pts_nil)
          (fun _ _ _ _ _ => pe_ifExp (pt_cmpR op_ge (pv 2) (pe_op op_pow pe_int pe_int) (nomark _)) (pv 2) pe_int))
        (pps_cons pe_str pe_int (pps_cons pe_str pe_int pps_nil)))) (by rfl) (by rfl) (fun z => by cases z) (by decide)))), ?_⟩
    refine ⟨fun σ' H' => ∃ (c : Addr) (cs : List Int), σ' = [some (.ref a), some (.ref c), none] ∧ Same H H' ∧ H c = none ∧ H' c = some (.lst (cs.map V.int)) ∧ 0 < cs.length ∧ cs.length ≤ 64, ?_, ?_⟩
    · refine ⟨_, rfl, (by show 0 ≤ sizeLine; decide), fun q0 hq0 => ?_⟩
      refine ⟨.list (ns.map PyData.int), .list [], .lst ((Same.new hq0).seq hS) (dpInts _ _ ns), .lst (SqL.of upd_same) .nil, shInts ns, rfl, _, rfl, ?_⟩
      cases ns with
      | nil =>
        refine iteF ?_
        refine ⟨(by show 1 ≤ sizeLine; decide), fun c hc => ?_⟩
        exact ⟨c, [0], rfl, (Same.new hq0).trans (Same.new hc), (Same.new hq0).free hc, upd_same, by decide, by decide⟩
      | cons n ns =>
        refine iteT ?_
        refine ⟨_, rfl, a, _, rfl, .inl ((Same.new hq0).seq hS), fun c hc => ?_⟩
        exact ⟨c, n :: ns, rfl, (Same.new hq0).trans (Same.new hc), (Same.new hq0).free hc, upd_same, by simp, by omega⟩
    · rintro σ' H1 ⟨c, cs, rfl, s1, nc, hc, c0, c64⟩
      intro p hp
      have ncp : c ≠ p := ne_of_none hc hp
      have hcp : (upd H1 p (.dK [])) c = some (.lst (cs.map V.int)) := by rw [upd_ne ncp]; exact hc
      refine ⟨_, rfl, _, rfl, c, rfl, ⟨_, SqL.of hcp⟩, fun D hD => ?_⟩
      have ncD : c ≠ D := ne_of_none hcp hD
      have npD : p ≠ D := ne_of_none upd_same hD
      refine lc_list (K := K) (a := c) (xs := cs.map V.int) (fun i H' => ∃ acc : List Int, H' = upd (upd H1 p (.dK [])) D (.lst (acc.map V.int)) ∧ acc.length = i ∧ ∀ v ∈ acc, 0 ≤ v) ⟨[], rfl, rfl, fun v hv => by cases hv⟩ ?_ ?_ ?_
      · rintro i H' hi ⟨acc, rfl, _, _⟩
        exact SqL.of (by rw [upd_ne ncD]; exact hcp)
      · rintro i x H' hx ⟨acc, rfl, hl, h0⟩
        have hil : i < (cs.map V.int).length := (List.getElem?_eq_some_iff.mp hx).1
        rw [List.length_map] at hil
        obtain ⟨z, rfl⟩ : ∃ z, x = V.int z := by
          rw [List.getElem?_map] at hx
          cases e : cs[i]? with
          | none =>
            rw [e] at hx
            cases hx
          | some z =>
            rw [e] at hx
            exact ⟨z, (Option.some.inj hx).symm⟩
        refine ⟨rfl, ?_⟩
        dsimp only [tYes]
        rw [if_pos rfl]
        refine ⟨_, rfl, 10, 18, rfl, rfl, ⟨by decide, by decide, by decide⟩, _, _, rfl, rfl, _, rfl, ?_⟩
        by_cases hz : (10 : Int) ^ (18 : Int).toNat ≤ z
        · rw [decide_eq_true hz]
          refine iteT ⟨_, rfl, _, upd_same, ?_, acc ++ [z], ?_, ?_, ?_⟩
          · rw [List.length_map]; exact small1000 (by omega)
          · rw [upd_upd, List.map_append]; rfl
          · rw [List.length_append]; simp [hl]
          · intro v hv
            rcases List.mem_append.mp hv with q | q
            · exact h0 v q
            · have := List.mem_singleton.mp q
              have h18 : (0 : Int) ≤ (10 : Int) ^ (18 : Int).toNat := by decide
              omega
        · rw [decide_eq_false hz]
          refine iteF ⟨_, upd_same, ?_, acc ++ [0], ?_, ?_, ?_⟩
          · rw [List.length_map]; exact small1000 (by omega)
          · rw [upd_upd, List.map_append]; rfl
          · rw [List.length_append]; simp [hl]
          · intro v hv
            rcases List.mem_append.mp hv with q | q
            · exact h0 v q
            · have := List.mem_singleton.mp q
              omega
      · rintro H' ⟨acc, rfl, hl, h0⟩
        refine ⟨by rw [upd_ne npD]; exact upd_same, [(Sum.inr ("cells" : Str), V.ref c), (Sum.inr ("lefts" : Str), .ref D), (Sum.inr ("at" : Str), .int 0), (Sum.inr ("room" : Str), .int 0)], rfl, (by show 4 ≤ 15; decide), ?_⟩
        rw [stD_make]
        have hD1 : H1 D = none := (Same.new hp).free hD
        refine k p c D _ (s1.free hp) (s1.trans ?_) ?_
        · intro b o e
          rw [upd_ne (ne_of_none e hp), upd_ne (ne_of_none e hD1), upd_ne (ne_of_none e hp)]
          exact e
        · refine ⟨upd_same, ncD, cs, acc, ?_, ?_, ?_, c0, c64, h0⟩
          · rw [upd_ne ncp, upd_ne ncD]; exact hcp
          · rw [upd_ne npD.symm, upd_same]
          · rw [hl, List.length_map]
theorem scDraw : FnScope ["state", "many", "at", "place", "left", "number"] ["state", "many"] (defScope sDraw) := ⟨rfl, rfl, rfl, by decide +kernel, rfl, by decide +kernel, by decide +kernel⟩
theorem ok_draw {f f1 : Addr} {fd fd1 : FuncData} (F : Df K mg "_law_draw" sDraw ["state", "many"] f fd) (F1 : Df K mg "_law_mixed" sMixed ["cell", "k"] f1 fd1) (T : Bt mg) : FnOk P w K mg base CX0 2 f fd ["state", "many"] spDraw := by
  have G1 : FnOk P w K mg base CX0 1 f1 fd1 ["cell", "k"] spMixed := ok_mixed F1 T
  refine F.F.ok scDraw (fun vs H Q E h => ?_) (fun cdv A outer s H vs Q E hr h => ?_)
  · obtain ⟨d, c, l, k, m, rfl, _⟩ := h
    rfl
  · obtain ⟨d, c, l, n, m, rfl, S, m0, m1, n1, k⟩ := h
    have hu := hu_of hr
    refine ⟨_, pss_cons (ps_set (i := 2) scDraw.nd rfl (Or.inl rfl) (pe_dget hu (pv 0) pe_str (fun _ _ => rfl)))
      (pss_cons (ps_dput hu (pv 0) pe_str (pe_op op_add (pv 2) pe_int) rfl)
      (pss_cons (ps_set (i := 3) scDraw.nd rfl (Or.inl rfl) (pe_op op_mod (pe_callTy call_int1 (by rfl) T.int (by decide +kernel) (pa_cons (pv 2) pa_nil)) (pe_callB call_len_seq (by rfl) T.len PySem.boot_len (pa_cons (pe_dget hu (pv 0) pe_str (fun _ _ => rfl)) pa_nil))))
      (pss_cons (ps_set (i := 4) scDraw.nd rfl (Or.inl rfl) (pe_ix ix_list (pe_dget hu (pv 0) pe_str (fun _ _ => rfl)) (pv 3) (fun _ _ => rfl)))
      (pss_cons (ps_if (pt_cmpR op_gt (pv 4) pe_int (nomark _))
        (pss_cons (ps_asg (pe_op op_fdivW (pv 4) (pv 1)) (pg_sub (pe_dget hu (pv 0) pe_str (fun _ _ => rfl)) (pv 3) set_list))
        (pss_one (ps_ret (pe_op op_mod (pe_callTy call_int1 (by rfl) T.int (by decide +kernel) (pa_cons (pv 4) pa_nil)) (pv 1))))) pss_nil)
      (pss_cons (ps_set (i := 5) scDraw.nd rfl (Or.inl rfl) (pe_call G1 hr (by rfl) F1.g F1.F.kp F1.b .nil pass0 (pa_cons (pe_call G1 hr (by rfl) F1.g F1.F.kp F1.b .nil pass0 (pa_cons (pe_ix ix_list (pe_dget hu (pv 0) pe_str (fun _ _ => rfl)) (pv 3) (fun _ _ => rfl)) (pa_cons (pv 2) pa_nil))) (pa_cons (pe_op op_add pe_int (pv 2)) pa_nil))))
      (pss_one (ps_ret (pe_op op_mod (pe_op op_fdiv (pe_callTy call_int1 (by rfl) T.int (by decide +kernel) (pa_cons (pe_op op_add (pe_op op_mul (pv 5) pe_int) (pe_call G1 hr (by rfl) F1.g F1.F.kp F1.b .nil pass0 (pa_cons (pv 5) (pa_cons (pe_op op_add pe_int (pv 2)) pa_nil)))) pa_nil)) pe_int) (pv 1))))))))), ?_⟩
    obtain ⟨hd, ncl, cs, ls, hc, hl, hcl, c0, c64, hls⟩ := S
    have ndc : d ≠ c := ne_of hd hc (by intro z; cases z)
    have ndl : d ≠ l := ne_of hd hl (by intro z; cases z)
    refine ⟨_, rfl, d, _, rfl, (stD_at c l n) ▸ DGet.k (k := Sum.inr ("at" : Str)) hd, ?_⟩
    refine ⟨_, rfl, _, _, rfl, rfl, _, rfl, d, _, rfl, DPut.k (k := Sum.inr ("at" : Str)) hd (by show 4 < sizeLine; decide), ?_⟩
    rw [stD_put]
    have hd2 : (upd H d (.dK (stD c l ((n : Int) + 1)))) d = some (.dK (stD c l ((n + 1 : Nat) : Int))) := upd_same
    have hc2 : (upd H d (.dK (stD c l ((n : Int) + 1)))) c = some (.lst (cs.map V.int)) := by rw [upd_ne ndc.symm]; exact hc
    have hl2 : (upd H d (.dK (stD c l ((n : Int) + 1)))) l = some (.lst (ls.map V.int)) := by rw [upd_ne ndl.symm]; exact hl
    have fm2 : Fm d l H (upd H d (.dK (stD c l ((n : Int) + 1)))) := fun b o e nb _ => by rw [upd_ne nb]; exact e
    generalize upd H d (.dK (stD c l ((n : Int) + 1))) = H2 at *
    have el : ((n : Int) % ((cs.map V.int).length : Int)) = ((n % cs.length : Nat) : Int) := by
      rw [List.length_map]
      omega
    refine ⟨_, rfl, .inl ⟨_, rfl, _, rfl, d, _, rfl, (stD_cells c l _) ▸ DGet.k (k := Sum.inr ("cells" : Str)) hd2, c, _, rfl, .inl (SqL.of hc2), _, _, rfl, rfl, (by show (0 : Int) < ((cs.map V.int).length : Int); rw [List.length_map]; omega), ?_⟩⟩
    simp only [el]
    have hj : n % cs.length < cs.length := Nat.mod_lt _ c0
    generalize n % cs.length = j at *
    obtain ⟨y, hy⟩ : ∃ y, ls[j]? = some y := ⟨ls[j]'(by omega), by simp⟩
    obtain ⟨x, hx⟩ : ∃ x, cs[j]? = some x := ⟨cs[j]'(by omega), by simp⟩
    have y0 : 0 ≤ y := hls y (List.mem_of_getElem? hy)
    have hyv : atI (ls.map V.int) ((j : Nat) : Int) = some (.int y) := atI_nat (by rw [List.getElem?_map, hy]; rfl)
    have hxv : atI (cs.map V.int) ((j : Nat) : Int) = some (.int x) := atI_nat (by rw [List.getElem?_map, hx]; rfl)
    refine ⟨_, rfl, d, _, rfl, (stD_lefts c l _) ▸ DGet.k (k := Sum.inr ("lefts" : Str)) hd2, _, rfl, l, _, _, _, rfl, rfl, SqL.of hl2, hyv, ?_⟩
    refine ⟨_, rfl, _, _, rfl, rfl, _, rfl, ?_⟩
    by_cases hy1 : 0 < y
    · rw [decide_eq_true hy1]
      refine iteT ?_
      refine ⟨_, rfl, _, rfl, _, _, rfl, rfl, wide_div m0 m1 (by decide) (by decide), ?_⟩
      refine ⟨_, rfl, d, _, rfl, (stD_lefts c l _) ▸ DGet.k (k := Sum.inr ("lefts" : Str)) hd2, _, rfl, l, _, _, j, rfl, rfl, hl2, ?_, ?_⟩
      · rw [List.length_map]
        unfold ixN
        rw [if_pos (by omega), if_pos (by omega)]
        simp
      refine ⟨_, rfl, .inl ⟨_, rfl, _, rfl, _, _, rfl, rfl, m0, ?_⟩⟩
      refine k _ _ (Int.emod_nonneg _ (by omega)) (Int.emod_lt_of_pos _ m0) ⟨by rw [upd_ne ndl]; exact hd2, ncl, cs, ls.set j (y / m), by rw [upd_ne ncl]; exact hc2, ?_, by rw [List.length_set]; exact hcl, c0, c64, ?_⟩ ?_
      · rw [upd_same, List.map_set]
      · intro v hv
        rcases List.mem_or_eq_of_mem_set hv with q | q
        · exact hls v q
        · rw [q]; exact Int.ediv_nonneg y0 (by omega)
      · intro b o e n1 n2
        rw [upd_ne n2]
        exact fm2 b o e n1 n2
    · rw [decide_eq_false hy1]
      refine iteF ?_
      refine ⟨_, rfl, d, _, rfl, (stD_cells c l _) ▸ DGet.k (k := Sum.inr ("cells" : Str)) hd2, _, rfl, c, _, _, _, rfl, rfl, SqL.of hc2, hxv, _, rfl, x, n, rfl, by omega, by omega, fun r1 a0 a1 => ?_⟩
      refine ⟨_, rfl, _, _, rfl, rfl, _, _, rfl, by omega, by omega, fun r2 b0 b1 => ?_⟩
      refine ⟨_, rfl, _, _, rfl, rfl, .inl ⟨by omega, by omega⟩, _, rfl, _, rfl, _, _, rfl, rfl, _, _, rfl, by omega, by omega, fun r3 e0 e1 => ?_⟩
      refine ⟨_, _, rfl, rfl, .inl ⟨_, rfl, _, _, rfl, rfl, ⟨by decide, by decide⟩, _, rfl, _, _, rfl, rfl, m0, ?_⟩⟩
      exact k _ _ (Int.emod_nonneg _ (by omega)) (Int.emod_lt_of_pos _ m0) ⟨hd2, ncl, cs, ls, hc2, hl2, hcl, c0, c64, hls⟩ fm2
end
end CS
set_option Elab.async false
set_option maxRecDepth 100000
set_option maxHeartbeats 8000000
set_option linter.unusedVariables false
namespace CS
open PySem L2
section
variable {P : Program} {w : World} {K : PySem.W.Frag} {mg : Str → Option Value} {base : Heap}
end
end CS
set_option Elab.async false
set_option maxRecDepth 100000
set_option maxHeartbeats 8000000
set_option linter.unusedVariables false
namespace CS
open PySem L2
section
variable {P : Program} {w : World} {K : PySem.W.Frag} {mg : Str → Option Value} {base : Heap}
theorem dget_or {H : Hp} {d aN : Addr} {kvs : List (Key × V)} {f : List (Int × Fx)} (hd : H d = some (.dK kvs)) (hD : DPr K H kvs f) (hN : FT K H aN (0, 1)) (k : Int) : ∃ (o : Option V) (r : Addr), DGet H d (.int k) o ∧ o.getD (.ref aN) = .ref r ∧ FT K H r (lk f k) := by
  by_cases hm : k ∈ f.map (·.1)
  · obtain ⟨r, h1, h2⟩ := hD.val k hm
    refine ⟨some (.ref r), r, ?_, rfl, h2⟩
    rw [← h1]
    exact DGet.k (k := Sum.inl k) hd
  · have h1 := hD.non k hm
    refine ⟨none, aN, ?_, rfl, ?_⟩
    · rw [← h1]
      exact DGet.k (k := Sum.inl k) hd
    · rw [lk_none hm]
      exact hN
def spGatT (K : PySem.W.Frag) : Sp := fun vs H Q _ => ∃ p ws xs, vs = [.ref p] ∧ SqT K H p ws ∧ PrsAt K H ws xs ∧ AllF 90 xs ∧ xs.length ≤ 16 ∧ ∀ H' r ys, Same H H' → ShAt K H' r ys → IsS (gat [] xs) ys → Q (.ref r) H'
def spGatL (K : PySem.W.Frag) : Sp := fun vs H Q _ => ∃ p ws xs, vs = [.ref p] ∧ SqL K H p ws ∧ PrsAt K H ws xs ∧ AllF 90 xs ∧ xs.length ≤ 16 ∧ ∀ H' r ys, Same H H' → ShAt K H' r ys → IsS (gat [] xs) ys → Q (.ref r) H'
end
end CS
set_option Elab.async false
set_option maxRecDepth 100000
set_option maxHeartbeats 8000000
set_option linter.unusedVariables false
namespace CS
open PySem L2
section
variable {P : Program} {w : World} {K : PySem.W.Frag} {mg : Str → Option Value} {base : Heap}
def GoodP (a : Int × Fx) : Prop := -100 ≤ a.1 ∧ a.1 ≤ 100 ∧ Fr a.2 ∧ 0 < a.2.1
instance (a : Int × Fx) : Decidable (GoodP a) := by unfold GoodP; infer_instance
def spWW : Sp := fun vs H Q _ => ∃ i l m : Int, vs = [.int i, .int l, .int m] ∧ Q (.bl (decide (l ≤ i ∧ i ≤ m))) H
def spNum : Sp := fun vs H Q _ => ∃ i : Int, vs = [.int i] ∧ Q (.bl (decide (-100 ≤ i ∧ i ≤ 100))) H
def spWt (K : PySem.W.Frag) : Sp := fun vs H Q _ => ∃ p x, vs = [.ref p] ∧ FT K H p x ∧ Q (.bl (decide (Fr x ∧ 0 < x.1))) H
def spShP (K : PySem.W.Frag) : Sp := fun vs H Q _ => ∃ q r m x, vs = [.ref q] ∧ SqT K H q [.int m, .ref r] ∧ FT K H r x ∧ Q (.bl (decide (GoodP (m, x)))) H
def spAsc (K : PySem.W.Frag) : Sp := fun vs H Q _ => ∃ (a : Addr) (ns : List Int), vs = [.ref a] ∧ SqL K H a (ns.map V.int) ∧ ns.length ≤ 900 ∧ ∀ H', Same H H' → Q (.bl (decide (ns.Pairwise (· < ·)))) H'
def spIsSh (K : PySem.W.Frag) : Sp := fun vs H Q _ => ∃ p xs, vs = [.ref p] ∧ ShAt K H p xs ∧ xs.length ≤ 900 ∧ ∀ H', Same H H' → Q (.bl (decide (Shr xs))) H'
def spNeedSh (K : PySem.W.Frag) : Sp := fun vs H Q _ => ∃ p xs, vs = [.ref p] ∧ ShAt K H p xs ∧ Shr xs ∧ ∀ H', Same H H' → Q (.ref p) H'
def spNeedNum : Sp := fun vs H Q _ => ∃ i : Int, vs = [.int i] ∧ -100 ≤ i ∧ i ≤ 100 ∧ Q (.int i) H
def spTot (K : PySem.W.Frag) (f : List (Int × Fx) → Fx) : Sp := fun vs H Q _ => ∃ p xs, vs = [.ref p] ∧ ShAt K H p xs ∧ Shr xs ∧ AllF 90 xs ∧ ∀ H' r, Same H H' → FT K H' r (f xs) → Q (.ref r) H'
def spRest (K : PySem.W.Frag) : Sp := fun vs H Q _ => ∃ p xs k, vs = [.ref p, .int k] ∧ ShAt K H p xs ∧ Shr xs ∧ AllF 90 xs ∧ -100 ≤ k ∧ k ≤ 100 ∧ ∀ H' r, Same H H' → FT K H' r (frest xs k) → Q (.ref r) H'
theorem Shr.abs {xs : List (Int × Fx)} (h : Shr xs) : ∀ a ∈ xs, a.1.natAbs ≤ 200 := fun a ha => by
  have := h.2.1 a ha
  omega
theorem Shr.len {xs : List (Int × Fx)} (h : Shr xs) : xs.length ≤ 16 := by have := h.1; omega
theorem scIsWholeWithin : FnScope ["thing", "least", "most"] ["thing", "least", "most"] (defScope sIsWholeWithin) := ⟨rfl, rfl, rfl, by decide +kernel, rfl, by decide +kernel, by decide +kernel⟩
theorem ok_is_whole_within {f f1 : Addr} {fd fd1 : FuncData} (F : Df K mg "is_whole_within" sIsWholeWithin ["thing", "least", "most"] f fd) (D1 : Df K mg "is_whole" sIsWhole ["thing"] f1 fd1) (T : Bt mg) : FnOk P w K mg base CX0 2 f fd ["thing", "least", "most"] spWW := by
  have G1 : FnOk P w K mg base CX0 1 f1 fd1 ["thing"] (spWhole K) := ok_is_whole D1 T
  refine F.F.ok scIsWholeWithin (fun vs H Q E h => ?_) (fun cdv A outer s H vs Q E hr h => ?_)
  · obtain ⟨i, l, m, rfl, _⟩ := h
    rfl
  · obtain ⟨i, l, m, rfl, k⟩ := h
    refine ⟨_, pss_one (ps_ret (pe_and (pe_call G1 hr (by rfl) D1.g D1.F.kp D1.b .nil pass0 (pa_cons (pv 0) pa_nil)) (pe_and (pe_cmpR op_le (pv 1) (pv 0) (nomark _)) (pe_one (pe_cmpR op_le (pv 0) (pv 2) (nomark _)))))), ?_⟩
    refine ⟨_, rfl, _, rfl, _, rfl, iteT ?_⟩
    refine ⟨_, rfl, _, rfl, _, _, rfl, rfl, _, rfl, ?_⟩
    by_cases h1 : l ≤ i
    · rw [decide_eq_true h1]
      refine iteT ⟨_, rfl, _, rfl, _, _, rfl, rfl, ?_⟩
      have e : decide (i ≤ m) = decide (l ≤ i ∧ i ≤ m) := by simp [h1]
      rw [← e] at k
      exact k
    · rw [decide_eq_false h1]
      refine iteF ?_
      rw [decide_eq_false (fun h => h1 h.1)] at k
      exact k
theorem scIsNumber : FnScope ["thing"] ["thing"] (defScope sIsNumber) := ⟨rfl, rfl, rfl, by decide +kernel, rfl, by decide +kernel, by decide +kernel⟩
theorem ok_is_number {f f1 : Addr} {fd fd1 : FuncData} (F : Df K mg "is_number" sIsNumber ["thing"] f fd) (D1 : Df K mg "is_whole_within" sIsWholeWithin ["thing", "least", "most"] f1 fd1) (G1 : FnOk P w K mg base CX0 2 f1 fd1 ["thing", "least", "most"] spWW) : FnOk P w K mg base CX0 3 f fd ["thing"] spNum := by
  refine F.F.ok scIsNumber (fun vs H Q E h => ?_) (fun cdv A outer s H vs Q E hr h => ?_)
  · obtain ⟨i, rfl, _⟩ := h
    rfl
  · obtain ⟨i, rfl, k⟩ := h
    refine ⟨_, pss_one (ps_ret (pe_call G1 hr (by rfl) D1.g D1.F.kp D1.b .nil pass0 (pa_cons (pv 0) (pa_cons (pe_un un_neg pe_int) (pa_cons (pe_int) pa_nil))))), ?_⟩
    exact ⟨_, rfl, _, rfl, i, _, _, rfl, k⟩
theorem cut1 (xs : List V) : cutV xs (some 1) none = xs.drop 1 := by
  unfold cutV
  have e1 : HT.sIx xs.length 0 (some 1) = min 1 xs.length := HT.sIx_nat xs.length 0 1
  rw [e1, HT.sIx_none]
  cases xs with
  | nil => rfl
  | cons a t =>
    have : min 1 (a :: t).length = 1 := by simp
    rw [this]
    simp
theorem scAscends : FnScope ["things", "low", "high"] ["things"] (defScope sAscends) := ⟨rfl, rfl, rfl, by decide +kernel, rfl, by decide +kernel, by decide +kernel⟩
theorem ok_ascends {f : Addr} {fd : FuncData} (F : Df K mg "ascends" sAscends ["things"] f fd) (T : Bt mg) : FnOk P w K mg base CX0 1 f fd ["things"] (spAsc K) := by
  refine F.F.ok scAscends (fun vs H Q E h => ?_) (fun cdv A outer s H vs Q E hr h => ?_)
  · obtain ⟨a, ns, rfl, _⟩ := h
    rfl
  · obtain ⟨a, ns, rfl, hS, hlen, k⟩ := h
    refine ⟨_, pss_one (ps_ret (pe_callB (cr_all rfl) (by rfl) T.all (by decide +kernel) (pa_cons (pe_lc (own := [("low", 1), ("high", 2)]) (g := gTup K 2 (gCons (gName 1) (gCons (gName 2) gNil))) (tt := tYes) rfl scAscends.nd (pi_zip (by rfl) T.zip (pa_cons (pv 0) (pa_cons (pe_slice sl_list (pv 0) (po_some pe_int) po_none) pa_nil))) (blkOk_by (N := ["things", "low", "high"]) (sc := defScope sAscends) (by decide +kernel)) (fun _ _ _ _ _ => pg_tup rfl (pgs_cons (pg_name (i := 1) scAscends.nd rfl (Or.inl rfl)) (pgs_cons (pg_name (i := 2) scAscends.nd rfl (Or.inl rfl)) pgs_nil))) (fun _ _ _ _ _ => pts_nil) (fun _ _ _ _ _ => pe_cmpR op_lt (pv 1) (pv 2) (nomark _))) pa_nil))), ?_⟩
    refine ⟨_, rfl, _, rfl, _, rfl, a, _, rfl, hS, fun b hb => ?_⟩
    rw [cut1]
    have k1 := Same.new (o := .lst ((ns.map V.int).drop 1)) hb
    have hB : (upd H b (.lst ((ns.map V.int).drop 1))) b = some (.lst ((ns.map V.int).drop 1)) := upd_same
    have hS1 := k1.seq hS
    generalize upd H b (.lst ((ns.map V.int).drop 1)) = H1 at *
    refine ⟨a, b, _, _, rfl, hS1, SqL.of hB, fun D hD => lc_it (walk_zip (xs := ns.map V.int) (ys := (ns.map V.int).drop 1) (n := ns.length - 1) (by simp)) (fun i H' => H' D = some (.lst (((List.zipWith (fun a b => decide (a < b)) ns (ns.drop 1)).take i).map V.bl)) ∧ Same H1 H') ⟨upd_same, Same.new hD⟩ (fun i H' _ ⟨_, s1⟩ => ⟨s1.seq hS1, SqL.of (s1 _ _ hB)⟩) ?_ ?_⟩
    · rintro i v H2 H3 hi ⟨h1, s1⟩ ⟨t, x, y, rfl, ht, rfl, hx, hy⟩
      have e1 : ns[i]? = some (ns[i]'(by omega)) := by simp
      have e2 : (ns.drop 1)[i]? = some (ns[i + 1]'(by omega)) := by
        rw [List.getElem?_drop]
        have : 1 + i = i + 1 := by omega
        rw [this]
        simp
      dsimp only at hx hy
      rw [List.getElem?_map, e1] at hx
      rw [← List.map_drop, List.getElem?_map, e2] at hy
      obtain rfl : V.int _ = x := Option.some.inj hx
      obtain rfl : V.int _ = y := Option.some.inj hy
      have k2 := Same.new (o := .tup [V.int (ns[i]'(by omega)), V.int (ns[i + 1]'(by omega))]) ht
      refine ⟨t, _, rfl, SqT.of upd_same, rfl, _, _, rfl, _, _, rfl, rfl, rfl, ?_⟩
      dsimp only [tYes]
      rw [if_pos rfl]
      refine ⟨_, rfl, _, rfl, _, _, rfl, rfl, _, k2 _ _ h1, small1000 ?_, ?_, ?_⟩
      · rw [List.length_map, List.length_take]; omega
      · rw [upd_same]
        have : (List.zipWith (fun a b => decide (a < b)) ns (ns.drop 1))[i]? = some (decide (ns[i]'(by omega) < ns[i + 1]'(by omega))) := by
          rw [List.getElem?_zipWith, e1, e2]
        rw [take_snoc this, List.map_append]
        rfl
      · exact same_upd hD (s1.trans k2)
    · rintro H2 ⟨h1, s1⟩
      rw [List.take_of_length_le (by rw [List.length_zipWith, List.length_drop]; omega)] at h1
      refine ⟨D, _, rfl, SqL.of h1, ?_⟩
      rw [asc_zip]
      exact k _ (k1.trans s1)
end
end CS
set_option Elab.async false
set_option maxRecDepth 100000
set_option maxHeartbeats 4000000
set_option linter.unusedVariables false
/-! Calls while no repr is under way; repr of data of any depth. -/
namespace CS
open PySem PySem.Spec PyProof.Rows L2
/-- a call stands ready, and no repr is under way around it -/
structure Quiet (P : Program) (w : World) (K : PySem.W.Frag) (mg : Str → Option Value) (base : Heap) (k : Nat) (fd : FuncData) (ps : List Str) (A : Around) (outer : List Env) (s : Shared) (H : Hp) (args : Args) (us : List Value) (vs : List V) : Prop where
  still : A.guards = some []
  room : Room k A
  env : Env0 P w K mg base A outer s H
  bound : BindsTo s fd args (ps.zip us)
  vals : Vals vs us
/-- a def's promise for calls while no repr is under way -/
structure FnG (P : Program) (w : World) (K : PySem.W.Frag) (mg : Str → Option Value) (base : Heap) (CX : CXT) (k : Nat) (f : Addr) (fd : FuncData) (ps : List Str) (sp : Sp) : Prop where
  many : ∀ vs H Q E, sp vs H Q E → vs.length = ps.length
  go : ∀ {A outer s H args us vs Q E}, Quiet P w K mg base k fd ps A outer s H args us vs → sp vs H Q E → codeAny (model P w) A (.call (.ref f) args) (CR CX outer P w H s Q E) s
section
variable {P : Program} {w : World} {K : PySem.W.Frag} {mg : Str → Option Value} {base : Heap} {CX : CXT} {k : Nat} {f : Addr} {fd : FuncData} {ps N : List Str} {sp : Sp} {x qual : Str} {st : Stmt}
theorem FnG.of_any (F : FnOk P w K mg base CX k f fd ps sp) : FnG P w K mg base CX k f fd ps sp := ⟨F.len, fun q h => F.run _ _ _ _ _ _ _ _ _ q.room q.env q.bound q.vals h⟩
/-- how a body's end is the call's end -/
theorem end_of_body {scope : Scope} {cdv : Value} {A : Around} {outer : List Env} {s s' : Shared} {H : Hp} {Q : VK} {E : XK} {fl : Flow} (h : SP (cxOf CX P w K mg base N qual scope f cdv A outer s H E) [] { nx := fun _ H' => Q .non H', rt := Q } fl s') :
    ∃ u v, (fl = .ret u ∨ (fl = .next ∧ u = Value.none)) ∧ RelV v u ∧ CE outer P w H s Q u s' := by
  cases fl with
  | ret u =>
    obtain ⟨v, _, H', J, rv, q⟩ := h
    exact ⟨u, v, .inl rfl, rv, v, H', J.os, J.bare, J.base, J.hok, rv, q⟩
  | next =>
    obtain ⟨_, H', J, q⟩ := h
    exact ⟨.none, .non, .inr ⟨rfl, rfl⟩, rfl, .non, H', J.os, J.bare, J.base, J.hok, rfl, q⟩
  | brk => exact absurd h (fun ⟨_, _, _, z⟩ => z)
  | cont => exact absurd h (fun ⟨_, _, _, z⟩ => z)
/-- a def keeps its promise, if its body does, no repr being under way -/
theorem FnG.of_body (F : Fun K x qual st f fd) (S : FnScope N ps (defScope st)) (many : ∀ vs H Q E, sp vs H Q E → vs.length = ps.length)
    (body : ∀ cdv A outer s H vs Q E, A.guards = some [] → Room k (A.deeper (envOfC qual (defScope st) s.heap.objs.size f cdv)) → sp vs H Q E → ∃ t, PSs (cxOf CX P w K mg base N qual (defScope st) f cdv A outer s H E) (defBody st) t ∧ t { nx := fun _ H' => Q .non H', rt := Q } (start N vs) H) :
    FnG P w K mg base CX (k + 1) f fd ps sp := by
  obtain ⟨oc, od, kV, doc, pm, an, cdv, ct, osl, efd, at_, code⟩ := F.ex
  subst efd
  constructor
  · exact many
  intro A outer s H args us vs Q E q h
  have kept := q.env.bs
  have inn : K.In s.heap := q.env.mod.kin.keeps fun b o e => (kept b o e).1
  have nolim : s.heap.NoLimit := q.env.mod.nolimit.keeps fun b o e => (kept b o e).1
  have pars : ∀ y ∈ ps.zip us, (defScope st).names.lookup y.1 = some .local ∨ ((defScope st).names.lookup y.1 = some .cell ∧ ((cellsFrom (s.heap.objs.size + 1) (defScope st).names []).lookup y.1).isSome = true) := by
    rintro ⟨n, v⟩ hy
    exact (S.par n (List.of_mem_zip hy).1).imp id fun c => ⟨c, PySem.W.cellsFrom_some _ _ _ (.inl c)⟩
  refine codeAny_call_function q.room.depth (inn _ _ at_) rfl S.co S.gen rfl (PySem.W.codeRec_of inn code) (q.bound _ _ _ _ (wpAny_newFunctionEnv_cells S.kind pars ?_))
  rintro env rfl s1 laid
  refine ⟨nolim.keeps laid.toInCall.keep, codeAny_func ?_⟩
  obtain ⟨t, run, now⟩ := body cdv A outer s H vs Q E q.still (q.room.deeper _) h
  have I := inv_start (CX := CX) (E := E) S q.room.hd q.env (many _ _ _ _ h) q.vals laid
  refine wpAny_mono (run.run [] s1 _ H _ I now) (fun fl s' e => ?_) fun _ _ e => e
  obtain ⟨u, v, e1, _, e2⟩ := end_of_body e
  rcases e1 with rfl | ⟨rfl, rfl⟩
  · exact e2
  · exact e2
end
section
variable {X : Cx} {CX : CXT} {k : Nat} {f : Addr} {fd : FuncData} {ps : List Str} {sp : Sp} {dvs : List V} {ds : List Value} {E : XK} {x : Str} {p pos : PySem.Pos} {e : Expr} {es : List Expr} {t : TA}
/-- f(e, ..) where no repr is under way -/
theorem pe_callG (F : FnG X.prog X.w X.K X.mg X.base CX k f fd ps sp) (hq : X.A.guards = some []) (hr : Room k X.A) (hg : Gl X x) (hm : X.mg x = some (.ref f)) (hk : PySem.W.keepIn X.K (.ref f) = true) (hb : Binds X.K fd ps []) (hx : Passes CX X E) (ha : PA X (e :: es) t)
    (he : starEach (e :: es) X.env = (false, eval e X.env) :: starEach es X.env := by rfl) (hpl : (backTo pos (starEach es X.env)).any (·.1) = false := by rfl) (hdb : (x == ("__debug__" : Str)) = false := by decide) : PE X (.Call (.Name x p) (e :: es) [] pos) (tCall sp [] E t) := by
  constructor
  intro pins s σ H Q I h
  refine wpAny_Call_Name_kw (ld_glob I hg hm (PySem.W.callWith_K (h₀ := X.base) I.ok.mod.kin hk (thn (ha.run pos pins s σ H _ I h) fun us s1 ⟨vs, H1, J, rv, now⟩ => ⟨J.kIn, ?_⟩) he hpl) hdb)
  have now2 : sp vs H1 Q E := by
    have z : sp (vs ++ []) H1 Q E := now
    rw [List.append_nil] at z
    exact z
  have b2 : BindsTo s1 fd ⟨us, []⟩ (ps.zip us) := by
    have z := hb s1 us J.kIn (by rw [List.append_nil, ← rv.length]; exact F.many _ _ _ _ now2)
    rw [List.append_nil] at z
    exact z
  show wpAny _ _ (call (.ref f) us) _ _ _
  refine wpAny_call (codeAny_mono (F.go ⟨hq, hr, J.env0, b2, rv⟩ now2) fun r s' z => ?_)
  match r, z with
  | .error er, z => exact hx pins σ H1 s1 er s' J z
  | .ok (.ret u), z => exact J.after z
  | .ok .next, z => exact z.elim
  | .ok .brk, z => exact z.elim
  | .ok .cont, z => exact z.elim
/-- repr of data -/
def rShow (K : PySem.W.Frag) : List V → Hp → VK → Prop := fun xs H Q => ∃ v d, xs = [v] ∧ Dp K H v d ∧ d.showable = true ∧ d.hasDict = false ∧ d.depth ≤ 60 ∧ d.shown.length + 64 ≤ sizeLine ∧ Q (.str d.shown) H
theorem call_show (hq : X.A.guards = some []) (hu : X.A.units + 64 < cLine) : CallR X (.builtin "repr") (rShow X.K) := by
  intro pins s σ H xs us Q I r ⟨v, d, ex, hd, h1, h2, h3, h4, q⟩
  subst ex
  obtain ⟨u, rfl, rv⟩ := vals1 r
  obtain ⟨as, rd⟩ := Dp.reads I d v u hd rv
  have sz : d.shown.length ≤ sizeLine := by omega
  cases rd with
  | none =>
    refine PySem.P.repr_of_none ⟨.str _, H, I.tok _, ⟨_, rfl⟩, ?_⟩
    rw [PyData.shown_none] at q
    exact q
  | bool b =>
    refine PySem.P.repr_of_bool ⟨.str _, H, I.tok _, ⟨_, rfl⟩, ?_⟩
    rw [PyData.shown_bool] at q
    exact q
  | int i t =>
    refine PySem.P.repr_of_int (of_decide_eq_true h1) ⟨.str _, H, I.tok _, ⟨_, rfl⟩, ?_⟩
    rw [PyData.shown_int] at q
    exact q
  | str x t =>
    rw [PyData.shown_str] at q sz
    exact PySem.P.repr_of_str ⟨.str _, H, I.tok _, ⟨_, rfl⟩, q⟩ sz
  | list g1 g2 g3 g4 => exact repr_of_reads' (.list g1 g2 g3 g4) h1 (PyData.noDict_hsm h2) hq (by omega) (fun _ _ e => e) (fun h' t tk kp => ⟨.str _, H, I.kept (t' := tk) kp, ⟨_, rfl⟩, q⟩) sz
  | tuple g1 g2 g3 g4 => exact repr_of_reads' (.tuple g1 g2 g3 g4) h1 (PyData.noDict_hsm h2) hq (by omega) (fun _ _ e => e) (fun h' t tk kp => ⟨.str _, H, I.kept (t' := tk) kp, ⟨_, rfl⟩, q⟩) sz
  | dict g1 g2 g3 g4 g5 => cases hd
end
/-! the end: a law whose def is called while no repr is under way -/
theorem still_caller : callerA.guards = some [] := rfl
/-- what is tracked ahead of the law's call: its script alone -/
def scriptH (K : PySem.W.Frag) (a : Addr) (vs : List Value) (ns : List Int) : Hp := fun b => if b = a ∧ K.lookup a = none then some (.frz { cls := .type "list", data := .seq vs.toArray } (.lst (ns.map V.int))) else none
section
variable {P : Program} {w : World} {K : PySem.W.Frag} {mg mb : Str → Option Value} {k : Nat} {fa a : Addr} {fd : FuncData} {x : Str} {sp : Sp} {s₁ : Shared} {vs : List Value} {ns : List Int}
theorem scriptH_of {b : Addr} {u : HO} (e : scriptH K a vs ns b = some u) : b = a ∧ K.lookup a = none ∧ u = .frz { cls := .type "list", data := .seq vs.toArray } (.lst (ns.map V.int)) := by
  unfold scriptH at e
  split at e
  · next z => exact ⟨z.1, z.2, (Option.some.inj e).symm⟩
  · cases e
theorem scriptH_ok (ha : s₁.heap.get? a = some { cls := .type "list", data := .seq vs.toArray }) (hi : IntsAre vs ns) (hl : ns.length ≤ sizeLine) : HOk P w (scriptH K a vs ns) s₁.heap := by
  intro b u e
  obtain ⟨rfl, _, rfl⟩ := scriptH_of e
  exact ⟨ha, by rw [List.length_map]; exact hl, vs, _, vals_ints hi, ha⟩
theorem scriptH_sq (KX : K.In s₁.heap) (ha : s₁.heap.get? a = some { cls := .type "list", data := .seq vs.toArray }) (hi : IntsAre vs ns) (hl : ns.length ≤ sizeLine) : SqL K (scriptH K a vs ns) a (ns.map V.int) := by
  cases e : K.lookup a with
  | none => exact .inl (.inr ⟨_, if_pos ⟨rfl, e⟩⟩)
  | some o =>
    have g := KX a o e
    rw [ha] at g
    cases g
    have l := hi.length
    exact .inr ⟨_, vs.toArray, _, e, rfl, rfl, rfl, by rw [List.size_toArray]; omega, by simpa using vals_ints hi⟩
/-- the law's call ends with True, and what stood stands -/
theorem law_still (KX : K.In s₁.heap) (hns : s₁.heap.Ns mainGlobals mg) (hb : s₁.heap.Ns builtinsNs mb) (hbb : ∀ x : Str, x ≠ "__name__" → mb x = bootBuiltins x) (hlim : s₁.heap.NoLimit) (hg : s₁.gens = #[])
    (ha : s₁.heap.get? a = some { cls := .type "list", data := .seq vs.toArray }) (hi : IntsAre vs ns) (hl : ns.length ≤ sizeLine) (hr : Room k callerA)
    (F : ∀ base : Heap, K.In base → base.Ns mainGlobals mg → FnG P w K mg base CX0 k fa fd [x] sp) (bind : ∀ (s : Shared) (u : Value), BindsTo s fd ⟨[u], []⟩ [(x, u)])
    (hsp : ∀ H : Hp, SqL K H a (ns.map V.int) → sp [.ref a] H (fun v _ => v = .bl true) E0) :
    codeAny (model P w) callerA (.call (.ref fa) ⟨[.ref a], []⟩) (fun r s' => r = .ok (.ret (.bool true)) ∧ OldK s₁.heap s'.heap ∧ s'.os = s₁.os ∧ AllBare s'.gens) s₁ := by
  obtain ⟨H, eH⟩ : ∃ H, H = scriptH K a vs ns := ⟨_, rfl⟩
  have ok : HOk P w H s₁.heap := by rw [eH]; exact scriptH_ok ha hi hl
  have sq : SqL K H a (ns.map V.int) := by rw [eH]; exact scriptH_sq KX ha hi hl
  have only : ∀ {b u}, H b = some u → b = a ∧ K.lookup a = none ∧ u = .frz { cls := .type "list", data := .seq vs.toArray } (.lst (ns.map V.int)) := fun e => scriptH_of (by rw [← eH]; exact e)
  -- whatever is not the script's object is in the part that the call may not change
  have stays : ∀ {b : Addr} {ob : Obj}, s₁.heap.get? b = some ob → (b = a → K.lookup a ≠ none) → (hidT s₁.heap H).get? b = some ob := fun {b ob} e n => hidT_get e (by
    cases q : H b with
    | none => rfl
    | some u =>
      obtain ⟨e1, e2, _⟩ := only q
      exact absurd e2 (n e1))
  have names : ∀ {b : Addr} {m : Str → Option Value}, s₁.heap.Ns b m → (hidT s₁.heap H).Ns b m := by
    rintro b m ⟨ob, es, ep, e, ed, r⟩
    refine ⟨ob, es, ep, stays e (fun z => ?_), ed, r⟩
    subst z
    rw [ha] at e
    cases e
    cases ed
  have inn : K.In (hidT s₁.heap H) := fun b ob e => stays (KX b ob e) (fun z => by rw [← z, e]; exact fun y => nomatch y)
  obtain ⟨mc, l1, l2⟩ := hlim
  have env : Env0 P w K mg (hidT s₁.heap H) callerA [] s₁ H := by
    refine ⟨rfl, ⟨inn, names hns, ⟨mb, names hb, hbb⟩, ⟨mc, names l1, l2⟩⟩, fun b ob e => of_hidT e, Nat.le_of_eq (hidT_size _ _), trivial, fun b hb => ?_, ok, .of_eq hg⟩
    exact (List.not_mem_nil hb).elim
  have ready : Quiet P w K mg (hidT s₁.heap H) k fd [x] callerA [] s₁ H ⟨[.ref a], []⟩ [.ref a] [.ref a] := ⟨still_caller, hr, env, bind s₁ (.ref a), .cons rfl .nil⟩
  refine codeAny_mono ((F _ inn (names hns)).go ready (hsp H sq)) fun r s' z => ?_
  match r, z with
  | .error _, z => exact z.elim
  | .ok .next, z => exact z.elim
  | .ok .brk, z => exact z.elim
  | .ok .cont, z => exact z.elim
  | .ok (.ret u), ⟨v, H', os, bare, un, ok', rv, ev⟩ =>
    subst ev
    cases rv
    refine ⟨rfl, OldK.of_keep fun b ob e => ?_, os, bare⟩
    cases q : H b with
    | none => exact un.keep b ob e q (fun z => (List.not_mem_nil z).elim) (by simp)
    | some u =>
      obtain ⟨rfl, _, rfl⟩ := only q
      rw [ha] at e
      cases e
      exact (ok' _ _ (un.frzs _ _ _ q)).1
end
end CS
set_option Elab.async false
set_option maxRecDepth 100000
set_option maxHeartbeats 4000000
set_option linter.unusedVariables false
/-! data of any kind: what keeps it, what it is an instance of, slices, sums, membership -/
namespace CS
open PySem L2
end CS
namespace L2
open PySem CS
section
variable {K : PySem.W.Frag} {H H' : Hp}
mutual
theorem Dp.same (e : Same H H') : ∀ {d : PyData} {v : V}, Dp K H v d → Dp K H' v d
  | .none, _, .non => .non
  | .bool _, _, .bl b => .bl b
  | .int _, _, .int i => .int i
  | .str _, _, .str x => .str x
  | .list _, _, .lst h a => .lst (e.seq h) (DpAll.same e a)
  | .tuple _, _, .tup h a => .tup (e.tup h) (DpAll.same e a)
theorem DpAll.same (e : Same H H') : ∀ {ds : List PyData} {vs : List V}, DpAll K H vs ds → DpAll K H' vs ds
  | [], _, .nil => .nil
  | _ :: _, _, .cons a b => .cons (Dp.same e a) (DpAll.same e b)
end

mutual
def flatD : PyData → Bool
  | .list _ => false
  | .dict _ => false
  | .tuple ds => flatDs ds
  | _ => true
def flatDs : List PyData → Bool
  | [] => true
  | d :: ds => flatD d && flatDs ds
end
mutual
theorem Dp.tk (e : TK K H H') : ∀ {d : PyData} {v : V}, flatD d = true → Dp K H v d → Dp K H' v d
  | .none, _, _, .non => .non
  | .bool _, _, _, .bl b => .bl b
  | .int _, _, _, .int i => .int i
  | .str _, _, _, .str x => .str x
  | .tuple ds, _, f, .tup h a => .tup (e _ _ h) (DpAll.tk e (by simpa [flatD] using f) a)
theorem DpAll.tk (e : TK K H H') : ∀ {ds : List PyData} {vs : List V}, flatDs ds = true → DpAll K H vs ds → DpAll K H' vs ds
  | [], _, _, .nil => .nil
  | d :: ds, _, f, .cons a b => by
    have f2 : (flatD d && flatDs ds) = true := by simpa [flatDs] using f
    rw [Bool.and_eq_true] at f2
    exact .cons (Dp.tk e f2.1 a) (DpAll.tk e f2.2 b)
end
theorem DpAll.len : ∀ {vs : List V} {ds : List PyData}, DpAll K H vs ds → vs.length = ds.length
  | _, _, .nil => rfl
  | _, _, .cons _ b => by simp [DpAll.len b]
theorem DpAll.app : ∀ {vs ws : List V} {ds es : List PyData}, DpAll K H vs ds → DpAll K H ws es → DpAll K H (vs ++ ws) (ds ++ es)
  | _, _, _, _, .nil, g => g
  | _, _, _, _, .cons a b, g => .cons a (DpAll.app b g)
theorem DpAll.drop : ∀ {vs : List V} {ds : List PyData} (n : Nat), DpAll K H vs ds → DpAll K H (vs.drop n) (ds.drop n)
  | _, _, 0, h => h
  | _, _, _ + 1, .nil => .nil
  | _, _, n + 1, .cons _ b => DpAll.drop n b
theorem DpAll.take : ∀ {vs : List V} {ds : List PyData} (n : Nat), DpAll K H vs ds → DpAll K H (vs.take n) (ds.take n)
  | _, _, 0, _ => .nil
  | _, _, _ + 1, .nil => .nil
  | _, _, n + 1, .cons a b => .cons a (DpAll.take n b)
theorem DpAll.get : ∀ {vs : List V} {ds : List PyData} {i : Nat} {v : V}, DpAll K H vs ds → vs[i]? = some v → ∃ d, ds[i]? = some d ∧ Dp K H v d
  | _, _, 0, _, .cons a _, e => by
    cases e
    exact ⟨_, rfl, a⟩
  | _, _, i + 1, _, .cons _ b, e => by
    obtain ⟨d, h1, h2⟩ := DpAll.get b (by simpa using e)
    exact ⟨d, by simpa using h1, h2⟩
theorem DpAll.at : ∀ {vs : List V} {ds : List PyData} {i : Nat} {d : PyData}, DpAll K H vs ds → ds[i]? = some d → ∃ v, vs[i]? = some v ∧ Dp K H v d
  | _, _, 0, _, .cons a _, e => by
    cases e
    exact ⟨_, rfl, a⟩
  | _, _, i + 1, _, .cons _ b, e => by
    obtain ⟨v, h1, h2⟩ := DpAll.at b (by simpa using e)
    exact ⟨v, by simpa using h1, h2⟩
theorem DpAll.ints : ∀ ns : List Int, DpAll K H (ns.map V.int) (ns.map PyData.int)
  | [] => .nil
  | n :: ns => .cons (.int n) (DpAll.ints ns)
theorem DpAll.of_ints : ∀ {ns : List Int} {vs : List V}, DpAll K H vs (ns.map PyData.int) → vs = ns.map V.int
  | [], _, .nil => rfl
  | _ :: _, _, .cons (.int _) b => by rw [DpAll.of_ints b]; rfl
theorem Dp.tup_inv {v : V} {ds : List PyData} (h : Dp K H v (.tuple ds)) : ∃ a xs, v = .ref a ∧ SqT K H a xs ∧ DpAll K H xs ds := by
  cases h with
  | tup h a => exact ⟨_, _, rfl, h, a⟩
theorem Dp.lst_inv {v : V} {ds : List PyData} (h : Dp K H v (.list ds)) : ∃ a xs, v = .ref a ∧ SqL K H a xs ∧ DpAll K H xs ds := by
  cases h with
  | lst h a => exact ⟨_, _, rfl, h, a⟩
theorem Dp.new_tup {p : Addr} {xs : List V} {ds : List PyData} (n : H p = none) (h : DpAll K H xs ds) : Dp K (upd H p (.tup xs)) (.ref p) (.tuple ds) := .tup (SqT.of upd_same) (h.same (Same.new n))
theorem Dp.new_lst {p : Addr} {xs : List V} {ds : List PyData} (n : H p = none) (h : DpAll K H xs ds) : Dp K (upd H p (.lst xs)) (.ref p) (.list ds) := .lst (SqL.of upd_same) (h.same (Same.new n))
mutual
theorem Dp.noDict : ∀ {d : PyData} {v : V}, Dp K H v d → d.hasDict = false
  | .none, _, .non => rfl
  | .bool _, _, .bl _ => rfl
  | .int _, _, .int _ => rfl
  | .str _, _, .str _ => rfl
  | .list ds, _, .lst _ a => by
    rw [PyData.hasDict]
    exact DpAll.noDict a
  | .tuple ds, _, .tup _ a => by
    rw [PyData.hasDict]
    exact DpAll.noDict a
theorem DpAll.noDict : ∀ {ds : List PyData} {vs : List V}, DpAll K H vs ds → PyData.hasDictAll ds = false
  | [], _, .nil => rfl
  | d :: ds, _, .cons a b => by
    rw [PyData.hasDictAll, Dp.noDict a, DpAll.noDict b]
    rfl
end
/-! isinstance -/
def tyD : PyData → String
  | .none => "NoneType"
  | .bool _ => "bool"
  | .int _ => "int"
  | .str _ => "str"
  | .list _ => "list"
  | .tuple _ => "tuple"
  | .dict _ => "dict"
theorem TyX.of_lst {p : Addr} {xs : List V} (h : SqL K H p xs) : TyX K H (.ref p) (.type "list") := by
  rcases h with (h | ⟨o, h⟩) | ⟨o, its, n, h, c, _⟩
  · exact .base (.lst h)
  · exact .base (.frz h)
  · exact .kList h c
theorem Dp.ty {v : V} {d : PyData} (h : Dp K H v d) : TyX K H v (.type (tyD d)) := by
  cases h with
  | non => exact .base .non
  | bl b => exact .base (.bl b)
  | int i => exact .base (.int i)
  | str x => exact .base (.str x)
  | lst h _ => exact TyX.of_lst h
  | tup h _ => exact TyX.of_tup h
def isIntD : PyData → Bool
  | .int _ => true
  | .bool _ => true
  | _ => false
theorem kit_int : ∀ d : PyData, d.hasDict = false → kitB (tyD d) "int" = some (isIntD d)
  | .none, _ => (by decide +kernel : kitB "NoneType" "int" = some false)
  | .bool _, _ => (by decide +kernel : kitB "bool" "int" = some true)
  | .int _, _ => (by decide +kernel : kitB "int" "int" = some true)
  | .str _, _ => (by decide +kernel : kitB "str" "int" = some false)
  | .list _, _ => (by decide +kernel : kitB "list" "int" = some false)
  | .tuple _, _ => (by decide +kernel : kitB "tuple" "int" = some false)
  | .dict _, h => by simp [PyData.hasDict] at h
def isBoolD : PyData → Bool
  | .bool _ => true
  | _ => false
theorem kit_bool : ∀ d : PyData, d.hasDict = false → kitB (tyD d) "bool" = some (isBoolD d)
  | .none, _ => (by decide +kernel : kitB "NoneType" "bool" = some false)
  | .bool _, _ => (by decide +kernel : kitB "bool" "bool" = some true)
  | .int _, _ => (by decide +kernel : kitB "int" "bool" = some false)
  | .str _, _ => (by decide +kernel : kitB "str" "bool" = some false)
  | .list _, _ => (by decide +kernel : kitB "list" "bool" = some false)
  | .tuple _, _ => (by decide +kernel : kitB "tuple" "bool" = some false)
  | .dict _, h => by simp [PyData.hasDict] at h
def isStrD : PyData → Bool
  | .str _ => true
  | _ => false
theorem kit_str : ∀ d : PyData, d.hasDict = false → kitB (tyD d) "str" = some (isStrD d)
  | .none, _ => (by decide +kernel : kitB "NoneType" "str" = some false)
  | .bool _, _ => (by decide +kernel : kitB "bool" "str" = some false)
  | .int _, _ => (by decide +kernel : kitB "int" "str" = some false)
  | .str _, _ => (by decide +kernel : kitB "str" "str" = some true)
  | .list _, _ => (by decide +kernel : kitB "list" "str" = some false)
  | .tuple _, _ => (by decide +kernel : kitB "tuple" "str" = some false)
  | .dict _, h => by simp [PyData.hasDict] at h
def isTupleD : PyData → Bool
  | .tuple _ => true
  | _ => false
theorem kit_tuple : ∀ d : PyData, d.hasDict = false → kitB (tyD d) "tuple" = some (isTupleD d)
  | .none, _ => (by decide +kernel : kitB "NoneType" "tuple" = some false)
  | .bool _, _ => (by decide +kernel : kitB "bool" "tuple" = some false)
  | .int _, _ => (by decide +kernel : kitB "int" "tuple" = some false)
  | .str _, _ => (by decide +kernel : kitB "str" "tuple" = some false)
  | .list _, _ => (by decide +kernel : kitB "list" "tuple" = some false)
  | .tuple _, _ => (by decide +kernel : kitB "tuple" "tuple" = some true)
  | .dict _, h => by simp [PyData.hasDict] at h
end
end L2
namespace CS
open PySem L2
section
variable {K : PySem.W.Frag} {H H' : Hp}
/-! class names -/
theorem cn_int {v : V} {i : Int} (h : Dp K H v (.int i)) : CN K H v "int" := by
  cases h
  exact .int i
theorem cn_bool {v : V} {b : Bool} (h : Dp K H v (.bool b)) : CN K H v "bool" := by
  cases h
  exact .bl b
theorem cn_str {v : V} {x : Str} (h : Dp K H v (.str x)) : CN K H v "str" := by
  cases h
  exact .str x
theorem cn_tup {v : V} {ds : List PyData} (h : Dp K H v (.tuple ds)) : CN K H v "tuple" := by
  cases h with
  | tup h a => exact .tup h
end
/-! slices and sums of tuples as data -/
def cutD {α : Type} (xs : List α) (lo hi : Option Int) : List α := (xs.drop (HT.sIx xs.length 0 lo)).take (HT.sIx xs.length xs.length hi - HT.sIx xs.length 0 lo)
def rCutD (K : PySem.W.Frag) : V → Option Int → Option Int → Hp → VK → Prop := fun x lo hi H Q => ∃ ds, Dp K H x (.tuple ds) ∧ ∀ H' v, Same H H' → Dp K H' v (.tuple (cutD ds lo hi)) → Q v H'
section
variable {X : Cx}
theorem sl_data : L2.SlR X (rCutD X.K) := by
  intro pins s σ H x v vl vu lo hi sl Q I rx hs pl pu ⟨ds, hd, q⟩
  obtain ⟨a, xs, rfl, hx, ha⟩ := hd.tup_inv
  have l := ha.len
  refine sl_tupA pins s σ H _ v vl vu lo hi sl Q I rx hs pl pu ⟨a, xs, rfl, hx, fun w => ?_, fun _ p np => ?_⟩
  · refine q H _ (Same.refl H) ?_
    have e : cutD ds lo hi = ds := by
      unfold cutD
      rw [← l, w.1, w.2, List.drop_zero, Nat.sub_zero, l, List.take_length]
    rw [e]
    exact hd
  · refine q _ _ (Same.new np) (.tup (SqT.of upd_same) ?_)
    unfold cutV cutD
    rw [l]
    exact (((ha.drop _).take _).same (Same.new np))
def rSumD (K : PySem.W.Frag) : R2 := fun x y H Q => ∃ ds es, Dp K H x (.tuple ds) ∧ Dp K H y (.tuple es) ∧ ds.length + es.length ≤ 1000 ∧ ∀ H' v, Same H H' → Dp K H' v (.tuple (ds ++ es)) → Q v H'
theorem op_sumD : OpR X (binaryOp .Add) (rSumD X.K) := by
  intro pins s σ H x y v u Q I rx ry ⟨ds, es, hd, he, sz, q⟩
  obtain ⟨a, xs, rfl, hx, ha⟩ := hd.tup_inv
  obtain ⟨b, ys, rfl, hy, hb⟩ := he.tup_inv
  have l1 := ha.len
  have l2 := hb.len
  refine op_catA pins s σ H _ _ v u Q I rx ry ⟨a, b, xs, ys, rfl, rfl, hx, hy, Nat.le_of_lt (small1000 (by omega)), fun e => ?_, fun _ e => ?_, fun _ _ p np => ?_⟩
  · subst e
    have : ds = [] := List.eq_nil_of_length_eq_zero (by rw [← l1]; rfl)
    subst this
    exact q H _ (Same.refl H) he
  · subst e
    have : es = [] := List.eq_nil_of_length_eq_zero (by rw [← l2]; rfl)
    subst this
    rw [List.append_nil] at q
    exact q H _ (Same.refl H) hd
  · exact q _ _ (Same.new np) (Dp.new_tup np (ha.app hb))
/-- x in t, x not in t -/
def rMemD (K : PySem.W.Frag) (neg : Bool) : R2 := fun x y H Q => ∃ d ds, Dp K H x d ∧ Dp K H y (.tuple ds) ∧ SeqAt.shaped d = true ∧ SeqAt.shaped (.tuple ds) = true ∧ Q (.bl (if neg then !ds.any fun z => PyData.eqv z d else ds.any fun z => PyData.eqv z d)) H
theorem op_memT (hu : X.A.units + 64 < cLine) : OpR X (compareOp .In) (rMemD X.K false) := by
  intro pins s σ H x y v u Q I rx ry ⟨d, ds, hd, he, sd, se, q⟩
  obtain ⟨as, r1⟩ := Dp.reads I d x v hd rx
  obtain ⟨bs, r2⟩ := Dp.reads I (.tuple ds) y u he ry
  refine SeqAt.in_tuple_reads r2 r1 (by simpa [PyData.canLay0] using SeqAt.canLay_of_shaped se) (SeqAt.canLay_of_shaped sd) ?_ ⟨.bl _, H, I, rfl, q⟩
  have z := SeqAt.depth_of_shaped se
  have : 1 + PyData.depthAll ds = (PyData.tuple ds).depth := by simp [PyData.depth]; omega
  have := Nat.min_le_left (PyData.depthAll ds) d.depth
  omega
theorem op_notT (hu : X.A.units + 64 < cLine) : OpR X (compareOp .NotIn) (rMemD X.K true) := by
  intro pins s σ H x y v u Q I rx ry ⟨d, ds, hd, he, sd, se, q⟩
  obtain ⟨as, r1⟩ := Dp.reads I d x v hd rx
  obtain ⟨bs, r2⟩ := Dp.reads I (.tuple ds) y u he ry
  refine SeqAt.notIn_tuple_reads r2 r1 (by simpa [PyData.canLay0] using SeqAt.canLay_of_shaped se) (SeqAt.canLay_of_shaped sd) ?_ ⟨.bl _, H, I, rfl, q⟩
  have z := SeqAt.depth_of_shaped se
  have : 1 + PyData.depthAll ds = (PyData.tuple ds).depth := by simp [PyData.depth]; omega
  have := Nat.min_le_left (PyData.depthAll ds) d.depth
  omega
def rMemL (K : PySem.W.Frag) : R2 := fun x y H Q => ∃ d ds, Dp K H x d ∧ Dp K H y (.list ds) ∧ SeqAt.shaped d = true ∧ SeqAt.shaped (.list ds) = true ∧ Q (.bl (ds.any fun z => PyData.eqv z d)) H
theorem op_memL (hu : X.A.units + 65 < cLine) : OpR X (compareOp .In) (rMemL X.K) := fun pins s σ H x y v u Q I rx ry h => op_inD hu pins s σ H x y v u Q I rx ry h
end
end CS
set_option Elab.async false
set_option maxRecDepth 100000
set_option maxHeartbeats 8000000
set_option linter.unusedVariables false
namespace CS
open PySem L2
/-- a def that tells whether a datum is so -/
def spD1 (K : PySem.W.Frag) (f : PyData → Bool) : Sp := fun vs H Q _ => ∃ v d, vs = [v] ∧ Dp K H v d ∧ Q (.bl (f d)) H
def wholeD : PyData → Bool
  | .int _ => true
  | _ => false
def wordD : PyData → Bool
  | .str _ => true
  | _ => false
def rowD : PyData → Bool
  | .tuple _ => true
  | _ => false
def rowOfD : PyData → Int → Bool
  | .tuple ds, n => decide ((ds.length : Int) = n)
  | _, _ => false
def spRowOfD (K : PySem.W.Frag) : Sp := fun vs H Q _ => ∃ v d n, vs = [v, .int n] ∧ Dp K H v d ∧ Q (.bl (rowOfD d n)) H
/-- a word and a number of things, of a tuple -/
def sortD (sorts : List PyData) : PyData → Bool
  | .tuple (.str x :: ds) => sorts.any fun z => PyData.eqv z (.tuple [.str x, .int ((ds.length + 1 : Nat) : Int)])
  | _ => false
def spSortD (K : PySem.W.Frag) : Sp := fun vs H Q _ => ∃ v d u sorts, vs = [v, u] ∧ Dp K H v d ∧ Dp K H u (.tuple sorts) ∧ SeqAt.shaped d = true ∧ SeqAt.shaped (.tuple sorts) = true ∧ ∀ H', Same H H' → Q (.bl (sortD sorts d)) H'
theorem shaped_head {x : Str} {ds : List PyData} {i : Int} (h : SeqAt.shaped (.tuple (.str x :: ds)) = true) : SeqAt.shaped (.tuple [.str x, .int i]) = true := by
  have h1 := SeqAt.canLay_of_shaped h
  simp [PyData.canLay0, PyData.canLayAll0] at h1
  simp [SeqAt.shaped, PyData.canLay0, PyData.canLayAll0, PyData.depth, PyData.depthAll, h1.1]
section
variable {P : Program} {w : World} {K : PySem.W.Frag} {mg : Str → Option Value} {base : Heap}
theorem ok_wholeD {f : Addr} {fd : FuncData} (F : Df K mg "is_whole" sIsWhole ["thing"] f fd) (T : Bt mg) : FnOk P w K mg base CX0 1 f fd ["thing"] (spD1 K wholeD) := by
  refine F.F.ok scIsWhole (fun vs H Q E h => ?_) (fun cdv A outer s H vs Q E hr h => ?_)
  · obtain ⟨v, d, rfl, _⟩ := h
    rfl
  · obtain ⟨v, d, rfl, hd, k⟩ := h
    refine ⟨_, pss_one (ps_ret (pe_and (pe_callB call_isi (by rfl) T.isinstance (by decide +kernel) (pa_cons (pv 0) (pa_cons (pe_bltn (v := .ty "int") (by rfl) T.int (by decide +kernel) rfl) pa_nil))) (pe_one (pe_cmpR op_eq (pe_cn (pv 0)) pe_str (nomark _))))), ?_⟩
    refine ⟨_, rfl, _, _, _, _, _, rfl, .ty _, hd.ty, kit_ty (kit_int d hd.noDict), _, rfl, ?_⟩
    cases d with
    | int i => exact iteT ⟨_, rfl, _, cn_int hd, rfl, k⟩
    | bool b => exact iteT ⟨_, rfl, _, cn_bool hd, rfl, k⟩
    | none => exact iteF k
    | str x => exact iteF k
    | list ds => exact iteF k
    | tuple ds => exact iteF k
    | dict ds => exact iteF k
theorem scIsWord : FnScope ["thing"] ["thing"] (defScope sIsWord) := ⟨rfl, rfl, rfl, by decide +kernel, rfl, by decide +kernel, by decide +kernel⟩
theorem ok_wordD {f : Addr} {fd : FuncData} (F : Df K mg "is_word" sIsWord ["thing"] f fd) (T : Bt mg) (mstr : mg "str" = none) : FnOk P w K mg base CX0 1 f fd ["thing"] (spD1 K wordD) := by
  refine F.F.ok scIsWord (fun vs H Q E h => ?_) (fun cdv A outer s H vs Q E hr h => ?_)
  · obtain ⟨v, d, rfl, _⟩ := h
    rfl
  · obtain ⟨v, d, rfl, hd, k⟩ := h
    refine ⟨_, pss_one (ps_ret (pe_and (pe_callB call_isi (by rfl) T.isinstance (by decide +kernel) (pa_cons (pv 0) (pa_cons (pe_bltn (v := .ty "str") (by rfl) mstr (by decide +kernel) rfl) pa_nil))) (pe_one (pe_cmpR op_eq (pe_cn (pv 0)) pe_str (nomark _))))), ?_⟩
    refine ⟨_, rfl, _, _, _, _, _, rfl, .ty _, hd.ty, kit_ty (kit_str d hd.noDict), _, rfl, ?_⟩
    cases d with
    | str x => exact iteT ⟨_, rfl, _, cn_str hd, rfl, k⟩
    | int i => exact iteF k
    | bool b => exact iteF k
    | none => exact iteF k
    | list ds => exact iteF k
    | tuple ds => exact iteF k
    | dict ds => exact iteF k
theorem ok_rowD {f : Addr} {fd : FuncData} (F : Df K mg "is_row" sIsRow ["thing"] f fd) (T : Bt mg) : FnOk P w K mg base CX0 1 f fd ["thing"] (spD1 K rowD) := by
  refine F.F.ok scIsRow (fun vs H Q E h => ?_) (fun cdv A outer s H vs Q E hr h => ?_)
  · obtain ⟨v, d, rfl, _⟩ := h
    rfl
  · obtain ⟨v, d, rfl, hd, k⟩ := h
    refine ⟨_, pss_one (ps_ret (pe_and (pe_callB call_isi (by rfl) T.isinstance (by decide +kernel) (pa_cons (pv 0) (pa_cons (pe_bltn (v := .ty "tuple") (by rfl) T.tuple (by decide +kernel) rfl) pa_nil))) (pe_one (pe_cmpR op_eq (pe_cn (pv 0)) pe_str (nomark _))))), ?_⟩
    refine ⟨_, rfl, _, _, _, _, _, rfl, .ty _, hd.ty, kit_ty (kit_tuple d hd.noDict), _, rfl, ?_⟩
    cases d with
    | tuple ds => exact iteT ⟨_, rfl, _, cn_tup hd, rfl, k⟩
    | str x => exact iteF k
    | int i => exact iteF k
    | bool b => exact iteF k
    | none => exact iteF k
    | list ds => exact iteF k
    | dict ds => exact iteF k
theorem ok_row_ofD {f f1 : Addr} {fd fd1 : FuncData} (F : Df K mg "is_row_of" sIsRowOf ["thing", "many"] f fd) (F1 : Df K mg "is_row" sIsRow ["thing"] f1 fd1) (G1 : FnOk P w K mg base CX0 1 f1 fd1 ["thing"] (spD1 K rowD)) (T : Bt mg) : FnOk P w K mg base CX0 2 f fd ["thing", "many"] (spRowOfD K) := by
  refine F.F.ok scIsRowOf (fun vs H Q E h => ?_) (fun cdv A outer s H vs Q E hr h => ?_)
  · obtain ⟨v, d, n, rfl, _⟩ := h
    rfl
  · obtain ⟨v, d, n, rfl, hd, k⟩ := h
    refine ⟨_, pss_one (ps_ret (pe_and (pe_call G1 hr (by rfl) F1.g F1.F.kp F1.b .nil pass0 (pa_cons (pv 0) pa_nil)) (pe_one (pe_cmpR op_eq (pe_callB call_len_seq (by rfl) T.len PySem.boot_len (pa_cons (pv 0) pa_nil)) (pv 1) (nomark _))))), ?_⟩
    refine ⟨_, rfl, v, d, rfl, hd, _, rfl, ?_⟩
    cases d with
    | tuple ds =>
      obtain ⟨a, xs, rfl, hs, ha⟩ := hd.tup_inv
      refine iteT ⟨_, rfl, a, xs, rfl, .inr hs, _, rfl, rfl, ?_⟩
      have e : decide (V.int (xs.length : Int) = V.int n) = decide ((ds.length : Int) = n) := by
        rw [decide_eq_decide, ha.len]
        exact ⟨V.int.inj, fun h => congrArg V.int h⟩
      rw [e]
      exact k
    | str x => exact iteF k
    | int i => exact iteF k
    | bool b => exact iteF k
    | none => exact iteF k
    | list ds => exact iteF k
    | dict ds => exact iteF k
end
end CS
set_option Elab.async false
set_option maxRecDepth 100000
set_option maxHeartbeats 8000000
set_option linter.unusedVariables false
namespace L2
open PySem CS
theorem DpAll.of_bools {K : PySem.W.Frag} {H : Hp} : ∀ {bs : List Bool} {vs : List V}, DpAll K H vs (bs.map PyData.bool) → vs = bs.map V.bl
  | [], _, .nil => rfl
  | _ :: _, _, .cons (.bl _) b => by rw [DpAll.of_bools b]; rfl
theorem flatDs_app : ∀ {ds es : List PyData}, flatDs ds = true → flatDs es = true → flatDs (ds ++ es) = true
  | [], _, _, h => h
  | d :: ds, es, g, h => by
    have g2 : (flatD d && flatDs ds) = true := by simpa [flatDs] using g
    rw [Bool.and_eq_true] at g2
    show (flatD d && flatDs (ds ++ es)) = true
    rw [g2.1, flatDs_app g2.2 h]
    rfl
theorem flatDs_ints : ∀ ns : List Int, flatDs (ns.map PyData.int) = true
  | [] => rfl
  | n :: ns => by
    show (flatD (.int n) && flatDs (ns.map PyData.int)) = true
    rw [flatDs_ints ns]
    rfl
end L2
namespace CS
open PySem L2
theorem iteTe {b : Bool} {A B : Prop} {i : Decidable (b = true)} (e : b = true) (h : A) : @ite Prop (b = true) i A B := by
  rw [if_pos e]
  exact h
theorem iteFe {b : Bool} {A B : Prop} {i : Decidable (b = true)} (e : b = false) (h : B) : @ite Prop (b = true) i A B := by
  subst e
  rw [if_neg Bool.false_ne_true]
  exact h
/-- a list of data that a comprehension makes at D; H1 stood ahead -/
def LcD (K : PySem.W.Frag) (H1 : Hp) (D : Addr) (es : List PyData) (H : Hp) : Prop := ∃ ws, H D = some (.lst ws) ∧ Same H1 H ∧ DpAll K H ws es
section
variable {K : PySem.W.Frag} {H1 H H4 : Hp} {D : Addr}
theorem LcD.start (n : H1 D = none) : LcD K H1 D [] (upd H1 D (.lst [])) := ⟨[], upd_same, Same.new n, .nil⟩
theorem LcD.same {es : List PyData} (h : LcD K H1 D es H) : Same H1 H := by
  obtain ⟨ws, _, s, _⟩ := h
  exact s
theorem LcD.step {es : List PyData} {e : PyData} {y : V} (n : H1 D = none) (h : LcD K H1 D es H) (s : Same H H4) (hy : Dp K H4 y e) (f : flatDs es = true) (g : flatD e = true) (sz : es.length ≤ 1000) :
    ∃ acc, H4 D = some (.lst acc) ∧ acc.length < sizeLine ∧ LcD K H1 D (es ++ [e]) (upd H4 D (.lst (acc ++ [y]))) := by
  obtain ⟨ws, h1, s1, hd⟩ := h
  have h2 := s _ _ h1
  refine ⟨ws, h2, small1000 (by rw [hd.len]; exact sz), ws ++ [y], upd_same, same_upd n (s1.trans s), ?_⟩
  exact DpAll.tk (tk_lst h2) (flatDs_app f (by show (flatD e && flatDs []) = true; rw [g]; rfl)) ((hd.same s).app (.cons hy .nil))
theorem LcD.ints {ns : List Int} (h : LcD K H1 D (ns.map PyData.int) H) : H D = some (.lst (ns.map V.int)) := by
  obtain ⟨ws, h1, _, hd⟩ := h
  rw [hd.of_ints] at h1
  exact h1
theorem LcD.bools {bs : List Bool} (h : LcD K H1 D (bs.map PyData.bool) H) : H D = some (.lst (bs.map V.bl)) := by
  obtain ⟨ws, h1, _, hd⟩ := h
  rw [hd.of_bools] at h1
  exact h1
end
/-- t[lo:hi] of a tuple, whatever its items -/
def rCutV (K : PySem.W.Frag) : V → Option Int → Option Int → Hp → VK → Prop := fun x lo hi H Q => ∃ a xs, x = .ref a ∧ SqT K H a xs ∧ ∀ H' b, Same H H' → SqT K H' b (cutD xs lo hi) → Q (.ref b) H'
theorem sl_any {X : Cx} : L2.SlR X (rCutV X.K) := by
  intro pins s σ H x v vl vu lo hi sl Q I rx hs pl pu ⟨a, xs, ex, hx, q⟩
  subst ex
  refine sl_tupA pins s σ H _ v vl vu lo hi sl Q I rx hs pl pu ⟨a, xs, rfl, hx, fun w => ?_, fun _ p np => ?_⟩
  · refine q H _ (Same.refl H) ?_
    have e : cutD xs lo hi = xs := by
      unfold cutD
      rw [w.1, w.2, List.drop_zero, Nat.sub_zero, List.take_length]
    rw [e]
    exact hx
  · exact q _ _ (Same.new np) (SqT.of upd_same)
theorem cutD_nat {α : Type} {xs : List α} {i j : Nat} (h : j ≤ xs.length) (hij : i ≤ j) : cutD xs (some (i : Int)) (some (j : Int)) = (xs.drop i).take (j - i) := by
  unfold cutD
  rw [HT.sIx_nat, HT.sIx_nat, Nat.min_eq_left h, Nat.min_eq_left (Nat.le_trans hij h)]
/-! the mathematics of bends -/
def riseL (a b : List Int) : List Int := List.zipWith (fun lo hi => hi - lo) a b
def at0 (ns : List Int) (j : Nat) : Int := ns.getD j 0
def bowL (ms rs : List Int) (j : Nat) : Int := (at0 rs (j + 2) - at0 rs (j + 1)) * (at0 ms (j + 1) - at0 ms j) - (at0 rs (j + 1) - at0 rs j) * (at0 ms (j + 2) - at0 ms (j + 1))
def bendRow (ms rs : List Int) (way : Int) (i : Nat) : List (Nat × Nat) := ((List.range (ms.length - 2)).filter fun j => decide (0 < bowL ms rs j * way)).map fun j => (i, j)
def bendsL (ms : List Int) (rows : List (List Int)) (way : Int) : Nat → List (Nat × Nat)
  | 0 => []
  | n + 1 => bendsL ms rows way n ++ bendRow ms (riseL (rows.getD n []) (rows.getD (n + 1) [])) way n
def bendsT (ms : List Int) (rows : List (List Int)) (way : Int) : List (Nat × Nat) := bendsL ms rows way (rows.length - 1)
def plD (a : Nat × Nat) : PyData := .tuple [.int (a.1 : Int), .int (a.2 : Int)]
def costD (rows : List (List Int)) : PyData := .tuple (rows.map fun r => .tuple (r.map PyData.int))
/-- costs of n rows, m places each, not too great -/
structure CostOk (rows : List (List Int)) (n m : Nat) : Prop where
  len : rows.length = n
  wide : ∀ r ∈ rows, r.length = m
  small : ∀ r ∈ rows, ∀ c ∈ r, c.natAbs ≤ 1000
theorem riseL_len {a b : List Int} {m : Nat} (ha : a.length = m) (hb : b.length = m) : (riseL a b).length = m := by
  unfold riseL
  rw [List.length_zipWith, ha, hb, Nat.min_self]
theorem riseL_small {a b : List Int} (ha : ∀ c ∈ a, c.natAbs ≤ 1000) (hb : ∀ c ∈ b, c.natAbs ≤ 1000) : ∀ c ∈ riseL a b, c.natAbs ≤ 2000 := by
  intro c hc
  unfold riseL at hc
  rw [List.mem_iff_getElem?] at hc
  obtain ⟨i, hi⟩ := hc
  rw [List.getElem?_zipWith] at hi
  cases e1 : a[i]? with
  | none => rw [e1] at hi; cases hi
  | some x =>
    cases e2 : b[i]? with
    | none => rw [e1, e2] at hi; cases hi
    | some y =>
      rw [e1, e2] at hi
      cases hi
      have h1 := ha x (List.mem_of_getElem? e1)
      have h2 := hb y (List.mem_of_getElem? e2)
      omega
theorem at0_get {ns : List Int} {j : Nat} (h : j < ns.length) : ns[j]? = some (at0 ns j) := by
  unfold at0
  rw [List.getD_eq_getElem?_getD, List.getElem?_eq_getElem h]
  rfl
theorem at0_mem {ns : List Int} {j : Nat} (h : j < ns.length) : at0 ns j ∈ ns := List.mem_of_getElem? (at0_get h)
theorem bendRow_len (ms rs : List Int) (way : Int) (i : Nat) : (bendRow ms rs way i).length ≤ ms.length := by
  unfold bendRow
  rw [List.length_map]
  refine Nat.le_trans (List.length_filter_le _ _) ?_
  rw [List.length_range]
  omega
theorem bendsL_len (ms : List Int) (rows : List (List Int)) (way : Int) : ∀ n, (bendsL ms rows way n).length ≤ n * ms.length
  | 0 => by show 0 ≤ _; exact Nat.zero_le _
  | n + 1 => by
    have := bendsL_len ms rows way n
    have h2 := bendRow_len ms (riseL (rows.getD n []) (rows.getD (n + 1) [])) way n
    show (bendsL ms rows way n ++ _).length ≤ _
    rw [List.length_append, Nat.add_mul, Nat.one_mul]
    omega
theorem flat_pls : ∀ ps : List (Nat × Nat), flatDs (ps.map plD) = true
  | [] => rfl
  | p :: ps => by
    show (flatD (plD p) && flatDs (ps.map plD)) = true
    rw [flat_pls ps]
    rfl
section
variable {P : Program} {w : World} {K : PySem.W.Frag} {mg : Str → Option Value} {base : Heap}
def spCostRow (K : PySem.W.Frag) : Sp := fun vs H Q _ => ∃ (v : V) (row : List Int), vs = [v, .int ((row.length : Nat) : Int)] ∧ Dp K H v (.tuple (row.map PyData.int)) ∧ (∀ c ∈ row, c.natAbs ≤ 1000) ∧ row.length ≤ 900 ∧ ∀ H', Same H H' → Q (.bl true) H'
def spNeedCosts (K : PySem.W.Frag) : Sp := fun vs H Q _ => ∃ (p q : Addr) (v : V) (xs ys : List (Int × Fx)) (rows : List (List Int)), vs = [.ref p, .ref q, v] ∧ ShAt K H p xs ∧ ShAt K H q ys ∧ Shr xs ∧ Shr ys ∧ Dp K H v (costD rows) ∧ CostOk rows xs.length ys.length ∧ ∀ H', Same H H' → Q v H'
end
end CS
set_option Elab.async false
set_option maxRecDepth 100000
set_option maxHeartbeats 4000000
set_option linter.unusedVariables false
/-! A function object as a value: what its call without arguments does is told by a promise over the abstract heap, in which the cells that it captured are tracked, too. -/
namespace CS
open PySem PySem.Spec PyProof.Rows L2 LamX
/-- the function object at f -/
def FunO (f : Addr) (fd : FuncData) : HO := .ext fun h => ∃ od sl, h.get? f = some (⟨.type "function", od, .func fd, sl⟩ : Obj)
/-- the very object at c -/
def CellX (c : Addr) (o : Obj) : HO := .ext fun h => h.get? c = some o
theorem funO_at {P : Program} {w : World} {H : Hp} {h : Heap} {f : Addr} {fd : FuncData} (ok : HOk P w H h) (e : H f = some (FunO f fd)) : ∃ od sl, h.get? f = some (⟨.type "function", od, .func fd, sl⟩ : Obj) := by
  have x : ObjOk P w H h f (FunO f fd) := ok f _ e
  exact x.1
theorem cellX_at {P : Program} {w : World} {H : Hp} {h : Heap} {c : Addr} {o : Obj} (ok : HOk P w H h) (e : H c = some (CellX c o)) : h.get? c = some o := by
  have x : ObjOk P w H h c (CellX c o) := ok c _ e
  exact x.1
theorem cellX_ok {P : Program} {w : World} {H : Hp} {h : Heap} {c : Addr} {o : Obj} (e : h.get? c = some o) : ObjOk P w H h c (CellX c o) := ⟨e, ⟨o, e⟩, fun _ _ z k => k _ z⟩
/-- with the objects of l tracked, without them -/
def addC (l : Addr → Option Obj) (H : Hp) : Hp := fun b => match l b with
  | some o => some (CellX b o)
  | none => H b
def Free (l : Addr → Option Obj) (H : Hp) : Prop := ∀ b o, l b = some o → H b = none
def Cin (l : Addr → Option Obj) (H : Hp) : Prop := ∀ b o, l b = some o → H b = some (CellX b o)
def subC (l : Addr → Option Obj) (H : Hp) : Hp := fun b => if (l b).isSome then none else H b
section
variable {l : Addr → Option Obj} {H H2 : Hp} {b : Addr} {o : Obj}
theorem addC_in (e : l b = some o) : addC l H b = some (CellX b o) := by
  unfold addC
  rw [e]
theorem addC_out (e : l b = none) : addC l H b = H b := by
  unfold addC
  rw [e]
theorem subC_in (e : l b = some o) : subC l H b = none := by
  unfold subC
  rw [e]
  rfl
theorem subC_out (e : l b = none) : subC l H b = H b := by
  unfold subC
  rw [e]
  rfl
theorem cin_add : Cin l (addC l H) := fun _ _ e => addC_in e
theorem free_sub : Free l (subC l H) := fun _ _ e => subC_in e
theorem sub_add (F : Free l H) : subC l (addC l H) = H := by
  funext b
  cases e : l b with
  | none => rw [subC_out e, addC_out e]
  | some o => rw [subC_in e, F b o e]
theorem add_sub (C : Cin l H) : addC l (subC l H) = H := by
  funext b
  cases e : l b with
  | none => rw [addC_out e, subC_out e]
  | some o => rw [addC_in e, C b o e]
theorem Cin.out (C : Cin l H) {u : HO} (e : H b = some u) (n : ∀ c o, u ≠ CellX c o) : l b = none := by
  cases q : l b with
  | none => rfl
  | some o =>
    have := C b o q
    rw [e] at this
    exact absurd (Option.some.inj this) (n b o)
theorem Free.out (F : Free l H) {u : HO} (e : H b = some u) : l b = none := by
  cases q : l b with
  | none => rfl
  | some o =>
    rw [F b o q] at e
    cases e
theorem cx_tup {c : Addr} {o : Obj} {xs : List V} : (HO.tup xs) ≠ CellX c o := fun z => by
  unfold CellX at z
  cases z
theorem cx_frz {c : Addr} {o o2 : Obj} {u : HO} : (HO.frz o2 u) ≠ CellX c o := fun z => by
  unfold CellX at z
  cases z
theorem cx_tbl {c : Addr} {o : Obj} {ps : Array Value} : (HO.tbl ps) ≠ CellX c o := fun z => by
  unfold CellX at z
  cases z
theorem sub_none (n : H b = none) : subC l H b = none := by
  unfold subC
  split
  · rfl
  · exact n
end
section
variable {P : Program} {w : World} {l : Addr → Option Obj} {H H2 : Hp} {h h' : Heap} {fs : List Addr}
theorem hok_sub (C : Cin l H) (ok : HOk P w H h) : HOk P w (subC l H) h := fun b u e => by
  have hb : l b = none := free_sub.out e
  rw [subC_out hb] at e
  refine (ok b u e).stay (fun _ _ _ q => q) (fun c hc => ?_) (fun c xs hc => ?_)
  · rw [subC_out (C.out hc fun _ _ z => by unfold CellX at z; cases z)]
    exact hc
  · rw [subC_out (C.out hc fun _ _ => cx_tup)]
    exact hc
theorem hok_add (F : Free l H2) (ok : HOk P w H2 h) (k : ∀ b o, l b = some o → h.get? b = some o) : HOk P w (addC l H2) h := fun b u e => by
  cases q : l b with
  | some o =>
    rw [addC_in q] at e
    cases e
    exact cellX_ok (k b o q)
  | none =>
    rw [addC_out q] at e
    refine (ok b u e).stay (fun _ _ _ q => q) (fun c hc => ?_) (fun c xs hc => ?_)
    · rw [addC_out (F.out hc)]
      exact hc
    · rw [addC_out (F.out hc)]
      exact hc
/-- the step of a body, told with the cells -/
theorem un_add (C : Cin l H) (F : Free l H2) (u : Un fs [] (subC l H) H2 h h') : Un fs [] H (addC l H2) h h' where
  keep := fun b o q n hb hx => u.keep b o q (sub_none n) hb hx
  slot := fun b o q n hb hx => u.slot b o q (sub_none n) hb hx
  free := fun b o q n hx => by
    have e : l b = none := by
      cases z : l b with
      | none => rfl
      | some o2 =>
        rw [C b o2 z] at n
        cases n
    rw [addC_out e]
    exact u.free b o q (sub_none n) hx
  there := u.there
  tups := fun b xs e => by
    have q := C.out e fun _ _ => cx_tup
    rw [addC_out q]
    exact u.tups b xs (by rw [subC_out q]; exact e)
  frzs := fun b o2 x e => by
    have q := C.out e fun _ _ => cx_frz
    rw [addC_out q]
    exact u.frzs b o2 x (by rw [subC_out q]; exact e)
  tbls := fun b ps e => by
    have q := C.out e fun _ _ => cx_tbl
    rw [addC_out q]
    exact u.tbls b ps (by rw [subC_out q]; exact e)
/-- .. and a caller's, told without them -/
theorem un_sub (F : Free l H) (C : Cin l H2) (hk : HOk P w H2 h') (hh : ∀ b o, l b = some o → h.get? b = some o) (u : Un fs [] (addC l H) H2 h h') : Un fs [] H (subC l H2) h h' where
  keep := fun b o q n hb hx => by
    cases z : l b with
    | none => exact u.keep b o q (by rw [addC_out z]; exact n) hb hx
    | some o2 =>
      have e := hh b o2 z
      rw [q] at e
      cases e
      exact cellX_at hk (C b _ z)
  slot := fun b o q n hb hx => by
    cases z : l b with
    | none => exact u.slot b o q (by rw [addC_out z]; exact n) hb hx
    | some o2 =>
      have e := hh b o2 z
      rw [q] at e
      cases e
      exact ⟨o.slots, cellX_at hk (C b _ z)⟩
  free := fun b o q n hx => by
    cases z : l b with
    | none => exact sub_none (u.free b o q (by rw [addC_out z]; exact n) hx)
    | some o2 => exact subC_in z
  there := u.there
  tups := fun b xs e => by
    have q := F.out e
    have := u.tups b xs (by rw [addC_out q]; exact e)
    rw [subC_out q]
    exact this
  frzs := fun b o2 x e => by
    have q := F.out e
    have := u.frzs b o2 x (by rw [addC_out q]; exact e)
    rw [subC_out q]
    exact this
  tbls := fun b ps e => by
    have q := F.out e
    have := u.tbls b ps (by rw [addC_out q]; exact e)
    rw [subC_out q]
    exact this
/-- an exception that leaves a body, told with the cells -/
theorem cx_add {outer : List Env} {s s' : Shared} {E : XK} {u : Value} (C : Cin l H) (ok : HOk P w H s.heap) (nf : ∀ b ∈ frs outer, H b = none) (c : L2.CX P w outer (subC l H) s (fun cls d H' => Free l H' → E cls d (addC l H')) u s') : L2.CX P w outer H s E u s' := by
  obtain ⟨a, B, H', cls, d, rfl, fl, hok, ub, na, os, ag, hE⟩ := c
  have hh : ∀ b o, l b = some o → s.heap.get? b = some o := fun b o e => cellX_at ok (C b o e)
  have nfr : ∀ b o, l b = some o → b ∉ frs outer := fun b o e z => by
    have := nf b z
    rw [C b o e] at this
    cases this
  have F : Free l H' := fun b o e => ub.free b o (hh b o e) (subC_in e)
  have kB : ∀ b o, l b = some o → B.get? b = some o := fun b o e => ub.keep b o (hh b o e) (subC_in e) (nfr b o e)
  refine ⟨a, B, addC l H', cls, d, rfl, fl, hok_add F hok kB, ⟨fun b o q n hb => ub.keep b o q (sub_none n) hb, ub.slot, fun b o q n => ?_, ub.there, fun b xs e => ?_, fun b o2 x e => ?_, fun b ps e => ?_⟩, ?_, os, ag, hE F⟩
  · have e : l b = none := by
      cases z : l b with
      | none => rfl
      | some o2 =>
        rw [C b o2 z] at n
        cases n
    rw [addC_out e]
    exact ub.free b o q (sub_none n)
  · have q := C.out e fun _ _ => cx_tup
    rw [addC_out q]
    exact ub.tups b xs (by rw [subC_out q]; exact e)
  · have q := C.out e fun _ _ => cx_frz
    rw [addC_out q]
    exact ub.frzs b o2 x (by rw [subC_out q]; exact e)
  · have q := C.out e fun _ _ => cx_tbl
    rw [addC_out q]
    exact ub.tbls b ps (by rw [subC_out q]; exact e)
  · cases z : l a with
    | none => rw [addC_out z]; exact na
    | some o =>
      have e1 := kB a o z
      have e2 : B.get? a = none := fl.2.1
      rw [e1] at e2
      cases e2
end
/-! what a function object's call does -/
abbrev Act := Addr → Hp → VK → XK → Prop
def ActOk (P : Program) (w : World) (K : PySem.W.Frag) (mg : Str → Option Value) (base : Heap) (k : Nat) (act : Act) : Prop :=
  ∀ (f : Addr) (A : Around) (outer : List Env) (s : Shared) (H : Hp) (Q : VK) (E : XK), Room k A → Env0 P w K mg base A outer s H → act f H Q E →
    (∃ fd, H f = some (FunO f fd)) ∧ codeAny (model P w) A (.call (.ref f) ⟨[], []⟩) (CR (L2.CX P w) outer P w H s Q E) s
section
variable {X : Cx} {act : Act} {k i : Nat} {x : Str} {E : L2.St → XK} {p pos : PySem.Pos}
def tAct (act : Act) (i : Nat) (E : L2.St → XK) : TE := fun σ H Q => ∃ f, σ[i]? = some (some (.ref f)) ∧ act f H Q (E σ)
/-- x(), x a name that holds such an object -/
theorem pe_act0 (ha : ActOk X.prog X.w X.K X.mg X.base k act) (hr : Room k X.A) (hx : ∀ σ, PassesAt (L2.CX X.prog X.w) X σ (E σ)) (hN : X.N[i]? = some x) (hv : Vis X.env.scope x) (hd : (x == ("__debug__" : Str)) = false := by decide) (hcd : (x == ("__classdict__" : Str)) = false := by decide) :
    PE X (.Call (.Name x p) [] [] pos) (tAct act i E) := by
  refine ⟨fun pins s σ H Q I h => ?_⟩
  obtain ⟨f, hs, q⟩ := h
  obtain ⟨⟨fd, hf⟩, hc⟩ := ha f X.A X.stack s H Q (E σ) hr I.env0 q
  have hv2 := (pe_var (pos := p) hN hv hd hcd).run pins s σ H (fun v H1 => v = .ref f ∧ H1 = H ∧ act f H Q (E σ)) I ⟨.ref f, hs, rfl, rfl, q⟩
  refine wpAny_Call_Name_kw (thn hv2 fun u s1 ⟨v, H1, I1, r1, ev, eH, q1⟩ => ?_)
  subst ev
  subst eH
  obtain rfl : u = Value.ref f := r1
  obtain ⟨⟨fd, hf⟩, hc⟩ := ha f X.A X.stack s1 H1 Q (E σ) hr I1.env0 q1
  obtain ⟨od, sl, ho⟩ := funO_at I1.hok hf
  refine PySem.W.callWith_F0 (first := []) ⟨_, od, _, sl, ho⟩ ?_
  show wpAny _ _ (call (.ref f) []) _ _ _
  refine wpAny_call (codeAny_mono hc fun r s' hq => ?_)
  match r with
  | .error er => exact hx σ pins H1 s1 er s' I1 hq
  | .ok (.ret u) => exact I1.after hq
  | .ok .next => exact hq.elim
  | .ok .brk => exact hq.elim
  | .ok .cont => exact hq.elim
end
/-! a lambda's call -/
/-- the scope of a lambda whose own names (its parameters) are none of N -/
structure LScope (sc scope : Scope) (N : List Str) : Prop where
  kind : scope.kind = .function
  co : scope.isCoroutine = false
  gen : scope.isGenerator = false
  cell : ∀ y ∈ scope.names, y.2 ≠ .cell
  own : ∀ y ∈ scope.names, y.2 = .local → y.1 ∉ N
  free : ∀ y ∈ scope.names, y.2 = .free → sc.names.lookup y.1 = some .cell ∨ sc.names.lookup y.1 = some .free
theorem LScope.has {X : Cx} {scope : Scope} {N : List Str} (L : LScope X.env.scope scope N) (ok : X.Ok) : ∀ y ∈ scope.names, y.2 = .free → ∃ c, X.env.cells.lookup y.1 = some c := fun y hy e =>
  (L.free y hy e).elim (fun k => ok.has _ (.inl k)) fun k => ok.has _ (.inr k)
abbrev clo (X : Cx) (scope : Scope) : List (Str × Addr) := cloFrom X.env.cells scope.names []
abbrev lfd (X : Cx) (scope : Scope) (params : Arguments) (body : Expr) (c' : Addr) (dV doc pm ctv : Value) : FuncData :=
  PySem.W.kdv_fn "<lambda>" (X.env.qual ++ "<lambda>") params (.expr body) scope (clo X scope) dV doc pm (.ref c') ctv
/-- the objects of l are the captured cells, with what the slots tell -/
structure Held (X : Cx) (scope : Scope) (σ : L2.St) (l : Addr → Option Obj) : Prop where
  all : ∀ y c, (clo X scope).lookup y = some c → ∃ o v, l c = some o ∧ o.data = .cell v
  val : ∀ (i : Nat) (x : Str) (v : V), X.N[i]? = some x → σ[i]? = some (some v) → scope.names.lookup x = some .free → ∃ c o u, (clo X scope).lookup x = some c ∧ l c = some o ∧ o.data = .cell (some u) ∧ RelV v u
section
variable {X : Cx} {scope : Scope} {σ : L2.St} {l : Addr → Option Obj} {params : Arguments} {body : Expr} {f c' : Addr} {dV doc pm ctv : Value} {k : Nat} {binds : List (Str × Value)} {E : XK} {tb : TE}
theorem lam_inv {A : Around} {outer : List Env} {s : Shared} {H : Hp} {h₁ : Heap} {tk : Nat} (ok : X.Ok) (L : LScope X.env.scope scope X.N) (V : Held X scope σ l) (hlen : σ.length = X.N.length) (C : Cin l H) (e0 : Env0 X.prog X.w X.K X.mg X.base A outer s H) (hd : A.handled = none)
    (hns : h₁.Ns s.heap.objs.size fun y => binds.reverse.lookup y) (kp : ∀ b o, s.heap.get? b = some o → h₁.get? b = some o) : Inv (lamCx X A outer s (subC l H) E scope f c') [] σ (subC l H) { s with heap := h₁, toks := tk } := by
  have hfree := L.has ok
  have at_ : ∀ {c o}, l c = some o → s.heap.get? c = some o := fun {c o} e => cellX_at e0.hok (C c o e)
  have hs := hok_sub C e0.hok
  refine {
    ok := {
      mod := e0.mod, kind := L.kind, glob := rfl, blt := rfl, above := Nat.le_refl _
      inj := fun y z c e1 e2 => ok.inj y z c (NdefX.clo_cm hfree e1) (NdefX.clo_cm hfree e2)
      has := fun y hy => ?_
      cab := fun y c z _ => absurd (show false = true from z) (by decide)
      hd := fun _ => hd
      frames := Around.frames_deeper e0.frames
      stk := .inr ⟨rfl, rfl⟩
      exf := fun b z => absurd (show b ∈ ([] : List Addr) from z) (by simp)
      bs := fun b o e => ⟨(e0.bs b o e).1, sub_none (e0.bs b o e).2⟩
      bsz := e0.bsz
      noex := fun b _ _ z => absurd (show b ∈ ([] : List Addr) from z) (by simp)
      exfs := fun b z => absurd (show b ∈ ([] : List Addr) from z) (by simp)
      funs := e0.funs
      frf := fun b hb => sub_none (e0.frf b hb) }
    os := rfl
    bare := e0.bare
    base := Un.kept kp
    loc := ⟨_, hns, fun i y v e1 e2 e3 => ?_⟩
    cell := fun y c e => ?_
    free := hs.fresh (Nat.le_refl _)
    freeC := fun y c e => ?_
    pin := fun q hq => absurd (show q ∈ ([] : List (Addr × Obj)) ++ [] from hq) (by simp)
    hok := hs.kept kp
    len := hlen }
  · have hy : scope.names.lookup y = some .cell ∨ scope.names.lookup y = some .free := hy
    rcases hy with hy | hy
    · exact absurd rfl (L.cell _ (PySem.mem_of_lookup hy))
    · obtain ⟨c, hc⟩ := hfree _ (PySem.mem_of_lookup hy) rfl
      exact ⟨c, NdefX.clo_has hfree (PySem.mem_of_lookup hy) hc⟩
  · have e3 : Vis scope y := e3
    have e1 : X.N[i]? = some y := e1
    rcases e3 with q | q | q
    · exact absurd (List.mem_of_getElem? e1) (L.own _ (PySem.mem_of_lookup q) rfl)
    · exact absurd rfl (L.cell _ (PySem.mem_of_lookup q))
    · obtain ⟨c, o, u, h1, h2, h3, r⟩ := V.val i y v e1 e2 q
      exact ⟨u, r, .inr ⟨.inr q, c, h1, o, kp _ _ (at_ h2), h3⟩⟩
  · obtain ⟨o, v, h1, h2⟩ := V.all y c e
    exact ⟨v, o, kp _ _ (at_ h1), h2⟩
  · obtain ⟨o, v, h1, h2⟩ := V.all y c e
    exact subC_in h1
/-- how its parameters are bound where nothing is passed -/
def BindL (X : Cx) (scope : Scope) (params : Arguments) (body : Expr) (dV : Value) (H : Hp) : Prop := ∀ (P : Program) (w : World) (s : Shared) (c' : Addr) (doc pm ctv : Value), HOk P w H s.heap →
  ∃ binds, BindsTo s (lfd X scope params body c' dV doc pm ctv) ⟨[], []⟩ binds ∧ ∀ y ∈ binds, scope.names.lookup y.1 = some .local
/-- what such an object's call does: the body's reading, over what is tracked but the cells -/
def lact (X : Cx) (scope : Scope) (params : Arguments) (body : Expr) (σ : L2.St) (l : Addr → Option Obj) (tb : XK → TE) : Act := fun f H Q E =>
  ∃ (c' : Addr) (dV doc pm ctv : Value) (H1 : Hp) (Q0 : VK) (E0 : XK), H = addC l H1 ∧ Free l H1 ∧ H1 f = some (FunO f (lfd X scope params body c' dV doc pm ctv)) ∧ H1 c' = some (CodeO c' (X.env.qual ++ "<lambda>")) ∧
    BindL X scope params body dV H ∧ tb E0 σ H1 Q0 ∧ (∀ v H2, Free l H2 → Q0 v H2 → Q v (addC l H2)) ∧ ∀ cls d H2, Free l H2 → E0 cls d H2 → E cls d (addC l H2)
theorem lact_ok {tb : XK → TE} (ok : X.Ok) (L : LScope X.env.scope scope X.N) (V : Held X scope σ l) (hlen : σ.length = X.N.length)
    (hb : ∀ (A : Around) (outer : List Env) (s : Shared) (H : Hp) (E : XK) (f c' : Addr), Room k (A.deeper (lamEnv X scope s.heap.objs.size f c')) → PE (lamCx X A outer s H E scope f c') body (tb E)) :
    ActOk X.prog X.w X.K X.mg X.base (k + 1) (lact X scope params body σ l tb) := by
  intro f A outer s H Q E hr e0 h
  obtain ⟨c', dV, doc, pm, ctv, H1, Q0, E0, rfl, F, hf, hc, hbind, q, hQ, hE⟩ := h
  have hf2 : addC l H1 f = some (FunO f (lfd X scope params body c' dV doc pm ctv)) := by rw [addC_out (F.out hf)]; exact hf
  have hc2 : addC l H1 c' = some (CodeO c' (X.env.qual ++ "<lambda>")) := by rw [addC_out (F.out hc)]; exact hc
  refine ⟨⟨_, hf2⟩, ?_⟩
  obtain ⟨od, sl, ho⟩ := funO_at e0.hok hf2
  have C : Cin l (addC l H1) := cin_add
  have es : subC l (addC l H1) = H1 := sub_add F
  obtain ⟨binds, hbi, hloc⟩ := hbind _ _ s c' doc pm ctv e0.hok
  refine PySem.W.kla_callFunE hr.depth ho rfl L.co L.gen rfl (NdefX.codeO_at e0.hok hc2) (hbi _ _ _ _ ?_)
  refine wpAny_newFunctionEnv L.cell hloc (fun h₁ hns hsb => ⟨((e0.mod.nolimit).keeps fun b o e => (e0.bs b o e).1).fresh _ hsb, ?_⟩) L.kind
  show codeAny _ _ (.expr body (lamEnv X scope s.heap.objs.size f c')) _ _
  have kp : ∀ b o, s.heap.get? b = some o → h₁.get? b = some o := fun b o e => hsb.extBut b o (Nat.ne_of_lt (Heap.lt_size e)) (Heap.get?_push_of_some _ e)
  have I := lam_inv (E := E0) (f := f) (c' := c') (tk := s.toks + binds.length) ok L V hlen C e0 hr.hd hns kp
  rw [es] at I
  have nfr : ∀ b ∈ frs outer, addC l H1 b = none := e0.frf
  have cx : ∀ {e : Value} {s3 : Shared}, L2.CX X.prog X.w outer H1 s E0 e s3 → L2.CX X.prog X.w outer (addC l H1) s E e s3 := fun {e s3} hx => by
    refine cx_add C e0.hok nfr ?_
    rw [es]
    obtain ⟨a, B, H', cls, d, x1, x2, x3, x4, x5, x6, x7, x8⟩ := hx
    exact ⟨a, B, H', cls, d, x1, x2, x3, x4, x5, x6, x7, fun F' => hE cls d H' F' x8⟩
  refine PySem.W.kla_codeExpr (wpAny_mono ((hb A outer s H1 E0 f c' (hr.deeper _)).run [] _ σ H1 Q0 I q) (fun u s2 hq => ?_) fun e s2 he => wpAny_mono he (fun _ _ hx => cx hx) fun _ _ hx => cx hx)
  obtain ⟨v, H2, I2, r, q2⟩ := hq
  have F2 : Free l H2 := fun b o e => I2.base.free b o (cellX_at e0.hok (C b o e)) (F b o e) (by intro z; cases z)
  have un : Un (frs outer) [] (subC l (addC l H1)) H2 s.heap s2.heap := by rw [es]; exact I2.base
  refine ⟨v, addC l H2, I2.os, I2.bare, un_add C F2 un, hok_add F2 I2.hok fun b o e => ?_, r, hQ v H2 F2 q2⟩
  refine I2.base.keep b o (cellX_at e0.hok (C b o e)) (F b o e) (fun z => ?_) (by intro z; cases z)
  have := nfr b z
  rw [C b o e] at this
  cases this
end
end CS
set_option Elab.async false
set_option maxRecDepth 100000
set_option maxHeartbeats 4000000
set_option linter.unusedVariables false
namespace CS
open PySem PySem.Spec PyProof.Rows L2 LamX
/-! the making of such an object; a def that is handed it -/
theorem funO_ok {P : Program} {w : World} {H : Hp} {h : Heap} {f : Addr} {fd : FuncData} {od : Option Addr} {sl : Array (Option Value)} (e : h.get? f = some (⟨.type "function", od, .func fd, sl⟩ : Obj)) : ObjOk P w H h f (FunO f fd) :=
  ⟨⟨od, sl, e⟩, ⟨_, e⟩, fun _ _ ⟨a, b, z⟩ k => ⟨a, b, k _ z⟩⟩
/-- one more code object of the name q in the table -/
theorem tabs_more {T : List (Addr × Str)} {H : Hp} {P c' : Addr} {q : Str} {ps : Array Value} {pos : PySem.Pos} (hT : Tabs T H) (hP : H P = some (.tbl ps)) (ht : TriplesOk ps.toList) (hn : H c' = none) (hu : ∀ p ∈ T, p.1 = P → p.2 = q) :
    Tabs T (upd (upd H P (.tbl (ps ++ #[rawInt pos.line, rawInt pos.col, .ref c']))) c' (CodeO c' q)) := by
  have nP : P ≠ c' := ne_of_none hP hn
  rintro ⟨B, z⟩ hp
  obtain ⟨bs, b1, b2, b3⟩ := hT _ hp
  have nB : B ≠ c' := ne_of_none b1 hn
  have old : ∀ c, H c = some (CodeO c z) → upd (upd H P (.tbl (ps ++ #[rawInt pos.line, rawInt pos.col, .ref c']))) c' (CodeO c' q) c = some (CodeO c z) := fun c hc => by
    rw [upd_ne (ne_of_none hc hn), upd_ne (fun y => by rw [y, hP] at hc; exact codeO_ne _ (Option.some.inj hc).symm)]
    exact hc
  by_cases e : B = P
  · subst e
    obtain rfl : z = q := hu _ hp rfl
    rw [show H B = _ from b1] at hP
    cases hP
    refine ⟨_, by show upd _ _ _ B = _; rw [upd_ne nB, upd_same], ?_, fun p2 cv hcv => ?_⟩
    · rw [Array.toList_append]
      exact PySem.TriplesOk_snoc _ _ _ _ b2
    · rw [Array.toList_append] at hcv
      rcases among_app _ b2 hcv with y | y
      · obtain ⟨c, rfl, hc⟩ := b3 p2 cv y
        exact ⟨c, rfl, old c hc⟩
      · exact ⟨c', y, upd_same⟩
  · refine ⟨bs, by show upd _ _ _ B = _; rw [upd_ne nB, upd_ne e]; exact b1, b2, fun p2 cv hcv => ?_⟩
    obtain ⟨c, rfl, hc⟩ := b3 p2 cv hcv
    exact ⟨c, rfl, old c hc⟩
section
variable {X : Cx} {pins : List (Addr × Obj)} {σ : L2.St} {H : Hp} {s : Shared} {scope : Scope} {params : Arguments} {body : Expr}
/-- the object alone is new -/
theorem fun_new {c' : Addr} {dV doc pm ctv : Value} {tk : Nat} (I : Inv X pins σ H s) : Inv X pins σ (upd H s.heap.objs.size (FunO s.heap.objs.size (lfd X scope params body c' dV doc pm ctv))) { s with heap := s.heap.push (PySem.W.kdv_obj "<lambda>" (X.env.qual ++ "<lambda>") params (.expr body) scope (clo X scope) dV doc pm c' ctv), toks := tk } :=
  I.laid (fun b u e => Heap.get?_push_of_some _ e) (Nat.le_refl _) (funO_ok (Heap.get?_push_size _ rfl))
/-- what is known behind the making -/
def Made (X : Cx) (scope : Scope) (params : Arguments) (body : Expr) (T : List (Addr × Str)) (H : Hp) (dV : Value) (f : Addr) (H1 : Hp) : Prop :=
  ExtN H H1 ∧ Tabs T H1 ∧ H f = none ∧ ∃ (c' : Addr) (doc pm ctv : Value), H1 f = some (FunO f (lfd X scope params body c' dV doc pm ctv)) ∧ H1 c' = some (CodeO c' (X.env.qual ++ "<lambda>"))
theorem lam_made {T : List (Addr × Str)} {c P : Addr} {pos : PySem.Pos} {dV : Value} {E : Value → Shared → Prop} {Q : Value → Shared → Prop} (I : Inv X pins σ H s) (TB : TabB X.base X.mg c P) (hcode : X.env.code = .ref c) (hm : (P, X.env.qual ++ "<lambda>") ∈ T)
    (hu : ∀ p ∈ T, p.1 = P → p.2 = X.env.qual ++ "<lambda>") (hT : Tabs T H) (hfree : ∀ y ∈ scope.names, y.2 = .free → ∃ c, X.env.cells.lookup y.1 = some c) (h : ∀ f H1 s', Inv X pins σ H1 s' → Made X scope params body T H dV f H1 → Q (.ref f) s') :
    wpAny (model X.prog X.w) X.A (makeTail "<lambda>" (X.env.qual ++ "<lambda>") params (.expr body) scope X.env dV .none none pos pos.line) Q E s := by
  obtain ⟨ps, hP, ht, ha⟩ := hT _ hm
  have gP : s.heap.get? P = some (PySem.W.tabObj ps) := I.hok P _ hP
  cases hc : codeAmong pos ps.toList with
  | some cv =>
    obtain ⟨c', rfl, hc'⟩ := ha pos cv hc
    refine PySem.W.kdv_makeTailHit (closure_ok hfree) I.ok.glob (I.mod.glob.keeps I.bk) hcode (TB.code.keeps I.bk) gP ht hc (TB.bm.keeps I.bk) fun ctv doc h' tk hx hge => ?_
    have I1 : Inv X pins σ H { s with heap := h', toks := tk } := I.kept hx
    have n1 : H h'.objs.size = none := I1.hok.fresh (Nat.le_refl _)
    refine h _ _ _ (fun_new (c' := c') (tk := tk) I1) ⟨fun b o e _ => by rw [upd_ne (ne_of_none e n1)]; exact e, hT.ext fun b o e => by rw [upd_ne (ne_of_none e n1)]; exact e, n1, c', doc, _, ctv, upd_same, by rw [upd_ne (ne_of_none hc' n1)]; exact hc'⟩
  | none =>
    refine PySem.W.kdv_makeTail (closure_ok hfree) I.ok.glob (I.mod.glob.keeps I.bk) hcode (TB.code.keeps I.bk) gP ht hc TB.gP (TB.bm.keeps I.bk) fun c' ctv doc h' tk hx hge _ hrec htb => ?_
    obtain ⟨c2, oc, vs, t, e2, r1, r2, r3⟩ := hrec
    cases e2
    have nC : H c' = none := I.hok.fresh hge
    have I1 := inv_table (t' := tk) I hP (fun b o hb e => hx b o hb e) htb hge ⟨oc, vs, t, r1, r2, r3⟩
    have n1 := I1.hok.fresh (a := h'.objs.size) (Nat.le_refl _)
    have T1 := tabs_more (pos := pos) hT hP ht nC hu
    have X1 : ExtN H (upd (upd H P (.tbl (ps ++ #[rawInt pos.line, rawInt pos.col, .ref c']))) c' (CodeO c' (X.env.qual ++ "<lambda>"))) := fun b o e n => by
      rw [upd_ne (ne_of_none e nC), upd_ne (fun y => by rw [y, hP] at e; cases e; exact n _ rfl)]
      exact e
    have hc' : upd (upd H P (.tbl (ps ++ #[rawInt pos.line, rawInt pos.col, .ref c']))) c' (CodeO c' (X.env.qual ++ "<lambda>")) c' = some (CodeO c' (X.env.qual ++ "<lambda>")) := upd_same
    have nH : H h'.objs.size = none := by
      by_cases y : h'.objs.size = c'
      · rw [y]; exact nC
      · by_cases y2 : h'.objs.size = P
        · rw [y2, upd_ne (ne_of_none hP nC), upd_same] at n1
          cases n1
        · rw [upd_ne y, upd_ne y2] at n1
          exact n1
    generalize upd (upd H P (.tbl (ps ++ #[rawInt pos.line, rawInt pos.col, .ref c']))) c' (CodeO c' (X.env.qual ++ "<lambda>")) = H2 at *
    refine h _ _ _ (fun_new (c' := c') (tk := tk) I1) ⟨X1.trans fun b o e _ => by rw [upd_ne (ne_of_none e n1)]; exact e, T1.ext fun b o e => by rw [upd_ne (ne_of_none e n1)]; exact e, nH, c', doc, _, ctv, upd_same, by rw [upd_ne (ne_of_none hc' n1)]; exact hc'⟩
/-- lambda: body -/
def tLamV (X : Cx) (scope : Scope) (params : Arguments) (body : Expr) (T : List (Addr × Str)) : TE := fun _ H Q => Tabs T H ∧ ∀ f H1 dV, Made X scope params body T H dV f H1 → BindL X scope params body dV H1 → Q (.ref f) H1
theorem Made.of_ext {T : List (Addr × Str)} {H0 H1 : Hp} {dV : Value} {f : Addr} (e : ∀ b o, H b = some o → H0 b = some o) (n : ∀ b, H0 b = none → H b = none) (m : Made X scope params body T H0 dV f H1) : Made X scope params body T H dV f H1 :=
  ⟨(ExtN.of e).trans m.1, m.2.1, n _ m.2.2.1, m.2.2.2⟩
theorem pe_lam0 {T : List (Addr × Str)} {c P : Addr} {pos : PySem.Pos} (TB : TabB X.base X.mg c P) (hcode : X.env.code = .ref c) (hm : (P, X.env.qual ++ "<lambda>") ∈ T)
    (hu : ∀ p ∈ T, p.1 = P → p.2 = X.env.qual ++ "<lambda>") (L : LScope X.env.scope scope X.N) (hp : params = ⟨[], [], none, [], [], none, []⟩) : PE X (.Lambda params body scope pos) (tLamV X scope params body T) := by
  subst hp
  refine ⟨fun pins s σ H Q I ⟨hT, h⟩ => ?_⟩
  refine PySem.W.kla_eval rfl ?_
  rw [makeFunction_eq]
  simp only [List.zip_nil_right, List.filterMap_nil, List.isEmpty_nil, if_true, pure_bind]
  refine lam_made I TB hcode hm hu hT (L.has I.ok) fun f H1 s' I1 m => ⟨.ref f, H1, I1, rfl, h f H1 .none m fun P w s c' doc pm ctv _ => ⟨[], .of_eq rfl, fun _ z => nomatch z⟩⟩
theorem pe_lam1 {T : List (Addr × Str)} {c P : Addr} {pos p1 p2 : PySem.Pos} {x : Str} {i : Int} {j : Nat} (TB : TabB X.base X.mg c P) (hcode : X.env.code = .ref c) (hm : (P, X.env.qual ++ "<lambda>") ∈ T)
    (hu : ∀ p ∈ T, p.1 = P → p.2 = X.env.qual ++ "<lambda>") (L : LScope X.env.scope scope X.N) (hx : scope.names.lookup x = some .local) (hp : params = ⟨[], [⟨x, none, p1⟩], none, [], [], none, [.Constant (.int i) j p2]⟩) : PE X (.Lambda params body scope pos) (tLamV X scope params body T) := by
  subst hp
  refine ⟨fun pins s σ H Q I ⟨hT, h⟩ => ?_⟩
  refine PySem.W.kdv_lam rfl rfl (evalAll_cons ?_)
  have h0 := (pe_int (X := X) (i := i) (j := j) (pos := p2)).run pins s σ H (fun v H1 => v = .int i ∧ H1 = H) I ⟨rfl, rfl⟩
  refine thn h0 fun u s1 ⟨v, H1, I1, r, ev, eH⟩ => ?_
  subst ev
  subst eH
  obtain ⟨t, rfl⟩ := r
  refine evalAll_nil ?_
  rw [makeFunction_eq]
  simp only [List.zip_nil_right, List.filterMap_nil, List.isEmpty_nil, if_true, pure_bind, List.isEmpty_cons, Bool.false_eq_true, if_false]
  refine wpAny_bind (wpAny_newTextTuple ?_)
  have nd : H1 s1.heap.objs.size = none := I1.hok.fresh (Nat.le_refl _)
  have I2 : Inv X pins σ (upd H1 s1.heap.objs.size (.tup [.int i])) { s1 with heap := s1.heap.push { cls := .type "tuple", data := .seq [Value.int i t].toArray } } :=
    I1.laid (t' := s1.toks) (fun b u e => Heap.get?_push_of_some _ e) (Nat.le_refl _) ⟨by show 1 ≤ sizeLine; decide, [Value.int i t], .cons ⟨t, rfl⟩ .nil, ⟨_, Heap.get?_push_size _ rfl, rfl, _, rfl⟩⟩
  have e2 : ∀ b o, H1 b = some o → upd H1 s1.heap.objs.size (.tup [.int i]) b = some o := fun b o e => by
    rw [upd_ne (ne_of_none e nd)]
    exact e
  have hT2 := hT.ext e2
  have ht : upd H1 s1.heap.objs.size (.tup [.int i]) s1.heap.objs.size = some (.tup [.int i]) := upd_same
  have n2 : ∀ b, upd H1 s1.heap.objs.size (.tup [.int i]) b = none → H1 b = none := fun b z => NdefX.upd_none z
  generalize upd H1 s1.heap.objs.size (.tup [.int i]) = H2 at *
  refine lam_made I2 TB hcode hm hu hT2 (L.has I2.ok) fun f H3 s' I3 m => ⟨.ref f, H3, I3, rfl, h f H3 _ (m.of_ext e2 n2) fun P w s c' doc pm ctv ok => ?_⟩
  have ht3 : H3 s1.heap.objs.size = some (.tup [.int i]) := m.1 _ _ ht fun _ z => by cases z
  obtain ⟨_, its, vs, o, h1, h2, n, h3⟩ := (show ObjOk P w H3 s.heap s1.heap.objs.size (.tup [.int i]) from ok _ _ ht3)
  cases vs with
  | @cons _ u _ ur ra rw' =>
    cases rw'
    exact ⟨[(x, u)], .of_defaults rfl h1 h3 rfl (by simp), fun y hy => by
      rw [List.mem_singleton.mp hy]
      exact hx⟩
end
section
variable {X : Cx} {scope : Scope} {params : Arguments} {body : Expr} {k : Nat}
/-- the captured cells' objects, now -/
def heldNow (X : Cx) (scope : Scope) (h : Heap) : Addr → Option Obj := fun c => if (clo X scope).any (fun p => decide (p.2 = c)) then h.get? c else none
theorem held_mem {h : Heap} {c : Addr} {o : Obj} (e : heldNow X scope h c = some o) : (∃ y, (y, c) ∈ clo X scope) ∧ h.get? c = some o := by
  unfold heldNow at e
  split at e
  · rename_i q
    obtain ⟨⟨y, c2⟩, hp, z⟩ := List.any_eq_true.mp q
    exact ⟨⟨y, of_decide_eq_true z ▸ hp⟩, e⟩
  · cases e
theorem held_in {h : Heap} {y : Str} {c : Addr} (e : (clo X scope).lookup y = some c) : heldNow X scope h c = h.get? c := by
  unfold heldNow
  rw [if_pos (List.any_eq_true.mpr ⟨(y, c), PySem.mem_of_lookup e, decide_eq_true rfl⟩)]
theorem clo_mem (L : LScope X.env.scope scope X.N) (ok : X.Ok) {y : Str} {c : Addr} (e : (y, c) ∈ clo X scope) : X.env.cells.lookup y = some c := by
  rcases cloFrom_mem e with hm | ⟨h1, h2⟩
  · cases hm
  · obtain ⟨c1, hc⟩ := L.has ok _ h1 rfl
    have hc : X.env.cells.lookup y = some c1 := hc
    rw [h2, hc]
    rfl
theorem held_of {pins : List (Addr × Obj)} {σ : L2.St} {H : Hp} {s : Shared} (L : LScope X.env.scope scope X.N) (I : Inv X pins σ H s) : Held X scope σ (heldNow X scope s.heap) ∧ Free (heldNow X scope s.heap) H := by
  have hfree := L.has I.ok
  refine ⟨⟨fun y c e => ?_, fun i x v e1 e2 e3 => ?_⟩, fun c o e => ?_⟩
  · obtain ⟨v, o, ho, hd⟩ := I.cell y c (NdefX.clo_cm hfree e)
    exact ⟨o, v, by rw [held_in e]; exact ho, hd⟩
  · obtain ⟨m, hn, hl⟩ := I.loc
    have hm := PySem.mem_of_lookup e3
    have hvis : Vis X.env.scope x := (L.free _ hm rfl).elim (fun k => .inr (.inl k)) fun k => .inr (.inr k)
    obtain ⟨u, r, lo⟩ := hl i x v e1 e2 hvis
    rcases lo with ⟨k, _⟩ | ⟨_, c, ec, o, ho, hd⟩
    · rcases L.free _ hm rfl with k2 | k2 <;> (rw [show X.env.kindOf x = _ from k2] at k; cases k)
    · have e4 := NdefX.clo_has hfree hm ec
      exact ⟨c, o, u, e4, by rw [held_in e4]; exact ho, hd, r⟩
  · obtain ⟨⟨y, hy⟩, _⟩ := held_mem e
    exact I.freeC y c (clo_mem L I.ok hy)
/-- what a def makes of the exceptions of what it is handed, is the same with cells tracked -/
def Nat1 (Wx : Value → Option Addr → Hp → VK → Prop) : Prop := ∀ (l : Addr → Option Obj) (cls : Value) (d : Option Addr) (H : Hp) (Q : VK), Free l H → Wx cls d H Q → Wx cls d (addC l H) (fun v H2 => Cin l H2 ∧ Q v (subC l H2))
/-- the promise of a def that calls what it is handed, gives out what that gives, and makes Wx of its exceptions -/
def spGive (Wx : Value → Option Addr → Hp → VK → Prop) (act : Act) : Sp := fun vs H Q _ => ∃ f, vs = [.ref f] ∧ act f H Q (fun cls d H' => Wx cls d H' Q)
/-- x(lambda: body) -/
theorem pe_give {Wx : Value → Option Addr → Hp → VK → Prop} {T : List (Addr × Str)} {x a : Str} {g : Addr} {fd : FuncData} {j : Nat} {tb : XK → TE} {p lpos pos : PySem.Pos} (nat : Nat1 Wx)
    (G : ∀ act, ActOk X.prog X.w X.K X.mg X.base (k + 1) act → FnOk X.prog X.w X.K X.mg X.base CX0 j g fd [a] (spGive Wx act)) (hr : Room j X.A) (hg : Gl X x) (hm : X.mg x = some (.ref g)) (hk : PySem.W.keepIn X.K (.ref g) = true) (hb : Binds X.K fd [a] [])
    (hfn : ∀ y, X.fn y = true) (L : LScope X.env.scope scope X.N) (he : PE X (.Lambda params body scope lpos) (tLamV X scope params body T))
    (hbody : ∀ (A : Around) (outer : List Env) (s : Shared) (H : Hp) (E : XK) (f c' : Addr), Room k (A.deeper (lamEnv X scope s.heap.objs.size f c')) → PE (lamCx X A outer s H E scope f c') body (tb E)) (hdb : (x == ("__debug__" : Str)) = false := by decide) :
    PE X (.Call (.Name x p) [.Lambda params body scope lpos] [] pos) (fun σ H Q => Tabs T H ∧ ∀ H1, ExtN H H1 → Tabs T H1 → tb (fun cls d H2 => Wx cls d H2 Q) σ H1 Q) := by
  refine ⟨fun pins s σ H Q I ⟨hT, h⟩ => ?_⟩
  refine wpAny_Call_Name_kw (ld_glob I hg hm ?_ hdb)
  refine PySem.W.callWith_K (h₀ := X.base) I.ok.mod.kin hk (thn ((pa_cons he pa_nil).run pos pins s σ H (fun vs H1 => ∃ f dV, vs = [.ref f] ∧ Made X scope params body T H dV f H1 ∧ BindL X scope params body dV H1) I ⟨hT, fun f H1 dV m b => ⟨f, dV, rfl, m, b⟩⟩) fun us s1 ⟨vs, H1, I1, r, f, dV, ev, m, bl⟩ => ⟨I1.kIn, ?_⟩) rfl rfl
  subst ev
  obtain ⟨V, F⟩ := held_of L I1
  obtain ⟨x1, t1, nf, c', doc, pm, ctv, hf, hc⟩ := m
  have q := h H1 x1 t1
  have hh : ∀ b o, heldNow X scope s1.heap b = some o → s1.heap.get? b = some o := fun b o e => (held_mem e).2
  have cell_hi : ∀ b o, heldNow X scope s1.heap b = some o → X.s_0.heap.objs.size ≤ b := fun b o e => by
    obtain ⟨⟨y, hy⟩, _⟩ := held_mem e
    exact I.ok.cab y b (hfn y) (clo_mem L I.ok hy)
  have cell_ne : ∀ b o, heldNow X scope s1.heap b = some o → b ≠ X.env.locals := fun b o e => by
    obtain ⟨⟨y, hy⟩, _⟩ := held_mem e
    exact I1.cne y b (clo_mem L I.ok hy)
  have okA := hok_add F I1.hok hh
  generalize heldNow X scope s1.heap = l at *
  have A := lact_ok (params := params) (body := body) I.ok L V I1.len hbody
  have e0 := I1.env0
  have none_of : ∀ b, H1 b = none → l b = none → addC l H1 b = none := fun b n e => by rw [addC_out e]; exact n
  have lbase : ∀ b o, X.base.get? b = some o → l b = none := fun b o e => by
    cases z : l b with
    | none => rfl
    | some o2 => exact absurd (Nat.lt_of_lt_of_le (Heap.lt_size e) I.ok.bsz) (Nat.not_lt.mpr (cell_hi b o2 z))
  have lfr : ∀ b ∈ frs X.stack, l b = none := fun b hb => by
    cases z : l b with
    | none => rfl
    | some o2 =>
      rcases List.mem_cons.mp (I1.stkSub b hb) with y | y
      · exact absurd y (cell_ne b o2 z)
      · obtain ⟨_, ob, hob, _⟩ := I1.ok.funs.mem y
        exact absurd (Heap.lt_size hob) (Nat.not_lt.mpr (cell_hi b o2 z))
  have e1 : Env0 X.prog X.w X.K X.mg X.base X.A X.stack s1 (addC l H1) := ⟨e0.frames, e0.mod, fun b o e => ⟨(e0.bs b o e).1, none_of b (e0.bs b o e).2 (lbase b o e)⟩, e0.bsz, e0.funs, fun b hb => none_of b (e0.frf b hb) (lfr b hb), okA, e0.bare⟩
  have hsp : spGive Wx (lact X scope params body σ l tb) [.ref f] (addC l H1) (fun v H2 => Cin l H2 ∧ Q v (subC l H2)) (fun _ _ _ => False) := by
    refine ⟨f, rfl, c', dV, doc, pm, ctv, H1, Q, _, rfl, F, hf, hc, fun P w s c' doc pm ctv ok => ?_, q, fun v H2 F2 q2 => ⟨cin_add, by rw [sub_add F2]; exact q2⟩, fun cls d H2 F2 q2 => nat l cls d H2 Q F2 q2⟩
    have := hok_sub (l := l) cin_add ok
    rw [sub_add F] at this
    exact bl P w s c' doc pm ctv this
  refine wpAny_call (codeAny_mono ((G _ A).run X.A X.stack s1 (addC l H1) ⟨us, []⟩ (us ++ []) [.ref f] _ _ hr e1 (hb s1 us I1.kIn (by rw [List.append_nil, ← r.length]; rfl)) (by rw [List.append_nil]; exact r) hsp) fun r s' hq => ?_)
  match r with
  | .error er => exact hq.elim
  | .ok (.ret u) =>
    obtain ⟨v, H2, os, bare, un, hok, r2, C2, q2⟩ := hq
    exact ⟨v, subC l H2, I1.call' (ch := []) os (un_sub F C2 hok hh un) (hok_sub C2 hok) bare (fun b z => absurd z (by simp)), r2, q2⟩
  | .ok .next => exact hq.elim
  | .ok .brk => exact hq.elim
  | .ok .cont => exact hq.elim
end
end CS
set_option Elab.async false
set_option maxRecDepth 100000
set_option maxHeartbeats 4000000
set_option linter.unusedVariables false
/-! An exception class of the program's own over any built-in one, whose __init__ stores its one argument. -/
namespace CS
open PySem PySem.Spec PyProof.Rows L2
/-- what the written part says of it: x its name, f the field, bmB the built-in classes above -/
structure OwnX (K : PySem.W.Frag) (mg : Str → Option Value) (x f : Str) (C fI : Addr) (bmB : List Value) (newId : String) : Prop where
  gC : mg x = some (.ref C)
  ini : PySem.W.excInitIn K C bmB newId = true
  ovr : PySem.W.excOver K C bmB = true
  sa : PySem.W.findIn K (.ref C) "__setattr__" = some (some (.builtin "object.__setattr__"))
  tk : PySem.W.takerIn K C f = some none
  xf : XfC K C
  noF : PySem.W.findIn K (.ref C) f = some none
  iC : PySem.W.findIn K (.ref C) "__init__" = some (some (.ref fI))
  tI : PySem.W.typeIn K (.ref fI) = some (.type "function")
  kC : PySem.W.keepIn K (.ref C) = true
  tyC : PySem.W.typeIn K (.ref C) = some (.type "type")
section
variable {X : Cx} {pins : List (Addr × Obj)} {σ : L2.St} {H : Hp} {s : Shared} {a C fI : Addr} {x f : Str} {y : V} {u : Value} {bmB : List Value} {B newId initId : String}
/-- what the store leaves -/
def Stored (H : Hp) (a C : Addr) (f : Str) (y : V) (dx : Addr) (H' : Hp) : Prop := H dx = none ∧ dx ≠ a ∧ H' a = some (exo a C (some dx)) ∧ H' dx = some (exd dx [(f, y)]) ∧ ∀ b, b ≠ a → b ≠ dx → H' b = H b
theorem put_new {A : Around} {Q : Unit → Shared → Prop} {E : Value → Shared → Prop} (SF : StoreFacts B bmB "object.__setattr__" "object") (T : OwnX X.K X.mg x f C fI bmB newId) (I : Inv X pins σ H s) (e : H a = some (exo a C none)) (ry : RelV y u)
    (h : ∀ dx H' s', Stored H a C f y dx H' → Inv X pins σ H' s' → Q () s') : wpAny (model X.prog X.w) A (setAttr (.ref a) f u) Q E s := by
  obtain ⟨t1, ho⟩ := exo_at I.hok e
  obtain ⟨hp, g, d, t, os⟩ := s
  have hnd : H hp.objs.size = none := I.hok.fresh (Nat.le_refl _)
  have lt : a < hp.objs.size := Heap.lt_size ho
  have dne : hp.objs.size ≠ a := Nat.ne_of_gt lt
  obtain ⟨cd, hc, hd⟩ := PySem.W.any_some T.xf.hdC
  refine PySem.W.set_plain I.kIn (od := none) ⟨ho, rfl, rfl, trivial⟩ T.sa ?_
  refine PySem.W.osa_openX SF I.kIn (od := none) ⟨ho, rfl, rfl, trivial⟩ T.ovr T.tk fun b => ?_
  refine wpAny_bind (wpAny_pure (wpAny_bind (PySem.W.instanceDict_exc ho (PySem.W.looks_clsIn I.kIn hc) hd ?_)))
  have e1 : (hp.push (PySem.W.dictOf [] 0)).get? hp.objs.size = some (PySem.W.dictOf [] 0) := Heap.get?_push_size _ rfl
  have n1 : (hp.push (PySem.W.dictOf [] 0)).Ns hp.objs.size (fun _ => none) := ⟨_, _, _, e1, rfl, fun q hq => absurd hq (by simp), fun _ => rfl⟩
  have I1 : Inv X pins σ (upd H hp.objs.size (exd hp.objs.size [])) ⟨hp.push (PySem.W.dictOf [] 0), g, d, t, os⟩ := I.laid (fun b o q => Heap.get?_push_of_some _ q) (Nat.le_refl _) (exd_ok (Heap.Ns1.of_empty n1) fun _ => True.intro)
  have ea : upd H hp.objs.size (exd hp.objs.size []) a = some (exo a C none) := by rw [upd_ne (Ne.symm dne)]; exact e
  have ho1 := Heap.get?_push_of_some (PySem.W.dictOf [] 0) ho
  have ho2 := Heap.get?_update_self (fun o : Obj => { o with dict := some hp.objs.size }) ho1 rfl
  have I2 := I1.write (x := a) (e := a) (o := exo a C (some hp.objs.size)) (t' := t) (h' := (hp.push (PySem.W.dictOf [] 0)).update a fun o => { o with dict := some hp.objs.size }) (by rw [ea]; exact True.intro) (.inl rfl)
    (fun b o hb q => by rw [Heap.get?_update_other _ _ (Ne.symm hb)]; exact q) ⟨_, ho2⟩ (exo_ok ho2)
  have n2 : ((hp.push (PySem.W.dictOf [] 0)).update a fun o => { o with dict := some hp.objs.size }).Ns hp.objs.size (fun _ => none) :=
    ⟨_, _, _, by rw [Heap.get?_update_other _ _ (Ne.symm dne)]; exact e1, rfl, fun q hq => absurd hq (by simp), fun _ => rfl⟩
  have ed : upd (upd H hp.objs.size (exd hp.objs.size [])) a (exo a C (some hp.objs.size)) hp.objs.size = some (exd hp.objs.size []) := by rw [upd_ne dne, upd_same]
  show wpAny _ _ (Builtin.ObjectAttr.storeInDict hp.objs.size _ f u) _ _ _
  refine PySem.HandSPX.store_in_new n2 fun h3 tk3 hn3 hs3 => ?_
  obtain ⟨o3, es3, ep3, q3, r3⟩ := id hn3
  have I3 := I2.write (x := hp.objs.size) (e := hp.objs.size) (o := exd hp.objs.size [(f, y)]) (t' := tk3) (h' := h3) (by rw [ed]; exact True.intro) (.inl rfl) (fun b o hb q => (hs3.2 b hb).trans q) ⟨_, q3⟩
    (exd_ok hn3 (relO_put (fs := []) ry fun g => True.intro))
  exact h _ _ _ ⟨hnd, dne, by rw [upd_ne (Ne.symm dne), upd_same], upd_same, fun b h1 h2 => by rw [upd_ne h2, upd_ne h1, upd_ne h2]⟩ I3
/-- self.f = e, self an exception that has no field yet -/
def tPut (C : Addr) (f : Str) (to te : TE) : TS := fun D σ H => te σ H fun y H1 => to σ H1 fun x H2 => ∃ a, x = .ref a ∧ H2 a = some (exo a C none) ∧ ∀ dx H', Stored H2 a C f y dx H' → D.nx σ H'
theorem ps_put {o e : Expr} {to te : TE} {p' pos : PySem.Pos} (SF : StoreFacts B bmB "object.__setattr__" "object") (T : OwnX X.K X.mg x f C fI bmB newId) (ho : PE X o to) (he : PE X e te) (hs : swapsWith e (some (.Attribute o f p')) pos.line X.env = pure false := by rfl) : PS X (.Assign [.Attribute o f p'] e pos) (tPut C f to te) := by
  refine ⟨fun pins s σ H D I h => plainObj_wpAny_Assign_Attribute (thn (he.run pins s σ H _ I h) fun v s1 ⟨y, H1, I1, r1, q1⟩ => thn (ho.run pins s1 σ H1 _ I1 q1) fun w2 s2 ⟨z, H2, I2, r2, a, ez, ea, q⟩ => ?_) hs⟩
  subst ez
  obtain rfl : w2 = Value.ref a := r2
  exact put_new SF T I2 ea r1 fun dx H' s' st J => ⟨σ, H', J, q dx H' st⟩
/-- the promise of such an __init__ -/
def spPut (C : Addr) (f : Str) : Sp := fun vs H Q _ => ∃ a y, vs = [.ref a, y] ∧ H a = some (exo a C none) ∧ ∀ dx H', Stored H a C f y dx H' → Q .non H'
theorem ok_put {P : Program} {w : World} {K : PySem.W.Frag} {mg : Str → Option Value} {base : Heap} {st : Stmt} {qual : Str} {fd : FuncData} {p1 p2 p3 p4 : PySem.Pos} (SF : StoreFacts B bmB "object.__setattr__" "object") (T : OwnX K mg x f C fI bmB newId)
    (F : Fun K "__init__" qual st fI fd) (S : FnScope ["self", f] ["self", f] (defScope st)) (hb : defBody st = [.Assign [.Attribute (.Name "self" p1) f p2] (.Name f p3) p4]) (hf : (defScope st).names.lookup f = some .local) (hs : (defScope st).names.lookup ("self" : Str) = some .local)
    (hd : (f == ("__debug__" : Str)) = false) (hcd : (f == ("__classdict__" : Str)) = false) (hsw : ∀ env : Env, swapsWith (.Name f p3) (some (.Attribute (.Name "self" p1) f p2)) p4.line env = pure false) : FnOk P w K mg base CX0 1 fI fd ["self", f] (spPut C f) := by
  refine F.ok S (fun vs H Q E h => ?_) (fun cdv A outer s H vs Q E hr h => ?_)
  · obtain ⟨a, y, rfl, _⟩ := h
    rfl
  · obtain ⟨a, y, rfl, ea, k⟩ := h
    rw [hb]
    refine ⟨_, pss_one (ps_put SF T (pe_var (i := 0) rfl (.inl hs) (by decide) (by decide)) (pe_var (i := 1) rfl (.inl hf) hd hcd) (hsw _)), ?_⟩
    exact ⟨_, rfl, _, rfl, a, rfl, ea, fun dx H' st => k dx H' st⟩
/-- C(e) as an exception that is raised -/
def tMkX (C : Addr) (f : Str) (ta : TA) : L2.St → Hp → XK → Prop := fun σ H Q => ta σ H fun vs H1 => ∃ v, vs = [v] ∧ ∀ d, H1 d = none → Q (.ref C) (some d) (upd H1 d (.xd [(f, v)]))
theorem pmk_own1 {e : Expr} {ta : TA} {p pos : PySem.Pos} {k : Nat} {fd : FuncData} (FB : ExcBaseFacts B newId initId bmB) (T : OwnX X.K X.mg x f C fI bmB newId) (G : FnOk X.prog X.w X.K X.mg X.base CX0 k fI fd ["self", f] (spPut C f)) (hb : Binds X.K fd ["self", f] []) (hr : Room (k + 1) X.A) (hg : Gl X x) (ha : PA X [e] ta)
    (hdb : (x == ("__debug__" : Str)) = false := by decide) (he : starEach [e] X.env = (false, eval e X.env) :: starEach [] X.env := by rfl) (hpl : (backTo pos (starEach [] X.env)).any (·.1) = false := by rfl) : PMk X (.Call (.Name x p) [e] [] pos) (tMkX C f ta) := fun pins s σ H Q I h => by
  refine wpAny_Call_Name_kw (ld_glob I hg T.gC (PySem.W.callWith_K (h₀ := X.base) I.ok.mod.kin T.kC (thn (ha.run pos pins s σ H _ I h) fun us s1 ⟨vs, H1, I1, r1, v, ev, q⟩ => ⟨I1.kIn, ?_⟩) he hpl) hdb)
  subst ev
  obtain ⟨nm, N, qn, bs, bm, hdct, sn, sub, ab, col, dd, k0, k1, k2, k3, k5, hC, hT⟩ := PySem.W.excInit_of I1.kIn T.ini
  have hus : us.length ≤ sizeLine := by
    rw [← r1.length]
    show 1 ≤ sizeLine
    decide
  obtain ⟨hp, g, dr, tk, os⟩ := s1
  obtain ⟨a, ea⟩ : ∃ a, a = hp.objs.size + 1 := ⟨_, rfl⟩
  obtain ⟨h2, eh⟩ : ∃ h2, h2 = (hp.push (PySem.W.kdv_tup us)).push (PySem.HandSPX.excO C hp.objs.size) := ⟨_, rfl⟩
  have big : hp.objs.size ≤ a := by rw [ea]; exact Nat.le_succ _
  have kp : ∀ b o, hp.get? b = some o → h2.get? b = some o := fun b o z => by
    rw [eh]
    exact Heap.get?_push_of_some _ (Heap.get?_push_of_some _ z)
  have at_ : h2.get? a = some (PySem.HandSPX.excO C hp.objs.size) := by
    rw [eh, ea]
    heap_get
  have na : H1 a = none := I1.hok.fresh big
  have I2 : Inv X pins σ (upd H1 a (exo a C none)) ⟨h2, g, dr, tk, os⟩ := I1.laid (t' := tk) kp big (exo_ok at_)
  have hsp : spPut C f [.ref a, v] (upd H1 a (exo a C none)) (fun v2 H2 => v2 = .non ∧ ∃ dx, Stored (upd H1 a (exo a C none)) a C f v dx H2) (fun _ _ _ => False) := ⟨a, v, rfl, upd_same, fun dx H' st => ⟨rfl, dx, st⟩⟩
  have run := G.run (A := X.A.under (.builtin "type.__call__" ⟨.ref C :: us, []⟩)) (outer := X.stack) (s := ⟨h2, g, dr, tk, os⟩) (args := ⟨.ref a :: us, []⟩) (us := .ref a :: us) (vs := [.ref a, v]) (Q := _) (E := fun _ _ _ => False) (H := upd H1 a (exo a C none)) (hr.make C us []) (I2.env0.make C us [])
    (by have := hb ⟨h2, g, dr, tk, os⟩ (.ref a :: us) I2.kIn (by rw [List.append_nil, List.length_cons, ← r1.length]; rfl); rw [List.append_nil] at this; exact this) (.cons rfl r1) hsp
  show wpAny _ _ (call (.ref C) us) _ _ _
  refine wpAny_call (PySem.HandSPX.call_own FB hT hC (PySem.W.looks_findIn I1.kIn T.iC) (fun self => PySem.W.bind_fn I1.kIn self T.tI) hus ?_)
  rw [← ea, ← eh]
  refine codeAny_mono run fun r s' hq => ?_
  match r with
  | .error er => exact hq.elim
  | .ok .next => exact hq.elim
  | .ok .brk => exact hq.elim
  | .ok .cont => exact hq.elim
  | .ok (.ret z) =>
    obtain ⟨v2, H2, os2, bare2, un2, hok2, rv, ev2, dx, st1, st2, st3, st4, st5⟩ := hq
    have nd : H1 dx = none := by rw [upd_ne st2] at st1; exact st1
    have eq : upd (del H2 a) dx (.xd [(f, v)]) = upd H1 dx (.xd [(f, v)]) := by
      funext b
      by_cases h1 : b = dx
      · rw [h1, upd_same, upd_same]
      · rw [upd_ne h1, upd_ne h1]
        by_cases h2 : b = a
        · rw [h2, del_same, na]
        · rw [del_ne h2, st5 b h2 h1, upd_ne h2]
    obtain ⟨h3, g3, d3, t3, os3⟩ := s'
    have fin := mk_end (Q := Q) (d2 := d3) (t2 := t3) (raises_own T.xf.exC T.tyC) I1 big kp un2 hok2 os2 bare2 st3 st4 nd (by rw [eq]; exact q dx nd)
    subst ev2
    exact ⟨rv, fin⟩
end
end CS
set_option Elab.async false
set_option maxRecDepth 100000
set_option maxHeartbeats 4000000
set_option linter.unusedVariables false
/-! try with several except clauses, some with a name, some without. -/
namespace CS
open PySem PySem.Spec PyProof.Rows L2
/-- the exception at a, of the class cls with the dict d, has landed; W0 is what is wanted of one that no clause takes -/
structure Landed (X : Cx) (pins : List (Addr × Obj)) (σ : L2.St) (H : Hp) (a : Addr) (cls : Value) (d : Option Addr) (s : Shared) : Prop where
  go : ∃ (B : Heap) (sI : Shared), HandSPX.FlyingZ B (X.env :: X.outer) a (Zc cls d) s.heap ∧ Inv X pins σ H sI ∧ (∀ b o, sI.heap.get? b = some o → b ∉ frs X.stack → B.get? b = some o) ∧ sI.heap.UpToSlots s.heap ∧ s.os = sI.os ∧ AllBare s.gens
  no : H a = none
abbrev TSx := Addr → Value → Option Addr → TS
section
variable {X : Cx} {pins : List (Addr × Obj)} {σ : L2.St} {H : Hp} {s : Shared} {a : Addr} {cls : Value} {d : Option Addr}
theorem Landed.inv (L : Landed X pins σ H a cls d s) : Inv X pins σ H s := by
  obtain ⟨B, sI, fl, J, nb, up, os, ag⟩ := L.go
  exact J.landed nb fl.1 up os ag
/-- the state within a suite -/
theorem Landed.suite (L : Landed X pins σ H a cls d s) (hf : X.env.frame = some X.env.locals) : ∃ oe, Zc cls d oe ∧ (∃ vs, oe.data = .fields vs) ∧ s.heap.get? a = some oe ∧ Inv (X.suite a ((a, oe) :: (X.pn ++ pins))) [] σ H s := by
  have J := L.inv
  obtain ⟨B, sI, fl, _⟩ := L.go
  obtain ⟨oe, vs, he, hz, hd⟩ := fl.there
  have no : a ∉ frs (X.env :: X.outer) := fun hm => by
    obtain ⟨_, o, e, n⟩ := fl.2.2.1.mem hm
    rw [he] at e
    cases e
    exact n _ hd
  have in_ : ∀ e ∈ X.env :: X.outer, e.frame ≠ some a := fun e he q => no (List.mem_filterMap.mpr ⟨e, he, q⟩)
  refine ⟨oe, hz, ⟨vs, hd⟩, he, J.suite he hd L.no (fun z => in_ _ List.mem_cons_self (by rw [hf, z])) fun hm => ?_⟩
  obtain ⟨e, h1, h2⟩ := List.mem_filterMap.mp hm
  exact in_ e (List.mem_cons_of_mem _ h1) h2
/-- it is looked at once more -/
theorem Landed.again {M : Model} {A : Around} {E : Value → Shared → Prop} {Q : Unit → Shared → Prop} (L : Landed X pins σ H a cls d s) (h : ∀ s', Landed X pins σ H a cls d s' → Q () s') :
    ∃ B, HandSPX.FlyingZ B (X.env :: X.outer) a (Zc cls d) s.heap ∧ ∀ h', HandSPX.FlyingZ B (X.env :: X.outer) a (Zc cls d) h' → s.heap.UpToSlots h' → Q () { s with heap := h' } := by
  obtain ⟨B, sI, fl, J, nb, up, os, ag⟩ := L.go
  exact ⟨B, fl, fun h' fl' up' => h _ ⟨⟨B, sI, fl', J, nb, up.trans up', os, ag⟩, L.no⟩⟩
end
/-- clauses with a name or without; what they wish of an exception, the wish W0 where none takes it -/
inductive Clauses (X : Cx) (W0 : WX) : List ExceptHandler → (Ends → WX) → Prop
  | nil : Clauses X W0 [] (fun _ => W0)
  | plain {x : Str} {c : Value} {ts : TSx} {b₀ : Stmt} {suite : List Stmt} {np pos' : PySem.Pos} {hds : List ExceptHandler} {W : Ends → WX} (hc : Names X x c)
      (hsu : ∀ (a : Addr) (oe : Obj) (cls : Value) (d : Option Addr) (pn : List (Addr × Obj)), Zc cls d oe → (∃ vs, oe.data = .fields vs) → PSs (X.suite a ((a, oe) :: pn)) (b₀ :: suite) (ts a cls d)) (r : Clauses X W0 hds W) :
      Clauses X W0 (.ExceptHandler (some (.Name x np)) none (b₀ :: suite) pos' :: hds) (fun D cls d σ H => ∃ b, PySem.W.exmOne X.K cls c = some b ∧ (b = true → ∀ a, H a = none → ts a cls d D σ H) ∧ (b = false → W D cls d σ H))
  | named {x n : Str} {c : Value} {i : Nat} {ts : TSx} {b₀ : Stmt} {suite : List Stmt} {np pos' : PySem.Pos} {hds : List ExceptHandler} {W : Ends → WX} (hc : Names X x c) (hi : X.N[i]? = some n) (hln : X.env.kindOf n = some .local)
      (hsu : ∀ (a : Addr) (oe : Obj) (cls : Value) (d : Option Addr) (pn : List (Addr × Obj)), Zc cls d oe → (∃ vs, oe.data = .fields vs) → PSs (X.suite a ((a, oe) :: pn)) (b₀ :: suite) (ts a cls d)) (r : Clauses X W0 hds W) :
      Clauses X W0 (.ExceptHandler (some (.Name x np)) (some n) (b₀ :: suite) pos' :: hds) (fun D cls d σ H => ∃ b, PySem.W.exmOne X.K cls c = some b ∧
        (b = true → ∀ a, H a = none → ts a cls d { nx := fun σ' H' => D.nx (σ'.set i none) H', rt := D.rt, bk := fun σ' H' => D.bk (σ'.set i none) H', ct := fun σ' H' => D.ct (σ'.set i none) H' } (σ.set i (some (.ref a))) H) ∧ (b = false → W D cls d σ H))
section
variable {X : Cx} {pins : List (Addr × Obj)} {σ : L2.St} {H : Hp} {s : Shared} {a : Addr} {cls : Value} {d : Option Addr} {W0 : WX}
/-- a clause's test -/
theorem Landed.test (L : Landed X pins σ H a cls d s) (hf : X.env.frame = some X.env.locals) {x : Str} {c : Value} {np : PySem.Pos} (hc : Names X x c) {b : Bool} (hb : PySem.W.exmOne X.K cls c = some b) {Q E : Value → Shared → Prop}
    (q : (∀ (A : Around) (Q E : Bool → Shared → Prop), True) → ∀ M, PySem.W.Looks M s.heap (typeOf (.ref a)) cls → Q c s) : wpAny (model X.prog X.w) (X.A.mark (some (.ref a))) (eval (.Name x np) X.env) Q E s := by
  obtain ⟨oe, hz, hd, he, S⟩ := L.suite hf
  have q2 : Q c s := q (fun _ _ _ => trivial) (model X.prog X.w) fun A Q E s k q => wpAny_typeOf_ref (k _ _ he) (by rw [hz.1]; exact q)
  obtain ⟨hg, hdbg, hm | ⟨hm, hv, hnn⟩⟩ := hc
  · exact ld_glob (X := X.suite a ((a, oe) :: (X.pn ++ pins))) S hg hm q2 hdbg
  · exact ld_blt (X := X.suite a ((a, oe) :: (X.pn ++ pins))) S hg hm hv q2 hnn hdbg
theorem ends_plain {a : Addr} {p : Addr × Obj} {D : Ends} {f : Flow} (ok : X.Ok) (h : SP (X.suite a (p :: (X.pn ++ pins))) [] D f s) : SP X pins D f s := by
  cases f with
  | ret u =>
    obtain ⟨v, σ6, H6, S6, r, q⟩ := h
    exact ⟨v, σ6, H6, S6.unsuite ok, r, q⟩
  | next =>
    obtain ⟨σ6, H6, S6, q⟩ := h
    exact ⟨σ6, H6, S6.unsuite ok, q⟩
  | brk =>
    obtain ⟨σ6, H6, S6, q⟩ := h
    exact ⟨σ6, H6, S6.unsuite ok, q⟩
  | cont =>
    obtain ⟨σ6, H6, S6, q⟩ := h
    exact ⟨σ6, H6, S6.unsuite ok, q⟩
theorem caught (hs : X.stack = X.env :: X.outer) (hf : X.env.frame = some X.env.locals) (hN : X.N.Nodup) (tk : Takes X W0) {D : Ends} {hds : List ExceptHandler} {W : Ends → WX} (C : Clauses X W0 hds W) (L : Landed X pins σ H a cls d s) (w : W D cls d σ H) :
    wpAny (model X.prog X.w) X.A (handleBy (.ref a) X.env hds) (SP X pins D) X.xe s := by
  have ok := L.inv.ok
  have LT : ∀ M, PySem.W.Looks M s.heap (typeOf (.ref a)) cls := fun M => by
    obtain ⟨oe, hz, _, he, _⟩ := L.suite hf
    exact fun A Q E s k q => wpAny_typeOf_ref (k _ _ he) (by rw [hz.1]; exact q)
  induction C with
  | nil =>
    refine wpAny_handleBy_nil ?_
    obtain ⟨B, sI, fl, J, nb, up, os, ag⟩ := L.go
    obtain ⟨_, _, _, oe, vs, T, oT, ts, he, _, hd, h1, _⟩ := id fl
    have out : wpAny (model X.prog X.w) X.A (setFlight (.ref a) X.env.frame) (fun _ s4 => wpAny (model X.prog X.w) X.A (throw (.ref a) : Sem Flow) (SP X pins D) X.xe s4) X.xe s := by
      rw [hf]
      exact HandSPX.setFlight_upZ fl fun h4 hh4 up4 => wpAny_throw (tk _ _ ⟨a, B, sI, pins, σ, H, cls, d, rfl, J, nb, up.trans up4, .inr (.inr (by rw [hs]; exact hh4)), L.no, os, ag, w⟩)
    unfold PySem.passOn
    refine wpAny_bind (wpAny_field he hd h1 ?_)
    rw [if_neg (show ¬ ((Value.ref T == Value.none) = true) from by simp)]
    first
      | exact wpAny_bind (wpAny_pure (wpAny_bind out))
      | exact wpAny_bind out
  | plain hc hsu r ih =>
    obtain ⟨b, hb, yes, no⟩ := w
    refine wpAny_handleBy_cons (codeAny_handlers_test (L.test hf hc hb fun _ _ _ => ((PySem.W.exm_one (M := model X.prog X.w) L.inv.kIn (LT _) hb).here ?_))) (by intro q; cases q)
    cases b with
    | false => exact ih (no rfl)
    | true =>
      refine codeAny_handlers_suite ?_
      obtain ⟨B, fl, k⟩ := L.again (M := model X.prog X.w) (A := X.A) (E := X.xe) (Q := fun _ s' => Landed X pins σ H a cls d s') fun _ z => z
      refine HandSPX.lands_againZ fl fun h4 fl4 up4 => ?_
      obtain ⟨oe, hz, hd, he, S⟩ := (k h4 fl4 up4).suite hf
      exact wpAny_mono ((hsu a oe cls d (X.pn ++ pins) hz hd).run [] _ _ H _ S (yes rfl a L.no)) (fun f s6 hsp => ends_plain ok hsp) fun _ _ z => z.elim
  | @named x n c i ts b₀ suite np pos' hds W hc hi hln hsu r ih =>
    obtain ⟨b, hb, yes, no⟩ := w
    refine wpAny_handleBy_cons (codeAny_handlers_test (L.test hf hc hb fun _ _ _ => ((PySem.W.exm_one (M := model X.prog X.w) L.inv.kIn (LT _) hb).here ?_))) (by intro q; cases q)
    cases b with
    | false => exact ih (no rfl)
    | true =>
      refine codeAny_handlers_suite_as ?_
      obtain ⟨B, fl, k⟩ := L.again (M := model X.prog X.w) (A := X.A) (E := X.xe) (Q := fun _ s' => Landed X pins σ H a cls d s') fun _ z => z
      refine HandSPX.lands_againZ fl fun h4 fl4 up4 => ?_
      obtain ⟨oe, hz, hd, he, S⟩ := (k h4 fl4 up4).suite hf
      refine store_ok (X := X.suite a ((a, oe) :: (X.pn ++ pins))) (v := .ref a) S hN hi (.inl hln) rfl (fun s5 S5 => ?_) (.inr hln)
      refine wpAny_mono ((hsu a oe cls d (X.pn ++ pins) hz hd).run [] s5 _ H _ S5 (yes rfl a L.no)) (fun f s6 hsp => ?_) fun _ _ z => z.elim
      have gone : ∀ {σ6 : L2.St} {H6 : Hp} {Q : Shared → Prop}, Inv X pins σ6 H6 s6 → (∀ s7, Inv X pins (σ6.set i none) H6 s7 → Q s7) → wpAny (model X.prog X.w) X.A (do bindName X.env n .none; unbindBehindTheSuite X.env n pos') (fun _ s7 => Q s7) X.xe s6 :=
        fun J6 hq => gone_ok J6 hN hi hln hq
      have q6 := ends_plain ok hsp
      cases f with
      | ret u =>
        obtain ⟨v6, σ6, H6, J6, r6, q6⟩ := q6
        exact gone J6 fun s7 J7 => ⟨_, _, _, J7, r6, q6⟩
      | next =>
        obtain ⟨σ6, H6, J6, q6⟩ := q6
        exact gone J6 fun s7 J7 => ⟨_, _, J7, q6⟩
      | brk =>
        obtain ⟨σ6, H6, J6, q6⟩ := q6
        exact gone J6 fun s7 J7 => ⟨_, _, J7, q6⟩
      | cont =>
        obtain ⟨σ6, H6, J6, q6⟩ := q6
        exact gone J6 fun s7 J7 => ⟨_, _, J7, q6⟩
/-- try: body / except .. -/
theorem ps_tryx {body : List Stmt} {h₀ : ExceptHandler} {hds : List ExceptHandler} {W : Ends → WX} {tb : WX → TS} {pos : PySem.Pos} (hs : X.stack = X.env :: X.outer) (hf : X.env.frame = some X.env.locals) (hN : X.N.Nodup) (tk : Takes X W0) (C : Clauses X W0 (h₀ :: hds) W)
    (hb : ∀ (W : WX) (pn : List (Addr × Obj)) (xe : Value → Shared → Prop), Takes (X.tr pn xe) W → PassesOwn (model X.prog X.w) X.A X.env xe → PSs (X.tr pn xe) body (tb W)) : PS X (.Try body (h₀ :: hds) [] [] pos) (fun D σ H => tb (W D) D σ H) := by
  refine ⟨fun pins s σ H D I h => ?_⟩
  have ok := I.ok
  have hfr : X.A.frames = some (X.env :: X.outer) := by rw [ok.frames, hs]
  refine wpAny_Try_except (wpAny_mono ((hb (W D) (X.pn ++ pins) _ (fun u s' xx => ?_) PassesOwn.looking).run [] s σ H D (I.toTry _) h) (fun f s1 hsp => ?_) fun _ _ he => he)
  · obtain ⟨a, B, sI, pins', σ', H', cls, d, rfl, J, nb, up, sky, na, os, ag, w⟩ := xx
    have J := J.ofTry ok
    have sky : Sky B (X.env :: X.outer) a (Zc cls d) X.env.locals s'.heap := by rw [← hs]; exact sky
    exact Sky.land Zc.steady hfr hf sky fun h3 fl3 up3 => caught hs hf hN tk C ⟨⟨B, sI, fl3, J, nb, up.trans up3, os, ag⟩, na⟩ w
  · cases f with
    | ret u =>
      obtain ⟨v, σ', H', J, r, q⟩ := hsp
      exact ⟨v, σ', H', J.ofTry ok, r, q⟩
    | next =>
      obtain ⟨σ', H', J, q⟩ := hsp
      exact wpAny_execs_nil ⟨σ', H', J.ofTry ok, q⟩
    | brk =>
      obtain ⟨σ', H', J, q⟩ := hsp
      exact ⟨σ', H', J.ofTry ok, q⟩
    | cont =>
      obtain ⟨σ', H', J, q⟩ := hsp
      exact ⟨σ', H', J.ofTry ok, q⟩
end
end CS
set_option Elab.async false
set_option maxRecDepth 100000
set_option maxHeartbeats 8000000
set_option linter.unusedVariables false
namespace CS
open PySem L2
abbrev bmO : List Value := [.type "OverflowError", .type "ArithmeticError", .type "Exception", .type "BaseException", .type "object"]
abbrev bmV : List Value := [.type "ValueError", .type "Exception", .type "BaseException", .type "object"]
theorem AllF.app {n : Nat} {xs ys : List (Int × Fx)} (h : AllF n xs) (g : AllF n ys) : AllF n (xs ++ ys) := fun a ha => (List.mem_append.mp ha).elim (h a) (g a)
theorem AllF.up {n m : Nat} {xs : List (Int × Fx)} (h : AllF n xs) (l : n ≤ m) : AllF m xs := fun a ha => ⟨(h a ha).1, (h a ha).2.up l⟩
section
variable {P : Program} {w : World} {K : PySem.W.Frag} {mg : Str → Option Value} {base : Heap}
/-- an exception class of the text with its __init__ -/
structure Xc (K : PySem.W.Frag) (mg : Str → Option Value) (x f : Str) (C fI : Addr) (bmB : List Value) (newId : String) (st : Stmt) (qual : Str) (fd : FuncData) : Prop where
  T : OwnX K mg x f C fI bmB newId
  F : Fun K "__init__" qual st fI fd
  b : Binds K fd ["self", f] []
/-- put together: the gathered share, or too many -/
def spPutT (K : PySem.W.Frag) (CT : Addr) : Sp := fun vs H Q E => ∃ p q xs ys, vs = [.ref p, .ref q] ∧ ShAt K H p xs ∧ ShAt K H q ys ∧ Shr xs ∧ Shr ys ∧ AllF 80 xs ∧ AllF 80 ys ∧ ∀ H' r zs, Same H H' → ShAt K H' r zs → IsS (gat [] (xs ++ ys)) zs →
  (zs.length ≤ 8 → Q (.ref r) H') ∧ (8 < zs.length → ∀ d, H' d = none → E (.ref CT) (some d) (upd H' d (.xd [("most", .int 8)])))
end
end CS
set_option maxHeartbeats 1000000
set_option linter.unusedVariables false
namespace CS
theorem ups_new {f : List (Int × Fx)} {k : Int} {x : Fx} (h : k ∉ f.map (·.1)) : ups f k x = f ++ [(k, x)] := by
  induction f with
  | nil => rfl
  | cons a f ih =>
    obtain ⟨i, y⟩ := a
    simp only [List.map_cons, List.mem_cons, not_or] at h
    simp [ups, Ne.symm h.1, ih h.2]
theorem cm_pos {t b : Int} (hb : 0 < b) : 0 < cm t b := by
  unfold cm
  rw [if_neg (by omega)]
  have := gcd_pos (t := t) (b := b) (by omega)
  omega
theorem sg {c l : Int} (h : 0 < c) : (0 < l ↔ 0 < c * l) ∧ (l < 0 ↔ c * l < 0) := by
  rcases Int.lt_trichotomy l 0 with a | a | a
  · have := Int.mul_neg_of_pos_of_neg h a
    omega
  · subst a
    simp
  · have := Int.mul_pos h a
    omega
theorem low_sign {t b : Int} (hb : 0 < b) : (0 < (low t b).1 ↔ 0 < t) ∧ ((low t b).1 < 0 ↔ t < 0) := by
  have e := (low_parts (t := t) (b := b) (by omega)).1
  have h := sg (l := (low t b).1) (cm_pos (t := t) hb)
  rw [← e] at h
  exact h
theorem fr_zero {x : Fx} (h : Fr x) (e : x.1 = 0) : x = (0, 1) := by
  obtain ⟨a, b⟩ := x
  have h1 := h.1
  have h2 := h.2
  simp only at e h1 h2
  subst e
  rw [Int.gcd_zero_left] at h2
  have : b = 1 := by omega
  rw [this]
theorem fadd_pos {x y : Fx} (hx : Fr x) (hy : Fr y) (px : 0 ≤ x.1) (py : 0 ≤ y.1) (h : 0 < x.1 ∨ 0 < y.1) : 0 < (fadd x y).1 := by
  unfold fadd
  rw [(low_sign (dd0 hx hy)).1]
  have h1 := hx.pos
  have h2 := hy.pos
  rcases h with h | h
  · have a := Int.mul_pos h h2
    have b := Int.mul_nonneg py (Int.le_of_lt h1)
    omega
  · have a := Int.mul_pos h h1
    have b := Int.mul_nonneg px (Int.le_of_lt h2)
    omega
theorem scl_neg {y : Fx} (hy : Fr y) : scl y (-1) = (-y.1, y.2) := by
  unfold scl
  refine low_uniq hy.ne ⟨hy.1, ?_⟩ (by simp)
  have := hy.2
  simpa [Int.neg_gcd] using this
theorem fadd_neg {x y : Fx} (hy : Fr y) : fadd x (scl y (-1)) = fsub x y := by
  rw [scl_neg hy]
  unfold fadd fsub
  simp only [Int.neg_mul, Int.sub_eq_add_neg]
theorem fsub_neg_iff {x y : Fx} (hx : Fr x) (hy : Fr y) : (fsub x y).1 < 0 ↔ flt x y = true := by
  unfold fsub flt
  rw [(low_sign (dd0 hx hy)).2, decide_eq_true_iff]
  omega
theorem lk_of_mem : ∀ {xs : List (Int × Fx)} {k : Int} {x : Fx}, (xs.map (·.1)).Nodup → (k, x) ∈ xs → lk xs k = x
  | [], _, _, _, h => by cases h
  | (j, y) :: xs, k, x, hn, h => by
    rw [List.map_cons, List.nodup_cons] at hn
    rw [lk_cons]
    rcases List.mem_cons.mp h with e | h
    · cases e
      rw [if_pos rfl]
    · rw [if_neg fun e => hn.1 (by rw [← e]; exact List.mem_map.mpr ⟨(k, x), h, rfl⟩)]
      exact lk_of_mem hn.2 h
/-- weights taken away one after another -/
def tks (f ys : List (Int × Fx)) : List (Int × Fx) := ys.foldl (fun f kx => ups f kx.1 (fsub (lk f kx.1) kx.2)) f
theorem tks_snoc (f ys : List (Int × Fx)) (a : Int × Fx) : tks f (ys ++ [a]) = ups (tks f ys) a.1 (fsub (lk (tks f ys) a.1) a.2) := by
  unfold tks
  rw [List.foldl_append]
  rfl
theorem tks_none : ∀ (ys f : List (Int × Fx)) (j : Int), j ∉ ys.map (·.1) → lk (tks f ys) j = lk f j
  | [], _, _, _ => rfl
  | (k, x) :: ys, f, j, h => by
    simp only [List.map_cons, List.mem_cons, not_or] at h
    show lk (tks (ups f k (fsub (lk f k) x)) ys) j = _
    rw [tks_none ys _ j h.2, lk_ups, if_neg h.1]
theorem lk_tks : ∀ (ys f : List (Int × Fx)) (j : Int), (ys.map (·.1)).Nodup → lk (tks f ys) j = if j ∈ ys.map (·.1) then fsub (lk f j) (lk ys j) else lk f j
  | [], f, j, _ => by simp [tks]
  | (k, x) :: ys, f, j, h => by
    rw [List.map_cons, List.nodup_cons] at h
    show lk (tks (ups f k (fsub (lk f k) x)) ys) j = _
    by_cases e : j = k
    · subst e
      rw [tks_none ys _ j h.1, lk_ups, if_pos rfl, lk_cons, if_pos rfl, if_pos (by simp)]
    · have q : (j ∈ ((k, x) :: ys).map (·.1)) ↔ j ∈ ys.map (·.1) := by simp [e]
      rw [lk_tks ys _ j h.2, lk_ups, if_neg e, lk_cons, if_neg e]
      simp only [q]
theorem tks_keys : ∀ (ys f : List (Int × Fx)) (j : Int), j ∈ (tks f ys).map (·.1) ↔ j ∈ f.map (·.1) ∨ j ∈ ys.map (·.1)
  | [], f, j => by simp [tks]
  | (k, x) :: ys, f, j => by
    show j ∈ (tks (ups f k _) ys).map (·.1) ↔ _
    rw [tks_keys ys, ups_keys]
    simp only [List.map_cons, List.mem_cons]
    grind
theorem tks_nodup : ∀ (ys f : List (Int × Fx)), (f.map (·.1)).Nodup → ((tks f ys).map (·.1)).Nodup
  | [], _, h => h
  | (k, x) :: ys, f, h => tks_nodup ys _ (ups_nodup f k _ h)
theorem tks_len : ∀ (ys f : List (Int × Fx)), (tks f ys).length ≤ f.length + ys.length
  | [], _ => Nat.le_refl _
  | (k, x) :: ys, f => by
    have h1 := tks_len ys (ups f k (fsub (lk f k) x))
    have h2 := ups_len f k (fsub (lk f k) x)
    show (tks (ups f k (fsub (lk f k) x)) ys).length ≤ _
    rw [List.length_cons]
    omega
theorem gat_frS {n : Nat} {f xs : List (Int × Fx)} (hf : AllF n f) (h : AllF n xs) (h0 : 0 < n) (j : Int) : Fr (lk (gat f xs) j) ∧ Sz (n + xs.length * (n + 1)) (lk (gat f xs) j) := by
  rw [lk_gat]
  have hl := lk_fr hf h0 j
  exact ⟨cfold_fr j xs _ hl.1 fun x hx => (h x hx).1, cfold_sz n j xs _ n hl.1 hl.2 h⟩
/-! two shares -/
/-- as the law draws them, or puts them together -/
structure Good (n : Nat) (xs : List (Int × Fx)) : Prop where
  nd : (xs.map (·.1)).Pairwise (· < ·)
  all : AllF n xs
  pos : ∀ a ∈ xs, 0 < a.2.1
  lo : ∀ a ∈ xs, -100 ≤ a.1 ∧ a.1 ≤ 100
theorem Good.nodup {n : Nat} {xs : List (Int × Fx)} (g : Good n xs) : (xs.map (·.1)).Nodup := g.nd.imp fun e => Int.ne_of_lt e
theorem Good.shr {n : Nat} {xs : List (Int × Fx)} (g : Good n xs) (h : xs.length ≤ 8) : Shr xs := ⟨h, fun a ha => ⟨(g.lo a ha).1, (g.lo a ha).2, (g.all a ha).1, g.pos a ha⟩, g.nd⟩
theorem lk_nonneg {xs : List (Int × Fx)} (h : ∀ a ∈ xs, 0 < a.2.1) (k : Int) : 0 ≤ (lk xs k).1 ∧ (k ∈ xs.map (·.1) → 0 < (lk xs k).1) := by
  induction xs with
  | nil => exact ⟨by show (0 : Int) ≤ 0; decide, fun h => by cases h⟩
  | cons a xs ih =>
    obtain ⟨j, y⟩ := a
    have ih := ih fun b hb => h b (List.mem_cons_of_mem _ hb)
    have hy := h (j, y) List.mem_cons_self
    simp only at hy
    rw [lk_cons]
    by_cases e : k = j
    · rw [if_pos e]
      exact ⟨by omega, fun _ => hy⟩
    · rw [if_neg e]
      refine ⟨ih.1, fun m => ih.2 ?_⟩
      rcases List.mem_cons.mp m with q | q
      · exact absurd q e
      · exact q
theorem Good.self {n : Nat} {xs : List (Int × Fx)} (g : Good n xs) : IsS xs xs := ⟨g.nd, fun k x => by
  constructor
  · intro h
    refine ⟨lk_of_mem g.nodup h, fun e => ?_⟩
    have q : 0 < x.1 := g.pos _ h
    rw [e] at q
    exact absurd q (by decide)
  · rintro ⟨e, h⟩
    have m := lk_mem (f := xs) (k := k) (by rw [e]; exact h)
    obtain ⟨⟨k2, y⟩, hm, e2⟩ := List.mem_map.mp m
    simp only at e2
    subst e2
    rw [lk_of_mem g.nodup hm] at e
    rw [← e]
    exact hm⟩
theorem lk_cat {n : Nat} {xs ys : List (Int × Fx)} (g : Good n xs) (h0 : 0 < n) (hn : (ys.map (·.1)).Nodup) (j : Int) : lk (gat [] (xs ++ ys)) j = fadd (lk xs j) (lk ys j) := by
  have e : gat [] (xs ++ ys) = gat (gat [] xs) ys := by
    unfold gat
    rw [List.foldl_append]
  have hx : lk (gat [] xs) j = lk xs j := by
    rw [lk_gat]
    exact (fold_nodup xs j (0, 1) fr01 g.nodup).trans (zero_fadd (lk_fr g.all h0 j).1)
  rw [e, lk_gat, fold_nodup ys j _ (by rw [hx]; exact (lk_fr g.all h0 j).1) hn, hx]
theorem both_good {n : Nat} {xs ys zs : List (Int × Fx)} (gx : Good n xs) (gy : Good n ys) (h0 : 0 < n) (h : IsS (gat xs ys) zs) : Good (n + n + 1) zs := by
  have val : ∀ k x, (k, x) ∈ zs → x = fadd (lk xs k) (lk ys k) ∧ (k ∈ xs.map (·.1) ∨ k ∈ ys.map (·.1)) := fun k x hm => by
    obtain ⟨e, hx⟩ := (h.2 k x).mp hm
    rw [lk_gat_nodup gx.all h0 gy.nodup] at e
    refine ⟨e.symm, ?_⟩
    by_cases a : k ∈ xs.map (·.1)
    · exact .inl a
    · refine .inr ?_
      by_cases b : k ∈ ys.map (·.1)
      · exact b
      · rw [lk_none a, lk_none b] at e
        exact absurd (e.symm.trans (by decide)) hx
  refine ⟨h.1, fun a ha => ?_, fun a ha => ?_, fun a ha => ?_⟩
  · obtain ⟨e, _⟩ := val a.1 a.2 ha
    have h1 := lk_fr gx.all h0 a.1
    have h2 := lk_fr gy.all h0 a.1
    rw [e]
    exact ⟨fadd_fr h1.1 h2.1, fadd_sz h1.1 h2.1 h1.2 h2.2⟩
  · obtain ⟨e, m⟩ := val a.1 a.2 ha
    have h1 := lk_nonneg gx.pos a.1
    have h2 := lk_nonneg gy.pos a.1
    rw [e]
    exact fadd_pos (lk_fr gx.all h0 a.1).1 (lk_fr gy.all h0 a.1).1 h1.1 h2.1 (m.imp h1.2 h2.2)
  · obtain ⟨e, m⟩ := val a.1 a.2 ha
    rcases m with m | m
    · obtain ⟨b, hb, eb⟩ := List.mem_map.mp m
      rw [← eb]
      exact gx.lo b hb
    · obtain ⟨b, hb, eb⟩ := List.mem_map.mp m
      rw [← eb]
      exact gy.lo b hb
def ngs (ys : List (Int × Fx)) : List (Int × Fx) := ys.map fun a => (a.1, scl a.2 (-1))
theorem ngs_keys (ys : List (Int × Fx)) : (ngs ys).map (·.1) = ys.map (·.1) := by
  unfold ngs
  rw [List.map_map]
  rfl
theorem lk_ngs (ys : List (Int × Fx)) (j : Int) : lk (ngs ys) j = scl (lk ys j) (-1) := by
  induction ys with
  | nil =>
    show ((0, 1) : Fx) = scl (0, 1) (-1)
    decide
  | cons a ys ih =>
    obtain ⟨k, y⟩ := a
    show lk ((k, scl y (-1)) :: ngs ys) j = _
    rw [lk_cons, lk_cons, ih]
    split <;> rfl
theorem lk_take {n : Nat} {xs ys : List (Int × Fx)} (gx : Good n xs) (gy : Good n ys) (h0 : 0 < n) (j : Int) : lk (gat [] (xs ++ ngs ys)) j = fsub (lk xs j) (lk ys j) := by
  rw [lk_cat gx h0 (by rw [ngs_keys]; exact gy.nodup), lk_ngs, fadd_neg (lk_fr gy.all h0 j).1]
/-- what was put on is taken off -/
theorem take_both {n : Nat} {xs ys zs ws : List (Int × Fx)} (gx : Good n xs) (gy : Good n ys) (h0 : 0 < n) (hz : IsS (gat xs ys) zs) (hw : IsS (gat [] (zs ++ ngs ys)) ws) : ws = xs := by
  have gz := both_good gx gy h0 hz
  refine hw.uniq gx.self fun k => ?_
  have e : lk zs k = fadd (lk xs k) (lk ys k) := by
    rw [← lk_gat_nodup gx.all h0 gy.nodup]
    by_cases c : lk (gat xs ys) k = (0, 1)
    · rw [c]
      by_cases d : lk zs k = (0, 1)
      · exact d
      · obtain ⟨⟨k2, y⟩, hm, e2⟩ := List.mem_map.mp (lk_mem d)
        simp only at e2
        subst e2
        exact absurd (c ▸ ((hz.2 _ _).mp hm).1.symm) ((hz.2 _ _).mp hm).2
    · exact lk_of_mem gz.nodup ((hz.2 k _).mpr ⟨rfl, c⟩)
  have gy2 : AllF (n + n + 1) ys := fun a ha => ⟨(gy.all a ha).1, (gy.all a ha).2.up (by omega)⟩
  rw [lk_take gz ⟨gy.nd, gy2, gy.pos, gy.lo⟩ (by omega), e]
  exact fsub_fadd (lk_fr gx.all h0 k).1 (lk_fr gy.all h0 k).1
theorem both_comm {n : Nat} {xs ys zs ws : List (Int × Fx)} (gx : Good n xs) (gy : Good n ys) (h0 : 0 < n) (hz : IsS (gat xs ys) zs) (hw : IsS (gat [] (ys ++ xs)) ws) : ws = zs :=
  hw.uniq hz fun k => by rw [lk_cat gy h0 gx.nodup, lk_gat_nodup gx.all h0 gy.nodup, fadd_comm]
theorem both_same {n : Nat} {xs ys zs ws : List (Int × Fx)} (gx : Good n xs) (gy : Good n ys) (h0 : 0 < n) (hz : IsS (gat xs ys) zs) (hw : IsS (gat [] (xs ++ ys)) ws) : ws = zs :=
  hw.uniq hz fun k => by rw [lk_cat gx h0 gy.nodup, lk_gat_nodup gx.all h0 gy.nodup]
/-- the second one is within the first one -/
def Inn (xs ys : List (Int × Fx)) : Prop := ∀ a ∈ ys, a.1 ∈ xs.map (·.1) ∧ flt (lk xs a.1) a.2 = false
theorem nd_len : ∀ {r q : List Int}, r.Nodup → (∀ a ∈ r, a ∈ q) → r.length ≤ q.length
  | [], _, _, _ => Nat.zero_le _
  | a :: r, q, h, m => by
    rw [List.nodup_cons] at h
    have ha : a ∈ q := m a List.mem_cons_self
    have h2 := nd_len (q := q.erase a) h.2 fun b hb => (List.mem_erase_of_ne fun e => h.1 (by rw [← e]; exact hb)).mpr (m b (List.mem_cons_of_mem _ hb))
    rw [List.length_erase_of_mem ha] at h2
    have := List.length_pos_of_mem ha
    rw [List.length_cons]
    omega
theorem take_in {n : Nat} {xs ys zs : List (Int × Fx)} (gx : Good n xs) (gy : Good n ys) (h0 : 0 < n) (h8 : xs.length ≤ 8) (hz : IsS (gat [] (xs ++ ngs ys)) zs) (h : Inn xs ys) : Shr zs ∧ ∀ ws, IsS (tks xs ys) ws → zs = ws := by
  have lx := fun k => lk_fr gx.all h0 k
  have ly := fun k => lk_fr gy.all h0 k
  have val : ∀ k x, (k, x) ∈ zs → x = fsub (lk xs k) (lk ys k) ∧ x ≠ (0, 1) ∧ k ∈ xs.map (·.1) := fun k x hm => by
    obtain ⟨e, hx⟩ := (hz.2 k x).mp hm
    rw [lk_take gx gy h0] at e
    refine ⟨e.symm, hx, ?_⟩
    by_cases a : k ∈ xs.map (·.1)
    · exact a
    · by_cases b : k ∈ ys.map (·.1)
      · obtain ⟨c, hc, ec⟩ := List.mem_map.mp b
        rw [← ec]
        exact (h c hc).1
      · rw [lk_none a, lk_none b] at e
        exact absurd (e.symm.trans (by decide)) hx
  refine ⟨⟨?_, fun a ha => ?_, hz.1⟩, fun ws hw => hz.uniq hw fun k => ?_⟩
  · have n1 : (zs.map (·.1)).Nodup := hz.1.imp fun e => Int.ne_of_lt e
    have := nd_len (q := xs.map (·.1)) n1 fun k hk => by
      obtain ⟨a, ha, rfl⟩ := List.mem_map.mp hk
      exact (val a.1 a.2 ha).2.2
    rw [List.length_map, List.length_map] at this
    omega
  · obtain ⟨e, hne, m⟩ := val a.1 a.2 ha
    obtain ⟨b, hb, eb⟩ := List.mem_map.mp m
    have lo := gx.lo b hb
    rw [eb] at lo
    have f : Fr a.2 := by rw [e]; exact fsub_fr (lx _).1 (ly _).1
    refine ⟨lo.1, lo.2, f, ?_⟩
    have n0 : a.2.1 ≠ 0 := fun z => hne (fr_zero f z)
    have n1 : ¬ a.2.1 < 0 := fun z => by
      rw [e, fsub_neg_iff (lx _).1 (ly _).1] at z
      by_cases c : a.1 ∈ ys.map (·.1)
      · obtain ⟨b2, hb2, eb2⟩ := List.mem_map.mp c
        have q := (h b2 hb2).2
        rw [eb2] at q
        rw [← eb2, lk_of_mem gy.nodup hb2, eb2, q] at z
        cases z
      · rw [lk_none c] at z
        unfold flt at z
        have := (lk_nonneg gx.pos a.1).1
        have z2 := of_decide_eq_true z
        simp only [Int.mul_one, Int.zero_mul] at z2
        omega
    omega
  · rw [lk_take gx gy h0, lk_tks ys xs k gy.nodup]
    split
    · rfl
    · rename_i c
      rw [lk_none c]
      have := fsub_fadd (lx k).1 fr01
      rw [fadd_zero (lx k).1] at this
      exact this
theorem take_out {n : Nat} {xs ys zs : List (Int × Fx)} (gx : Good n xs) (gy : Good n ys) (h0 : 0 < n) (hz : IsS (gat [] (xs ++ ngs ys)) zs) (h : ¬ Inn xs ys) : ¬ Shr zs := fun S => by
  refine h fun a ha => ?_
  have hl := lk_of_mem gy.nodup ha
  have hp := gy.pos a ha
  have key : flt (lk xs a.1) a.2 = false := by
    cases c : flt (lk xs a.1) a.2 with
    | false => rfl
    | true =>
      have neg : (fsub (lk xs a.1) (lk ys a.1)).1 < 0 := by
        rw [fsub_neg_iff (lk_fr gx.all h0 _).1 (lk_fr gy.all h0 _).1, hl]
        exact c
      have hm : (a.1, fsub (lk xs a.1) (lk ys a.1)) ∈ zs := (hz.2 _ _).mpr ⟨lk_take gx gy h0 _, fun e => by rw [e] at neg; exact absurd neg (by decide)⟩
      have := (S.2.1 _ hm).2.2.2
      simp only at this
      omega
  refine ⟨?_, key⟩
  by_cases m : a.1 ∈ xs.map (·.1)
  · exact m
  · rw [lk_none m] at key
    unfold flt at key
    have z := of_decide_eq_false key
    simp only [Int.zero_mul, Int.mul_one] at z
    omega
theorem take_self {n : Nat} {xs zs : List (Int × Fx)} (gx : Good n xs) (h0 : 0 < n) (hz : IsS (gat [] (xs ++ ngs xs)) zs) : zs = [] := by
  refine hz.uniq (g := []) ⟨List.Pairwise.nil, fun k x => ?_⟩ fun k => ?_
  · constructor
    · intro h
      cases h
    · rintro ⟨e, h⟩
      exact absurd e.symm h
  · rw [lk_take gx gx h0]
    have := fsub_fadd fr01 (lk_fr gx.all h0 k).1
    rw [zero_fadd (lk_fr gx.all h0 k).1] at this
    exact this
end CS
set_option Elab.async false
set_option maxRecDepth 100000
set_option maxHeartbeats 8000000
set_option linter.unusedVariables false
namespace CS
open PySem L2
theorem ngs_all {n : Nat} {ys : List (Int × Fx)} (h : AllF n ys) : AllF (n + 1) (ngs ys) := fun a ha => by
  obtain ⟨b, hb, rfl⟩ := List.mem_map.mp ha
  exact ⟨scl_fr (h b hb).1 _, scl_sz (m := 1) (h b hb).1 (h b hb).2 (by decide)⟩
theorem IsS.len {f r : List (Int × Fx)} (h : IsS f r) : r.length ≤ f.length := by
  have n : (r.map (·.1)).Nodup := h.1.imp fun e => Int.ne_of_lt e
  have := nd_len (q := f.map (·.1)) n fun a ha => by
    obtain ⟨⟨k, x⟩, hk, rfl⟩ := List.mem_map.mp ha
    obtain ⟨e, z⟩ := (h.2 k x).mp hk
    exact lk_mem (by rw [e]; exact z)
  simpa using this
section
variable {P : Program} {w : World} {K : PySem.W.Frag} {mg : Str → Option Value} {base : Heap}
def spTakeT (K : PySem.W.Frag) (CB : Addr) : Sp := fun vs H Q E => ∃ p q xs ys, vs = [.ref p, .ref q] ∧ ShAt K H p xs ∧ ShAt K H q ys ∧ Shr xs ∧ Shr ys ∧ AllF 80 xs ∧ AllF 80 ys ∧ ∀ H' r zs, Same H H' → ShAt K H' r zs → IsS (gat [] (xs ++ ngs ys)) zs →
  (Shr zs → Q (.ref r) H') ∧ (¬ Shr zs → ∀ d, H' d = none → E (.ref CB) (some d) (upd H' d (.xd [("given", .ref q)])))
end
end CS
set_option Elab.async false
set_option maxRecDepth 100000
set_option maxHeartbeats 4000000
set_option linter.unusedVariables false
/-! tuples whose very object is known to have no dict of its own, made by tuple(list); dict(..) of such ones -/
namespace CS
open PySem PySem.Spec PyProof.Rows L2
def TupZ (H : Hp) (a : Addr) (xs : List V) : Prop := ∃ o : Obj, o.dict = none ∧ H a = some (.frz o (.tup xs))
theorem TupZ.sq {K : PySem.W.Frag} {H : Hp} {a : Addr} {xs : List V} (h : TupZ H a xs) : SqT K H a xs := by
  obtain ⟨o, _, e⟩ := h
  exact .inl (.inr ⟨o, e⟩)
section
variable {X : Cx}
theorem call_tuple_ofZ : CallR X (.type "tuple") (fun xs H Q => ∃ p ys, xs = [.ref p] ∧ SqL X.K H p ys ∧ ∀ l o, H l = none → o.dict = none → Q (.ref l) (upd H l (.frz o (.tup ys)))) := by
  intro pins s σ H xs us Q I r ⟨p, ys, ex, hq, q⟩
  subst ex
  obtain ⟨u, rfl, rx⟩ := vals1 r
  cases rx
  obtain ⟨its, rv, pl, hz⟩ := I.list hq
  have hl := rv.length
  refine call_tuple_list pl.isList (fun h' kp => ?_) (by simp only [List.size_toArray]; omega)
  have J : Inv X pins σ H { s with heap := h' } := I.kept (t' := s.toks) kp
  have g : (h'.push ({ cls := .type "tuple", data := .seq its.toArray } : Obj)).get? h'.objs.size = some { cls := .type "tuple", data := .seq its.toArray } := Heap.get?_push_size _ rfl
  refine ⟨.ref h'.objs.size, _, J.laid (t' := s.toks) (o := .frz { cls := .type "tuple", data := .seq its.toArray } (.tup ys)) (fun b o e => Heap.get?_push_of_some _ e) (Nat.le_refl _) ?_, rfl, q _ _ (J.hok.fresh (Nat.le_refl _)) rfl⟩
  exact ⟨g, hz, its, rv, ⟨_, g, rfl, _, rfl⟩⟩
theorem call_dictZ (hcalm : X.calm = true) : CallR X (.type "dict") (fun xs H Q => ∃ (a : Addr) (ps : List Addr) (kvs : List (Key × V)), xs = [.ref a] ∧ TupZ H a (ps.map V.ref) ∧ Paired (fun p kv => SqT X.K H p [kV kv.1, kv.2]) ps kvs ∧
    ∀ p, H p = none → Q (.ref p) (upd H p (.dK (mergeK [] kvs)))) := by
  intro pins s σ H xs us Q I r ⟨a, ps, kvs, ex, ⟨o, od, ho⟩, hp, q⟩
  subst ex
  obtain ⟨u, rfl, rx⟩ := vals1 r
  cases rx
  obtain ⟨g, z, its, rv, o2, g2, oc, n, dat⟩ := (show ObjOk X.prog X.w H s.heap a (.frz o (.tup (ps.map V.ref))) from I.hok a _ ho)
  rw [g] at g2
  cases g2
  cases refs_at rv
  rw [List.length_map] at z
  obtain ⟨prs, rel, hl, hpr⟩ := pairs_of I hp
  
  obtain ⟨us, hus⟩ : ∃ us : List (Value × Value), us.length = prs.length ∧ ∀ (j : Nat) (q : Key × Value), prs[j]? = some q → ∃ b u, us[j]? = some (u, q.2) ∧ ps[j]? = some b ∧ IsTup s.heap b #[u, q.2] ∧ keyIs q.1 u = true := by
    have mk : ∀ (prs : List (Key × Value)) (ps : List Addr), prs.length = ps.length → (∀ (j : Nat) (q : Key × Value), prs[j]? = some q → ∃ b u, ps[j]? = some b ∧ IsTup s.heap b #[u, q.2] ∧ keyIs q.1 u = true) → ∃ us : List (Value × Value), us.length = prs.length ∧ ∀ (j : Nat) (q : Key × Value), prs[j]? = some q → ∃ b u, us[j]? = some (u, q.2) ∧ ps[j]? = some b ∧ IsTup s.heap b #[u, q.2] ∧ keyIs q.1 u = true := by
      intro prs
      induction prs with
      | nil => exact fun ps _ _ => ⟨[], rfl, fun j q e => by simp at e⟩
      | cons p prs ih =>
        intro ps hl h
        cases ps with
        | nil => simp at hl
        | cons c ps =>
          obtain ⟨b, u, e1, e2, e3⟩ := h 0 p rfl
          obtain ⟨us, h1, h2⟩ := ih ps (by simpa using hl) fun j q e => by simpa using h (j + 1) q (by simpa using e)
          refine ⟨(u, p.2) :: us, by simp [h1], fun j q e => ?_⟩
          cases j with
          | zero =>
            cases (Option.some.inj e : p = q)
            exact ⟨b, u, rfl, e1, e2, e3⟩
          | succ j => simpa using h2 j q (by simpa using e)
    exact mk prs ps hl hpr
  obtain ⟨ul, uh⟩ := hus
  have P := PairArg.tuple (prog := X.prog) (w := X.w) a (ps.map Value.ref).toArray (fun j => (ps[j]?).getD 0) us
  refine PySem.call_dict_pairs (knd := mixKind X.prog X.w) (kvs := prs) P (I.ok.hd hcalm) ⟨⟨o, n, g, oc, od, dat⟩, by simp [ul, hl], fun j k v e => ?_⟩ ⟨by rw [ul], fun i k v e => ?_⟩ (by rw [ul, hl]; exact z) fun h' tk hd' k => ?_
  · have hj : j < prs.length := by rw [← ul]; exact (List.getElem?_eq_some_iff.mp e).1
    obtain ⟨b, u, e1, e2, e3, e4⟩ := uh j prs[j] (List.getElem?_eq_getElem hj)
    rw [e] at e1
    cases e1
    refine ⟨by simp [e2], ?_⟩
    show PairAt s.heap ((ps[j]?).getD 0) _ _
    rw [e2]
    exact .inl e3
  · have e : us[i]? = some (k, v) := e
    have hj : i < prs.length := by rw [← ul]; exact (List.getElem?_eq_some_iff.mp e).1
    obtain ⟨b, u, e1, e2, e3, e4⟩ := uh i prs[i] (List.getElem?_eq_getElem hj)
    rw [e] at e1
    cases e1
    exact ⟨prs[i].1, List.getElem?_eq_getElem hj, e4⟩
  · have hm : (s.heap.objs.size == sysModules) = false := beq_eq_false_iff_ne.mpr (Nat.ne_of_gt I.big)
    have h1 : (mergeK [] kvs).length ≤ sizeLine := by
      have := length_mergeK kvs []
      have h2 := Paired.length rel
      rw [List.length_nil, Nat.zero_add] at this
      omega
    exact ⟨.ref s.heap.objs.size, upd H s.heap.objs.size (.dK (mergeK [] kvs)), I.laid (t' := tk) (fun b o e => k b o (fun z => nomatch z) e) (Nat.le_refl _) (show ObjOk X.prog X.w _ _ _ (.dK (mergeK [] kvs)) from ⟨h1, hm, merged [] prs, KV.merge rel .nil, hd'⟩), rfl, q _ (I.hok.fresh (Nat.le_refl _))⟩
end
end CS
set_option Elab.async false
set_option maxRecDepth 100000
set_option maxHeartbeats 8000000
set_option linter.unusedVariables false
namespace CS
open PySem L2
theorem fr_one (m : Int) : Fr ((m, 1) : Fx) := by
  unfold Fr
  simp
theorem sz_one {m : Int} {n : Nat} (h : m.natAbs < 2 ^ n) (h0 : 0 < n) : Sz n ((m, 1) : Fx) := ⟨h, Nat.one_lt_two_pow (by omega)⟩
section
variable {P : Program} {w : World} {K : PySem.W.Frag} {mg : Str → Option Value} {base : Heap}
/-! share_of -/
def spShOf (K : PySem.W.Frag) : Sp := fun vs H Q _ => ∃ d kvs g, vs = [.ref d] ∧ H d = some (.dK kvs) ∧ DPr K H kvs g ∧ (g.map (·.1)).Nodup ∧ g.length ≤ 40 ∧ ∀ H' r ys, Same H H' → ShAt K H' r ys → IsS g ys → Q (.ref r) H'
end
end CS
set_option Elab.async false
set_option maxRecDepth 100000
set_option maxHeartbeats 8000000
set_option linter.unusedVariables false
namespace CS
open PySem L2
/-! shares whose tuple has no dict of its own -/
def ShZ (K : PySem.W.Frag) (H : Hp) (p : Addr) (xs : List (Int × Fx)) : Prop := ∃ vs, TupZ H p vs ∧ PrsAt K H vs xs
section
variable {K : PySem.W.Frag} {H H' : Hp}
theorem ShZ.sh {p : Addr} {xs : List (Int × Fx)} (h : ShZ K H p xs) : ShAt K H p xs := by
  obtain ⟨vs, a, b⟩ := h
  exact ⟨vs, a.sq, b⟩
theorem ShZ.same {p : Addr} {xs : List (Int × Fx)} (e : Same H H') (h : ShZ K H p xs) : ShZ K H' p xs := by
  obtain ⟨vs, ⟨o, d, a⟩, b⟩ := h
  exact ⟨vs, ⟨o, d, e _ _ a⟩, b.tk (tk_same e)⟩
/-- the table that dict(..) makes of a share -/
theorem dpr_merge : ∀ {vs : List V} {xs : List (Int × Fx)}, PrsAt K H vs xs → ∃ (ps : List Addr) (kvs : List (Key × V)), vs = ps.map V.ref ∧ Paired (fun p kv => SqT K H p [kV kv.1, kv.2]) ps kvs ∧
    ∀ (acc : List (Key × V)) (f : List (Int × Fx)), DPr K H acc f → ((f ++ xs).map (·.1)).Nodup → DPr K H (mergeK acc kvs) (f ++ xs)
  | _, _, .nil => ⟨[], [], rfl, .nil, fun acc f h _ => by rw [List.append_nil]; exact h⟩
  | _, _, @PrsAt.cons _ _ q r m x vs xs a b c => by
    obtain ⟨ps, kvs, e, hp, k⟩ := dpr_merge c
    refine ⟨q :: ps, (Sum.inl m, .ref r) :: kvs, by rw [e]; rfl, .cons a hp, fun acc f h hn => ?_⟩
    have hn2 : (f.map (·.1)).Nodup := by
      rw [List.map_append] at hn
      exact (List.nodup_append.mp hn).1
    have hm : m ∉ f.map (·.1) := fun z => by
      rw [List.map_append] at hn
      exact (List.nodup_append.mp hn).2.2 m z m (by simp) rfl
    have h2 := h.put hn2 (k := m) b
    rw [ups_new hm] at h2
    have := k _ _ h2 (by rw [List.append_assoc]; exact hn)
    rw [List.append_assoc] at this
    exact this
end
section
variable {P : Program} {w : World} {K : PySem.W.Frag} {mg : Str → Option Value} {base : Heap}
/-- two shares in, the first one of the law's own, a share out -/
def spTwo (K : PySem.W.Frag) (ok : List (Int × Fx) → List (Int × Fx) → Prop) (g : List (Int × Fx) → List (Int × Fx) → List (Int × Fx)) : Sp := fun vs H Q _ => ∃ p q xs ys, vs = [.ref p, .ref q] ∧ ShZ K H p xs ∧ ShAt K H q ys ∧ (xs.map (·.1)).Nodup ∧ AllF 80 xs ∧ AllF 80 ys ∧ xs.length ≤ 16 ∧ ys.length ≤ 16 ∧ ok xs ys ∧
  ∀ H' r zs, Same H H' → ShAt K H' r zs → IsS (g xs ys) zs → Q (.ref r) H'
end
end CS
set_option Elab.async false
set_option maxRecDepth 100000
set_option maxHeartbeats 8000000
set_option linter.unusedVariables false
namespace CS
open PySem L2
theorem low_pos {t b : Int} (ht : 0 < t) (hb : 0 < b) : 0 < (low t b).1 := (low_sign hb).1.mpr ht
/-- a set's keys, one more -/
def addK (ns : List Int) (m : Int) : List Int := if m ∈ ns then ns else ns ++ [m]
theorem keys_put {kvs : List (Key × V)} {ns : List Int} {m : Int} {v : V} (h : kvs.map (·.1) = ns.map Sum.inl) : (putK kvs (Sum.inl m : Key) v).map (·.1) = (addK ns m).map Sum.inl := by
  have e : (kvs.any fun kv => decide (kv.1 = (Sum.inl m : Key))) = decide (m ∈ ns) := by
    have e1 : (kvs.any fun kv => decide (kv.1 = (Sum.inl m : Key))) = (kvs.map (·.1)).any fun k => decide (k = (Sum.inl m : Key)) := by rw [List.any_map]; rfl
    rw [e1, h, List.any_map, Bool.eq_iff_iff]
    simp
  unfold putK addK
  rw [e]
  by_cases c : m ∈ ns
  · rw [if_pos (decide_eq_true c), if_pos c, ← h, List.map_map]
    apply List.map_congr_left
    intro kv _
    simp only [Function.comp]
    by_cases q : kv.1 = (Sum.inl m : Key)
    · rw [if_pos q, q]
    · rw [if_neg q]
  · rw [if_neg (by simp [c]), if_neg c, List.map_append, List.map_append, h]
    rfl
theorem addK_nodup {ns : List Int} {m : Int} (h : ns.Nodup) : (addK ns m).Nodup := by
  unfold addK
  split
  · exact h
  · rename_i c
    rw [List.nodup_append]
    refine ⟨h, by simp, fun a ha b hb => ?_⟩
    rw [List.mem_singleton.mp hb]
    exact fun e => c (e ▸ ha)
theorem addK_len (ns : List Int) (m : Int) : (addK ns m).length ≤ ns.length + 1 := by
  unfold addK
  split
  · omega
  · simp
theorem addK_pos (ns : List Int) (m : Int) : 0 < (addK ns m).length := by
  unfold addK
  split
  · next h => exact List.length_pos_of_mem h
  · simp
theorem addK_mem {ns : List Int} {m a : Int} (h : a ∈ addK ns m) : a ∈ ns ∨ a = m := by
  unfold addK at h
  split at h
  · exact .inl h
  · simpa using h
section
variable {H H1 : Hp} {d c l a : Addr} {k : Nat} {o : HO}
/-- a write beside the state -/
theorem StAt.upd (S : StAt H d c l k) (h1 : a ≠ d) (h2 : a ≠ c) (h3 : a ≠ l) : StAt (upd H a o) d c l k := by
  obtain ⟨hd, ne, cs, ls, e1, e2, r⟩ := S
  exact ⟨by rw [upd_ne (Ne.symm h1)]; exact hd, ne, cs, ls, by rw [upd_ne (Ne.symm h2)]; exact e1, by rw [upd_ne (Ne.symm h3)]; exact e2, r⟩
theorem StAt.neD (S : StAt H d c l k) (h : H a = none) : a ≠ d ∧ a ≠ c ∧ a ≠ l := by
  obtain ⟨hd, ne, cs, ls, e1, e2, r⟩ := S
  refine ⟨fun z => ?_, fun z => ?_, fun z => ?_⟩
  · rw [z, hd] at h
    cases h
  · rw [z, e1] at h
    cases h
  · rw [z, e2] at h
    cases h
/-- what was new ahead is no part of the state behind -/
theorem Fm.upd (f : Fm d l H H1) (h : H a = none) : Fm d l H (upd H1 a o) := fun b u e n m => by
  rw [upd_ne (ne_of_none e h)]
  exact f b u e n m
theorem Fm.none (f : Fm d l H H1) (h : H1 a = Option.none) (nd : a ≠ d) (nl : a ≠ l) : H a = Option.none := by
  cases e : H a with
  | none => rfl
  | some u =>
    rw [f a u e nd nl] at h
    cases h
end
section
variable {P : Program} {w : World} {K : PySem.W.Frag} {mg : Str → Option Value} {base : Heap}
def spHeft (K : PySem.W.Frag) : Sp := fun vs H Q _ => ∃ (d c l : Addr) (k : Nat), vs = [.ref d] ∧ StAt H d c l k ∧ k ≤ 90000 ∧ ∀ p H' x, Fr x → 0 < x.1 → Sz 10 x → StAt H' d c l (k + 2) → Fm d l H H' → FT K H' p x → Q (.ref p) H'
def spMarks : Sp := fun vs H Q _ => ∃ (d c l : Addr) (k : Nat) (m n : Int), vs = [.ref d, .int m, .int n] ∧ StAt H d c l k ∧ k ≤ 80000 ∧ 0 < m ∧ m ≤ 10 ∧ 0 ≤ n ∧ n ≤ 90 ∧
  ∀ (H' : Hp) (p : Addr) (ns : List Int) (k' : Nat), k' ≤ k + 11 → ns.Pairwise (· < ·) → (∀ a ∈ ns, -n ≤ a ∧ a ≤ n) → (ns.length : Int) ≤ m → 0 < ns.length → StAt H' d c l k' → Fm d l H H' → H p = none → H' p = some (.lst (ns.map V.int)) → Q (.ref p) H'
def spShare (K : PySem.W.Frag) : Sp := fun vs H Q _ => ∃ (d c l : Addr) (k : Nat) (m : Int), vs = [.ref d, .int m] ∧ StAt H d c l k ∧ k ≤ 70000 ∧ 0 < m ∧ m ≤ 8 ∧
  ∀ H' p xs k', k' ≤ k + 40 → Good 10 xs → xs.length ≤ 8 → 0 < xs.length → StAt H' d c l k' → Fm d l H H' → ShZ K H' p xs → Q (.ref p) H'
end
end CS
set_option Elab.async false
set_option maxRecDepth 100000
set_option maxHeartbeats 8000000
set_option linter.unusedVariables false
/-! days, their paths; terms by words, what they pay -/
namespace CS
open PySem L2
abbrev Dys := List (List Int)
def dysD (ds : Dys) : PyData := .tuple (ds.map fun r => .tuple (r.map .int))
structure DysOk (ds : Dys) : Prop where
  len : 1 ≤ ds.length ∧ ds.length ≤ 4
  rows : ∀ r ∈ ds, 1 ≤ r.length ∧ r.length ≤ 8 ∧ r.Pairwise (· < ·) ∧ ∀ a ∈ r, -100 ≤ a ∧ a ≤ 100
  few : (ds.map List.length).foldl (· * ·) 1 ≤ 32
def stepP (ps : List (List Int)) (r : List Int) : List (List Int) := ps.flatMap fun p => r.map fun n => p ++ [n]
def pathsL (ds : Dys) : List (List Int) := ds.foldl stepP [[]]
def rowD_ (p : List Int) : PyData := .tuple (p.map .int)
theorem stepP_len (ps : List (List Int)) (r : List Int) : (stepP ps r).length = ps.length * r.length := by
  unfold stepP
  induction ps with
  | nil => simp
  | cons p ps ih => rw [List.flatMap_cons, List.length_append, ih, List.length_map, List.length_cons, Nat.succ_mul, Nat.add_comm]
theorem paths_len_from (ds : Dys) : ∀ ps : List (List Int), (ds.foldl stepP ps).length = (ds.map List.length).foldl (· * ·) ps.length := by
  induction ds with
  | nil => exact fun _ => rfl
  | cons r ds ih => exact fun ps => by rw [List.foldl_cons, ih, stepP_len]; rfl
theorem paths_len (ds : Dys) : (pathsL ds).length = (ds.map List.length).foldl (· * ·) 1 := paths_len_from ds [[]]
/-! terms -/
inductive Tm
  | cash_ (n : Int) | at_ (d : Nat) | above_ (d : Nat) (n : Int) | below_ (d : Nat) (n : Int) | lowest_ (d : Nat) | highest_ (d : Nat)
  | both_ (s t : Tm) | short_ (s : Tm) | times_ (s : Tm) (n : Int) | lesser_ (s t : Tm) | greater_ (s t : Tm) | cond_ (d : Nat) (n : Int) (s t : Tm)
namespace Tm
def toD : Tm → PyData
  | cash_ n => .tuple [.str "cash", .int n]
  | at_ d => .tuple [.str "at", .int d]
  | above_ d n => .tuple [.str "above", .int d, .int n]
  | below_ d n => .tuple [.str "below", .int d, .int n]
  | lowest_ d => .tuple [.str "lowest", .int d]
  | highest_ d => .tuple [.str "highest", .int d]
  | both_ s t => .tuple [.str "both", s.toD, t.toD]
  | short_ s => .tuple [.str "short", s.toD]
  | times_ s n => .tuple [.str "times", s.toD, .int n]
  | lesser_ s t => .tuple [.str "lesser", s.toD, t.toD]
  | greater_ s t => .tuple [.str "greater", s.toD, t.toD]
  | cond_ d n s t => .tuple [.str "if", .int d, .int n, s.toD, t.toD]
def word : Tm → Str
  | cash_ _ => "cash" | at_ _ => "at" | above_ .. => "above" | below_ .. => "below" | lowest_ _ => "lowest" | highest_ _ => "highest"
  | both_ .. => "both" | short_ _ => "short" | times_ .. => "times" | lesser_ .. => "lesser" | greater_ .. => "greater" | cond_ .. => "if"
def shape : Tm → Str
  | cash_ _ => "N" | at_ _ => "D" | above_ .. => "DN" | below_ .. => "DN" | lowest_ _ => "D" | highest_ _ => "D"
  | both_ .. => "SS" | short_ _ => "S" | times_ .. => "SN" | lesser_ .. => "SS" | greater_ .. => "SS" | cond_ .. => "DNSS"
/-- what stands behind the word -/
def rest : Tm → List PyData
  | cash_ n => [.int n]
  | at_ d => [.int d]
  | above_ d n => [.int d, .int n]
  | below_ d n => [.int d, .int n]
  | lowest_ d => [.int d]
  | highest_ d => [.int d]
  | both_ s t => [s.toD, t.toD]
  | short_ s => [s.toD]
  | times_ s n => [s.toD, .int n]
  | lesser_ s t => [s.toD, t.toD]
  | greater_ s t => [s.toD, t.toD]
  | cond_ d n s t => [.int d, .int n, s.toD, t.toD]
theorem toD_eq (t : Tm) : t.toD = .tuple (.str t.word :: t.rest) := by cases t <;> rfl
/-- the terms in it, with their places -/
def kids : Tm → List (Nat × Tm)
  | both_ s t => [(1, s), (2, t)]
  | short_ s => [(1, s)]
  | times_ s _ => [(1, s)]
  | lesser_ s t => [(1, s), (2, t)]
  | greater_ s t => [(1, s), (2, t)]
  | cond_ _ _ s t => [(3, s), (4, t)]
  | _ => []
def words : Tm → Nat
  | both_ s t => s.words + t.words + 1
  | short_ s => s.words + 1
  | times_ s _ => s.words + 1
  | lesser_ s t => s.words + t.words + 1
  | greater_ s t => s.words + t.words + 1
  | cond_ _ _ s t => s.words + t.words + 1
  | _ => 1
def height : Tm → Nat
  | both_ s t => max s.height t.height + 1
  | short_ s => s.height + 1
  | times_ s _ => s.height + 1
  | lesser_ s t => max s.height t.height + 1
  | greater_ s t => max s.height t.height + 1
  | cond_ _ _ s t => max s.height t.height + 1
  | _ => 1
def okN (n : Int) : Prop := -1000 ≤ n ∧ n ≤ 1000
/-- its integers are as told -/
def Ok : Tm → Prop
  | cash_ n => okN n
  | at_ d => d ≤ 3
  | above_ d n => d ≤ 3 ∧ okN n
  | below_ d n => d ≤ 3 ∧ okN n
  | lowest_ d => d ≤ 3
  | highest_ d => d ≤ 3
  | both_ s t => s.Ok ∧ t.Ok
  | short_ s => s.Ok
  | times_ s n => s.Ok ∧ okN n
  | lesser_ s t => s.Ok ∧ t.Ok
  | greater_ s t => s.Ok ∧ t.Ok
  | cond_ d n s t => d ≤ 3 ∧ okN n ∧ s.Ok ∧ t.Ok
def g0 (w : List Int) (d : Nat) : Int := w.getD d 0
def minL : List Int → Int
  | [] => 0
  | a :: l => l.foldl min a
def maxL : List Int → Int
  | [] => 0
  | a :: l => l.foldl max a
def pays (w : List Int) : Tm → Int
  | cash_ n => n
  | at_ d => g0 w d
  | above_ d n => max 0 (g0 w d - n)
  | below_ d n => max 0 (n - g0 w d)
  | lowest_ d => minL (w.take (d + 1))
  | highest_ d => maxL (w.take (d + 1))
  | both_ s t => s.pays w + t.pays w
  | short_ s => -s.pays w
  | times_ s n => s.pays w * n
  | lesser_ s t => min (s.pays w) (t.pays w)
  | greater_ s t => max (s.pays w) (t.pays w)
  | cond_ d n s t => if g0 w d > n then s.pays w else t.pays w
/-- the day that it names -/
def day : Tm → Option Nat
  | at_ d => some d
  | above_ d _ => some d
  | below_ d _ => some d
  | lowest_ d => some d
  | highest_ d => some d
  | cond_ d .. => some d
  | _ => none
/-- its own fault: a day that is not there, a payment that is too great -/
def badDay (n : Nat) (t : Tm) : Bool := match t.day with
  | some d => decide (n ≤ d)
  | none => false
def great (ws : List (List Int)) (t : Tm) : Bool := ws.any fun w => !decide (-10000 ≤ t.pays w ∧ t.pays w ≤ 10000)
def own (n : Nat) (ws : List (List Int)) (t : Tm) (p : List Int) : Option (List Int) := if t.badDay n then some p else if t.great ws then some p else none
def fault (n : Nat) (ws : List (List Int)) : Tm → List Int → Option (List Int)
  | both_ s t, p => match s.fault n ws (p ++ [((1 : Nat) : Int)]) with
    | some f => some f
    | none => match t.fault n ws (p ++ [((2 : Nat) : Int)]) with
      | some f => some f
      | none => own n ws (both_ s t) p
  | short_ s, p => match s.fault n ws (p ++ [((1 : Nat) : Int)]) with
    | some f => some f
    | none => own n ws (short_ s) p
  | times_ s m, p => match s.fault n ws (p ++ [((1 : Nat) : Int)]) with
    | some f => some f
    | none => own n ws (times_ s m) p
  | lesser_ s t, p => match s.fault n ws (p ++ [((1 : Nat) : Int)]) with
    | some f => some f
    | none => match t.fault n ws (p ++ [((2 : Nat) : Int)]) with
      | some f => some f
      | none => own n ws (lesser_ s t) p
  | greater_ s t, p => match s.fault n ws (p ++ [((1 : Nat) : Int)]) with
    | some f => some f
    | none => match t.fault n ws (p ++ [((2 : Nat) : Int)]) with
      | some f => some f
      | none => own n ws (greater_ s t) p
  | cond_ d m s t, p => match s.fault n ws (p ++ [((3 : Nat) : Int)]) with
    | some f => some f
    | none => match t.fault n ws (p ++ [((4 : Nat) : Int)]) with
      | some f => some f
      | none => own n ws (cond_ d m s t) p
  | t, p => own n ws t p
/-- the first fault of some terms at their places -/
def faults (n : Nat) (ws : List (List Int)) (p : List Int) : List (Nat × Tm) → Option (List Int)
  | [] => none
  | (i, t) :: r => match t.fault n ws (p ++ [(i : Int)]) with
    | some f => some f
    | none => faults n ws p r
theorem fault_kids (n : Nat) (ws : List (List Int)) (t : Tm) (p : List Int) : t.fault n ws p = match faults n ws p t.kids with
    | some f => some f
    | none => own n ws t p := by
  cases t <;> simp only [fault, kids, faults]
  all_goals (repeat' split)
  all_goals (first | rfl | simp_all)
theorem kids_height {t : Tm} : ∀ k ∈ t.kids, k.2.height < t.height := by
  cases t <;> (intro k hk; simp only [kids, List.mem_cons, List.not_mem_nil, or_false] at hk)
  all_goals (first | ((rcases hk with rfl | rfl <;> simp only [height] <;> omega)) | (rcases hk with rfl; simp only [height]; omega))
theorem kids_ok {t : Tm} (h : t.Ok) : ∀ k ∈ t.kids, k.2.Ok := by
  cases t <;> (intro k hk; simp only [kids, List.mem_cons, List.not_mem_nil, or_false] at hk)
  all_goals (simp only [Ok] at h)
  all_goals (first | (rcases hk with rfl | rfl <;> simp_all) | (rcases hk with rfl; simp_all))
theorem kids_words {t : Tm} : (t.kids.map fun k => k.2.words).sum + 1 = t.words := by
  cases t <;> simp [kids, words] <;> omega
theorem kids_at {t : Tm} : ∀ k ∈ t.kids, (PyData.str t.word :: t.rest)[k.1]? = some k.2.toD := by
  cases t <;> (intro k hk; simp only [kids, List.mem_cons, List.not_mem_nil, or_false] at hk)
  all_goals (first | (rcases hk with rfl | rfl <;> rfl) | (rcases hk with rfl; rfl))
end Tm
end CS
set_option Elab.async false
set_option maxRecDepth 100000
set_option maxHeartbeats 4000000
set_option linter.unusedVariables false
/-! a list comprehension whose element may raise: the error leaves the block, its own names are let go, it flies on in the def -/
namespace CS
open PySem PySem.Spec PyProof.Rows L2
section
variable {M : Model} {A : Around} {E : Value → Shared → Prop} {env : Env} {s : Shared}
/-- behind the block: told, or an error that flies on from the block's frame fr -/
def Behind (M : Model) (A : Around) (E : Value → Shared → Prop) (Q : Value → Shared → Prop) (got : Value) (C : Addr) (fr : Option Addr) : Result → Shared → Prop
  | .ok _, t => ∃ m, t.heap.Ns C m ∧ ∀ h', Heap.SameBut C t.heap h' → Q got { t with heap := h' }
  | .error x, t => ∃ m, t.heap.Ns C m ∧ ∀ h', Heap.SameBut C t.heap h' → ∀ ce : Env, ce.frame = fr → wpAny M A (PySem.passOn "comprehension.variables-let-go" x ce : Sem Value) (fun _ _ => False) E { t with heap := h' }
theorem comp_out {ex : Expr} {sc : Scope} {pos : PySem.Pos} {mk one : Sem Value} {g : Comprehension} {gs : List Comprehension} {cl : List (Str × Addr)} {Q : Value → Shared → Prop} (h1 : clausesOf ex = g :: gs) (h2 : ∀ x, foldedSetIterable g.iter env x = pure x) (h3 : closureFor sc env = pure cl)
    (h4 : sc.kind = .function) (h5 : ∀ x ∈ sc.names, x.2 = .local → sc.names.lookup x.1 = some .local)
    (h : wpAny M A one (fun x t1 => wpAny M A (pyIter x) (fun it t2 => wpAny M A mk (fun got t3 => wpAny M A (newFunctionEnv sc env.globals cl [] env.qual none .none (some env))
      (fun ce t4 => ce.frame = env.frame ∧ codeAny M A (.compStart ex 0 it got { ce with scope := relabel sc env }) (Behind M A E Q got ce.locals env.frame) t4) E t3) E t2) E t1) E s) :
    wpAny M A (comprehension ex sc env pos mk false one none) Q E s := by
  unfold comprehension
  rw [h3, h1]
  have id_ : ∀ (v : Value) (t : Shared), E v t → E v t := fun _ _ z => z
  refine wpAny_bind (wpAny_mono h (fun x t1 q1 => ?_) id_)
  refine wpAny_bind (wpAny_standAt (wpAny_bind (wpAny_of_eq (h2 x) (wpAny_bind (wpAny_holding (wpAny_mono q1 (fun it t2 q2 => ?_) id_))))))
  refine wpAny_standIf (wpAny_bind (wpAny_mono q2 (fun got t3 q3 => ?_) id_))
  refine wpAny_bind (wpAny_pure (wpAny_bind (wpAny_mono q3 (fun ce t4 q4 => ?_) id_)))
  obtain ⟨fr, q4⟩ := q4
  dsimp only
  have own : ∀ x ∈ (sc.names.filter fun x => (x.2 == .local || x.2 == .cell) && x.1 != (".0" : Str)).reverse, x.2 = .local → Env.kindOf { ce with scope := relabel sc env } x.1 = some .local := fun x hx hl =>
    lookup_relabel_local (h5 x (List.mem_filter.mp (List.mem_reverse.mp hx)).1 hl)
  refine wpAny_holding (wpAny_bind (wpAny_attempt (wpAny_holding (wpAny_run (codeAny_mono q4 fun r t hr => ?_)))))
  cases r with
  | ok f =>
    obtain ⟨m, hn, k⟩ := hr
    exact wpAny_bind (wpAny_holding (wpAny_comp_letGo (cenv := { ce with scope := relabel sc env }) h4 _ t m own hn fun h' m' _ sb => wpAny_pure (k h' sb)))
  | error x =>
    obtain ⟨m, hn, k⟩ := hr
    exact wpAny_bind (wpAny_holding (wpAny_comp_letGo (cenv := { ce with scope := relabel sc env }) h4 _ t m own hn fun h' m' _ sb => wpAny_mono (k h' sb _ fr) (fun _ _ z => z.elim) id_))
end
section
variable {X : Cx} {pins : List (Addr × Obj)} {σ : L2.St} {H : Hp} {s s' : Shared} {E : XK}
theorem inv_xe (I : Inv X pins σ H s) (xe : Value → Shared → Prop) : Inv (X.tr X.pn xe) pins σ H s := ⟨I.ok.toTry X.pn xe, I.os, I.bare, I.base, I.loc, I.cell, I.free, I.freeC, I.pin, I.hok, I.len⟩
theorem inv_ex {xe : Value → Shared → Prop} (I : Inv (X.tr X.pn xe) pins σ H s) : Inv X pins σ H s := ⟨Cx.Ok.ofTry I.ok, I.os, I.bare, I.base, I.loc, I.cell, I.free, I.freeC, I.pin, I.hok, I.len⟩
/-- an error in the air of the block Y, come out of a call -/
def airE (Y : Cx) (E : XK) (u : Value) (t : Shared) : Prop :=
  XE Y (fun c d _ H => E c d H) u t ∧ ∃ (a : Addr) (B : Heap) (cls : Value) (d : Option Addr), u = .ref a ∧ HandSPX.FlyingZ B Y.stack a (Zc cls d) t.heap
abbrev inAir (Y : Cx) (E : XK) : Cx := Y.tr Y.pn (airE Y E)
theorem passes_air {Y : Cx} {E E1 : XK} (hW : ∀ cls d H, E1 cls d H → E cls d H) : ∀ (pins : List (Addr × Obj)) (σ : L2.St) (H : Hp) (s : Shared) (e : Value) (t : Shared), Inv (inAir Y E) pins σ H s → L2.CX Y.prog Y.w Y.stack H s E1 e t → airE Y E e t := fun pins σ H s e t I c =>
  ⟨XE.of_call (X := Y) (inv_ex I) (fun cls d H' h => hW _ _ _ h) c, by
    obtain ⟨a, B, H', cls, d, e1, fl, _⟩ := c
    exact ⟨a, B, cls, d, e1, fl⟩⟩
theorem frames_but {h h' B G : Heap} {C : Addr} (hb : ∀ b, b ≠ C → h'.get? b = h.get? b) (hg : ∀ b, b ≠ C → G.get? b = B.get? b) : ∀ {l : List Env}, C ∉ frs l → h.FunFrames B l → h'.FunFrames G l
  | [], _, _ => trivial
  | env :: rest, n, q => by
    obtain ⟨k, ⟨L, o, fr, no, here, dt⟩, r⟩ := q
    have nf : frs (env :: rest) = L :: frs rest := by simp [frs, List.filterMap_cons, fr]
    rw [nf] at n
    have nL : L ≠ C := fun z => n (z ▸ List.mem_cons_self)
    exact ⟨k, ⟨L, o, fr, by rw [hg L nL]; exact no, by rw [hb L nL]; exact here, dt⟩, frames_but hb hg (fun z => n (List.mem_cons_of_mem _ z)) r⟩
/-- an error that is in the air of the block comes behind it -/
theorem air_behind {s3 t : Shared} {H3 : Hp} {scope : Scope} {ce : Env} {fp : List Addr} {u : Value} {Q : Value → Shared → Prop} {got : Value} {E0 : Value → Shared → Prop} (tk : Takes X (fun c d _ H => E c d H)) (I3 : Inv X pins σ H3 s3) (hcL : ce.locals = s3.heap.objs.size) (hcf : ce.frame = X.env.frame)
    (hs : X.stack = X.env :: X.outer) (hfX : X.env.frame = some X.env.locals) (f3 : ∀ b ∈ fp, FpOk X pins H3 b) (air : airE (X.blk s3 H3 scope ce fp) E u t) :
    wpAny (model X.prog X.w) X.A (noteFrame u ce) (fun _ t' => Behind (model X.prog X.w) X.A X.xe Q got s3.heap.objs.size X.env.frame (.error u) t') E0 t := by
  obtain ⟨⟨a, B, sI, pI, σI, HI, cls, d, rfl, I, nb, up, sky, na, os, ag, w⟩, a2, B2, cls2, d2, e2, fl2⟩ := air
  cases e2
  have fl : HandSPX.FlyingZ B X.stack a (Zc cls d) t.heap := by
    obtain ⟨_, _, _, oe2, vs2, T2, oT2, ts2, he2, _, hd2, h12, _, _, hT2, hdT2, h32⟩ := fl2
    rcases sky with ⟨_, _, _, oe, vs, he, _, hd, h1⟩ | fl | ⟨_, _, _, oe, vs, T, oT, ts, he, _, hd, h1, _, _, hT, hdT, h3⟩
    · rw [he] at he2
      cases he2
      rw [hd] at hd2
      cases hd2
      rw [h1] at h12
      cases h12
    · exact fl
    · rw [he] at he2
      cases he2
      rw [hd] at hd2
      cases hd2
      rw [h1] at h12
      cases h12
      rw [hT] at hT2
      cases hT2
      rw [hdT] at hdT2
      cases hdT2
      rw [h3] at h32
      cases h32
  have en : noteFrame (.ref a) ce = noteFrame (.ref a) X.env := by
    unfold noteFrame PySem.frameOf
    rw [hcf]
  rw [en]
  have hfr : X.A.frames = some (X.env :: X.outer) := by rw [I3.ok.frames, hs]
  rw [hs] at fl
  refine HandSPX.looks_onZ Zc.steady hfr hfX fl fun h1 hh up1 => ?_
  obtain ⟨m, hn, _⟩ := I.loc
  have hn : sI.heap.Ns s3.heap.objs.size m := hcL ▸ hn
  have hn1 := up1.ns (up.ns hn)
  refine ⟨m, hn1, fun h' sb ce2 fr2 => ?_⟩
  have nC : HI s3.heap.objs.size = none := by
    have z : HI ce.locals = none := I.free
    rw [hcL] at z
    exact z
  obtain ⟨f0, f1, f2, f4, f5, f6⟩ := I3.fpOk (b := s3.heap.objs.size) (Nat.le_refl _) nC
  generalize hC : s3.heap.objs.size = C at *
  have nst : C ∉ frs (X.env :: X.outer) := fun z => by
    rw [show frs (X.env :: X.outer) = X.env.locals :: X.fs from by simp [frs, List.filterMap_cons, hfX]] at z
    rcases List.mem_cons.mp z with z | z
    · exact f1 z
    · exact f2 z
  obtain ⟨b1, b2, b3, oe, vs, T, oT, ts, he, hz, hd, h1', hnT, hTe, hT, hdT, h3⟩ := hh
  have rec_ : ∀ b o vs, h1.get? b = some o → o.data = .fields vs → b ≠ C := fun b o vs e ed z => by
    obtain ⟨o2, es, ep, ho, q, _⟩ := hn1
    rw [z, ho] at e
    cases e
    rw [q] at ed
    cases ed
  have naC := rec_ _ _ _ he hd
  have nTC := rec_ _ _ _ hT hdT
  obtain ⟨G, g1, g2⟩ := L2.restrict B (fun b => decide (b ≠ C))
  have gg : ∀ b, b ≠ C → G.get? b = B.get? b := fun b n => g1 b (decide_eq_true n)
  have gs : ∀ b o, G.get? b = some o → b ≠ C ∧ B.get? b = some o := fun b o e => by
    by_cases n : b = C
    · rw [g2 b (decide_eq_false (fun z => z n))] at e
      cases e
    · exact ⟨n, by rw [← gg b n]; exact e⟩
  have hh2 : HandSPX.HeldZ G (X.env :: X.outer) a (Zc cls d) X.env.locals h' :=
    ⟨fun b o e => by rw [sb.2 b (gs b o e).1]; exact b1 b o (gs b o e).2, by rw [gg a naC]; exact b2, frames_but sb.2 gg nst b3, oe, vs, T, oT, ts, by rw [sb.2 a naC]; exact he, hz, hd, h1', by rw [gg T nTC]; exact hnT, hTe, by rw [sb.2 T nTC]; exact hT, hdT, h3⟩
  unfold PySem.passOn
  refine wpAny_bind (wpAny_field (s := { t with heap := h' }) (by rw [sb.2 a naC]; exact he) hd h1' ?_)
  rw [if_neg (by simp)]
  rw [fr2, hfX]
  refine wpAny_bind (HandSPX.setFlight_onZ hh2 fun h2 hh3 up3 => ?_)
  refine wpAny_throw (tk _ _ ?_)
  obtain ⟨S, p1, p2⟩ := L2.restrict sI.heap (fun b => decide (b ≠ C))
  have ss : ∀ b o, S.get? b = some o → b ≠ C ∧ sI.heap.get? b = some o := fun b o e => by
    by_cases n : b = C
    · rw [p2 b (decide_eq_false (fun z => z n))] at e
      cases e
    · exact ⟨n, by rw [← p1 b (decide_eq_true n)]; exact e⟩
  have I7 : Inv X pins σ HI sI := I3.call' (ch := fp) I.os I.base I.hok I.bare fun b hb => ⟨(f3 b hb).2.2.2.1, (f3 b hb).2.1, (f3 b hb).2.2.2.2.1, (f3 b hb).2.2.2.2.2⟩
  refine ⟨a, G, { sI with heap := S, toks := sI.toks }, pins, σ, HI, cls, d, rfl, I7.turned (it := C) (t' := sI.toks) (fun b o nb2 e => by rw [p1 b (decide_eq_true nb2)]; exact e) f0 f1 f4 f5 f6, fun b o e nf => ?_, fun b o e nd => ?_, .inr (.inr (hs ▸ hh3)), na, os, ag, w⟩
  · obtain ⟨n, e⟩ := ss b o e
    rw [gg b n]
    exact nb b o e nf
  · obtain ⟨n, e⟩ := ss b o e
    obtain ⟨sl, e1⟩ := up b o e nd
    obtain ⟨sl2, e2⟩ := up1 b _ e1 nd
    obtain ⟨sl3, e3⟩ := up3 b _ ((sb.2 b n).trans e2) nd
    exact ⟨sl3, e3⟩
end
section
variable {Y : Cx} {E : XK} {fp : List Addr} {tn : Nat → Heap → Prop} {J : It} {it D : Addr} {elt tg iter : Expr} {ifs : List Expr} {scope : Scope} {pos : PySem.Pos} {g : TG} {tt : TT} {te : TE} {τ : L2.St} {vs : List Nat} {W : Nat → Nat → Hp → Prop} {Zq : Hp → Prop} {R : Result → Shared → Prop}
/-- what is owed at turn i, with m left: the walk stands at its end, or gives x, and the block puts what it makes of x behind the list at D -/
def DueL (J : It) (g : TG) (tt : TT) (te : TE) (τ : L2.St) (vs : List Nat) (D : Addr) (W : Nat → Nat → Hp → Prop) (Z : Hp → Prop) : Prop :=
  ∀ i m H, W i m H → (J.stop i H ∧ Z H) ∨ (J.go i H ∧ ∃ N : Hp → Prop, (∀ G, N G → ∃ j, j < m ∧ W (i + 1) j G) ∧ ∀ x H', J.yld i H x H' → g x τ H' fun ρ H2 => wipe ρ vs = τ ∧ tt ρ H2 fun b H3 =>
    if b = true then te ρ H3 fun y H4 => ∃ zs, H4 D = some (.lst zs) ∧ zs.length < sizeLine ∧ N (upd H4 D (.lst (zs ++ [y]))) else N H3)
theorem due_list (calm : Y.calm = true) (T : Turn Y.prog Y.w Y.K tg J fp it tn) (pg : PG (inAir Y E) tg g) (pt : PTs (inAir Y E) ifs tt) (pe : PE (inAir Y E) elt te)
    (fok : ∀ {σ' H' s'}, Inv Y [] σ' H' s' → (∀ b ∈ fp, H' b = none) → ∀ b ∈ fp, FpOk Y [] H' b) (air : ∀ {u t}, airE Y E u t → notedBy (model Y.prog Y.w) Y.A Y.env (fun e t' => R (.error e) t') u t)
    (due : DueL J g tt te τ vs D W Zq) (fin : ∀ {s H}, Inv Y [] τ H s → Zq H → R (.ok .next) s) {m : Nat} {s : Shared} {H : Hp} (I : Inv Y [] τ H s) (t0 : tn 0 s.heap) (n0 : ∀ b ∈ fp, H b = none) (w0 : W 0 m H) :
    codeAny (model Y.prog Y.w) Y.A (.compLoop (.ListComp elt [⟨tg, iter, ifs, 0⟩] scope pos) 0 (.ref it) (.ref D) Y.env) R s := by
  have aired : ∀ {α : Type} {m : Sem α} {Q Q' : α → Shared → Prop} {t : Shared}, wpAny (model Y.prog Y.w) Y.A m Q (airE Y E) t → (∀ a s, Q a s → Q' a s) → wpAny (model Y.prog Y.w) Y.A m Q' (notedBy (model Y.prog Y.w) Y.A Y.env fun e t' => R (.error e) t') t := fun h k => wpAny_mono h k fun _ _ z => air z
  refine compLoop_any (fun left t => ∃ i G, Inv Y [] τ G t ∧ tn i t.heap ∧ (∀ b ∈ fp, G b = none) ∧ W i left G) (fun left t ⟨i, G, IG, tG, nG, wG⟩ => ?_) m ⟨0, H, I, t0, n0, w0⟩
  rcases due i left G wG with ⟨stop, z⟩ | ⟨go, N, less, each⟩
  · refine thnF (T.done Y rfl rfl rfl calm i [] t τ G (fun _ _ => False) IG (fok IG nG) tG stop) fun r t1 ⟨er, I1⟩ => ?_
    rw [er]
    exact fin I1 z
  refine thnF (T.item Y rfl rfl rfl calm i [] t τ G (fun _ _ => False) IG (fok IG nG) tG go) fun r t1 ⟨u, er, h1⟩ => ?_
  rw [er]
  refine thnF h1 fun _ t2 ⟨x, G2, I2, rx, y2, tn2, n2⟩ => ?_
  have I2p : Inv Y ([] ++ pinsAt fp t2.heap) τ G2 t2 := I2.pinned (fok I2 n2) (T.obj _ _ tn2)
  have next : ∀ {t' : Shared} {ρ : L2.St} {G' : Hp} {j : Nat}, Inv Y ([] ++ pinsAt fp t2.heap) ρ G' t' → wipe ρ vs = τ → W (i + 1) j G' → ∃ i G, Inv Y [] τ G t' ∧ tn i t'.heap ∧ (∀ b ∈ fp, G b = none) ∧ W i j G := fun {t' ρ G' j} I' ew w' => by
    have still : ∀ b ∈ fp, ∀ o, t2.heap.get? b = some o → t'.heap.get? b = some o ∧ G' b = none := fun b hb o e => by
      have p := I'.pin (b, o) (List.mem_append_right _ (List.mem_append_right _ (mem_pinsAt hb e)))
      exact ⟨p.1, p.2.1⟩
    refine ⟨i + 1, G', Inv.weak (I'.unpinned (pins := [])) (by rw [← ew, wipe_length]) (fun a v e => ?_), ?_, fun b hb => ?_, w'⟩
    · exact (wipe_some (ew ▸ e)).1
    · exact T.keep _ _ _ tn2 fun b hb o e => (still b hb o e).1
    · obtain ⟨o, e, _⟩ := T.obj _ _ tn2 b hb
      exact (still b hb o e).2
  refine aired (pg.run _ t2 _ G2 x u _ (inv_xe I2p _) rx (each x G2 y2)) fun _ t3 ⟨ρ, G3, I3, ew, q3⟩ => ?_
  refine aired (pt.run _ t3 ρ G3 _ I3 q3) fun b t4 ⟨G4, I4, q4⟩ => ?_
  dsimp only at q4
  by_cases hb : b = true
  · rw [if_pos hb] at q4 ⊢
    refine aired (pe.run _ t4 ρ G4 _ I4 q4) fun v t5 ⟨y, G5, I5, ry, zs, hD, room, w5⟩ => ?_
    obtain ⟨j, hj, w'⟩ := less _ w5
    exact app_ok (inv_ex I5) hD room ry fun t6 I6 => ⟨j, hj, next I6 ew w'⟩
  · rw [if_neg hb] at q4 ⊢
    obtain ⟨j, hj, w'⟩ := less _ q4
    exact ⟨j, hj, next (inv_ex I4) ew w'⟩
end
section
variable {X : Cx} {E : XK} {elt tg iter : Expr} {ifs : List Expr} {scope : Scope} {own : List (PySem.Str × Nat)} {pos : PySem.Pos} {wi : TI} {g : TG} {tt : TT} {te : TE}
/-- [elt for target in iter if ..], where the element may raise what E lets go -/
theorem pe_lcE (tk : Takes X (fun c d _ H => E c d H)) (hs : X.stack = X.env :: X.outer) (hf : X.env.frame = some X.env.locals) (calm : X.calm = true) (nd : X.N.Nodup) (hi : PI X tg iter wi) (ok : BlkOk X.N X.env.scope scope own)
    (hg : ∀ (s : Shared) (H : Hp) (C : Addr) (cl : List (PySem.Str × Addr)) (fp : List Addr), PG (inAir (X.blk s H scope (compEnvC scope cl C X.env) fp) E) tg g) (ht : ∀ (s : Shared) (H : Hp) (C : Addr) (cl : List (PySem.Str × Addr)) (fp : List Addr), PTs (inAir (X.blk s H scope (compEnvC scope cl C X.env) fp) E) ifs tt)
    (he : ∀ (s : Shared) (H : Hp) (C : Addr) (cl : List (PySem.Str × Addr)) (fp : List Addr), PE (inAir (X.blk s H scope (compEnvC scope cl C X.env) fp) E) elt te) (fold : ∀ x, foldedSetIterable iter X.env x = pure x := by intro _; rfl) :
    PE X (.ListComp elt [⟨tg, iter, ifs, 0⟩] scope pos) (tLc wi g tt te (own.map (·.2))) := by
  refine ⟨fun pins s σ H Q I h => ?_⟩
  rw [eval_ListComp]
  have clo : closureFor scope X.env = pure (cloFrom X.env.cells scope.names []) := closure_ok fun y hy e => (ok.free y hy e).elim (fun k => I.ok.has _ (.inl k)) fun k => I.ok.has _ (.inr k)
  refine comp_out rfl fold clo ok.kind (fun y hy e => e ▸ ok.uniq y hy) (thn (hi.run pins s σ H _ I h) fun _ _ h1 => thn h1 fun _ s2 ⟨it, fp, tn, J, H2, ev, I2, T, t0, f2, q⟩ => ?_)
  subst ev
  refine wpAny_newObj_type (newEnv_comp ⟨rfl, ?_⟩) (by show 0 ≤ sizeLine; decide)
  obtain ⟨W, ⟨m, w0⟩, due⟩ := q s2.heap.objs.size (I2.hok.fresh (Nat.le_refl _))
  have lay : ∃ D H3 s3, D = s2.heap.objs.size ∧ H3 = upd H2 D (.lst []) ∧ s3 = ({ s2 with heap := s2.heap.push { cls := .type "list", dict := none, data := .seq ([] : List Value).toArray } } : Shared) := ⟨_, _, _, rfl, rfl, rfl⟩
  obtain ⟨D, H3, s3, eD, eH, es⟩ := lay
  rw [← eD, ← eH] at w0
  rw [← eD] at due
  rw [← eD, ← es]
  have kept : ∀ b o, s2.heap.get? b = some o → s3.heap.get? b = some o := fun b o e => by rw [es]; exact Heap.get?_push_of_some _ e
  have I3 : Inv X pins σ H3 s3 := by
    rw [eH, es, eD]
    exact I2.laid (t' := s2.toks) (fun b o e => Heap.get?_push_of_some _ e) (Nat.le_refl _) ⟨Nat.zero_le _, [], 0, .nil, Heap.get?_push_size _ rfl⟩
  have small : ∀ b ∈ fp, b < s2.heap.objs.size := fun b hb => (T.obj _ _ t0 b hb).elim fun o z => Heap.lt_size z.1
  have f3 : ∀ b ∈ fp, FpOk X pins H3 b ∧ b < s3.heap.objs.size := fun b hb => by
    refine ⟨⟨?_, (f2 b hb).2⟩, ?_⟩
    · rw [eH, upd_ne (by rw [eD]; exact Nat.ne_of_lt (small b hb))]
      exact (f2 b hb).1
    · rw [es]
      show b < (s2.heap.push _).objs.size
      rw [Heap.size_push]
      exact Nat.lt_succ_of_lt (small b hb)
  have I4 := block_start I3 ok nd f3
  have tn4 : tn 0 (pushCells (s3.heap.push { cls := .type "dict", data := .dict #[] }) scope.names) := T.keep _ _ _ t0 fun b _ o e => pushCells_keeps _ _ _ _ (Heap.get?_push_of_some _ (kept b o e))
  refine codeAny_compStart_list ?_ (T.self X.A 0 _ _ _ tn4 ?_)
  all_goals
    refine due_list (Y := X.blk s3 H3 scope (compEnvC scope (cellsFrom (s3.heap.objs.size + 1) scope.names (cloFrom X.env.cells scope.names [])) s3.heap.objs.size X.env) fp) (E := E) calm T (hg ..) (ht ..) (he ..) (fun {σ' H' s'} I' n b hb => ?_) (fun {u t} z => ?_) due (fun {s' H'} I' z => ?_) I4 tn4 (fun b hb => (f3 b hb).1.1) w0
    · exact ⟨n b hb, (I'.ok.exf b hb).1, I'.ok.exfs b hb, .inl hb, fun x c e => (I'.ok.exf b hb).2 x c e, fun p hp => nomatch (show p ∈ ([] : List (Addr × Obj)) from hp)⟩
    · exact air_behind tk I3 rfl rfl hs hf (fun b hb => (f3 b hb).1) z
    · have nC : H' s3.heap.objs.size = none := I'.free
      have back : Inv X pins σ H' s' := I3.call' (ch := fp) I'.os I'.base I'.hok I'.bare fun b hb => ⟨(f3 b hb).1.2.2.2.1, (f3 b hb).1.2.1, (f3 b hb).1.2.2.2.2.1, (f3 b hb).1.2.2.2.2.2⟩
      obtain ⟨j, hj, _⟩ := I'.loc
      refine ⟨j, hj, fun h2 sb => ?_⟩
      obtain ⟨c0, c1, c2, c3, c4, c5⟩ := I3.fpOk (Nat.le_refl _) nC
      exact ⟨.ref D, H', back.turned (t' := s'.toks) (fun b o hb e => (sb.2 b hb).trans e) c0 c1 c3 c4 c5, rfl, z⟩
end
end CS
set_option Elab.async false
set_option maxRecDepth 100000
set_option maxHeartbeats 8000000
set_option linter.unusedVariables false
set_option pp.maxSteps 400
/-! enumerate(x, start=k), x a text -/
namespace CS
open PySem PySem.Spec PyProof.Rows L2
section
variable {M : Model} {A : Around} {E : Value → Shared → Prop} {s : Shared} {env : Env}
theorem kw_of_type {pos : PySem.Pos} {T : String} {e : Expr} {kws : List Keyword} {Q : Value → Shared → Prop} (st : starEach [e] env = [(false, eval e env)]) (named : (backToKw pos (keywordEach kws env)).all (·.1.isSome) = true) (noneless : (backToKw pos (keywordEach kws env)).any (·.1.isNone) = false)
    (h : wpAny M A (spliced (backTo pos (starEach [e] env))) (fun vs t1 => wpAny M A (evalAll ((backToKw pos (keywordEach kws env)).map (·.2))) (fun ks t2 => wpAny M A (call (.type T) vs (((backToKw pos (keywordEach kws env)).filterMap (·.1)).zip ks)) Q E t2) E t1) E s) :
    wpAny M A (callWith pos (.type T) [] (backTo pos (starEach [e] env)) (backToKw pos (keywordEach kws env))) Q E s := by
  rw [st] at h ⊢
  have ev : wpAny M A (evalArgs (.type T) true (backTo pos [(false, eval e env)]) (backToKw pos (keywordEach kws env))) (fun a t => wpAny M A (call (.type T) ([] ++ a.pos) a.kw) Q E t) E s := evalArgs_kwB (rest := []) named h
  unfold callWith
  refine wpAny_bind (wpAny_holding (wpAny_mono ev (fun a t k => wpAny_bind (wpAny_standAt ?_)) fun _ _ z => z))
  simp only [show (backTo pos [(false, eval e env)]).any (·.1) = false from rfl, noneless, Bool.or_false]
  refine wpAny_bind (wpAny_pure ?_)
  exact wpAny_bind (wpAny_mono k (fun r t2 q => wpAny_bind (wpAny_holding (wpAny_point (wpAny_pure q)))) fun _ _ z => z)
end
/-- the walk: (k + i, the sign i) -/
def IteS (x : Str) (k : Int) : It where
  go i _ := i < x.cps.size
  yld i H v H' := ∃ T c, v = .ref T ∧ H T = none ∧ H' = upd H T (.tup [.int (k + (i : Nat)), .str ⟨#[c]⟩]) ∧ x.cps[i]? = some c
  stop i _ := i = x.cps.size
def EsAt (x : Str) (t : Tok) (k : Int) (e it : Addr) (i : Nat) (h : Heap) : Prop := (∃ old, IsEnum h e it (k + ((i : Nat) : Int)) old) ∧ h.IsStrIter it (strIterType x) x t i ∧ e ≠ it
theorem EsAt.lt {x : Str} {t : Tok} {k : Int} {e it : Addr} {i : Nat} {h : Heap} (st : EsAt x t k e it i h) : e < h.objs.size ∧ it < h.objs.size := by
  obtain ⟨⟨_, he⟩, ⟨_, hi, _⟩, _⟩ := st
  exact ⟨Heap.lt_size he, Heap.lt_size hi⟩
theorem enumS_turn {P : Program} {w : World} {K : PySem.W.Frag} {elts : List Expr} {kk : Nat} {tpos : PySem.Pos} (x : Str) (t : Tok) (k : Int) (e it : Addr) : Turn P w K (.Tuple elts kk tpos) (IteS x k) [e, it] e (EsAt x t k e it) where
  mem := List.mem_cons_self
  obj i h st b hb := by
    obtain ⟨⟨_, he⟩, ⟨o, hi, _, hd⟩, _⟩ := st
    rcases List.mem_cons.mp hb with rfl | hb
    · exact ⟨_, he, fun v q => nomatch q⟩
    · rw [List.mem_singleton.mp hb]
      exact ⟨o, hi, fun v q => by rw [hd] at q; cases q⟩
  keep i h h' st k1 := by
    obtain ⟨⟨old, he⟩, hi, ne⟩ := st
    exact ⟨⟨old, k1 e (by simp) _ he⟩, (let ⟨o, ho, r⟩ := hi; ⟨o, k1 it (by simp) o ho, r⟩), ne⟩
  item := by
    intro X e1 e2 e3 calm i pins s σ H E I fok st less
    subst e1 e2 e3
    have lt := st.lt
    obtain ⟨⟨old, he⟩, hi, ne⟩ := st
    refine wpAny_pyNext_enum_itemC (Draws.text (A := X.A.in1) (I.ok.hd calm) it x t) he hi less ne (by simp [ne]) fun v h1 tk hv he1 hi1 hT1 sz k1 => ?_
    obtain ⟨c, u, hc, rfl⟩ := hv
    refine ⟨_, rfl, wpAny_letOwnedTupleGo_enum (s := { s with heap := h1, toks := tk + 1 }) he1 fun h2 he2 sb => ?_⟩
    have apart : s.heap.objs.size ≠ e := Nat.ne_of_gt lt.1
    have there : h2.get? s.heap.objs.size = some { cls := .type "tuple", data := .seq #[.int (k + (i : Nat)) tk, .str ⟨#[c]⟩ u] } := (sb.2 _ apart).trans hT1
    have kept : ∀ b ob, b ∉ [e, it] → s.heap.get? b = some ob → h2.get? b = some ob := fun b ob nb q => (sb.2 b fun z => nb (by simp [z])).trans (k1 b ob (fun z => nb (by simp [z])) (fun z => nb (by simp [z])) q)
    have I2 := I.turnedNew (t' := tk + 1) (ch := [e, it]) (T := s.heap.objs.size) (ob := .tup [.int (k + (i : Nat)), .str ⟨#[c]⟩]) kept fok (Nat.le_refl _) ⟨by show 2 ≤ sizeLine; decide, [.int (k + (i : Nat)) tk, .str ⟨#[c]⟩ u], .cons ⟨_, rfl⟩ (.cons ⟨_, rfl⟩ .nil), ⟨_, there, rfl, _, rfl⟩⟩
    refine ⟨.ref s.heap.objs.size, _, I2, rfl, ⟨_, c, rfl, I.hok.fresh (Nat.le_refl _), rfl, hc⟩, ⟨⟨.str ⟨#[c]⟩ u, ?_⟩, (let ⟨o, ho, r⟩ := hi1; ⟨o, (sb.2 it (Ne.symm ne)).trans ho, r⟩), ne⟩, fun b hb => ?_⟩
    · rw [show k + ((i + 1 : Nat) : Int) = k + (i : Int) + 1 by omega]
      exact he2
    · have lb : b < s.heap.objs.size := by
        rcases List.mem_cons.mp hb with rfl | hb
        · exact lt.1
        · rw [List.mem_singleton.mp hb]; exact lt.2
      rw [upd_ne (Nat.ne_of_lt lb)]
      exact (fok b hb).1
  done := by
    intro X e1 e2 e3 calm i pins s σ H E I fok st past
    subst e1 e2 e3
    obtain ⟨⟨old, he⟩, hi, ne⟩ := st
    have D := Draws.text (prog := X.prog) (w := X.w) (A := X.A.in1) (I.ok.hd calm) it x t
    obtain ⟨f0, f1, f2, f3, f4, f5⟩ := fok it (by simp)
    have c : i = x.cps.size := past
    rw [c] at hi
    exact wpAny_pyNext_enum_endD D he hi fun h1 eb => ⟨rfl, I.turned (t' := s.toks) (fun b o nb q => eb b o nb q) f0 f1 f3 f4 f5⟩
  self A i s Q E st h := by
    obtain ⟨⟨_, he⟩, _⟩ := st
    exact wpAny_pyIter_enum he h
def iEnS (ta : TA) (tk : TE) : TI := fun σ H R => ta σ H fun vs H1 => ∃ x, vs = [.str x] ∧ tk σ H1 fun u H2 => ∃ k : Int, u = .int k ∧ -(2 ^ 63) ≤ k ∧ k < 2 ^ 63 ∧ R (IteS x k) H2
theorem pi_enumS {X : Cx} {e ek : Expr} {ta : TA} {tk : TE} {p pos tpos kp : PySem.Pos} {elts : List Expr} {kk : Nat} (gl : Gl X "enumerate") (mn : X.mg "enumerate" = none) (ha : PA X [e] ta) (hk : PE X ek tk)
    (hs : starEach [e] X.env = [(false, eval e X.env)] := by rfl) : PI X (.Tuple elts kk tpos) (.Call (.Name "enumerate" p) [e] [⟨some "start", ek, kp⟩] pos) (iEnS ta tk) := by
  refine ⟨fun pins s σ H R I h => ?_⟩
  rw [show eval (.Call (.Name "enumerate" p) [e] [⟨some "start", ek, kp⟩] pos) X.env = (do callWith pos (← eval (.Name "enumerate" p) X.env) [] (backTo pos (starEach [e] X.env)) (backToKw pos (keywordEach [⟨some "start", ek, kp⟩] X.env))) from rfl]
  refine wpAny_bind (ld_blt I gl mn boot_enumerate (kw_of_type hs rfl rfl (thn (ha.run pos pins s σ H _ I h) fun us s1 ⟨vs, G, I1, rv, x, ev, q⟩ => ?_)))
  subst ev
  obtain ⟨u, rfl, ru⟩ := vals1 rv
  obtain ⟨t, rfl⟩ := ru
  refine kws_cons (thn (hk.run pins s1 σ G _ I1 q) fun v s2 ⟨y, G2, I2, ry, k, ey, k0, k1, r⟩ => ?_)
  subst ey
  obtain ⟨tk2, rfl⟩ := ry
  refine kws_nil ?_
  show wpAny _ _ (call (.type "enumerate") [.str x t] [(Str.ofString "start", .int k tk2)]) _ _ _
  refine enum_begins_start (begins_text x t) trivial k0 k1 fun h' he hi sz kp => wpAny_pyIter_enum he ⟨_, [s2.heap.objs.size + 1, s2.heap.objs.size], _, _, G2, rfl, I2.kept (t' := s2.toks) kp, enumS_turn x t k _ _, ⟨⟨_, by rw [show k + ((0 : Nat) : Int) = k by omega]; exact he⟩, ⟨_, hi, rfl, rfl⟩, Nat.succ_ne_self _⟩, fun b hb => ?_, r⟩
  have young : s2.heap.objs.size ≤ b := by
    rcases List.mem_cons.mp hb with z | z
    · rw [z]
      exact Nat.le_add_right _ _
    · rw [List.mem_singleton.mp z]
      exact Nat.le_refl _
  exact I2.fpOk young (I2.hok.fresh young)
theorem walk_enS {x : Str} {k : Int} : Walk (IteS x k) x.cps.size (fun _ => True) (YPair (fun i => some (.int (k + (i : Nat)))) (fun i => (x.cps[i]?).map fun c => .str ⟨#[c]⟩)) :=
  ⟨fun i H lt _ => lt, fun H _ => rfl, fun i H v H' _ _ ⟨T, c, e1, e2, e3, e4⟩ => ⟨T, _, _, e1, e2, e3, rfl, by show (x.cps[i]?).map _ = _; rw [e4]; rfl⟩⟩
end CS
set_option Elab.async false
set_option maxRecDepth 100000
set_option maxHeartbeats 8000000
set_option linter.unusedVariables false
set_option pp.maxSteps 400
/-! zip(x, t), x a text, t a tuple -/
namespace CS
open PySem PySem.Spec PyProof.Rows L2
/-- the walk: (the sign i of x, the item i of the tuple at a) -/
def IzS (K : PySem.W.Frag) (x : Str) (a : Addr) : It where
  go i H := ∃ (xs : List V) (y : V), SqT K H a xs ∧ i < x.cps.size ∧ xs[i]? = some y
  yld i H v H' := ∃ T c y, v = .ref T ∧ H T = none ∧ H' = upd H T (.tup [.str ⟨#[c]⟩, y]) ∧ x.cps[i]? = some c ∧ ∀ xs, SqT K H a xs → xs[i]? = some y
  stop i H := ∃ xs : List V, SqT K H a xs ∧ i ≤ x.cps.size ∧ i ≤ xs.length ∧ (i = x.cps.size ∨ i = xs.length)
/-- how the heap stands ahead of turn i -/
structure ZsAt (x : Str) (t : Tok) (a z p q e f : Addr) (i : Nat) (h : Heap) : Prop where
  sep : ZipSep2 z p q e f [e] [f, a]
  zip_ : IsZip h z p q .none
  ins : IsTupOf2 h p (.ref e) (.ref f)
  out : ∃ u v, IsTupOf2 h q u v
  txt : h.IsStrIter e (strIterType x) x t i
  row : h.IsTupleIter f a i
theorem ZsAt.small {x : Str} {t : Tok} {a z p q e f : Addr} {i : Nat} {h : Heap} (st : ZsAt x t a z p q e f i h) : ∀ b ∈ [z, p, q, e, f], b < h.objs.size ∧ ∃ o, h.get? b = some o ∧ ∀ v, o.data ≠ .cell v := by
  obtain ⟨u, v, ho⟩ := st.out
  obtain ⟨o1, g1, _, d1⟩ := st.txt
  obtain ⟨o2, g2, _, d2⟩ := st.row
  have all : ∀ (b : Addr) (o : Obj), h.get? b = some o → (∀ v, o.data ≠ .cell v) → b < h.objs.size ∧ ∃ o, h.get? b = some o ∧ ∀ v, o.data ≠ .cell v := fun b o g d => ⟨Heap.lt_size g, o, g, d⟩
  intro b hb
  simp only [List.mem_cons, List.not_mem_nil, or_false] at hb
  rcases hb with rfl | rfl | rfl | rfl | rfl
  · exact all _ _ st.zip_ fun v w => nomatch w
  · exact all _ _ st.ins fun v w => nomatch w
  · exact all _ _ ho fun v w => nomatch w
  · exact all _ _ g1 fun v w => by rw [d1] at w; cases w
  · exact all _ _ g2 fun v w => by rw [d2] at w; cases w
theorem zipS_turn {P : Program} {w : World} {K : PySem.W.Frag} {elts : List Expr} {kk : Nat} {tpos : PySem.Pos} (x : Str) (t : Tok) (a z p q e f : Addr) : Turn P w K (.Tuple elts kk tpos) (IzS K x a) [z, p, q, e, f] z (ZsAt x t a z p q e f) where
  mem := List.mem_cons_self
  obj i h st b hb := (st.small b hb).2
  keep i h h' st k := by
    obtain ⟨u, v, ho⟩ := st.out
    obtain ⟨o1, g1, r1⟩ := st.txt
    obtain ⟨o2, g2, r2⟩ := st.row
    exact ⟨st.sep, k z (by simp) _ st.zip_, k p (by simp) _ st.ins, ⟨u, v, k q (by simp) _ ho⟩, ⟨o1, k e (by simp) _ g1, r1⟩, ⟨o2, k f (by simp) _ g2, r2⟩⟩
  item := by
    intro X e1 e2 e3 calm i pins s σ H E I fok st ⟨xs, y, hx, less, at_i⟩
    subst e1 e2 e3
    obtain ⟨its, rv, isT, _⟩ := I.tuple hx
    obtain ⟨u, hu, ru⟩ := rv.get at_i
    have sm := st.small
    obtain ⟨sep, hz, hp, ⟨v1, v2, hq⟩, ht, hr⟩ := st
    have nfa : a ≠ f := fun w => by
      obtain ⟨o, g, c, _⟩ := id hr
      obtain ⟨o2, g2, c2, _⟩ := id isT
      rw [← w, g2] at g
      cases g
      rw [c2] at c
      exact absurd (Value.type.inj c) (by decide)
    have ltn : i < its.toArray.size := by
      rw [List.size_toArray]
      exact (List.getElem?_eq_some_iff.mp hu).1
    refine wpAny_pyNext_zipD2_item sep (Draws.text (A := X.A.in1) (I.ok.hd calm) e x t) (Draws.tuple (A := X.A.in1) (I.ok.hd calm) f a nfa its.toArray) hz hp hq ht ⟨hr, isT⟩ less ltn fun w1 w2 h1 tk c1 c2 hz1 hq1 ht1 hr1 hn sz k1 => ?_
    obtain ⟨c, tc, hc, rfl⟩ := c1
    have ev : w2 = u := by
      rw [List.getElem?_toArray, hu] at c2
      exact (Option.some.inj c2).symm
    subst ev
    refine ⟨_, rfl, wpAny_letOwnedTupleGo_zip (s := { s with heap := h1, toks := tk }) hz1 fun h2 hz2 sb => ?_⟩
    have apart : s.heap.objs.size ≠ z := Nat.ne_of_gt (sm z (by simp)).1
    have there : h2.get? s.heap.objs.size = some { cls := .type "tuple", data := .seq #[.str ⟨#[c]⟩ tc, w2] } := (sb.2 _ apart).trans hn
    have kept : ∀ b ob, b ∉ [z, p, q, e, f] → s.heap.get? b = some ob → h2.get? b = some ob := fun b ob nb g =>
      (sb.2 b fun w => nb (by simp [w])).trans (k1 b ob (fun w => nb (by simp [w])) (fun w => nb (by simp [w])) (fun w => nb (by simp [w])) (fun w => nb (by simp [w])) g)
    have I2 := I.turnedNew (t' := tk) (ch := [z, p, q, e, f]) (T := s.heap.objs.size) (ob := .tup [.str ⟨#[c]⟩, y]) kept fok (Nat.le_refl _) ⟨by show 2 ≤ sizeLine; decide, [.str ⟨#[c]⟩ tc, w2], .cons ⟨_, rfl⟩ (.cons ru .nil), ⟨_, there, rfl, _, rfl⟩⟩
    have ez : e ≠ z := fun w => sep.zf1 (by rw [w]; exact List.mem_cons_self)
    have fz : f ≠ z := fun w => sep.zf2 (by rw [w]; exact List.mem_cons_self)
    refine ⟨.ref s.heap.objs.size, _, I2, rfl, ⟨_, c, y, rfl, I.hok.fresh (Nat.le_refl _), rfl, hc, fun ys hy => by rw [I.tuple_inj hy hx]; exact at_i⟩, ⟨sep, hz2, ?_, ⟨_, _, (sb.2 q sep.TOz).trans hq1⟩, ?_, ?_⟩, fun b hb => ?_⟩
    · exact (sb.2 p sep.TIz).trans (k1 p _ sep.TIz sep.TITO sep.TIi1 sep.TIi2 hp)
    · obtain ⟨o, g, r⟩ := ht1
      exact ⟨o, (sb.2 e ez).trans g, r⟩
    · obtain ⟨⟨o, g, r⟩, _⟩ := hr1
      exact ⟨o, (sb.2 f fz).trans g, r⟩
    · rw [upd_ne (Nat.ne_of_lt (sm b hb).1)]
      exact (fok b hb).1
  done := by
    intro X e1 e2 e3 calm i pins s σ H E I fok st ⟨xs, hx, l1, l2, past⟩
    subst e1 e2 e3
    obtain ⟨its, rv, isT, _⟩ := I.tuple hx
    obtain ⟨sep, hz, hp, ⟨v1, v2, hq⟩, ht, hr⟩ := st
    have nfa : a ≠ f := fun w => by
      obtain ⟨o, g, c, _⟩ := id hr
      obtain ⟨o2, g2, c2, _⟩ := id isT
      rw [← w, g2] at g
      cases g
      rw [c2] at c
      exact absurd (Value.type.inj c) (by decide)
    have sz : its.toArray.size = xs.length := by rw [List.size_toArray, rv.length]
    refine wpAny_pyNext_zipD2_end sep (Draws.text (A := X.A.in1) (I.ok.hd calm) e x t) (Draws.tuple (A := X.A.in1) (I.ok.hd calm) f a nfa its.toArray) hz hp hq ht ⟨hr, isT⟩ l1 (by rw [sz]; exact l2) (by rw [sz]; exact past) fun h1 tk k1 => ⟨rfl, ?_⟩
    exact I.turnedL (t' := tk) (ch := [z, p, q, e, f]) (fun b o nb g => k1 b o (fun w => nb (by simp [w])) (fun w => nb (by simp [w])) (fun w => nb (by simp [w])) (fun w => nb (by simp [w])) g) fok
  self A i s Q E st h := by
    exact wpAny_pyIter_zip st.zip_ h
def iZipS (K : PySem.W.Frag) (ta : TA) : TI := fun σ H R => ta σ H fun vs H1 => ∃ x a xs, vs = [.str x, .ref a] ∧ SqT K H1 a xs ∧ R (IzS K x a) H1
theorem pi_zipS {X : Cx} {e1 e2 : Expr} {ta : TA} {p pos tpos : PySem.Pos} {elts : List Expr} {kk : Nat} (gl : Gl X "zip") (mn : X.mg "zip" = none) (ha : PA X [e1, e2] ta) (hs : starEach [e1, e2] X.env = (false, eval e1 X.env) :: starEach [e2] X.env := by rfl) (hp : (backTo pos (starEach [e2] X.env)).any (·.1) = false := by rfl) : PI X (.Tuple elts kk tpos) (.Call (.Name "zip" p) [e1, e2] [] pos) (iZipS X.K ta) := by
  refine ⟨fun pins s σ H R I h => Call_ (ld_blt I gl mn boot_zip (PyProof.Rows.callWith_type1 (thn (ha.run pos pins s σ H _ I h) fun us s1 ⟨vs, G, I1, rv, x, a, xs, ev, hx, r⟩ => ?_) hs hp))⟩
  subst ev
  obtain ⟨u1, u2, rfl, r1, r2⟩ := vals2 rv
  obtain ⟨t, rfl⟩ := r1
  obtain rfl : u2 = Value.ref a := r2
  obtain ⟨its, rl, isT, _⟩ := I1.tuple hx
  have la : a < s1.heap.objs.size := by
    obtain ⟨o, g, _⟩ := id isT
    exact Heap.lt_size g
  refine zip_begins2 (begins_text x t) (begins_tuple a its.toArray) trivial isT fun h' hz hp hq g1 g2 sz kp => ?_
  have S : ZipSep2 (s1.heap.objs.size + 4) (s1.heap.objs.size + 2) (s1.heap.objs.size + 3) s1.heap.objs.size (s1.heap.objs.size + 1) [s1.heap.objs.size] [s1.heap.objs.size + 1, a] := zip_sep2 (fp1 := []) (fp2 := [a]) (fun b hb => nomatch hb) fun b hb => by rw [List.mem_singleton.mp hb]; exact la
  refine wpAny_pyIter_zip hz ⟨_, [s1.heap.objs.size + 4, s1.heap.objs.size + 2, s1.heap.objs.size + 3, s1.heap.objs.size, s1.heap.objs.size + 1], _, _, G, rfl, I1.kept (t' := s1.toks) kp, zipS_turn x t a _ _ _ _ _, ⟨S, hz, hp, ⟨_, _, hq⟩, ⟨_, g1, rfl, rfl⟩, ⟨_, g2, rfl, rfl⟩⟩, fun b hb => ?_, r⟩
  have young : s1.heap.objs.size ≤ b := by
    simp only [List.mem_cons, List.not_mem_nil, or_false] at hb
    rcases hb with rfl | rfl | rfl | rfl | rfl
    · exact Nat.le_add_right _ _
    · exact Nat.le_add_right _ _
    · exact Nat.le_add_right _ _
    · exact Nat.le_refl _
    · exact Nat.le_add_right _ _
  exact I1.fpOk young (I1.hok.fresh young)
theorem walk_zipS {K : PySem.W.Frag} {x : Str} {a : Addr} {xs : List V} (l : x.cps.size = xs.length) : Walk (IzS K x a) xs.length (fun H => SqT K H a xs) (YPair (fun i => (x.cps[i]?).map fun c => .str ⟨#[c]⟩) (fun i => xs[i]?)) :=
  ⟨fun i H lt q => ⟨xs, xs[i], q, by omega, List.getElem?_eq_getElem lt⟩, fun H q => ⟨xs, q, by omega, Nat.le_refl _, .inr rfl⟩, fun i H v H' _ q ⟨T, c, y, e1, e2, e3, e4, e5⟩ => ⟨T, _, _, e1, e2, e3, by show (x.cps[i]?).map _ = _; rw [e4]; rfl, e5 xs q⟩⟩
end CS
set_option Elab.async false
set_option maxRecDepth 100000
set_option maxHeartbeats 8000000
set_option linter.unusedVariables false
/-! dicts of a module's top, with text keys: read, copied -/
namespace CS
open PySem PySem.Spec PyProof.Rows L2
/-- at d stands a dict of the top: these keys, these values -/
def KD (P : Program) (w : World) (K : PySem.W.Frag) (d : Addr) (kvs : List (Key × V)) : Prop :=
  (d == sysModules) = false ∧ kvs.length ≤ sizeLine ∧ ∃ vs, KV kvs vs ∧ ∀ h : Heap, K.In h → h.DictOf (mixKind P w) d vs
theorem small1000' {n : Nat} (h : n ≤ 1000) : n < sizeLine := Nat.lt_of_le_of_lt h (by decide)
/-- its entries, as the top has them -/
def Ents (w : World) : List DictEntry → List (Str × V) → List (Key × Value) → Prop
  | [], [], [] => True
  | e :: es, (x, v) :: xs, (k, u) :: us => (∃ t, e.key = .str x t) ∧ e.hash = PyData.keyHash w.params x ∧ k = Sum.inr x ∧ u = e.val ∧ RelV v u ∧ Ents w es xs us
  | _, _, _ => False
section
variable {X : Cx}
theorem ix_kd {kvs : List (Key × V)} {d : Addr} (D : KD X.prog X.w X.K d kvs) : IxR X (fun x y H Q => ∃ (k : Key) (v : V), x = .ref d ∧ y = kV k ∧ valV kvs k = some v ∧ Q v H) := by
  intro value slice pins s σ H x y v u Q I rx ry h hs
  obtain ⟨k, z, rfl, rfl, l, q⟩ := h
  cases rx
  obtain ⟨lo, _, vs, rel, at_⟩ := D
  have dd := at_ s.heap I.kIn
  obtain ⟨w', hw, rw'⟩ := RelO.some_of (v := z) (o := valueAt vs k) (by rw [← l]; exact rel.val k)
  exact subscriptTail_builtinR (x := w') dd.mapOf.typeIs PySem.F.slot_dict_getitem.lookup (wpAny_getItem_of (kV_is ry) dd.mapOf hw ⟨rfl, ⟨z, H, I.tok _, rw', q⟩⟩) hs
theorem call_dictK {kvs : List (Key × V)} {d : Addr} (D : KD X.prog X.w X.K d kvs) : CallR X (.type "dict") (fun xs H Q => xs = [.ref d] ∧ ∀ p, H p = none → Q (.ref p) (upd H p (.dK kvs))) := by
  intro pins s σ H xs us Q I r q
  obtain ⟨rfl, q⟩ := q
  obtain ⟨u, rfl, ru⟩ := vals1 r
  cases ru
  obtain ⟨lo, z, vs, rel, at_⟩ := D
  refine kt_call_dict lo (at_ s.heap I.kIn) (by rw [← rel.length]; exact z) fun h' d' sb => ?_
  have new : (s.heap.objs.size == sysModules) = false := beq_eq_false_iff_ne.mpr (Nat.ne_of_gt I.big)
  exact ⟨.ref s.heap.objs.size, _, I.laid (t' := s.toks) (fun b u e => (sb.2 b (Nat.ne_of_lt (Heap.lt_size e))).trans (Heap.get?_push_of_some _ e)) (Nat.le_refl _) (o := .dK kvs) ⟨z, new, vs, rel, d'⟩, rfl, q _ (I.hok.fresh (Nat.le_refl _))⟩
end
theorem ents_kv {w : World} : ∀ {es : List DictEntry} {xs : List (Str × V)} {us : List (Key × Value)}, Ents w es xs us → KV (xs.map fun p => ((Sum.inr p.1 : Key), p.2)) us
  | [], [], [], _ => .nil
  | _ :: _, (x, v) :: xs, (k, u) :: us, ⟨_, _, e1, _, r, t⟩ => .cons ⟨e1.symm, r⟩ (ents_kv t)
  | [], _ :: _, _, h => h.elim
  | [], [], _ :: _, h => h.elim
  | _ :: _, [], _, h => h.elim
  | _ :: _, _ :: _, [], h => h.elim
theorem ents_pairs {P : Program} {w : World} : ∀ {es : List DictEntry} {xs : List (Str × V)} {us : List (Key × Value)}, Ents w es xs us → Pairs (mixKind P w) es us ∧ ∀ e ∈ es, ∃ k, (mixKind P w).is k e.key = true ∧ e.hash = (mixKind P w).hash k
  | [], [], [], _ => ⟨.nil, fun e h => nomatch h⟩
  | e :: es, (x, v) :: xs, (k, u) :: us, ⟨⟨t, ek⟩, eh, e1, e2, r, m⟩ => by
    obtain ⟨a, b⟩ := ents_pairs (P := P) m
    have is_ : (mixKind P w).is k e.key = true := by
      rw [e1, ek]
      exact kV_is (P := P) (w := w) (k := (Sum.inr x : Key)) (u := .str x t) ⟨t, rfl⟩
    refine ⟨.cons is_ e2.symm a, fun e' he => ?_⟩
    rcases List.mem_cons.mp he with rfl | he
    · exact ⟨k, is_, by rw [eh, e1]; rfl⟩
    · exact b e' he
  | [], _ :: _, _, h => h.elim
  | [], [], _ :: _, h => h.elim
  | _ :: _, [], _, h => h.elim
  | _ :: _, _ :: _, [], h => h.elim
/-- a dict of the top, by its entries -/
theorem kd_of {P : Program} {w : World} {K : PySem.W.Frag} {d : Addr} {es : Array DictEntry} {n : Nat} {xs : List (Str × V)} {us : List (Key × Value)} (low : (d == sysModules) = false) (at_ : K.lookup d = some ⟨.type "dict", none, .dict es n, #[]⟩) (en : Ents w es.toList xs us) (nd : (xs.map (·.1)).Nodup) (few : xs.length ≤ 1000) :
    KD P w K d (xs.map fun p => ((Sum.inr p.1 : Key), p.2)) := by
  have kv := ents_kv en
  obtain ⟨pr, ks⟩ := ents_pairs (P := P) en
  refine ⟨low, by rw [List.length_map]; exact Nat.le_of_lt (small1000' few), us, kv, fun h KI => ⟨_, es, n, KI _ _ at_, ⟨rfl, rfl, rfl⟩, rfl, fun e he => ks e (Array.mem_toList_iff.mpr he), pr, ?_⟩⟩
  have e1 := kv.keys
  rw [← e1, List.map_map]
  have e2 : xs.map ((fun x => x.1) ∘ fun p => ((Sum.inr p.1 : Key), p.2)) = (xs.map (·.1)).map (Sum.inr : Str → Key) := by rw [List.map_map]; rfl
  rw [e2]
  exact List.Pairwise.map _ (fun a b ne e => ne (Sum.inr.inj e)) nd
end CS
set_option Elab.async false
set_option maxRecDepth 100000
set_option maxHeartbeats 8000000
set_option linter.unusedVariables false
set_option pp.maxSteps 400
/-! days -/
namespace CS
open PySem L2 RZ
theorem ip_mul {X : Cx} : PIp X .Mult (fun x y H Q => ∃ i j, x = .int i ∧ y = .int j ∧ CMul i j ∧ Q (.int (i * j)) H) := by
  intro pins s σ H x y v u Q I r1 r2 h
  obtain ⟨i, j, rfl, rfl, c, q⟩ := h
  obtain ⟨t, rfl⟩ := r1
  obtain ⟨t', rfl⟩ := r2
  exact PySem.P.imul_int ⟨.int _, H, I.tok _, ⟨_, rfl⟩, q⟩ c.ok
theorem cutT_to {α : Type} (xs : List α) (j : Nat) : cutD xs none (some (j : Int)) = xs.take j := by
  unfold cutD
  rw [HT.sIx_none, HT.sIx_nat, List.drop_zero, Nat.sub_zero]
  by_cases h : j ≤ xs.length
  · rw [Nat.min_eq_left h]
  · rw [Nat.min_eq_right (by omega), List.take_length, List.take_of_length_le (by omega)]
theorem cutT_from {α : Type} (xs : List α) (j : Nat) : cutD xs (some (j : Int)) none = xs.drop j := by
  unfold cutD
  rw [HT.sIx_none, HT.sIx_nat]
  by_cases h : j ≤ xs.length
  · rw [Nat.min_eq_left h]
    exact List.take_of_length_le (by rw [List.length_drop]; omega)
  · rw [Nat.min_eq_right (by omega), List.drop_length, List.drop_of_length_le (by omega), List.take_nil]
theorem walk_zipT {K : PySem.W.Frag} {a b : Addr} {xs ys : List V} {n : Nat} (hn : n = min xs.length ys.length) : Walk (ItzT K a b) n (fun H => SqT K H a xs ∧ SqT K H b ys) (YPair (fun i => xs[i]?) (fun i => ys[i]?)) := by
  subst hn
  refine ⟨fun i H lt q => ?_, fun H q => ⟨xs, ys, q.1, q.2, by omega⟩, fun i H v H' _ q ⟨T, x, y, e1, e2, e3, e4, e5⟩ => ⟨T, x, y, e1, e2, e3, e4 xs q.1, e5 ys q.2⟩⟩
  exact ⟨xs, ys, xs[i], ys[i], q.1, q.2, List.getElem?_eq_getElem (by omega), List.getElem?_eq_getElem (by omega)⟩
section
variable {P : Program} {w : World} {K : PySem.W.Frag} {mg : Str → Option Value} {base : Heap}
def spAscT (K : PySem.W.Frag) : Sp := fun vs H Q _ => ∃ (a : Addr) (ns : List Int), vs = [.ref a] ∧ SqT K H a (ns.map V.int) ∧ ns.length ≤ 900 ∧ ∀ H', Same H H' → Q (.bl (decide (ns.Pairwise (· < ·)))) H'
abbrev nsAscendsT : List Str := ["things", "low", "high"]
theorem scAscendsT : FnScope nsAscendsT ["things"] (defScope sAscends) := ⟨rfl, rfl, rfl, by decide +kernel, rfl, by decide +kernel, by decide +kernel⟩
theorem ok_ascendsT {f : Addr} {fd : FuncData} (F : Df K mg "ascends" sAscends ["things"] f fd)
    (T : Bt mg) : FnOk P w K mg base CX0 1 f fd ["things"] (spAscT K) := by
  refine F.F.ok scAscendsT (fun vs H Q E h => ?_) (fun cdv A outer s H vs Q E hr h => ?_)
  · obtain ⟨a, ns, rfl, _⟩ := h
    rfl
  · obtain ⟨a, ns, rfl, hS, hlen, k⟩ := h
    refine ⟨_, (pss_one (ps_ret (pe_callB (cr_all rfl) (by rfl) T.all (by decide +kernel) (pa_cons (pe_lc (own := [("low", 1), ("high", 2)]) (g := gTup K 2 (gCons (gName 1) (gCons (gName 2) gNil))) (tt := tYes) rfl scAscendsT.nd (pi_zipA (by rfl) T.zip (pa_cons (pv 0) (pa_cons (pe_slice sl_any (pv 0) (po_some pe_int) po_none) pa_nil))) (blkOk_by (N := nsAscendsT) (sc := defScope sAscends) (by decide +kernel)) (fun _ _ _ _ _ => pg_tup rfl (pgs_cons (pg_name (i := 1) scAscendsT.nd rfl (Or.inl rfl)) (pgs_cons (pg_name (i := 2) scAscendsT.nd rfl (Or.inl rfl)) pgs_nil))) (fun _ _ _ _ _ => pts_nil) (fun _ _ _ _ _ => (pe_cmpR op_lt (pv 1) (pv 2) (nomark _)))) pa_nil)))), ?_⟩
    refine ⟨_, rfl, _, rfl, 1, rfl, a, _, rfl, hS, fun H1 b s1 hB => ?_⟩
    rw [show (1 : Int) = ((1 : Nat) : Int) from rfl, cutT_from] at hB
    have hS1 := s1.tup hS
    refine ⟨a, b, _, _, rfl, .inr ⟨hS1, hB, fun D hD => lc_it (walk_zipT (xs := ns.map V.int) (ys := (ns.map V.int).drop 1) (n := ns.length - 1) (by simp)) (fun i H' => H' D = some (.lst (((List.zipWith (fun a b => decide (a < b)) ns (ns.drop 1)).take i).map V.bl)) ∧ Same H1 H') ⟨upd_same, Same.new hD⟩ (fun i H' _ ⟨_, s2⟩ => ⟨s2.tup hS1, s2.tup hB⟩) ?_ ?_⟩⟩
    · rintro i v H2 H3 hi ⟨h1, s2⟩ ⟨t, x, y, rfl, ht, rfl, hx, hy⟩
      have e1 : ns[i]? = some (ns[i]'(by omega)) := by simp
      have e2 : (ns.drop 1)[i]? = some (ns[i + 1]'(by omega)) := by
        rw [List.getElem?_drop, Nat.add_comm]
        simp
      dsimp only at hx hy
      rw [List.getElem?_map, e1] at hx
      rw [← List.map_drop, List.getElem?_map, e2] at hy
      obtain rfl : V.int _ = x := Option.some.inj hx
      obtain rfl : V.int _ = y := Option.some.inj hy
      have k2 := Same.new (o := .tup [V.int (ns[i]'(by omega)), V.int (ns[i + 1]'(by omega))]) ht
      refine ⟨t, _, rfl, SqT.of upd_same, rfl, _, _, rfl, _, _, rfl, rfl, rfl, ?_⟩
      dsimp only [tYes]
      rw [if_pos rfl]
      refine ⟨_, rfl, _, rfl, _, _, rfl, rfl, _, k2 _ _ h1, small1000 ?_, ?_, ?_⟩
      · rw [List.length_map, List.length_take]; omega
      · rw [upd_same]
        have : (List.zipWith (fun a b => decide (a < b)) ns (ns.drop 1))[i]? = some (decide (ns[i]'(by omega) < ns[i + 1]'(by omega))) := by
          rw [List.getElem?_zipWith, e1, e2]
        rw [take_snoc this, List.map_append]
        rfl
      · exact same_upd hD (s2.trans k2)
    · rintro H2 ⟨h1, s2⟩
      rw [List.take_of_length_le (by rw [List.length_zipWith, List.length_drop]; omega)] at h1
      refine ⟨D, _, rfl, SqL.of h1, ?_⟩
      rw [asc_zip]
      exact k _ (s1.trans s2)
def prodL (ds : Dys) : Int := (((ds.map List.length).foldl (· * ·) 1 : Nat) : Int)
def spCount (K : PySem.W.Frag) : Sp := fun vs H Q _ => ∃ v ds, vs = [v] ∧ Dp K H v (dysD ds) ∧ ds.length ≤ 4 ∧ (∀ r ∈ ds, r.length ≤ 8) ∧ Q (.int (prodL ds)) H
abbrev nsCountPaths : List Str := ["days", "many", "day"]
theorem scCountPaths : FnScope nsCountPaths ["days"] (defScope sCountPaths) := ⟨rfl, rfl, rfl, by decide +kernel, rfl, by decide +kernel, by decide +kernel⟩
theorem ok_count_paths {f : Addr} {fd : FuncData} (F : Df K mg "count_paths" sCountPaths ["days"] f fd)
    (T : Bt mg) : FnOk P w K mg base CX0 1 f fd ["days"] (spCount K) := by
  refine F.F.ok scCountPaths (fun vs H Q E h => ?_) (fun cdv A outer s H vs Q E hr h => ?_)
  · obtain ⟨v, ds, rfl, _⟩ := h
    rfl
  · obtain ⟨v, ds, rfl, hv, l4, l8, k⟩ := h
    refine ⟨_, (pss_cons (ps_set (i := 1) scCountPaths.nd rfl (Or.inl rfl) pe_int)
      (pss_cons (ps_for PassesOwn.never rfl (pi_tup (pv 0)) (pg_name (i := 2) scCountPaths.nd rfl (Or.inl rfl)) (pss_one (ps_aug (i := 1) scCountPaths.nd rfl (Or.inl rfl) (pe_callB call_len_seq (by rfl) T.len PySem.boot_len (pa_cons (pv 2) pa_nil)) ip_mul)))
      (pss_one (ps_ret (pv 1))))), ?_⟩
    obtain ⟨a, xs, rfl, hs, ha⟩ := hv.tup_inv
    have lx := ha.len
    rw [List.length_map] at lx
    refine ⟨_, rfl, a, rfl, ⟨_, hs⟩, for_tup (K := K) (a := a) (xs := xs) (fun i σ H' => ∃ v2 m, σ = [some (.ref a), some (.int ((m : Nat) : Int)), v2] ∧ H' = H ∧ m = ((ds.map List.length).take i).foldl (· * ·) 1 ∧ m ≤ 8 ^ i) ⟨none, 1, rfl, rfl, rfl, by decide⟩ (fun i σ H' _ ⟨_, _, _, e, _⟩ => e ▸ hs) ?_ ?_⟩
    · rintro i v σ H' hi ⟨v2, m, rfl, rfl, e1, e2⟩
      obtain ⟨d, hd, dv⟩ := ha.get hi
      rw [List.getElem?_map] at hd
      obtain ⟨r, hr, rfl⟩ := Option.map_eq_some_iff.mp hd
      obtain ⟨b, ys, rfl, hb, hy⟩ := dv.tup_inv
      have r8 := l8 r (List.mem_of_getElem? hr)
      have ly := hy.len
      rw [List.length_map] at ly
      have i4 : i < 4 := by
        have := (List.getElem?_eq_some_iff.mp hr).1
        omega
      refine ⟨_, rfl, _, rfl, b, ys, rfl, .inr hb, ((m : Nat) : Int), ((ys.length : Nat) : Int), rfl, rfl, .inr ⟨by omega, by omega⟩, some (.ref b), m * r.length, ?_, rfl, ?_, ?_⟩
      · rw [ly]
        rfl
      · have hl : (ds.map List.length)[i]? = some r.length := by rw [List.getElem?_map, hr]; rfl
        rw [take_snoc hl, List.foldl_append, ← e1]
        rfl
      · rw [Nat.pow_succ]
        exact Nat.mul_le_mul e2 r8
    · rintro σ H' ⟨v2, m, rfl, rfl, e1, e2⟩
      rw [List.take_of_length_le (by rw [List.length_map]; omega)] at e1
      refine ⟨_, rfl, ?_⟩
      rw [e1]
      exact k
end
end CS
set_option Elab.async false
set_option maxRecDepth 100000
set_option maxHeartbeats 8000000
set_option linter.unusedVariables false
set_option pp.maxSteps 6000
/-! days that are good, their paths, claims -/
namespace CS
open PySem L2 RZ
/-- one walk, whatever is done within it -/
theorem in_one {J : It} {n : Nat} {G : Hp → Prop} {Y : Nat → Hp → V → Hp → Prop} (w : Walk J n G Y) {B : V → Hp → (Hp → Prop) → Prop} {H4 : Hp} {Nx : Hp → Prop} (Pv : Nat → Hp → Prop) (h0 : Pv 0 H4) (hG : ∀ i H, i ≤ n → Pv i H → G H) (hs : ∀ i x H H', i < n → Pv i H → Y i H x H' → B x H' (Pv (i + 1))) (hd : ∀ H, Pv n H → Nx H) :
    ∃ W1 : Nat → Nat → Hp → Prop, (∃ m, W1 0 m H4) ∧ ∀ j k H, W1 j k H → (J.stop j H ∧ Nx H) ∨ (J.go j H ∧ ∃ Nx1 : Hp → Prop, (∀ H', Nx1 H' → ∃ k', k' < k ∧ W1 (j + 1) k' H') ∧ ∀ x H', J.yld j H x H' → B x H' Nx1) := by
  refine ⟨fun j k H => j + k = n ∧ Pv j H, ⟨n, Nat.zero_add n, h0⟩, fun j k H at_ => ?_⟩
  have ok := hG j H (at_.1 ▸ Nat.le_add_right j k) at_.2
  cases k with
  | zero =>
    have last : j = n := at_.1
    subst last
    exact Or.inl ⟨w.stops H ok, hd H at_.2⟩
  | succ k =>
    have more : j < n := by have := at_.1; omega
    exact Or.inr ⟨w.goes j H more ok, Pv (j + 1), fun G pv => ⟨k, Nat.lt_succ_self k, by have := at_.1; omega, pv⟩, fun x G y => hs j x H G more at_.2 (w.yields j H x G more ok y)⟩
theorem paths_row_from (ds : Dys) : ∀ (ps : List (List Int)) (k : Nat), (∀ p ∈ ps, p.length = k) → ∀ p ∈ ds.foldl stepP ps, p.length = k + ds.length := by
  induction ds with
  | nil => exact fun ps k h => h
  | cons r ds ih =>
    intro ps k h p hp
    rw [ih (stepP ps r) (k + 1) (fun q hq => ?_) p hp, List.length_cons]
    · omega
    · obtain ⟨p0, h0, h1⟩ := List.mem_flatMap.mp hq
      obtain ⟨n, _, rfl⟩ := List.mem_map.mp h1
      rw [List.length_append, h p0 h0]
      rfl
theorem paths_row (ds : Dys) : ∀ p ∈ pathsL ds, p.length = ds.length := fun p hp => by
  have := paths_row_from ds [[]] 0 (fun q hq => by cases hq with | head => rfl | tail _ h => cases h) p hp
  omega
/-- rows of ints, as tuples -/
def RowsAt (K : PySem.W.Frag) (H : Hp) (ws : List V) (rs : List (List Int)) : Prop := DpAll K H ws (rs.map rowD_)
theorem RowsAt.len {K : PySem.W.Frag} {H : Hp} {ws : List V} {rs : List (List Int)} (h : RowsAt K H ws rs) : ws.length = rs.length := by
  have := DpAll.len h
  rwa [List.length_map] at this
theorem RowsAt.get {K : PySem.W.Frag} {H : Hp} {ws : List V} {rs : List (List Int)} (h : RowsAt K H ws rs) {i : Nat} {v : V} (e : ws[i]? = some v) : ∃ p r, v = .ref p ∧ rs[i]? = some r ∧ SqT K H p (r.map V.int) := by
  obtain ⟨d, hd, dv⟩ := DpAll.get h e
  rw [List.getElem?_map] at hd
  obtain ⟨r, hr, rfl⟩ := Option.map_eq_some_iff.mp hd
  obtain ⟨p, xs, rfl, hp, hx⟩ := dv.tup_inv
  obtain rfl := DpAll.of_ints hx
  exact ⟨p, r, rfl, hr, hp⟩
theorem RowsAt.same {K : PySem.W.Frag} {H H' : Hp} {ws : List V} {rs : List (List Int)} (h : RowsAt K H ws rs) (s : Same H H') : RowsAt K H' ws rs := DpAll.same s h
theorem RowsAt.snoc {K : PySem.W.Frag} {H H' : Hp} {ws : List V} {rs : List (List Int)} {p : Addr} {r : List Int} (h : RowsAt K H ws rs) (s : Same H H') (hp : SqT K H' p (r.map V.int)) : RowsAt K H' (ws ++ [.ref p]) (rs ++ [r]) := by
  unfold RowsAt
  rw [List.map_append]
  exact DpAll.app (DpAll.same s h) (.cons (.tup hp (DpAll.ints r)) .nil)
theorem flatRows : ∀ rs : List (List Int), flatDs (rs.map rowD_) = true
  | [] => rfl
  | r :: rs => by
    have h1 := flatRows rs
    show (flatD (rowD_ r) && flatDs (rs.map rowD_)) = true
    rw [h1, Bool.and_true]
    show flatDs (r.map .int) = true
    exact flatDs_ints r
theorem RowsAt.tk {K : PySem.W.Frag} {H H' : Hp} {ws : List V} {rs : List (List Int)} (h : RowsAt K H ws rs) (t : TK K H H') : RowsAt K H' ws rs := DpAll.tk t (flatRows rs) h
theorem dys_rows {K : PySem.W.Frag} {H : Hp} {v : V} {ds : Dys} (h : Dp K H v (dysD ds)) : ∃ a xs, v = .ref a ∧ SqT K H a xs ∧ RowsAt K H xs ds := h.tup_inv
section
variable {P : Program} {w : World} {K : PySem.W.Frag} {mg : Str → Option Value} {base : Heap}
def GoodRow (r : List Int) : Prop := 1 ≤ r.length ∧ r.length ≤ 8 ∧ r.Pairwise (· < ·) ∧ ∀ a ∈ r, -100 ≤ a ∧ a ≤ 100
def spGoodDay (K : PySem.W.Frag) : Sp := fun vs H Q _ => ∃ p r, vs = [.ref p] ∧ SqT K H p (r.map V.int) ∧ GoodRow r ∧ ∀ H', Same H H' → Q (.bl true) H'
abbrev nsIsDay : List Str := ["thing", "item"]
theorem scIsDay : FnScope nsIsDay ["thing"] (defScope sIsDay) := ⟨rfl, rfl, rfl, by decide +kernel, rfl, by decide +kernel, by decide +kernel⟩
theorem ok_is_day {f : Addr} {fd : FuncData} (F : Df K mg "is_day" sIsDay ["thing"] f fd)
    {f1 : Addr} {fd1 : FuncData} (D1 : Df K mg "ascends" sAscends ["things"] f1 fd1) (G1 : FnOk P w K mg base CX0 1 f1 fd1 ["things"] (spAscT K))
    {f2 : Addr} {fd2 : FuncData} (D2 : Df K mg "is_number" sIsNumber ["thing"] f2 fd2) (G2 : FnOk P w K mg base CX0 3 f2 fd2 ["thing"] (spNum))
    {f3 : Addr} {fd3 : FuncData} (D3 : Df K mg "is_row" sIsRow ["thing"] f3 fd3) (G3 : FnOk P w K mg base CX0 1 f3 fd3 ["thing"] (spD1 K rowD))
    {t8 : Tok} (g_MOST_PAIRS : mg "MOST_PAIRS" = some (.int 8 t8)) (T : Bt mg) : FnOk P w K mg base CX0 4 f fd ["thing"] (spGoodDay K) := by
  refine F.F.ok scIsDay (fun vs H Q E h => ?_) (fun cdv A outer s H vs Q E hr h => ?_)
  · obtain ⟨p, r, rfl, _⟩ := h
    rfl
  · obtain ⟨p, r, rfl, hp, ok, k⟩ := h
    refine ⟨_, (pss_cons (ps_if (PW.pt (pw_or (pt_not (pt_val (pe_call G3 (hr.mono (by decide)) (by rfl) D3.g D3.F.kp D3.b .nil pass0 (pa_cons (pv 0) pa_nil)))) (pw_or (pt_cmpR op_eq (pe_callB call_len_seq (by rfl) T.len PySem.boot_len (pa_cons (pv 0) pa_nil)) pe_int (nomark _)) (pw_or1 (pt_cmpR op_gt (pe_callB call_len_seq (by rfl) T.len PySem.boot_len (pa_cons (pv 0) pa_nil)) (pe_glob (v := .int 8) (by rfl) g_MOST_PAIRS ⟨_, rfl⟩) (nomark _)))))) (pss_one (ps_ret pe_bl)) pss_nil)
      (pss_one (ps_ret (pe_and (pe_callB (cr_all rfl) (by rfl) T.all (by decide +kernel) (pa_cons (pe_lc (own := [("item", 1)]) (g := gName 1) (tt := tYes) rfl scIsDay.nd (pi_tup (pv 0)) (blkOk_by (N := nsIsDay) (sc := defScope sIsDay) (by decide +kernel)) (fun _ _ _ _ _ => pg_name (i := 1) scIsDay.nd rfl (Or.inl rfl)) (fun _ _ _ _ _ => pts_nil) (fun _ _ _ _ _ => (pe_call G2 (hr.mono (by decide)) (by rfl) D2.g D2.F.kp D2.b .nil pass0 (pa_cons (pv 1) pa_nil)))) pa_nil)) (pe_one (pe_call G1 (hr.mono (by decide)) (by rfl) D1.g D1.F.kp D1.b .nil pass0 (pa_cons (pv 0) pa_nil))))))), ?_⟩
    have dp : Dp K H (.ref p) (rowD_ r) := .tup hp (DpAll.ints r)
    obtain ⟨r1, r8, asc, bd⟩ := ok
    refine ⟨_, rfl, .ref p, _, rfl, dp, _, rfl, iteF ?_⟩
    refine ⟨_, rfl, p, _, rfl, .inr hp, rfl, _, rfl, ?_⟩
    rw [dec_int]
    refine iteFe (by rw [List.length_map]; exact beq_eq_false_iff_ne.mpr (by omega)) ⟨_, rfl, p, _, rfl, .inr hp, _, _, rfl, rfl, _, rfl, iteFe (by rw [List.length_map]; exact decide_eq_false (by omega)) ?_⟩
    refine ⟨_, rfl, p, rfl, ⟨_, hp⟩, fun D nD => lc_it (walk_tup (K := K) (a := p) (xs := r.map V.int)) (fun i H' => H' D = some (.lst ((List.replicate i true).map V.bl)) ∧ Same H H') ⟨upd_same, Same.new nD⟩ (fun i H' _ ⟨_, s⟩ => s.tup hp) ?_ ?_⟩
    · rintro i v H2 H3 hi ⟨h1, s2⟩ ⟨rfl, hx⟩
      rw [List.getElem?_map] at hx
      obtain ⟨n, hn, rfl⟩ := Option.map_eq_some_iff.mp hx
      refine ⟨rfl, ?_⟩
      dsimp only [tYes]
      rw [if_pos rfl]
      rw [List.length_map] at hi
      refine ⟨_, rfl, n, rfl, _, h1, small1000 (by rw [List.length_map, List.length_replicate]; omega), ?_, same_upd nD s2⟩
      rw [upd_same, decide_eq_true (bd n (List.mem_of_getElem? hn)), List.replicate_succ', List.map_append]
      rfl
    · rintro H2 ⟨h1, s2⟩
      refine ⟨D, _, rfl, SqL.of h1, true, by simp, iteT ⟨_, rfl, p, r, rfl, s2.tup hp, by omega, fun H3 s3 => ?_⟩⟩
      rw [decide_eq_true asc]
      exact k _ (s2.trans s3)
def spPaths (K : PySem.W.Frag) : Sp := fun vs H Q _ => ∃ v ds, vs = [v] ∧ Dp K H v (dysD ds) ∧ DysOk ds ∧ ∀ H' p ws, Same H H' → H' p = some (.lst ws) → RowsAt K H' ws (pathsL ds) → Q (.ref p) H'
abbrev nsAllPaths : List Str := ["days", "paths", "day", "path", "number"]
theorem scAllPaths : FnScope nsAllPaths ["days"] (defScope sAllPaths) := ⟨rfl, rfl, rfl, by decide +kernel, rfl, by decide +kernel, by decide +kernel⟩
theorem ok_all_paths {f : Addr} {fd : FuncData} (F : Df K mg "all_paths" sAllPaths ["days"] f fd)
    (T : Bt mg) : FnOk P w K mg base CX0 1 f fd ["days"] (spPaths K) := by
  refine F.F.ok scAllPaths (fun vs H Q E h => ?_) (fun cdv A outer s H vs Q E hr h => ?_)
  · obtain ⟨v, ds, rfl, _⟩ := h
    rfl
  · obtain ⟨v, ds, rfl, hv, ok, k⟩ := h
    refine ⟨_, (pss_cons (ps_set (i := 1) scAllPaths.nd rfl (Or.inl rfl) (pe_lst (pa_cons (pe_tup pa_nil) pa_nil)))
      (pss_cons (ps_for PassesOwn.never rfl (pi_tup (pv 0)) (pg_name (i := 2) scAllPaths.nd rfl (Or.inr rfl)) (pss_one (ps_setLc2 (i := 1) (own := [("path", 3), ("number", 4)]) (vs1 := [4]) (g := gName 3) (tt := tYes) (wi1 := iTup K _) (g1 := gName 4) (tt1 := tYes) rfl scAllPaths.nd rfl rfl (sw_true rfl rfl rfl (by decide +kernel)) (pi_list (pv 1)) (blkOk_by (N := nsAllPaths) (sc := defScope sAllPaths) (by decide +kernel)) (by decide) (fun _ _ _ _ _ => pg_name (i := 3) scAllPaths.nd rfl (Or.inl rfl)) (fun _ _ _ _ _ => pts_nil) (fun _ _ _ _ _ => (pi_tup (pv 2))) (fun _ _ _ _ _ => pg_name (i := 4) scAllPaths.nd rfl (Or.inl rfl)) (fun _ _ _ _ _ => pts_nil) (fun _ _ _ _ _ => (show PE _ _ (tTup (StX.tStar K (tVar 3) (tCons (tVar 4) tNil))) from pe_tup (StX.pa_star (pv 3) (pa_cons (pv 4) pa_nil)))))))
      (pss_one (ps_ret (pv 1))))), ?_⟩
    obtain ⟨a, xs, rfl, hs, ha⟩ := dys_rows hv
    have lx := ha.len
    refine ⟨(by show 0 ≤ sizeLine; decide), fun e1 n1 => ⟨(by show 1 ≤ sizeLine; decide), fun l1 m1 => ?_⟩⟩
    have g1 := Same.new (o := .tup []) n1
    have g2 := Same.new (o := .lst [V.ref e1]) m1
    have r0 : RowsAt K (upd (upd H e1 (.tup [])) l1 (.lst [V.ref e1])) [V.ref e1] [[]] := .cons (.tup (g2.tup (SqT.of upd_same)) .nil) .nil
    have h0 : (upd (upd H e1 (.tup [])) l1 (.lst [V.ref e1])) l1 = some (.lst [V.ref e1]) := upd_same
    have s0 := g1.trans g2
    generalize upd (upd H e1 (.tup [])) l1 (.lst [V.ref e1]) = H0 at *
    have hs0 := s0.tup hs
    have ha0 := ha.same s0
    have l8 : ∀ r ∈ ds, r.length ≤ 8 := fun r hr => (ok.rows r hr).2.1
    have l4 := ok.len.2
    refine ⟨_, rfl, a, rfl, ⟨_, hs0⟩, for_tup (K := K) (a := a) (xs := xs) (fun i σ H' => ∃ v2 l ws, σ = [some (.ref a), some (.ref l), v2, none, none] ∧ Same H0 H' ∧ H' l = some (.lst ws) ∧ RowsAt K H' ws (pathsL (ds.take i)) ∧ (pathsL (ds.take i)).length ≤ 8 ^ i) ⟨none, l1, _, rfl, Same.refl _, h0, r0, Nat.le_refl _⟩ (fun i σ H' _ ⟨_, _, _, _, s1, _⟩ => s1.tup hs0) ?_ ?_⟩
    · rintro i v σ H1 hi ⟨v2, l, ws, rfl, s1, hl, hw, lw⟩
      obtain ⟨q, r, rfl, hr, hq⟩ := (ha0.same s1).get hi
      have r8 := l8 r (List.mem_of_getElem? hr)
      have i4 : i < 4 := by
        have := (List.getElem?_eq_some_iff.mp hr).1
        omega
      have p8 : 8 ^ i ≤ 512 := Nat.pow_le_pow_right (n := 8) (by decide) (show i ≤ 3 by omega)
      have et : pathsL (ds.take (i + 1)) = stepP (pathsL (ds.take i)) r := by
        unfold pathsL
        rw [take_snoc hr, List.foldl_append]
        rfl
      have lws := hw.len
      refine ⟨_, rfl, l, rfl, ⟨_, SqL.of hl⟩, fun D nD => in_one (walk_list (K := K) (a := l) (xs := ws)) (fun i' H' => ∃ us, H' D = some (.lst us) ∧ Same H1 H' ∧ RowsAt K H' us (((pathsL (ds.take i)).take i').flatMap fun p => r.map fun n => p ++ [n])) ⟨[], upd_same, Same.new nD, .nil⟩ (fun i' H' _ ⟨_, _, s, _⟩ => s.seq (SqL.of hl)) ?_ ?_⟩
      · rintro i' x H2 H3 hi' ⟨us, g1, g2, g3⟩ ⟨rfl, hx⟩
        obtain ⟨q', pth, rfl, hpt, hq'⟩ := hw.get hx
        have f3 : ((pathsL (ds.take i)).take i').length ≤ 512 := by rw [List.length_take]; omega
        have fl : (((pathsL (ds.take i)).take i').flatMap fun p => r.map fun n => p ++ [n]).length ≤ 512 * 8 := by
          rw [show (((pathsL (ds.take i)).take i').flatMap fun p => r.map fun n => p ++ [n]) = stepP ((pathsL (ds.take i)).take i') r from rfl, stepP_len]
          exact Nat.mul_le_mul f3 r8
        have p4 : pth.length ≤ 4 := by
          have := paths_row (ds.take i) pth (List.mem_of_getElem? hpt)
          rw [this, List.length_take]
          omega
        refine ⟨rfl, ?_⟩
        dsimp only [tYes]
        rw [if_pos rfl]
        refine ⟨_, rfl, q, rfl, ⟨_, g2.tup hq⟩, in_one (walk_tup (K := K) (a := q) (xs := r.map V.int)) (fun j H' => ∃ us, H' D = some (.lst us) ∧ Same H1 H' ∧ RowsAt K H' us ((((pathsL (ds.take i)).take i').flatMap fun p => r.map fun n => p ++ [n]) ++ (r.take j).map fun n => pth ++ [n])) ⟨us, g1, g2, by simpa using g3⟩ (fun j H' _ ⟨_, _, s, _⟩ => s.tup hq) ?_ ?_⟩
        · rintro j x H4 H5 hj ⟨us, g1, g2, g3⟩ ⟨rfl, hx⟩
          rw [List.getElem?_map] at hx
          obtain ⟨n, hn, rfl⟩ := Option.map_eq_some_iff.mp hx
          have hj2 := (List.getElem?_eq_some_iff.mp hn).1
          refine ⟨rfl, ?_⟩
          dsimp only [tYes]
          rw [if_pos rfl]
          have lu : us.length < sizeLine := by
            rw [g3.len, List.length_append, List.length_map, List.length_take]
            exact Nat.lt_of_le_of_lt (show _ ≤ 5000 by omega) (by decide)
          refine ⟨_, rfl, q', _, rfl, .inl (g2.tup hq'), _, rfl, ?_⟩
          refine ⟨(by rw [List.length_append, List.length_map]; exact Nat.le_trans (show _ ≤ 100 by simp; omega) (by decide)), fun b nb => ?_⟩
          have k1 := Same.new (o := .tup (pth.map V.int ++ [V.int n])) nb
          refine ⟨us, k1 _ _ g1, lu, us ++ [.ref b], upd_same, same_upd nD (g2.trans k1), ?_⟩
          rw [take_snoc hn, List.map_append, ← List.append_assoc]
          have g4 := g3.snoc (p := b) (r := pth ++ [n]) k1 (SqT.of (by rw [List.map_append]; exact upd_same))
          exact RowsAt.tk g4 (tk_lst (k1 _ _ g1))
        · rintro H4 ⟨us, g1, g2, g3⟩
          refine ⟨us, g1, g2, ?_⟩
          rw [take_snoc hpt, List.flatMap_append]
          rw [List.length_map, List.take_length] at g3
          simpa using g3
      · rintro H2 ⟨us, g1, g2, g3⟩
        rw [lws, List.take_length] at g3
        refine ⟨_, D, us, rfl, s1.trans g2, g1, by rw [et]; exact g3, ?_⟩
        rw [et, stepP_len, Nat.pow_succ]
        exact Nat.mul_le_mul lw r8
    · rintro σ H1 ⟨v2, l, ws, rfl, s1, hl, hw, lw⟩
      rw [lx, List.take_length] at hw
      exact ⟨_, rfl, k _ _ _ (s0.trans s1) hl hw⟩
def spWholeC : Sp := fun vs H Q _ => ∃ i : Int, vs = [.int i] ∧ Q (.bl (decide (-10000 ≤ i ∧ i ≤ 10000))) H
abbrev nsIsWholeClaimed : List Str := ["thing"]
theorem scIsWholeClaimed : FnScope nsIsWholeClaimed ["thing"] (defScope sIsWholeClaimed) := ⟨rfl, rfl, rfl, by decide +kernel, rfl, by decide +kernel, by decide +kernel⟩
theorem ok_is_whole_claimed {f : Addr} {fd : FuncData} (F : Df K mg "is_whole_claimed" sIsWholeClaimed ["thing"] f fd)
    {f1 : Addr} {fd1 : FuncData} (D1 : Df K mg "is_whole_within" sIsWholeWithin ["thing", "least", "most"] f1 fd1) (G1 : FnOk P w K mg base CX0 2 f1 fd1 ["thing", "least", "most"] (spWW))
    {tC_ : Tok} (gC : mg "MOST_CLAIMED" = some (.int 10000 tC_)) : FnOk P w K mg base CX0 3 f fd ["thing"] (spWholeC) := by
  refine F.F.ok scIsWholeClaimed (fun vs H Q E h => ?_) (fun cdv A outer s H vs Q E hr h => ?_)
  · obtain ⟨i, rfl, _⟩ := h
    rfl
  · obtain ⟨i, rfl, k⟩ := h
    refine ⟨_, (pss_one (ps_ret (pe_call G1 (hr.mono (by decide)) (by rfl) D1.g D1.F.kp D1.b .nil pass0 (pa_cons (pv 0) (pa_cons (pe_un un_neg (pe_glob (v := .int 10000) (by rfl) gC ⟨_, rfl⟩)) (pa_cons (pe_glob (v := .int 10000) (by rfl) gC ⟨_, rfl⟩) pa_nil)))))), ?_⟩
    exact ⟨_, rfl, _, rfl, i, -10000, 10000, rfl, k⟩
end
end CS
set_option Elab.async false
set_option maxRecDepth 100000
set_option maxHeartbeats 8000000
set_option linter.unusedVariables false
set_option pp.maxSteps 6000
/-! good days; a claim -/
namespace CS
open PySem L2 RZ
theorem prod_le {ds : Dys} (ok : DysOk ds) : prodL ds ≤ 32 := by
  have := ok.few
  unfold prodL
  omega
section
variable {P : Program} {w : World} {K : PySem.W.Frag} {mg : Str → Option Value} {base : Heap}
def spGoodDays (K : PySem.W.Frag) : Sp := fun vs H Q _ => ∃ v ds, vs = [v] ∧ Dp K H v (dysD ds) ∧ DysOk ds ∧ ∀ H', Same H H' → Q (.bl true) H'
def spNeedDays (K : PySem.W.Frag) : Sp := fun vs H Q _ => ∃ v ds, vs = [v] ∧ Dp K H v (dysD ds) ∧ DysOk ds ∧ ∀ H', Same H H' → Q v H'
abbrev nsIsDays : List Str := ["thing", "item"]
theorem scIsDays : FnScope nsIsDays ["thing"] (defScope sIsDays) := ⟨rfl, rfl, rfl, by decide +kernel, rfl, by decide +kernel, by decide +kernel⟩
theorem ok_is_days {f : Addr} {fd : FuncData} (F : Df K mg "is_days" sIsDays ["thing"] f fd)
    {f1 : Addr} {fd1 : FuncData} (D1 : Df K mg "count_paths" sCountPaths ["days"] f1 fd1) (G1 : FnOk P w K mg base CX0 1 f1 fd1 ["days"] (spCount K))
    {f2 : Addr} {fd2 : FuncData} (D2 : Df K mg "is_day" sIsDay ["thing"] f2 fd2) (G2 : FnOk P w K mg base CX0 4 f2 fd2 ["thing"] (spGoodDay K))
    {f3 : Addr} {fd3 : FuncData} (D3 : Df K mg "is_row" sIsRow ["thing"] f3 fd3) (G3 : FnOk P w K mg base CX0 1 f3 fd3 ["thing"] (spD1 K rowD))
    {t6 t7 : Tok} (gMD : mg "MOST_DAYS" = some (.int 4 t6)) (gMP : mg "MOST_PATHS" = some (.int 32 t7)) (T : Bt mg) : FnOk P w K mg base CX0 5 f fd ["thing"] (spGoodDays K) := by
  refine F.F.ok scIsDays (fun vs H Q E h => ?_) (fun cdv A outer s H vs Q E hr h => ?_)
  · obtain ⟨v, ds, rfl, _⟩ := h
    rfl
  · obtain ⟨v, ds, rfl, dv, ok, k⟩ := h
    refine ⟨_, (pss_cons (ps_if (PW.pt (pw_or (pt_not (pt_val (pe_call G3 (hr.mono (by decide)) (by rfl) D3.g D3.F.kp D3.b .nil pass0 (pa_cons (pv 0) pa_nil)))) (pw_or (pt_cmpR op_eq (pe_callB call_len_seq (by rfl) T.len PySem.boot_len (pa_cons (pv 0) pa_nil)) pe_int (nomark _)) (pw_or1 (pt_cmpR op_gt (pe_callB call_len_seq (by rfl) T.len PySem.boot_len (pa_cons (pv 0) pa_nil)) (pe_glob (v := .int 4) (by rfl) gMD ⟨_, rfl⟩) (nomark _)))))) (pss_one (ps_ret pe_bl)) pss_nil)
      (pss_one (ps_ret (pe_and (pe_callB (cr_all rfl) (by rfl) T.all (by decide +kernel) (pa_cons (pe_lc (own := [("item", 1)]) (g := gName 1) (tt := tYes) rfl scIsDays.nd (pi_tup (pv 0)) (blkOk_by (N := nsIsDays) (sc := defScope sIsDays) (by decide +kernel)) (fun _ _ _ _ _ => pg_name (i := 1) scIsDays.nd rfl (Or.inl rfl)) (fun _ _ _ _ _ => pts_nil) (fun _ _ _ _ _ => (pe_call G2 (hr.mono (by decide)) (by rfl) D2.g D2.F.kp D2.b .nil pass0 (pa_cons (pv 1) pa_nil)))) pa_nil)) (pe_one (pe_cmpR op_le (pe_call G1 (hr.mono (by decide)) (by rfl) D1.g D1.F.kp D1.b .nil pass0 (pa_cons (pv 0) pa_nil)) (pe_glob (v := .int 32) (by rfl) gMP ⟨_, rfl⟩) (nomark _))))))), ?_⟩
    obtain ⟨p, xs, rfl, hp, ha⟩ := dys_rows dv
    have lx := ha.len
    have l1 := ok.len.1
    have l4 := ok.len.2
    refine ⟨_, rfl, .ref p, _, rfl, dv, _, rfl, iteF ?_⟩
    refine ⟨_, rfl, p, _, rfl, .inr hp, rfl, _, rfl, ?_⟩
    rw [dec_int]
    refine iteFe (beq_eq_false_iff_ne.mpr (by omega)) ⟨_, rfl, p, _, rfl, .inr hp, _, _, rfl, rfl, _, rfl, iteFe (decide_eq_false (by omega)) ?_⟩
    refine ⟨_, rfl, p, rfl, ⟨_, hp⟩, fun D nD => lc_it (walk_tup (K := K) (a := p) (xs := xs)) (fun i H' => H' D = some (.lst ((List.replicate i true).map V.bl)) ∧ Same H H') ⟨upd_same, Same.new nD⟩ (fun i H' _ ⟨_, s⟩ => s.tup hp) ?_ ?_⟩
    · rintro i v H2 H3 hi ⟨h1, s2⟩ ⟨rfl, hx⟩
      obtain ⟨q, r, rfl, hr, hq⟩ := ha.get hx
      obtain ⟨r1, r8, asc, bd⟩ := ok.rows r (List.mem_of_getElem? hr)
      refine ⟨rfl, ?_⟩
      dsimp only [tYes]
      rw [if_pos rfl]
      refine ⟨_, rfl, q, r, rfl, s2.tup hq, ⟨r1, r8, asc, bd⟩, fun H4 s4 => ⟨_, s4 _ _ h1, small1000 (by rw [List.length_map, List.length_replicate]; omega), ?_, same_upd nD (s2.trans s4)⟩⟩
      rw [upd_same, List.replicate_succ', List.map_append]
      rfl
    · rintro H2 ⟨h1, s2⟩
      refine ⟨D, _, rfl, SqL.of h1, true, by simp, iteT ⟨_, rfl, .ref p, ds, rfl, Dp.same s2 dv, l4, fun r hr => (ok.rows r hr).2.1, _, _, rfl, rfl, ?_⟩⟩
      show Q (.bl (decide (prodL ds ≤ 32))) H2
      rw [decide_eq_true (prod_le ok)]
      exact k _ s2
abbrev nsNeedDays : List Str := ["thing"]
theorem scNeedDays : FnScope nsNeedDays ["thing"] (defScope sNeedDays) := ⟨rfl, rfl, rfl, by decide +kernel, rfl, by decide +kernel, by decide +kernel⟩
theorem ok_need_days {f : Addr} {fd : FuncData} (F : Df K mg "need_days" sNeedDays ["thing"] f fd)
    {f1 : Addr} {fd1 : FuncData} (D1 : Df K mg "is_days" sIsDays ["thing"] f1 fd1) (G1 : FnOk P w K mg base CX0 5 f1 fd1 ["thing"] (spGoodDays K)) : FnOk P w K mg base CX0 6 f fd ["thing"] (spNeedDays K) := by
  refine F.F.ok scNeedDays (fun vs H Q E h => ?_) (fun cdv A outer s H vs Q E hr h => ?_)
  · obtain ⟨v, ds, rfl, _⟩ := h
    rfl
  · obtain ⟨v, ds, rfl, dv, ok, k⟩ := h
    refine ⟨_, (pss_cons (ps_if (pt_not (pt_val (pe_call G1 (hr.mono (by decide)) (by rfl) D1.g D1.F.kp D1.b .nil pass0 (pa_cons (pv 0) pa_nil)))) (pss_one ps_never) pss_nil)
      (pss_one (ps_ret (pv 0)))), ?_⟩
    exact ⟨_, rfl, v, ds, rfl, dv, ok, fun H1 s1 => ⟨_, rfl, iteF ⟨_, rfl, k _ s1⟩⟩⟩
/-- a tuple of ints, as a claim: how many, how great -/
def claimOk (ds : Dys) (ns : List Int) : Bool := decide (∀ n ∈ ns, -10000 ≤ n ∧ n ≤ 10000)
def spIsClaim (K : PySem.W.Frag) : Sp := fun vs H Q _ => ∃ v ds p ns, vs = [v, .ref p] ∧ Dp K H v (dysD ds) ∧ DysOk ds ∧ SqT K H p (ns.map V.int) ∧ (ns.length : Int) = prodL ds ∧ ∀ H', Same H H' → Q (.bl (claimOk ds ns)) H'
abbrev nsIsClaim : List Str := ["days", "thing", "item"]
theorem scIsClaim : FnScope nsIsClaim ["days", "thing"] (defScope sIsClaim) := ⟨rfl, rfl, rfl, by decide +kernel, rfl, by decide +kernel, by decide +kernel⟩
theorem ok_is_claim {f : Addr} {fd : FuncData} (F : Df K mg "is_claim" sIsClaim ["days", "thing"] f fd)
    {f1 : Addr} {fd1 : FuncData} (D1 : Df K mg "is_whole_claimed" sIsWholeClaimed ["thing"] f1 fd1) (G1 : FnOk P w K mg base CX0 3 f1 fd1 ["thing"] (spWholeC))
    {f2 : Addr} {fd2 : FuncData} (D2 : Df K mg "is_row_of" sIsRowOf ["thing", "many"] f2 fd2) (G2 : FnOk P w K mg base CX0 2 f2 fd2 ["thing", "many"] (spRowOf K))
    {f3 : Addr} {fd3 : FuncData} (D3 : Df K mg "count_paths" sCountPaths ["days"] f3 fd3) (G3 : FnOk P w K mg base CX0 1 f3 fd3 ["days"] (spCount K))
    (T : Bt mg) : FnOk P w K mg base CX0 4 f fd ["days", "thing"] (spIsClaim K) := by
  refine F.F.ok scIsClaim (fun vs H Q E h => ?_) (fun cdv A outer s H vs Q E hr h => ?_)
  · obtain ⟨v, ds, p, ns, rfl, _⟩ := h
    rfl
  · obtain ⟨v, ds, p, ns, rfl, dv, ok, hp, ln, k⟩ := h
    refine ⟨_, (pss_one (ps_ret (pe_and (pe_call G2 (hr.mono (by decide)) (by rfl) D2.g D2.F.kp D2.b .nil pass0 (pa_cons (pv 1) (pa_cons (pe_call G3 (hr.mono (by decide)) (by rfl) D3.g D3.F.kp D3.b .nil pass0 (pa_cons (pv 0) pa_nil)) pa_nil))) (pe_one (pe_callB (cr_all rfl) (by rfl) T.all (by decide +kernel) (pa_cons (pe_lc (own := [("item", 2)]) (g := gName 2) (tt := tYes) rfl scIsClaim.nd (pi_tup (pv 1)) (blkOk_by (N := nsIsClaim) (sc := defScope sIsClaim) (by decide +kernel)) (fun _ _ _ _ _ => pg_name (i := 2) scIsClaim.nd rfl (Or.inl rfl)) (fun _ _ _ _ _ => pts_nil) (fun _ _ _ _ _ => (pe_call G1 (hr.mono (by decide)) (by rfl) D1.g D1.F.kp D1.b .nil pass0 (pa_cons (pv 2) pa_nil)))) pa_nil)))))), ?_⟩
    have n32 := prod_le ok
    refine ⟨_, rfl, _, rfl, v, ds, rfl, dv, ok.len.2, fun r hr => (ok.rows r hr).2.1, p, _, _, rfl, hp, ?_⟩
    refine ⟨true, by rw [List.length_map, decide_eq_true ln], iteT ?_⟩
    refine ⟨_, rfl, p, rfl, ⟨_, hp⟩, fun D nD => lc_it (walk_tup (K := K) (a := p) (xs := ns.map V.int)) (fun i H' => H' D = some (.lst (((ns.take i).map fun n => decide (-10000 ≤ n ∧ n ≤ 10000)).map V.bl)) ∧ Same H H') ⟨upd_same, Same.new nD⟩ (fun i H' _ ⟨_, s⟩ => s.tup hp) ?_ ?_⟩
    · rintro i v H2 H3 hi ⟨h1, s2⟩ ⟨rfl, hx⟩
      rw [List.getElem?_map] at hx
      obtain ⟨n, hn, rfl⟩ := Option.map_eq_some_iff.mp hx
      refine ⟨rfl, ?_⟩
      dsimp only [tYes]
      rw [if_pos rfl]
      rw [List.length_map] at hi
      refine ⟨_, rfl, n, rfl, _, h1, small1000 (by rw [List.length_map, List.length_map, List.length_take]; omega), ?_, same_upd nD s2⟩
      rw [upd_same, take_snoc hn, List.map_append, List.map_append]
      rfl
    · rintro H2 ⟨h1, s2⟩
      rw [List.length_map, List.take_length] at h1
      refine ⟨D, _, rfl, SqL.of h1, ?_⟩
      have e : (List.map (fun n => decide (-10000 ≤ n ∧ n ≤ 10000)) ns).all id = claimOk ds ns := by
        unfold claimOk
        rw [Bool.eq_iff_iff, List.all_eq_true, decide_eq_true_eq]
        exact ⟨fun h n hn => of_decide_eq_true (h _ (List.mem_map.mpr ⟨n, hn, rfl⟩)), fun h b hb => by
          obtain ⟨n, hn, rfl⟩ := List.mem_map.mp hb
          exact decide_eq_true (h n hn)⟩
      rw [e]
      exact k _ s2
end
end CS
set_option Elab.async false
set_option maxRecDepth 100000
set_option maxHeartbeats 8000000
set_option linter.unusedVariables false
set_option pp.maxSteps 6000
/-! words and their shapes -/
namespace CS
open PySem L2 RZ
/-- where a kind is S, among the first i -/
def plc (s : Str) (i : Nat) : List Int := (List.range i).filterMap fun j => match s.cps[j]? with
  | some c => if (⟨#[c]⟩ : Str) = "S" then some (((1 + j : Nat) : Nat) : Int) else none
  | none => none
theorem plc_kids (t : Tm) : plc t.shape t.shape.cps.size = t.kids.map fun k => (k.1 : Int) := by
  cases t <;> simp only [Tm.shape, Tm.kids, List.map_nil, List.map_cons] <;> decide +kernel
theorem plc_succ (s : Str) (i : Nat) : plc s (i + 1) = plc s i ++ (match s.cps[i]? with
  | some c => if (⟨#[c]⟩ : Str) = "S" then [(((1 + i : Nat) : Nat) : Int)] else []
  | none => []) := by
  unfold plc
  rw [List.range_succ, List.filterMap_append]
  congr 1
  cases e : s.cps[i]? with
  | none => simp [e]
  | some c =>
    by_cases h : (⟨#[c]⟩ : Str) = "S"
    · simp [e, h]
    · simp [e, h]
theorem plc_le (s : Str) (i : Nat) : (plc s i).length ≤ i := by
  unfold plc
  exact Nat.le_trans (List.length_filterMap_le _ _) (by simp)
theorem pi_enumS1 {X : Cx} {e : Expr} {ta : TA} {p pos tpos kp cp : PySem.Pos} {j : Nat} {n : Int} {elts : List Expr} {kk : Nat} (gl : Gl X "enumerate") (mn : X.mg "enumerate" = none) (ha : PA X [e] ta)
    (hs : starEach [e] X.env = [(false, eval e X.env)] := by rfl) : PI X (.Tuple elts kk tpos) (.Call (.Name "enumerate" p) [e] [⟨some "start", (.Constant (.int n) j cp), kp⟩] pos) (iEnS ta (tC (.int n))) := pi_enumS gl mn ha pe_int hs
section
variable {P : Program} {w : World} {K : PySem.W.Frag} {mg : Str → Option Value} {base : Heap}
def spPlaces (K : PySem.W.Frag) : Sp := fun vs H Q _ => ∃ s : Str, vs = [.str s] ∧ s.cps.size ≤ 9 ∧ ∀ D H', Same H H' → SqL K H' D ((plc s s.cps.size).map V.int) → Q (.ref D) H'
abbrev nsKidPlaces : List Str := ["shape", "at", "kind"]
theorem scKidPlaces : FnScope nsKidPlaces ["shape"] (defScope sKidPlaces) := ⟨rfl, rfl, rfl, by decide +kernel, rfl, by decide +kernel, by decide +kernel⟩
theorem ok_kid_places {f : Addr} {fd : FuncData} (F : Df K mg "kid_places" sKidPlaces ["shape"] f fd)
    {tK : Tok} (gK : mg "KID" = some (.str "S" tK)) (T : Bt mg) (menumerate : mg "enumerate" = none) : FnOk P w K mg base CX0 1 f fd ["shape"] (spPlaces K) := by
  refine F.F.ok scKidPlaces (fun vs H Q E h => ?_) (fun cdv A outer s H vs Q E hr h => ?_)
  · obtain ⟨s, rfl, _⟩ := h
    rfl
  · obtain ⟨s, rfl, l9, k⟩ := h
    refine ⟨_, (pss_one (ps_ret (pe_lc (own := [("at", 1), ("kind", 2)]) (g := gTup K 2 (gCons (gName 1) (gCons (gName 2) gNil))) (tt := _) rfl scKidPlaces.nd (pi_enumS1 (by rfl) menumerate (pa_cons (pv 0) pa_nil)) (blkOk_by (N := nsKidPlaces) (sc := defScope sKidPlaces) (by decide +kernel)) (fun _ _ _ _ _ => pg_tup rfl (pgs_cons (pg_name (i := 1) scKidPlaces.nd rfl (Or.inl rfl)) (pgs_cons (pg_name (i := 2) scKidPlaces.nd rfl (Or.inl rfl)) pgs_nil))) (fun _ _ _ _ _ => pts_one (pt_cmpR op_eq (pv 2) (pe_glob (v := .str "S") (by rfl) gK ⟨_, rfl⟩) (nomark _))) (fun _ _ _ _ _ => (pv 1))))), ?_⟩
    refine ⟨_, rfl, s, rfl, 1, rfl, by decide, by decide, fun D nD => lc_it (walk_enS (x := s) (k := 1)) (fun i H' => H' D = some (.lst ((plc s i).map V.int)) ∧ Same H H') ⟨upd_same, Same.new nD⟩ (fun _ _ _ _ => trivial) ?_ ?_⟩
    · rintro i v H2 H3 hi ⟨h1, s2⟩ ⟨t, x, y, rfl, ht, rfl, hx, hy⟩
      obtain rfl : V.int _ = x := Option.some.inj hx
      obtain ⟨c, hc, rfl⟩ := Option.map_eq_some_iff.mp hy
      have k2 := Same.new (o := .tup [V.int (1 + (i : Nat)), V.str ⟨#[c]⟩]) ht
      refine ⟨t, _, rfl, SqT.of upd_same, rfl, _, _, rfl, _, _, rfl, rfl, rfl, ?_⟩
      have lp := plc_le s i
      refine ⟨_, rfl, rfl, _, rfl, ?_⟩
      by_cases h : (⟨#[c]⟩ : Str) = "S"
      · refine iteTe (decide_eq_true (by rw [h])) ⟨_, rfl, _, k2 _ _ h1, small1000 (by rw [List.length_map]; omega), ?_, same_upd nD (s2.trans k2)⟩
        rw [upd_same, plc_succ, hc, List.map_append]
        simp only [h, if_true]
        rfl
      · refine iteFe (decide_eq_false fun z => h (V.str.inj z)) ⟨?_, s2.trans k2⟩
        rw [plc_succ, hc]
        simp only [h, if_false, List.append_nil]
        exact k2 _ _ h1
    · rintro H2 ⟨h1, s2⟩
      exact k _ _ s2 (SqL.of h1)
/-- the bounds of the kinds -/
abbrev bndKV (aN aD aX aA aM : Addr) : List (Key × V) := [(Sum.inr "N", .ref aN), (Sum.inr "D", .ref aD), (Sum.inr "X", .ref aX), (Sum.inr "A", .ref aA), (Sum.inr "M", .ref aM)]
def FitV (c : Nat) (v : V) : Prop := c = 83 ∨ (c = 78 ∧ ∃ n, v = .int n ∧ Tm.okN n) ∨ (c = 68 ∧ ∃ n : Int, v = .int n ∧ 0 ≤ n ∧ n ≤ 3)
def spMay : Sp := fun vs H Q _ => ∃ c v, vs = [.str ⟨#[c]⟩, v] ∧ FitV c v ∧ Q (.bl true) H
abbrev nsMayStand : List Str := ["kind", "thing", "least", "most"]
theorem scMayStand : FnScope nsMayStand ["kind", "thing"] (defScope sMayStand) := ⟨rfl, rfl, rfl, by decide +kernel, rfl, by decide +kernel, by decide +kernel⟩
theorem ok_may_stand {f : Addr} {fd : FuncData} (F : Df K mg "may_stand" sMayStand ["kind", "thing"] f fd)
    {f1 : Addr} {fd1 : FuncData} (D1 : Df K mg "is_whole_within" sIsWholeWithin ["thing", "least", "most"] f1 fd1) (G1 : FnOk P w K mg base CX0 2 f1 fd1 ["thing", "least", "most"] (spWW))
    {tK : Tok} (gK : mg "KID" = some (.str "S" tK)) {aB aN aD aX aA aM : Addr} (gB : mg "BOUNDS" = some (.ref aB)) (BD : KD P w K aB (bndKV aN aD aX aA aM)) (hN : ∀ H, SqT K H aN [.int (-1000), .int 1000]) (hD : ∀ H, SqT K H aD [.int 0, .int 3]) (T : Bt mg) : FnOk P w K mg base CX0 3 f fd ["kind", "thing"] (spMay) := by
  refine F.F.ok scMayStand (fun vs H Q E h => ?_) (fun cdv A outer s H vs Q E hr h => ?_)
  · obtain ⟨c, v, rfl, _⟩ := h
    rfl
  · obtain ⟨c, v, rfl, fit, k⟩ := h
    refine ⟨_, (pss_cons (ps_if (pt_cmpR op_eq (pv 0) (pe_glob (v := .str "S") (by rfl) gK ⟨_, rfl⟩) (nomark _)) (pss_one (ps_ret pe_bl)) pss_nil)
      (pss_cons (ps_asg (pe_ix (ix_kd BD) (pe_glob (v := .ref aB) (by rfl) gB rfl) (pv 0) (fun _ _ => rfl)) (pg_tup rfl (pgs_cons (pg_name (i := 2) scMayStand.nd rfl (Or.inl rfl)) (pgs_cons (pg_name (i := 3) scMayStand.nd rfl (Or.inl rfl)) pgs_nil))))
      (pss_one (ps_ret (pe_call G1 (hr.mono (by decide)) (by rfl) D1.g D1.F.kp D1.b .nil pass0 (pa_cons (pv 1) (pa_cons (pv 2) (pa_cons (pv 3) pa_nil)))))))), ?_⟩
    rcases fit with rfl | ⟨rfl, n, rfl, ok⟩ | ⟨rfl, n, rfl, ok⟩
    · exact ⟨_, rfl, rfl, _, rfl, iteTe (by decide +kernel) k⟩
    · refine ⟨_, rfl, rfl, _, rfl, iteFe (by decide +kernel) ⟨_, rfl, Sum.inr "N", .ref aN, rfl, rfl, by rfl, aN, _, rfl, hN H, rfl, _, _, rfl, _, _, rfl, rfl, _, rfl, _, rfl, _, rfl, n, _, _, rfl, ?_⟩⟩
      rw [decide_eq_true (show -1000 ≤ n ∧ n ≤ 1000 from ok)]
      exact k
    · refine ⟨_, rfl, rfl, _, rfl, iteFe (by decide +kernel) ⟨_, rfl, Sum.inr "D", .ref aD, rfl, rfl, by rfl, aD, _, rfl, hD H, rfl, _, _, rfl, _, _, rfl, rfl, _, rfl, _, rfl, _, rfl, n, _, _, rfl, ?_⟩⟩
      rw [decide_eq_true ok]
      exact k
theorem ati0 {x : V} {xs : List V} : atI (x :: xs) 0 = some x := atI_nat (j := 0) rfl
def spOrder (K : PySem.W.Frag) : Sp := fun vs H Q _ => ∃ p x xs, vs = [.ref p] ∧ SqT K H p (.str x :: xs) ∧ x ≠ "spread" ∧ x ≠ "drawn" ∧ Q (.bl true) H
abbrev nsIsInOrder : List Str := ["thing"]
theorem scIsInOrder : FnScope nsIsInOrder ["thing"] (defScope sIsInOrder) := ⟨rfl, rfl, rfl, by decide +kernel, rfl, by decide +kernel, by decide +kernel⟩
theorem ok_is_in_order {f : Addr} {fd : FuncData} (F : Df K mg "is_in_order" sIsInOrder ["thing"] f fd) : FnOk P w K mg base CX0 1 f fd ["thing"] (spOrder K) := by
  refine F.F.ok scIsInOrder (fun vs H Q E h => ?_) (fun cdv A outer s H vs Q E hr h => ?_)
  · obtain ⟨p, x, xs, rfl, _⟩ := h
    rfl
  · obtain ⟨p, x, xs, rfl, hp, n1, n2, k⟩ := h
    refine ⟨_, (pss_cons (ps_if (pt_cmpR op_eq (pe_ix ix_tup (pv 0) pe_int (fun _ _ => rfl)) pe_str (nomark _)) (pss_one (ps_ret (pe_and (pe_cmpR op_lt (pe_ix ix_tup (pv 0) pe_int (fun _ _ => rfl)) (pe_ix ix_tup (pv 0) pe_int (fun _ _ => rfl)) (nomark _)) (pe_one (pe_cmpR op_lt (pe_ix ix_tup (pv 0) pe_int (fun _ _ => rfl)) (pe_ix ix_tup (pv 0) pe_int (fun _ _ => rfl)) (nomark _)))))) pss_nil)
      (pss_cons (ps_if (pt_cmpR op_eq (pe_ix ix_tup (pv 0) pe_int (fun _ _ => rfl)) pe_str (nomark _)) (pss_one (ps_ret (pe_cmpR op_le (pe_ix ix_tup (pv 0) pe_int (fun _ _ => rfl)) (pe_ix ix_tup (pv 0) pe_int (fun _ _ => rfl)) (nomark _)))) pss_nil)
      (pss_one (ps_ret pe_bl)))), ?_⟩
    refine ⟨_, rfl, p, _, 0, _, rfl, rfl, hp, ati0, rfl, _, rfl, iteFe (decide_eq_false fun z => n1 (V.str.inj z)) ?_⟩
    exact ⟨_, rfl, p, _, 0, _, rfl, rfl, hp, ati0, rfl, _, rfl, iteFe (decide_eq_false fun z => n2 (V.str.inj z)) k⟩
/-- a term, taken apart -/
theorem tm_at {H : Hp} {v : V} {t : Tm} (h : Dp K H v t.toD) : ∃ a xs, v = .ref a ∧ SqT K H a (.str t.word :: xs) ∧ DpAll K H xs t.rest := by
  rw [Tm.toD_eq] at h
  obtain ⟨a, xs, rfl, hs, ha⟩ := h.tup_inv
  cases ha with
  | cons h1 h2 =>
    cases h1
    exact ⟨a, _, rfl, hs, h2⟩
theorem shape_len (t : Tm) : t.shape.cps.size = t.rest.length := by cases t <;> rfl
def codes : Tm → List Nat
  | .cash_ _ => [78] | .at_ _ => [68] | .above_ .. => [68, 78] | .below_ .. => [68, 78] | .lowest_ _ => [68] | .highest_ _ => [68]
  | .both_ .. => [83, 83] | .short_ _ => [83] | .times_ .. => [83, 78] | .lesser_ .. => [83, 83] | .greater_ .. => [83, 83] | .cond_ .. => [68, 78, 83, 83]
theorem codes_eq (t : Tm) : t.shape.cps = (codes t).toArray := by cases t <;> rfl
theorem fitsD {t : Tm} (ok : t.Ok) {i c : Nat} {d : PyData} (hc : (codes t)[i]? = some c) (hd : t.rest[i]? = some d) : c = 83 ∨ (c = 78 ∧ ∃ n, d = .int n ∧ Tm.okN n) ∨ (c = 68 ∧ ∃ n : Int, d = .int n ∧ 0 ≤ n ∧ n ≤ 3) := by
  cases t <;> simp only [codes, Tm.rest, Tm.Ok] at hc hd ok <;> rcases i with _ | _ | _ | _ | i <;> simp at hc hd <;> subst hc <;> subst hd
  all_goals first
    | exact .inl rfl
    | exact .inr (.inl ⟨rfl, _, rfl, ok⟩)
    | exact .inr (.inl ⟨rfl, _, rfl, ok.2⟩)
    | exact .inr (.inl ⟨rfl, _, rfl, ok.2.1⟩)
    | exact .inr (.inr ⟨rfl, _, rfl, by omega, by omega⟩)
    | exact .inr (.inr ⟨rfl, _, rfl, by omega, by have := ok.1; omega⟩)
theorem fits {H : Hp} {t : Tm} {xs : List V} (ok : t.Ok) (h : DpAll K H xs t.rest) : ∀ (i c : Nat) (v : V), t.shape.cps[i]? = some c → xs[i]? = some v → FitV c v := by
  intro i c v hc hx
  obtain ⟨d, hd, dv⟩ := DpAll.get h hx
  rw [codes_eq] at hc
  rcases fitsD ok (by simpa using hc) hd with e | ⟨e, n, rfl, o⟩ | ⟨e, n, rfl, o⟩
  · exact .inl e
  · cases dv
    exact .inr (.inl ⟨e, n, rfl, o⟩)
  · cases dv
    exact .inr (.inr ⟨e, n, rfl, o⟩)
theorem shape_four (t : Tm) : t.shape.cps.size ≤ 4 := by
  rw [codes_eq]
  cases t <;> simp [codes]
/-- the shapes of the words -/
abbrev shKV : List (Key × V) := [(Sum.inr "cash", .str "N"), (Sum.inr "at", .str "D"), (Sum.inr "above", .str "DN"), (Sum.inr "below", .str "DN"), (Sum.inr "lowest", .str "D"), (Sum.inr "highest", .str "D"), (Sum.inr "both", .str "SS"), (Sum.inr "short", .str "S"), (Sum.inr "times", .str "SN"), (Sum.inr "lesser", .str "SS"), (Sum.inr "greater", .str "SS"), (Sum.inr "if", .str "DNSS")]
theorem sh_val (t : Tm) : valV shKV (Sum.inr t.word) = some (.str t.shape) := by cases t <;> simp only [Tm.word, Tm.shape] <;> decide +kernel
def spFormed (K : PySem.W.Frag) : Sp := fun vs H Q _ => ∃ v s t, vs = [v, .ref s] ∧ H s = some (.dK shKV) ∧ Dp K H v (Tm.toD t) ∧ t.Ok ∧ ∀ H', Same H H' → Q (.bl true) H'
abbrev nsIsFormed : List Str := ["thing", "shapes", "shape", "kind", "item"]
theorem scIsFormed : FnScope nsIsFormed ["thing", "shapes"] (defScope sIsFormed) := ⟨rfl, rfl, rfl, by decide +kernel, rfl, by decide +kernel, by decide +kernel⟩
theorem ok_is_formed {f : Addr} {fd : FuncData} (F : Df K mg "is_formed" sIsFormed ["thing", "shapes"] f fd)
    {f1 : Addr} {fd1 : FuncData} (D1 : Df K mg "is_in_order" sIsInOrder ["thing"] f1 fd1) (G1 : FnOk P w K mg base CX0 1 f1 fd1 ["thing"] (spOrder K))
    {f2 : Addr} {fd2 : FuncData} (D2 : Df K mg "may_stand" sMayStand ["kind", "thing"] f2 fd2) (G2 : FnOk P w K mg base CX0 3 f2 fd2 ["kind", "thing"] (spMay))
    {f3 : Addr} {fd3 : FuncData} (D3 : Df K mg "is_word" sIsWord ["thing"] f3 fd3) (G3 : FnOk P w K mg base CX0 1 f3 fd3 ["thing"] (spD1 K wordD))
    {f4 : Addr} {fd4 : FuncData} (D4 : Df K mg "is_row" sIsRow ["thing"] f4 fd4) (G4 : FnOk P w K mg base CX0 1 f4 fd4 ["thing"] (spD1 K rowD))
    (T : Bt mg) : FnOk P w K mg base CX0 4 f fd ["thing", "shapes"] (spFormed K) := by
  refine F.F.ok scIsFormed (fun vs H Q E h => ?_) (fun cdv A outer s H vs Q E hr h => ?_)
  · obtain ⟨v, d, t, rfl, _⟩ := h
    rfl
  · obtain ⟨v, d, t, rfl, hd, hv, ok, k⟩ := h
    have hu := hu_of hr
    refine ⟨_, (pss_cons (ps_if (PW.pt (pw_or (pt_not (pt_val (pe_call G4 (hr.mono (by decide)) (by rfl) D4.g D4.F.kp D4.b .nil pass0 (pa_cons (pv 0) pa_nil)))) (pw_or (pt_cmpR op_eq (pe_callB call_len_seq (by rfl) T.len PySem.boot_len (pa_cons (pv 0) pa_nil)) pe_int (nomark _)) (pw_or (pt_not (pt_val (pe_call G3 (hr.mono (by decide)) (by rfl) D3.g D3.F.kp D3.b .nil pass0 (pa_cons (pe_ix ix_tup (pv 0) pe_int (fun _ _ => rfl)) pa_nil)))) (pw_or1 (pt_cmp (pc_dnotin hu (pe_ix ix_tup (pv 0) pe_int (fun _ _ => rfl)) (pv 1)))))))) (pss_one (ps_ret pe_bl)) pss_nil)
      (pss_cons (ps_set (i := 2) scIsFormed.nd rfl (Or.inl rfl) (pe_dget hu (pv 1) (pe_ix ix_tup (pv 0) pe_int (fun _ _ => rfl)) (fun _ _ => rfl)))
      (pss_cons (ps_if (pt_cmpR op_ne (pe_callB call_len_seq (by rfl) T.len PySem.boot_len (pa_cons (pv 0) pa_nil)) (pe_op op_add pe_int (pe_callB call_len_str (by rfl) T.len PySem.boot_len (pa_cons (pv 2) pa_nil))) (nomark _)) (pss_one (ps_ret pe_bl)) pss_nil)
      (pss_one (ps_ret (pe_and (pe_callB (cr_all rfl) (by rfl) T.all (by decide +kernel) (pa_cons (pe_lc (own := [("kind", 3), ("item", 4)]) (g := gTup K 2 (gCons (gName 3) (gCons (gName 4) gNil))) (tt := tYes) rfl scIsFormed.nd (pi_zipS (by rfl) T.zip (pa_cons (pv 2) (pa_cons (pe_slice sl_any (pv 0) (po_some pe_int) po_none) pa_nil))) (blkOk_by (N := nsIsFormed) (sc := defScope sIsFormed) (by decide +kernel)) (fun _ _ _ _ _ => pg_tup rfl (pgs_cons (pg_name (i := 3) scIsFormed.nd rfl (Or.inl rfl)) (pgs_cons (pg_name (i := 4) scIsFormed.nd rfl (Or.inl rfl)) pgs_nil))) (fun _ _ _ _ _ => pts_nil) (fun _ _ _ _ _ => (pe_call G2 (hr.mono (by decide)) (by rfl) D2.g D2.F.kp D2.b .nil pass0 (pa_cons (pv 3) (pa_cons (pv 4) pa_nil))))) pa_nil)) (pe_one (pe_call G1 (hr.mono (by decide)) (by rfl) D1.g D1.F.kp D1.b .nil pass0 (pa_cons (pv 0) pa_nil))))))))), ?_⟩
    obtain ⟨a, xs, rfl, hs, hx⟩ := tm_at hv
    have lx := hx.len
    have ls := shape_len t
    have s4 := shape_four t
    have gd : DGet H d (.str t.word) (some (.str t.shape)) := by
      have := DGet.k (k := Sum.inr t.word) hd
      rw [sh_val] at this
      exact this
    have hv2 := hv
    rw [Tm.toD_eq] at hv2
    refine ⟨_, rfl, .ref a, _, rfl, hv2, _, rfl, iteF ?_⟩
    refine ⟨_, rfl, a, _, rfl, .inr hs, rfl, _, rfl, ?_⟩
    rw [dec_int]
    refine iteFe (beq_eq_false_iff_ne.mpr (by rw [List.length_cons]; omega)) ⟨_, rfl, a, _, 0, _, rfl, rfl, hs, ati0, .str t.word, .str t.word, rfl, .str _, _, rfl, iteF ⟨_, rfl, a, _, 0, _, rfl, rfl, hs, ati0, _, rfl, d, _, rfl, gd, _, rfl, iteF ?_⟩⟩
    refine ⟨_, rfl, _, rfl, a, _, 0, _, rfl, rfl, hs, ati0, d, _, rfl, gd, ?_⟩
    refine ⟨_, rfl, a, _, rfl, .inr hs, _, rfl, t.shape, rfl, Nat.le_trans s4 (by decide), _, _, rfl, rfl, rfl, _, rfl, iteFe ?_ ?_⟩
    · rw [dec_int, beq_iff_eq.mpr]
      · rfl
      · rw [List.length_cons, lx, ← ls]
        show _ = 1 + ((t.shape.cps.size : Nat) : Int)
        omega
    refine ⟨_, rfl, _, rfl, 1, rfl, a, _, rfl, hs, fun H1 b s1 hB => ?_⟩
    rw [show (1 : Int) = ((1 : Nat) : Int) from rfl, cutT_from] at hB
    have hB2 : SqT K H1 b xs := hB
    refine ⟨t.shape, b, _, rfl, hB2, fun D nD => lc_it (walk_zipS (x := t.shape) (a := b) (xs := xs) (by omega)) (fun i H' => H' D = some (.lst ((List.replicate i true).map V.bl)) ∧ Same H1 H') ⟨upd_same, Same.new nD⟩ (fun i H' _ ⟨_, s2⟩ => s2.tup hB2) ?_ ?_⟩
    · rintro i v H2 H3 hi ⟨h1, s2⟩ ⟨t', x, y, rfl, ht, rfl, hx1, hy⟩
      obtain ⟨c, hc, rfl⟩ := Option.map_eq_some_iff.mp hx1
      have k2 := Same.new (o := .tup [V.str ⟨#[c]⟩, y]) ht
      refine ⟨t', _, rfl, SqT.of upd_same, rfl, _, _, rfl, _, _, rfl, rfl, rfl, ?_⟩
      dsimp only [tYes]
      rw [if_pos rfl]
      refine ⟨_, rfl, _, rfl, c, y, rfl, fits ok hx i c y hc hy, _, k2 _ _ h1, small1000 (by rw [List.length_map, List.length_replicate]; omega), ?_, same_upd nD (s2.trans k2)⟩
      rw [upd_same, List.replicate_succ', List.map_append]
      rfl
    · rintro H2 ⟨h1, s2⟩
      have s3 := s1.trans s2
      exact ⟨D, _, rfl, SqL.of h1, true, by simp, iteT ⟨_, rfl, a, t.word, xs, rfl, s3.tup hs, by cases t <;> simp only [Tm.word] <;> decide +kernel, by cases t <;> simp only [Tm.word] <;> decide +kernel, k _ s3⟩⟩
end
end CS
set_option Elab.async false
set_option maxRecDepth 100000
set_option maxHeartbeats 8000000
set_option linter.unusedVariables false
set_option pp.maxSteps 6000
/-! terms that are formed as they should be -/
namespace CS
open PySem L2 RZ
theorem Tm.words_pos (t : Tm) : 1 ≤ t.words := by cases t <;> simp only [Tm.words] <;> omega
theorem Tm.height_pos (t : Tm) : 1 ≤ t.height := by cases t <;> simp only [Tm.height] <;> omega
theorem Tm.flat (t : Tm) : flatD t.toD = true := by
  induction t <;> simp_all [Tm.toD, flatD, flatDs]
abbrev Itm := List Int × Tm
def itemD (p : Itm) : PyData := .tuple [rowD_ p.1, p.2.toD]
theorem flatItems : ∀ l : List Itm, flatDs (l.map itemD) = true
  | [] => rfl
  | p :: l => by
    have h1 := flatItems l
    have h2 : flatDs (p.1.map PyData.int) = true := flatDs_ints p.1
    show (flatD (itemD p) && flatDs (l.map itemD)) = true
    rw [h1, Bool.and_true]
    show (flatDs (p.1.map .int) && (flatD p.2.toD && true)) = true
    rw [h2, p.2.flat]
    rfl
def wsum (l : List Itm) : Nat := (l.map fun p => p.2.words).sum
theorem wsum_len : ∀ l : List Itm, l.length ≤ wsum l
  | [] => Nat.zero_le _
  | p :: l => by
    have := wsum_len l
    have := p.2.words_pos
    simp only [wsum, List.map_cons, List.sum_cons, List.length_cons] at *
    omega
theorem wsum_app (l m : List Itm) : wsum (l ++ m) = wsum l + wsum m := by simp [wsum]
def kidsI (p : List Int) (t : Tm) : List Itm := (t.kids.map fun k => (p ++ [(k.1 : Int)], k.2)).reverse
theorem kidsI_sum (p : List Int) (t : Tm) : wsum (kidsI p t) + 1 = t.words := by
  rw [← Tm.kids_words (t := t)]
  unfold wsum kidsI
  rw [List.map_reverse, List.sum_reverse, List.map_map]
  rfl
theorem dp_unsnoc {K : PySem.W.Frag} {H : Hp} : ∀ {vs : List V} {ds : List PyData} {v : V} {d : PyData}, vs.length = ds.length → DpAll K H (vs ++ [v]) (ds ++ [d]) → DpAll K H vs ds ∧ Dp K H v d
  | [], [], _, _, _, .cons a .nil => ⟨.nil, a⟩
  | x :: vs, y :: ds, _, _, l, .cons a b => by
    obtain ⟨h1, h2⟩ := dp_unsnoc (by simpa using l) b
    exact ⟨.cons a h1, h2⟩
theorem restFlat (t : Tm) : flatDs t.rest = true := by
  have := t.flat
  rw [Tm.toD_eq] at this
  simpa [flatD, flatDs] using this
section
variable {P : Program} {w : World} {K : PySem.W.Frag} {mg : Str → Option Value} {base : Heap}
def spFault (K : PySem.W.Frag) : Sp := fun vs H Q _ => ∃ v d t, vs = [v, .ref d] ∧ H d = some (.dK shKV) ∧ Dp K H v (Tm.toD t) ∧ t.Ok ∧ t.words ≤ 20 ∧ t.height ≤ 8 ∧ ∀ H', Same H H' → Q .non H'
abbrev nsFaultIn : List Str := ["whole", "shapes", "waiting", "many", "path", "thing", "places", "at"]
theorem scFaultIn : FnScope nsFaultIn ["whole", "shapes"] (defScope sFaultIn) := ⟨rfl, rfl, rfl, by decide +kernel, rfl, by decide +kernel, by decide +kernel⟩
theorem ok_fault_in {f : Addr} {fd : FuncData} (F : Df K mg "fault_in" sFaultIn ["whole", "shapes"] f fd)
    {f1 : Addr} {fd1 : FuncData} (D1 : Df K mg "kid_places" sKidPlaces ["shape"] f1 fd1) (G1 : FnOk P w K mg base CX0 1 f1 fd1 ["shape"] (spPlaces K))
    {f2 : Addr} {fd2 : FuncData} (D2 : Df K mg "is_formed" sIsFormed ["thing", "shapes"] f2 fd2) (G2 : FnOk P w K mg base CX0 4 f2 fd2 ["thing", "shapes"] (spFormed K))
    {t1 t2 : Tok} (gMW : mg "MOST_WORDS" = some (.int 20 t1)) (gMI : mg "MOST_WITHIN" = some (.int 8 t2)) (T : Bt mg) : FnOk P w K mg base CX0 5 f fd ["whole", "shapes"] (spFault K) := by
  refine F.F.ok scFaultIn (fun vs H Q E h => ?_) (fun cdv A outer s H vs Q E hr h => ?_)
  · obtain ⟨v, d, t, rfl, _⟩ := h
    rfl
  · obtain ⟨v, d, t, rfl, hd, hv, ok, w20, h8, k⟩ := h
    have hu := hu_of hr
    refine ⟨_, (pss_cons (ps_set (i := 2) scFaultIn.nd rfl (Or.inl rfl) (pe_lst (pa_cons (pe_tup (pa_cons (pe_tup pa_nil) (pa_cons (pv 0) pa_nil))) pa_nil)))
      (pss_cons (ps_set (i := 3) scFaultIn.nd rfl (Or.inl rfl) pe_int)
      (pss_cons (ps_while PassesOwn.never (pt_truth (pv 2) (fun _ => rfl)) (pss_cons (ps_asg (pe_bm0 PySem.F.plainAttrs_list PySem.F.slot_list_pop PySem.F.type_list_pop mt_pop (pv 2)) (pg_tup rfl (pgs_cons (pg_name (i := 4) scFaultIn.nd rfl (Or.inr rfl)) (pgs_cons (pg_name (i := 5) scFaultIn.nd rfl (Or.inr rfl)) pgs_nil))))
      (pss_cons (ps_aug (i := 3) scFaultIn.nd rfl (Or.inl rfl) pe_int ip_add)
      (pss_cons (ps_if (PW.pt (pw_or (pt_cmpR op_gt (pv 3) (pe_glob (v := .int 20) (by rfl) gMW ⟨_, rfl⟩) (nomark _)) (pw_or1 (pt_cmpR op_eq (pe_callB call_len_seq (by rfl) T.len PySem.boot_len (pa_cons (pv 4) pa_nil)) (pe_glob (v := .int 8) (by rfl) gMI ⟨_, rfl⟩) (nomark _))))) (pss_one (ps_ret (pe_tup pa_nil))) pss_nil)
      (pss_cons (ps_if (pt_not (pt_val (pe_call G2 (hr.mono (by decide)) (by rfl) D2.g D2.F.kp D2.b .nil pass0 (pa_cons (pv 5) (pa_cons (pv 1) pa_nil))))) (pss_one (ps_ret (pv 4))) pss_nil)
      (pss_cons (ps_set (i := 6) scFaultIn.nd rfl (Or.inl rfl) (pe_call G1 (hr.mono (by decide)) (by rfl) D1.g D1.F.kp D1.b .nil pass0 (pa_cons (pe_dget hu (pv 1) (pe_ix ix_tup (pv 5) pe_int (fun _ _ => rfl)) (fun _ _ => rfl)) pa_nil)))
      (pss_one (ps_expr (pe_bm PySem.F.plainAttrs_list PySem.F.slot_list_extend PySem.F.type_list_extend mt_extend (pv 2) (pa_cons (pe_lc (own := [("at", 7)]) (g := gName 7) (tt := tYes) rfl scFaultIn.nd (pi_list (pe_revL (pv 6))) (blkOk_by (N := nsFaultIn) (sc := defScope sFaultIn) (by decide +kernel)) (fun _ _ _ _ _ => pg_name (i := 7) scFaultIn.nd rfl (Or.inl rfl)) (fun _ _ _ _ _ => pts_nil) (fun _ _ _ _ _ => (pe_tup (pa_cons (show PE _ _ (tTup (StX.tStar K (tVar 4) (tCons (tVar 7) tNil))) from pe_tup (StX.pa_star (pv 4) (pa_cons (pv 7) pa_nil))) (pa_cons (pe_ix (r := rIxT K) ix_tup (pv 5) (pv 7) (fun _ _ => rfl)) pa_nil))))) pa_nil))))))))))
      (pss_one (ps_ret pe_non))))), ?_⟩
    refine ⟨(by show 0 ≤ sizeLine; decide), fun e1 n1 => ⟨_, rfl, (by show 2 ≤ sizeLine; decide), fun e2 n2 => ⟨(by show 1 ≤ sizeLine; decide), fun l1 m1 => ?_⟩⟩⟩
    have g1 := Same.new (o := .tup []) n1
    have g2 := Same.new (o := .tup [V.ref e1, v]) n2
    have g3 := Same.new (o := .lst [V.ref e2]) m1
    have s0 := (g1.trans g2).trans g3
    have nl : H l1 = none := by
      cases e : H l1 with
      | none => rfl
      | some o =>
        have := (g1.trans g2) _ _ e
        rw [m1] at this
        cases this
    have i0 : DpAll K (upd (upd (upd H e1 (.tup [])) e2 (.tup [V.ref e1, v])) l1 (.lst [V.ref e2])) [V.ref e2] (List.map itemD [([], t)]) := .cons (.tup (g3.tup (SqT.of upd_same)) (.cons (.tup ((g2.trans g3).tup (SqT.of upd_same)) .nil) (.cons (Dp.same s0 hv) .nil))) .nil
    have h0 : (upd (upd (upd H e1 (.tup [])) e2 (.tup [V.ref e1, v])) l1 (.lst [V.ref e2])) l1 = some (.lst [V.ref e2]) := upd_same
    generalize upd (upd (upd H e1 (.tup [])) e2 (.tup [V.ref e1, v])) l1 (.lst [V.ref e2]) = H0 at *
    refine ⟨fun m σ H' => ∃ v4 v5 v6 v7 ws its, ∃ done : Nat, σ = [some v, some (.ref d), some (.ref l1), some (.int done), v4, v5, v6, v7] ∧ Same H H' ∧ H' l1 = some (.lst ws) ∧ DpAll K H' ws (its.map itemD) ∧ wsum its + done ≤ 20 ∧ (∀ it ∈ its, it.2.Ok ∧ it.1.length + it.2.height ≤ 8) ∧ m = wsum its,
      ⟨_, none, none, none, none, [V.ref e2], [([], t)], 0, rfl, s0, h0, i0, by simpa [wsum] using w20, fun it hit => by
        rw [List.mem_singleton.mp hit]
        exact ⟨ok, by simpa using h8⟩, rfl⟩, ?_⟩
    rintro m σ H1 ⟨v4, v5, v6, v7, ws, its, done, rfl, s1, hl, hw, wd, each, rfl⟩
    have lw := hw.len
    rw [List.length_map] at lw
    refine ⟨_, rfl, _, .inl ⟨ws, SqL.of hl, rfl⟩, ?_⟩
    rcases List.eq_nil_or_concat its with rfl | ⟨its', ⟨p, t1⟩, rfl⟩
    · obtain rfl : ws = [] := List.length_eq_zero_iff.mp lw
      exact iteF (k _ s1)
    rw [List.concat_eq_append] at *
    rcases List.eq_nil_or_concat ws with rfl | ⟨ws', y, rfl⟩
    · rw [List.length_append] at lw
      cases lw
    rw [List.concat_eq_append] at *
    refine iteTe (by simp) ?_
    obtain ⟨hw', dy⟩ := dp_unsnoc (K := K) (H := H1) (ds := its'.map itemD) (by simpa using lw) (by simpa using hw)
    obtain ⟨pa, xp, rfl, hpa, hxp⟩ := dy.tup_inv
    obtain ⟨x1, u, rfl, d1, d2⟩ : ∃ x1 u, xp = [x1, u] ∧ Dp K H1 x1 (rowD_ p) ∧ Dp K H1 u t1.toD := by
      cases hxp with
      | cons a b =>
        cases b with
        | cons a2 b2 =>
          cases b2
          exact ⟨_, _, rfl, a, a2⟩
    obtain ⟨q, xq, rfl, hq, hxq⟩ := d1.tup_inv
    obtain rfl := DpAll.of_ints hxq
    obtain ⟨a1, x5, rfl, ha1, hx5⟩ := tm_at d2
    obtain ⟨ok1, h81⟩ := each (p, t1) (by simp)
    have hp1 := t1.height_pos
    have wp1 := t1.words_pos
    have ws1 : wsum (its' ++ [(p, t1)]) = wsum its' + t1.words := by simp [wsum]
    dsimp only at ok1 h81
    refine ⟨_, fun σ' H' h => h, ?_⟩
    refine ⟨_, rfl, .inl ⟨rfl, _, SqL.of hl⟩, l1, _, .ref pa, rfl, rfl, hl, by simp, ?_⟩
    rw [List.dropLast_concat]
    have k2 : TK K H1 (upd H1 l1 (.lst ws')) := tk_lst hl
    have s2 : Same H (upd H1 l1 (.lst ws')) := same_upd nl s1
    have hl2 : (upd H1 l1 (.lst ws')) l1 = some (.lst ws') := upd_same
    have hpa2 := k2 _ _ hpa
    have hq2 := k2 _ _ hq
    have ha2 := k2 _ _ ha1
    have d22 := Dp.tk k2 t1.flat d2
    have hw2 := DpAll.tk k2 (flatItems its') hw'
    have hx52 := DpAll.tk k2 (restFlat t1) hx5
    generalize upd H1 l1 (.lst ws') = H2 at *
    refine ⟨pa, _, rfl, hpa2, rfl, _, _, rfl, _, _, rfl, rfl, _, rfl, _, _, rfl, rfl, ?_⟩
    refine ⟨_, rfl, _, _, rfl, rfl, _, rfl, iteFe (decide_eq_false (by show ¬ (20 < (done : Int) + 1); omega)) ⟨_, rfl, q, _, rfl, .inr hq2, rfl, _, rfl, ?_⟩⟩
    rw [dec_int]
    refine iteFe (beq_eq_false_iff_ne.mpr (by rw [List.length_map]; omega)) ?_
    refine ⟨_, rfl, _, rfl, .ref a1, d, t1, rfl, s2 _ _ hd, d22, ok1, fun H3 s3 => ⟨_, rfl, iteF ?_⟩⟩
    have gd : DGet H3 d (.str t1.word) (some (.str t1.shape)) := by
      have := DGet.k (k := Sum.inr t1.word) (s3 _ _ (s2 _ _ hd))
      rw [sh_val] at this
      exact this
    refine ⟨_, rfl, _, rfl, a1, _, 0, _, rfl, rfl, s3.tup ha2, ati0, d, _, rfl, gd, t1.shape, rfl, Nat.le_trans (shape_four t1) (by decide), fun D H4 s4 hD => ?_⟩
    rw [plc_kids] at hD
    refine ⟨_, rfl, .inl ⟨rfl, ws', SqL.of (s4 _ _ (s3 _ _ hl2))⟩, _, rfl, D, _, rfl, hD, fun D2 n2 => ⟨D2, rfl, ⟨_, SqL.of upd_same⟩, fun L nL => ?_⟩⟩
    have s5 := (s3.trans s4).trans (Same.new (o := .lst (List.map V.int (List.map (fun k => (k.1 : Int)) t1.kids)).reverse) n2)
    have hD2 : (upd H4 D2 (.lst (List.map V.int (List.map (fun k => (k.1 : Int)) t1.kids)).reverse)) D2 = some (.lst (t1.kids.reverse.map fun k => V.int (k.1 : Int))) := by
      rw [upd_same, List.map_map, List.map_reverse]
      rfl
    have gone : ∀ {H' : Hp}, Same (upd H4 D2 (.lst (List.map V.int (List.map (fun k => (k.1 : Int)) t1.kids)).reverse)) H' → Same H2 H' := fun s => s5.trans s
    generalize upd H4 D2 (.lst (List.map V.int (List.map (fun k => (k.1 : Int)) t1.kids)).reverse) = H5 at *
    have few : t1.kids.length ≤ 20 := by
      have e1 : (kidsI p t1).length = t1.kids.length := by simp [kidsI]
      have := wsum_len (kidsI p t1)
      have := kidsI_sum p t1
      omega
    refine lc_it (walk_list (K := K) (a := D2) (xs := t1.kids.reverse.map fun k => V.int (k.1 : Int))) (fun i H' => ∃ us, H' L = some (.lst us) ∧ Same H5 H' ∧ DpAll K H' us (((kidsI p t1).take i).map itemD)) ⟨[], upd_same, Same.new nL, .nil⟩ (fun i H' _ ⟨_, _, s, _⟩ => s.seq (SqL.of hD2)) ?_ ?_
    · rintro i x H6 H7 hi ⟨us, h6, s6, c6⟩ ⟨rfl, hx⟩
      rw [List.getElem?_map] at hx
      obtain ⟨kd, hk, rfl⟩ := Option.map_eq_some_iff.mp hx
      have mem : kd ∈ t1.kids := List.mem_reverse.mp (List.mem_of_getElem? hk)
      have hk2 : (kidsI p t1)[i]? = some (p ++ [(kd.1 : Int)], kd.2) := by
        unfold kidsI
        rw [← List.map_reverse, List.getElem?_map, hk]
        rfl
      have s26 := gone s6
      have hx56 := DpAll.same s26 hx52
      obtain ⟨child, hc, dc⟩ := DpAll.at (K := K) (H := H7) (vs := .str t1.word :: x5) (ds := .str t1.word :: t1.rest) (.cons (.str _) hx56) (Tm.kids_at kd mem)
      have lu := c6.len
      rw [List.length_map, List.length_take] at lu
      have hlen : (kidsI p t1).length = t1.kids.length := by simp [kidsI]
      refine ⟨rfl, ?_⟩
      dsimp only [tYes]
      rw [if_pos rfl]
      refine ⟨_, rfl, q, _, rfl, .inl (s26.tup hq2), _, rfl, ?_⟩
      refine ⟨(by rw [List.length_append, List.length_map]; exact Nat.le_trans (show _ ≤ 100 by simp; omega) (by decide)), fun b nb => ⟨_, rfl, _, rfl, a1, _, (kd.1 : Int), child, rfl, rfl, (s26.trans (Same.new nb)).tup ha2, atI_nat hc, ?_⟩⟩
      refine ⟨(by show 2 ≤ sizeLine; decide), fun c nc => ?_⟩
      have k6 := Same.new (o := .tup (p.map V.int ++ [V.int (kd.1 : Int)])) nb
      have k7 := Same.new (o := .tup [V.ref b, child]) nc
      have k8 := k6.trans k7
      refine ⟨us, k8 _ _ h6, small1000 (by omega), us ++ [.ref c], upd_same, same_upd nL (s6.trans k8), ?_⟩
      rw [take_snoc hk2, List.map_append]
      refine DpAll.tk (tk_lst (k8 _ _ h6)) ?_ (DpAll.app (DpAll.same k8 c6) (.cons (.tup (SqT.of upd_same) (.cons (.tup (k7.tup (SqT.of upd_same)) ?_) (.cons (Dp.same k8 dc) .nil))) .nil))
      · rw [← List.map_append]
        exact flatItems _
      · have := DpAll.ints (K := K) (H := upd (upd H7 b (.tup (p.map V.int ++ [V.int (kd.1 : Int)]))) c (.tup [V.ref b, child])) (p ++ [(kd.1 : Int)])
        rw [List.map_append] at this
        exact this
    · rintro H6 ⟨us, h6, s6, c6⟩
      have hlen : (kidsI p t1).length = t1.kids.length := by simp [kidsI]
      rw [List.length_map, List.length_reverse, ← hlen, List.take_length] at c6
      have lu := c6.len
      rw [List.length_map, hlen] at lu
      have lw2 := hw2.len
      rw [List.length_map] at lw2
      have li := wsum_len its'
      have ks := kidsI_sum p t1
      have s26 := gone s6
      have hl6 := s26 _ _ hl2
      refine ⟨l1, L, ws', us, rfl, rfl, hl6, h6, Nat.le_trans (show _ ≤ 100 by omega) (by decide), wsum (its' ++ kidsI p t1), by rw [wsum_app]; omega, _, _, _, _, ws' ++ us, its' ++ kidsI p t1, done + 1, rfl, same_upd nl (s2.trans s26), upd_same, ?_, by rw [wsum_app]; omega, fun it hit => ?_, rfl⟩
      · rw [List.map_append]
        refine DpAll.tk (tk_lst hl6) ?_ (DpAll.app (DpAll.same s26 hw2) c6)
        rw [← List.map_append]
        exact flatItems _
      · rcases List.mem_append.mp hit with h | h
        · exact each it (List.mem_append.mpr (.inl h))
        · obtain ⟨kd, mem, rfl⟩ := List.mem_map.mp (List.mem_reverse.mp h)
          have := Tm.kids_height kd mem
          refine ⟨Tm.kids_ok ok1 kd mem, ?_⟩
          rw [List.length_append]
          show p.length + 1 + kd.2.height ≤ 8
          omega
end
end CS
set_option Elab.async false
set_option maxRecDepth 100000
set_option maxHeartbeats 8000000
set_option linter.unusedVariables false
set_option pp.maxSteps 6000
/-! terms needed, their kids -/
namespace CS
open PySem L2 RZ
theorem flatKids : ∀ l : List (Nat × Tm), flatDs (l.map fun k => k.2.toD) = true
  | [] => rfl
  | k :: l => by
    show (flatD k.2.toD && flatDs (l.map fun k => k.2.toD)) = true
    rw [k.2.flat, flatKids l]
    rfl
section
variable {P : Program} {w : World} {K : PySem.W.Frag} {mg : Str → Option Value} {base : Heap}
def spNeedTerm (K : PySem.W.Frag) : Sp := fun vs H Q _ => ∃ v t, vs = [v] ∧ Dp K H v (Tm.toD t) ∧ t.Ok ∧ t.words ≤ 20 ∧ t.height ≤ 8 ∧ ∀ H', Same H H' → Q v H'
abbrev nsNeedTerm : List Str := ["thing", "fault"]
theorem scNeedTerm : FnScope nsNeedTerm ["thing"] (defScope sNeedTerm) := ⟨rfl, rfl, rfl, by decide +kernel, rfl, by decide +kernel, by decide +kernel⟩
theorem ok_need_term {f : Addr} {fd : FuncData} (F : Df K mg "need_term" sNeedTerm ["thing"] f fd)
    {f1 : Addr} {fd1 : FuncData} (D1 : Df K mg "fault_in" sFaultIn ["whole", "shapes"] f1 fd1) (G1 : FnOk P w K mg base CX0 5 f1 fd1 ["whole", "shapes"] (spFault K))
    {aT : Addr} (gT : mg "TERM_SHAPES" = some (.ref aT)) (DT : KD P w K aT shKV) (T : Bt mg) : FnOk P w K mg base CX0 6 f fd ["thing"] (spNeedTerm K) := by
  refine F.F.ok scNeedTerm (fun vs H Q E h => ?_) (fun cdv A outer s H vs Q E hr h => ?_)
  · obtain ⟨v, t, rfl, _⟩ := h
    rfl
  · obtain ⟨v, t, rfl, hv, ok, w20, h8, k⟩ := h
    refine ⟨_, (pss_cons (ps_set (i := 1) scNeedTerm.nd rfl (Or.inl rfl) (pe_call G1 (hr.mono (by decide)) (by rfl) D1.g D1.F.kp D1.b .nil pass0 (pa_cons (pv 0) (pa_cons (pe_callTy (call_dictK DT) (by rfl) T.dict (by decide +kernel) (pa_cons (pe_glob (v := .ref aT) (by rfl) gT rfl) pa_nil)) pa_nil))))
      (pss_cons (ps_if (pt_cmpR op_notN (pv 1) pe_non (nomark _)) (pss_one ps_never) pss_nil)
      (pss_one (ps_ret (pv 0))))), ?_⟩
    refine ⟨_, rfl, rfl, fun d nd => ?_⟩
    have s1 := Same.new (o := .dK shKV) nd
    exact ⟨v, d, t, rfl, upd_same, Dp.same s1 hv, ok, w20, h8, fun H2 s2 => ⟨_, rfl, rfl, _, rfl, iteF ⟨_, rfl, k _ (s1.trans s2)⟩⟩⟩
def spKids (K : PySem.W.Frag) : Sp := fun vs H Q _ => ∃ v t, vs = [v] ∧ Dp K H v (Tm.toD t) ∧ t.Ok ∧ t.words ≤ 20 ∧ t.height ≤ 8 ∧ ∀ H' p xs, Same H H' → SqT K H' p xs → DpAll K H' xs (t.kids.map fun k => k.2.toD) → Q (.ref p) H'
abbrev nsKidsOf : List Str := ["term", "at"]
theorem scKidsOf : FnScope nsKidsOf ["term"] (defScope sKidsOf) := ⟨rfl, rfl, rfl, by decide +kernel, rfl, by decide +kernel, by decide +kernel⟩
theorem ok_kids_of {f : Addr} {fd : FuncData} (F : Df K mg "kids_of" sKidsOf ["term"] f fd)
    {f1 : Addr} {fd1 : FuncData} (D1 : Df K mg "kid_places" sKidPlaces ["shape"] f1 fd1) (G1 : FnOk P w K mg base CX0 1 f1 fd1 ["shape"] (spPlaces K))
    {f2 : Addr} {fd2 : FuncData} (D2 : Df K mg "need_term" sNeedTerm ["thing"] f2 fd2) (G2 : FnOk P w K mg base CX0 6 f2 fd2 ["thing"] (spNeedTerm K))
    {aT : Addr} (gT : mg "TERM_SHAPES" = some (.ref aT)) (DT : KD P w K aT shKV) (T : Bt mg) : FnOk P w K mg base CX0 7 f fd ["term"] (spKids K) := by
  refine F.F.ok scKidsOf (fun vs H Q E h => ?_) (fun cdv A outer s H vs Q E hr h => ?_)
  · obtain ⟨v, t, rfl, _⟩ := h
    rfl
  · obtain ⟨v, t, rfl, hv, ok, w20, h8, k⟩ := h
    refine ⟨_, (pss_cons (ps_expr (pe_call G2 (hr.mono (by decide)) (by rfl) D2.g D2.F.kp D2.b .nil pass0 (pa_cons (pv 0) pa_nil)))
      (pss_one (ps_ret (pe_callTy call_tuple_of (by rfl) T.tuple (by decide +kernel) (pa_cons (pe_lc (own := [("at", 1)]) (g := gName 1) (tt := tYes) rfl scKidsOf.nd (pi_list (pe_call G1 (hr.mono (by decide)) (by rfl) D1.g D1.F.kp D1.b .nil pass0 (pa_cons (pe_ix (ix_kd DT) (pe_glob (v := .ref aT) (by rfl) gT rfl) (pe_ix ix_tup (pv 0) pe_int (fun _ _ => rfl)) (fun _ _ => rfl)) pa_nil))) (blkOk_by (N := nsKidsOf) (sc := defScope sKidsOf) (by decide +kernel)) (fun _ _ _ _ _ => pg_name (i := 1) scKidsOf.nd rfl (Or.inl rfl)) (fun _ _ _ _ _ => pts_nil) (fun _ _ _ _ _ => (pe_ix (r := rIxT K) ix_tup (pv 0) (pv 1) (fun _ _ => rfl)))) pa_nil))))), ?_⟩
    refine ⟨_, rfl, v, t, rfl, hv, ok, w20, h8, fun H1 s1 => ?_⟩
    obtain ⟨a, xs, rfl, hs, hx⟩ := tm_at hv
    have hs1 := s1.tup hs
    have hx1 := DpAll.same s1 hx
    refine ⟨_, rfl, a, _, 0, _, rfl, rfl, hs1, ati0, .inr t.word, .str t.shape, rfl, rfl, sh_val t, t.shape, rfl, Nat.le_trans (shape_four t) (by decide), fun D H2 s2 hD => ?_⟩
    rw [plc_kids] at hD
    have hs2 := s2.tup hs1
    have hx2 := DpAll.same s2 hx1
    have few : t.kids.length ≤ 20 := by
      have e1 : (kidsI [] t).length = t.kids.length := by simp [kidsI]
      have := wsum_len (kidsI [] t)
      have := kidsI_sum [] t
      omega
    refine ⟨D, rfl, ⟨_, hD⟩, fun L nL => lc_it (walk_list (K := K) (a := D) (xs := (t.kids.map fun k => (k.1 : Int)).map V.int)) (fun i H' => ∃ us, H' L = some (.lst us) ∧ Same H2 H' ∧ DpAll K H' us ((t.kids.take i).map fun k => k.2.toD)) ⟨[], upd_same, Same.new nL, .nil⟩ (fun i H' _ ⟨_, _, s, _⟩ => s.seq hD) ?_ ?_⟩
    · rintro i x H6 H7 hi ⟨us, h6, s6, c6⟩ ⟨rfl, hx⟩
      rw [List.getElem?_map, List.getElem?_map] at hx
      obtain ⟨z, hz, rfl⟩ := Option.map_eq_some_iff.mp hx
      obtain ⟨kd, hk, rfl⟩ := Option.map_eq_some_iff.mp hz
      have mem : kd ∈ t.kids := List.mem_of_getElem? hk
      have hx56 := DpAll.same s6 hx2
      obtain ⟨child, hc, dc⟩ := DpAll.at (K := K) (H := H7) (vs := .str t.word :: xs) (ds := .str t.word :: t.rest) (.cons (.str _) hx56) (Tm.kids_at kd mem)
      have lu := c6.len
      rw [List.length_map, List.length_take] at lu
      refine ⟨rfl, ?_⟩
      dsimp only [tYes]
      rw [if_pos rfl]
      refine ⟨_, rfl, _, rfl, a, _, (kd.1 : Int), child, rfl, rfl, s6.tup hs2, atI_nat hc, us, h6, small1000 (by omega), us ++ [child], upd_same, same_upd nL s6, ?_⟩
      rw [take_snoc hk, List.map_append]
      refine DpAll.tk (tk_lst h6) ?_ (DpAll.app c6 (.cons dc .nil))
      rw [← List.map_append]
      exact flatKids _
    · rintro H6 ⟨us, h6, s6, c6⟩
      rw [List.length_map, List.length_map, List.take_length] at c6
      refine ⟨L, us, rfl, .inl ⟨SqL.of h6, fun p np => k _ _ us ((s1.trans s2).trans (s6.trans (Same.new np))) (SqT.of upd_same) (DpAll.same (Same.new np) c6)⟩⟩
end
end CS
set_option Elab.async false
set_option maxRecDepth 100000
set_option maxHeartbeats 8000000
set_option linter.unusedVariables false
set_option pp.maxSteps 400
/-! enumerate(t), t a tuple -/
namespace PySem
open Sem (wp)
open AutoSeq1 (wpAny_loadPart')
/-- the iterator of the tuple at t, as it starts -/
abbrev tupIt (t : Addr) : Obj := { cls := .type "tuple_iterator", data := .fields #[.ref t, .int 0 0] }
abbrev enumObj (it : Addr) : Obj := { cls := .type "enumerate", data := .fields #[.none, .bool false, .ref it, rawInt 0, .none, .none] }
theorem enumT_new (t : Addr) (its : Array Value) (n : Nat) (dc : Option Addr) (sl : Array (Option Value)) :
    Meets (Builtin.«enumerate.__new__» ⟨[.type "enumerate", .ref t], []⟩) (fun _ R s => s.heap.get? t = some { cls := .type "tuple", dict := dc, data := .seq its n, slots := sl } ∧
      R (.ok (.ret (.ref (s.heap.push (tupIt t)).objs.size))) { s with heap := (s.heap.push (tupIt t)).push (enumObj s.heap.objs.size) }) :=
  .of_wp fun prog w A R s both => by
    obtain ⟨heap, gens, drawn, toks, os⟩ := s
    obtain ⟨at_t, fin⟩ := both
    have sub := sub_enumerate
    have isT : Heap.IsTuple (Shared.heap ⟨heap, gens, drawn, toks, os⟩) t its := ⟨_, at_t, rfl, n, rfl⟩
    wp_walk using wpAny_loadPart' at_t
    refine wpAny_stack_any fun frames => wpAny_pure ?_
    split
    · rename_i cl _ _ _ _ _
      cases (cl == Value.type "enumerate") <;> (wp_walk using wpAny_loadPart' at_t, wpAny_pyIter_tuple isT; exact ⟨_, rfl, fin⟩)
    · wp_walk using wpAny_loadPart' at_t, wpAny_pyIter_tuple isT
      exact ⟨_, rfl, fin⟩
section
variable {prog : Program} {w : World} {A : Around} {E : Value → Shared → Prop} {s : Shared}
theorem call_enumT {t : Addr} {its : Array Value} {Q : Value → Shared → Prop} (isT : s.heap.IsTuple t its)
    (fin : ∀ h', IsEnum h' (s.heap.objs.size + 1) s.heap.objs.size 0 .none → h'.IsTupleIter s.heap.objs.size t 0 → (∀ b o, s.heap.get? b = some o → h'.get? b = some o) → Q (.ref (s.heap.objs.size + 1)) { s with heap := h' }) :
    wpAny (model prog w) A (call (.type "enumerate") [.ref t]) Q E s := by
  obtain ⟨⟨c, dc, dt, sl⟩, at_t, ec, n, ed⟩ := isT
  replace ec : c = .type "tuple" := ec
  replace ed : dt = .seq its n := ed
  subst ec ed
  have one : (s.heap.push (tupIt t)).objs.size = s.heap.objs.size + 1 := Heap.size_push ..
  have two : IsEnum ((s.heap.push (tupIt t)).push (enumObj s.heap.objs.size)) (s.heap.objs.size + 1) s.heap.objs.size 0 .none := by
    rw [← one]
    exact Heap.get?_push_size _ rfl
  refine callType_new F.called_enumerate (by decide) (F.typeCall_enumerate_1 _) (F.newCall_enumerate_1 _) (fun obj => F.args_object_init_2 obj _) F.entry_enumerate_new (enumT_new t its n dc sl) ⟨at_t, ?_⟩
  show _ ∧ _
  rw [one]
  exact ⟨⟨_, two, rfl⟩, fin _ two ⟨_, Heap.get?_push_of_some _ (Heap.get?_push_size _ rfl), rfl, rfl⟩ fun b o e => Heap.get?_push_of_some _ (Heap.get?_push_of_some _ e)⟩
end
end PySem
namespace CS
open PySem PySem.Spec PyProof.Rows L2
def IteT (K : PySem.W.Frag) (a : Addr) : It where
  go i H := ∃ (xs : List V) (x : V), SqT K H a xs ∧ xs[i]? = some x
  yld i H v H' := ∃ T x, v = .ref T ∧ H T = none ∧ H' = upd H T (.tup [.int (i : Nat), x]) ∧ ∀ xs, SqT K H a xs → xs[i]? = some x
  stop i H := ∃ xs : List V, SqT K H a xs ∧ xs.length ≤ i
/-- how the heap stands ahead of turn i -/
def EnAt (a e it : Addr) (i : Nat) (h : Heap) : Prop := (∃ old, IsEnum h e it ((i : Nat) : Int) old) ∧ h.IsTupleIter it a i ∧ e ≠ it
theorem EnAt.lt {a e it : Addr} {i : Nat} {h : Heap} (st : EnAt a e it i h) : e < h.objs.size ∧ it < h.objs.size := by
  obtain ⟨⟨_, he⟩, ⟨_, hi, _⟩, _⟩ := st
  exact ⟨Heap.lt_size he, Heap.lt_size hi⟩
theorem EnAt.keep {a e it : Addr} {i : Nat} {h h' : Heap} (st : EnAt a e it i h) (k : ∀ b ∈ [e, it], ∀ o, h.get? b = some o → h'.get? b = some o) : EnAt a e it i h' := by
  obtain ⟨⟨old, he⟩, hi, ne⟩ := st
  exact ⟨⟨old, k e (by simp) _ he⟩, hi.at fun o q => k it (by simp) o q, ne⟩
theorem enumT_turn {P : Program} {w : World} {K : PySem.W.Frag} {elts : List Expr} {kk : Nat} {tpos : PySem.Pos} (a e it : Addr) : Turn P w K (.Tuple elts kk tpos) (IteT K a) [e, it] e (EnAt a e it) where
  mem := List.mem_cons_self
  obj i h st b hb := by
    obtain ⟨⟨_, he⟩, ⟨o, hi, _, hd⟩, _⟩ := st
    rcases List.mem_cons.mp hb with rfl | hb
    · exact ⟨_, he, fun v q => nomatch q⟩
    · rw [List.mem_singleton.mp hb]
      exact ⟨o, hi, fun v q => by rw [hd] at q; cases q⟩
  keep i h h' st k := st.keep k
  item := by
    intro X e1 e2 e3 calm i pins s σ H E I fok st ⟨xs, x, hx, at_i⟩
    subst e1 e2 e3
    obtain ⟨its, rv, isT, _⟩ := I.tuple hx
    obtain ⟨u, hu, ru⟩ := rv.get at_i
    have lt := st.lt
    obtain ⟨⟨old, he⟩, hi, ne⟩ := st
    obtain ⟨ot, gt, ct, _⟩ := id isT
    have nt : a ≠ it := fun z => by
      obtain ⟨o, g, c, _⟩ := id hi
      rw [← z, gt] at g
      cases g
      rw [ct] at c
      exact absurd (Value.type.inj c) (by decide)
    have net : e ≠ a := fun z => by
      have ge : s.heap.get? e = some _ := he
      rw [z, gt] at ge
      cases ge
      exact absurd (Value.type.inj ct) (by decide)
    have ltn : i < its.toArray.size := by
      rw [List.size_toArray]
      exact (List.getElem?_eq_some_iff.mp hu).1
    refine wpAny_pyNext_enum_itemD (Draws.tuple (A := X.A.in1) (I.ok.hd calm) it a nt its.toArray) he ⟨hi, isT⟩ ltn ne (by simp [ne, net]) fun v h1 tk hv he1 hi1 hT1 sz k1 => ?_
    have ev : v = u := by
      rw [List.getElem?_toArray, hu] at hv
      exact (Option.some.inj hv).symm
    subst ev
    refine ⟨_, rfl, wpAny_letOwnedTupleGo_enum (s := { s with heap := h1, toks := tk + 1 }) he1 fun h2 he2 sb => ?_⟩
    have apart : s.heap.objs.size ≠ e := Nat.ne_of_gt lt.1
    have there : h2.get? s.heap.objs.size = some { cls := .type "tuple", data := .seq #[.int i tk, v] } := (sb.2 _ apart).trans hT1
    have kept : ∀ b ob, b ∉ [e, it] → s.heap.get? b = some ob → h2.get? b = some ob := fun b ob nb q => (sb.2 b fun z => nb (by simp [z])).trans (k1 b ob (fun z => nb (by simp [z])) (fun z => nb (by simp [z])) q)
    have I2 := I.turnedNew (t' := tk + 1) (ch := [e, it]) (T := s.heap.objs.size) (ob := .tup [.int (i : Nat), x]) kept fok (Nat.le_refl _) ⟨by show 2 ≤ sizeLine; decide, [.int i tk, v], .cons ⟨_, rfl⟩ (.cons ru .nil), ⟨_, there, rfl, _, rfl⟩⟩
    refine ⟨.ref s.heap.objs.size, _, I2, rfl, ⟨_, x, rfl, I.hok.fresh (Nat.le_refl _), rfl, fun ys hy => by rw [I.tuple_inj hy hx]; exact at_i⟩, ⟨⟨v, ?_⟩, hi1.1.at fun o q => (sb.2 it (Ne.symm ne)).trans q, ne⟩, fun b hb => ?_⟩
    · rw [show ((i + 1 : Nat) : Int) = (i : Int) + 1 by omega]
      exact he2
    · have lb : b < s.heap.objs.size := by
        rcases List.mem_cons.mp hb with rfl | hb
        · exact lt.1
        · rw [List.mem_singleton.mp hb]; exact lt.2
      rw [upd_ne (Nat.ne_of_lt lb)]
      exact (fok b hb).1
  done := by
    intro X e1 e2 e3 calm i pins s σ H E I fok st ⟨xs, hx, past⟩
    subst e1 e2 e3
    obtain ⟨its, rv, isT, _⟩ := I.tuple hx
    have lt := st.lt
    obtain ⟨⟨old, he⟩, hi, ne⟩ := st
    obtain ⟨ot, gt, ct, _⟩ := id isT
    have nt : a ≠ it := fun z => by
      obtain ⟨o, g, c, _⟩ := id hi
      rw [← z, gt] at g
      cases g
      rw [ct] at c
      exact absurd (Value.type.inj c) (by decide)
    have D := Draws.tuple (prog := X.prog) (w := X.w) (A := X.A.in1) (I.ok.hd calm) it a nt its.toArray
    have D2 : Draws X.prog X.w X.A.in1 it [it, a] i (fun j v => its.toArray[j]? = some v) (fun j h => j = i ∧ h.IsTupleIter it a i ∧ h.IsTuple a its.toArray) :=
      ⟨fun _ h z => D.live i h z.2, fun _ h h' z k => ⟨z.1, D.frame i h h' z.2 k⟩, fun j s Q E lj z hQ => absurd z.1 (Nat.ne_of_lt lj), fun s Q E z hE => wpAny_nextOf_tuple_end (I.ok.hd calm) z.2.1 z.2.2 (by have := rv.length; simp; omega) hE⟩
    obtain ⟨f0, f1, f2, f3, f4, f5⟩ := fok it (by simp)
    exact wpAny_pyNext_enum_endD D2 he ⟨rfl, hi, isT⟩ fun h1 eb => ⟨rfl, I.turned (t' := s.toks) (fun b o nb q => eb b o nb q) f0 f1 f3 f4 f5⟩
  self A i s Q E st h := by
    obtain ⟨⟨_, he⟩, _⟩ := st
    exact wpAny_pyIter_enum he h
def iEnT (K : PySem.W.Frag) (ta : TA) : TI := fun σ H R => ta σ H fun vs H1 => ∃ a xs, vs = [.ref a] ∧ SqT K H1 a xs ∧ R (IteT K a) H1
theorem pi_enumT {X : Cx} {e : Expr} {ta : TA} {p pos tpos : PySem.Pos} {elts : List Expr} {kk : Nat} (gl : Gl X "enumerate") (mn : X.mg "enumerate" = none) (ha : PA X [e] ta) (hs : starEach [e] X.env = [(false, eval e X.env)] := by rfl) : PI X (.Tuple elts kk tpos) (.Call (.Name "enumerate" p) [e] [] pos) (iEnT X.K ta) := by
  refine ⟨fun pins s σ H R I h => Call_ (ld_blt I gl mn boot_enumerate (PyProof.Rows.callWith_type1 (thn (ha.run pos pins s σ H _ I h) fun us s1 ⟨vs, G, I1, rv, a, xs, ev, hx, q⟩ => ?_) hs rfl))⟩
  subst ev
  obtain ⟨u, rfl, ru⟩ := vals1 rv
  obtain rfl : u = Value.ref a := ru
  obtain ⟨its, _, isT, _⟩ := I1.tuple hx
  refine call_enumT (its := its.toArray) isT fun h' he hi k => wpAny_pyIter_enum he ⟨_, [s1.heap.objs.size + 1, s1.heap.objs.size], _, _, G, rfl, I1.kept (t' := s1.toks) k, enumT_turn a _ _, ⟨⟨_, he⟩, hi, Nat.succ_ne_self _⟩, fun b hb => ?_, q⟩
  have young : s1.heap.objs.size ≤ b := by
    rcases List.mem_cons.mp hb with z | z
    · rw [z]
      exact Nat.le_add_right _ _
    · rw [List.mem_singleton.mp z]
      exact Nat.le_refl _
  exact I1.fpOk young (I1.hok.fresh young)
theorem walk_enT {K : PySem.W.Frag} {a : Addr} {xs : List V} : Walk (IteT K a) xs.length (fun H => SqT K H a xs) (YPair (fun i => some (.int (i : Nat))) (fun i => xs[i]?)) :=
  ⟨fun i H lt q => ⟨xs, xs[i], q, List.getElem?_eq_getElem lt⟩, fun H q => ⟨xs, q, Nat.le_refl _⟩, fun i H v H' _ q ⟨T, x, e1, e2, e3, e4⟩ => ⟨T, _, x, e1, e2, e3, rfl, e4 xs q⟩⟩
/-- a dict comprehension over what is walked -/
theorem dc_walk {J : It} {n : Nat} {G : Hp → Prop} {Y : Nat → Hp → V → Hp → Prop} (W : Walk J n G Y) {g : TG} {tt : TT} {tk tv : TE} {vs : List Nat} {σ : L2.St} {H1 : Hp} {D : Addr} {Z : Hp → Prop} (Pv : Nat → Hp → Prop) (first : Pv 0 (upd H1 D (.dK []))) (there : ∀ i H, i ≤ n → Pv i H → G H)
    (step : ∀ i x H H', i < n → Pv i H → Y i H x H' → g x (wipe σ vs) H' fun σ2 H2 => wipe σ2 vs = wipe σ vs ∧ tt σ2 H2 fun b H3 =>
      if b = true then tk σ2 H3 fun y H4 => tv σ2 H4 fun z H5 => ∃ kvs k, y = kV k ∧ H5 D = some (.dK kvs) ∧ kvs.length < sizeLine ∧ Pv (i + 1) (upd H5 D (.dK (putK kvs k z))) else Pv (i + 1) H3) (last : ∀ H, Pv n H → Z H) :
    ∃ W' : Nat → Nat → Hp → Prop, (∃ m, W' 0 m (upd H1 D (.dK []))) ∧ ∀ i m H, W' i m H → (J.stop i H ∧ Z H) ∨ (J.go i H ∧ ∃ N : Hp → Prop, (∀ H', N H' → ∃ m', m' < m ∧ W' (i + 1) m' H') ∧
      ∀ x H', J.yld i H x H' → g x (wipe σ vs) H' fun σ2 H2 => wipe σ2 vs = wipe σ vs ∧ tt σ2 H2 fun b H3 =>
        if b = true then tk σ2 H3 fun y H4 => tv σ2 H4 fun z H5 => ∃ kvs k, y = kV k ∧ H5 D = some (.dK kvs) ∧ kvs.length < sizeLine ∧ N (upd H5 D (.dK (putK kvs k z))) else N H3) := by
  refine ⟨fun i m H => i + m = n ∧ Pv i H, ⟨n, Nat.zero_add n, first⟩, fun i m H ⟨em, p⟩ => ?_⟩
  have gH := there i H (by omega) p
  cases m with
  | zero =>
    have ei : i = n := em
    exact .inl ⟨ei ▸ W.stops H gH, last H (ei ▸ p)⟩
  | succ m =>
    have lt : i < n := by omega
    exact .inr ⟨W.goes i H lt gH, Pv (i + 1), fun H' q => ⟨m, Nat.lt_succ_self m, by omega, q⟩, fun x H' y => step i x H H' lt p (W.yields i H x H' lt gH y)⟩
end CS
set_option Elab.async false
set_option maxRecDepth 100000
set_option maxHeartbeats 8000000
set_option linter.unusedVariables false
/-! the least and the greatest of a tuple of whole numbers -/
namespace CS
open PySem PySem.Spec PyProof.Rows L2
theorem reads_ints {h : Heap} : ∀ {ns : List Int} {us : List Value}, Vals (ns.map V.int) us → ReadsAll h us (ns.map PyData.int) []
  | [], _, .nil => .nil
  | n :: ns, _, .cons r rs => by
    obtain ⟨t, rfl⟩ := r
    exact ReadsAll.cons (as := []) (bs := []) (.int n t) (reads_ints rs)
theorem alike_ints (ns : List Int) : PySem.W.AlikeAll (ns.map PyData.int) := by
  refine ⟨fun x hx y hy => ?_, fun x hx => ?_⟩
  · obtain ⟨a, _, rfl⟩ := List.mem_map.mp hx
    obtain ⟨b, _, rfl⟩ := List.mem_map.mp hy
    rfl
  · obtain ⟨a, _, rfl⟩ := List.mem_map.mp hx
    exact fun z => by cases z
theorem depth_ints : ∀ ns : List Int, PyData.depthAll (ns.map PyData.int) ≤ 1
  | [] => by decide
  | n :: ns => by
    have := depth_ints ns
    show max (PyData.depth (.int n)) (PyData.depthAll (ns.map PyData.int)) ≤ 1
    exact Nat.max_le.mpr ⟨by show PyData.depth (.int n) ≤ 1; simp [PyData.depth], this⟩
section
variable {X : Cx}
def rMinI (K : PySem.W.Frag) : List V → Hp → VK → Prop := fun vs H Q => ∃ (a : Addr) (n : Int) (ns : List Int), vs = [.ref a] ∧ SqT K H a ((n :: ns).map V.int) ∧ Q (.int (ns.foldl min n)) H
def rMaxI (K : PySem.W.Frag) : List V → Hp → VK → Prop := fun vs H Q => ∃ (a : Addr) (n : Int) (ns : List Int), vs = [.ref a] ∧ SqT K H a ((n :: ns).map V.int) ∧ Q (.int (ns.foldl max n)) H
theorem call_minI (hc : X.calm = true) (hu : X.A.units + 64 < cLine) : CallR X (.builtin "min") (rMinI X.K) := by
  rintro pins s σ H vs us Q I r ⟨a, n, ns, rfl, ht, q⟩
  obtain ⟨its, rv, hT, _⟩ := I.tuple ht
  obtain rfl := Vals.ref1 r
  have d := depth_ints (n :: ns)
  refine PySem.W.min_tuple_data (x := .int n) (xs := ns.map .int) (I.ok.hd hc) hT (by simpa using reads_ints rv) (alike_ints (n :: ns)) (by have e : PyData.depthAll (.int n :: ns.map .int) ≤ 1 := d; omega) fun i v h' tk bs hi rd hk => ?_
  rw [PySem.W.minD_ints] at rd
  cases rd with
  | int j t => exact ⟨.int _, H, I.kept hk, ⟨t, rfl⟩, q⟩
theorem call_maxI (hc : X.calm = true) (hu : X.A.units + 64 < cLine) : CallR X (.builtin "max") (rMaxI X.K) := by
  rintro pins s σ H vs us Q I r ⟨a, n, ns, rfl, ht, q⟩
  obtain ⟨its, rv, hT, _⟩ := I.tuple ht
  obtain rfl := Vals.ref1 r
  have d := depth_ints (n :: ns)
  refine PySem.W.max_tuple_data (x := .int n) (xs := ns.map .int) (I.ok.hd hc) hT (by simpa using reads_ints rv) (alike_ints (n :: ns)) (by have e : PyData.depthAll (.int n :: ns.map .int) ≤ 1 := d; omega) fun i v h' tk bs hi rd hk => ?_
  rw [PySem.W.maxD_ints] at rd
  cases rd with
  | int j t => exact ⟨.int _, H, I.kept hk, ⟨t, rfl⟩, q⟩
end
end CS
set_option Elab.async false
set_option maxRecDepth 100000
set_option maxHeartbeats 8000000
set_option linter.unusedVariables false
set_option pp.maxSteps 6000
/-! what a term pays on a way -/
namespace CS
open PySem L2 RZ
/-- a leaf's own word -/
def Tm.leaf : Tm → Prop
  | .cash_ _ => True | .at_ _ => True | .above_ .. => True | .below_ .. => True | .lowest_ _ => True | .highest_ _ => True
  | _ => False
/-- the day that it names is there -/
def Tm.dayIn (n : Nat) (t : Tm) : Prop := t.badDay n = false
theorem ne_w {a b : Str} (h : a ≠ b) : decide (V.str a = V.str b) = false := decide_eq_false fun z => h (V.str.inj z)
theorem max_if (j : Int) : (if j > 0 then j else 0) = max 0 j := by
  rw [Int.max_def]
  split <;> split <;> omega
theorem min_if2 (i j : Int) : (if j < i then j else i) = min i j := by
  rw [Int.min_def]
  split <;> split <;> omega
theorem max_if2 (i j : Int) : (if j > i then j else i) = max i j := by
  rw [Int.max_def]
  split <;> split <;> omega
section
variable {P : Program} {w : World} {K : PySem.W.Frag} {mg : Str → Option Value} {base : Heap}
/-- a leaf of a term, on a way -/
def spLeaf (K : PySem.W.Frag) : Sp := fun vs H Q _ => ∃ v t p wy, vs = [v, .ref p] ∧ Dp K H v (Tm.toD t) ∧ t.leaf ∧ SqT K H p (wy.map V.int) ∧ wy.length ≤ 4 ∧ t.badDay wy.length = false ∧ ∀ H', Same H H' → Q (.int (t.pays wy)) H'
abbrev nsLeafPays : List Str := ["term", "way", "word", "number", "seen"]
theorem scLeafPays : FnScope nsLeafPays ["term", "way"] (defScope sLeafPays) := ⟨rfl, rfl, rfl, by decide +kernel, rfl, by decide +kernel, by decide +kernel⟩
theorem ok_leaf_pays {f : Addr} {fd : FuncData} (F : Df K mg "leaf_pays" sLeafPays ["term", "way"] f fd)
    (T : Bt mg) (mmin : mg "min" = none) (mmax : mg "max" = none) : FnOk P w K mg base CX0 1 f fd ["term", "way"] (spLeaf K) := by
  refine F.F.ok scLeafPays (fun vs H Q E h => ?_) (fun cdv A outer s H vs Q E hr h => ?_)
  · obtain ⟨v, t, p, wy, rfl, _⟩ := h
    rfl
  · obtain ⟨v, t, p, wy, rfl, hv, lf, hp, l4, bd, k⟩ := h
    refine ⟨_, (pss_cons (ps_set (i := 2) scLeafPays.nd rfl (Or.inl rfl) (pe_ix (r := rIxT K) ix_tup (pv 0) pe_int (fun _ _ => rfl)))
      (pss_cons (ps_if (pt_cmpR op_eq (pv 2) pe_str (nomark _)) (pss_one (ps_ret (pe_ix ix_tup (pv 0) pe_int (fun _ _ => rfl)))) pss_nil)
      (pss_cons (ps_set (i := 3) scLeafPays.nd rfl (Or.inl rfl) (pe_ix ix_tup (pv 1) (pe_ix ix_tup (pv 0) pe_int (fun _ _ => rfl)) (fun _ _ => rfl)))
      (pss_cons (ps_if (pt_cmpR op_eq (pv 2) pe_str (nomark _)) (pss_one (ps_ret (pv 3))) pss_nil)
      (pss_cons (ps_if (pt_cmpR op_eq (pv 2) pe_str (nomark _)) (pss_one (ps_ret (pe_callB (call_max2 rfl) (by rfl) mmax (by decide +kernel) (pa_cons pe_int (pa_cons (pe_op op_sub (pv 3) (pe_ix ix_tup (pv 0) pe_int (fun _ _ => rfl))) pa_nil))))) pss_nil)
      (pss_cons (ps_if (pt_cmpR op_eq (pv 2) pe_str (nomark _)) (pss_one (ps_ret (pe_callB (call_max2 rfl) (by rfl) mmax (by decide +kernel) (pa_cons pe_int (pa_cons (pe_op op_sub (pe_ix ix_tup (pv 0) pe_int (fun _ _ => rfl)) (pv 3)) pa_nil))))) pss_nil)
      (pss_cons (ps_set (i := 4) scLeafPays.nd rfl (Or.inl rfl) (pe_slice sl_any (pv 1) po_none (po_some (pe_op op_add (pe_ix ix_tup (pv 0) pe_int (fun _ _ => rfl)) pe_int))))
      (pss_one (ps_ret (pe_ifExp (pt_cmpR op_eq (pv 2) pe_str (nomark _)) (pe_callB (call_minI rfl hr.units) (by rfl) mmin (by decide +kernel) (pa_cons (pv 4) pa_nil)) (pe_callB (call_maxI rfl hr.units) (by rfl) mmax (by decide +kernel) (pa_cons (pv 4) pa_nil)))))))))))), ?_⟩
    obtain ⟨a, xs, rfl, hs, hx⟩ := tm_at hv
    have day : ∀ d : Nat, t.day = some d → (wy.map V.int)[d]? = some (.int (Tm.g0 wy d)) := fun d e => by
      have h : d < wy.length := by
        unfold Tm.badDay at bd
        rw [e] at bd
        have := of_decide_eq_false bd
        omega
      rw [List.getElem?_map, List.getElem?_eq_getElem h]
      show some (V.int _) = some (V.int _)
      unfold Tm.g0
      rw [List.getD_eq_getElem?_getD, List.getElem?_eq_getElem h]
      rfl
    have here : ∀ d : Nat, t.day = some d → ∃ z zs, wy = z :: zs := fun d e => by
      cases wy with
      | nil => exact nomatch day d e
      | cons z zs => exact ⟨z, zs, rfl⟩
    have same := k H (Same.refl H)
    refine ⟨_, rfl, a, _, 0, _, rfl, rfl, hs, ati0, ?_⟩
    cases t with
    | cash_ n =>
      obtain rfl := DpAll.of_ints (ns := [n]) hx
      exact ⟨_, rfl, rfl, _, rfl, iteTe (decide_eq_true rfl) ⟨_, rfl, a, _, 1, _, rfl, rfl, hs, atI_nat (j := 1) rfl, same⟩⟩
    | at_ d =>
      obtain rfl := DpAll.of_ints (ns := [(d : Int)]) hx
      exact ⟨_, rfl, rfl, _, rfl, iteFe (ne_w (a := "at") (b := "cash") (by decide +kernel)) ⟨_, rfl, _, rfl, a, _, 1, _, rfl, rfl, hs, atI_nat (j := 1) rfl, p, _, ((d : Nat) : Int), _, rfl, rfl, hp, atI_nat (day d rfl), _, rfl, rfl, _, rfl, iteTe (decide_eq_true rfl) ⟨_, rfl, same⟩⟩⟩
    | above_ d n =>
      obtain rfl := DpAll.of_ints (ns := [(d : Int), n]) hx
      refine ⟨_, rfl, rfl, _, rfl, iteFe (ne_w (a := "above") (b := "cash") (by decide +kernel)) ⟨_, rfl, _, rfl, a, _, 1, _, rfl, rfl, hs, atI_nat (j := 1) rfl, p, _, ((d : Nat) : Int), _, rfl, rfl, hp, atI_nat (day d rfl), _, rfl, rfl, _, rfl, iteFe (ne_w (a := "above") (b := "at") (by decide +kernel)) ⟨_, rfl, rfl, _, rfl, iteTe (decide_eq_true rfl) ⟨_, rfl, _, rfl, a, _, 2, _, rfl, rfl, hs, atI_nat (j := 2) rfl, _, _, rfl, rfl, 0, _, rfl, ?_⟩⟩⟩⟩
      rw [max_if]
      exact same
    | below_ d n =>
      obtain rfl := DpAll.of_ints (ns := [(d : Int), n]) hx
      refine ⟨_, rfl, rfl, _, rfl, iteFe (ne_w (a := "below") (b := "cash") (by decide +kernel)) ⟨_, rfl, _, rfl, a, _, 1, _, rfl, rfl, hs, atI_nat (j := 1) rfl, p, _, ((d : Nat) : Int), _, rfl, rfl, hp, atI_nat (day d rfl), _, rfl, rfl, _, rfl, iteFe (ne_w (a := "below") (b := "at") (by decide +kernel)) ⟨_, rfl, rfl, _, rfl, iteFe (ne_w (a := "below") (b := "above") (by decide +kernel)) ⟨_, rfl, rfl, _, rfl, iteTe (decide_eq_true rfl) ⟨_, rfl, a, _, 2, _, rfl, rfl, hs, atI_nat (j := 2) rfl, _, rfl, _, _, rfl, rfl, 0, _, rfl, ?_⟩⟩⟩⟩⟩
      rw [max_if]
      exact same
    | lowest_ d =>
      obtain rfl := DpAll.of_ints (ns := [(d : Int)]) hx
      refine ⟨_, rfl, rfl, _, rfl, iteFe (ne_w (a := "lowest") (b := "cash") (by decide +kernel)) ⟨_, rfl, _, rfl, a, _, 1, _, rfl, rfl, hs, atI_nat (j := 1) rfl, p, _, ((d : Nat) : Int), _, rfl, rfl, hp, atI_nat (day d rfl), _, rfl, rfl, _, rfl, iteFe (ne_w (a := "lowest") (b := "at") (by decide +kernel)) ⟨_, rfl, rfl, _, rfl, iteFe (ne_w (a := "lowest") (b := "above") (by decide +kernel)) ⟨_, rfl, rfl, _, rfl, iteFe (ne_w (a := "lowest") (b := "below") (by decide +kernel)) ⟨_, rfl, _, rfl, a, _, 1, _, rfl, rfl, hs, atI_nat (j := 1) rfl, _, _, rfl, rfl, _, rfl, p, _, rfl, hp, fun H1 b s1 hB => ?_⟩⟩⟩⟩⟩
      rw [show ((d : Nat) : Int) + 1 = ((d + 1 : Nat) : Int) from rfl, cutT_to, ← List.map_take] at hB
      obtain ⟨z, zs, rfl⟩ := here d rfl
      exact ⟨_, rfl, rfl, _, rfl, iteTe (decide_eq_true rfl) ⟨_, rfl, b, z, zs.take d, rfl, hB, k _ s1⟩⟩
    | highest_ d =>
      obtain rfl := DpAll.of_ints (ns := [(d : Int)]) hx
      refine ⟨_, rfl, rfl, _, rfl, iteFe (ne_w (a := "highest") (b := "cash") (by decide +kernel)) ⟨_, rfl, _, rfl, a, _, 1, _, rfl, rfl, hs, atI_nat (j := 1) rfl, p, _, ((d : Nat) : Int), _, rfl, rfl, hp, atI_nat (day d rfl), _, rfl, rfl, _, rfl, iteFe (ne_w (a := "highest") (b := "at") (by decide +kernel)) ⟨_, rfl, rfl, _, rfl, iteFe (ne_w (a := "highest") (b := "above") (by decide +kernel)) ⟨_, rfl, rfl, _, rfl, iteFe (ne_w (a := "highest") (b := "below") (by decide +kernel)) ⟨_, rfl, _, rfl, a, _, 1, _, rfl, rfl, hs, atI_nat (j := 1) rfl, _, _, rfl, rfl, _, rfl, p, _, rfl, hp, fun H1 b s1 hB => ?_⟩⟩⟩⟩⟩
      rw [show ((d : Nat) : Int) + 1 = ((d + 1 : Nat) : Int) from rfl, cutT_to, ← List.map_take] at hB
      obtain ⟨z, zs, rfl⟩ := here d rfl
      exact ⟨_, rfl, rfl, _, rfl, iteFe (ne_w (a := "highest") (b := "lowest") (by decide +kernel)) ⟨_, rfl, b, z, zs.take d, rfl, hB, k _ s1⟩⟩
    | _ => exact lf.elim
def spPays (K : PySem.W.Frag) : Sp := fun vs H Q _ => ∃ v t p wy q, vs = [v, .ref p, .ref q] ∧ Dp K H v (Tm.toD t) ∧ SqT K H p (wy.map V.int) ∧ wy.length ≤ 4 ∧ t.badDay wy.length = false ∧ SqL K H q ((t.kids.map fun k => k.2.pays wy).map V.int) ∧ (∀ k ∈ t.kids, -10000 ≤ k.2.pays wy ∧ k.2.pays wy ≤ 10000) ∧ ∀ H', Same H H' → Q (.int (t.pays wy)) H'
abbrev nsTermPays : List Str := ["term", "way", "paid", "word"]
theorem scTermPays : FnScope nsTermPays ["term", "way", "paid"] (defScope sTermPays) := ⟨rfl, rfl, rfl, by decide +kernel, rfl, by decide +kernel, by decide +kernel⟩
theorem ok_term_pays {f : Addr} {fd : FuncData} (F : Df K mg "term_pays" sTermPays ["term", "way", "paid"] f fd)
    {f1 : Addr} {fd1 : FuncData} (D1 : Df K mg "leaf_pays" sLeafPays ["term", "way"] f1 fd1) (G1 : FnOk P w K mg base CX0 1 f1 fd1 ["term", "way"] (spLeaf K))
    (T : Bt mg) (mmin : mg "min" = none) (mmax : mg "max" = none) : FnOk P w K mg base CX0 2 f fd ["term", "way", "paid"] (spPays K) := by
  refine F.F.ok scTermPays (fun vs H Q E h => ?_) (fun cdv A outer s H vs Q E hr h => ?_)
  · obtain ⟨v, t, p, wy, q, rfl, _⟩ := h
    rfl
  · obtain ⟨v, t, p, wy, q, rfl, hv, hp, l4, bd, hq, kb, k⟩ := h
    refine ⟨_, (pss_cons (ps_set (i := 3) scTermPays.nd rfl (Or.inl rfl) (pe_ix ix_tup (pv 0) pe_int (fun _ _ => rfl)))
      (pss_cons (ps_if (pt_cmpR op_eq (pv 3) pe_str (nomark _)) (pss_one (ps_ret (pe_op op_add (pe_ix ix_list (pv 2) pe_int (fun _ _ => rfl)) (pe_ix ix_list (pv 2) pe_int (fun _ _ => rfl))))) pss_nil)
      (pss_cons (ps_if (pt_cmpR op_eq (pv 3) pe_str (nomark _)) (pss_one (ps_ret (pe_un un_neg (pe_ix ix_list (pv 2) pe_int (fun _ _ => rfl))))) pss_nil)
      (pss_cons (ps_if (pt_cmpR op_eq (pv 3) pe_str (nomark _)) (pss_one (ps_ret (pe_op op_mul (pe_ix ix_list (pv 2) pe_int (fun _ _ => rfl)) (pe_ix ix_tup (pv 0) pe_int (fun _ _ => rfl))))) pss_nil)
      (pss_cons (ps_if (pt_cmpR op_eq (pv 3) pe_str (nomark _)) (pss_one (ps_ret (pe_callB (call_min2 rfl) (by rfl) mmin (by decide +kernel) (pa_cons (pe_ix ix_list (pv 2) pe_int (fun _ _ => rfl)) (pa_cons (pe_ix ix_list (pv 2) pe_int (fun _ _ => rfl)) pa_nil))))) pss_nil)
      (pss_cons (ps_if (pt_cmpR op_eq (pv 3) pe_str (nomark _)) (pss_one (ps_ret (pe_callB (call_max2 rfl) (by rfl) mmax (by decide +kernel) (pa_cons (pe_ix ix_list (pv 2) pe_int (fun _ _ => rfl)) (pa_cons (pe_ix ix_list (pv 2) pe_int (fun _ _ => rfl)) pa_nil))))) pss_nil)
      (pss_cons (ps_if (pt_cmpR op_eq (pv 3) pe_str (nomark _)) (pss_one (ps_ret (pe_ifExp (pt_cmpR op_gt (pe_ix ix_tup (pv 1) (pe_ix ix_tup (pv 0) pe_int (fun _ _ => rfl)) (fun _ _ => rfl)) (pe_ix ix_tup (pv 0) pe_int (fun _ _ => rfl)) (nomark _)) (pe_ix ix_list (pv 2) pe_int (fun _ _ => rfl)) (pe_ix ix_list (pv 2) pe_int (fun _ _ => rfl))))) pss_nil)
      (pss_one (ps_ret (pe_call G1 (hr.mono (by decide)) (by rfl) D1.g D1.F.kp D1.b .nil pass0 (pa_cons (pv 0) (pa_cons (pv 1) pa_nil)))))))))))), ?_⟩
    obtain ⟨a, xs, rfl, hs, hx⟩ := tm_at hv
    have same := k H (Same.refl H)
    have day : ∀ d : Nat, t.day = some d → (wy.map V.int)[d]? = some (.int (Tm.g0 wy d)) := fun d e => by
      have h : d < wy.length := by
        unfold Tm.badDay at bd
        rw [e] at bd
        have := of_decide_eq_false bd
        omega
      rw [List.getElem?_map, List.getElem?_eq_getElem h]
      show some (V.int _) = some (V.int _)
      unfold Tm.g0
      rw [List.getD_eq_getElem?_getD, List.getElem?_eq_getElem h]
      rfl
    cases t with
    | both_ s u =>
      refine ⟨_, rfl, a, _, 0, _, rfl, rfl, hs, ati0, _, rfl, rfl, _, rfl, iteTe (decide_eq_true rfl) ⟨_, rfl, q, _, 0, _, rfl, rfl, hq, atI_nat (j := 0) rfl, _, rfl, q, _, 1, _, rfl, rfl, hq, atI_nat (j := 1) rfl, _, _, rfl, rfl, same⟩⟩
    | short_ s =>
      refine ⟨_, rfl, a, _, 0, _, rfl, rfl, hs, ati0, _, rfl, rfl, _, rfl, iteFe (ne_w (a := "short") (b := "both") (by decide +kernel)) ⟨_, rfl, rfl, _, rfl, iteTe (decide_eq_true rfl) ⟨_, rfl, q, _, 0, _, rfl, rfl, hq, atI_nat (j := 0) rfl, _, rfl, same⟩⟩⟩
    | times_ s n =>
      obtain ⟨y, hn, dn⟩ := DpAll.at (i := 1) hx rfl
      cases dn
      have b0 := kb (1, s) (by simp [Tm.kids])
      dsimp only at b0
      refine ⟨_, rfl, a, _, 0, _, rfl, rfl, hs, ati0, _, rfl, rfl, _, rfl, iteFe (ne_w (a := "times") (b := "both") (by decide +kernel)) ⟨_, rfl, rfl, _, rfl, iteFe (ne_w (a := "times") (b := "short") (by decide +kernel)) ⟨_, rfl, rfl, _, rfl, iteTe (decide_eq_true rfl) ⟨_, rfl, q, _, 0, _, rfl, rfl, hq, atI_nat (j := 0) rfl, _, rfl, a, _, 2, _, rfl, rfl, hs, atI_nat (j := 2) (by simpa using hn), _, _, rfl, rfl, .inl ⟨(by show -(2 ^ 64) < s.pays wy; omega), (by show s.pays wy < 2 ^ 64; omega)⟩, same⟩⟩⟩⟩
    | lesser_ s u =>
      refine ⟨_, rfl, a, _, 0, _, rfl, rfl, hs, ati0, _, rfl, rfl, _, rfl, iteFe (ne_w (a := "lesser") (b := "both") (by decide +kernel)) ⟨_, rfl, rfl, _, rfl, iteFe (ne_w (a := "lesser") (b := "short") (by decide +kernel)) ⟨_, rfl, rfl, _, rfl, iteFe (ne_w (a := "lesser") (b := "times") (by decide +kernel)) ⟨_, rfl, rfl, _, rfl, iteTe (decide_eq_true rfl) ⟨_, rfl, q, _, 0, _, rfl, rfl, hq, atI_nat (j := 0) rfl, _, rfl, q, _, 1, _, rfl, rfl, hq, atI_nat (j := 1) rfl, _, _, rfl, ?_⟩⟩⟩⟩⟩
      rw [min_if2]
      exact same
    | greater_ s u =>
      refine ⟨_, rfl, a, _, 0, _, rfl, rfl, hs, ati0, _, rfl, rfl, _, rfl, iteFe (ne_w (a := "greater") (b := "both") (by decide +kernel)) ⟨_, rfl, rfl, _, rfl, iteFe (ne_w (a := "greater") (b := "short") (by decide +kernel)) ⟨_, rfl, rfl, _, rfl, iteFe (ne_w (a := "greater") (b := "times") (by decide +kernel)) ⟨_, rfl, rfl, _, rfl, iteFe (ne_w (a := "greater") (b := "lesser") (by decide +kernel)) ⟨_, rfl, rfl, _, rfl, iteTe (decide_eq_true rfl) ⟨_, rfl, q, _, 0, _, rfl, rfl, hq, atI_nat (j := 0) rfl, _, rfl, q, _, 1, _, rfl, rfl, hq, atI_nat (j := 1) rfl, _, _, rfl, ?_⟩⟩⟩⟩⟩⟩
      rw [max_if2]
      exact same
    | cond_ d n s u =>
      obtain ⟨y1, hd, dd⟩ := DpAll.at (i := 0) hx rfl
      obtain ⟨y2, hn, dn⟩ := DpAll.at (i := 1) hx rfl
      cases dd
      cases dn
      refine ⟨_, rfl, a, _, 0, _, rfl, rfl, hs, ati0, _, rfl, rfl, _, rfl, iteFe (ne_w (a := "if") (b := "both") (by decide +kernel)) ⟨_, rfl, rfl, _, rfl, iteFe (ne_w (a := "if") (b := "short") (by decide +kernel)) ⟨_, rfl, rfl, _, rfl, iteFe (ne_w (a := "if") (b := "times") (by decide +kernel)) ⟨_, rfl, rfl, _, rfl, iteFe (ne_w (a := "if") (b := "lesser") (by decide +kernel)) ⟨_, rfl, rfl, _, rfl, iteFe (ne_w (a := "if") (b := "greater") (by decide +kernel)) ⟨_, rfl, rfl, _, rfl, iteTe (decide_eq_true rfl) ⟨_, rfl, _, rfl, a, _, 1, _, rfl, rfl, hs, atI_nat (j := 1) (by simpa using hd), p, _, ((d : Nat) : Int), _, rfl, rfl, hp, atI_nat (day d rfl), _, rfl, a, _, 2, _, rfl, rfl, hs, atI_nat (j := 2) (by simpa using hn), _, _, rfl, rfl, _, rfl, ?_⟩⟩⟩⟩⟩⟩⟩
      have e : Tm.pays wy (.cond_ d n s u) = if Tm.g0 wy d > n then s.pays wy else u.pays wy := rfl
      rw [e] at same
      by_cases c : n < Tm.g0 wy d
      · rw [if_pos c] at same
        exact iteTe (decide_eq_true c) ⟨_, rfl, q, _, 0, _, rfl, rfl, hq, atI_nat (j := 0) rfl, same⟩
      · rw [if_neg c] at same
        exact iteFe (decide_eq_false c) ⟨_, rfl, q, _, 1, _, rfl, rfl, hq, atI_nat (j := 1) rfl, same⟩
    | cash_ n => exact ⟨_, rfl, a, _, 0, _, rfl, rfl, hs, ati0, _, rfl, rfl, _, rfl, iteFe (ne_w (a := "cash") (b := "both") (by decide +kernel)) ⟨_, rfl, rfl, _, rfl, iteFe (ne_w (a := "cash") (b := "short") (by decide +kernel)) ⟨_, rfl, rfl, _, rfl, iteFe (ne_w (a := "cash") (b := "times") (by decide +kernel)) ⟨_, rfl, rfl, _, rfl, iteFe (ne_w (a := "cash") (b := "lesser") (by decide +kernel)) ⟨_, rfl, rfl, _, rfl, iteFe (ne_w (a := "cash") (b := "greater") (by decide +kernel)) ⟨_, rfl, rfl, _, rfl, iteFe (ne_w (a := "cash") (b := "if") (by decide +kernel)) ⟨_, rfl, _, rfl, .ref a, _, p, wy, rfl, hv, trivial, hp, l4, bd, k⟩⟩⟩⟩⟩⟩⟩
    | at_ d => exact ⟨_, rfl, a, _, 0, _, rfl, rfl, hs, ati0, _, rfl, rfl, _, rfl, iteFe (ne_w (a := "at") (b := "both") (by decide +kernel)) ⟨_, rfl, rfl, _, rfl, iteFe (ne_w (a := "at") (b := "short") (by decide +kernel)) ⟨_, rfl, rfl, _, rfl, iteFe (ne_w (a := "at") (b := "times") (by decide +kernel)) ⟨_, rfl, rfl, _, rfl, iteFe (ne_w (a := "at") (b := "lesser") (by decide +kernel)) ⟨_, rfl, rfl, _, rfl, iteFe (ne_w (a := "at") (b := "greater") (by decide +kernel)) ⟨_, rfl, rfl, _, rfl, iteFe (ne_w (a := "at") (b := "if") (by decide +kernel)) ⟨_, rfl, _, rfl, .ref a, _, p, wy, rfl, hv, trivial, hp, l4, bd, k⟩⟩⟩⟩⟩⟩⟩
    | above_ d n => exact ⟨_, rfl, a, _, 0, _, rfl, rfl, hs, ati0, _, rfl, rfl, _, rfl, iteFe (ne_w (a := "above") (b := "both") (by decide +kernel)) ⟨_, rfl, rfl, _, rfl, iteFe (ne_w (a := "above") (b := "short") (by decide +kernel)) ⟨_, rfl, rfl, _, rfl, iteFe (ne_w (a := "above") (b := "times") (by decide +kernel)) ⟨_, rfl, rfl, _, rfl, iteFe (ne_w (a := "above") (b := "lesser") (by decide +kernel)) ⟨_, rfl, rfl, _, rfl, iteFe (ne_w (a := "above") (b := "greater") (by decide +kernel)) ⟨_, rfl, rfl, _, rfl, iteFe (ne_w (a := "above") (b := "if") (by decide +kernel)) ⟨_, rfl, _, rfl, .ref a, _, p, wy, rfl, hv, trivial, hp, l4, bd, k⟩⟩⟩⟩⟩⟩⟩
    | below_ d n => exact ⟨_, rfl, a, _, 0, _, rfl, rfl, hs, ati0, _, rfl, rfl, _, rfl, iteFe (ne_w (a := "below") (b := "both") (by decide +kernel)) ⟨_, rfl, rfl, _, rfl, iteFe (ne_w (a := "below") (b := "short") (by decide +kernel)) ⟨_, rfl, rfl, _, rfl, iteFe (ne_w (a := "below") (b := "times") (by decide +kernel)) ⟨_, rfl, rfl, _, rfl, iteFe (ne_w (a := "below") (b := "lesser") (by decide +kernel)) ⟨_, rfl, rfl, _, rfl, iteFe (ne_w (a := "below") (b := "greater") (by decide +kernel)) ⟨_, rfl, rfl, _, rfl, iteFe (ne_w (a := "below") (b := "if") (by decide +kernel)) ⟨_, rfl, _, rfl, .ref a, _, p, wy, rfl, hv, trivial, hp, l4, bd, k⟩⟩⟩⟩⟩⟩⟩
    | lowest_ d => exact ⟨_, rfl, a, _, 0, _, rfl, rfl, hs, ati0, _, rfl, rfl, _, rfl, iteFe (ne_w (a := "lowest") (b := "both") (by decide +kernel)) ⟨_, rfl, rfl, _, rfl, iteFe (ne_w (a := "lowest") (b := "short") (by decide +kernel)) ⟨_, rfl, rfl, _, rfl, iteFe (ne_w (a := "lowest") (b := "times") (by decide +kernel)) ⟨_, rfl, rfl, _, rfl, iteFe (ne_w (a := "lowest") (b := "lesser") (by decide +kernel)) ⟨_, rfl, rfl, _, rfl, iteFe (ne_w (a := "lowest") (b := "greater") (by decide +kernel)) ⟨_, rfl, rfl, _, rfl, iteFe (ne_w (a := "lowest") (b := "if") (by decide +kernel)) ⟨_, rfl, _, rfl, .ref a, _, p, wy, rfl, hv, trivial, hp, l4, bd, k⟩⟩⟩⟩⟩⟩⟩
    | highest_ d => exact ⟨_, rfl, a, _, 0, _, rfl, rfl, hs, ati0, _, rfl, rfl, _, rfl, iteFe (ne_w (a := "highest") (b := "both") (by decide +kernel)) ⟨_, rfl, rfl, _, rfl, iteFe (ne_w (a := "highest") (b := "short") (by decide +kernel)) ⟨_, rfl, rfl, _, rfl, iteFe (ne_w (a := "highest") (b := "times") (by decide +kernel)) ⟨_, rfl, rfl, _, rfl, iteFe (ne_w (a := "highest") (b := "lesser") (by decide +kernel)) ⟨_, rfl, rfl, _, rfl, iteFe (ne_w (a := "highest") (b := "greater") (by decide +kernel)) ⟨_, rfl, rfl, _, rfl, iteFe (ne_w (a := "highest") (b := "if") (by decide +kernel)) ⟨_, rfl, _, rfl, .ref a, _, p, wy, rfl, hv, trivial, hp, l4, bd, k⟩⟩⟩⟩⟩⟩⟩
end
end CS
set_option Elab.async false
set_option maxRecDepth 100000
set_option maxHeartbeats 8000000
set_option linter.unusedVariables false
set_option pp.maxSteps 6000
/-! claims -/
namespace CS
open PySem L2 RZ
/-- what a claim at a place comes to -/
def spClaimAt (K : PySem.W.Frag) (CB : Addr) (h : Nat) : Sp := fun vs H Q E => ∃ v ds u t p path, vs = [v, u, .ref p] ∧ Dp K H v (dysD ds) ∧ DysOk ds ∧ Dp K H u (Tm.toD t) ∧ t.Ok ∧ t.height ≤ h ∧ SqT K H p (path.map V.int) ∧ path.length + t.height ≤ 8 ∧
  ∀ H', Same H H' → (∀ f, t.fault ds.length (pathsL ds) path = some f → ∀ q d, SqT K H' q (f.map V.int) → H' d = none → E (.ref CB) (some d) (upd H' d (.xd [("path", .ref q)]))) ∧
    (t.fault ds.length (pathsL ds) path = none → ∀ c, SqT K H' c (((pathsL ds).map fun y => t.pays y).map V.int) → Q (.ref c) H')
theorem Tm.fault_bound {n : Nat} {ws : List (List Int)} {t : Tm} {p : List Int} (h : t.fault n ws p = none) : t.badDay n = false ∧ t.great ws = false := by
  rw [Tm.fault_kids] at h
  cases e : Tm.faults n ws p t.kids with
  | some f => rw [e] at h; cases h
  | none =>
    rw [e] at h
    dsimp only at h
    unfold Tm.own at h
    cases e1 : t.badDay n with
    | true => rw [e1, if_pos rfl] at h; cases h
    | false =>
      rw [e1, if_neg Bool.false_ne_true] at h
      cases e2 : t.great ws with
      | true => rw [e2, if_pos rfl] at h; cases h
      | false => exact ⟨rfl, rfl⟩
theorem Tm.not_great {ws : List (List Int)} {t : Tm} (h : t.great ws = false) : ∀ y ∈ ws, -10000 ≤ t.pays y ∧ t.pays y ≤ 10000 := fun y hy => by
  unfold Tm.great at h
  rw [List.any_eq_false] at h
  have := h y hy
  by_cases c : -10000 ≤ t.pays y ∧ t.pays y ≤ 10000
  · exact c
  · exact absurd (by rw [decide_eq_false c]; rfl) this
theorem claim_great (ds : Dys) (t : Tm) : claimOk ds ((pathsL ds).map fun y => t.pays y) = !t.great (pathsL ds) := by
  unfold claimOk Tm.great
  by_cases c : ∀ n ∈ (pathsL ds).map fun y => t.pays y, -10000 ≤ n ∧ n ≤ 10000
  · rw [decide_eq_true c]
    symm
    rw [Bool.not_eq_true', List.any_eq_false]
    intro y hy
    rw [decide_eq_true (c _ (List.mem_map.mpr ⟨y, hy, rfl⟩))]
    exact Bool.false_ne_true
  · rw [decide_eq_false c]
    symm
    rw [Bool.not_eq_false', List.any_eq_true]
    have : ∃ y ∈ pathsL ds, ¬ (-10000 ≤ t.pays y ∧ t.pays y ≤ 10000) := Classical.byContradiction fun z => c fun n hn => by
      obtain ⟨y, hy, rfl⟩ := List.mem_map.mp hn
      exact Classical.byContradiction fun q => z ⟨y, hy, q⟩
    obtain ⟨y, hy, q⟩ := this
    exact ⟨y, hy, by rw [decide_eq_false q]; rfl⟩
theorem day_in (t : Tm) : (!(Builtin.Str.occurrences t.shape "D" 0 t.shape.length 1).isEmpty) = t.day.isSome := by
  cases t <;> simp only [Tm.shape, Tm.day, Option.isSome] <;> decide +kernel
theorem day_first {t : Tm} {d : Nat} (h : t.day = some d) : t.rest[0]? = some (.int d) := by
  cases t <;> simp_all [Tm.day, Tm.rest]
theorem faults_drop {n : Nat} {ws : List (List Int)} {p : List Int} {l : List (Nat × Tm)} {i : Nat} {kd : Nat × Tm} (h : l[i]? = some kd) (e : kd.2.fault n ws (p ++ [(kd.1 : Int)]) = none) : Tm.faults n ws p (l.drop i) = Tm.faults n ws p (l.drop (i + 1)) := by
  obtain ⟨hi, e2⟩ := List.getElem?_eq_some_iff.mp h
  rw [List.drop_eq_getElem_cons hi, e2]
  show (match kd.2.fault n ws (p ++ [(kd.1 : Int)]) with
    | some f => some f
    | none => Tm.faults n ws p (l.drop (i + 1))) = _
  rw [e]
theorem faults_here {n : Nat} {ws : List (List Int)} {p f : List Int} {l : List (Nat × Tm)} {i : Nat} {kd : Nat × Tm} (h : l[i]? = some kd) (e : kd.2.fault n ws (p ++ [(kd.1 : Int)]) = some f) : Tm.faults n ws p (l.drop i) = some f := by
  obtain ⟨hi, e2⟩ := List.getElem?_eq_some_iff.mp h
  rw [List.drop_eq_getElem_cons hi, e2]
  unfold Tm.faults
  rw [e]
theorem and_road {c : Bool} {T R N : Prop} (h1 : c = true → N → T) (h : N) : if c = true then T else (if false = true then R else N) := by
  cases c with
  | true => exact iteT (h1 rfl h)
  | false => exact iteF (iteF h)
section
variable {P : Program} {w : World} {K : PySem.W.Frag} {mg : Str → Option Value} {base : Heap}
theorem scBtI : FnScope ["self", "path"] ["self", "path"] (defScope (inClass sBadTerm 0)) := ⟨rfl, rfl, rfl, by decide +kernel, rfl, by decide +kernel, by decide +kernel⟩
theorem bt_init {CB fI : Addr} {fd : FuncData} (Z : Xc K mg "BadTerm" "path" CB fI bmV "ValueError.__new__" (inClass sBadTerm 0) "BadTerm.__init__" fd) : FnOk P w K mg base CX0 1 fI fd ["self", "path"] (spPut CB "path") :=
  ok_put PySem.F.store_ValueError Z.T Z.F scBtI rfl rfl rfl (by decide +kernel) (by decide +kernel) (fun _ => rfl)
abbrev nsClaimAt : List Str := ["days", "term", "path", "shape", "kids", "at", "ways", "claim", "way", "kid"]
theorem scClaimAt : FnScope nsClaimAt ["days", "term", "path"] (defScope sClaimAt) := ⟨rfl, rfl, rfl, by decide +kernel, rfl, by decide +kernel, by decide +kernel⟩
theorem ok_claim_at {f : Addr} {fd : FuncData} (F : Df K mg "claim_at" sClaimAt ["days", "term", "path"] f fd)
    {f1 : Addr} {fd1 : FuncData} (D1 : Df K mg "is_claim" sIsClaim ["days", "thing"] f1 fd1) (G1 : FnOk P w K mg base CX0 4 f1 fd1 ["days", "thing"] (spIsClaim K))
    {f2 : Addr} {fd2 : FuncData} (D2 : Df K mg "all_paths" sAllPaths ["days"] f2 fd2) (G2 : FnOk P w K mg base CX0 1 f2 fd2 ["days"] (spPaths K))
    {f8 f7 : Addr} {fd8 fd7 : FuncData} (D8 : Df K mg "kid_places" sKidPlaces ["shape"] f8 fd8) (G8 : FnOk P w K mg base CX0 1 f8 fd8 ["shape"] (spPlaces K)) (D7 : Df K mg "term_pays" sTermPays ["term", "way", "paid"] f7 fd7) (G7 : FnOk P w K mg base CX0 2 f7 fd7 ["term", "way", "paid"] (spPays K)) {lv h : Nat} {aT : Addr} {tD : Tok} (gT : mg "TERM_SHAPES" = some (.ref aT)) (gD : mg "DAY" = some (.str "D" tD)) (DT : KD P w K aT shKV) (T : Bt mg) (menumerate : mg "enumerate" = none) {CB fI : Addr} {fdI : FuncData} (Z : Xc K mg "BadTerm" "path" CB fI bmV "ValueError.__new__" (inClass sBadTerm 0) "BadTerm.__init__" fdI) {f9 : Addr} {fd9 : FuncData} (D9 : Df K mg "claim_at" sClaimAt ["days", "term", "path"] f9 fd9) (G9 : FnOk P w K mg base (L2.CX P w) (lv + 6) f9 fd9 ["days", "term", "path"] (spClaimAt K CB h)) : FnOk P w K mg base (L2.CX P w) (lv+7) f fd ["days", "term", "path"] (spClaimAt K CB (h+1)) := by
  refine F.F.okX scClaimAt (fun vs H Q E h => ?_) (fun cdv A outer s H vs Q E hr h => ?_)
  · obtain ⟨v, ds, u, t, p, path, rfl, _⟩ := h
    rfl
  · obtain ⟨v, ds, u, t, p, path, rfl, hv, ok, hu1, tok, hh, hp, h8, k⟩ := h
    refine ⟨_, (pss_cons (ps_set (i := 3) scClaimAt.nd rfl (Or.inl rfl) (pe_ix (ix_kd DT) (pe_glob (v := .ref aT) (by rfl) gT rfl) (pe_ix ix_tup (pv 1) pe_int (fun _ _ => rfl)) (fun _ _ => rfl)))
      (pss_cons (ps_set (i := 4) scClaimAt.nd rfl (Or.inr rfl) (pe_lcE (E := E) (own := [("at", 5)]) (g := gName 5) (tt := tYes) (takes_of rfl rfl rfl rfl) rfl rfl rfl scClaimAt.nd (pi_list (pe_call G8 (hr.mono (by omega)) (by rfl) D8.g D8.F.kp D8.b .nil pass0 (pa_cons (pv 3) pa_nil))) (blkOk_by (N := nsClaimAt) (sc := defScope sClaimAt) (by decide +kernel)) (fun _ _ _ _ _ => pg_name (i := 5) scClaimAt.nd rfl (Or.inl rfl)) (fun _ _ _ _ _ => pts_nil) (fun _ _ _ _ _ => (pe_call G9 (hr.mono (by omega)) (by rfl) D9.g D9.F.kp D9.b .nil (passes_air fun _ _ _ h => h) (pa_cons (pv 0) (pa_cons (pe_ix (r := rIxT K) ix_tup (pv 1) (pv 5) (fun _ _ => rfl)) (pa_cons (show PE _ _ (tTup (StX.tStar K (tVar 2) (tCons (tVar 5) tNil))) from pe_tup (StX.pa_star (pv 2) (pa_cons (pv 5) pa_nil))) pa_nil)))))))
      (pss_cons (ps_if (PW.pt (pw_and (pt_cmpR op_in_str (pe_glob (v := .str "D") (by rfl) gD ⟨_, rfl⟩) (pv 3) (by rfl)) (pw_and1 (pt_cmpR op_ge (pe_ix ix_tup (pv 1) pe_int (fun _ _ => rfl)) (pe_callB call_len_seq (by rfl) T.len PySem.boot_len (pa_cons (pv 0) pa_nil)) (nomark _))))) (pss_one (ps_raise rfl (takes_of rfl rfl rfl rfl) (pmk_own1 PySem.F.excBase_ValueError Z.T (bt_init Z) Z.b (hr.mono (by omega)) (by rfl) (pa_cons (pv 2) pa_nil)))) pss_nil)
      (pss_cons (ps_set (i := 6) scClaimAt.nd rfl (Or.inl rfl) (pe_call G2 (hr.mono (by omega)) (by rfl) D2.g D2.F.kp D2.b .nil pass0 (pa_cons (pv 0) pa_nil)))
      (pss_cons (ps_set (i := 7) scClaimAt.nd rfl (Or.inl rfl) (pe_callTy call_tuple_of (by rfl) T.tuple (by decide +kernel) (pa_cons (pe_lc (own := [("at", 5), ("way", 8)]) (g := gTup K 2 (gCons (gName 5) (gCons (gName 8) gNil))) (tt := tYes) rfl scClaimAt.nd (pi_enum (by rfl) menumerate (pa_cons (pv 6) pa_nil)) (blkOk_by (N := nsClaimAt) (sc := defScope sClaimAt) (by decide +kernel)) (fun _ _ _ _ _ => pg_tup rfl (pgs_cons (pg_name (i := 5) scClaimAt.nd rfl (Or.inr rfl)) (pgs_cons (pg_name (i := 8) scClaimAt.nd rfl (Or.inl rfl)) pgs_nil))) (fun _ _ _ _ _ => pts_nil) (fun _ _ _ _ _ => (pe_call G7 (hr.mono (by omega)) (by rfl) D7.g D7.F.kp D7.b .nil pass0 (pa_cons (pv 1) (pa_cons (pv 8) (pa_cons (pe_lc (wi := iList K _) (own := [("kid", 9)]) (g := gName 9) (tt := tYes) rfl scClaimAt.nd (pi_list (pv 4)) (blkOk_by (by rfl)) (fun _ _ _ _ _ => pg_name (i := 9) scClaimAt.nd rfl (Or.inl rfl)) (fun _ _ _ _ _ => pts_nil) (fun _ _ _ _ _ => (pe_ix (r := rIxT K) ix_tup (pv 9) (pv 5) (fun _ _ => rfl)))) pa_nil)))))) pa_nil)))
      (pss_cons (ps_if (pt_not (pt_val (pe_call G1 (hr.mono (by omega)) (by rfl) D1.g D1.F.kp D1.b .nil pass0 (pa_cons (pv 0) (pa_cons (pv 7) pa_nil))))) (pss_one (ps_raise rfl (takes_of rfl rfl rfl rfl) (pmk_own1 PySem.F.excBase_ValueError Z.T (bt_init Z) Z.b (hr.mono (by omega)) (by rfl) (pa_cons (pv 2) pa_nil)))) pss_nil)
      (pss_one (ps_ret (pv 7))))))))), ?_⟩
    obtain ⟨a, xs, rfl, hs, hx⟩ := tm_at hu1
    have hkey := sh_val t
    have four := shape_four t
    have tp := t.height_pos
    refine ⟨_, rfl, a, _, 0, _, rfl, rfl, hs, ati0, .inr t.word, .str t.shape, rfl, rfl, hkey, ?_⟩
    refine ⟨_, rfl, t.shape, rfl, Nat.le_trans four (by decide), fun D H2 s2 hD => ?_⟩
    rw [plc_kids] at hD
    have few : t.kids.length ≤ 4 := by
      have := plc_le t.shape t.shape.cps.size
      rw [plc_kids, List.length_map] at this
      omega
    have hs2 := s2.tup hs
    have hx2 := DpAll.same s2 hx
    refine ⟨D, rfl, ⟨_, hD⟩, fun L nL => lc_it (walk_list (K := K) (a := D) (xs := (t.kids.map fun k => (k.1 : Int)).map V.int)) (fun i H' => ∃ us, H' L = some (.lst us) ∧ Same H2 H' ∧ RowsAt K H' us ((t.kids.take i).map fun kd => (pathsL ds).map fun y => kd.2.pays y) ∧ Tm.faults ds.length (pathsL ds) path t.kids = Tm.faults ds.length (pathsL ds) path (t.kids.drop i) ∧ ∀ kd ∈ t.kids.take i, kd.2.great (pathsL ds) = false) ⟨[], upd_same, Same.new nL, .nil, rfl, fun kd hk => nomatch hk⟩ (fun i H' _ ⟨_, _, s, _⟩ => s.seq hD) ?_ ?_⟩
    · rintro i x H6 H7 hi ⟨us, h6, s6, c6, e6, g6⟩ ⟨rfl, hx0⟩
      rw [List.getElem?_map, List.getElem?_map] at hx0
      obtain ⟨z, hz, rfl⟩ := Option.map_eq_some_iff.mp hx0
      obtain ⟨kd, hk, rfl⟩ := Option.map_eq_some_iff.mp hz
      have mem : kd ∈ t.kids := List.mem_of_getElem? hk
      have hx56 := DpAll.same s6 hx2
      obtain ⟨child, hc, dc⟩ := DpAll.at (K := K) (H := H7) (vs := .str t.word :: xs) (ds := .str t.word :: t.rest) (.cons (.str _) hx56) (Tm.kids_at kd mem)
      have lu := c6.len
      rw [List.length_map, List.length_take] at lu
      have kh := Tm.kids_height kd mem
      have s27 := s2.trans s6
      refine ⟨rfl, ?_⟩
      dsimp only [tYes]
      rw [if_pos rfl]
      refine ⟨_, rfl, _, rfl, _, rfl, a, _, (kd.1 : Int), child, rfl, rfl, s6.tup hs2, atI_nat hc, _, rfl, p, _, rfl, .inl (s27.tup hp), _, rfl, ?_⟩
      refine ⟨(by rw [List.length_append, List.length_map]; exact Nat.le_trans (show _ ≤ 100 by simp; omega) (by decide)), fun b nb => ?_⟩
      have k6 := Same.new (o := .tup (path.map V.int ++ [V.int (kd.1 : Int)])) nb
      refine ⟨v, ds, child, kd.2, b, path ++ [(kd.1 : Int)], rfl, Dp.same (s27.trans k6) hv, ok, Dp.same k6 dc, Tm.kids_ok tok kd mem, by omega, SqT.of (by rw [List.map_append]; exact upd_same), by rw [List.length_append]; show path.length + 1 + _ ≤ 8; omega, fun H8 s8 => ⟨fun f ef q d' hq hd' => ?_, fun ef c hcc => ?_⟩⟩
      · refine (k H8 (s27.trans (k6.trans s8))).1 f ?_ q d' hq hd'
        rw [Tm.fault_kids, e6, faults_here hk ef]
      · have k8 := k6.trans s8
        refine ⟨us, k8 _ _ h6, small1000 (by omega), us ++ [.ref c], upd_same, same_upd nL (s6.trans k8), ?_, by rw [e6, faults_drop hk ef], fun kd' hk' => ?_⟩
        · rw [take_snoc hk, List.map_append]
          exact RowsAt.tk ((c6.same k8).snoc (Same.refl H8) hcc) (tk_lst (k8 _ _ h6))
        · rw [take_snoc hk] at hk'
          rcases List.mem_append.mp hk' with h | h
          · exact g6 kd' h
          · rw [List.mem_singleton.mp h]
            exact (Tm.fault_bound ef).2
    rintro H3 ⟨us, h3, s3, c3, e3, g3⟩
    rw [List.length_map, List.length_map, List.take_length] at c3 g3
    rw [List.length_map, List.length_map, List.drop_length] at e3
    have s23 := s2.trans s3
    have own_ : t.fault ds.length (pathsL ds) path = Tm.own ds.length (pathsL ds) t path := by
      rw [Tm.fault_kids, e3]
      rfl
    refine ⟨_, rfl, _, _, rfl, rfl, _, rfl, ?_⟩
    rw [day_in]
    have hs3 := s23.tup hs
    have hv3 := Dp.same s23 hv
    have hp3 := s23.tup hp
    obtain ⟨av, xv, rfl, hav, hxv⟩ := dys_rows hv3
    have lxv := hxv.len
    have first : ∀ d : Nat, t.day = some d → xs[0]? = some (.int d) := fun d e => by
      obtain ⟨y, hy, dy⟩ := DpAll.at hx (day_first e)
      cases dy
      exact hy
    cases bad : t.badDay ds.length with
    | true =>
      cases hd : t.day with
      | none =>
        unfold Tm.badDay at bad
        rw [hd] at bad
        cases bad
      | some d =>
        have le : ds.length ≤ d := by
          unfold Tm.badDay at bad
          rw [hd] at bad
          exact of_decide_eq_true bad
        refine iteTe rfl ⟨_, rfl, a, _, 1, _, rfl, rfl, hs3, atI_nat (j := 1) (by simpa using first d hd), _, rfl, av, _, rfl, .inr hav, _, _, rfl, rfl, _, rfl, iteTe (decide_eq_true (by omega)) ⟨_, rfl, _, rfl, fun d' hd' => (k H3 s23).1 path ?_ p d' hp3 hd'⟩⟩
        rw [own_]
        unfold Tm.own
        rw [bad, if_pos rfl]
    | false =>
      refine and_road (fun hc nx => ?_) ?_
      · obtain ⟨d, hd⟩ := Option.isSome_iff_exists.mp hc
        have lt : d < ds.length := by
          unfold Tm.badDay at bad
          rw [hd] at bad
          have := of_decide_eq_false bad
          omega
        exact ⟨_, rfl, a, _, 1, _, rfl, rfl, hs3, atI_nat (j := 1) (by simpa using first d hd), _, rfl, av, _, rfl, .inr hav, _, _, rfl, rfl, _, rfl, iteFe (decide_eq_false (by omega)) nx⟩
      · refine ⟨_, rfl, .ref av, ds, rfl, hv3, ok, fun H4 pl ws s4 hl hw => ?_⟩
        have s24 := s23.trans s4
        have hL4 := s4 _ _ h3
        have c4 := c3.same s4
        have lc := c4.len
        rw [List.length_map] at lc
        have lws := hw.len
        have l32 : (pathsL ds).length ≤ 32 := by
          rw [paths_len]
          exact ok.few
        refine ⟨_, rfl, pl, ws, rfl, SqL.of hl, fun D2 nD2 => lc_it (walk_enum (K := K) (a := pl) (xs := ws)) (fun i H' => H' D2 = some (.lst ((((pathsL ds).take i).map fun y => t.pays y).map V.int)) ∧ Same H4 H') ⟨upd_same, Same.new nD2⟩ (fun i H' _ ⟨_, s⟩ => s.seq (SqL.of hl)) ?_ ?_⟩
        · rintro i x H5 H6 hi ⟨h5, s5⟩ ⟨tt, x1, y1, rfl, ht, rfl, hx1, hy1⟩
          obtain rfl : V.int _ = x1 := Option.some.inj hx1
          obtain ⟨q, y, rfl, hyp, hq⟩ := hw.get hy1
          have ly : y.length = ds.length := paths_row ds y (List.mem_of_getElem? hyp)
          have k5 := Same.new (o := .tup [V.int (i : Nat), V.ref q]) ht
          have s45 := s5.trans k5
          refine ⟨tt, _, rfl, SqT.of upd_same, rfl, _, _, rfl, _, _, rfl, rfl, rfl, ?_⟩
          dsimp only [tYes]
          rw [if_pos rfl]
          generalize upd H5 tt (.tup [V.int (i : Nat), V.ref q]) = H6 at *
          have hL6 := s45 _ _ hL4
          have c6 := c4.same s45
          refine ⟨_, rfl, _, rfl, _, rfl, L, rfl, ⟨_, SqL.of hL6⟩, fun D3 nD3 => lc_it (walk_list (K := K) (a := L) (xs := us)) (fun j H' => H' D3 = some (.lst (((t.kids.take j).map fun k => k.2.pays y).map V.int)) ∧ Same H6 H') ⟨upd_same, Same.new nD3⟩ (fun j H' _ ⟨_, s⟩ => s.seq (SqL.of hL6)) ?_ ?_⟩
          · rintro j x H7 H8 hj ⟨h7, s7⟩ ⟨rfl, hx7⟩
            obtain ⟨cq, row, rfl, hrow, hcq⟩ := c6.get hx7
            rw [List.getElem?_map] at hrow
            obtain ⟨kd, hk, rfl⟩ := Option.map_eq_some_iff.mp hrow
            refine ⟨rfl, ?_⟩
            dsimp only [tYes]
            rw [if_pos rfl]
            refine ⟨_, rfl, _, rfl, cq, _, ((i : Nat) : Int), .int (kd.2.pays y), rfl, rfl, s7.tup hcq, atI_nat (by rw [List.getElem?_map, List.getElem?_map, hyp]; rfl), _, h7, small1000 (by rw [List.length_map, List.length_map, List.length_take]; omega), ?_, same_upd nD3 s7⟩
            rw [upd_same, take_snoc hk, List.map_append, List.map_append]
            rfl
          · rintro H7 ⟨h7, s7⟩
            rw [show us.length = t.kids.length from lc, List.take_length] at h7
            have s47 := s45.trans s7
            refine ⟨.ref a, t, q, y, D3, rfl, Dp.same ((s23.trans s4).trans s47) hu1, (s47.tup hq), by have := ok.len.2; omega, by rw [ly]; exact bad, SqL.of h7, fun kd hk => Tm.not_great (g3 kd hk) y (List.mem_of_getElem? hyp), fun H8 s8 => ?_⟩
            have s48 := s47.trans s8
            refine ⟨_, s8 _ _ (s7 _ _ (k5 _ _ h5)), small1000 (by rw [List.length_map, List.length_map, List.length_take]; omega), ?_, same_upd nD2 s48⟩
            rw [upd_same, take_snoc hyp, List.map_append, List.map_append]
            rfl
        · rintro H5 ⟨h5, s5⟩
          rw [lws, List.take_length] at h5
          refine ⟨D2, _, rfl, .inl ⟨SqL.of h5, fun c nc => ?_⟩⟩
          have k6 := Same.new (o := .tup (((pathsL ds).map fun y => t.pays y).map V.int)) nc
          have s26 := s24.trans (s5.trans k6)
          have hc6 : SqT K (upd H5 c (.tup (((pathsL ds).map fun y => t.pays y).map V.int))) c (((pathsL ds).map fun y => t.pays y).map V.int) := SqT.of upd_same
          generalize upd H5 c (.tup (((pathsL ds).map fun y => t.pays y).map V.int)) = H6 at *
          refine ⟨_, rfl, _, rfl, .ref av, ds, c, _, rfl, Dp.same s26 hv, ok, hc6, by rw [List.length_map, paths_len]; rfl, fun H7 s7 => ⟨_, rfl, ?_⟩⟩
          rw [claim_great]
          have s27 := s26.trans s7
          cases gr : t.great (pathsL ds) with
          | true =>
            refine iteT ⟨_, rfl, _, rfl, fun d' hd' => (k H7 s27).1 path ?_ p d' (s27.tup hp) hd'⟩
            rw [own_]
            unfold Tm.own
            rw [bad, if_neg Bool.false_ne_true, gr, if_pos rfl]
          | false =>
            refine iteF ⟨_, rfl, (k H7 s27).2 ?_ c (s7.tup hc6)⟩
            rw [own_]
            unfold Tm.own
            rw [bad, if_neg Bool.false_ne_true, gr, if_neg Bool.false_ne_true]
end
end CS
set_option Elab.async false
set_option maxRecDepth 100000
set_option maxHeartbeats 8000000
set_option linter.unusedVariables false
set_option pp.maxSteps 6000
/-! claims of terms; the law's own paths, pays, places -/
namespace CS
open PySem L2 RZ
section
variable {P : Program} {w : World} {K : PySem.W.Frag} {mg : Str → Option Value} {base : Heap}
theorem ok_claim_all {f : Addr} {fd : FuncData} (F : Df K mg "claim_at" sClaimAt ["days", "term", "path"] f fd)
    {f1 : Addr} {fd1 : FuncData} (D1 : Df K mg "is_claim" sIsClaim ["days", "thing"] f1 fd1) (G1 : FnOk P w K mg base CX0 4 f1 fd1 ["days", "thing"] (spIsClaim K))
    {f3 : Addr} {fd3 : FuncData} (D3 : Df K mg "all_paths" sAllPaths ["days"] f3 fd3) (G3 : FnOk P w K mg base CX0 1 f3 fd3 ["days"] (spPaths K))
    {f8 f7 : Addr} {fd8 fd7 : FuncData} (D8 : Df K mg "kid_places" sKidPlaces ["shape"] f8 fd8) (G8 : FnOk P w K mg base CX0 1 f8 fd8 ["shape"] (spPlaces K)) (D7 : Df K mg "term_pays" sTermPays ["term", "way", "paid"] f7 fd7) (G7 : FnOk P w K mg base CX0 2 f7 fd7 ["term", "way", "paid"] (spPays K))
    {aT : Addr} {tD : Tok} (gT : mg "TERM_SHAPES" = some (.ref aT)) (gD : mg "DAY" = some (.str "D" tD)) (DT : KD P w K aT shKV) (T : Bt mg) (menumerate : mg "enumerate" = none) {CB fI : Addr} {fdI : FuncData} (Z : Xc K mg "BadTerm" "path" CB fI bmV "ValueError.__new__" (inClass sBadTerm 0) "BadTerm.__init__" fdI) :
    ∀ h : Nat, FnOk P w K mg base (L2.CX P w) (h + 6) f fd ["days", "term", "path"] (spClaimAt K CB h)
  | 0 => by
    refine F.F.okX scClaimAt (fun vs H Q E h => ?_) (fun cdv A outer s H vs Q E hr h => ?_)
    · obtain ⟨v, ds, u, t, p, path, rfl, _⟩ := h
      rfl
    · obtain ⟨v, ds, u, t, p, path, rfl, hv, ok, hu1, tok, hh, _⟩ := h
      have := t.height_pos
      omega
  | h + 1 => ok_claim_at F D1 G1 D3 G3 D8 G8 D7 G7 gT gD DT T menumerate Z F (lv := h) (ok_claim_all F D1 G1 D3 G3 D8 G8 D7 G7 gT gD DT T menumerate Z h)
def spClaimOf (K : PySem.W.Frag) (CB : Addr) : Sp := fun vs H Q E => ∃ v ds u t, vs = [v, u] ∧ Dp K H v (dysD ds) ∧ DysOk ds ∧ Dp K H u (Tm.toD t) ∧ t.Ok ∧ t.words ≤ 20 ∧ t.height ≤ 5 ∧
  ∀ H', Same H H' → (∀ f, t.fault ds.length (pathsL ds) [] = some f → ∀ q d, SqT K H' q (f.map V.int) → H' d = none → E (.ref CB) (some d) (upd H' d (.xd [("path", .ref q)]))) ∧
    (t.fault ds.length (pathsL ds) [] = none → ∀ c, SqT K H' c (((pathsL ds).map fun y => t.pays y).map V.int) → Q (.ref c) H')
variable {CB : Addr}
abbrev nsClaimOf : List Str := ["days", "term"]
theorem scClaimOf : FnScope nsClaimOf ["days", "term"] (defScope sClaimOf) := ⟨rfl, rfl, rfl, by decide +kernel, rfl, by decide +kernel, by decide +kernel⟩
theorem ok_claim_of {f : Addr} {fd : FuncData} (F : Df K mg "claim_of" sClaimOf ["days", "term"] f fd)
    {f1 : Addr} {fd1 : FuncData} (D1 : Df K mg "claim_at" sClaimAt ["days", "term", "path"] f1 fd1) (G1 : FnOk P w K mg base (L2.CX P w) 11 f1 fd1 ["days", "term", "path"] (spClaimAt K CB 5))
    {f2 : Addr} {fd2 : FuncData} (D2 : Df K mg "need_term" sNeedTerm ["thing"] f2 fd2) (G2 : FnOk P w K mg base CX0 6 f2 fd2 ["thing"] (spNeedTerm K))
    {f3 : Addr} {fd3 : FuncData} (D3 : Df K mg "need_days" sNeedDays ["thing"] f3 fd3) (G3 : FnOk P w K mg base CX0 6 f3 fd3 ["thing"] (spNeedDays K)) : FnOk P w K mg base (L2.CX P w) 12 f fd ["days", "term"] (spClaimOf K CB) := by
  refine F.F.okX scClaimOf (fun vs H Q E h => ?_) (fun cdv A outer s H vs Q E hr h => ?_)
  · obtain ⟨v, ds, u, t, rfl, _⟩ := h
    rfl
  · obtain ⟨v, ds, u, t, rfl, hv, ok, hu1, tok, w20, h5, k⟩ := h
    refine ⟨_, (pss_cons (ps_expr (pe_call G3 (hr.mono (by decide)) (by rfl) D3.g D3.F.kp D3.b .nil pass0 (pa_cons (pv 0) pa_nil)))
      (pss_one (ps_ret (pe_call G1 (hr.mono (by decide)) (by rfl) D1.g D1.F.kp D1.b .nil (passes_call (takes_of rfl rfl rfl rfl) (fun _ _ _ _ h => h)) (pa_cons (pv 0) (pa_cons (pe_call G2 (hr.mono (by decide)) (by rfl) D2.g D2.F.kp D2.b .nil pass0 (pa_cons (pv 1) pa_nil)) (pa_cons (pe_tup pa_nil) pa_nil))))))), ?_⟩
    refine ⟨_, rfl, v, ds, rfl, hv, ok, fun H1 s1 => ⟨_, rfl, _, rfl, u, t, rfl, Dp.same s1 hu1, tok, w20, by omega, fun H2 s2 => ⟨(by show 0 ≤ sizeLine; decide), fun e1 n1 => ?_⟩⟩⟩
    have s3 := (s1.trans s2).trans (Same.new (o := .tup []) n1)
    exact ⟨v, ds, u, t, e1, [], rfl, Dp.same s3 hv, ok, Dp.same s3 hu1, tok, h5, SqT.of upd_same, by show 0 + _ ≤ 8; omega, fun H3 s4 => k H3 (s3.trans s4)⟩
/-- where a term's kids stand -/
def spLPlaces (K : PySem.W.Frag) : Sp := fun vs H Q _ => ∃ u t, vs = [u] ∧ Dp K H u (Tm.toD t) ∧ ∀ H' p, Same H H' → SqT K H' p ((t.kids.map fun k => (k.1 : Int)).map V.int) → Q (.ref p) H'
abbrev nsLawPlaces : List Str := ["term"]
theorem scLawPlaces : FnScope nsLawPlaces ["term"] (defScope sLawPlaces) := ⟨rfl, rfl, rfl, by decide +kernel, rfl, by decide +kernel, by decide +kernel⟩
theorem ok_law_places {f : Addr} {fd : FuncData} (F : Df K mg "_law_places" sLawPlaces ["term"] f fd) : FnOk P w K mg base CX0 1 f fd ["term"] (spLPlaces K) := by
  refine F.F.ok scLawPlaces (fun vs H Q E h => ?_) (fun cdv A outer s H vs Q E hr h => ?_)
  · obtain ⟨u, t, rfl, _⟩ := h
    rfl
  · obtain ⟨u, t, rfl, hu1, k⟩ := h
    refine ⟨_, (pss_cons (ps_if (pt_cmpR op_eq (pe_ix ix_tup (pv 0) pe_int (fun _ _ => rfl)) pe_str (nomark _)) (pss_one (ps_ret (pe_tup (pa_cons pe_int (pa_cons pe_int pa_nil))))) pss_nil)
      (pss_cons (ps_if (pt_cmpR op_in_seq (pe_ix ix_tup (pv 0) pe_int (fun _ _ => rfl)) (pe_tup (pa_cons pe_str (pa_cons pe_str pa_nil))) (by rfl)) (pss_one (ps_ret (pe_tup (pa_cons pe_int pa_nil)))) pss_nil)
      (pss_one (ps_ret (pe_ifExp (pt_cmpR op_in_seq (pe_ix ix_tup (pv 0) pe_int (fun _ _ => rfl)) (pe_tup (pa_cons pe_str (pa_cons pe_str (pa_cons pe_str pa_nil)))) (by rfl)) (pe_tup (pa_cons pe_int (pa_cons pe_int pa_nil))) (pe_tup pa_nil)))))), ?_⟩
    obtain ⟨a, xs, rfl, hs, hx⟩ := tm_at hu1
    cases t with
    | cond_ d n s u =>
      exact ⟨_, rfl, a, _, 0, _, rfl, rfl, hs, ati0, rfl, _, rfl, iteTe (decide_eq_true rfl) ⟨(by show 2 ≤ sizeLine; decide), fun c nc => k _ c ((Same.refl H).trans (Same.new nc)) (SqT.of upd_same)⟩⟩
    | short_ s =>
      refine ⟨_, rfl, a, _, 0, _, rfl, rfl, hs, ati0, rfl, _, rfl, iteFe (ne_w (a := "short") (b := "if") (by decide +kernel)) ⟨_, rfl, a, _, 0, _, rfl, rfl, hs, ati0, (by show 2 ≤ sizeLine; decide), fun e1 n1 => ?_⟩⟩
      have s1 := Same.new (o := .tup [V.str "short", V.str "times"]) n1
      exact ⟨e1, _, rfl, .inr (SqT.of upd_same), rfl, rfl, _, rfl, iteTe (by rfl) ⟨(by show 1 ≤ sizeLine; decide), fun c nc => k _ c (s1.trans (Same.new nc)) (SqT.of upd_same)⟩⟩
    | times_ s n =>
      refine ⟨_, rfl, a, _, 0, _, rfl, rfl, hs, ati0, rfl, _, rfl, iteFe (ne_w (a := "times") (b := "if") (by decide +kernel)) ⟨_, rfl, a, _, 0, _, rfl, rfl, hs, ati0, (by show 2 ≤ sizeLine; decide), fun e1 n1 => ?_⟩⟩
      have s1 := Same.new (o := .tup [V.str "short", V.str "times"]) n1
      exact ⟨e1, _, rfl, .inr (SqT.of upd_same), rfl, rfl, _, rfl, iteTe (by rfl) ⟨(by show 1 ≤ sizeLine; decide), fun c nc => k _ c (s1.trans (Same.new nc)) (SqT.of upd_same)⟩⟩
    | both_ s u =>
      refine ⟨_, rfl, a, _, 0, _, rfl, rfl, hs, ati0, rfl, _, rfl, iteFe (ne_w (a := "both") (b := "if") (by decide +kernel)) ⟨_, rfl, a, _, 0, _, rfl, rfl, hs, ati0, (by show 2 ≤ sizeLine; decide), fun e1 n1 => ?_⟩⟩
      have s1 := Same.new (o := .tup [V.str "short", V.str "times"]) n1
      refine ⟨e1, _, rfl, .inr (SqT.of upd_same), rfl, rfl, _, rfl, iteFe (by rfl) ⟨_, rfl, a, _, 0, _, rfl, rfl, (s1.tup hs), ati0, (by show 3 ≤ sizeLine; decide), fun e2 n2 => ?_⟩⟩
      have s2 := s1.trans (Same.new (o := .tup [V.str "both", V.str "lesser", V.str "greater"]) n2)
      exact ⟨e2, _, rfl, .inr (SqT.of upd_same), rfl, rfl, _, rfl, iteTe (by rfl) ⟨(by show 2 ≤ sizeLine; decide), fun c nc => k _ c (s2.trans (Same.new nc)) (SqT.of upd_same)⟩⟩
    | lesser_ s u =>
      refine ⟨_, rfl, a, _, 0, _, rfl, rfl, hs, ati0, rfl, _, rfl, iteFe (ne_w (a := "lesser") (b := "if") (by decide +kernel)) ⟨_, rfl, a, _, 0, _, rfl, rfl, hs, ati0, (by show 2 ≤ sizeLine; decide), fun e1 n1 => ?_⟩⟩
      have s1 := Same.new (o := .tup [V.str "short", V.str "times"]) n1
      refine ⟨e1, _, rfl, .inr (SqT.of upd_same), rfl, rfl, _, rfl, iteFe (by rfl) ⟨_, rfl, a, _, 0, _, rfl, rfl, (s1.tup hs), ati0, (by show 3 ≤ sizeLine; decide), fun e2 n2 => ?_⟩⟩
      have s2 := s1.trans (Same.new (o := .tup [V.str "both", V.str "lesser", V.str "greater"]) n2)
      exact ⟨e2, _, rfl, .inr (SqT.of upd_same), rfl, rfl, _, rfl, iteTe (by rfl) ⟨(by show 2 ≤ sizeLine; decide), fun c nc => k _ c (s2.trans (Same.new nc)) (SqT.of upd_same)⟩⟩
    | greater_ s u =>
      refine ⟨_, rfl, a, _, 0, _, rfl, rfl, hs, ati0, rfl, _, rfl, iteFe (ne_w (a := "greater") (b := "if") (by decide +kernel)) ⟨_, rfl, a, _, 0, _, rfl, rfl, hs, ati0, (by show 2 ≤ sizeLine; decide), fun e1 n1 => ?_⟩⟩
      have s1 := Same.new (o := .tup [V.str "short", V.str "times"]) n1
      refine ⟨e1, _, rfl, .inr (SqT.of upd_same), rfl, rfl, _, rfl, iteFe (by rfl) ⟨_, rfl, a, _, 0, _, rfl, rfl, (s1.tup hs), ati0, (by show 3 ≤ sizeLine; decide), fun e2 n2 => ?_⟩⟩
      have s2 := s1.trans (Same.new (o := .tup [V.str "both", V.str "lesser", V.str "greater"]) n2)
      exact ⟨e2, _, rfl, .inr (SqT.of upd_same), rfl, rfl, _, rfl, iteTe (by rfl) ⟨(by show 2 ≤ sizeLine; decide), fun c nc => k _ c (s2.trans (Same.new nc)) (SqT.of upd_same)⟩⟩
    | cash_ n =>
      refine ⟨_, rfl, a, _, 0, _, rfl, rfl, hs, ati0, rfl, _, rfl, iteFe (ne_w (a := "cash") (b := "if") (by decide +kernel)) ⟨_, rfl, a, _, 0, _, rfl, rfl, hs, ati0, (by show 2 ≤ sizeLine; decide), fun e1 n1 => ?_⟩⟩
      have s1 := Same.new (o := .tup [V.str "short", V.str "times"]) n1
      refine ⟨e1, _, rfl, .inr (SqT.of upd_same), rfl, rfl, _, rfl, iteFe (by rfl) ⟨_, rfl, a, _, 0, _, rfl, rfl, (s1.tup hs), ati0, (by show 3 ≤ sizeLine; decide), fun e2 n2 => ?_⟩⟩
      have s2 := s1.trans (Same.new (o := .tup [V.str "both", V.str "lesser", V.str "greater"]) n2)
      exact ⟨e2, _, rfl, .inr (SqT.of upd_same), rfl, rfl, _, rfl, iteFe (by rfl) ⟨(by show 0 ≤ sizeLine; decide), fun c nc => k _ c (s2.trans (Same.new nc)) (SqT.of upd_same)⟩⟩
    | at_ d =>
      refine ⟨_, rfl, a, _, 0, _, rfl, rfl, hs, ati0, rfl, _, rfl, iteFe (ne_w (a := "at") (b := "if") (by decide +kernel)) ⟨_, rfl, a, _, 0, _, rfl, rfl, hs, ati0, (by show 2 ≤ sizeLine; decide), fun e1 n1 => ?_⟩⟩
      have s1 := Same.new (o := .tup [V.str "short", V.str "times"]) n1
      refine ⟨e1, _, rfl, .inr (SqT.of upd_same), rfl, rfl, _, rfl, iteFe (by rfl) ⟨_, rfl, a, _, 0, _, rfl, rfl, (s1.tup hs), ati0, (by show 3 ≤ sizeLine; decide), fun e2 n2 => ?_⟩⟩
      have s2 := s1.trans (Same.new (o := .tup [V.str "both", V.str "lesser", V.str "greater"]) n2)
      exact ⟨e2, _, rfl, .inr (SqT.of upd_same), rfl, rfl, _, rfl, iteFe (by rfl) ⟨(by show 0 ≤ sizeLine; decide), fun c nc => k _ c (s2.trans (Same.new nc)) (SqT.of upd_same)⟩⟩
    | above_ d n =>
      refine ⟨_, rfl, a, _, 0, _, rfl, rfl, hs, ati0, rfl, _, rfl, iteFe (ne_w (a := "above") (b := "if") (by decide +kernel)) ⟨_, rfl, a, _, 0, _, rfl, rfl, hs, ati0, (by show 2 ≤ sizeLine; decide), fun e1 n1 => ?_⟩⟩
      have s1 := Same.new (o := .tup [V.str "short", V.str "times"]) n1
      refine ⟨e1, _, rfl, .inr (SqT.of upd_same), rfl, rfl, _, rfl, iteFe (by rfl) ⟨_, rfl, a, _, 0, _, rfl, rfl, (s1.tup hs), ati0, (by show 3 ≤ sizeLine; decide), fun e2 n2 => ?_⟩⟩
      have s2 := s1.trans (Same.new (o := .tup [V.str "both", V.str "lesser", V.str "greater"]) n2)
      exact ⟨e2, _, rfl, .inr (SqT.of upd_same), rfl, rfl, _, rfl, iteFe (by rfl) ⟨(by show 0 ≤ sizeLine; decide), fun c nc => k _ c (s2.trans (Same.new nc)) (SqT.of upd_same)⟩⟩
    | below_ d n =>
      refine ⟨_, rfl, a, _, 0, _, rfl, rfl, hs, ati0, rfl, _, rfl, iteFe (ne_w (a := "below") (b := "if") (by decide +kernel)) ⟨_, rfl, a, _, 0, _, rfl, rfl, hs, ati0, (by show 2 ≤ sizeLine; decide), fun e1 n1 => ?_⟩⟩
      have s1 := Same.new (o := .tup [V.str "short", V.str "times"]) n1
      refine ⟨e1, _, rfl, .inr (SqT.of upd_same), rfl, rfl, _, rfl, iteFe (by rfl) ⟨_, rfl, a, _, 0, _, rfl, rfl, (s1.tup hs), ati0, (by show 3 ≤ sizeLine; decide), fun e2 n2 => ?_⟩⟩
      have s2 := s1.trans (Same.new (o := .tup [V.str "both", V.str "lesser", V.str "greater"]) n2)
      exact ⟨e2, _, rfl, .inr (SqT.of upd_same), rfl, rfl, _, rfl, iteFe (by rfl) ⟨(by show 0 ≤ sizeLine; decide), fun c nc => k _ c (s2.trans (Same.new nc)) (SqT.of upd_same)⟩⟩
    | lowest_ d =>
      refine ⟨_, rfl, a, _, 0, _, rfl, rfl, hs, ati0, rfl, _, rfl, iteFe (ne_w (a := "lowest") (b := "if") (by decide +kernel)) ⟨_, rfl, a, _, 0, _, rfl, rfl, hs, ati0, (by show 2 ≤ sizeLine; decide), fun e1 n1 => ?_⟩⟩
      have s1 := Same.new (o := .tup [V.str "short", V.str "times"]) n1
      refine ⟨e1, _, rfl, .inr (SqT.of upd_same), rfl, rfl, _, rfl, iteFe (by rfl) ⟨_, rfl, a, _, 0, _, rfl, rfl, (s1.tup hs), ati0, (by show 3 ≤ sizeLine; decide), fun e2 n2 => ?_⟩⟩
      have s2 := s1.trans (Same.new (o := .tup [V.str "both", V.str "lesser", V.str "greater"]) n2)
      exact ⟨e2, _, rfl, .inr (SqT.of upd_same), rfl, rfl, _, rfl, iteFe (by rfl) ⟨(by show 0 ≤ sizeLine; decide), fun c nc => k _ c (s2.trans (Same.new nc)) (SqT.of upd_same)⟩⟩
    | highest_ d =>
      refine ⟨_, rfl, a, _, 0, _, rfl, rfl, hs, ati0, rfl, _, rfl, iteFe (ne_w (a := "highest") (b := "if") (by decide +kernel)) ⟨_, rfl, a, _, 0, _, rfl, rfl, hs, ati0, (by show 2 ≤ sizeLine; decide), fun e1 n1 => ?_⟩⟩
      have s1 := Same.new (o := .tup [V.str "short", V.str "times"]) n1
      refine ⟨e1, _, rfl, .inr (SqT.of upd_same), rfl, rfl, _, rfl, iteFe (by rfl) ⟨_, rfl, a, _, 0, _, rfl, rfl, (s1.tup hs), ati0, (by show 3 ≤ sizeLine; decide), fun e2 n2 => ?_⟩⟩
      have s2 := s1.trans (Same.new (o := .tup [V.str "both", V.str "lesser", V.str "greater"]) n2)
      exact ⟨e2, _, rfl, .inr (SqT.of upd_same), rfl, rfl, _, rfl, iteFe (by rfl) ⟨(by show 0 ≤ sizeLine; decide), fun c nc => k _ c (s2.trans (Same.new nc)) (SqT.of upd_same)⟩⟩
def spLPaths (K : PySem.W.Frag) : Sp := fun vs H Q _ => ∃ v ds, vs = [v] ∧ Dp K H v (dysD ds) ∧ DysOk ds ∧ ∀ H' p ws, Same H H' → SqL K H' p ws → RowsAt K H' ws (pathsL ds) → Q (.ref p) H'
abbrev nsLawPaths : List Str := ["days_so", "rows", "day_so", "longer", "row", "mark"]
theorem scLawPaths : FnScope nsLawPaths ["days_so"] (defScope sLawPaths) := ⟨rfl, rfl, rfl, by decide +kernel, rfl, by decide +kernel, by decide +kernel⟩
theorem ok_law_paths {f : Addr} {fd : FuncData} (F : Df K mg "_law_paths" sLawPaths ["days_so"] f fd)
    (T : Bt mg) : FnOk P w K mg base CX0 1 f fd ["days_so"] (spLPaths K) := by
  refine F.F.ok scLawPaths (fun vs H Q E h => ?_) (fun cdv A outer s H vs Q E hr h => ?_)
  · obtain ⟨v, ds, rfl, _⟩ := h
    rfl
  · obtain ⟨v, ds, rfl, hv, ok, k⟩ := h
    refine ⟨_, (pss_cons (ps_set (i := 1) scLawPaths.nd rfl (Or.inl rfl) (pe_lst (pa_cons (pe_tup pa_nil) pa_nil)))
      (pss_cons (ps_for PassesOwn.never rfl (pi_tup (pv 0)) (pg_name (i := 2) scLawPaths.nd rfl (Or.inl rfl)) (pss_cons (ps_set (i := 3) scLawPaths.nd rfl (Or.inl rfl) (pe_lst pa_nil))
      (pss_cons (ps_for PassesOwn.never rfl (pi_list (pv 1)) (pg_name (i := 4) scLawPaths.nd rfl (Or.inr rfl)) (pss_one (ps_expr (pe_bm PySem.F.plainAttrs_list PySem.F.slot_list_extend PySem.F.type_list_extend mt_extend (pv 3) (pa_cons (pe_lc (own := [("mark", 5)]) (g := gName 5) (tt := tYes) rfl scLawPaths.nd (pi_tup (pv 2)) (blkOk_by (N := nsLawPaths) (sc := defScope sLawPaths) (by decide +kernel)) (fun _ _ _ _ _ => pg_name (i := 5) scLawPaths.nd rfl (Or.inl rfl)) (fun _ _ _ _ _ => pts_nil) (fun _ _ _ _ _ => (pe_op (r := rCatA K) op_catA (pv 4) (pe_tup (pa_cons (pv 5) pa_nil))))) pa_nil)))))
      (pss_one (ps_set (i := 1) scLawPaths.nd rfl (Or.inl rfl) (pe_callTy call_list_of (by rfl) T.list (by decide +kernel) (pa_cons (pv 3) pa_nil)))))))
      (pss_one (ps_ret (pv 1))))), ?_⟩
    obtain ⟨a, xs, rfl, hs, ha⟩ := dys_rows hv
    have lx := ha.len
    refine ⟨(by show 0 ≤ sizeLine; decide), fun e1 n1 => ⟨(by show 1 ≤ sizeLine; decide), fun l1 m1 => ?_⟩⟩
    have g1 := Same.new (o := .tup []) n1
    have g2 := Same.new (o := .lst [V.ref e1]) m1
    have r0 : RowsAt K (upd (upd H e1 (.tup [])) l1 (.lst [V.ref e1])) [V.ref e1] [[]] := .cons (.tup (g2.tup (SqT.of upd_same)) .nil) .nil
    have h0 : (upd (upd H e1 (.tup [])) l1 (.lst [V.ref e1])) l1 = some (.lst [V.ref e1]) := upd_same
    have s0 := g1.trans g2
    generalize upd (upd H e1 (.tup [])) l1 (.lst [V.ref e1]) = H0 at *
    have hs0 := s0.tup hs
    have ha0 := ha.same s0
    have l8 : ∀ r ∈ ds, r.length ≤ 8 := fun r hr => (ok.rows r hr).2.1
    have l4 := ok.len.2
    refine ⟨_, rfl, a, rfl, ⟨_, hs0⟩, for_tup (K := K) (a := a) (xs := xs) (fun i σ H' => ∃ v2 v3 v4 l ws, σ = [some (.ref a), some (.ref l), v2, v3, v4, none] ∧ Same H0 H' ∧ H' l = some (.lst ws) ∧ RowsAt K H' ws (pathsL (ds.take i)) ∧ (pathsL (ds.take i)).length ≤ 8 ^ i) ⟨none, none, none, l1, _, rfl, Same.refl _, h0, r0, Nat.le_refl _⟩ (fun i σ H' _ ⟨_, _, _, _, _, _, s1, _⟩ => s1.tup hs0) ?_ ?_⟩
    · rintro i v σ H1 hi ⟨v2, v3, v4, l, ws, rfl, s1, hl, hw, lw⟩
      obtain ⟨q, r, rfl, hr, hq⟩ := (ha0.same s1).get hi
      have r8 := l8 r (List.mem_of_getElem? hr)
      have i4 : i < 4 := by
        have := (List.getElem?_eq_some_iff.mp hr).1
        omega
      have p8 : 8 ^ i ≤ 512 := Nat.pow_le_pow_right (n := 8) (by decide) (show i ≤ 3 by omega)
      have et : pathsL (ds.take (i + 1)) = stepP (pathsL (ds.take i)) r := by
        unfold pathsL
        rw [take_snoc hr, List.foldl_append]
        rfl
      have lws := hw.len
      refine ⟨(by show 0 ≤ sizeLine; decide), fun L nL => ?_⟩
      have sL := Same.new (o := .lst []) nL
      refine ⟨_, rfl, l, rfl, ⟨_, SqL.of (sL _ _ hl)⟩, for_list (K := K) (a := l) (xs := ws) (fun j σ H' => ∃ v4 us, σ = [some (.ref a), some (.ref l), some (.ref q), some (.ref L), v4, none] ∧ Same H1 H' ∧ H' L = some (.lst us) ∧ RowsAt K H' us (stepP ((pathsL (ds.take i)).take j) r)) ⟨v4, [], rfl, sL, upd_same, .nil⟩ (fun j σ H' _ ⟨_, _, _, s, _⟩ => SqL.of (s _ _ hl)) ?_ ?_⟩
      · rintro j x σ H2 hj ⟨v4', us, rfl, s2, hL, hu⟩
        obtain ⟨q', pth, rfl, hpt, hq'⟩ := hw.get hj
        have p4 : pth.length ≤ 4 := by
          have := paths_row (ds.take i) pth (List.mem_of_getElem? hpt)
          rw [this, List.length_take]
          omega
        have lu := hu.len
        rw [stepP_len] at lu
        have lu2 : us.length ≤ 512 * 8 := by
          rw [lu]
          exact Nat.mul_le_mul (by rw [List.length_take]; omega) r8
        refine ⟨_, rfl, .inl ⟨rfl, _, SqL.of hL⟩, _, rfl, q, rfl, ⟨_, s2.tup hq⟩, fun D nD => lc_it (walk_tup (K := K) (a := q) (xs := r.map V.int)) (fun i' H' => ∃ zs, H' D = some (.lst zs) ∧ Same H2 H' ∧ RowsAt K H' zs ((r.take i').map fun n => pth ++ [n])) ⟨[], upd_same, Same.new nD, .nil⟩ (fun i' H' _ ⟨_, _, s, _⟩ => (s2.trans s).tup hq) ?_ ?_⟩
        · rintro i' x H3 H4 hi' ⟨zs, h3, s3, c3⟩ ⟨rfl, hx⟩
          rw [List.getElem?_map] at hx
          obtain ⟨n, hn, rfl⟩ := Option.map_eq_some_iff.mp hx
          have lz := c3.len
          rw [List.length_map, List.length_take] at lz
          refine ⟨rfl, ?_⟩
          dsimp only [tYes]
          rw [if_pos rfl]
          have s24 := s2.trans s3
          refine ⟨_, rfl, _, rfl, (by show 1 ≤ sizeLine; decide), fun b nb => ?_⟩
          have k4 := Same.new (o := .tup [V.int n]) nb
          have hb : SqT K (upd H4 b (.tup [V.int n])) b [V.int n] := SqT.of upd_same
          refine ⟨q', b, _, _, rfl, rfl, (s24.trans k4).tup hq', hb, (by rw [List.length_map]; exact Nat.le_trans (show _ ≤ 100 by simp; omega) (by decide)), fun e0 => ?_, fun _ z => (by cases z), fun _ _ c nc => ?_⟩
          · obtain rfl : pth = [] := List.map_eq_nil_iff.mp e0
            refine ⟨zs, k4 _ _ h3, small1000 (by omega), zs ++ [.ref b], upd_same, same_upd nD (s3.trans k4), ?_⟩
            rw [take_snoc hn, List.map_append]
            exact RowsAt.tk (c3.snoc k4 (r := [] ++ [n]) hb) (tk_lst (k4 _ _ h3))
          · have k5 := k4.trans (Same.new (o := .tup (pth.map V.int ++ [V.int n])) nc)
            refine ⟨zs, k5 _ _ h3, small1000 (by omega), zs ++ [.ref c], upd_same, same_upd nD (s3.trans k5), ?_⟩
            rw [take_snoc hn, List.map_append]
            exact RowsAt.tk (c3.snoc k5 (r := pth ++ [n]) (SqT.of (by rw [List.map_append]; exact upd_same))) (tk_lst (k5 _ _ h3))
        · rintro H3 ⟨zs, h3, s3, c3⟩
          rw [List.length_map, List.take_length] at c3
          have lz := c3.len
          rw [List.length_map] at lz
          have hL3 := s3 _ _ hL
          refine ⟨L, D, us, zs, rfl, rfl, hL3, h3, Nat.le_trans (show _ ≤ 5000 by omega) (by decide), _, us ++ zs, rfl, ?_, upd_same, ?_⟩
          · exact same_upd nL (s2.trans s3)
          · rw [take_snoc hpt]
            unfold stepP
            rw [List.flatMap_append]
            refine DpAll.tk (tk_lst hL3) ?_ (by rw [List.map_append]; exact DpAll.app (hu.same s3) (by simpa [RowsAt] using c3))
            exact flatRows _
      · rintro σ H2 ⟨v4', us, rfl, s2, hL, hu⟩
        rw [lws, List.take_length] at hu
        refine ⟨_, rfl, L, us, rfl, .inl (SqL.of hL), fun l2 nl2 => ?_⟩
        have k2 := Same.new (o := .lst us) nl2
        refine ⟨_, _, _, l2, us, rfl, (s1.trans s2).trans k2, upd_same, by rw [et]; exact hu.same k2, ?_⟩
        rw [et, stepP_len, Nat.pow_succ]
        exact Nat.mul_le_mul lw r8
    · rintro σ H1 ⟨v2, v3, v4, l, ws, rfl, s1, hl, hw, lw⟩
      rw [lx, List.take_length] at hw
      exact ⟨_, rfl, k _ _ _ (s0.trans s1) (SqL.of hl) hw⟩
end
end CS
set_option Elab.async false
set_option maxRecDepth 100000
set_option maxHeartbeats 8000000
set_option linter.unusedVariables false
set_option pp.maxSteps 6000
/-! what the law says that a term pays, and its fault -/
namespace CS
open PySem L2 RZ
def Tm.bd (y : List Int) (t : Tm) : Prop := -10000 ≤ t.pays y ∧ t.pays y ≤ 10000
/-- each kid within bounds, each day there -/
def Tm.calm (n : Nat) (y : List Int) : Tm → Prop
  | .both_ s t => (s.bd y ∧ s.calm n y) ∧ (t.bd y ∧ t.calm n y)
  | .short_ s => s.bd y ∧ s.calm n y
  | .times_ s _ => s.bd y ∧ s.calm n y
  | .lesser_ s t => (s.bd y ∧ s.calm n y) ∧ (t.bd y ∧ t.calm n y)
  | .greater_ s t => (s.bd y ∧ s.calm n y) ∧ (t.bd y ∧ t.calm n y)
  | .cond_ d _ s t => d < n ∧ (s.bd y ∧ s.calm n y) ∧ (t.bd y ∧ t.calm n y)
  | .at_ d => d < n
  | .above_ d _ => d < n
  | .below_ d _ => d < n
  | .lowest_ d => d < n
  | .highest_ d => d < n
  | .cash_ _ => True
theorem Tm.calm_of {n : Nat} {y : List Int} {t : Tm} (b : t.badDay n = false) (k : ∀ kd ∈ t.kids, kd.2.bd y ∧ kd.2.calm n y) : t.calm n y := by
  cases t <;> simp [Tm.badDay, Tm.day, Tm.kids, Tm.calm] at b k ⊢
  all_goals (first | exact k | exact b | exact ⟨b, k⟩ | trivial)
theorem Tm.calm_fault {n : Nat} {ws : List (List Int)} {y : List Int} (hy : y ∈ ws) : ∀ (h : Nat) (t : Tm) (p : List Int), t.height ≤ h → t.fault n ws p = none → t.bd y ∧ t.calm n y
  | 0, t, _, hh, _ => by
    have := t.height_pos
    omega
  | h + 1, t, p, hh, e => by
    obtain ⟨b, g⟩ := Tm.fault_bound e
    refine ⟨Tm.not_great g y hy, Tm.calm_of b fun kd hk => ?_⟩
    have := Tm.kids_height kd hk
    refine Tm.calm_fault hy h kd.2 (p ++ [(kd.1 : Int)]) (by omega) ?_
    rw [Tm.fault_kids] at e
    cases e1 : Tm.faults n ws p t.kids with
    | some f => rw [e1] at e; cases e
    | none => exact faults_none e1 kd hk
where faults_none {n : Nat} {ws : List (List Int)} {p : List Int} : ∀ {l : List (Nat × Tm)}, Tm.faults n ws p l = none → ∀ kd ∈ l, kd.2.fault n ws (p ++ [(kd.1 : Int)]) = none
    | k :: l, e, kd, hk => by
      unfold Tm.faults at e
      cases e1 : k.2.fault n ws (p ++ [(k.1 : Int)]) with
      | some f => rw [e1] at e; cases e
      | none =>
        rw [e1] at e
        rcases List.mem_cons.mp hk with rfl | hk
        · exact e1
        · exact faults_none e kd hk
section
variable {P : Program} {w : World} {K : PySem.W.Frag} {mg : Str → Option Value} {base : Heap}
def spLPay (K : PySem.W.Frag) (h : Nat) : Sp := fun vs H Q _ => ∃ u t p y, vs = [u, .ref p] ∧ Dp K H u (Tm.toD t) ∧ t.height ≤ h ∧ SqT K H p (y.map V.int) ∧ y.length ≤ 4 ∧ t.calm y.length y ∧ ∀ H', Same H H' → Q (.int (t.pays y)) H'
abbrev nsLawPays : List Str := ["term", "path", "word", "here", "row", "one", "other"]
theorem scLawPays : FnScope nsLawPays ["term", "path"] (defScope sLawPays) := ⟨rfl, rfl, rfl, by decide +kernel, rfl, by decide +kernel, by decide +kernel⟩
theorem ok_law_pays {f : Addr} {fd : FuncData} (F : Df K mg "_law_pays" sLawPays ["term", "path"] f fd)
    {lv h : Nat} (T : Bt mg) (mmin : mg "min" = none) (mmax : mg "max" = none) {f9 : Addr} {fd9 : FuncData} (D9 : Df K mg "_law_pays" sLawPays ["term", "path"] f9 fd9) (G9 : FnOk P w K mg base CX0 lv f9 fd9 ["term", "path"] (spLPay K h)) : FnOk P w K mg base CX0 (lv+1) f fd ["term", "path"] (spLPay K (h+1)) := by
  refine F.F.ok scLawPays (fun vs H Q E h => ?_) (fun cdv A outer s H vs Q E hr h => ?_)
  · obtain ⟨u, t, p, y, rfl, _⟩ := h
    rfl
  · obtain ⟨u, t, p, y, rfl, hu1, hh, hp, l4, cm, k⟩ := h
    refine ⟨_, (pss_cons (ps_set (i := 2) scLawPays.nd rfl (Or.inl rfl) (pe_ix ix_tup (pv 0) pe_int (fun _ _ => rfl)))
      (pss_cons (ps_if (pt_cmpR op_eq (pv 2) pe_str (nomark _)) (pss_one (ps_ret (pe_ix ix_tup (pv 0) pe_int (fun _ _ => rfl)))) pss_nil)
      (pss_cons (ps_if (pt_cmpR op_in_seq (pv 2) (pe_tup (pa_cons pe_str (pa_cons pe_str (pa_cons pe_str (pa_cons pe_str (pa_cons pe_str pa_nil)))))) (by rfl)) (pss_cons (ps_par (i := 3) (j := 4) (by rfl) scLawPays.nd rfl rfl (by decide) rfl rfl (pa_cons (pe_ix ix_tup (pv 1) (pe_ix ix_tup (pv 0) pe_int (fun _ _ => rfl)) (fun _ _ => rfl)) (pa_cons (pe_slice sl_any (pv 1) po_none (po_some (pe_op op_add (pe_ix ix_tup (pv 0) pe_int (fun _ _ => rfl)) pe_int))) pa_nil)) (by rfl))
      (pss_cons (ps_if (pt_cmpR op_in_seq (pv 2) (pe_tup (pa_cons pe_str (pa_cons pe_str pa_nil))) (by rfl)) (pss_one (ps_ret (pe_callB (call_max2 rfl) (by rfl) mmax (by decide +kernel) (pa_cons pe_int (pa_cons (pe_ifExp (pt_cmpR op_eq (pv 2) pe_str (nomark _)) (pe_op op_sub (pv 3) (pe_ix ix_tup (pv 0) pe_int (fun _ _ => rfl))) (pe_op op_sub (pe_ix ix_tup (pv 0) pe_int (fun _ _ => rfl)) (pv 3))) pa_nil))))) pss_nil)
      (pss_one (ps_ret (pe_ifExp (pt_cmpR op_eq (pv 2) pe_str (nomark _)) (pv 3) (pe_ifExp (pt_cmpR op_eq (pv 2) pe_str (nomark _)) (pe_callB (call_minI rfl hr.units) (by rfl) mmin (by decide +kernel) (pa_cons (pv 4) pa_nil)) (pe_callB (call_maxI rfl hr.units) (by rfl) mmax (by decide +kernel) (pa_cons (pv 4) pa_nil)))))))) pss_nil)
      (pss_cons (ps_if (pt_cmpR op_eq (pv 2) pe_str (nomark _)) (pss_one (ps_ret (pe_call G9 (hr.mono (by omega)) (by rfl) D9.g D9.F.kp D9.b .nil pass0 (pa_cons (pe_ifExp (pt_cmpR op_gt (pe_ix ix_tup (pv 1) (pe_ix ix_tup (pv 0) pe_int (fun _ _ => rfl)) (fun _ _ => rfl)) (pe_ix ix_tup (pv 0) pe_int (fun _ _ => rfl)) (nomark _)) (pe_ix ix_tup (pv 0) pe_int (fun _ _ => rfl)) (pe_ix ix_tup (pv 0) pe_int (fun _ _ => rfl))) (pa_cons (pv 1) pa_nil))))) pss_nil)
      (pss_cons (ps_set (i := 5) scLawPays.nd rfl (Or.inl rfl) (pe_call G9 (hr.mono (by omega)) (by rfl) D9.g D9.F.kp D9.b .nil pass0 (pa_cons (pe_ix ix_tup (pv 0) pe_int (fun _ _ => rfl)) (pa_cons (pv 1) pa_nil))))
      (pss_cons (ps_if (pt_cmpR op_in_seq (pv 2) (pe_tup (pa_cons pe_str (pa_cons pe_str pa_nil))) (by rfl)) (pss_one (ps_ret (pe_ifExp (pt_cmpR op_eq (pv 2) pe_str (nomark _)) (pe_op op_sub pe_int (pv 5)) (pe_op op_mul (pv 5) (pe_ix ix_tup (pv 0) pe_int (fun _ _ => rfl)))))) pss_nil)
      (pss_cons (ps_set (i := 6) scLawPays.nd rfl (Or.inl rfl) (pe_call G9 (hr.mono (by omega)) (by rfl) D9.g D9.F.kp D9.b .nil pass0 (pa_cons (pe_ix ix_tup (pv 0) pe_int (fun _ _ => rfl)) (pa_cons (pv 1) pa_nil))))
      (pss_cons (ps_if (pt_cmpR op_eq (pv 2) pe_str (nomark _)) (pss_one (ps_ret (pe_op op_add (pv 5) (pv 6)))) pss_nil)
      (pss_one (ps_ret (pe_ifExp (pt_cmpR op_eq (pv 2) pe_str (nomark _)) (pe_callB (call_min2 rfl) (by rfl) mmin (by decide +kernel) (pa_cons (pv 5) (pa_cons (pv 6) pa_nil))) (pe_callB (call_max2 rfl) (by rfl) mmax (by decide +kernel) (pa_cons (pv 5) (pa_cons (pv 6) pa_nil)))))))))))))), ?_⟩
    obtain ⟨a, xs, rfl, hs, hx⟩ := tm_at hu1
    have day : ∀ d : Nat, d < y.length → (y.map V.int)[d]? = some (.int (Tm.g0 y d)) := fun d h => by
      rw [List.getElem?_map, List.getElem?_eq_getElem h]
      show some (V.int _) = some (V.int _)
      unfold Tm.g0
      rw [List.getD_eq_getElem?_getD, List.getElem?_eq_getElem h]
      rfl
    cases t with
    | cash_ n =>
      obtain rfl := DpAll.of_ints (ns := [n]) hx
      exact ⟨_, rfl, a, _, 0, _, rfl, rfl, hs, ati0, _, rfl, rfl, _, rfl, iteTe (decide_eq_true rfl) ⟨_, rfl, a, _, 1, _, rfl, rfl, hs, atI_nat (j := 1) rfl, k H (Same.refl H)⟩⟩
    | at_ d =>
      obtain rfl := DpAll.of_ints (ns := [(d : Int)]) hx
      have dl : d < y.length := cm
      refine ⟨_, rfl, a, _, 0, _, rfl, rfl, hs, ati0, _, rfl, rfl, _, rfl, iteFe (ne_w (a := "at") (b := "cash") (by decide +kernel)) ⟨_, rfl, (by show 5 ≤ sizeLine; decide), fun e1 n1 => ?_⟩⟩
      have s1 := Same.new (o := .tup [V.str "at", V.str "above", V.str "below", V.str "lowest", V.str "highest"]) n1
      have hs1 := s1.tup hs
      have hp1 := s1.tup hp
      refine ⟨e1, _, rfl, .inr (SqT.of upd_same), rfl, rfl, _, rfl, iteTe (by rfl) ⟨_, rfl, _, rfl, a, _, 1, _, rfl, rfl, hs1, atI_nat (j := 1) rfl, p, _, ((d : Nat) : Int), _, rfl, rfl, hp1, atI_nat (day d dl), _, rfl, _, rfl, a, _, 1, _, rfl, rfl, hs1, atI_nat (j := 1) rfl, _, _, rfl, rfl, _, rfl, p, _, rfl, hp1, fun H2 b s2 hB => ?_⟩⟩
      rw [show ((d : Nat) : Int) + 1 = ((d + 1 : Nat) : Int) from rfl, cutT_to, ← List.map_take] at hB
      refine ⟨_, _, rfl, _, rfl, (by show 2 ≤ sizeLine; decide), fun e2 n2 => ?_⟩
      have s12 := s1.trans s2
      have s3 := s12.trans (Same.new (o := .tup [V.str "above", V.str "below"]) n2)
      have hB3 := (Same.new (o := .tup [V.str "above", V.str "below"]) n2).tup hB
      exact ⟨e2, _, rfl, .inr (SqT.of upd_same), rfl, rfl, _, rfl, iteFe (by rfl) ⟨_, rfl, rfl, _, rfl, iteTe (decide_eq_true rfl) ⟨_, rfl, k _ s3⟩⟩⟩
    | above_ d n =>
      obtain rfl := DpAll.of_ints (ns := [(d : Int), n]) hx
      have dl : d < y.length := cm
      refine ⟨_, rfl, a, _, 0, _, rfl, rfl, hs, ati0, _, rfl, rfl, _, rfl, iteFe (ne_w (a := "above") (b := "cash") (by decide +kernel)) ⟨_, rfl, (by show 5 ≤ sizeLine; decide), fun e1 n1 => ?_⟩⟩
      have s1 := Same.new (o := .tup [V.str "at", V.str "above", V.str "below", V.str "lowest", V.str "highest"]) n1
      have hs1 := s1.tup hs
      have hp1 := s1.tup hp
      refine ⟨e1, _, rfl, .inr (SqT.of upd_same), rfl, rfl, _, rfl, iteTe (by rfl) ⟨_, rfl, _, rfl, a, _, 1, _, rfl, rfl, hs1, atI_nat (j := 1) rfl, p, _, ((d : Nat) : Int), _, rfl, rfl, hp1, atI_nat (day d dl), _, rfl, _, rfl, a, _, 1, _, rfl, rfl, hs1, atI_nat (j := 1) rfl, _, _, rfl, rfl, _, rfl, p, _, rfl, hp1, fun H2 b s2 hB => ?_⟩⟩
      rw [show ((d : Nat) : Int) + 1 = ((d + 1 : Nat) : Int) from rfl, cutT_to, ← List.map_take] at hB
      refine ⟨_, _, rfl, _, rfl, (by show 2 ≤ sizeLine; decide), fun e2 n2 => ?_⟩
      have s12 := s1.trans s2
      have s3 := s12.trans (Same.new (o := .tup [V.str "above", V.str "below"]) n2)
      have hB3 := (Same.new (o := .tup [V.str "above", V.str "below"]) n2).tup hB
      refine ⟨e2, _, rfl, .inr (SqT.of upd_same), rfl, rfl, _, rfl, iteTe (by rfl) ⟨_, rfl, rfl, _, rfl, iteTe (decide_eq_true rfl) ⟨_, rfl, _, rfl, a, _, 2, _, rfl, rfl, (s3.tup hs), atI_nat (j := 2) rfl, _, _, rfl, rfl, 0, _, rfl, ?_⟩⟩⟩
      rw [max_if]
      exact k _ s3
    | below_ d n =>
      obtain rfl := DpAll.of_ints (ns := [(d : Int), n]) hx
      have dl : d < y.length := cm
      refine ⟨_, rfl, a, _, 0, _, rfl, rfl, hs, ati0, _, rfl, rfl, _, rfl, iteFe (ne_w (a := "below") (b := "cash") (by decide +kernel)) ⟨_, rfl, (by show 5 ≤ sizeLine; decide), fun e1 n1 => ?_⟩⟩
      have s1 := Same.new (o := .tup [V.str "at", V.str "above", V.str "below", V.str "lowest", V.str "highest"]) n1
      have hs1 := s1.tup hs
      have hp1 := s1.tup hp
      refine ⟨e1, _, rfl, .inr (SqT.of upd_same), rfl, rfl, _, rfl, iteTe (by rfl) ⟨_, rfl, _, rfl, a, _, 1, _, rfl, rfl, hs1, atI_nat (j := 1) rfl, p, _, ((d : Nat) : Int), _, rfl, rfl, hp1, atI_nat (day d dl), _, rfl, _, rfl, a, _, 1, _, rfl, rfl, hs1, atI_nat (j := 1) rfl, _, _, rfl, rfl, _, rfl, p, _, rfl, hp1, fun H2 b s2 hB => ?_⟩⟩
      rw [show ((d : Nat) : Int) + 1 = ((d + 1 : Nat) : Int) from rfl, cutT_to, ← List.map_take] at hB
      refine ⟨_, _, rfl, _, rfl, (by show 2 ≤ sizeLine; decide), fun e2 n2 => ?_⟩
      have s12 := s1.trans s2
      have s3 := s12.trans (Same.new (o := .tup [V.str "above", V.str "below"]) n2)
      have hB3 := (Same.new (o := .tup [V.str "above", V.str "below"]) n2).tup hB
      refine ⟨e2, _, rfl, .inr (SqT.of upd_same), rfl, rfl, _, rfl, iteTe (by rfl) ⟨_, rfl, rfl, _, rfl, iteFe (ne_w (a := "below") (b := "above") (by decide +kernel)) ⟨_, rfl, a, _, 2, _, rfl, rfl, (s3.tup hs), atI_nat (j := 2) rfl, _, rfl, _, _, rfl, rfl, 0, _, rfl, ?_⟩⟩⟩
      rw [max_if]
      exact k _ s3
    | lowest_ d =>
      obtain rfl := DpAll.of_ints (ns := [(d : Int)]) hx
      have dl : d < y.length := cm
      refine ⟨_, rfl, a, _, 0, _, rfl, rfl, hs, ati0, _, rfl, rfl, _, rfl, iteFe (ne_w (a := "lowest") (b := "cash") (by decide +kernel)) ⟨_, rfl, (by show 5 ≤ sizeLine; decide), fun e1 n1 => ?_⟩⟩
      have s1 := Same.new (o := .tup [V.str "at", V.str "above", V.str "below", V.str "lowest", V.str "highest"]) n1
      have hs1 := s1.tup hs
      have hp1 := s1.tup hp
      refine ⟨e1, _, rfl, .inr (SqT.of upd_same), rfl, rfl, _, rfl, iteTe (by rfl) ⟨_, rfl, _, rfl, a, _, 1, _, rfl, rfl, hs1, atI_nat (j := 1) rfl, p, _, ((d : Nat) : Int), _, rfl, rfl, hp1, atI_nat (day d dl), _, rfl, _, rfl, a, _, 1, _, rfl, rfl, hs1, atI_nat (j := 1) rfl, _, _, rfl, rfl, _, rfl, p, _, rfl, hp1, fun H2 b s2 hB => ?_⟩⟩
      rw [show ((d : Nat) : Int) + 1 = ((d + 1 : Nat) : Int) from rfl, cutT_to, ← List.map_take] at hB
      refine ⟨_, _, rfl, _, rfl, (by show 2 ≤ sizeLine; decide), fun e2 n2 => ?_⟩
      have s12 := s1.trans s2
      have s3 := s12.trans (Same.new (o := .tup [V.str "above", V.str "below"]) n2)
      have hB3 := (Same.new (o := .tup [V.str "above", V.str "below"]) n2).tup hB
      obtain ⟨z, zs, rfl⟩ : ∃ z zs, y = z :: zs := by
        cases y with
        | nil => cases dl
        | cons z zs => exact ⟨z, zs, rfl⟩
      exact ⟨e2, _, rfl, .inr (SqT.of upd_same), rfl, rfl, _, rfl, iteFe (by rfl) ⟨_, rfl, rfl, _, rfl, iteFe (ne_w (a := "lowest") (b := "at") (by decide +kernel)) ⟨_, rfl, rfl, _, rfl, iteTe (decide_eq_true rfl) ⟨_, rfl, b, z, zs.take d, rfl, hB3, k _ s3⟩⟩⟩⟩
    | highest_ d =>
      obtain rfl := DpAll.of_ints (ns := [(d : Int)]) hx
      have dl : d < y.length := cm
      refine ⟨_, rfl, a, _, 0, _, rfl, rfl, hs, ati0, _, rfl, rfl, _, rfl, iteFe (ne_w (a := "highest") (b := "cash") (by decide +kernel)) ⟨_, rfl, (by show 5 ≤ sizeLine; decide), fun e1 n1 => ?_⟩⟩
      have s1 := Same.new (o := .tup [V.str "at", V.str "above", V.str "below", V.str "lowest", V.str "highest"]) n1
      have hs1 := s1.tup hs
      have hp1 := s1.tup hp
      refine ⟨e1, _, rfl, .inr (SqT.of upd_same), rfl, rfl, _, rfl, iteTe (by rfl) ⟨_, rfl, _, rfl, a, _, 1, _, rfl, rfl, hs1, atI_nat (j := 1) rfl, p, _, ((d : Nat) : Int), _, rfl, rfl, hp1, atI_nat (day d dl), _, rfl, _, rfl, a, _, 1, _, rfl, rfl, hs1, atI_nat (j := 1) rfl, _, _, rfl, rfl, _, rfl, p, _, rfl, hp1, fun H2 b s2 hB => ?_⟩⟩
      rw [show ((d : Nat) : Int) + 1 = ((d + 1 : Nat) : Int) from rfl, cutT_to, ← List.map_take] at hB
      refine ⟨_, _, rfl, _, rfl, (by show 2 ≤ sizeLine; decide), fun e2 n2 => ?_⟩
      have s12 := s1.trans s2
      have s3 := s12.trans (Same.new (o := .tup [V.str "above", V.str "below"]) n2)
      have hB3 := (Same.new (o := .tup [V.str "above", V.str "below"]) n2).tup hB
      obtain ⟨z, zs, rfl⟩ : ∃ z zs, y = z :: zs := by
        cases y with
        | nil => cases dl
        | cons z zs => exact ⟨z, zs, rfl⟩
      exact ⟨e2, _, rfl, .inr (SqT.of upd_same), rfl, rfl, _, rfl, iteFe (by rfl) ⟨_, rfl, rfl, _, rfl, iteFe (ne_w (a := "highest") (b := "at") (by decide +kernel)) ⟨_, rfl, rfl, _, rfl, iteFe (ne_w (a := "highest") (b := "lowest") (by decide +kernel)) ⟨_, rfl, b, z, zs.take d, rfl, hB3, k _ s3⟩⟩⟩⟩
    | cond_ d n s t =>
      obtain ⟨y1, c1, dd⟩ := DpAll.at (i := 0) hx rfl
      obtain ⟨y2, c2, dn⟩ := DpAll.at (i := 1) hx rfl
      obtain ⟨u3, c3, d3⟩ := DpAll.at (i := 2) hx rfl
      obtain ⟨u4, c4, d4⟩ := DpAll.at (i := 3) hx rfl
      cases dd
      cases dn
      obtain ⟨dl, ⟨_, q1⟩, _, q2⟩ := cm
      refine ⟨_, rfl, a, _, 0, _, rfl, rfl, hs, ati0, _, rfl, rfl, _, rfl, iteFe (ne_w (a := "if") (b := "cash") (by decide +kernel)) ⟨_, rfl, (by show 5 ≤ sizeLine; decide), fun e1 n1 => ?_⟩⟩
      have s1 := Same.new (o := .tup [V.str "at", V.str "above", V.str "below", V.str "lowest", V.str "highest"]) n1
      have hs1 := s1.tup hs
      have hp1 := s1.tup hp
      refine ⟨e1, _, rfl, .inr (SqT.of upd_same), rfl, rfl, _, rfl, iteFe (by rfl) ⟨_, rfl, rfl, _, rfl, iteTe (decide_eq_true rfl) ⟨_, rfl, _, rfl, a, _, 1, _, rfl, rfl, hs1, atI_nat (j := 1) (by simpa using c1), p, _, ((d : Nat) : Int), _, rfl, rfl, hp1, atI_nat (day d dl), _, rfl, a, _, 2, _, rfl, rfl, hs1, atI_nat (j := 2) (by simpa using c2), _, _, rfl, rfl, _, rfl, ?_⟩⟩⟩
      have e : Tm.pays y (.cond_ d n s t) = if Tm.g0 y d > n then s.pays y else t.pays y := rfl
      rw [e] at k
      by_cases c : n < Tm.g0 y d
      · rw [if_pos c] at k
        exact iteTe (decide_eq_true c) ⟨_, rfl, a, _, 3, _, rfl, rfl, hs1, atI_nat (j := 3) (by simpa using c3), _, rfl, u3, s, p, y, rfl, (Dp.same s1 d3), by simp only [Tm.height] at hh; omega, hp1, l4, q1, fun H2 s2 => k _ (s1.trans s2)⟩
      · rw [if_neg c] at k
        exact iteFe (decide_eq_false c) ⟨_, rfl, a, _, 4, _, rfl, rfl, hs1, atI_nat (j := 4) (by simpa using c4), _, rfl, u4, t, p, y, rfl, (Dp.same s1 d4), by simp only [Tm.height] at hh; omega, hp1, l4, q2, fun H2 s2 => k _ (s1.trans s2)⟩
    | short_ s =>
      obtain ⟨u1, c1, d1⟩ := DpAll.at (i := 0) hx rfl
      obtain ⟨q0, q1⟩ := cm
      refine ⟨_, rfl, a, _, 0, _, rfl, rfl, hs, ati0, _, rfl, rfl, _, rfl, iteFe (ne_w (a := "short") (b := "cash") (by decide +kernel)) ⟨_, rfl, (by show 5 ≤ sizeLine; decide), fun e1 n1 => ?_⟩⟩
      have s1 := Same.new (o := .tup [V.str "at", V.str "above", V.str "below", V.str "lowest", V.str "highest"]) n1
      have hs1 := s1.tup hs
      have hp1 := s1.tup hp
      refine ⟨e1, _, rfl, .inr (SqT.of upd_same), rfl, rfl, _, rfl, iteFe (by rfl) ⟨_, rfl, rfl, _, rfl, iteFe (ne_w (a := "short") (b := "if") (by decide +kernel)) ⟨_, rfl, a, _, 1, _, rfl, rfl, hs1, atI_nat (j := 1) (by simpa using c1), _, rfl, u1, s, p, y, rfl, (Dp.same s1 d1), by simp only [Tm.height] at hh; omega, hp1, l4, q1, fun H2 s2 => ?_⟩⟩⟩
      refine ⟨_, rfl, (by show 2 ≤ sizeLine; decide), fun e2 n2 => ?_⟩
      have s3 := (s1.trans s2).trans (Same.new (o := .tup [V.str "short", V.str "times"]) n2)
      refine ⟨e2, _, rfl, .inr (SqT.of upd_same), rfl, rfl, _, rfl, iteTe (by rfl) ⟨_, rfl, rfl, _, rfl, iteTe (decide_eq_true rfl) ⟨_, rfl, _, _, rfl, rfl, ?_⟩⟩⟩
      show Q (.int (0 - s.pays y)) _
      rw [Int.zero_sub]
      exact k _ s3
    | times_ s n =>
      obtain ⟨u1, c1, d1⟩ := DpAll.at (i := 0) hx rfl
      obtain ⟨u2, c2, d2⟩ := DpAll.at (i := 1) hx rfl
      cases d2
      obtain ⟨q0, q1⟩ := cm
      refine ⟨_, rfl, a, _, 0, _, rfl, rfl, hs, ati0, _, rfl, rfl, _, rfl, iteFe (ne_w (a := "times") (b := "cash") (by decide +kernel)) ⟨_, rfl, (by show 5 ≤ sizeLine; decide), fun e1 n1 => ?_⟩⟩
      have s1 := Same.new (o := .tup [V.str "at", V.str "above", V.str "below", V.str "lowest", V.str "highest"]) n1
      have hs1 := s1.tup hs
      have hp1 := s1.tup hp
      refine ⟨e1, _, rfl, .inr (SqT.of upd_same), rfl, rfl, _, rfl, iteFe (by rfl) ⟨_, rfl, rfl, _, rfl, iteFe (ne_w (a := "times") (b := "if") (by decide +kernel)) ⟨_, rfl, a, _, 1, _, rfl, rfl, hs1, atI_nat (j := 1) (by simpa using c1), _, rfl, u1, s, p, y, rfl, (Dp.same s1 d1), by simp only [Tm.height] at hh; omega, hp1, l4, q1, fun H2 s2 => ?_⟩⟩⟩
      refine ⟨_, rfl, (by show 2 ≤ sizeLine; decide), fun e2 n2 => ?_⟩
      have s3 := (s1.trans s2).trans (Same.new (o := .tup [V.str "short", V.str "times"]) n2)
      exact ⟨e2, _, rfl, .inr (SqT.of upd_same), rfl, rfl, _, rfl, iteTe (by rfl) ⟨_, rfl, rfl, _, rfl, iteFe (ne_w (a := "times") (b := "short") (by decide +kernel)) ⟨_, rfl, _, rfl, a, _, 2, _, rfl, rfl, (s3.tup hs), atI_nat (j := 2) (by simpa using c2), _, _, rfl, rfl, .inl ⟨by have := q0.1; omega, by have := q0.2; omega⟩, k _ s3⟩⟩⟩
    | both_ s t =>
      obtain ⟨u1, c1, d1⟩ := DpAll.at (i := 0) hx rfl
      obtain ⟨u2, c2, d2⟩ := DpAll.at (i := 1) hx rfl
      obtain ⟨⟨_, q1⟩, _, q2⟩ := cm
      refine ⟨_, rfl, a, _, 0, _, rfl, rfl, hs, ati0, _, rfl, rfl, _, rfl, iteFe (ne_w (a := "both") (b := "cash") (by decide +kernel)) ⟨_, rfl, (by show 5 ≤ sizeLine; decide), fun e1 n1 => ?_⟩⟩
      have s1 := Same.new (o := .tup [V.str "at", V.str "above", V.str "below", V.str "lowest", V.str "highest"]) n1
      have hs1 := s1.tup hs
      have hp1 := s1.tup hp
      refine ⟨e1, _, rfl, .inr (SqT.of upd_same), rfl, rfl, _, rfl, iteFe (by rfl) ⟨_, rfl, rfl, _, rfl, iteFe (ne_w (a := "both") (b := "if") (by decide +kernel)) ⟨_, rfl, a, _, 1, _, rfl, rfl, hs1, atI_nat (j := 1) (by simpa using c1), _, rfl, u1, s, p, y, rfl, (Dp.same s1 d1), by simp only [Tm.height] at hh; omega, hp1, l4, q1, fun H2 s2 => ?_⟩⟩⟩
      refine ⟨_, rfl, (by show 2 ≤ sizeLine; decide), fun e2 n2 => ?_⟩
      have s3 := (s1.trans s2).trans (Same.new (o := .tup [V.str "short", V.str "times"]) n2)
      refine ⟨e2, _, rfl, .inr (SqT.of upd_same), rfl, rfl, _, rfl, iteFe (by rfl) ⟨_, rfl, a, _, 2, _, rfl, rfl, (s3.tup hs), atI_nat (j := 2) (by simpa using c2), _, rfl, u2, t, p, y, rfl, (Dp.same s3 d2), by simp only [Tm.height] at hh; omega, (s3.tup hp), l4, q2, fun H3 s34 => ?_⟩⟩
      have s4 := s3.trans s34
      exact ⟨_, rfl, rfl, _, rfl, iteTe (decide_eq_true rfl) ⟨_, rfl, _, rfl, _, _, rfl, rfl, k _ s4⟩⟩
    | lesser_ s t =>
      obtain ⟨u1, c1, d1⟩ := DpAll.at (i := 0) hx rfl
      obtain ⟨u2, c2, d2⟩ := DpAll.at (i := 1) hx rfl
      obtain ⟨⟨_, q1⟩, _, q2⟩ := cm
      refine ⟨_, rfl, a, _, 0, _, rfl, rfl, hs, ati0, _, rfl, rfl, _, rfl, iteFe (ne_w (a := "lesser") (b := "cash") (by decide +kernel)) ⟨_, rfl, (by show 5 ≤ sizeLine; decide), fun e1 n1 => ?_⟩⟩
      have s1 := Same.new (o := .tup [V.str "at", V.str "above", V.str "below", V.str "lowest", V.str "highest"]) n1
      have hs1 := s1.tup hs
      have hp1 := s1.tup hp
      refine ⟨e1, _, rfl, .inr (SqT.of upd_same), rfl, rfl, _, rfl, iteFe (by rfl) ⟨_, rfl, rfl, _, rfl, iteFe (ne_w (a := "lesser") (b := "if") (by decide +kernel)) ⟨_, rfl, a, _, 1, _, rfl, rfl, hs1, atI_nat (j := 1) (by simpa using c1), _, rfl, u1, s, p, y, rfl, (Dp.same s1 d1), by simp only [Tm.height] at hh; omega, hp1, l4, q1, fun H2 s2 => ?_⟩⟩⟩
      refine ⟨_, rfl, (by show 2 ≤ sizeLine; decide), fun e2 n2 => ?_⟩
      have s3 := (s1.trans s2).trans (Same.new (o := .tup [V.str "short", V.str "times"]) n2)
      refine ⟨e2, _, rfl, .inr (SqT.of upd_same), rfl, rfl, _, rfl, iteFe (by rfl) ⟨_, rfl, a, _, 2, _, rfl, rfl, (s3.tup hs), atI_nat (j := 2) (by simpa using c2), _, rfl, u2, t, p, y, rfl, (Dp.same s3 d2), by simp only [Tm.height] at hh; omega, (s3.tup hp), l4, q2, fun H3 s34 => ?_⟩⟩
      have s4 := s3.trans s34
      refine ⟨_, rfl, rfl, _, rfl, iteFe (ne_w (a := "lesser") (b := "both") (by decide +kernel)) ⟨_, rfl, rfl, _, rfl, iteTe (decide_eq_true rfl) ⟨_, rfl, _, rfl, _, _, rfl, ?_⟩⟩⟩
      rw [min_if2]
      exact k _ s4
    | greater_ s t =>
      obtain ⟨u1, c1, d1⟩ := DpAll.at (i := 0) hx rfl
      obtain ⟨u2, c2, d2⟩ := DpAll.at (i := 1) hx rfl
      obtain ⟨⟨_, q1⟩, _, q2⟩ := cm
      refine ⟨_, rfl, a, _, 0, _, rfl, rfl, hs, ati0, _, rfl, rfl, _, rfl, iteFe (ne_w (a := "greater") (b := "cash") (by decide +kernel)) ⟨_, rfl, (by show 5 ≤ sizeLine; decide), fun e1 n1 => ?_⟩⟩
      have s1 := Same.new (o := .tup [V.str "at", V.str "above", V.str "below", V.str "lowest", V.str "highest"]) n1
      have hs1 := s1.tup hs
      have hp1 := s1.tup hp
      refine ⟨e1, _, rfl, .inr (SqT.of upd_same), rfl, rfl, _, rfl, iteFe (by rfl) ⟨_, rfl, rfl, _, rfl, iteFe (ne_w (a := "greater") (b := "if") (by decide +kernel)) ⟨_, rfl, a, _, 1, _, rfl, rfl, hs1, atI_nat (j := 1) (by simpa using c1), _, rfl, u1, s, p, y, rfl, (Dp.same s1 d1), by simp only [Tm.height] at hh; omega, hp1, l4, q1, fun H2 s2 => ?_⟩⟩⟩
      refine ⟨_, rfl, (by show 2 ≤ sizeLine; decide), fun e2 n2 => ?_⟩
      have s3 := (s1.trans s2).trans (Same.new (o := .tup [V.str "short", V.str "times"]) n2)
      refine ⟨e2, _, rfl, .inr (SqT.of upd_same), rfl, rfl, _, rfl, iteFe (by rfl) ⟨_, rfl, a, _, 2, _, rfl, rfl, (s3.tup hs), atI_nat (j := 2) (by simpa using c2), _, rfl, u2, t, p, y, rfl, (Dp.same s3 d2), by simp only [Tm.height] at hh; omega, (s3.tup hp), l4, q2, fun H3 s34 => ?_⟩⟩
      have s4 := s3.trans s34
      refine ⟨_, rfl, rfl, _, rfl, iteFe (ne_w (a := "greater") (b := "both") (by decide +kernel)) ⟨_, rfl, rfl, _, rfl, iteFe (ne_w (a := "greater") (b := "lesser") (by decide +kernel)) ⟨_, rfl, _, rfl, _, _, rfl, ?_⟩⟩⟩
      rw [max_if2]
      exact k _ s4
end
end CS
set_option Elab.async false
set_option maxRecDepth 100000
set_option maxHeartbeats 8000000
set_option linter.unusedVariables false
set_option pp.maxSteps 6000
/-! the fault that the law finds -/
namespace CS
open PySem L2 RZ
/-- a found fault, in a list of one, or nothing -/
def FoundAt (K : PySem.W.Frag) (H : Hp) (r : Addr) : Option (List Int) → Prop
  | none => H r = some (.lst [])
  | some f => ∃ q, H r = some (.lst [.ref q]) ∧ SqT K H q (f.map V.int)
def foundD : Option (List Int) → PyData
  | none => .list []
  | some f => .list [rowD_ f]
theorem FoundAt.same {K : PySem.W.Frag} {H H' : Hp} {r : Addr} {o : Option (List Int)} (h : FoundAt K H r o) (s : Same H H') : FoundAt K H' r o := by
  cases o with
  | none => exact s _ _ h
  | some f =>
    obtain ⟨q, h1, h2⟩ := h
    exact ⟨q, s _ _ h1, s.tup h2⟩
theorem FoundAt.dp {K : PySem.W.Frag} {H : Hp} {r : Addr} {o : Option (List Int)} (h : FoundAt K H r o) : Dp K H (.ref r) (foundD o) := by
  cases o with
  | none => exact .lst (SqL.of h) .nil
  | some f =>
    obtain ⟨q, h1, h2⟩ := h
    exact .lst (SqL.of h1) (.cons (.tup h2 (DpAll.ints f)) .nil)
theorem shaped_rowsT (rows : List (List Int)) : SeqAt.shaped (.list (rows.map rowD_)) = true := by
  have hi : ∀ r : List Int, PyData.canLayAll0 (r.map PyData.int) = true ∧ PyData.depthAll (r.map PyData.int) = 0 := fun r => by
    induction r with
    | nil => exact ⟨rfl, rfl⟩
    | cons c r ih => exact ⟨by simp only [List.map_cons, PyData.canLayAll0, PyData.canLay0, ih.1, Bool.and_true], by simp only [List.map_cons, PyData.depthAll, PyData.depth, ih.2, Nat.max_self]⟩
  have h : PyData.canLayAll0 (rows.map rowD_) = true ∧ PyData.depthAll (rows.map rowD_) ≤ 1 := by
    induction rows with
    | nil => exact ⟨rfl, by decide⟩
    | cons r rs ih =>
      refine ⟨?_, ?_⟩
      · simp only [List.map_cons, PyData.canLayAll0, rowD_, PyData.canLay0, (hi r).1, Bool.true_and]
        exact ih.1
      · have h2 := ih.2
        have h3 : PyData.depthAll ((r :: rs).map rowD_) = max (rowD_ r).depth (PyData.depthAll (rs.map rowD_)) := by simp only [List.map_cons, PyData.depthAll]
        have h4 : (rowD_ r).depth = PyData.depthAll (r.map PyData.int) + 1 := by unfold rowD_; simp only [PyData.depth]
        rw [h3, h4, (hi r).2]
        omega
  refine Bool.and_eq_true_iff.mpr ⟨?_, decide_eq_true ?_⟩
  · simp only [PyData.canLay0, h.1]
  · have h2 := h.2
    simp only [PyData.depth]
    omega
theorem found_shaped (o : Option (List Int)) : SeqAt.shaped (foundD o) = true := by
  cases o with
  | none => rfl
  | some f => exact shaped_rowsT [f]
def rCatS2 (K : PySem.W.Frag) : R2 := fun x y H Q => ∃ a b xs ys, x = .ref a ∧ y = .ref b ∧ SqT K H a xs ∧ SqT K H b ys ∧ xs.length + ys.length ≤ sizeLine ∧ ∀ c H', Same H H' → SqT K H' c (xs ++ ys) → Q (.ref c) H'
theorem op_catS2 {X : Cx} : OpR X (PySem.binaryOp .Add) (rCatS2 X.K) := fun pins s σ H x y v u Q I rx ry ⟨a, b, xs, ys, e1, e2, ha, hb, hz, q⟩ =>
  op_catA pins s σ H x y v u Q I rx ry ⟨a, b, xs, ys, e1, e2, ha, hb, hz, fun e => q b H (Same.refl H) (by rw [e]; exact hb), fun _ e => q a H (Same.refl H) (by rw [e, List.append_nil]; exact ha), fun _ _ p np => q p _ (Same.new np) (SqT.of upd_same)⟩
theorem found_nil (o : Option (List Int)) : PyData.eqv (foundD o) (.list []) = o.isNone := by cases o <;> rfl
def greatL (ws : List (List Int)) (t : Tm) : List (List Int) := ws.filter fun y => !decide (-10000 ≤ t.pays y ∧ t.pays y ≤ 10000)
theorem greatL_nil (ws : List (List Int)) (t : Tm) : (greatL ws t).isEmpty = !t.great ws := by
  unfold greatL Tm.great
  induction ws with
  | nil => rfl
  | cons y ws ih =>
    rw [List.filter_cons, List.any_cons]
    cases (!decide (-10000 ≤ t.pays y ∧ t.pays y ≤ 10000)) with
    | true => rfl
    | false =>
      rw [if_neg Bool.false_ne_true, ih]
      rfl
theorem greatL_in {ws : List (List Int)} {t : Tm} {i : Nat} {y : List Int} (h : ws[i]? = some y) (b : -10000 ≤ t.pays y ∧ t.pays y ≤ 10000) : greatL (ws.take (i + 1)) t = greatL (ws.take i) t := by
  unfold greatL
  rw [take_snoc h, List.filter_append, List.filter_cons_of_neg (by rw [decide_eq_true b]; exact Bool.false_ne_true), List.filter_nil, List.append_nil]
theorem greatL_out {ws : List (List Int)} {t : Tm} {i : Nat} {y : List Int} (h : ws[i]? = some y) (b : ¬ (-10000 ≤ t.pays y ∧ t.pays y ≤ 10000)) : greatL (ws.take (i + 1)) t = greatL (ws.take i) t ++ [y] := by
  unfold greatL
  rw [take_snoc h, List.filter_append, List.filter_cons_of_pos (by rw [decide_eq_false b]; rfl), List.filter_nil]
theorem greatL_le (ws : List (List Int)) (t : Tm) : (greatL ws t).length ≤ ws.length := List.length_filter_le _ _
theorem ints_nil (ns : List Int) : PyData.eqv (.list (ns.map .int)) (.list []) = ns.isEmpty := by cases ns <;> rfl
theorem word_day (t : Tm) : inV (.str t.word) [.str "at", .str "above", .str "below", .str "lowest", .str "highest", .str "if"] = t.day.isSome := by
  cases t <;> rfl
section
variable {P : Program} {w : World} {K : PySem.W.Frag} {mg : Str → Option Value} {base : Heap}
def spLFault (K : PySem.W.Frag) (h : Nat) : Sp := fun vs H Q _ => ∃ v ds l ws u t p path, vs = [v, .ref l, u, .ref p] ∧ Dp K H v (dysD ds) ∧ DysOk ds ∧ SqL K H l ws ∧ RowsAt K H ws (pathsL ds) ∧ Dp K H u (Tm.toD t) ∧ t.height ≤ h ∧ SqT K H p (path.map V.int) ∧ path.length + t.height ≤ 8 ∧
  ∀ H' r, Same H H' → FoundAt K H' r (t.fault ds.length (pathsL ds) path) → Q (.ref r) H'
abbrev nsLawFault : List Str := ["days_so", "paths_so", "term", "path", "place", "found", "great", "way"]
theorem scLawFault : FnScope nsLawFault ["days_so", "paths_so", "term", "path"] (defScope sLawFault) := ⟨rfl, rfl, rfl, by decide +kernel, rfl, by decide +kernel, by decide +kernel⟩
theorem ok_law_fault {f : Addr} {fd : FuncData} (F : Df K mg "_law_fault" sLawFault ["days_so", "paths_so", "term", "path"] f fd)
    {f1 : Addr} {fd1 : FuncData} (D1 : Df K mg "_law_pays" sLawPays ["term", "path"] f1 fd1) (G1 : FnOk P w K mg base CX0 7 f1 fd1 ["term", "path"] (spLPay K 5))
    {f2 : Addr} {fd2 : FuncData} (D2 : Df K mg "_law_places" sLawPlaces ["term"] f2 fd2) (G2 : FnOk P w K mg base CX0 1 f2 fd2 ["term"] (spLPlaces K))
    {lv h : Nat} (T : Bt mg) {f9 : Addr} {fd9 : FuncData} (D9 : Df K mg "_law_fault" sLawFault ["days_so", "paths_so", "term", "path"] f9 fd9) (G9 : FnOk P w K mg base CX0 (lv + 8) f9 fd9 ["days_so", "paths_so", "term", "path"] (spLFault K h)) (h4 : h ≤ 4) : FnOk P w K mg base CX0 (lv+9) f fd ["days_so", "paths_so", "term", "path"] (spLFault K (h+1)) := by
  refine F.F.ok scLawFault (fun vs H Q E h => ?_) (fun cdv A outer s H vs Q E hr h => ?_)
  · obtain ⟨v, ds, l, ws, u, t, p, path, rfl, _⟩ := h
    rfl
  · obtain ⟨v, ds, l, ws, u, t, p, path, rfl, hv, ok, hl, hw, hu1, hh, hp, h8, k⟩ := h
    refine ⟨_, (pss_cons (ps_for PassesOwn.never rfl (pi_tup (pe_call G2 (hr.mono (by omega)) (by rfl) D2.g D2.F.kp D2.b .nil pass0 (pa_cons (pv 2) pa_nil))) (pg_name (i := 4) scLawFault.nd rfl (Or.inl rfl)) (pss_cons (ps_set (i := 5) scLawFault.nd rfl (Or.inl rfl) (pe_call G9 (hr.mono (by omega)) (by rfl) D9.g D9.F.kp D9.b .nil pass0 (pa_cons (pv 0) (pa_cons (pv 1) (pa_cons (pe_ix ix_tup (pv 2) (pv 4) (fun _ _ => rfl)) (pa_cons (pe_op op_catS2 (pv 3) (pe_tup (pa_cons (pv 4) pa_nil))) pa_nil))))))
      (pss_one (ps_if (pt_cmpR (op_neD hr.units) (pv 5) (pe_lst pa_nil) (nomark _)) (pss_one (ps_ret (pv 5))) pss_nil))))
      (pss_cons (ps_if (PW.pt (pw_and (pt_cmpR op_in_seq (pe_ix ix_tup (pv 2) pe_int (fun _ _ => rfl)) (pe_tup (pa_cons pe_str (pa_cons pe_str (pa_cons pe_str (pa_cons pe_str (pa_cons pe_str (pa_cons pe_str pa_nil))))))) (by rfl)) (pw_and1 (pt_cmpR op_ge (pe_ix ix_tup (pv 2) pe_int (fun _ _ => rfl)) (pe_callB call_len_seq (by rfl) T.len PySem.boot_len (pa_cons (pv 0) pa_nil)) (nomark _))))) (pss_one (ps_ret (pe_lst (pa_cons (pv 3) pa_nil)))) pss_nil)
      (pss_cons (ps_setLc (i := 6) (own := [("way", 7)]) (g := gName 7) (tt := _) rfl scLawFault.nd rfl rfl (sw_true rfl rfl rfl (by decide +kernel)) (pi_list (pv 1)) (blkOk_by (N := nsLawFault) (sc := defScope sLawFault) (by decide +kernel)) (fun _ _ _ _ _ => pg_name (i := 7) scLawFault.nd rfl (Or.inl rfl)) (fun _ _ _ _ _ => pts_one (pt_not (pt_chain op_le op_le (pe_un un_neg pe_int) (pe_call G1 (hr.mono (by omega)) (by rfl) D1.g D1.F.kp D1.b .nil pass0 (pa_cons (pv 2) (pa_cons (pv 7) pa_nil))) pe_int))) (fun _ _ _ _ _ => pe_int))
      (pss_one (ps_ret (pe_ifExp (pt_cmpR (op_neD hr.units) (pv 6) (pe_lst pa_nil) (nomark _)) (pe_lst (pa_cons (pv 3) pa_nil)) (pe_lst pa_nil))))))), ?_⟩
    obtain ⟨a, xs, rfl, hs, hx⟩ := tm_at hu1
    obtain ⟨av, xv, rfl, hav, hxv⟩ := dys_rows hv
    have lxv := hxv.len
    have tp := t.height_pos
    refine ⟨_, rfl, .ref a, t, rfl, hu1, fun H1 pl s1 hpl => ⟨pl, rfl, ⟨_, hpl⟩, for_tup (K := K) (a := pl) (xs := (t.kids.map fun k => (k.1 : Int)).map V.int) (fun i σ H' => ∃ v4 v5, σ = [some (.ref av), some (.ref l), some (.ref a), some (.ref p), v4, v5, none, none] ∧ Same H1 H' ∧ Tm.faults ds.length (pathsL ds) path t.kids = Tm.faults ds.length (pathsL ds) path (t.kids.drop i) ∧ ∀ kd ∈ t.kids.take i, kd.2.fault ds.length (pathsL ds) (path ++ [(kd.1 : Int)]) = none) ⟨none, none, rfl, Same.refl _, rfl, fun kd hk => nomatch hk⟩ (fun i σ H' _ ⟨_, _, _, s, _⟩ => s.tup hpl) ?_ ?_⟩⟩
    · rintro i x σ H2 hi ⟨v4, v5, rfl, s2, e2, g2⟩
      rw [List.getElem?_map, List.getElem?_map] at hi
      obtain ⟨z, hz, rfl⟩ := Option.map_eq_some_iff.mp hi
      obtain ⟨kd, hk, rfl⟩ := Option.map_eq_some_iff.mp hz
      have mem : kd ∈ t.kids := List.mem_of_getElem? hk
      have s12 := s1.trans s2
      obtain ⟨child, hc, dc⟩ := DpAll.at (K := K) (H := H) (vs := .str t.word :: xs) (ds := .str t.word :: t.rest) (.cons (.str _) hx) (Tm.kids_at kd mem)
      have kh := Tm.kids_height kd mem
      refine ⟨_, rfl, _, rfl, _, rfl, _, rfl, a, _, (kd.1 : Int), child, rfl, rfl, s12.tup hs, atI_nat hc, _, rfl, _, rfl, (by show 1 ≤ sizeLine; decide), fun b nb => ?_⟩
      have k3 := Same.new (o := .tup [V.int (kd.1 : Int)]) nb
      have hb : SqT K (upd H2 b (.tup [V.int (kd.1 : Int)])) b [V.int (kd.1 : Int)] := SqT.of upd_same
      have s13 := s12.trans k3
      generalize upd H2 b (.tup [V.int (kd.1 : Int)]) = H3 at *
      refine ⟨p, b, _, _, rfl, rfl, s13.tup hp, hb, (by rw [List.length_map]; exact Nat.le_trans (show _ ≤ 100 by simp; omega) (by decide)), fun c H4 s34 hc4 => ?_⟩
      have s4 := s13.trans s34
      refine ⟨.ref av, ds, l, ws, child, kd.2, c, path ++ [(kd.1 : Int)], rfl, Dp.same s4 hv, ok, s4.seq hl, hw.same s4, Dp.same s4 dc, by omega, by rw [List.map_append]; exact hc4, by rw [List.length_append]; show path.length + 1 + _ ≤ 8; omega, fun H5 r s5 hr5 => ?_⟩
      refine ⟨_, rfl, (by show 0 ≤ sizeLine; decide), fun e0 n0 => ?_⟩
      have k5 := Same.new (o := .lst []) n0
      have hr6 := hr5.same k5
      have s14 := s2.trans (k3.trans (s34.trans (s5.trans k5)))
      refine ⟨_, _, hr6.dp, .lst (ds := []) (SqL.of upd_same) .nil, found_shaped _, by rfl, _, rfl, ?_⟩
      rw [found_nil]
      cases e : kd.2.fault ds.length (pathsL ds) (path ++ [(kd.1 : Int)]) with
      | some f =>
        refine iteTe rfl ⟨_, rfl, k _ r (s1.trans s14) ?_⟩
        rw [Tm.fault_kids, e2, faults_here hk e]
        rw [e] at hr6
        exact hr6
      | none =>
        refine iteFe rfl ⟨_, _, rfl, s14, by rw [e2, faults_drop hk e], fun kd' hk' => ?_⟩
        rw [take_snoc hk] at hk'
        rcases List.mem_append.mp hk' with h | h
        · exact g2 kd' h
        · rw [List.mem_singleton.mp h]
          exact e
    · rintro σ H2 ⟨v4, v5, rfl, s2, e2, g2⟩
      rw [List.length_map, List.length_map, List.take_length] at g2
      rw [List.length_map, List.length_map, List.drop_length] at e2
      have s12 := s1.trans s2
      have own_ : t.fault ds.length (pathsL ds) path = Tm.own ds.length (pathsL ds) t path := by
        rw [Tm.fault_kids, e2]
        rfl
      have first : ∀ d : Nat, t.day = some d → xs[0]? = some (.int d) := fun d e => by
        obtain ⟨y, hy, dy⟩ := DpAll.at hx (day_first e)
        cases dy
        exact hy
      refine ⟨_, rfl, a, _, 0, _, rfl, rfl, s12.tup hs, ati0, (by show 6 ≤ sizeLine; decide), fun e1 n1 => ?_⟩
      have k3 := Same.new (o := .tup [V.str "at", V.str "above", V.str "below", V.str "lowest", V.str "highest", V.str "if"]) n1
      have s13 := s12.trans k3
      refine ⟨e1, _, rfl, .inr (SqT.of upd_same), rfl, rfl, _, rfl, ?_⟩
      rw [if_neg Bool.false_ne_true, word_day]
      generalize upd H2 e1 (.tup [V.str "at", V.str "above", V.str "below", V.str "lowest", V.str "highest", V.str "if"]) = H3 at *
      have lxs := lxv
      cases bad : t.badDay ds.length with
      | true =>
        cases hd : t.day with
        | none =>
          unfold Tm.badDay at bad
          rw [hd] at bad
          cases bad
        | some d =>
          have le : ds.length ≤ d := by
            unfold Tm.badDay at bad
            rw [hd] at bad
            exact of_decide_eq_true bad
          refine iteTe rfl ⟨_, rfl, a, _, 1, _, rfl, rfl, s13.tup hs, atI_nat (j := 1) (by simpa using first d hd), _, rfl, av, _, rfl, .inr (s13.tup hav), _, _, rfl, rfl, _, rfl, iteTe (decide_eq_true (by omega)) ⟨_, rfl, (by show 1 ≤ sizeLine; decide), fun r nr => ?_⟩⟩
          have k4 := Same.new (o := .lst [V.ref p]) nr
          refine k _ r (s13.trans k4) ?_
          rw [own_]
          unfold Tm.own
          rw [bad, if_pos rfl]
          exact ⟨p, upd_same, (s13.trans k4).tup hp⟩
      | false =>
        refine and_road (fun hc nx => ?_) ?_
        · obtain ⟨d, hd⟩ := Option.isSome_iff_exists.mp hc
          have lt : d < ds.length := by
            unfold Tm.badDay at bad
            rw [hd] at bad
            have := of_decide_eq_false bad
            omega
          exact ⟨_, rfl, a, _, 1, _, rfl, rfl, s13.tup hs, atI_nat (j := 1) (by simpa using first d hd), _, rfl, av, _, rfl, .inr (s13.tup hav), _, _, rfl, rfl, _, rfl, iteFe (decide_eq_false (by omega)) nx⟩
        · have hl3 := s13.seq hl
          have hw3 := hw.same s13
          have lws := hw3.len
          have l32 : (pathsL ds).length ≤ 32 := by
            rw [paths_len]
            exact ok.few
          refine ⟨_, rfl, l, rfl, ⟨_, hl3⟩, fun D nD => lc_it (walk_list (K := K) (a := l) (xs := ws)) (fun i H' => H' D = some (.lst ((greatL ((pathsL ds).take i) t).map fun _ => V.int 1)) ∧ Same H3 H') ⟨upd_same, Same.new nD⟩ (fun i H' _ ⟨_, s⟩ => s.seq hl3) ?_ ?_⟩
          · rintro i x H4 H5 hi ⟨h4, s4⟩ ⟨rfl, hx4⟩
            obtain ⟨q, y, rfl, hyp, hq⟩ := hw3.get hx4
            have ly : y.length = ds.length := paths_row ds y (List.mem_of_getElem? hyp)
            have s14 := s13.trans s4
            refine ⟨rfl, ?_⟩
            refine ⟨_, rfl, _, rfl, _, rfl, .ref a, t, q, y, rfl, Dp.same s14 hu1, by omega, s4.tup hq, by have := ok.len.2; omega, ?_, fun H6 s6 => ?_⟩
            · rw [ly]
              exact Tm.calm_of bad fun kd hk => Tm.calm_fault (List.mem_of_getElem? hyp) kd.2.height kd.2 _ (Nat.le_refl _) (g2 kd hk)
            · have lg := greatL_le ((pathsL ds).take i) t
              rw [List.length_take] at lg
              have s46 := s4.trans s6
              have h6 := s6 _ _ h4
              have grow : ¬ (-10000 ≤ t.pays y ∧ t.pays y ≤ 10000) → ∃ acc, H6 D = some (.lst acc) ∧ acc.length < sizeLine ∧ (upd H6 D (.lst (acc ++ [V.int 1]))) D = some (.lst ((greatL ((pathsL ds).take (i + 1)) t).map fun _ => V.int 1)) ∧ Same H3 (upd H6 D (.lst (acc ++ [V.int 1]))) := fun c => by
                refine ⟨_, h6, small1000 (by rw [List.length_map]; omega), ?_, same_upd nD s46⟩
                rw [upd_same, greatL_out hyp c, List.map_append]
                rfl
              by_cases c1 : -10000 ≤ t.pays y
              · refine ⟨_, _, rfl, rfl, _, rfl, iteTe (decide_eq_true c1) ⟨_, _, rfl, rfl, _, rfl, ?_⟩⟩
                by_cases c2 : t.pays y ≤ 10000
                · refine iteFe (by rw [decide_eq_true c2]; rfl) ⟨?_, s46⟩
                  rw [greatL_in hyp ⟨c1, c2⟩]
                  exact h6
                · exact iteTe (by rw [decide_eq_false c2]; rfl) (grow fun z => c2 z.2)
              · exact ⟨_, _, rfl, rfl, _, rfl, iteFe (decide_eq_false c1) ⟨_, rfl, iteTe rfl (grow fun z => c1 z.1)⟩⟩
          · rintro H4 ⟨h4, s4⟩
            rw [lws, List.take_length] at h4
            have e4 : (greatL (pathsL ds) t).map (fun _ => V.int 1) = ((greatL (pathsL ds) t).map fun _ => (1 : Int)).map V.int := by
              rw [List.map_map]
              rfl
            rw [e4] at h4
            refine ⟨_, rfl, (by show 0 ≤ sizeLine; decide), fun e0 n0 => ?_⟩
            have k5 := Same.new (o := .lst []) n0
            have s15 := s13.trans (s4.trans k5)
            refine ⟨_, _, .lst (SqL.of (k5 _ _ h4)) (DpAll.ints _), .lst (ds := []) (SqL.of upd_same) .nil, shInts _, by rfl, _, rfl, ?_⟩
            rw [ints_nil, show (List.map (fun _ => (1 : Int)) (greatL (pathsL ds) t)).isEmpty = (greatL (pathsL ds) t).isEmpty by cases greatL (pathsL ds) t <;> rfl, greatL_nil]
            generalize upd H4 e0 (.lst []) = H5 at *
            cases gr : t.great (pathsL ds) with
            | true =>
              refine iteTe rfl ⟨_, rfl, (by show 1 ≤ sizeLine; decide), fun r nr => k _ r (s15.trans (Same.new nr)) ?_⟩
              rw [own_]
              unfold Tm.own
              rw [bad, if_neg Bool.false_ne_true, gr, if_pos rfl]
              exact ⟨p, upd_same, (s15.trans (Same.new nr)).tup hp⟩
            | false =>
              refine iteFe rfl ⟨(by show 0 ≤ sizeLine; decide), fun r nr => k _ r (s15.trans (Same.new nr)) ?_⟩
              rw [own_]
              unfold Tm.own
              rw [bad, if_neg Bool.false_ne_true, gr, if_neg Bool.false_ne_true]
              exact upd_same
end
end CS
set_option Elab.async false
set_option maxRecDepth 100000
set_option maxHeartbeats 8000000
set_option linter.unusedVariables false
set_option pp.maxSteps 6000
/-! drawn terms -/
namespace CS
open PySem L2 RZ
section
variable {P : Program} {w : World} {K : PySem.W.Frag} {mg : Str → Option Value} {base : Heap}
/-- one of some numbers -/
def spOneOf (K : PySem.W.Frag) : Sp := fun vs H Q _ => ∃ (d c l a : Addr) (k : Nat) (ns : List Int), vs = [.ref d, .ref a] ∧ StAt H d c l k ∧ k ≤ 90000 ∧ H a = some (.lst (ns.map V.int)) ∧ a ≠ d ∧ a ≠ l ∧ 0 < ns.length ∧ ns.length ≤ 900 ∧
  ∀ x H', x ∈ ns → StAt H' d c l (k + 1) → Fm d l H H' → Q (.int x) H'
theorem scLawOf : FnScope ["state", "some"] ["state", "some"] (defScope sLawOf) := ⟨rfl, rfl, rfl, by decide +kernel, rfl, by decide +kernel, by decide +kernel⟩
theorem ok_law_of {f f1 : Addr} {fd fd1 : FuncData} (F : Df K mg "_law_of" sLawOf ["state", "some"] f fd) (D1 : Df K mg "_law_draw" sDraw ["state", "many"] f1 fd1) (G1 : FnOk P w K mg base CX0 2 f1 fd1 ["state", "many"] spDraw) (T : Bt mg) : FnOk P w K mg base CX0 3 f fd ["state", "some"] (spOneOf K) := by
  refine F.F.ok scLawOf (fun vs H Q E h => ?_) (fun cdv A outer s H vs Q E hr h => ?_)
  · obtain ⟨d, c, l, a, k, ns, rfl, _⟩ := h
    rfl
  · obtain ⟨d, c, l, a, k, ns, rfl, S, hk, ha, nd, nl, l0, l9, q⟩ := h
    refine ⟨_, pss_one (ps_ret (pe_ix ix_list (pv 1) (pe_call G1 hr (by rfl) D1.g D1.F.kp D1.b .nil pass0 (pa_cons (pv 0) (pa_cons (pe_callB (r := Evl.rLenS K) call_len_seq (by rfl) T.len PySem.boot_len (pa_cons (pv 1) pa_nil)) pa_nil))) (fun _ _ => rfl))), ?_⟩
    refine ⟨_, rfl, _, rfl, _, rfl, a, _, rfl, .inl (SqL.of ha), d, c, l, k, _, rfl, S, ?_, ?_, by omega, fun r H' r0 r1 S' fm => ?_⟩
    · rw [List.length_map]; omega
    · rw [List.length_map]
      have : (2 : Nat) ^ 200 > 900 := by decide
      omega
    · rw [List.length_map] at r1
      obtain ⟨j, rfl⟩ : ∃ j : Nat, r = (j : Int) := ⟨r.toNat, by omega⟩
      have lj : j < ns.length := by omega
      have hj : ns[j]? = some ns[j] := List.getElem?_eq_getElem lj
      refine ⟨a, _, _, _, rfl, rfl, SqL.of (fm _ _ ha nd nl), atI_nat (j := j) (by rw [List.getElem?_map, hj]; rfl), ?_⟩
      exact q _ _ (List.getElem_mem lj) S' fm
theorem or_pos {c : Bool} {A B : Prop} (hB : c = false → A → B) (hA : A) : if c = true then A else B := by
  cases c with
  | true => exact iteT hA
  | false => exact iteF (hB rfl hA)
theorem inV_two (r a b : Int) : inV (.int r) [.int a, .int b] = decide (r = a ∨ r = b) := by
  rw [Bool.eq_iff_iff]
  simp only [inV, List.any_cons, List.any_nil, eqV, Bool.or_false, Bool.or_eq_true, beq_iff_eq, decide_eq_true_eq]
  omega
theorem inD6 {x : Int} (h : x ∈ [(0 : Int), 0, 1, 1, 2, 3]) : ∃ m : Nat, x = (m : Int) ∧ m ≤ 3 := by
  simp only [List.mem_cons, List.not_mem_nil, or_false] at h
  exact ⟨x.toNat, by omega, by omega⟩
theorem inM8 {x : Int} (h : x ∈ [(0 : Int), 1, 2, -1, -3, 5, 1000, -1000]) : Tm.okN x := by
  simp only [List.mem_cons, List.not_mem_nil, or_false] at h
  exact ⟨by omega, by omega⟩
/-- how many draws at most -/
def drwN (n : Nat) : Nat := 3 * (2 ^ (n + 1) - 1)
theorem drwN_succ (m : Nat) : drwN (m + 1) = 3 + 2 * drwN m := by
  have h1 : 2 ^ (m + 1 + 1) = 2 * 2 ^ (m + 1) := by rw [Nat.pow_succ]; omega
  have h2 : 0 < 2 ^ (m + 1) := Nat.pow_pos (by decide)
  unfold drwN
  omega
theorem wrd_succ (m : Nat) : 2 ^ (m + 1 + 1) - 1 = 1 + 2 * (2 ^ (m + 1) - 1) := by
  have h1 : 2 ^ (m + 1 + 1) = 2 * 2 ^ (m + 1) := by rw [Nat.pow_succ]; omega
  have h2 : 0 < 2 ^ (m + 1) := Nat.pow_pos (by decide)
  omega
theorem wrd_pos (n : Nat) : 1 ≤ 2 ^ (n + 1) - 1 := by
  have h1 : 2 ^ (n + 1) = 2 * 2 ^ n := by rw [Nat.pow_succ]; omega
  have h2 : 0 < 2 ^ n := Nat.pow_pos (by decide)
  omega
theorem drwN_three (n : Nat) : 3 ≤ drwN n := by
  have := wrd_pos n
  unfold drwN
  omega
def spTerm (K : PySem.W.Frag) (n : Nat) : Sp := fun vs H Q _ => ∃ (d c l : Addr) (k : Nat), vs = [.ref d, .int (n : Int)] ∧ StAt H d c l k ∧ k + drwN n ≤ 80000 ∧
  ∀ H' u t k', t.Ok → t.height ≤ n + 1 → t.words ≤ 2 ^ (n + 1) - 1 → k' ≤ k + drwN n → StAt H' d c l k' → Fm d l H H' → Dp K H' u (Tm.toD t) → Q u H'
def spTermP (K : PySem.W.Frag) (n : Nat) : Sp := fun vs H Q E => ∃ m, n = m + 1 ∧ spTerm K m vs H Q E
abbrev nsLawTerm : List Str := ["state", "deep", "choice", "day_so", "much", "one", "other"]
theorem scLawTerm : FnScope nsLawTerm ["state", "deep"] (defScope sLawTerm) := ⟨rfl, rfl, rfl, by decide +kernel, rfl, by decide +kernel, by decide +kernel⟩
theorem ok_law_term {f : Addr} {fd : FuncData} (F : Df K mg "_law_term" sLawTerm ["state", "deep"] f fd)
    {f1 : Addr} {fd1 : FuncData} (D1 : Df K mg "_law_of" sLawOf ["state", "some"] f1 fd1) (G1 : FnOk P w K mg base CX0 3 f1 fd1 ["state", "some"] (spOneOf K))
    {f2 : Addr} {fd2 : FuncData} (D2 : Df K mg "_law_draw" sDraw ["state", "many"] f2 fd2) (G2 : FnOk P w K mg base CX0 2 f2 fd2 ["state", "many"] (spDraw))
    {n : Nat} (T : Bt mg) {f9 : Addr} {fd9 : FuncData} (D9 : Df K mg "_law_term" sLawTerm ["state", "deep"] f9 fd9) (G9 : FnOk P w K mg base CX0 (n + 3) f9 fd9 ["state", "deep"] (spTermP K n)) (n3 : n ≤ 3) : FnOk P w K mg base CX0 (n+4) f fd ["state", "deep"] (spTerm K n) := by
  refine F.F.ok scLawTerm (fun vs H Q E h => ?_) (fun cdv A outer s H vs Q E hr h => ?_)
  · obtain ⟨d, c, l, k, rfl, _⟩ := h
    rfl
  · obtain ⟨d, c, l, k, rfl, S, hk, kk⟩ := h
    refine ⟨_, (pss_cons (ps_par (i := 2) (j := 3) (by rfl) scLawTerm.nd rfl rfl (by decide) rfl rfl (pa_cons (pe_call G2 (hr.mono (by omega)) (by rfl) D2.g D2.F.kp D2.b .nil pass0 (pa_cons (pv 0) (pa_cons pe_int pa_nil))) (pa_cons (pe_call G1 (hr.mono (by omega)) (by rfl) D1.g D1.F.kp D1.b .nil pass0 (pa_cons (pv 0) (pa_cons (pe_lst (pa_cons pe_int (pa_cons pe_int (pa_cons pe_int (pa_cons pe_int (pa_cons pe_int (pa_cons pe_int pa_nil))))))) pa_nil))) pa_nil)) (by rfl))
      (pss_cons (ps_set (i := 4) scLawTerm.nd rfl (Or.inl rfl) (pe_call G1 (hr.mono (by omega)) (by rfl) D1.g D1.F.kp D1.b .nil pass0 (pa_cons (pv 0) (pa_cons (pe_lst (pa_cons pe_int (pa_cons pe_int (pa_cons pe_int (pa_cons (pe_un un_neg pe_int) (pa_cons (pe_un un_neg pe_int) (pa_cons pe_int (pa_cons pe_int (pa_cons (pe_un un_neg pe_int) pa_nil))))))))) pa_nil))))
      (pss_cons (ps_if (PW.pt (pw_or (pt_cmpR op_eq (pv 1) pe_int (nomark _)) (pw_or1 (pt_cmpR op_lt (pv 2) pe_int (nomark _))))) (pss_cons (ps_if (pt_cmpR op_in_seq (pv 2) (pe_tup (pa_cons pe_int (pa_cons pe_int pa_nil))) (by rfl)) (pss_one (ps_ret (pe_ix ix_list (pe_lst (pa_cons (pe_tup (pa_cons pe_str (pa_cons (pv 4) pa_nil))) (pa_cons (pe_tup (pa_cons pe_str (pa_cons (pv 3) pa_nil))) pa_nil))) (pv 2) (fun _ _ => rfl)))) pss_nil)
      (pss_cons (ps_if (pt_cmpR op_in_seq (pv 2) (pe_tup (pa_cons pe_int (pa_cons pe_int pa_nil))) (by rfl)) (pss_one (ps_ret (pe_tup (pa_cons (pe_ix ix_list (pe_lst (pa_cons pe_str (pa_cons pe_str pa_nil))) (pe_op op_sub (pv 2) pe_int) (fun _ _ => rfl)) (pa_cons (pv 3) (pa_cons (pv 4) pa_nil)))))) pss_nil)
      (pss_one (ps_ret (pe_tup (pa_cons (pe_ix ix_list (pe_lst (pa_cons pe_str (pa_cons pe_str pa_nil))) (pe_op op_mod (pv 2) pe_int) (fun _ _ => rfl)) (pa_cons (pv 3) pa_nil))))))) pss_nil)
      (pss_cons (ps_set (i := 5) scLawTerm.nd rfl (Or.inl rfl) (pe_call G9 (hr.mono (by omega)) (by rfl) D9.g D9.F.kp D9.b .nil pass0 (pa_cons (pv 0) (pa_cons (pe_op op_sub (pv 1) pe_int) pa_nil))))
      (pss_cons (ps_if (pt_cmpR op_lt (pv 2) pe_int (nomark _)) (pss_one (ps_ret (pe_ix ix_list (pe_lst (pa_cons (pe_tup (pa_cons pe_str (pa_cons (pv 5) pa_nil))) (pa_cons (pe_tup (pa_cons pe_str (pa_cons (pv 5) (pa_cons (pv 4) pa_nil)))) (pa_cons (pe_tup (pa_cons pe_str (pa_cons (pv 5) (pa_cons pe_int pa_nil)))) pa_nil)))) (pe_op op_sub (pv 2) pe_int) (fun _ _ => rfl)))) pss_nil)
      (pss_cons (ps_set (i := 6) scLawTerm.nd rfl (Or.inl rfl) (pe_call G9 (hr.mono (by omega)) (by rfl) D9.g D9.F.kp D9.b .nil pass0 (pa_cons (pv 0) (pa_cons (pe_op op_sub (pv 1) pe_int) pa_nil))))
      (pss_cons (ps_if (pt_cmpR op_lt (pv 2) pe_int (nomark _)) (pss_one (ps_ret (pe_tup (pa_cons (pe_ix ix_list (pe_lst (pa_cons pe_str (pa_cons pe_str (pa_cons pe_str (pa_cons pe_str (pa_cons pe_str (pa_cons pe_str pa_nil))))))) (pe_op op_sub (pv 2) pe_int) (fun _ _ => rfl)) (pa_cons (pv 5) (pa_cons (pv 6) pa_nil)))))) pss_nil)
      (pss_one (ps_ret (pe_tup (pa_cons pe_str (pa_cons (pv 3) (pa_cons (pv 4) (pa_cons (pv 5) (pa_cons (pv 6) pa_nil))))))))))))))), ?_⟩
    have d3 := drwN_three n
    have wp := wrd_pos n
    refine ⟨_, rfl, d, c, l, k, 18, rfl, S, by decide, by decide, by omega, fun r H1 r0 r1 S1 fm1 => ?_⟩
    refine ⟨_, rfl, (by show 6 ≤ sizeLine; decide), fun a1 n1 => ?_⟩
    have k1 := Same.new (o := .lst [V.int 0, V.int 0, V.int 1, V.int 1, V.int 2, V.int 3]) n1
    have N1 := S1.neD n1
    refine ⟨d, c, l, a1, _, [0, 0, 1, 1, 2, 3], rfl, S1.same k1, by omega, upd_same, N1.1, N1.2.2, by decide, by decide, fun x H2 hx S2 fm2 => ?_⟩
    obtain ⟨dd, rfl, dd3⟩ := inD6 hx
    refine ⟨_, _, rfl, ?_⟩
    refine ⟨_, rfl, _, rfl, _, rfl, _, rfl, (by show 8 ≤ sizeLine; decide), fun a2 n2 => ?_⟩
    have k2 := Same.new (o := .lst [V.int 0, V.int 1, V.int 2, V.int (-1), V.int (-3), V.int 5, V.int 1000, V.int (-1000)]) n2
    have N2 := S2.neD n2
    refine ⟨d, c, l, a2, _, [0, 1, 2, -1, -3, 5, 1000, -1000], rfl, S2.same k2, by omega, upd_same, N2.1, N2.2.2, by decide, by decide, fun m H3 hm S3 fm3 => ?_⟩
    have om := inM8 hm
    have fm : Fm d l H H3 := (((fm1.same k1).trans fm2).same k2).trans fm3
    clear fm1 fm2 fm3 k1 k2 N1 N2 n1 n2 S1 S2 hx hm
    -- a leaf, laid
    have leaf : ∀ (H' : Hp) (b : Addr) (t : Tm), t.Ok → t.height = 1 → t.words = 1 → Same H3 H' → Dp K H' (.ref b) t.toD → Q (.ref b) H' := fun H' b t ok h1 w1 s dp => kk H' (.ref b) t (k + 3) ok (by omega) (by omega) (by omega) (S3.same s) (fm.same s) dp
    refine ⟨_, rfl, rfl, _, rfl, ?_⟩
    rw [dec_int]
    by_cases lf : (n : Int) = 0 ∨ r < 6
    · refine or_pos (fun z nx => ?_) (iteT ?_)
      · have z2 : ¬ (n : Int) = 0 := beq_eq_false_iff_ne.mp z
        refine ⟨_, rfl, _, _, rfl, rfl, _, rfl, ?_⟩
        rw [decide_eq_true (lf.resolve_left z2)]
        exact nx
      · refine ⟨_, rfl, (by show 2 ≤ sizeLine; decide), fun e1 m1 => ⟨e1, _, rfl, .inr (SqT.of upd_same), rfl, rfl, _, rfl, ?_⟩⟩
        have s1 := Same.new (o := .tup [V.int 0, V.int 1]) m1
        rw [if_neg Bool.false_ne_true, inV_two]
        generalize upd H3 e1 (.tup [V.int 0, V.int 1]) = H4 at *
        by_cases c1 : r = 0 ∨ r = 1
        · refine iteTe (decide_eq_true c1) ⟨_, rfl, (by show 2 ≤ sizeLine; decide), fun b1 nb1 => ⟨_, rfl, (by show 2 ≤ sizeLine; decide), fun b2 nb2 => ⟨(by show 2 ≤ sizeLine; decide), fun b3 nb3 => ?_⟩⟩⟩
          have q1 := Same.new (o := .tup [V.str "cash", V.int m]) nb1
          have q2 := Same.new (o := .tup [V.str "at", V.int (dd : Int)]) nb2
          have q3 := Same.new (o := .lst [V.ref b1, V.ref b2]) nb3
          have s := s1.trans (q1.trans (q2.trans q3))
          rcases c1 with rfl | rfl
          · exact ⟨_, rfl, b3, _, 0, _, rfl, rfl, SqL.of upd_same, atI_nat (j := 0) rfl, leaf _ b1 (.cash_ m) om rfl rfl s (.tup ((q2.trans q3).tup (SqT.of upd_same)) (.cons (.str _) (.cons (.int _) .nil)))⟩
          · exact ⟨_, rfl, b3, _, 1, _, rfl, rfl, SqL.of upd_same, atI_nat (j := 1) rfl, leaf _ b2 (.at_ dd) dd3 rfl rfl s (.tup (q3.tup (SqT.of upd_same)) (.cons (.str _) (.cons (.int _) .nil)))⟩
        · refine iteFe (decide_eq_false c1) ⟨_, rfl, (by show 2 ≤ sizeLine; decide), fun e2 m2 => ⟨e2, _, rfl, .inr (SqT.of upd_same), rfl, rfl, _, rfl, ?_⟩⟩
          have s2 := s1.trans (Same.new (o := .tup [V.int 2, V.int 3]) m2)
          rw [if_neg Bool.false_ne_true, inV_two]
          generalize upd H4 e2 (.tup [V.int 2, V.int 3]) = H5 at *
          by_cases c2 : r = 2 ∨ r = 3
          · refine iteTe (decide_eq_true c2) ⟨(by show 2 ≤ sizeLine; decide), fun b1 nb1 => ⟨_, rfl, _, _, rfl, rfl, ?_⟩⟩
            have q1 := Same.new (o := .lst [V.str "above", V.str "below"]) nb1
            rcases c2 with rfl | rfl
            · refine ⟨b1, _, 0, _, rfl, rfl, SqL.of upd_same, atI_nat (j := 0) rfl, _, rfl, _, rfl, (by show 3 ≤ sizeLine; decide), fun b2 nb2 => ?_⟩
              exact leaf _ b2 (.above_ dd m) ⟨dd3, om⟩ rfl rfl (s2.trans (q1.trans (Same.new nb2))) (.tup (SqT.of upd_same) (.cons (.str _) (.cons (.int _) (.cons (.int _) .nil))))
            · refine ⟨b1, _, 1, _, rfl, rfl, SqL.of upd_same, atI_nat (j := 1) rfl, _, rfl, _, rfl, (by show 3 ≤ sizeLine; decide), fun b2 nb2 => ?_⟩
              exact leaf _ b2 (.below_ dd m) ⟨dd3, om⟩ rfl rfl (s2.trans (q1.trans (Same.new nb2))) (.tup (SqT.of upd_same) (.cons (.str _) (.cons (.int _) (.cons (.int _) .nil))))
          · refine iteFe (decide_eq_false c2) ⟨(by show 2 ≤ sizeLine; decide), fun b1 nb1 => ⟨_, rfl, _, _, rfl, rfl, (by show (0 : Int) < 2; decide), ?_⟩⟩
            have q1 := Same.new (o := .lst [V.str "lowest", V.str "highest"]) nb1
            rcases (show r % 2 = 0 ∨ r % 2 = 1 by omega) with e | e
            · refine ⟨b1, _, r % 2, _, rfl, rfl, SqL.of upd_same, (by rw [e]; exact atI_nat (j := 0) rfl), _, rfl, (by show 2 ≤ sizeLine; decide), fun b2 nb2 => ?_⟩
              exact leaf _ b2 (.lowest_ dd) dd3 rfl rfl (s2.trans (q1.trans (Same.new nb2))) (.tup (SqT.of upd_same) (.cons (.str _) (.cons (.int _) .nil)))
            · refine ⟨b1, _, r % 2, _, rfl, rfl, SqL.of upd_same, (by rw [e]; exact atI_nat (j := 1) rfl), _, rfl, (by show 2 ≤ sizeLine; decide), fun b2 nb2 => ?_⟩
              exact leaf _ b2 (.highest_ dd) dd3 rfl rfl (s2.trans (q1.trans (Same.new nb2))) (.tup (SqT.of upd_same) (.cons (.str _) (.cons (.int _) .nil)))
    · obtain ⟨nz, r6⟩ := not_or.mp lf
      obtain ⟨n', rfl⟩ : ∃ n', n = n' + 1 := ⟨n - 1, by omega⟩
      have ds := drwN_succ n'
      have wsu := wrd_succ n'
      refine iteFe (beq_eq_false_iff_ne.mpr nz) ⟨_, rfl, _, _, rfl, rfl, _, rfl, iteFe (decide_eq_false r6) ?_⟩
      refine ⟨_, rfl, _, rfl, _, _, rfl, rfl, n', rfl, d, c, l, _, (by rw [show (V.int (n' : Int)) = V.int (((n' + 1 : Nat) : Int) - 1) from congrArg V.int (by omega)]; rfl), S3, by omega, fun H4 u1 t1 k4 ok1 h1 w1 b1 S4 fm4 d1 => ?_⟩
      refine ⟨_, rfl, _, _, rfl, rfl, _, rfl, ?_⟩
      by_cases r9 : r < 9
      · have node : ∀ (H' : Hp) (b : Addr) (t : Tm), t.Ok → t.height = t1.height + 1 → t.words = t1.words + 1 → Same H4 H' → Dp K H' (.ref b) t.toD → Q (.ref b) H' := fun H' b t ok h2 w2 s dp => kk H' (.ref b) t k4 ok (by omega) (by omega) (by omega) (S4.same s) ((fm.trans fm4).same s) dp
        refine iteTe (decide_eq_true r9) ⟨_, rfl, (by show 2 ≤ sizeLine; decide), fun e1 m1 => ⟨_, rfl, _, rfl, (by show 3 ≤ sizeLine; decide), fun e2 m2 => ⟨_, rfl, (by show 3 ≤ sizeLine; decide), fun e3 m3 => ⟨(by show 3 ≤ sizeLine; decide), fun e4 m4 => ?_⟩⟩⟩⟩
        have q1 := Same.new (o := .tup [V.str "short", u1]) m1
        have q2 := Same.new (o := .tup [V.str "times", u1, V.int m]) m2
        have q3 := Same.new (o := .tup [V.str "times", u1, V.int 2]) m3
        have q4 := Same.new (o := .lst [V.ref e1, V.ref e2, V.ref e3]) m4
        have s := q1.trans (q2.trans (q3.trans q4))
        have d4 := Dp.same s d1
        rcases (show r - 6 = 0 ∨ r - 6 = 1 ∨ r - 6 = 2 by omega) with e | e | e
        · exact ⟨_, rfl, _, _, rfl, rfl, e4, _, r - 6, _, rfl, rfl, SqL.of upd_same, (by rw [e]; exact atI_nat (j := 0) rfl), node _ e1 (.short_ t1) ok1 rfl rfl s (.tup ((q2.trans (q3.trans q4)).tup (SqT.of upd_same)) (.cons (.str _) (.cons d4 .nil)))⟩
        · exact ⟨_, rfl, _, _, rfl, rfl, e4, _, r - 6, _, rfl, rfl, SqL.of upd_same, (by rw [e]; exact atI_nat (j := 1) rfl), node _ e2 (.times_ t1 m) ⟨ok1, om⟩ rfl rfl s (.tup ((q3.trans q4).tup (SqT.of upd_same)) (.cons (.str _) (.cons d4 (.cons (.int _) .nil))))⟩
        · exact ⟨_, rfl, _, _, rfl, rfl, e4, _, r - 6, _, rfl, rfl, SqL.of upd_same, (by rw [e]; exact atI_nat (j := 2) rfl), node _ e3 (.times_ t1 2) ⟨ok1, by unfold Tm.okN; omega⟩ rfl rfl s (.tup (q4.tup (SqT.of upd_same)) (.cons (.str _) (.cons d4 (.cons (.int _) .nil))))⟩
      · refine iteFe (decide_eq_false r9) ?_
        refine ⟨_, rfl, _, rfl, _, _, rfl, rfl, n', rfl, d, c, l, _, (by rw [show (V.int (n' : Int)) = V.int (((n' + 1 : Nat) : Int) - 1) from congrArg V.int (by omega)]; rfl), S4, by omega, fun H5 u2 t2 k5 ok2 h2 w2 b2 S5 fm5 d2 => ?_⟩
        have d15 := Dp.tk (tk_fm fm5 S4) t1.flat d1
        have node : ∀ (H' : Hp) (b : Addr) (t : Tm), t.Ok → t.height = max t1.height t2.height + 1 → t.words = t1.words + t2.words + 1 → Same H5 H' → Dp K H' (.ref b) t.toD → Q (.ref b) H' := fun H' b t ok h2 w2 s dp => kk H' (.ref b) t k5 ok (by omega) (by omega) (by omega) (S5.same s) (((fm.trans fm4).trans fm5).same s) dp
        refine ⟨_, rfl, _, _, rfl, rfl, _, rfl, ?_⟩
        by_cases r15 : r < 15
        · refine iteTe (decide_eq_true r15) ⟨(by show 6 ≤ sizeLine; decide), fun e1 m1 => ⟨_, rfl, _, _, rfl, rfl, ?_⟩⟩
          have q1 := Same.new (o := .lst [V.str "both", V.str "both", V.str "lesser", V.str "lesser", V.str "greater", V.str "greater"]) m1
          rcases (show r - 9 = 0 ∨ r - 9 = 1 ∨ r - 9 = 2 ∨ r - 9 = 3 ∨ r - 9 = 4 ∨ r - 9 = 5 by omega) with e | e | e | e | e | e
          · exact ⟨e1, _, r - 9, _, rfl, rfl, SqL.of upd_same, (by rw [e]; exact atI_nat (j := 0) rfl), _, rfl, _, rfl, (by show 3 ≤ sizeLine; decide), fun b nb => node _ b (.both_ t1 t2) ⟨ok1, ok2⟩ rfl rfl (q1.trans (Same.new nb)) (.tup (SqT.of upd_same) (.cons (.str _) (.cons (Dp.same (q1.trans (Same.new nb)) d15) (.cons (Dp.same (q1.trans (Same.new nb)) d2) .nil))))⟩
          · exact ⟨e1, _, r - 9, _, rfl, rfl, SqL.of upd_same, (by rw [e]; exact atI_nat (j := 1) rfl), _, rfl, _, rfl, (by show 3 ≤ sizeLine; decide), fun b nb => node _ b (.both_ t1 t2) ⟨ok1, ok2⟩ rfl rfl (q1.trans (Same.new nb)) (.tup (SqT.of upd_same) (.cons (.str _) (.cons (Dp.same (q1.trans (Same.new nb)) d15) (.cons (Dp.same (q1.trans (Same.new nb)) d2) .nil))))⟩
          · exact ⟨e1, _, r - 9, _, rfl, rfl, SqL.of upd_same, (by rw [e]; exact atI_nat (j := 2) rfl), _, rfl, _, rfl, (by show 3 ≤ sizeLine; decide), fun b nb => node _ b (.lesser_ t1 t2) ⟨ok1, ok2⟩ rfl rfl (q1.trans (Same.new nb)) (.tup (SqT.of upd_same) (.cons (.str _) (.cons (Dp.same (q1.trans (Same.new nb)) d15) (.cons (Dp.same (q1.trans (Same.new nb)) d2) .nil))))⟩
          · exact ⟨e1, _, r - 9, _, rfl, rfl, SqL.of upd_same, (by rw [e]; exact atI_nat (j := 3) rfl), _, rfl, _, rfl, (by show 3 ≤ sizeLine; decide), fun b nb => node _ b (.lesser_ t1 t2) ⟨ok1, ok2⟩ rfl rfl (q1.trans (Same.new nb)) (.tup (SqT.of upd_same) (.cons (.str _) (.cons (Dp.same (q1.trans (Same.new nb)) d15) (.cons (Dp.same (q1.trans (Same.new nb)) d2) .nil))))⟩
          · exact ⟨e1, _, r - 9, _, rfl, rfl, SqL.of upd_same, (by rw [e]; exact atI_nat (j := 4) rfl), _, rfl, _, rfl, (by show 3 ≤ sizeLine; decide), fun b nb => node _ b (.greater_ t1 t2) ⟨ok1, ok2⟩ rfl rfl (q1.trans (Same.new nb)) (.tup (SqT.of upd_same) (.cons (.str _) (.cons (Dp.same (q1.trans (Same.new nb)) d15) (.cons (Dp.same (q1.trans (Same.new nb)) d2) .nil))))⟩
          · exact ⟨e1, _, r - 9, _, rfl, rfl, SqL.of upd_same, (by rw [e]; exact atI_nat (j := 5) rfl), _, rfl, _, rfl, (by show 3 ≤ sizeLine; decide), fun b nb => node _ b (.greater_ t1 t2) ⟨ok1, ok2⟩ rfl rfl (q1.trans (Same.new nb)) (.tup (SqT.of upd_same) (.cons (.str _) (.cons (Dp.same (q1.trans (Same.new nb)) d15) (.cons (Dp.same (q1.trans (Same.new nb)) d2) .nil))))⟩
        · exact iteFe (decide_eq_false r15) ⟨_, rfl, _, rfl, _, rfl, _, rfl, (by show 5 ≤ sizeLine; decide), fun b nb => node _ b (.cond_ dd m t1 t2) ⟨dd3, om, ok1, ok2⟩ rfl rfl (Same.new nb) (.tup (SqT.of upd_same) (.cons (.str _) (.cons (.int _) (.cons (.int _) (.cons (Dp.same (Same.new nb) d15) (.cons (Dp.same (Same.new nb) d2) .nil))))))⟩
theorem ok_law_terms {f : Addr} {fd : FuncData} (F : Df K mg "_law_term" sLawTerm ["state", "deep"] f fd)
    {f1 : Addr} {fd1 : FuncData} (D1 : Df K mg "_law_of" sLawOf ["state", "some"] f1 fd1) (G1 : FnOk P w K mg base CX0 3 f1 fd1 ["state", "some"] (spOneOf K))
    {f2 : Addr} {fd2 : FuncData} (D2 : Df K mg "_law_draw" sDraw ["state", "many"] f2 fd2) (G2 : FnOk P w K mg base CX0 2 f2 fd2 ["state", "many"] spDraw) (T : Bt mg) :
    ∀ n : Nat, n ≤ 3 → FnOk P w K mg base CX0 (n + 4) f fd ["state", "deep"] (spTerm K n)
  | 0, h => by
    refine ok_law_term F D1 G1 D2 G2 T F (n := 0) ?_ h
    refine F.F.ok scLawTerm (fun vs H Q E h => ?_) (fun cdv A outer s H vs Q E hr h => ?_)
    · obtain ⟨m, e, _⟩ := h
      cases e
    · obtain ⟨m, e, _⟩ := h
      cases e
  | n + 1, h => by
    refine ok_law_term F D1 G1 D2 G2 T F (n := n + 1) ?_ h
    have e : spTermP K (n + 1) = spTerm K n := by
      funext vs H Q E
      refine propext ⟨fun ⟨m, e, q⟩ => ?_, fun q => ⟨n, rfl, q⟩⟩
      cases e
      exact q
    rw [e]
    exact ok_law_terms F D1 G1 D2 G2 T n (by omega)
end
end CS
set_option Elab.async false
set_option maxRecDepth 100000
set_option maxHeartbeats 8000000
set_option linter.unusedVariables false
set_option pp.maxSteps 6000
/-! drawn days -/
namespace CS
open PySem L2 RZ
def prdL (ds : Dys) : Nat := (ds.map List.length).foldl (· * ·) 1
theorem prdL_snoc (ds : Dys) (r : List Int) : prdL (ds ++ [r]) = prdL ds * r.length := by
  unfold prdL
  rw [List.map_append, List.foldl_append]
  rfl
theorem cutV_upto (us : List V) (j : Nat) : cutV us none (some (j : Int)) = us.take j := by
  unfold cutV
  rw [show HT.sIx us.length 0 none = 0 from rfl, List.drop_zero, Nat.sub_zero, show HT.sIx us.length us.length (some (j : Int)) = min j us.length from by show min ((j : Int)).toNat us.length = _; rw [Int.toNat_natCast]]
  rcases Nat.le_total j us.length with h | h
  · rw [Nat.min_eq_left h]
  · rw [Nat.min_eq_right h, List.take_length, List.take_of_length_le h]
/-- some days, few ways -/
structure Part (ds : Dys) : Prop where
  rows : ∀ r ∈ ds, 1 ≤ r.length ∧ r.length ≤ 8 ∧ r.Pairwise (· < ·) ∧ ∀ a ∈ r, -100 ≤ a ∧ a ≤ 100
  few : prdL ds ≤ 27
  pos : 1 ≤ prdL ds
theorem in9 {x : Int} (h : x ∈ [(-3 : Int), -1, 0, 1, 2, 4, 7, -9, 9]) : -9 ≤ x ∧ x ≤ 9 := by
  simp only [List.mem_cons, List.not_mem_nil, or_false] at h
  omega
theorem val_bd {x u : Int} (hx : -9 ≤ x ∧ x ≤ 9) (u0 : 0 ≤ u) (u1 : u < 9) : -90 ≤ x * (1 + 9 * (u / 8)) ∧ x * (1 + 9 * (u / 8)) ≤ 90 := by
  rcases (show u / 8 = 0 ∨ u / 8 = 1 by omega) with e | e <;> rw [e] <;> omega
theorem mx_nat (n : Nat) : (if (27 : Int) / (n : Int) > 1 then (27 : Int) / (n : Int) else 1) = ((max 1 (27 / n) : Nat) : Int) := by
  have e : (27 : Int) / (n : Int) = ((27 / n : Nat) : Int) := rfl
  rw [e]
  split <;> omega
theorem mx_few {n j : Nat} (h : n ≤ 27) (hj : j ≤ max 1 (27 / n)) : n * j ≤ 27 := by
  have h1 : n * (27 / n) ≤ 27 := Nat.mul_div_le 27 n
  rcases Nat.le_total (27 / n) 1 with q | q
  · rw [Nat.max_eq_left q] at hj
    have := Nat.mul_le_mul_left n hj
    omega
  · rw [Nat.max_eq_right q] at hj
    exact Nat.le_trans (Nat.mul_le_mul_left n hj) h1
section
variable {P : Program} {w : World} {K : PySem.W.Frag} {mg : Str → Option Value} {base : Heap}
def spDaysL (K : PySem.W.Frag) : Sp := fun vs H Q _ => ∃ (d c l : Addr) (k : Nat), vs = [.ref d, .int 4, .int 3] ∧ StAt H d c l k ∧ k ≤ 70000 ∧
  ∀ H' v ds k', k' ≤ k + 40 → DysOk ds → StAt H' d c l k' → Fm d l H H' → Dp K H' v (dysD ds) → Q v H'
abbrev nsLawDays : List Str := ["state", "most", "many", "found", "ways", "k", "known", "turn", "row"]
theorem scLawDays : FnScope nsLawDays ["state", "most", "many"] (defScope sLawDays) := ⟨rfl, rfl, rfl, by decide +kernel, rfl, by decide +kernel, by decide +kernel⟩
theorem ok_law_days {f : Addr} {fd : FuncData} (F : Df K mg "_law_days" sLawDays ["state", "most", "many"] f fd)
    {f1 : Addr} {fd1 : FuncData} (D1 : Df K mg "_law_draw" sDraw ["state", "many"] f1 fd1) (G1 : FnOk P w K mg base CX0 2 f1 fd1 ["state", "many"] (spDraw))
    {f2 : Addr} {fd2 : FuncData} (D2 : Df K mg "_law_of" sLawOf ["state", "some"] f2 fd2) (G2 : FnOk P w K mg base CX0 3 f2 fd2 ["state", "some"] (spOneOf K))
    (T : Bt mg) (mmax : mg "max" = none) : FnOk P w K mg base CX0 4 f fd ["state", "most", "many"] (spDaysL K) := by
  refine F.F.ok scLawDays (fun vs H Q E h => ?_) (fun cdv A outer s H vs Q E hr h => ?_)
  · obtain ⟨d, c, l, k, rfl, _⟩ := h
    rfl
  · obtain ⟨d, c, l, k, rfl, S, hk, kk⟩ := h
    have hu := hu_of hr
    refine ⟨_, (pss_cons (ps_par (i := 3) (j := 4) (by rfl) scLawDays.nd rfl rfl (by decide) rfl rfl (pa_cons (pe_lst pa_nil) (pa_cons pe_int pa_nil)) (by rfl))
      (pss_cons (ps_for PassesOwn.never rfl (pi_range1 (by rfl) T.range (pa_cons (pe_op op_add pe_int (pe_call G1 (hr.mono (by decide)) (by rfl) D1.g D1.F.kp D1.b .nil pass0 (pa_cons (pv 0) (pa_cons (pv 1) pa_nil)))) pa_nil)) (pg_name (i := 5) scLawDays.nd rfl (Or.inl rfl)) (pss_cons (ps_set (i := 6) scLawDays.nd rfl (Or.inl rfl) pe_dnewK)
      (pss_cons (ps_for PassesOwn.never rfl (pi_range1 (by rfl) T.range (pa_cons (pe_op op_add pe_int (pe_call G1 (hr.mono (by decide)) (by rfl) D1.g D1.F.kp D1.b .nil pass0 (pa_cons (pv 0) (pa_cons (pv 2) pa_nil)))) pa_nil)) (pg_name (i := 7) scLawDays.nd rfl (Or.inl rfl)) (pss_one (ps_dput hu (pv 6) (pe_op op_mul (pe_call G2 (hr.mono (by decide)) (by rfl) D2.g D2.F.kp D2.b .nil pass0 (pa_cons (pv 0) (pa_cons (pe_lst (pa_cons (pe_un un_neg pe_int) (pa_cons (pe_un un_neg pe_int) (pa_cons pe_int (pa_cons pe_int (pa_cons pe_int (pa_cons pe_int (pa_cons pe_int (pa_cons (pe_un un_neg pe_int) (pa_cons pe_int pa_nil)))))))))) pa_nil))) (pe_op op_add pe_int (pe_op op_mul pe_int (pe_op op_fdiv (pe_call G1 (hr.mono (by decide)) (by rfl) D1.g D1.F.kp D1.b .nil pass0 (pa_cons (pv 0) (pa_cons pe_int pa_nil))) pe_int)))) pe_bl rfl)))
      (pss_cons (ps_set (i := 8) scLawDays.nd rfl (Or.inl rfl) (pe_slice sl_list (pe_callB (call_sortedDI rfl) (by rfl) T.sorted (by decide +kernel) (pa_cons (pv 6) pa_nil)) po_none (po_some (pe_callB (call_max2 rfl) (by rfl) mmax (by decide +kernel) (pa_cons pe_int (pa_cons (pe_op op_fdiv pe_int (pv 4)) pa_nil))))))
      (pss_cons (ps_set (i := 4) scLawDays.nd rfl (Or.inl rfl) (pe_op op_mul (pv 4) (pe_callB call_len_seq (by rfl) T.len PySem.boot_len (pa_cons (pv 8) pa_nil))))
      (pss_one (ps_expr (pe_bm PySem.F.plainAttrs_list PySem.F.slot_list_append PySem.F.type_list_append mt_append (pv 3) (pa_cons (pe_callTy call_tuple_of (by rfl) T.tuple (by decide +kernel) (pa_cons (pv 8) pa_nil)) pa_nil)))))))))
      (pss_one (ps_ret (pe_callTy call_tuple_of (by rfl) T.tuple (by decide +kernel) (pa_cons (pv 3) pa_nil)))))), ?_⟩
    refine ⟨(by show 0 ≤ sizeLine; decide), fun F nF => ⟨_, _, rfl, ?_⟩⟩
    have NF := S.neD nF
    have sF := Same.new (o := .lst []) nF
    refine ⟨_, rfl, _, rfl, d, c, l, k, 4, rfl, S.same sF, by decide, by decide, by omega, fun r H1 r0 r1 S1 fm1 => ?_⟩
    have hF1 : H1 F = some (.lst []) := fm1 F _ upd_same NF.1 NF.2.2
    have fmF : Fm d l H H1 := fun b o e n1 n2 => fm1 b o (sF b o e) n1 n2
    refine ⟨_, _, rfl, rfl, _, rfl, by omega, by omega, ?_⟩
    refine for_range (lo := 0) (n := (1 + r).toNat) (fun i σ H' => ∃ v5 v6 v7 v8 ws ds k', σ = [some (.ref d), some (.int 4), some (.int 3), some (.ref F), some (.int (prdL ds : Nat)), v5, v6, v7, v8] ∧ H' F = some (.lst ws) ∧ RowsAt K H' ws ds ∧ Part ds ∧ ds.length = i ∧ k' ≤ k + 1 + 7 * i ∧ StAt H' d c l k' ∧ Fm d l H H')
      ⟨none, none, none, none, [], [], _, rfl, hF1, .nil, ⟨(fun r hr => nomatch hr), by decide, by decide⟩, rfl, by omega, S1, fmF⟩ ?_ ?_
    · rintro i σ H2 hi ⟨v5, v6, v7, v8, ws, ds, k2, rfl, hF2, hw, pt, hl, hk2, S2, fm2⟩
      refine fun t nt => ?_
      have Nt := S2.neD nt
      have st := Same.new (o := .dK []) nt
      have FneT : F ≠ t := fun z => by rw [z, nt] at hF2; cases hF2
      refine ⟨_, rfl, _, rfl, d, c, l, k2, 3, rfl, S2.same st, by decide, by decide, by omega, fun r' H3 q0 q1 S3 fm3 => ?_⟩
      have ht3 : H3 t = some (.dK []) := fm3 t _ upd_same Nt.1 Nt.2.2
      have fm23 : Fm d l H2 H3 := fun b o e n1 n2 => fm3 b o (st b o e) n1 n2
      refine ⟨_, _, rfl, rfl, _, rfl, by omega, by omega, ?_⟩
      refine for_range (lo := 0) (n := (1 + r').toNat) (fun j σ H' => ∃ v7 kvs ns, σ = [some (.ref d), some (.int 4), some (.int 3), some (.ref F), some (.int (prdL ds : Nat)), some (.int (0 + (i : Nat))), some (.ref t), v7, v8] ∧ H' t = some (.dK kvs) ∧ kvs.map (·.1) = ns.map Sum.inl ∧ ns.Nodup ∧ (∀ a ∈ ns, -90 ≤ a ∧ a ≤ 90) ∧ ns.length ≤ j ∧ (0 < j → 0 < ns.length) ∧ StAt H' d c l (k2 + 1 + 2 * j) ∧ Fm d l H2 H')
        ⟨v7, [], [], rfl, ht3, rfl, List.nodup_nil, fun a ha => (by cases ha), Nat.le_refl _, fun z => absurd z (Nat.lt_irrefl 0), S3, fm23⟩ ?_ ?_
      · rintro j σ H4 hj ⟨v7', kvs, ns, rfl, g1, g2, g3, g4, g5, g6, S4, fm4⟩
        refine ⟨_, rfl, _, rfl, _, rfl, _, rfl, _, rfl, (by show 9 ≤ sizeLine; decide), fun a1 n1 => ?_⟩
        have k4 := Same.new (o := .lst [V.int (-3), V.int (-1), V.int 0, V.int 1, V.int 2, V.int 4, V.int 7, V.int (-9), V.int 9]) n1
        have N4 := S4.neD n1
        refine ⟨d, c, l, a1, _, [-3, -1, 0, 1, 2, 4, 7, -9, 9], rfl, S4.same k4, by omega, upd_same, N4.1, N4.2.2, by decide, by decide, fun x H5 hx S5 fm5 => ?_⟩
        refine ⟨_, rfl, d, c, l, _, 9, rfl, S5, by decide, by decide, by omega, fun u H6 u0 u1 S6 fm6 => ?_⟩
        have vb := val_bd (in9 hx) u0 u1
        have x9 := in9 hx
        have fm46 : Fm d l H4 H6 := fun b o e z1 z2 => fm6 b o (fm5 b o (k4 b o e) z1 z2) z1 z2
        have gt : H6 t = some (.dK kvs) := fm46 t _ g1 Nt.1 Nt.2.2
        have hlk : kvs.length < sizeLine := by
          have := congrArg List.length g2
          rw [List.length_map, List.length_map] at this
          exact small1000 (by omega)
        refine ⟨_, _, rfl, rfl, ?_, _, _, rfl, rfl, .inl ⟨by decide, by decide⟩, _, _, rfl, rfl, _, _, rfl, rfl, .inl ⟨by omega, by omega⟩, t, _, rfl, DPut.k (k := Sum.inl (x * (1 + 9 * (u / 8)))) gt hlk, ?_⟩
        · exact ⟨by decide, by decide⟩
        · refine ⟨_, _, _, rfl, upd_same, keys_put g2, addK_nodup g3, fun a ha => ?_, ?_, fun _ => addK_pos ns _, ?_, ?_⟩
          · rcases addK_mem ha with q | q
            · exact g4 a q
            · rw [q]; exact vb
          · have := addK_len ns (x * (1 + 9 * (u / 8)))
            omega
          · exact S6.upd Nt.1 Nt.2.1 Nt.2.2
          · exact (fm4.trans fm46).upd nt
      · rintro σ H4 ⟨v7', kvs, ns, rfl, g1, g2, g3, g4, g5, g6, S4, fm4⟩
        have hF4 := fm4 F _ hF2 NF.1 NF.2.2
        have hw4 := RowsAt.tk hw (tk_fm fm4 S2)
        have pos := pt.pos
        have few := pt.few
        have n3 : ns.length ≤ 3 := by omega
        have n0 : 0 < ns.length := g6 (by omega)
        refine ⟨_, rfl, t, kvs, ns, rfl, .inl g1, g2, by omega, fun ys p perm srt hp => ?_⟩
        have sp := Same.new (o := .lst (ys.map V.int)) hp
        have hnd : ys.Nodup := perm.nodup_iff.mpr g3
        have hp5 : (upd H4 p (.lst (ys.map V.int))) p = some (.lst (ys.map V.int)) := upd_same
        generalize upd H4 p (.lst (ys.map V.int)) = H5 at *
        refine ⟨_, rfl, _, _, rfl, rfl, ⟨by omega, by omega⟩, _, _, rfl, _, rfl, p, _, rfl, SqL.of hp5, fun q nq => ?_⟩
        dsimp only
        rw [mx_nat, cutV_upto, ← List.map_take]
        have sq := Same.new (o := .lst ((ys.take (max 1 (27 / prdL ds))).map V.int)) nq
        have hq6 : (upd H5 q (.lst ((ys.take (max 1 (27 / prdL ds))).map V.int))) q = some (.lst ((ys.take (max 1 (27 / prdL ds))).map V.int)) := upd_same
        have lr : (ys.take (max 1 (27 / prdL ds))).length ≤ max 1 (27 / prdL ds) := by rw [List.length_take]; exact Nat.min_le_left _ _
        have lr3 : (ys.take (max 1 (27 / prdL ds))).length ≤ 3 := by rw [List.length_take, perm.length_eq]; omega
        have lr1 : 1 ≤ (ys.take (max 1 (27 / prdL ds))).length := by rw [List.length_take, perm.length_eq]; omega
        have asc : (ys.take (max 1 (27 / prdL ds))).Pairwise (· < ·) := by
          refine List.Pairwise.sublist (List.take_sublist _ _) ((List.Pairwise.and srt hnd).imp ?_)
          rintro a b ⟨q1, q2⟩
          omega
        have bds : ∀ a ∈ ys.take (max 1 (27 / prdL ds)), -100 ≤ a ∧ a ≤ 100 := fun a ha => by
          have := g4 a (perm.mem_iff.mp (List.mem_of_mem_take ha))
          omega
        have s46 := sp.trans sq
        generalize upd H5 q (.lst ((ys.take (max 1 (27 / prdL ds))).map V.int)) = H6 at *
        generalize ys.take (max 1 (27 / prdL ds)) = row at *
        have fewer := mx_few few lr
        refine ⟨_, rfl, _, rfl, q, _, rfl, .inl (SqL.of hq6), _, _, rfl, rfl, .inl ⟨by omega, by omega⟩, ?_⟩
        refine ⟨_, rfl, .inl ⟨rfl, _, SqL.of (s46 _ _ hF4)⟩, _, rfl, q, _, rfl, .inl ⟨SqL.of hq6, fun z nz => ?_⟩⟩
        have sz := Same.new (o := .tup (row.map V.int)) nz
        have s47 := s46.trans sz
        have lws := hw.len
        have NFz : F ≠ z := fun e => by
          have := s46 _ _ hF4
          rw [e, nz] at this
          cases this
        refine ⟨F, ws, .ref z, rfl, rfl, s47 _ _ hF4, small1000 (by omega), ?_⟩
        have hF7 := s47 _ _ hF4
        refine ⟨some (.int (0 + (i : Nat))), some (.ref t), v7', some (.ref q), ws ++ [.ref z], ds ++ [row], k2 + 1 + 2 * (1 + r').toNat, ?_, upd_same, ?_, ⟨fun r hr => ?_, ?_, ?_⟩, ?_, by omega, ?_, ?_⟩
        · rw [prdL_snoc, List.length_map]
          rfl
        · exact RowsAt.tk ((hw4.same s46).snoc sz (SqT.of upd_same)) (tk_lst hF7)
        · rcases List.mem_append.mp hr with h | h
          · exact pt.rows r h
          · rw [List.mem_singleton.mp h]
            exact ⟨lr1, by omega, asc, bds⟩
        · rw [prdL_snoc]
          exact fewer
        · rw [prdL_snoc]
          exact Nat.mul_pos pos lr1
        · rw [List.length_append, hl]
          rfl
        · exact (S4.same s47).upd NF.1 NF.2.1 NF.2.2
        · exact ((fm2.trans fm4).same s47).upd nF
    · rintro σ H2 ⟨v5, v6, v7, v8, ws, ds, k2, rfl, hF2, hw, pt, hl, hk2, S2, fm2⟩
      refine ⟨_, rfl, F, ws, rfl, .inl ⟨SqL.of hF2, fun z nz => ?_⟩⟩
      have sz := Same.new (o := .tup ws) nz
      exact kk _ (.ref z) ds k2 (by omega) ⟨⟨by omega, by omega⟩, pt.rows, Nat.le_trans pt.few (by decide)⟩ (S2.same sz) (fm2.same sz) (.tup (SqT.of upd_same) (hw.same sz))
end
end CS
set_option Elab.async false
set_option maxRecDepth 100000
set_option maxHeartbeats 8000000
set_option linter.unusedVariables false
set_option pp.maxSteps 6000
/-! a claim, heard -/
namespace CS
open PySem L2 RZ
def claimD (ds : Dys) (t : Tm) : PyData := .tuple (((pathsL ds).map fun y => t.pays y).map .int)
def heardTD (ds : Dys) (t : Tm) : PyData := match t.fault ds.length (pathsL ds) [] with
  | some f => .tuple [.str "term", rowD_ f]
  | none => .list [claimD ds t]
/-- what is heard, in its place -/
def HeardAt (K : PySem.W.Frag) (H : Hp) (y : Addr) (ds : Dys) (t : Tm) : Prop := match t.fault ds.length (pathsL ds) [] with
  | some f => Dp K H (.ref y) (.tuple [.str "term", rowD_ f])
  | none => ∃ c, H y = some (.lst [.ref c]) ∧ SqT K H c (((pathsL ds).map fun y => t.pays y).map V.int)
theorem HeardAt.dp {K : PySem.W.Frag} {H : Hp} {y : Addr} {ds : Dys} {t : Tm} (h : HeardAt K H y ds t) : Dp K H (.ref y) (heardTD ds t) := by
  unfold HeardAt at h
  unfold heardTD
  cases e : t.fault ds.length (pathsL ds) [] with
  | some f => rw [e] at h; exact h
  | none =>
    rw [e] at h
    obtain ⟨c, h1, h2⟩ := h
    exact .lst (SqL.of h1) (.cons (.tup h2 (DpAll.ints _)) .nil)
theorem HeardAt.same {K : PySem.W.Frag} {H H' : Hp} {y : Addr} {ds : Dys} {t : Tm} (h : HeardAt K H y ds t) (s : Same H H') : HeardAt K H' y ds t := by
  unfold HeardAt at h ⊢
  cases e : t.fault ds.length (pathsL ds) [] with
  | some f => rw [e] at h; exact Dp.same s h
  | none =>
    rw [e] at h
    obtain ⟨c, h1, h2⟩ := h
    exact ⟨c, s _ _ h1, s.tup h2⟩
theorem HeardAt.upd {K : PySem.W.Frag} {H : Hp} {y q : Addr} {xs zs : List V} {ds : Dys} {t : Tm} (h : HeardAt K H y ds t) (n : t.fault ds.length (pathsL ds) [] = none → y ≠ q) (e0 : H q = some (.lst xs)) : HeardAt K (upd H q (.lst zs)) y ds t := by
  unfold HeardAt at h ⊢
  cases e : t.fault ds.length (pathsL ds) [] with
  | some f =>
    rw [e] at h
    refine Dp.tk (tk_lst e0) ?_ h
    show (true && (flatDs (f.map .int) && true)) = true
    rw [flatDs_ints f]
    rfl
  | none =>
    rw [e] at h
    obtain ⟨c, h1, h2⟩ := h
    exact ⟨c, by rw [upd_ne (n e)]; exact h1, tk_lst e0 _ _ h2⟩
theorem HeardAt.ne {K : PySem.W.Frag} {H : Hp} {y q : Addr} {ds : Dys} {t : Tm} (h : HeardAt K H y ds t) (nq : H q = none) : t.fault ds.length (pathsL ds) [] = none → y ≠ q := fun e z => by
  unfold HeardAt at h
  rw [e] at h
  obtain ⟨c, h1, h2⟩ := h
  rw [z, nq] at h1
  cases h1
theorem none_of {H H' : Hp} {q : Addr} (s : Same H H') (n : H' q = none) : H q = none := by
  cases e : H q with
  | none => rfl
  | some o =>
    rw [s _ _ e] at n
    cases n
section
variable {P : Program} {w : World} {K : PySem.W.Frag} {mg : Str → Option Value} {base : Heap}
def spHeardT (K : PySem.W.Frag) : Sp := fun vs H Q _ => ∃ v ds u t, vs = [v, u] ∧ Dp K H v (dysD ds) ∧ DysOk ds ∧ Dp K H u (Tm.toD t) ∧ t.Ok ∧ t.words ≤ 20 ∧ t.height ≤ 5 ∧
  ∀ H' y, Same H H' → H y = none → HeardAt K H' y ds t → Q (.ref y) H'
theorem scLawHeardT : FnScope ["days_so", "term", "error"] ["days_so", "term"] (defScope sLawHeard) := ⟨rfl, rfl, rfl, by decide +kernel, rfl, by decide +kernel, by decide +kernel⟩
theorem ok_law_heardT {f f1 CB fI : Addr} {fd fd1 fdI : FuncData} (F : Df K mg "_law_heard" sLawHeard ["days_so", "term"] f fd) (D1 : Df K mg "claim_of" sClaimOf ["days", "term"] f1 fd1) (G1 : FnOk P w K mg base (L2.CX P w) 12 f1 fd1 ["days", "term"] (spClaimOf K CB))
    (Z : Xc K mg "BadTerm" "path" CB fI bmV "ValueError.__new__" (inClass sBadTerm 0) "BadTerm.__init__" fdI) (xPP : PySem.W.exmOne K (.ref CB) (.ref CB) = some true) : FnOk P w K mg base CX0 13 f fd ["days_so", "term"] (spHeardT K) := by
  refine F.F.ok scLawHeardT (fun vs H Q E h => ?_) (fun cdv A outer s H vs Q E hr h => ?_)
  · obtain ⟨v, ds, u, t, rfl, _⟩ := h
    rfl
  · obtain ⟨v, ds, u, t, rfl, hv, ok, hu1, tok, w20, h5, k⟩ := h
    refine ⟨_, pss_one (ps_tryx rfl rfl scLawHeardT.nd takes0 (.named (i := 2) ⟨rfl, by decide, .inl Z.T.gC⟩ rfl rfl (fun a oe cls d pn hz hf => pss_one (ps_ret (pe_tup (pa_cons pe_str (pa_cons (pe_xf Z.T.xf Z.T.noF hz hf (pv 2)) pa_nil))))) .nil)
        (fun W pn xe tk _ => pss_one (ps_ret (pe_lst (pa_cons (pe_callS G1 hr (by rfl) D1.g D1.F.kp D1.b (fun σ => passAt tk σ) (pa_cons (pv 0) (pa_cons (pv 1) pa_nil))) pa_nil))))), ?_⟩
    refine ⟨_, rfl, _, rfl, v, ds, u, t, rfl, hv, ok, hu1, tok, w20, h5, fun H1 s1 => ⟨fun fl ef q dd hq ndd => ⟨true, xPP, fun _ a na => ?_, fun z => Bool.noConfusion z⟩, fun ef c hc => ⟨(by show 1 ≤ sizeLine; decide), fun y ny => k _ y (s1.trans (Same.new ny)) (none_of s1 ny) ?_⟩⟩⟩
    · refine ⟨_, rfl, rfl, rfl, dd, _, _, rfl, upd_same, rfl, (by show 2 ≤ sizeLine; decide), fun y ny => k _ y ?_ (none_of (s1.trans (Same.new ndd)) ny) ?_⟩
      · exact s1.trans ((Same.new ndd).trans (Same.new ny))
      · unfold HeardAt
        rw [ef]
        exact .tup (SqT.of upd_same) (.cons (.str _) (.cons (.tup (((Same.new ndd).trans (Same.new ny)).tup hq) (DpAll.ints _)) .nil))
    · unfold HeardAt
      rw [ef]
      exact ⟨c, upd_same, (Same.new ny).tup hc⟩
end
end CS
set_option Elab.async false
set_option maxRecDepth 100000
set_option maxHeartbeats 8000000
set_option linter.unusedVariables false
set_option pp.maxSteps 2000
/-! data of this law that may be shown -/
namespace CS
open PySem L2
structure Shows (d : PyData) : Prop where
  ok : d.showable = true
  nd : d.hasDict = false
  dp : d.depth ≤ 60
  sz : d.shown.length + 64 ≤ sizeLine
/-- a datum of some depth and weight -/
structure Sh (dp wt : Nat) (d : PyData) : Prop where
  ok : d.showable = true
  nd : d.hasDict = false
  lv : d.leavesShort 100 = true
  dp : d.depth ≤ dp
  wt : d.weight ≤ wt
structure ShL (dp wt : Nat) (ds : List PyData) : Prop where
  ok : PyData.showableAll ds = true
  nd : PyData.hasDictAll ds = false
  lv : PyData.leavesShortAll 100 ds = true
  dp : PyData.depthAll ds ≤ dp
  wt : PyData.weightAll ds ≤ wt
theorem Sh.up {a b c e : Nat} {d : PyData} (h : Sh a b d) (h1 : a ≤ c) (h2 : b ≤ e) : Sh c e d := ⟨h.ok, h.nd, h.lv, Nat.le_trans h.dp h1, Nat.le_trans h.wt h2⟩
theorem Sh.shows {a b : Nat} {d : PyData} (h : Sh a b d) (h1 : a ≤ 60) (h2 : b ≤ 100000) : Shows d := by
  refine ⟨h.ok, h.nd, Nat.le_trans h.dp h1, ?_⟩
  have h3 := PyData.shown_le 100 (by decide) d h.lv
  have h4 : (100 + 2) * d.weight + 100 ≤ 102 * 100000 + 100 := Nat.add_le_add_right (Nat.mul_le_mul_left 102 (Nat.le_trans h.wt h2)) 100
  have h5 : 102 * 100000 + 100 + 64 ≤ sizeLine := by decide
  omega
theorem ShL.nil (dp : Nat) : ShL dp 0 [] := ⟨rfl, rfl, rfl, Nat.zero_le _, Nat.le_refl _⟩
theorem ShL.cons {dp a b : Nat} {d : PyData} {ds : List PyData} (h : Sh dp a d) (g : ShL dp b ds) : ShL dp (a + 1 + b) (d :: ds) := by
  refine ⟨?_, ?_, ?_, ?_, ?_⟩
  · simp only [PyData.showableAll, h.ok, g.ok, Bool.and_self]
  · simp only [PyData.hasDictAll, h.nd, g.nd, Bool.or_self]
  · simp only [PyData.leavesShortAll, h.lv, g.lv, Bool.and_self]
  · simp only [PyData.depthAll]
    exact Nat.max_le.mpr ⟨h.dp, g.dp⟩
  · simp only [PyData.weightAll]
    have := h.wt
    have := g.wt
    omega
theorem Sh.tup {dp b : Nat} {ds : List PyData} (g : ShL dp b ds) : Sh (dp + 1) b (.tuple ds) := by
  refine ⟨?_, ?_, ?_, ?_, ?_⟩
  · simp only [PyData.showable, g.ok]
  · simp only [PyData.hasDict, g.nd]
  · simp only [PyData.leavesShort, g.lv]
  · simp only [PyData.depth]
    have := g.dp
    omega
  · simp only [PyData.weight]
    exact g.wt
theorem Sh.lst {dp b : Nat} {ds : List PyData} (g : ShL dp b ds) : Sh (dp + 1) b (.list ds) := by
  refine ⟨?_, ?_, ?_, ?_, ?_⟩
  · simp only [PyData.showable, g.ok]
  · simp only [PyData.hasDict, g.nd]
  · simp only [PyData.leavesShort, g.lv]
  · simp only [PyData.depth]
    have := g.dp
    omega
  · simp only [PyData.weight]
    exact g.wt
theorem Sh.int {i : Int} (h : i.natAbs ≤ 1000000) : Sh 0 20 (.int i) := by
  have h1 : i.natAbs.log2 < 20 := PySem.Flt.log2_lt_of (by decide) (by omega)
  have h2 := PyData.shown_int_le (i := i) (by omega)
  refine ⟨?_, rfl, ?_, by simp [PyData.depth], ?_⟩
  · simp only [PyData.showable]
    exact decide_eq_true (by omega)
  · simp only [PyData.leavesShort]
    exact decide_eq_true (by omega)
  · simp only [PyData.weight]
    split <;> omega
theorem Sh.word (t : Tm) : Sh 0 10 (.str t.word) := by
  cases t <;> simp only [Tm.word] <;> exact ⟨by decide +kernel, by decide +kernel, by decide +kernel, by decide +kernel, by decide +kernel⟩
theorem ShL.ints {dp : Nat} : ∀ {ns : List Int}, (∀ n ∈ ns, n.natAbs ≤ 1000000) → ShL dp (ns.length * 21) (ns.map .int)
  | [], _ => .nil dp
  | n :: ns, h => by
    have a := ShL.ints (dp := dp) fun m hm => h m (List.mem_cons_of_mem _ hm)
    have b := ShL.cons ((Sh.int (h n List.mem_cons_self)).up (Nat.zero_le dp) (Nat.le_refl _)) a
    rw [List.length_cons, Nat.succ_mul]
    rw [show ns.length * 21 + 21 = 20 + 1 + ns.length * 21 by omega]
    exact b
theorem ShL.all {dp w : Nat} : ∀ {ds : List PyData}, (∀ d ∈ ds, Sh dp w d) → ShL dp (ds.length * (w + 1)) ds
  | [], _ => by rw [List.length_nil, Nat.zero_mul]; exact .nil dp
  | d :: ds, h => by
    have a := ShL.all fun m hm => h m (List.mem_cons_of_mem _ hm)
    have b := ShL.cons (h d List.mem_cons_self) a
    rw [List.length_cons, Nat.succ_mul]
    rw [show ds.length * (w + 1) + (w + 1) = w + 1 + ds.length * (w + 1) by omega]
    exact b
theorem Sh.row {r : List Int} (l : r.length ≤ 32) (h : ∀ n ∈ r, n.natAbs ≤ 1000000) : Sh 1 700 (rowD_ r) := (Sh.tup (ShL.ints (dp := 0) h)).up (Nat.le_refl _) (by omega)
theorem Sh.days {ds : Dys} (ok : DysOk ds) : Sh 2 3000 (dysD ds) := by
  have l4 := ok.len.2
  refine (Sh.tup (ShL.all (dp := 1) (w := 700) fun d hd => ?_)).up (Nat.le_refl _) ?_
  · obtain ⟨r, hr, rfl⟩ := List.mem_map.mp hd
    obtain ⟨r1, r8, _, b⟩ := ok.rows r hr
    exact Sh.row (by omega) fun n hn => by have := b n hn; omega
  · rw [List.length_map]
    omega
theorem okN_abs {n : Int} (h : Tm.okN n) : n.natAbs ≤ 1000000 := by
  obtain ⟨h1, h2⟩ := h
  omega
theorem Sh.num (dp : Nat) {n : Int} (h : n.natAbs ≤ 1000000) : Sh dp 20 (.int n) := (Sh.int h).up (Nat.zero_le _) (Nat.le_refl _)
theorem Sh.wrd (dp : Nat) (t : Tm) : Sh dp 10 (.str t.word) := (Sh.word t).up (Nat.zero_le _) (Nat.le_refl _)
theorem Sh.term : ∀ {t : Tm}, t.Ok → Sh t.height (60 * t.words) t.toD
  | .cash_ n, h => (Sh.tup (.cons (.wrd 0 (.cash_ n)) (.cons (.num 0 (okN_abs h)) (.nil _)))).up (Nat.le_refl _) (by simp only [Tm.words]; omega)
  | .at_ d, h => (Sh.tup (.cons (.wrd 0 (.at_ d)) (.cons (.num 0 (by have : d ≤ 3 := h; omega)) (.nil _)))).up (Nat.le_refl _) (by simp only [Tm.words]; omega)
  | .above_ d n, h => (Sh.tup (.cons (.wrd 0 (.above_ d n)) (.cons (.num 0 (by have : d ≤ 3 := h.1; omega)) (.cons (.num 0 (okN_abs h.2)) (.nil _))))).up (Nat.le_refl _) (by simp only [Tm.words]; omega)
  | .below_ d n, h => (Sh.tup (.cons (.wrd 0 (.below_ d n)) (.cons (.num 0 (by have : d ≤ 3 := h.1; omega)) (.cons (.num 0 (okN_abs h.2)) (.nil _))))).up (Nat.le_refl _) (by simp only [Tm.words]; omega)
  | .lowest_ d, h => (Sh.tup (.cons (.wrd 0 (.lowest_ d)) (.cons (.num 0 (by have : d ≤ 3 := h; omega)) (.nil _)))).up (Nat.le_refl _) (by simp only [Tm.words]; omega)
  | .highest_ d, h => (Sh.tup (.cons (.wrd 0 (.highest_ d)) (.cons (.num 0 (by have : d ≤ 3 := h; omega)) (.nil _)))).up (Nat.le_refl _) (by simp only [Tm.words]; omega)
  | .both_ s t, h => (Sh.tup (.cons (.wrd _ (.both_ s t)) (.cons ((Sh.term h.1).up (Nat.le_max_left s.height t.height) (Nat.le_refl _)) (.cons ((Sh.term h.2).up (Nat.le_max_right s.height t.height) (Nat.le_refl _)) (.nil _))))).up (Nat.le_refl _) (by simp only [Tm.words]; omega)
  | .short_ s, h => (Sh.tup (.cons (.wrd _ (.short_ s)) (.cons (Sh.term (t := s) h) (.nil _)))).up (Nat.le_refl _) (by simp only [Tm.words]; omega)
  | .times_ s n, h => (Sh.tup (.cons (.wrd _ (.times_ s n)) (.cons (Sh.term h.1) (.cons (.num _ (okN_abs h.2)) (.nil _))))).up (Nat.le_refl _) (by simp only [Tm.words]; omega)
  | .lesser_ s t, h => (Sh.tup (.cons (.wrd _ (.lesser_ s t)) (.cons ((Sh.term h.1).up (Nat.le_max_left s.height t.height) (Nat.le_refl _)) (.cons ((Sh.term h.2).up (Nat.le_max_right s.height t.height) (Nat.le_refl _)) (.nil _))))).up (Nat.le_refl _) (by simp only [Tm.words]; omega)
  | .greater_ s t, h => (Sh.tup (.cons (.wrd _ (.greater_ s t)) (.cons ((Sh.term h.1).up (Nat.le_max_left s.height t.height) (Nat.le_refl _)) (.cons ((Sh.term h.2).up (Nat.le_max_right s.height t.height) (Nat.le_refl _)) (.nil _))))).up (Nat.le_refl _) (by simp only [Tm.words]; omega)
  | .cond_ d n s t, h => (Sh.tup (.cons (.wrd _ (.cond_ d n s t)) (.cons (.num _ (by have : d ≤ 3 := h.1; omega)) (.cons (.num _ (okN_abs h.2.1)) (.cons ((Sh.term h.2.2.1).up (Nat.le_max_left s.height t.height) (Nat.le_refl _)) (.cons ((Sh.term h.2.2.2).up (Nat.le_max_right s.height t.height) (Nat.le_refl _)) (.nil _))))))).up (Nat.le_refl _) (by simp only [Tm.words]; omega)
theorem Tm.kid_low {t : Tm} : ∀ kd ∈ t.kids, kd.1 ≤ 4 := by
  cases t <;> (intro k hk; simp only [Tm.kids, List.mem_cons, List.not_mem_nil, or_false] at hk)
  all_goals (first | (rcases hk with rfl | rfl <;> simp) | (rcases hk with rfl; simp))
theorem Tm.fault_path {n : Nat} {ws : List (List Int)} : ∀ (h : Nat) (t : Tm) (p f : List Int), t.height ≤ h → t.fault n ws p = some f → (∀ a ∈ p, a.natAbs ≤ 4) → f.length ≤ p.length + h ∧ ∀ a ∈ f, a.natAbs ≤ 4
  | 0, t, _, _, hh, _, _ => by
    have := t.height_pos
    omega
  | h + 1, t, p, f, hh, e, hp => by
    rw [Tm.fault_kids] at e
    cases e1 : Tm.faults n ws p t.kids with
    | none =>
      rw [e1] at e
      dsimp only at e
      unfold Tm.own at e
      have : f = p := by
        split at e
        · exact (Option.some.inj e).symm
        · split at e
          · exact (Option.some.inj e).symm
          · cases e
      rw [this]
      exact ⟨by omega, hp⟩
    | some g =>
      rw [e1] at e
      obtain rfl := Option.some.inj e
      obtain ⟨kd, hk, ek⟩ := found e1
      have kh := Tm.kids_height kd hk
      have k4 := Tm.kid_low kd hk
      obtain ⟨q1, q2⟩ := Tm.fault_path h kd.2 (p ++ [(kd.1 : Int)]) g (by omega) ek fun a ha => by
        rcases List.mem_append.mp ha with z | z
        · exact hp a z
        · rw [List.mem_singleton.mp z]
          omega
      rw [List.length_append, List.length_singleton] at q1
      exact ⟨by omega, q2⟩
where found {n : Nat} {ws : List (List Int)} {p g : List Int} : ∀ {l : List (Nat × Tm)}, Tm.faults n ws p l = some g → ∃ kd ∈ l, kd.2.fault n ws (p ++ [(kd.1 : Int)]) = some g
    | k :: l, e => by
      unfold Tm.faults at e
      cases e1 : k.2.fault n ws (p ++ [(k.1 : Int)]) with
      | some f =>
        rw [e1] at e
        exact ⟨k, List.mem_cons_self, by rw [e1]; exact e⟩
      | none =>
        rw [e1] at e
        obtain ⟨kd, hk, q⟩ := found e
        exact ⟨kd, List.mem_cons_of_mem _ hk, q⟩
theorem Sh.heard {ds : Dys} {t : Tm} (ok : DysOk ds) (h5 : t.height ≤ 5) : Sh 2 1500 (heardTD ds t) := by
  unfold heardTD
  cases e : t.fault ds.length (pathsL ds) [] with
  | some f =>
    obtain ⟨l, b⟩ := Tm.fault_path 5 t [] f h5 e fun a ha => nomatch ha
    rw [List.length_nil] at l
    exact (Sh.tup (.cons (d := .str "term") ((⟨by decide +kernel, by decide +kernel, by decide +kernel, by decide +kernel, by decide +kernel⟩ : Sh 0 10 (.str "term")).up (Nat.zero_le 1) (Nat.le_refl _)) (.cons (Sh.row (r := f) (by omega) fun n hn => by have := b n hn; omega) (.nil _)))).up (Nat.le_refl _) (by decide)
  | none =>
    obtain ⟨_, g⟩ := Tm.fault_bound e
    have few := ok.few
    rw [← paths_len] at few
    refine (Sh.lst (.cons (d := claimD ds t) (Sh.row (r := (pathsL ds).map fun y => t.pays y) (by rw [List.length_map]; exact few) fun n hn => ?_) (.nil _))).up (Nat.le_refl _) (by decide)
    obtain ⟨y, hy, rfl⟩ := List.mem_map.mp hn
    have := Tm.not_great g y hy
    omega
theorem shows_days {ds : Dys} {t : Tm} (ok : DysOk ds) (tok : t.Ok) (w : t.words ≤ 20) (h5 : t.height ≤ 5) : Shows (.list [dysD ds, t.toD]) :=
  (Sh.lst (.cons ((Sh.days ok).up (show 2 ≤ 5 by decide) (Nat.le_refl _)) (.cons ((Sh.term tok).up h5 (show 60 * t.words ≤ 1200 by omega)) (.nil _)))).shows (by decide) (by decide)
theorem shows_heard {ds : Dys} {t : Tm} (ok : DysOk ds) (h5 : t.height ≤ 5) : Shows (.list [heardTD ds t, heardTD ds t]) := (Sh.lst (.cons (Sh.heard ok h5) (.cons (Sh.heard ok h5) (.nil _)))).shows (by decide) (by decide)
theorem le_sum_mem {a : Nat} : ∀ {l : List Nat}, a ∈ l → a ≤ l.sum
  | b :: l, h => by
    rw [List.sum_cons]
    rcases List.mem_cons.mp h with rfl | h
    · omega
    · have := le_sum_mem h
      omega
def innerD (t : Tm) : PyData := .tuple (t.kids.map fun k => k.2.toD)
theorem Sh.inner {t : Tm} (tok : t.Ok) (w : t.words ≤ 20) (h5 : t.height ≤ 5) : Sh 6 30000 (innerD t) := by
  have few : t.kids.length ≤ 20 := by
    have e1 : (kidsI [] t).length = t.kids.length := by simp [kidsI]
    have := wsum_len (kidsI [] t)
    have := kidsI_sum [] t
    omega
  refine (Sh.tup (ShL.all (dp := 5) (w := 1200) fun d hd => ?_)).up (Nat.le_refl _) ?_
  · obtain ⟨k, hk, rfl⟩ := List.mem_map.mp hd
    have := Tm.kids_height k hk
    have wk : k.2.words ≤ t.words := by
      rw [← Tm.kids_words (t := t)]
      have := le_sum_mem (List.mem_map.mpr ⟨k, hk, rfl⟩ : k.2.words ∈ t.kids.map fun k => k.2.words)
      omega
    exact (Sh.term (Tm.kids_ok tok k hk)).up (by omega) (by omega)
  · rw [List.length_map]
    have := Nat.mul_le_mul_right (1200 + 1) few
    omega
theorem shows_kids {t : Tm} (tok : t.Ok) (w : t.words ≤ 20) (h5 : t.height ≤ 5) : Shows (.list [t.toD, innerD t, innerD t]) :=
  (Sh.lst (.cons ((Sh.term tok).up (show t.height ≤ 6 by omega) (show 60 * t.words ≤ 1200 by omega)) (.cons (Sh.inner tok w h5) (.cons (Sh.inner tok w h5) (.nil _))))).shows (by decide) (by decide)
end CS
set_option Elab.async false
set_option maxRecDepth 100000
set_option maxHeartbeats 8000000
set_option linter.unusedVariables false
set_option pp.maxSteps 6000
/-! one term over some days: all that the law asks -/
namespace CS
open PySem L2 RZ
theorem tif_road {R : Hp → Addr → Prop} {tA tB : TE} {σ : L2.St} {H : Hp} {Q : VK} {c : Bool} (k : (∀ H' y, R H' y → Q (.ref y) H') → if c = true then tA σ H Q else tB σ H Q) (r : ∀ H' y, R H' y → Q (.ref y) H') : if c = true then tA σ H Q else tB σ H Q := k r
section
variable {P : Program} {w : World} {K : PySem.W.Frag} {mg : Str → Option Value} {base : Heap}
def spRightT (K : PySem.W.Frag) : Sp := fun vs H Q _ => ∃ v ds u t, vs = [v, u] ∧ Dp K H v (dysD ds) ∧ DysOk ds ∧ Dp K H u (Tm.toD t) ∧ t.Ok ∧ t.words ≤ 20 ∧ t.height ≤ 5 ∧ ∀ H', Same H H' → Q (.bl true) H'
abbrev nsLawIsRight : List Str := ["days_so", "term", "was", "paths_so", "found", "due", "way", "inner", "place"]
theorem scLawIsRight : FnScope nsLawIsRight ["days_so", "term"] (defScope sLawIsRight) := ⟨rfl, rfl, rfl, by decide +kernel, rfl, by decide +kernel, by decide +kernel⟩
theorem ok_law_is_right {f : Addr} {fd : FuncData} (F : Df K mg "_law_is_right" sLawIsRight ["days_so", "term"] f fd)
    {f1 : Addr} {fd1 : FuncData} (D1 : Df K mg "kids_of" sKidsOf ["term"] f1 fd1) (G1 : FnOk P w K mg base CX0 7 f1 fd1 ["term"] (spKids K))
    {f2 : Addr} {fd2 : FuncData} (D2 : Df K mg "need_term" sNeedTerm ["thing"] f2 fd2) (G2 : FnOk P w K mg base CX0 6 f2 fd2 ["thing"] (spNeedTerm K))
    {f3 : Addr} {fd3 : FuncData} (D3 : Df K mg "_law_places" sLawPlaces ["term"] f3 fd3) (G3 : FnOk P w K mg base CX0 1 f3 fd3 ["term"] (spLPlaces K))
    {f4 : Addr} {fd4 : FuncData} (D4 : Df K mg "_law_heard" sLawHeard ["days_so", "term"] f4 fd4) (G4 : FnOk P w K mg base CX0 13 f4 fd4 ["days_so", "term"] (spHeardT K))
    {f5 : Addr} {fd5 : FuncData} (D5 : Df K mg "_law_pays" sLawPays ["term", "path"] f5 fd5) (G5 : FnOk P w K mg base CX0 7 f5 fd5 ["term", "path"] (spLPay K 5))
    {f6 : Addr} {fd6 : FuncData} (D6 : Df K mg "_law_fault" sLawFault ["days_so", "paths_so", "term", "path"] f6 fd6) (G6 : FnOk P w K mg base CX0 13 f6 fd6 ["days_so", "paths_so", "term", "path"] (spLFault K 5))
    {f7 : Addr} {fd7 : FuncData} (D7 : Df K mg "_law_paths" sLawPaths ["days_so"] f7 fd7) (G7 : FnOk P w K mg base CX0 1 f7 fd7 ["days_so"] (spLPaths K))
    (T : Bt mg) (mrepr : mg "repr" = none) : FnG P w K mg base CX0 14 f fd ["days_so", "term"] (spRightT K) := by
  refine FnG.of_body F.F scLawIsRight (fun vs H Q E h => ?_) (fun cdv A outer s H vs Q E hq hr h => ?_)
  · obtain ⟨v, ds, u, t, rfl, _⟩ := h
    rfl
  · obtain ⟨v, ds, u, t, rfl, hv, ok, hu1, tok, w20, h5, k⟩ := h
    have hq2 : (A.deeper (PyProof.Rows.envOfC "_law_is_right" (defScope sLawIsRight) s.heap.objs.size f cdv)).guards = some [] := hq
    refine ⟨_, PSs.nox (pss_cons (ps_par (i := 2) (j := 3) (by rfl) scLawIsRight.nd rfl rfl (by decide) rfl rfl (pa_cons (pe_callB (call_show hq2 hr.units) (by rfl) mrepr (by decide +kernel) (pa_cons (pe_lst (pa_cons (pv 0) (pa_cons (pv 1) pa_nil))) pa_nil)) (pa_cons (pe_call G7 (hr.mono (by decide)) (by rfl) D7.g D7.F.kp D7.b .nil pass0 (pa_cons (pv 0) pa_nil)) pa_nil)) (by rfl))
      (pss_cons (ps_set (i := 4) scLawIsRight.nd rfl (Or.inl rfl) (pe_call G6 (hr.mono (by decide)) (by rfl) D6.g D6.F.kp D6.b .nil pass0 (pa_cons (pv 0) (pa_cons (pv 3) (pa_cons (pv 1) (pa_cons (pe_tup pa_nil) pa_nil))))))
      (pss_cons (ps_set (i := 5) scLawIsRight.nd rfl (Or.inl rfl) (pe_ifExp (pt_cmpR (op_neD hr.units) (pv 4) (pe_lst pa_nil) (nomark _)) (pe_tup (pa_cons pe_str (pa_cons (pe_ix ix_list (pv 4) pe_int (fun _ _ => rfl)) pa_nil))) (pe_lst (pa_cons (pe_callTy call_tuple_of (by rfl) T.tuple (by decide +kernel) (pa_cons (pe_lc (own := [("way", 6)]) (g := gName 6) (tt := tYes) rfl scLawIsRight.nd (pi_list (pv 3)) (blkOk_by (N := nsLawIsRight) (sc := defScope sLawIsRight) (by decide +kernel)) (fun _ _ _ _ _ => pg_name (i := 6) scLawIsRight.nd rfl (Or.inl rfl)) (fun _ _ _ _ _ => pts_nil) (fun _ _ _ _ _ => (pe_call G5 (hr.mono (by decide)) (by rfl) D5.g D5.F.kp D5.b .nil pass0 (pa_cons (pv 1) (pa_cons (pv 6) pa_nil))))) pa_nil)) pa_nil))))
      (pss_cons (ps_if (pt_cmpR op_ne (pe_callB (call_show hq2 hr.units) (by rfl) mrepr (by decide +kernel) (pa_cons (pe_lst (pa_cons (pe_call G4 (hr.mono (by decide)) (by rfl) D4.g D4.F.kp D4.b .nil pass0 (pa_cons (pv 0) (pa_cons (pv 1) pa_nil))) (pa_cons (pe_call G4 (hr.mono (by decide)) (by rfl) D4.g D4.F.kp D4.b .nil pass0 (pa_cons (pv 0) (pa_cons (pv 1) pa_nil))) pa_nil))) pa_nil)) (pe_callB (call_show hq2 hr.units) (by rfl) mrepr (by decide +kernel) (pa_cons (pe_lst (pa_cons (pv 5) (pa_cons (pv 5) pa_nil))) pa_nil)) (nomark _)) (pss_one (ps_ret pe_bl)) pss_nil)
      (pss_cons (ps_set (i := 7) scLawIsRight.nd rfl (Or.inl rfl) (pe_callTy call_tuple_of (by rfl) T.tuple (by decide +kernel) (pa_cons (pe_lc (own := [("place", 8)]) (g := gName 8) (tt := tYes) rfl scLawIsRight.nd (pi_tup (pe_call G3 (hr.mono (by decide)) (by rfl) D3.g D3.F.kp D3.b .nil pass0 (pa_cons (pv 1) pa_nil))) (blkOk_by (N := nsLawIsRight) (sc := defScope sLawIsRight) (by decide +kernel)) (fun _ _ _ _ _ => pg_name (i := 8) scLawIsRight.nd rfl (Or.inl rfl)) (fun _ _ _ _ _ => pts_nil) (fun _ _ _ _ _ => (pe_ix (r := rIxT K) ix_tup (pv 1) (pv 8) (fun _ _ => rfl)))) pa_nil)))
      (pss_cons (ps_if (pt_cmpR op_ne (pe_callB (call_show hq2 hr.units) (by rfl) mrepr (by decide +kernel) (pa_cons (pe_lst (pa_cons (pe_call G2 (hr.mono (by decide)) (by rfl) D2.g D2.F.kp D2.b .nil pass0 (pa_cons (pv 1) pa_nil)) (pa_cons (pe_call G1 (hr.mono (by decide)) (by rfl) D1.g D1.F.kp D1.b .nil pass0 (pa_cons (pv 1) pa_nil)) (pa_cons (pe_call G1 (hr.mono (by decide)) (by rfl) D1.g D1.F.kp D1.b .nil pass0 (pa_cons (pv 1) pa_nil)) pa_nil)))) pa_nil)) (pe_callB (call_show hq2 hr.units) (by rfl) mrepr (by decide +kernel) (pa_cons (pe_lst (pa_cons (pv 1) (pa_cons (pv 7) (pa_cons (pv 7) pa_nil)))) pa_nil)) (nomark _)) (pss_one (ps_ret pe_bl)) pss_nil)
      (pss_one (ps_ret (pe_cmpR op_eq (pe_callB (call_show hq2 hr.units) (by rfl) mrepr (by decide +kernel) (pa_cons (pe_lst (pa_cons (pv 0) (pa_cons (pv 1) pa_nil))) pa_nil)) (pv 2) (nomark _)))))))))), ?_⟩
    have sA := shows_days ok tok w20 h5
    have sB := shows_heard (t := t) ok h5
    have sC := shows_kids tok w20 h5
    have dp2 : ∀ {H' : Hp} {l : Addr}, Same H H' → H' l = some (.lst [v, u]) → Dp K H' (.ref l) (.list [dysD ds, t.toD]) := fun s h => .lst (SqL.of h) (.cons (Dp.same s hv) (.cons (Dp.same s hu1) .nil))
    refine ⟨_, rfl, _, rfl, (by show 2 ≤ sizeLine; decide), fun l0 n0 => ?_⟩
    have s0 := Same.new (o := .lst [v, u]) n0
    refine ⟨.ref l0, _, rfl, dp2 s0 upd_same, sA.ok, sA.nd, sA.dp, sA.sz, ?_⟩
    refine ⟨_, rfl, v, ds, rfl, Dp.same s0 hv, ok, fun H1 p ws s01 hp hw => ⟨_, _, rfl, ?_⟩⟩
    have s1 := s0.trans s01
    refine ⟨_, rfl, _, rfl, _, rfl, (by show 0 ≤ sizeLine; decide), fun e0 m0 => ?_⟩
    have s1e := Same.new (o := .tup []) m0
    refine ⟨v, ds, p, ws, u, t, e0, [], rfl, Dp.same (s1.trans s1e) hv, ok, s1e.seq hp, hw.same s1e, Dp.same (s1.trans s1e) hu1, h5, SqT.of upd_same, by show 0 + _ ≤ 8; omega, fun H2 r s12 hr2 => ?_⟩
    have s2 := (s1.trans s1e).trans s12
    have hp2 := s12.seq (s1e.seq hp)
    have hw2 := (hw.same s1e).same s12
    refine ⟨_, rfl, (by show 0 ≤ sizeLine; decide), fun e1 m1 => ?_⟩
    have s2e := Same.new (o := .lst []) m1
    have hr3 := hr2.same s2e
    have hp3 := s2e.seq hp2
    have hw3 := hw2.same s2e
    have s3 := s2.trans s2e
    refine ⟨_, _, hr3.dp, .lst (ds := []) (SqL.of upd_same) .nil, found_shaped _, by rfl, _, rfl, ?_⟩
    rw [found_nil]
    generalize upd H2 e1 (.lst []) = H3 at *
    refine tif_road (R := fun H' y => Same H H' ∧ Dp K H' (.ref y) (heardTD ds t)) (fun q => ?_) (fun H4 y ⟨s4, dy⟩ => ?_)
    · cases e : t.fault ds.length (pathsL ds) [] with
      | some f =>
        rw [e] at hr3
        obtain ⟨b, h1, h2⟩ := hr3
        refine iteTe rfl ⟨_, rfl, r, _, 0, _, rfl, rfl, SqL.of h1, atI_nat (j := 0) rfl, (by show 2 ≤ sizeLine; decide), fun y ny => q _ y ⟨s3.trans (Same.new ny), ?_⟩⟩
        unfold heardTD
        rw [e]
        exact .tup (SqT.of upd_same) (.cons (.str _) (.cons (.tup ((Same.new ny).tup h2) (DpAll.ints _)) .nil))
      | none =>
        have lws := hw3.len
        have l32 : (pathsL ds).length ≤ 32 := by
          rw [paths_len]
          exact ok.few
        refine iteFe rfl ⟨_, rfl, p, rfl, ⟨_, hp3⟩, fun D nD => lc_it (walk_list (K := K) (a := p) (xs := ws)) (fun i H' => H' D = some (.lst ((((pathsL ds).take i).map fun y => t.pays y).map V.int)) ∧ Same H3 H') ⟨upd_same, Same.new nD⟩ (fun i H' _ ⟨_, s⟩ => s.seq hp3) ?_ ?_⟩
        · rintro i x H4 H5 hi ⟨h4, s4⟩ ⟨rfl, hx4⟩
          obtain ⟨b, y, rfl, hyp, hb⟩ := hw3.get hx4
          have ly : y.length = ds.length := paths_row ds y (List.mem_of_getElem? hyp)
          refine ⟨rfl, ?_⟩
          dsimp only [tYes]
          rw [if_pos rfl]
          refine ⟨_, rfl, _, rfl, u, t, b, y, rfl, Dp.same (s3.trans s4) hu1, h5, s4.tup hb, by have := ok.len.2; omega, ?_, fun H6 s6 => ⟨_, s6 _ _ h4, small1000 (by rw [List.length_map, List.length_map, List.length_take]; omega), ?_, same_upd nD (s4.trans s6)⟩⟩
          · rw [ly]
            exact (Tm.calm_fault (List.mem_of_getElem? hyp) 5 t [] h5 e).2
          · rw [upd_same, take_snoc hyp, List.map_append, List.map_append]
            rfl
        · rintro H4 ⟨h4, s4⟩
          rw [lws, List.take_length] at h4
          refine ⟨D, _, rfl, .inl ⟨SqL.of h4, fun c nc => ⟨(by show 1 ≤ sizeLine; decide), fun y ny => q _ y ⟨s3.trans (s4.trans ((Same.new nc).trans (Same.new ny))), ?_⟩⟩⟩⟩
          unfold heardTD
          rw [e]
          exact .lst (SqL.of upd_same) (.cons (.tup ((Same.new ny).tup (SqT.of upd_same)) (DpAll.ints _)) .nil)
    · refine ⟨_, rfl, _, rfl, v, ds, u, t, rfl, Dp.same s4 hv, ok, Dp.same s4 hu1, tok, w20, h5, fun H5 y1 s45 _ hd1 => ?_⟩
      have d1 := hd1.dp
      have s5 := s4.trans s45
      refine ⟨_, rfl, _, rfl, v, ds, u, t, rfl, Dp.same s5 hv, ok, Dp.same s5 hu1, tok, w20, h5, fun H6 y2 s56 _ hd2 => ⟨(by show 2 ≤ sizeLine; decide), fun l1 m1 => ?_⟩⟩
      have d2 := hd2.dp
      have s6 := s5.trans s56
      have q6 := Same.new (o := .lst [V.ref y1, V.ref y2]) m1
      refine ⟨.ref l1, _, rfl, .lst (SqL.of upd_same) (.cons (Dp.same (s56.trans q6) d1) (.cons (Dp.same q6 d2) .nil)), sB.ok, sB.nd, sB.dp, sB.sz, ?_⟩
      refine ⟨_, rfl, _, rfl, (by show 2 ≤ sizeLine; decide), fun l2 m2 => ?_⟩
      have q7 := Same.new (o := .lst [V.ref y, V.ref y]) m2
      have dy7 := Dp.same ((s45.trans s56).trans (q6.trans q7)) dy
      refine ⟨.ref l2, _, rfl, .lst (SqL.of upd_same) (.cons dy7 (.cons dy7 .nil)), sB.ok, sB.nd, sB.dp, sB.sz, rfl, _, rfl, iteFe (by rw [decide_eq_true rfl]; rfl) ?_⟩
      have s7 := s6.trans (q6.trans q7)
      generalize upd (upd H6 l1 (.lst [V.ref y1, V.ref y2])) l2 (.lst [V.ref y, V.ref y]) = H7 at *
      have hu7 := Dp.same s7 hu1
      refine ⟨_, rfl, u, t, rfl, hu7, fun H8 pl s78 hpl => ⟨pl, rfl, ⟨_, hpl⟩, fun D nD => ?_⟩⟩
      have s8 := s7.trans s78
      obtain ⟨a, xs, rfl, hs, hx⟩ := tm_at hu1
      have hs8 := s8.tup hs
      have hx8 := DpAll.same s8 hx
      have few : t.kids.length ≤ 20 := by
        have e1 : (kidsI [] t).length = t.kids.length := by simp [kidsI]
        have := wsum_len (kidsI [] t)
        have := kidsI_sum [] t
        omega
      refine lc_it (walk_tup (K := K) (a := pl) (xs := (t.kids.map fun k => (k.1 : Int)).map V.int)) (fun i H' => ∃ us, H' D = some (.lst us) ∧ Same H8 H' ∧ DpAll K H' us ((t.kids.take i).map fun k => k.2.toD)) ⟨[], upd_same, Same.new nD, .nil⟩ (fun i H' _ ⟨_, _, s, _⟩ => s.tup hpl) ?_ ?_
      · rintro i x H9 H10 hi ⟨us, h9, s9, c9⟩ ⟨rfl, hx0⟩
        rw [List.getElem?_map, List.getElem?_map] at hx0
        obtain ⟨z, hz, rfl⟩ := Option.map_eq_some_iff.mp hx0
        obtain ⟨kd, hk, rfl⟩ := Option.map_eq_some_iff.mp hz
        have mem : kd ∈ t.kids := List.mem_of_getElem? hk
        have hx9 := DpAll.same s9 hx8
        obtain ⟨child, hc, dc⟩ := DpAll.at (K := K) (H := H10) (vs := .str t.word :: xs) (ds := .str t.word :: t.rest) (.cons (.str _) hx9) (Tm.kids_at kd mem)
        have lu := c9.len
        rw [List.length_map, List.length_take] at lu
        refine ⟨rfl, ?_⟩
        dsimp only [tYes]
        rw [if_pos rfl]
        refine ⟨_, rfl, _, rfl, a, _, (kd.1 : Int), child, rfl, rfl, s9.tup hs8, atI_nat hc, us, h9, small1000 (by omega), us ++ [child], upd_same, same_upd nD s9, ?_⟩
        rw [take_snoc hk, List.map_append]
        refine DpAll.tk (tk_lst h9) ?_ (DpAll.app c9 (.cons dc .nil))
        rw [← List.map_append]
        exact flatKids _
      · rintro H9 ⟨us, h9, s9, c9⟩
        rw [List.length_map, List.length_map, List.take_length] at c9
        refine ⟨D, us, rfl, .inl ⟨SqL.of h9, fun c nc => ?_⟩⟩
        have sc := Same.new (o := .tup us) nc
        have dc : Dp K (upd H9 c (.tup us)) (.ref c) (innerD t) := .tup (SqT.of upd_same) (DpAll.same sc c9)
        have s10 := s8.trans (s9.trans sc)
        generalize upd H9 c (.tup us) = H10 at *
        refine ⟨_, rfl, .ref a, t, rfl, Dp.same s10 hu1, tok, w20, by omega, fun H11 s1011 => ?_⟩
        have s11 := s10.trans s1011
        refine ⟨_, rfl, .ref a, t, rfl, Dp.same s11 hu1, tok, w20, by omega, fun H12 p1 xs1 s1112 h12 d12 => ?_⟩
        have s12 := s11.trans s1112
        refine ⟨_, rfl, .ref a, t, rfl, Dp.same s12 hu1, tok, w20, by omega, fun H13 p2 xs2 s1213 h13 d13 => ⟨(by show 3 ≤ sizeLine; decide), fun l3 m3 => ?_⟩⟩
        have s13 := s12.trans s1213
        have q13 := Same.new (o := .lst [V.ref a, V.ref p1, V.ref p2]) m3
        have k1 : Dp K H12 (.ref p1) (innerD t) := .tup h12 d12
        have k2 : Dp K H13 (.ref p2) (innerD t) := .tup h13 d13
        refine ⟨.ref l3, _, rfl, .lst (SqL.of upd_same) (.cons (Dp.same (s13.trans q13) hu1) (.cons (Dp.same (s1213.trans q13) k1) (.cons (Dp.same q13 k2) .nil))), sC.ok, sC.nd, sC.dp, sC.sz, ?_⟩
        refine ⟨_, rfl, _, rfl, _, rfl, (by show 3 ≤ sizeLine; decide), fun l4 m4 => ?_⟩
        have q14 := Same.new (o := .lst [V.ref a, V.ref c, V.ref c]) m4
        have dc14 := Dp.same (s1011.trans (s1112.trans (s1213.trans (q13.trans q14)))) dc
        have s14 := s13.trans (q13.trans q14)
        refine ⟨.ref l4, _, rfl, .lst (SqL.of upd_same) (.cons (Dp.same s14 hu1) (.cons dc14 (.cons dc14 .nil))), sC.ok, sC.nd, sC.dp, sC.sz, rfl, _, rfl, iteFe (by rw [decide_eq_true rfl]; rfl) ?_⟩
        generalize upd (upd H13 l3 (.lst [V.ref a, V.ref p1, V.ref p2])) l4 (.lst [V.ref a, V.ref c, V.ref c]) = H14 at *
        refine ⟨_, rfl, _, rfl, (by show 2 ≤ sizeLine; decide), fun l5 m5 => ?_⟩
        have s15 := s14.trans (Same.new (o := .lst [v, V.ref a]) m5)
        refine ⟨.ref l5, _, rfl, dp2 s15 upd_same, sA.ok, sA.nd, sA.dp, sA.sz, _, rfl, rfl, ?_⟩
        rw [decide_eq_true rfl]
        exact k _ s15
end
end CS
set_option Elab.async false
set_option maxRecDepth 100000
set_option maxHeartbeats 4000000
set_option linter.unusedVariables false
/-! displays of data, with names in them that hold data -/
namespace CS
open PySem L2
theorem small_line {n : Nat} (h : n ≤ 1000) : n ≤ sizeLine := Nat.le_trans h (by decide)
/-- a state that news leave -/
def Stays (S : L2.St → Hp → Prop) : Prop := ∀ σ H H', S σ H → Same H H' → S σ H'
def tD (K : PySem.W.Frag) (S : L2.St → Hp → Prop) (d : PyData) : TE := fun σ H Q => S σ H ∧ ∀ H' v, Same H H' → Dp K H' v d → Q v H'
def tDs (K : PySem.W.Frag) (S : L2.St → Hp → Prop) (ds : List PyData) : TA := fun σ H Q => S σ H ∧ ∀ H' vs, Same H H' → DpAll K H' vs ds → Q vs H'
def tDL (K : PySem.W.Frag) (S : L2.St → Hp → Prop) (ds : List PyData) : TE := fun σ H Q => S σ H ∧ ∀ H' p vs, Same H H' → H' p = some (.lst vs) → DpAll K H' vs ds → Q (.ref p) H'
section
variable {X : Cx} {S : L2.St → Hp → Prop} {e : Expr} {es : List Expr} {d : PyData} {ds : List PyData} {pos : PySem.Pos} {k : Nat}
theorem pe_by {t t' : TE} (he : PE X e t) (h : ∀ σ H Q, t' σ H Q → t σ H Q) : PE X e t' := ⟨fun pins s σ H Q I q => he.run pins s σ H Q I (h σ H Q q)⟩
theorem pa_by {t t' : TA} (ha : PA X es t) (h : ∀ σ H Q, t' σ H Q → t σ H Q) : PA X es t' := ⟨fun pos pins s σ H Q I q => ha.run pos pins s σ H Q I (h σ H Q q)⟩
theorem d_int {i : Int} (he : PE X e (tC (.int i))) : PE X e (tD X.K S (.int i)) := pe_by he fun σ H Q q => q.2 H _ (Same.refl H) (.int i)
theorem d_neg {i : Int} (he : PE X e (tC (.int i))) : PE X (.UnaryOp .USub e pos) (tD X.K S (.int (-i))) := pe_by (pe_un un_neg he) fun σ H Q q => ⟨i, rfl, q.2 H _ (Same.refl H) (.int (-i))⟩
theorem d_str {x : Str} (he : PE X e (tC (.str x))) : PE X e (tD X.K S (.str x)) := pe_by he fun σ H Q q => q.2 H _ (Same.refl H) (.str x)
theorem d_var {i : Nat} (he : PE X e (tVar i)) (hS : ∀ σ H, S σ H → ∃ v, σ[i]? = some (some v) ∧ Dp X.K H v d) : PE X e (tD X.K S d) := pe_by he fun σ H Q q => by
  obtain ⟨v, h1, h2⟩ := hS σ H q.1
  exact ⟨v, h1, q.2 H v (Same.refl H) h2⟩
theorem d_nil : PA X [] (tDs X.K S []) := pa_by pa_nil fun σ H Q q => q.2 H [] (Same.refl H) .nil
theorem d_cons (st : Stays S) (he : PE X e (tD X.K S d)) (ha : PA X es (tDs X.K S ds)) (hs : starEach (e :: es) X.env = (false, eval e X.env) :: starEach es X.env := by rfl) : PA X (e :: es) (tDs X.K S (d :: ds)) :=
  pa_by (pa_cons he ha hs) fun σ H Q q => ⟨q.1, fun H1 v s1 h1 => ⟨st _ _ _ q.1 s1, fun H2 vs s2 h2 => q.2 H2 _ (s1.trans s2) (.cons (h1.same s2) h2)⟩⟩
theorem d_tup (ha : PA X es (tDs X.K S ds)) (l : ds.length ≤ 1000) : PE X (.Tuple es k pos) (tD X.K S (.tuple ds)) :=
  pe_by (pe_tup ha) fun σ H Q q => ⟨q.1, fun H1 vs s1 hv => ⟨small_line (by rw [hv.len]; exact l), fun p np => q.2 _ _ (s1.trans (Same.new np)) (Dp.new_tup np hv)⟩⟩
theorem d_lst (ha : PA X es (tDs X.K S ds)) (l : ds.length ≤ 1000) : PE X (.List es pos) (tDL X.K S ds) :=
  pe_by (pe_lst ha) fun σ H Q q => ⟨q.1, fun H1 vs s1 hv => ⟨small_line (by rw [hv.len]; exact l), fun p np => q.2 _ p vs (s1.trans (Same.new np)) upd_same (hv.same (Same.new np))⟩⟩
theorem d_lstD (ha : PA X es (tDs X.K S ds)) (l : ds.length ≤ 1000) : PE X (.List es pos) (tD X.K S (.list ds)) := pe_by (d_lst ha l) fun σ H Q q => ⟨q.1, fun H' p vs s h hv => q.2 H' (.ref p) s (.lst (SqL.of h) hv)⟩
/-- (e, ) * 6 -/
theorem d_six (st : Stays S) {b : Expr} {n : Int} (he : PE X e (tD X.K S (.int n))) (hb : PE X b (tC (.int 6))) (hs : starEach [e] X.env = (false, eval e X.env) :: starEach [] X.env := by rfl) {pos2 : PySem.Pos} : PE X (.BinOp (.Tuple [e] k pos) .Mult b pos2) (tD X.K S (.tuple [.int n, .int n, .int n, .int n, .int n, .int n])) :=
  pe_by (pe_op op_repT (d_tup (d_cons st he d_nil hs) (show 1 ≤ 1000 by decide)) hb) fun σ H Q q => ⟨q.1, fun H' v s dv => by
    obtain ⟨a, xs, rfl, h, hx⟩ := dv.tup_inv
    obtain rfl := DpAll.of_ints (ns := [n]) hx
    exact ⟨a, 6, _, rfl, rfl, h, by simp, by decide, by decide, by simp, fun p np => q.2 _ (.ref p) (s.trans (Same.new np)) (.tup (SqT.of upd_same) (DpAll.ints [n, n, n, n, n, n]))⟩⟩
end
end CS
set_option Elab.async false
set_option maxRecDepth 100000
set_option maxHeartbeats 8000000
set_option linter.unusedVariables false
set_option pp.maxSteps 9000
/-! claims by hand -/
namespace CS
open PySem L2 RZ
def daysH : Dys := [[0, 5], [-2, 3, 8]]
def oneT : Tm := .at_ 0
def twoT : Tm := .at_ 1
def greatT : Tm := .times_ (.cash_ 1000) 10
def wideT : Tm := .times_ (.cash_ (-1000)) 10
def HS0 : L2.St → Hp → Prop := fun _ _ => True
def HS1 (K : PySem.W.Frag) : L2.St → Hp → Prop := fun σ H => (∃ v, σ[1]? = some (some v) ∧ Dp K H v oneT.toD) ∧ ∃ v, σ[2]? = some (some v) ∧ Dp K H v twoT.toD
def HS2 (K : PySem.W.Frag) : L2.St → Hp → Prop := fun σ H => (∃ v, σ[6]? = some (some v) ∧ Dp K H v greatT.toD) ∧ ∃ v, σ[7]? = some (some v) ∧ Dp K H v wideT.toD
theorem st0 : Stays HS0 := fun _ _ _ _ _ => trivial
theorem st1 {K : PySem.W.Frag} : Stays (HS1 K) := fun σ H H' ⟨⟨v, h1, d1⟩, u, h2, d2⟩ s => ⟨⟨v, h1, Dp.same s d1⟩, u, h2, Dp.same s d2⟩
theorem st2 {K : PySem.W.Frag} : Stays (HS2 K) := fun σ H H' ⟨⟨v, h1, d1⟩, u, h2, d2⟩ s => ⟨⟨v, h1, Dp.same s d1⟩, u, h2, Dp.same s d2⟩
def Tm.okB : Tm → Bool
  | .cash_ n => decide (-1000 ≤ n ∧ n ≤ 1000)
  | .at_ d => decide (d ≤ 3)
  | .above_ d n => decide (d ≤ 3) && decide (-1000 ≤ n ∧ n ≤ 1000)
  | .below_ d n => decide (d ≤ 3) && decide (-1000 ≤ n ∧ n ≤ 1000)
  | .lowest_ d => decide (d ≤ 3)
  | .highest_ d => decide (d ≤ 3)
  | .both_ s t => s.okB && t.okB
  | .short_ s => s.okB
  | .times_ s n => s.okB && decide (-1000 ≤ n ∧ n ≤ 1000)
  | .lesser_ s t => s.okB && t.okB
  | .greater_ s t => s.okB && t.okB
  | .cond_ d n s t => decide (d ≤ 3) && decide (-1000 ≤ n ∧ n ≤ 1000) && s.okB && t.okB
theorem Tm.ok_of {t : Tm} (h : t.okB = true) : t.Ok := by
  induction t <;> simp_all [Tm.okB, Tm.Ok, Tm.okN]
def hOk (t : Tm) : Bool := t.okB && decide (t.words ≤ 20) && decide (t.height ≤ 5)
def handRows : List (Tm × List Int) := [(.cash_ (-7), [-7, -7, -7, -7, -7, -7]), (oneT, [0, 0, 0, 5, 5, 5]), (twoT, [-2, 3, 8, -2, 3, 8]), (.above_ 1 3, [0, 0, 5, 0, 0, 5]), (.below_ 1 3, [5, 0, 0, 5, 0, 0]), (.lowest_ 1, [-2, 0, 0, -2, 3, 5]), (.highest_ 1, [0, 3, 8, 5, 5, 8]),
  (.highest_ 0, [0, 0, 0, 5, 5, 5]), (.both_ oneT (.short_ twoT), [2, -3, -8, 7, 2, -3]), (.times_ twoT (-3), [6, -9, -24, 6, -9, -24]), (.lesser_ oneT twoT, [-2, 0, 0, -2, 3, 5]), (.greater_ oneT twoT, [0, 3, 8, 5, 5, 8]), (.cond_ 1 3 oneT (.cash_ 9), [9, 9, 0, 9, 9, 5]), (.cond_ 0 5 oneT twoT, [-2, 3, 8, -2, 3, 8])]
def rowHD (p : Tm × List Int) : PyData := .tuple [p.1.toD, rowD_ p.2]
def rowHok (p : Tm × List Int) : Bool := hOk p.1 && PyData.eqv (heardTD daysH p.1) (.list [rowD_ p.2]) && SeqAt.shaped (heardTD daysH p.1) && SeqAt.shaped (.list [rowD_ p.2])
theorem hand_ok : handRows.all rowHok = true := by decide +kernel
theorem days_ok : DysOk daysH := ⟨⟨by decide, by decide⟩, by decide +kernel, by decide⟩
theorem days_ok4 : DysOk [[4]] := ⟨⟨by decide, by decide⟩, by decide +kernel, by decide⟩
section
variable {K : PySem.W.Frag}
theorem hk {t : Tm} (c : hOk t = true) : t.Ok ∧ t.words ≤ 20 ∧ t.height ≤ 5 := by
  simp only [hOk, Bool.and_eq_true, decide_eq_true_eq] at c
  exact ⟨Tm.ok_of c.1.1, c.1.2, c.2⟩
theorem heard_use {H : Hp} {v u : V} {ds : Dys} {t : Tm} {Q : VK} {E : XK} (ok : DysOk ds) (dv : Dp K H v (dysD ds)) (du : Dp K H u t.toD) (c : hOk t = true) (k : ∀ H' y, Same H H' → H y = none → HeardAt K H' y ds t → Q (.ref y) H') : spHeardT K [v, u] H Q E := by
  simp only [hOk, Bool.and_eq_true, decide_eq_true_eq] at c
  exact ⟨v, ds, u, t, rfl, dv, ok, du, Tm.ok_of c.1.1, c.1.2, c.2, k⟩
theorem dp_three {H : Hp} {xs : List V} {a b c : PyData} (h : DpAll K H xs [a, b, c]) : ∃ u v w, xs = [u, v, w] ∧ Dp K H u a ∧ Dp K H v b ∧ Dp K H w c := by
  cases h with
  | cons h1 h =>
    cases h with
    | cons h2 h =>
      cases h with
      | cons h3 h =>
        cases h
        exact ⟨_, _, _, rfl, h1, h2, h3⟩
theorem dp_two {H : Hp} {xs : List V} {a b : PyData} (h : DpAll K H xs [a, b]) : ∃ u v, xs = [u, v] ∧ Dp K H u a ∧ Dp K H v b := by
  cases h with
  | cons h1 h =>
    cases h with
    | cons h2 h =>
      cases h
      exact ⟨_, _, rfl, h1, h2⟩
/-- days, one, two stand -/
structure HF (K : PySem.W.Frag) (H0 H : Hp) (v0 v1 v2 : V) : Prop where
  s : Same H0 H
  d0 : Dp K H v0 (dysD daysH)
  d1 : Dp K H v1 oneT.toD
  d2 : Dp K H v2 twoT.toD
theorem HF.same {H0 H H' : Hp} {v0 v1 v2 : V} (h : HF K H0 H v0 v1 v2) (s : Same H H') : HF K H0 H' v0 v1 v2 := ⟨h.s.trans s, Dp.same s h.d0, Dp.same s h.d1, Dp.same s h.d2⟩
theorem HF.lst {H0 H : Hp} {v0 v1 v2 : V} {q : Addr} {xs ys : List V} (h : HF K H0 H v0 v1 v2) (n : H0 q = none) (e : H q = some (.lst xs)) : HF K H0 (upd H q (.lst ys)) v0 v1 v2 :=
  ⟨same_upd n h.s, Dp.tk (tk_lst e) (by rfl) h.d0, Dp.tk (tk_lst e) oneT.flat h.d1, Dp.tk (tk_lst e) twoT.flat h.d2⟩
theorem rows_cat {H : Hp} {q2 q3 : Addr} {w2 w3 : List V} {as bs : List PyData} {Q : VK} (g2 : H q2 = some (.lst w2)) (c2 : DpAll K H w2 as) (g3 : H q3 = some (.lst w3)) (c3 : DpAll K H w3 bs) (l : as.length + bs.length ≤ 100) (k : ∀ q w H', H q = none → Same H H' → H' q = some (.lst w) → DpAll K H' w (as ++ bs) → Q (.ref q) H') : rCat (.ref q2) (.ref q3) H Q :=
  ⟨q2, q3, w2, w3, rfl, rfl, g2, g3, small_line (by rw [c2.len, c3.len]; omega), fun q n => k q _ _ n (Same.new n) upd_same (DpAll.same (Same.new n) (DpAll.app c2 c3))⟩
end
section
variable {P : Program} {w : World} {K : PySem.W.Frag} {mg : Str → Option Value} {base : Heap}
def spHand : Sp := fun vs H Q _ => ∃ _z : Unit, vs = [] ∧ ∀ H', Same H H' → Q (.bl true) H'
abbrev nsLawHandRight : List Str := ["days_so", "one", "two", "rows", "term", "due", "great", "wide", "told_so", "deep"]
theorem scLawHandRight : FnScope nsLawHandRight [] (defScope sLawHandRight) := ⟨rfl, rfl, rfl, by decide +kernel, rfl, by decide +kernel, by decide +kernel⟩
theorem ok_law_hand_right {f : Addr} {fd : FuncData} (F : Df K mg "_law_hand_right" sLawHandRight [] f fd)
    {f1 : Addr} {fd1 : FuncData} (D1 : Df K mg "_law_heard" sLawHeard ["days_so", "term"] f1 fd1) (G1 : FnOk P w K mg base CX0 13 f1 fd1 ["days_so", "term"] (spHeardT K))
    (T : Bt mg) : FnOk P w K mg base CX0 14 f fd [] (spHand) := by
  refine F.F.ok scLawHandRight (fun vs H Q E h => ?_) (fun cdv A outer s H vs Q E hr h => ?_)
  · obtain ⟨z, rfl, _⟩ := h
    rfl
  · obtain ⟨z, rfl, k⟩ := h
    refine ⟨_, (pss_cons (ps_asg (d_tup (S := HS0) (d_cons st0 (d_tup (S := HS0) (d_cons st0 (d_tup (S := HS0) (d_cons st0 (d_int pe_int) (d_cons st0 (d_int pe_int) d_nil)) (by decide)) (d_cons st0 (d_tup (S := HS0) (d_cons st0 (d_neg pe_int) (d_cons st0 (d_int pe_int) (d_cons st0 (d_int pe_int) d_nil))) (by decide)) d_nil)) (by decide)) (d_cons st0 (d_tup (S := HS0) (d_cons st0 (d_str pe_str) (d_cons st0 (d_int pe_int) d_nil)) (by decide)) (d_cons st0 (d_tup (S := HS0) (d_cons st0 (d_str pe_str) (d_cons st0 (d_int pe_int) d_nil)) (by decide)) d_nil))) (by decide)) (pg_tup rfl (pgs_cons (pg_name (i := 0) scLawHandRight.nd rfl (Or.inl rfl)) (pgs_cons (pg_name (i := 1) scLawHandRight.nd rfl (Or.inl rfl)) (pgs_cons (pg_name (i := 2) scLawHandRight.nd rfl (Or.inl rfl)) pgs_nil)))))
      (pss_cons (ps_set (i := 3) scLawHandRight.nd rfl (Or.inl rfl) (d_lst (S := (HS1 K)) (d_cons st1 (d_tup (S := (HS1 K)) (d_cons st1 (d_tup (S := (HS1 K)) (d_cons st1 (d_str pe_str) (d_cons st1 (d_neg pe_int) d_nil)) (by decide)) (d_cons st1 (d_six st1 (d_neg pe_int) pe_int) d_nil)) (by decide)) (d_cons st1 (d_tup (S := (HS1 K)) (d_cons st1 (d_var (pv 1) (fun σ H h => h.1)) (d_cons st1 (d_tup (S := (HS1 K)) (d_cons st1 (d_int pe_int) (d_cons st1 (d_int pe_int) (d_cons st1 (d_int pe_int) (d_cons st1 (d_int pe_int) (d_cons st1 (d_int pe_int) (d_cons st1 (d_int pe_int) d_nil)))))) (by decide)) d_nil)) (by decide)) (d_cons st1 (d_tup (S := (HS1 K)) (d_cons st1 (d_var (pv 2) (fun σ H h => h.2)) (d_cons st1 (d_tup (S := (HS1 K)) (d_cons st1 (d_neg pe_int) (d_cons st1 (d_int pe_int) (d_cons st1 (d_int pe_int) (d_cons st1 (d_neg pe_int) (d_cons st1 (d_int pe_int) (d_cons st1 (d_int pe_int) d_nil)))))) (by decide)) d_nil)) (by decide)) d_nil))) (by decide)))
      (pss_cons (ps_set (i := 3) scLawHandRight.nd rfl (Or.inl rfl) (pe_op op_cat (pv 3) (d_lst (S := HS0) (d_cons st0 (d_tup (S := HS0) (d_cons st0 (d_tup (S := HS0) (d_cons st0 (d_str pe_str) (d_cons st0 (d_int pe_int) (d_cons st0 (d_int pe_int) d_nil))) (by decide)) (d_cons st0 (d_tup (S := HS0) (d_cons st0 (d_int pe_int) (d_cons st0 (d_int pe_int) (d_cons st0 (d_int pe_int) (d_cons st0 (d_int pe_int) (d_cons st0 (d_int pe_int) (d_cons st0 (d_int pe_int) d_nil)))))) (by decide)) d_nil)) (by decide)) (d_cons st0 (d_tup (S := HS0) (d_cons st0 (d_tup (S := HS0) (d_cons st0 (d_str pe_str) (d_cons st0 (d_int pe_int) (d_cons st0 (d_int pe_int) d_nil))) (by decide)) (d_cons st0 (d_tup (S := HS0) (d_cons st0 (d_int pe_int) (d_cons st0 (d_int pe_int) (d_cons st0 (d_int pe_int) (d_cons st0 (d_int pe_int) (d_cons st0 (d_int pe_int) (d_cons st0 (d_int pe_int) d_nil)))))) (by decide)) d_nil)) (by decide)) d_nil)) (by decide))))
      (pss_cons (ps_set (i := 3) scLawHandRight.nd rfl (Or.inl rfl) (pe_op op_cat (pv 3) (d_lst (S := HS0) (d_cons st0 (d_tup (S := HS0) (d_cons st0 (d_tup (S := HS0) (d_cons st0 (d_str pe_str) (d_cons st0 (d_int pe_int) d_nil)) (by decide)) (d_cons st0 (d_tup (S := HS0) (d_cons st0 (d_neg pe_int) (d_cons st0 (d_int pe_int) (d_cons st0 (d_int pe_int) (d_cons st0 (d_neg pe_int) (d_cons st0 (d_int pe_int) (d_cons st0 (d_int pe_int) d_nil)))))) (by decide)) d_nil)) (by decide)) (d_cons st0 (d_tup (S := HS0) (d_cons st0 (d_tup (S := HS0) (d_cons st0 (d_str pe_str) (d_cons st0 (d_int pe_int) d_nil)) (by decide)) (d_cons st0 (d_tup (S := HS0) (d_cons st0 (d_int pe_int) (d_cons st0 (d_int pe_int) (d_cons st0 (d_int pe_int) (d_cons st0 (d_int pe_int) (d_cons st0 (d_int pe_int) (d_cons st0 (d_int pe_int) d_nil)))))) (by decide)) d_nil)) (by decide)) d_nil)) (by decide))))
      (pss_cons (ps_set (i := 3) scLawHandRight.nd rfl (Or.inl rfl) (pe_op op_cat (pv 3) (d_lst (S := (HS1 K)) (d_cons st1 (d_tup (S := (HS1 K)) (d_cons st1 (d_tup (S := (HS1 K)) (d_cons st1 (d_str pe_str) (d_cons st1 (d_int pe_int) d_nil)) (by decide)) (d_cons st1 (d_tup (S := (HS1 K)) (d_cons st1 (d_int pe_int) (d_cons st1 (d_int pe_int) (d_cons st1 (d_int pe_int) (d_cons st1 (d_int pe_int) (d_cons st1 (d_int pe_int) (d_cons st1 (d_int pe_int) d_nil)))))) (by decide)) d_nil)) (by decide)) (d_cons st1 (d_tup (S := (HS1 K)) (d_cons st1 (d_tup (S := (HS1 K)) (d_cons st1 (d_str pe_str) (d_cons st1 (d_var (pv 1) (fun σ H h => h.1)) (d_cons st1 (d_tup (S := (HS1 K)) (d_cons st1 (d_str pe_str) (d_cons st1 (d_var (pv 2) (fun σ H h => h.2)) d_nil)) (by decide)) d_nil))) (by decide)) (d_cons st1 (d_tup (S := (HS1 K)) (d_cons st1 (d_int pe_int) (d_cons st1 (d_neg pe_int) (d_cons st1 (d_neg pe_int) (d_cons st1 (d_int pe_int) (d_cons st1 (d_int pe_int) (d_cons st1 (d_neg pe_int) d_nil)))))) (by decide)) d_nil)) (by decide)) d_nil)) (by decide))))
      (pss_cons (ps_expr (pe_bm PySem.F.plainAttrs_list PySem.F.slot_list_append PySem.F.type_list_append mt_append (pv 3) (pa_cons (d_tup (S := (HS1 K)) (d_cons st1 (d_tup (S := (HS1 K)) (d_cons st1 (d_str pe_str) (d_cons st1 (d_var (pv 2) (fun σ H h => h.2)) (d_cons st1 (d_neg pe_int) d_nil))) (by decide)) (d_cons st1 (d_tup (S := (HS1 K)) (d_cons st1 (d_int pe_int) (d_cons st1 (d_neg pe_int) (d_cons st1 (d_neg pe_int) (d_cons st1 (d_int pe_int) (d_cons st1 (d_neg pe_int) (d_cons st1 (d_neg pe_int) d_nil)))))) (by decide)) d_nil)) (by decide)) pa_nil)))
      (pss_cons (ps_set (i := 3) scLawHandRight.nd rfl (Or.inl rfl) (pe_op op_cat (pv 3) (d_lst (S := (HS1 K)) (d_cons st1 (d_tup (S := (HS1 K)) (d_cons st1 (d_tup (S := (HS1 K)) (d_cons st1 (d_str pe_str) (d_cons st1 (d_var (pv 1) (fun σ H h => h.1)) (d_cons st1 (d_var (pv 2) (fun σ H h => h.2)) d_nil))) (by decide)) (d_cons st1 (d_tup (S := (HS1 K)) (d_cons st1 (d_neg pe_int) (d_cons st1 (d_int pe_int) (d_cons st1 (d_int pe_int) (d_cons st1 (d_neg pe_int) (d_cons st1 (d_int pe_int) (d_cons st1 (d_int pe_int) d_nil)))))) (by decide)) d_nil)) (by decide)) (d_cons st1 (d_tup (S := (HS1 K)) (d_cons st1 (d_tup (S := (HS1 K)) (d_cons st1 (d_str pe_str) (d_cons st1 (d_var (pv 1) (fun σ H h => h.1)) (d_cons st1 (d_var (pv 2) (fun σ H h => h.2)) d_nil))) (by decide)) (d_cons st1 (d_tup (S := (HS1 K)) (d_cons st1 (d_int pe_int) (d_cons st1 (d_int pe_int) (d_cons st1 (d_int pe_int) (d_cons st1 (d_int pe_int) (d_cons st1 (d_int pe_int) (d_cons st1 (d_int pe_int) d_nil)))))) (by decide)) d_nil)) (by decide)) d_nil)) (by decide))))
      (pss_cons (ps_set (i := 3) scLawHandRight.nd rfl (Or.inl rfl) (pe_op op_cat (pv 3) (d_lst (S := (HS1 K)) (d_cons st1 (d_tup (S := (HS1 K)) (d_cons st1 (d_tup (S := (HS1 K)) (d_cons st1 (d_str pe_str) (d_cons st1 (d_int pe_int) (d_cons st1 (d_int pe_int) (d_cons st1 (d_var (pv 1) (fun σ H h => h.1)) (d_cons st1 (d_tup (S := (HS1 K)) (d_cons st1 (d_str pe_str) (d_cons st1 (d_int pe_int) d_nil)) (by decide)) d_nil))))) (by decide)) (d_cons st1 (d_tup (S := (HS1 K)) (d_cons st1 (d_int pe_int) (d_cons st1 (d_int pe_int) (d_cons st1 (d_int pe_int) (d_cons st1 (d_int pe_int) (d_cons st1 (d_int pe_int) (d_cons st1 (d_int pe_int) d_nil)))))) (by decide)) d_nil)) (by decide)) (d_cons st1 (d_tup (S := (HS1 K)) (d_cons st1 (d_tup (S := (HS1 K)) (d_cons st1 (d_str pe_str) (d_cons st1 (d_int pe_int) (d_cons st1 (d_int pe_int) (d_cons st1 (d_var (pv 1) (fun σ H h => h.1)) (d_cons st1 (d_var (pv 2) (fun σ H h => h.2)) d_nil))))) (by decide)) (d_cons st1 (d_tup (S := (HS1 K)) (d_cons st1 (d_neg pe_int) (d_cons st1 (d_int pe_int) (d_cons st1 (d_int pe_int) (d_cons st1 (d_neg pe_int) (d_cons st1 (d_int pe_int) (d_cons st1 (d_int pe_int) d_nil)))))) (by decide)) d_nil)) (by decide)) d_nil)) (by decide))))
      (pss_cons (ps_for PassesOwn.never rfl (pi_list (pv 3)) (pg_tup rfl (pgs_cons (pg_name (i := 4) scLawHandRight.nd rfl (Or.inl rfl)) (pgs_cons (pg_name (i := 5) scLawHandRight.nd rfl (Or.inl rfl)) pgs_nil))) (pss_one (ps_if (pt_cmpR (op_neD hr.units) (pe_call G1 (hr.mono (by decide)) (by rfl) D1.g D1.F.kp D1.b .nil pass0 (pa_cons (pv 0) (pa_cons (pv 4) pa_nil))) (pe_lst (pa_cons (pv 5) pa_nil)) (nomark _)) (pss_one (ps_ret pe_bl)) pss_nil)))
      (pss_cons (ps_asg (d_tup (S := HS0) (d_cons st0 (d_tup (S := HS0) (d_cons st0 (d_str pe_str) (d_cons st0 (d_tup (S := HS0) (d_cons st0 (d_str pe_str) (d_cons st0 (d_int pe_int) d_nil)) (by decide)) (d_cons st0 (d_int pe_int) d_nil))) (by decide)) (d_cons st0 (d_tup (S := HS0) (d_cons st0 (d_str pe_str) (d_cons st0 (d_tup (S := HS0) (d_cons st0 (d_str pe_str) (d_cons st0 (d_neg pe_int) d_nil)) (by decide)) (d_cons st0 (d_int pe_int) d_nil))) (by decide)) d_nil)) (by decide)) (pg_tup rfl (pgs_cons (pg_name (i := 6) scLawHandRight.nd rfl (Or.inl rfl)) (pgs_cons (pg_name (i := 7) scLawHandRight.nd rfl (Or.inl rfl)) pgs_nil))))
      (pss_cons (ps_set (i := 8) scLawHandRight.nd rfl (Or.inl rfl) (pe_lst (pa_cons (pe_call G1 (hr.mono (by decide)) (by rfl) D1.g D1.F.kp D1.b .nil pass0 (pa_cons (pv 0) (pa_cons (pv 6) pa_nil))) (pa_cons (pe_call G1 (hr.mono (by decide)) (by rfl) D1.g D1.F.kp D1.b .nil pass0 (pa_cons (pv 0) (pa_cons (pv 7) pa_nil))) (pa_cons (pe_call G1 (hr.mono (by decide)) (by rfl) D1.g D1.F.kp D1.b .nil pass0 (pa_cons (pv 0) (pa_cons (d_tup (S := (HS2 K)) (d_cons st2 (d_str pe_str) (d_cons st2 (d_var (pv 6) (fun σ H h => h.1)) (d_cons st2 (d_tup (S := (HS2 K)) (d_cons st2 (d_str pe_str) (d_cons st2 (d_int pe_int) d_nil)) (by decide)) d_nil))) (by decide)) pa_nil))) pa_nil)))))
      (pss_cons (ps_set (i := 8) scLawHandRight.nd rfl (Or.inl rfl) (pe_op op_cat (pv 8) (pe_lst (pa_cons (pe_call G1 (hr.mono (by decide)) (by rfl) D1.g D1.F.kp D1.b .nil pass0 (pa_cons (pv 0) (pa_cons (d_tup (S := (HS2 K)) (d_cons st2 (d_str pe_str) (d_cons st2 (d_tup (S := (HS2 K)) (d_cons st2 (d_str pe_str) (d_cons st2 (d_int pe_int) d_nil)) (by decide)) (d_cons st2 (d_tup (S := (HS2 K)) (d_cons st2 (d_str pe_str) (d_cons st2 (d_var (pv 7) (fun σ H h => h.2)) (d_cons st2 (d_tup (S := (HS2 K)) (d_cons st2 (d_str pe_str) (d_cons st2 (d_neg pe_int) d_nil)) (by decide)) d_nil))) (by decide)) d_nil))) (by decide)) pa_nil))) pa_nil))))
      (pss_cons (ps_expr (pe_bm PySem.F.plainAttrs_list PySem.F.slot_list_append PySem.F.type_list_append mt_append (pv 8) (pa_cons (pe_call G1 (hr.mono (by decide)) (by rfl) D1.g D1.F.kp D1.b .nil pass0 (pa_cons (pv 0) (pa_cons (d_tup (S := (HS1 K)) (d_cons st1 (d_str pe_str) (d_cons st1 (d_int pe_int) (d_cons st1 (d_int pe_int) (d_cons st1 (d_var (pv 1) (fun σ H h => h.1)) (d_cons st1 (d_tup (S := (HS1 K)) (d_cons st1 (d_str pe_str) (d_cons st1 (d_int pe_int) d_nil)) (by decide)) d_nil))))) (by decide)) pa_nil))) pa_nil)))
      (pss_cons (ps_expr (pe_bm PySem.F.plainAttrs_list PySem.F.slot_list_append PySem.F.type_list_append mt_append (pv 8) (pa_cons (pe_call G1 (hr.mono (by decide)) (by rfl) D1.g D1.F.kp D1.b .nil pass0 (pa_cons (pv 0) (pa_cons (d_tup (S := (HS1 K)) (d_cons st1 (d_str pe_str) (d_cons st1 (d_int pe_int) (d_cons st1 (d_int pe_int) (d_cons st1 (d_var (pv 1) (fun σ H h => h.1)) (d_cons st1 (d_var (pv 2) (fun σ H h => h.2)) d_nil))))) (by decide)) pa_nil))) pa_nil)))
      (pss_cons (ps_if (pt_cmpR (op_neD hr.units) (pv 8) (d_lst (S := HS0) (d_cons st0 (d_lstD (S := HS0) (d_cons st0 (d_six st0 (d_int pe_int) pe_int) d_nil) (by decide)) (d_cons st0 (d_lstD (S := HS0) (d_cons st0 (d_six st0 (d_neg pe_int) pe_int) d_nil) (by decide)) (d_cons st0 (d_tup (S := HS0) (d_cons st0 (d_str pe_str) (d_cons st0 (d_tup (S := HS0) d_nil (by decide)) d_nil)) (by decide)) (d_cons st0 (d_tup (S := HS0) (d_cons st0 (d_str pe_str) (d_cons st0 (d_tup (S := HS0) (d_cons st0 (d_int pe_int) d_nil) (by decide)) d_nil)) (by decide)) (d_cons st0 (d_tup (S := HS0) (d_cons st0 (d_str pe_str) (d_cons st0 (d_tup (S := HS0) (d_cons st0 (d_int pe_int) d_nil) (by decide)) d_nil)) (by decide)) (d_cons st0 (d_tup (S := HS0) (d_cons st0 (d_str pe_str) (d_cons st0 (d_tup (S := HS0) d_nil (by decide)) d_nil)) (by decide)) d_nil)))))) (by decide)) (nomark _)) (pss_one (ps_ret pe_bl)) pss_nil)
      (pss_cons (ps_set (i := 9) scLawHandRight.nd rfl (Or.inl rfl) (d_tup (S := (HS2 K)) (d_cons st2 (d_str pe_str) (d_cons st2 (d_tup (S := (HS2 K)) (d_cons st2 (d_str pe_str) (d_cons st2 (d_tup (S := (HS2 K)) (d_cons st2 (d_str pe_str) (d_cons st2 (d_var (pv 6) (fun σ H h => h.1)) (d_cons st2 (d_int pe_int) d_nil))) (by decide)) (d_cons st2 (d_tup (S := (HS2 K)) (d_cons st2 (d_str pe_str) (d_cons st2 (d_var (pv 6) (fun σ H h => h.1)) d_nil)) (by decide)) d_nil))) (by decide)) (d_cons st2 (d_int pe_int) d_nil))) (by decide)))
      (pss_one (ps_ret (pe_and (pe_cmpR (op_eqD hr.units) (pe_call G1 (hr.mono (by decide)) (by rfl) D1.g D1.F.kp D1.b .nil pass0 (pa_cons (pv 0) (pa_cons (pv 9) pa_nil))) (d_tup (S := HS0) (d_cons st0 (d_str pe_str) (d_cons st0 (d_tup (S := HS0) (d_cons st0 (d_int pe_int) (d_cons st0 (d_int pe_int) d_nil)) (by decide)) d_nil)) (by decide)) (nomark _)) (pe_one (pe_cmpR (op_eqD hr.units) (pe_call G1 (hr.mono (by decide)) (by rfl) D1.g D1.F.kp D1.b .nil pass0 (pa_cons (d_tup (S := HS0) (d_cons st0 (d_tup (S := HS0) (d_cons st0 (d_int pe_int) d_nil) (by decide)) d_nil) (by decide)) (pa_cons (d_tup (S := HS0) (d_cons st0 (d_str pe_str) (d_cons st0 (d_int pe_int) d_nil)) (by decide)) pa_nil))) (d_lst (S := HS0) (d_cons st0 (d_tup (S := HS0) (d_cons st0 (d_int pe_int) d_nil) (by decide)) d_nil) (by decide)) (nomark _)))))))))))))))))))))), ?_⟩
    refine ⟨trivial, fun H1 w0 s1 d0 => ?_⟩
    obtain ⟨p0, x0, rfl, h0, hx0⟩ := d0.tup_inv
    obtain ⟨v0, v1, v2, rfl, e0, e1, e2⟩ := dp_three hx0
    have F1 : HF K H H1 v0 v1 v2 := ⟨s1, e0, e1, e2⟩
    refine ⟨p0, _, rfl, h0, rfl, _, _, rfl, _, _, rfl, _, _, rfl, rfl, ?_⟩
    refine ⟨⟨⟨v1, rfl, F1.d1⟩, v2, rfl, F1.d2⟩, fun H2 q2 w2 s2 g2 c2 => ?_⟩
    have F2 := F1.same s2
    refine ⟨_, rfl, trivial, fun H3 q3 w3 s3 g3 c3 => rows_cat (s3 _ _ g2) (DpAll.same s3 c2) g3 c3 (by decide) fun q4 w4 H4 n4 s4 g4 c4 => ?_⟩
    have F4 := F2.same (s3.trans s4)
    have N4 := none_of (F2.s.trans s3) n4
    refine ⟨_, rfl, trivial, fun H5 q5 w5 s5 g5 c5 => rows_cat (s5 _ _ g4) (DpAll.same s5 c4) g5 c5 (by decide) fun q6 w6 H6 n6 s6 g6 c6 => ?_⟩
    have F6 := F4.same (s5.trans s6)
    have N6 := none_of (F4.s.trans s5) n6
    refine ⟨_, rfl, ⟨⟨v1, rfl, F6.d1⟩, v2, rfl, F6.d2⟩, fun H7 q7 w7 s7 g7 c7 => rows_cat (s7 _ _ g6) (DpAll.same s7 c6) g7 c7 (by decide) fun q8 w8 H8 n8 s8 g8 c8 => ?_⟩
    have F8 := F6.same (s7.trans s8)
    have N8 := none_of (F6.s.trans s7) n8
    refine ⟨_, rfl, .inl ⟨rfl, _, SqL.of g8⟩, ⟨⟨v1, rfl, F8.d1⟩, v2, rfl, F8.d2⟩, fun H9 y9 s9 d9 => ⟨q8, _, y9, rfl, rfl, s9 _ _ g8, small1000 (by rw [c8.len]; decide), ?_⟩⟩
    have F10 := (F8.same s9).lst (ys := w8 ++ [y9]) N8 (s9 _ _ g8)
    have c10 := DpAll.tk (tk_lst (ys := w8 ++ [y9]) (s9 _ _ g8)) (by rfl) (DpAll.app (DpAll.same s9 c8) (.cons d9 .nil))
    have g10 : (upd H9 q8 (.lst (w8 ++ [y9]))) q8 = some (.lst (w8 ++ [y9])) := upd_same
    generalize upd H9 q8 (.lst (w8 ++ [y9])) = H10 at *
    generalize w8 ++ [y9] = w10 at *
    refine ⟨_, rfl, ⟨⟨v1, rfl, F10.d1⟩, v2, rfl, F10.d2⟩, fun H11 q11 w11 s11 g11 c11 => rows_cat (s11 _ _ g10) (DpAll.same s11 c10) g11 c11 (by decide) fun q12 w12 H12 n12 s12 g12 c12 => ?_⟩
    have F12 := F10.same (s11.trans s12)
    have N12 := none_of (F10.s.trans s11) n12
    refine ⟨_, rfl, ⟨⟨v1, rfl, F12.d1⟩, v2, rfl, F12.d2⟩, fun H13 q13 w13 s13 g13 c13 => rows_cat (s13 _ _ g12) (DpAll.same s13 c12) g13 c13 (by decide) fun q14 w14 H14 n14 s14 g14 c14 => ?_⟩
    have F14 := F12.same (s13.trans s14)
    have N14 := none_of (F12.s.trans s13) n14
    have cR : DpAll K H14 w14 (handRows.map rowHD) := c14
    have lw := cR.len
    refine ⟨_, rfl, q14, rfl, ⟨_, SqL.of g14⟩, for_list (K := K) (a := q14) (xs := w14) (fun i σ H' => ∃ v4 v5, σ = [some v0, some v1, some v2, some (.ref q14), v4, v5, none, none, none, none] ∧ Same H14 H') ⟨none, none, rfl, Same.refl _⟩ (fun i σ H' _ ⟨_, _, _, s⟩ => SqL.of (s _ _ g14)) ?_ ?_⟩
    · rintro i x σ H' hi ⟨v4, v5, rfl, sl⟩
      obtain ⟨d, hd, dv⟩ := DpAll.get cR hi
      rw [List.getElem?_map] at hd
      obtain ⟨row, hrow, rfl⟩ := Option.map_eq_some_iff.mp hd
      obtain ⟨pr, xr, rfl, hpr, hxr⟩ := dv.tup_inv
      obtain ⟨a, b, rfl, da, db⟩ := dp_two hxr
      have rk := List.all_eq_true.mp hand_ok row (List.mem_of_getElem? hrow)
      simp only [rowHok, Bool.and_eq_true] at rk
      obtain ⟨⟨⟨k1, k2⟩, k3⟩, k4⟩ := rk
      refine ⟨pr, _, rfl, sl.tup hpr, rfl, _, _, rfl, _, _, rfl, rfl, ?_⟩
      refine ⟨_, rfl, _, rfl, v0, daysH, a, row.1, rfl, (Dp.same sl F14.d0), days_ok, (Dp.same sl da), (hk (t := row.1) k1).1, (hk (t := row.1) k1).2.1, (hk (t := row.1) k1).2.2, fun H5 y s5 _ hy => ⟨_, rfl, (by show 1 ≤ sizeLine; decide), fun l nl => ?_⟩⟩
      have sy := Same.new (o := .lst [b]) nl
      refine ⟨_, _, (hy.same sy).dp, .lst (SqL.of upd_same) (.cons (Dp.same (sl.trans (s5.trans sy)) db) .nil), k3, k4, _, rfl, iteFe (by rw [k2]; rfl) ⟨_, _, rfl, sl.trans (s5.trans sy)⟩⟩
    rintro σ HA ⟨v4, v5, rfl, sA⟩
    have FA := F14.same sA
    refine ⟨trivial, fun HB wB sB dB => ?_⟩
    obtain ⟨pB, xB, rfl, hB, hxB⟩ := dB.tup_inv
    obtain ⟨gr, wd, rfl, dg, dw⟩ := dp_two hxB
    have FB := FA.same sB
    have dgr : Dp K HB gr greatT.toD := dg
    have dwd : Dp K HB wd wideT.toD := dw
    refine ⟨pB, _, rfl, hB, rfl, _, _, rfl, _, _, rfl, rfl, ?_⟩
    refine ⟨_, rfl, _, rfl, v0, daysH, gr, greatT, rfl, FB.d0, days_ok, dgr, (hk (t := greatT) (by decide +kernel)).1, (hk (t := greatT) (by decide +kernel)).2.1, (hk (t := greatT) (by decide +kernel)).2.2, fun HC y1 sC _ a1 => ?_⟩
    have FC := FB.same sC
    refine ⟨_, rfl, _, rfl, v0, daysH, wd, wideT, rfl, FC.d0, days_ok, (Dp.same sC dwd), (hk (t := wideT) (by decide +kernel)).1, (hk (t := wideT) (by decide +kernel)).2.1, (hk (t := wideT) (by decide +kernel)).2.2, fun HD y2 sD _ a2 => ?_⟩
    have FD := FC.same sD
    have sBD := sC.trans sD
    refine ⟨_, rfl, ⟨⟨gr, rfl, Dp.same sBD dgr⟩, wd, rfl, Dp.same sBD dwd⟩, fun HE u3 sE dE => ⟨v0, daysH, u3, (.both_ greatT (.cash_ 1)), rfl, (FD.same sE).d0, days_ok, dE, (hk (t := (.both_ greatT (.cash_ 1))) (by decide +kernel)).1, (hk (t := (.both_ greatT (.cash_ 1))) (by decide +kernel)).2.1, (hk (t := (.both_ greatT (.cash_ 1))) (by decide +kernel)).2.2, fun HG y3 sG _ a3 => ⟨(by show 3 ≤ sizeLine; decide), fun tl ntl => ?_⟩⟩⟩
    have sT := Same.new (o := .lst [V.ref y1, V.ref y2, V.ref y3]) ntl
    have gT : (upd HG tl (.lst [V.ref y1, V.ref y2, V.ref y3])) tl = some (.lst [V.ref y1, V.ref y2, V.ref y3]) := upd_same
    have FT_ := (FD.same sE).same (sG.trans sT)
    have sBT := sBD.trans (sE.trans (sG.trans sT))
    have b1 := a1.same (sD.trans (sE.trans (sG.trans sT)))
    have b2 := a2.same (sE.trans (sG.trans sT))
    have b3 := a3.same sT
    generalize upd HG tl (.lst [V.ref y1, V.ref y2, V.ref y3]) = HT at *
    refine ⟨_, rfl, _, rfl, ⟨⟨gr, rfl, Dp.same sBT dgr⟩, wd, rfl, Dp.same sBT dwd⟩, fun HI u4 sI dI => ⟨v0, daysH, u4, (.both_ (.at_ 2) (.both_ wideT (.cash_ (-1)))), rfl, (FT_.same sI).d0, days_ok, dI, (hk (t := (.both_ (.at_ 2) (.both_ wideT (.cash_ (-1))))) (by decide +kernel)).1, (hk (t := (.both_ (.at_ 2) (.both_ wideT (.cash_ (-1))))) (by decide +kernel)).2.1, (hk (t := (.both_ (.at_ 2) (.both_ wideT (.cash_ (-1))))) (by decide +kernel)).2.2, fun HJ y4 sJ _ a4 => ⟨(by show 1 ≤ sizeLine; decide), fun t2 nt2 => ?_⟩⟩⟩
    have sK := Same.new (o := .lst [V.ref y4]) nt2
    refine ⟨tl, t2, _, _, rfl, rfl, (sI.trans (sJ.trans sK)) _ _ gT, upd_same, (by show 4 ≤ sizeLine; decide), fun q nq => ?_⟩
    have sQ := Same.new (o := .lst ([V.ref y1, V.ref y2, V.ref y3] ++ [V.ref y4])) nq
    have FQ := (FT_.same sI).same (sJ.trans (sK.trans sQ))
    have NQ := none_of ((FT_.same sI).same (sJ.trans sK)).s nq
    have sTK := sI.trans (sJ.trans sK)
    have ne1 := (b1.same sTK).ne nq
    have ne2 := (b2.same sTK).ne nq
    have ne3 := (b3.same sTK).ne nq
    have ne4 := (a4.same sK).ne nq
    have r1 := b1.same (sTK.trans sQ)
    have r2 := b2.same (sTK.trans sQ)
    have r3 := b3.same (sTK.trans sQ)
    have r4 := a4.same (sK.trans sQ)
    have dgQ := Dp.same (sBT.trans (sTK.trans sQ)) dgr
    have dwQ := Dp.same (sBT.trans (sTK.trans sQ)) dwd
    have gQ0 : (upd (upd HJ t2 (.lst [V.ref y4])) q (.lst ([V.ref y1, V.ref y2, V.ref y3] ++ [V.ref y4]))) q = some (.lst ([V.ref y1, V.ref y2, V.ref y3] ++ [V.ref y4])) := upd_same
    generalize upd (upd HJ t2 (.lst [V.ref y4])) q (.lst ([V.ref y1, V.ref y2, V.ref y3] ++ [V.ref y4])) = HQ at *
    have gQ : HQ q = some (.lst [V.ref y1, V.ref y2, V.ref y3, V.ref y4]) := gQ0
    refine ⟨_, rfl, .inl ⟨rfl, _, SqL.of gQ⟩, _, rfl, ⟨⟨v1, rfl, FQ.d1⟩, v2, rfl, FQ.d2⟩, fun HL u5 sL dL => ⟨v0, daysH, u5, (.cond_ 3 0 oneT (.lowest_ 2)), rfl, (FQ.same sL).d0, days_ok, dL, (hk (t := (.cond_ 3 0 oneT (.lowest_ 2))) (by decide +kernel)).1, (hk (t := (.cond_ 3 0 oneT (.lowest_ 2))) (by decide +kernel)).2.1, (hk (t := (.cond_ 3 0 oneT (.lowest_ 2))) (by decide +kernel)).2.2, fun HM y5 sM n5 a5 => ?_⟩⟩
    have sQM := sL.trans sM
    have ne5 : y5 ≠ q := fun e => by
      have := sL _ _ gQ
      rw [← e, n5] at this
      cases this
    refine ⟨q, _, .ref y5, rfl, rfl, sQM _ _ gQ, (by show 4 < sizeLine; decide), ?_⟩
    have FN := (FQ.same sQM).lst (ys := [V.ref y1, V.ref y2, V.ref y3, V.ref y4] ++ [V.ref y5]) NQ (sQM _ _ gQ)
    have m1 := (r1.same sQM).upd (zs := [V.ref y1, V.ref y2, V.ref y3, V.ref y4] ++ [V.ref y5]) ne1 (sQM _ _ gQ)
    have m2 := (r2.same sQM).upd (zs := [V.ref y1, V.ref y2, V.ref y3, V.ref y4] ++ [V.ref y5]) ne2 (sQM _ _ gQ)
    have m3 := (r3.same sQM).upd (zs := [V.ref y1, V.ref y2, V.ref y3, V.ref y4] ++ [V.ref y5]) ne3 (sQM _ _ gQ)
    have m4 := (r4.same sQM).upd (zs := [V.ref y1, V.ref y2, V.ref y3, V.ref y4] ++ [V.ref y5]) ne4 (sQM _ _ gQ)
    have m5 := a5.upd (zs := [V.ref y1, V.ref y2, V.ref y3, V.ref y4] ++ [V.ref y5]) (fun _ => ne5) (sQM _ _ gQ)
    have dgN : Dp K (upd HM q (.lst ([V.ref y1, V.ref y2, V.ref y3, V.ref y4] ++ [V.ref y5]))) gr greatT.toD := Dp.tk (tk_lst (sQM _ _ gQ)) greatT.flat (Dp.same sQM dgQ)
    have dwN : Dp K (upd HM q (.lst ([V.ref y1, V.ref y2, V.ref y3, V.ref y4] ++ [V.ref y5]))) wd wideT.toD := Dp.tk (tk_lst (sQM _ _ gQ)) wideT.flat (Dp.same sQM dwQ)
    have gN : (upd HM q (.lst ([V.ref y1, V.ref y2, V.ref y3, V.ref y4] ++ [V.ref y5]))) q = some (.lst ([V.ref y1, V.ref y2, V.ref y3, V.ref y4] ++ [V.ref y5])) := upd_same
    generalize upd HM q (.lst ([V.ref y1, V.ref y2, V.ref y3, V.ref y4] ++ [V.ref y5])) = HN at *
    refine ⟨_, rfl, .inl ⟨rfl, _, SqL.of gN⟩, _, rfl, ⟨⟨v1, rfl, FN.d1⟩, v2, rfl, FN.d2⟩, fun HO u6 sO dO => ⟨v0, daysH, u6, (.cond_ 2 0 oneT twoT), rfl, (FN.same sO).d0, days_ok, dO, (hk (t := (.cond_ 2 0 oneT twoT)) (by decide +kernel)).1, (hk (t := (.cond_ 2 0 oneT twoT)) (by decide +kernel)).2.1, (hk (t := (.cond_ 2 0 oneT twoT)) (by decide +kernel)).2.2, fun HP y6 sP n6 a6 => ?_⟩⟩
    have sNP := sO.trans sP
    have ne6 : y6 ≠ q := fun e => by
      have := sO _ _ gN
      rw [← e, n6] at this
      cases this
    refine ⟨q, _, .ref y6, rfl, rfl, sNP _ _ gN, (by show 5 < sizeLine; decide), ?_⟩
    have FZ := (FN.same sNP).lst (ys := [V.ref y1, V.ref y2, V.ref y3, V.ref y4] ++ [V.ref y5] ++ [V.ref y6]) NQ (sNP _ _ gN)
    have z1 := (m1.same sNP).upd (zs := [V.ref y1, V.ref y2, V.ref y3, V.ref y4] ++ [V.ref y5] ++ [V.ref y6]) ne1 (sNP _ _ gN)
    have z2 := (m2.same sNP).upd (zs := [V.ref y1, V.ref y2, V.ref y3, V.ref y4] ++ [V.ref y5] ++ [V.ref y6]) ne2 (sNP _ _ gN)
    have z3 := (m3.same sNP).upd (zs := [V.ref y1, V.ref y2, V.ref y3, V.ref y4] ++ [V.ref y5] ++ [V.ref y6]) ne3 (sNP _ _ gN)
    have z4 := (m4.same sNP).upd (zs := [V.ref y1, V.ref y2, V.ref y3, V.ref y4] ++ [V.ref y5] ++ [V.ref y6]) ne4 (sNP _ _ gN)
    have z5 := (m5.same sNP).upd (zs := [V.ref y1, V.ref y2, V.ref y3, V.ref y4] ++ [V.ref y5] ++ [V.ref y6]) (fun _ => ne5) (sNP _ _ gN)
    have z6 := a6.upd (zs := [V.ref y1, V.ref y2, V.ref y3, V.ref y4] ++ [V.ref y5] ++ [V.ref y6]) (fun _ => ne6) (sNP _ _ gN)
    have dgZ : Dp K (upd HP q (.lst ([V.ref y1, V.ref y2, V.ref y3, V.ref y4] ++ [V.ref y5] ++ [V.ref y6]))) gr greatT.toD := Dp.tk (tk_lst (sNP _ _ gN)) greatT.flat (Dp.same sNP dgN)
    have dwZ : Dp K (upd HP q (.lst ([V.ref y1, V.ref y2, V.ref y3, V.ref y4] ++ [V.ref y5] ++ [V.ref y6]))) wd wideT.toD := Dp.tk (tk_lst (sNP _ _ gN)) wideT.flat (Dp.same sNP dwN)
    have gZ : (upd HP q (.lst ([V.ref y1, V.ref y2, V.ref y3, V.ref y4] ++ [V.ref y5] ++ [V.ref y6]))) q = some (.lst ([V.ref y1, V.ref y2, V.ref y3, V.ref y4] ++ [V.ref y5] ++ [V.ref y6])) := upd_same
    generalize upd HP q (.lst ([V.ref y1, V.ref y2, V.ref y3, V.ref y4] ++ [V.ref y5] ++ [V.ref y6])) = HZ at *
    have dTold : ∀ (H' : Hp), Same HZ H' → Dp K H' (.ref q) (.list [heardTD daysH greatT, heardTD daysH wideT, heardTD daysH (.both_ greatT (.cash_ 1)), heardTD daysH (.both_ (.at_ 2) (.both_ wideT (.cash_ (-1)))), heardTD daysH (.cond_ 3 0 oneT (.lowest_ 2)), heardTD daysH (.cond_ 2 0 oneT twoT)]) := fun H' s => .lst (SqL.of (s _ _ gZ)) (.cons (z1.same s).dp (.cons (z2.same s).dp (.cons (z3.same s).dp (.cons (z4.same s).dp (.cons (z5.same s).dp (.cons (z6.same s).dp .nil))))))
    refine ⟨_, rfl, trivial, fun H' lq lv sq eq dq => ?_⟩
    refine ⟨_, _, dTold _ sq, .lst (SqL.of eq) dq, by decide +kernel, by decide +kernel, _, rfl, iteFe (by decide +kernel) ?_⟩
    have FW := FZ.same sq
    have dgW := Dp.same sq dgZ
    have dwW := Dp.same sq dwZ
    refine ⟨⟨⟨gr, rfl, dgW⟩, wd, rfl, dwW⟩, fun HX ux sx dx => ?_⟩
    have FX := FW.same sx
    refine ⟨_, rfl, _, rfl, v0, daysH, ux, (.times_ (.both_ (.times_ greatT 2) (.short_ greatT)) 1), rfl, FX.d0, days_ok, dx, (hk (t := .times_ (.both_ (.times_ greatT 2) (.short_ greatT)) 1) (by decide +kernel)).1, (hk (t := .times_ (.both_ (.times_ greatT 2) (.short_ greatT)) 1) (by decide +kernel)).2.1, (hk (t := .times_ (.both_ (.times_ greatT 2) (.short_ greatT)) 1) (by decide +kernel)).2.2, fun HY yy sy _ ay => ⟨trivial, fun HU uu su du => ?_⟩⟩
    refine ⟨_, _, (ay.same su).dp, du, by decide +kernel, by decide +kernel, true, by decide +kernel, iteT ?_⟩
    have sF := (FX.same sy).same su
    refine ⟨trivial, fun HV uv sv dv => ⟨trivial, fun HS us ss dsx => ?_⟩⟩
    refine ⟨uv, [[4]], us, .at_ 0, rfl, Dp.same ss dv, days_ok4, dsx, (hk (t := .at_ 0) (by decide +kernel)).1, (hk (t := .at_ 0) (by decide +kernel)).2.1, (hk (t := .at_ 0) (by decide +kernel)).2.2, fun HR yr sr _ ar => ⟨trivial, fun Hz lz wz sz ez dz => ?_⟩⟩
    refine ⟨_, _, (ar.same sz).dp, .lst (SqL.of ez) dz, by decide +kernel, by decide +kernel, ?_⟩
    rw [show PyData.eqv (heardTD [[4]] (.at_ 0)) (.list [.tuple [.int 4]]) = true by decide +kernel]
    exact k _ ((((sF.s.trans sv).trans ss).trans sr).trans sz)
end
end CS
set_option Elab.async false
set_option maxRecDepth 100000
set_option maxHeartbeats 8000000
set_option linter.unusedVariables false
set_option pp.maxSteps 9000
/-! the law -/
namespace CS
open PySem L2 RZ
section
variable {P : Program} {w : World} {K : PySem.W.Frag} {mg : Str → Option Value} {base : Heap}
def spLaw25 (K : PySem.W.Frag) : Sp := fun vs H Q _ => ∃ (a : Addr) (ns : List Int), vs = [.ref a] ∧ SqL K H a (ns.map V.int) ∧ ns.length ≤ 63 ∧ ∀ H', Q (.bl true) H'
abbrev nsLaw : List Str := ["script", "state", "turn", "days_so"]
theorem scLaw : FnScope nsLaw ["script"] (defScope sLaw) := ⟨rfl, rfl, rfl, by decide +kernel, rfl, by decide +kernel, by decide +kernel⟩
theorem ok_law {f : Addr} {fd : FuncData} (F : Df K mg "law" sLaw ["script"] f fd)
    {f1 : Addr} {fd1 : FuncData} (D1 : Df K mg "_law_hand_right" sLawHandRight [] f1 fd1) (G1 : FnOk P w K mg base CX0 14 f1 fd1 [] (spHand))
    {f2 : Addr} {fd2 : FuncData} (D2 : Df K mg "_law_is_right" sLawIsRight ["days_so", "term"] f2 fd2) (G2 : FnG P w K mg base CX0 14 f2 fd2 ["days_so", "term"] (spRightT K))
    {f3 : Addr} {fd3 : FuncData} (D3 : Df K mg "_law_term" sLawTerm ["state", "deep"] f3 fd3) (G3 : FnOk P w K mg base CX0 7 f3 fd3 ["state", "deep"] (spTerm K 3))
    {f4 : Addr} {fd4 : FuncData} (D4 : Df K mg "_law_days" sLawDays ["state", "most", "many"] f4 fd4) (G4 : FnOk P w K mg base CX0 4 f4 fd4 ["state", "most", "many"] (spDaysL K))
    {f5 : Addr} {fd5 : FuncData} (D5 : Df K mg "_law_begin" sBegin ["script"] f5 fd5) (G5 : FnOk P w K mg base CX0 1 f5 fd5 ["script"] (spBegin K))
    (T : Bt mg) (mmin : mg "min" = none) : FnG P w K mg base CX0 15 f fd ["script"] (spLaw25 K) := by
  refine FnG.of_body F.F scLaw (fun vs H Q E h => ?_) (fun cdv A outer s H vs Q E hq hr h => ?_)
  · obtain ⟨a, ns, rfl, _⟩ := h
    rfl
  · obtain ⟨a, ns, rfl, hS, hlen, k⟩ := h
    have hq2 : (A.deeper (PyProof.Rows.envOfC "law" (defScope sLaw) s.heap.objs.size f cdv)).guards = some [] := hq
    refine ⟨_, PSs.nox (pss_cons (ps_set (i := 1) scLaw.nd rfl (Or.inl rfl) (pe_call G5 (hr.mono (by decide)) (by rfl) D5.g D5.F.kp D5.b .nil pass0 (pa_cons (pv 0) pa_nil)))
      (pss_cons (ps_for PassesOwn.never rfl (pi_range1 (by rfl) T.range (pa_cons (pe_op op_add pe_int (pe_callB (call_min2 rfl) (by rfl) mmin (by decide +kernel) (pa_cons (pe_callB call_len_seq (by rfl) T.len PySem.boot_len (pa_cons (pv 0) pa_nil)) (pa_cons pe_int pa_nil)))) pa_nil)) (pg_name (i := 2) scLaw.nd rfl (Or.inl rfl)) (pss_cons (ps_set (i := 3) scLaw.nd rfl (Or.inl rfl) (pe_call G4 (hr.mono (by decide)) (by rfl) D4.g D4.F.kp D4.b .nil pass0 (pa_cons (pv 1) (pa_cons pe_int (pa_cons pe_int pa_nil)))))
      (pss_one (ps_if (pt_not (pt_val (pe_callG G2 hq2 (hr.mono (by decide)) (by rfl) D2.g D2.F.kp D2.b pass0 (pa_cons (pv 3) (pa_cons (pe_call G3 (hr.mono (by decide)) (by rfl) D3.g D3.F.kp D3.b .nil pass0 (pa_cons (pv 1) (pa_cons pe_int pa_nil))) pa_nil))))) (pss_one (ps_ret pe_bl)) pss_nil))))
      (pss_one (ps_ret (pe_call0 G1 (hr.mono (by decide)) (by rfl) D1.g D1.F.kp D1.b .nil pass0))))), ?_⟩
    refine ⟨_, rfl, a, ns, rfl, hS, hlen, fun d c l H1 nd s1 S1 => ?_⟩
    have m10 : (if (10 : Int) < ((ns.length : Nat) : Int) then (10 : Int) else ((ns.length : Nat) : Int)) ≤ 10 ∧ 0 ≤ (if (10 : Int) < ((ns.length : Nat) : Int) then (10 : Int) else ((ns.length : Nat) : Int)) := by split <;> omega
    refine ⟨_, rfl, a, _, rfl, .inl (s1.seq hS), _, 10, rfl, _, _, rfl, rfl, _, rfl, ?_, ?_, for_range (lo := 0) (fun i σ H' => ∃ v2 v3 kk, σ = [some (.ref a), some (.ref d), v2, v3] ∧ StAt H' d c l kk ∧ kk ≤ 100 * i) ⟨none, none, 0, rfl, S1, by omega⟩ ?_ ?_⟩
    · rw [List.length_map]
      have := m10
      omega
    · rw [List.length_map]
      have := m10
      omega
    · rintro i σ H2 hi ⟨v2, v3, kk, rfl, S2, hk⟩
      rw [List.length_map] at hi
      refine ⟨_, rfl, d, c, l, kk, rfl, S2, by omega, fun H3 v ds k3 hk3 ok S3 fm3 dv => ?_⟩
      have d45 : drwN 3 = 45 := by decide
      refine ⟨_, rfl, _, rfl, d, c, l, k3, rfl, S3, by omega, fun H4 u t k4 tok h4 w4 hk4 S4 fm4 du => ⟨v, ds, u, t, rfl, Dp.tk (tk_fm fm4 S3) (flatRows ds) dv, ok, du, tok, by omega, by omega, fun H5 s5 => ⟨_, rfl, iteF ⟨_, _, k4, rfl, S4.same s5, by omega⟩⟩⟩⟩
    · rintro σ H2 ⟨v2, v3, kk, rfl, S2, hk⟩
      exact ⟨(), rfl, fun H' _ => k H'⟩
end
end CS
set_option Elab.async false
set_option maxRecDepth 100000
set_option maxHeartbeats 8000000
set_option linter.unusedVariables false
/-! what calls itself, at the heights that are asked -/
namespace CS
open PySem L2 RZ
section
variable {P : Program} {w : World} {K : PySem.W.Frag} {mg : Str → Option Value} {base : Heap}
theorem ok_claim_at5 {f : Addr} {fd : FuncData} (F : Df K mg "claim_at" sClaimAt ["days", "term", "path"] f fd)
    {f1 : Addr} {fd1 : FuncData} (D1 : Df K mg "is_claim" sIsClaim ["days", "thing"] f1 fd1) (G1 : FnOk P w K mg base CX0 4 f1 fd1 ["days", "thing"] (spIsClaim K))
    {f3 : Addr} {fd3 : FuncData} (D3 : Df K mg "all_paths" sAllPaths ["days"] f3 fd3) (G3 : FnOk P w K mg base CX0 1 f3 fd3 ["days"] (spPaths K))
    {f8 f7 : Addr} {fd8 fd7 : FuncData} (D8 : Df K mg "kid_places" sKidPlaces ["shape"] f8 fd8) (G8 : FnOk P w K mg base CX0 1 f8 fd8 ["shape"] (spPlaces K)) (D7 : Df K mg "term_pays" sTermPays ["term", "way", "paid"] f7 fd7) (G7 : FnOk P w K mg base CX0 2 f7 fd7 ["term", "way", "paid"] (spPays K))
    {aT : Addr} {tD : Tok} (gT : mg "TERM_SHAPES" = some (.ref aT)) (gD : mg "DAY" = some (.str "D" tD)) (DT : KD P w K aT shKV) (T : Bt mg) (menumerate : mg "enumerate" = none) {CB fI : Addr} {fdI : FuncData} (Z : Xc K mg "BadTerm" "path" CB fI bmV "ValueError.__new__" (inClass sBadTerm 0) "BadTerm.__init__" fdI) : FnOk P w K mg base (L2.CX P w) 11 f fd ["days", "term", "path"] (spClaimAt K CB 5) :=
  ok_claim_all F D1 G1 D3 G3 D8 G8 D7 G7 gT gD DT T menumerate Z 5
theorem lpays_all {f : Addr} {fd : FuncData} (F : Df K mg "_law_pays" sLawPays ["term", "path"] f fd) (T : Bt mg) (mmin : mg "min" = none) (mmax : mg "max" = none) : ∀ h : Nat, FnOk P w K mg base CX0 (h + 2) f fd ["term", "path"] (spLPay K h)
  | 0 => by
    refine F.F.ok scLawPays (fun vs H Q E h => ?_) (fun cdv A outer s H vs Q E hr h => ?_)
    · obtain ⟨u, t, p, y, rfl, _⟩ := h
      rfl
    · obtain ⟨u, t, p, y, rfl, hu1, hh, _⟩ := h
      have := t.height_pos
      omega
  | h + 1 => ok_law_pays F T mmin mmax F (lpays_all F T mmin mmax h)
theorem ok_law_pays5 {f : Addr} {fd : FuncData} (F : Df K mg "_law_pays" sLawPays ["term", "path"] f fd) (T : Bt mg) (mmin : mg "min" = none) (mmax : mg "max" = none) : FnOk P w K mg base CX0 7 f fd ["term", "path"] (spLPay K 5) := lpays_all F T mmin mmax 5
theorem lfault_all {f : Addr} {fd : FuncData} (F : Df K mg "_law_fault" sLawFault ["days_so", "paths_so", "term", "path"] f fd) {f1 : Addr} {fd1 : FuncData} (D1 : Df K mg "_law_pays" sLawPays ["term", "path"] f1 fd1) (G1 : FnOk P w K mg base CX0 7 f1 fd1 ["term", "path"] (spLPay K 5))
    {f2 : Addr} {fd2 : FuncData} (D2 : Df K mg "_law_places" sLawPlaces ["term"] f2 fd2) (G2 : FnOk P w K mg base CX0 1 f2 fd2 ["term"] (spLPlaces K)) (T : Bt mg) : ∀ h : Nat, h ≤ 5 → FnOk P w K mg base CX0 (h + 8) f fd ["days_so", "paths_so", "term", "path"] (spLFault K h)
  | 0, _ => by
    refine F.F.ok scLawFault (fun vs H Q E h => ?_) (fun cdv A outer s H vs Q E hr h => ?_)
    · obtain ⟨v, ds, l, ws, u, t, p, path, rfl, _⟩ := h
      rfl
    · obtain ⟨v, ds, l, ws, u, t, p, path, rfl, hv, ok, hl, hw, hu1, hh, _⟩ := h
      have := t.height_pos
      omega
  | h + 1, q => by
    first
      | exact ok_law_fault F D1 G1 D2 G2 T F (lfault_all F D1 G1 D2 G2 T h (by omega)) (by omega)
      | exact ok_law_fault F D2 G2 D1 G1 T F (lfault_all F D1 G1 D2 G2 T h (by omega)) (by omega)
theorem ok_law_fault5 {f : Addr} {fd : FuncData} (F : Df K mg "_law_fault" sLawFault ["days_so", "paths_so", "term", "path"] f fd) {f1 : Addr} {fd1 : FuncData} (D1 : Df K mg "_law_pays" sLawPays ["term", "path"] f1 fd1) (G1 : FnOk P w K mg base CX0 7 f1 fd1 ["term", "path"] (spLPay K 5))
    {f2 : Addr} {fd2 : FuncData} (D2 : Df K mg "_law_places" sLawPlaces ["term"] f2 fd2) (G2 : FnOk P w K mg base CX0 1 f2 fd2 ["term"] (spLPlaces K)) (T : Bt mg) : FnOk P w K mg base CX0 13 f fd ["days_so", "paths_so", "term", "path"] (spLFault K 5) := lfault_all F D1 G1 D2 G2 T 5 (Nat.le_refl _)
theorem ok_law_term3 {f : Addr} {fd : FuncData} (F : Df K mg "_law_term" sLawTerm ["state", "deep"] f fd)
    {f1 : Addr} {fd1 : FuncData} (D1 : Df K mg "_law_of" sLawOf ["state", "some"] f1 fd1) (G1 : FnOk P w K mg base CX0 3 f1 fd1 ["state", "some"] (spOneOf K))
    {f2 : Addr} {fd2 : FuncData} (D2 : Df K mg "_law_draw" sDraw ["state", "many"] f2 fd2) (G2 : FnOk P w K mg base CX0 2 f2 fd2 ["state", "many"] spDraw) (T : Bt mg) : FnOk P w K mg base CX0 7 f fd ["state", "deep"] (spTerm K 3) := ok_law_terms F D1 G1 D2 G2 T 3 (Nat.le_refl _)
end
end CS
set_option Elab.async false
set_option maxRecDepth 100000
set_option linter.unusedVariables false
namespace CS
open PySem L2
set_option maxHeartbeats 16000000 in
theorem all_mk {l : PySem.W.OpenLaw} {w : World} {K : PySem.W.Frag} {h : Heap} {mg : Str → Option Value} {fa fIsWholeWithin fIsWhole fIsWholeClaimed fIsRowOf fIsRow fCountPaths fIsClaim fAllPaths fKidPlaces fLeafPays fTermPays fClaimAt fIsInOrder fMayStand fIsWord fIsFormed fFaultIn fNeedTerm fAscends fIsNumber fIsDay fIsDays fNeedDays fClaimOf fLawHeard fLawHandRight fKidsOf fLawPlaces fLawPays fLawFault fLawPaths fLawIsRight fDraw fMixed fLawOf fLawTerm fLawDays fBegin fLaw aB aN aD aX aA aM aT : Addr} (X : K.In h) (G : h.Ns mainGlobals mg) (hfa : mg "law" = some (.ref fa))
    {odIsWholeWithin anIsWholeWithin : Option Addr} {slIsWholeWithin : Array (Option Value)} {ocIsWholeWithin kVIsWholeWithin dcIsWholeWithin pmIsWholeWithin cdIsWholeWithin ctIsWholeWithin : Value} (aIsWholeWithin : PySem.W.nsIn K mainGlobals "is_whole_within" = some (some (.ref fIsWholeWithin))) (lIsWholeWithin : K.lookup fIsWholeWithin = some ⟨ocIsWholeWithin, odIsWholeWithin, .func (PySem.W.fnOf "is_whole_within" "is_whole_within" (defArgs sIsWholeWithin) (defBody sIsWholeWithin) (defScope sIsWholeWithin) .none kVIsWholeWithin dcIsWholeWithin pmIsWholeWithin anIsWholeWithin cdIsWholeWithin ctIsWholeWithin), slIsWholeWithin⟩) (cIsWholeWithin : PySem.W.codeIn K cdIsWholeWithin "is_whole_within" = true) (kIsWholeWithin : PySem.W.keepIn K (.ref fIsWholeWithin) = true)
    {odIsWhole anIsWhole : Option Addr} {slIsWhole : Array (Option Value)} {ocIsWhole kVIsWhole dcIsWhole pmIsWhole cdIsWhole ctIsWhole : Value} (aIsWhole : PySem.W.nsIn K mainGlobals "is_whole" = some (some (.ref fIsWhole))) (lIsWhole : K.lookup fIsWhole = some ⟨ocIsWhole, odIsWhole, .func (PySem.W.fnOf "is_whole" "is_whole" (defArgs sIsWhole) (defBody sIsWhole) (defScope sIsWhole) .none kVIsWhole dcIsWhole pmIsWhole anIsWhole cdIsWhole ctIsWhole), slIsWhole⟩) (cIsWhole : PySem.W.codeIn K cdIsWhole "is_whole" = true) (kIsWhole : PySem.W.keepIn K (.ref fIsWhole) = true)
    {odIsWholeClaimed anIsWholeClaimed : Option Addr} {slIsWholeClaimed : Array (Option Value)} {ocIsWholeClaimed kVIsWholeClaimed dcIsWholeClaimed pmIsWholeClaimed cdIsWholeClaimed ctIsWholeClaimed : Value} (aIsWholeClaimed : PySem.W.nsIn K mainGlobals "is_whole_claimed" = some (some (.ref fIsWholeClaimed))) (lIsWholeClaimed : K.lookup fIsWholeClaimed = some ⟨ocIsWholeClaimed, odIsWholeClaimed, .func (PySem.W.fnOf "is_whole_claimed" "is_whole_claimed" (defArgs sIsWholeClaimed) (defBody sIsWholeClaimed) (defScope sIsWholeClaimed) .none kVIsWholeClaimed dcIsWholeClaimed pmIsWholeClaimed anIsWholeClaimed cdIsWholeClaimed ctIsWholeClaimed), slIsWholeClaimed⟩) (cIsWholeClaimed : PySem.W.codeIn K cdIsWholeClaimed "is_whole_claimed" = true) (kIsWholeClaimed : PySem.W.keepIn K (.ref fIsWholeClaimed) = true)
    {odIsRowOf anIsRowOf : Option Addr} {slIsRowOf : Array (Option Value)} {ocIsRowOf kVIsRowOf dcIsRowOf pmIsRowOf cdIsRowOf ctIsRowOf : Value} (aIsRowOf : PySem.W.nsIn K mainGlobals "is_row_of" = some (some (.ref fIsRowOf))) (lIsRowOf : K.lookup fIsRowOf = some ⟨ocIsRowOf, odIsRowOf, .func (PySem.W.fnOf "is_row_of" "is_row_of" (defArgs sIsRowOf) (defBody sIsRowOf) (defScope sIsRowOf) .none kVIsRowOf dcIsRowOf pmIsRowOf anIsRowOf cdIsRowOf ctIsRowOf), slIsRowOf⟩) (cIsRowOf : PySem.W.codeIn K cdIsRowOf "is_row_of" = true) (kIsRowOf : PySem.W.keepIn K (.ref fIsRowOf) = true)
    {odIsRow anIsRow : Option Addr} {slIsRow : Array (Option Value)} {ocIsRow kVIsRow dcIsRow pmIsRow cdIsRow ctIsRow : Value} (aIsRow : PySem.W.nsIn K mainGlobals "is_row" = some (some (.ref fIsRow))) (lIsRow : K.lookup fIsRow = some ⟨ocIsRow, odIsRow, .func (PySem.W.fnOf "is_row" "is_row" (defArgs sIsRow) (defBody sIsRow) (defScope sIsRow) .none kVIsRow dcIsRow pmIsRow anIsRow cdIsRow ctIsRow), slIsRow⟩) (cIsRow : PySem.W.codeIn K cdIsRow "is_row" = true) (kIsRow : PySem.W.keepIn K (.ref fIsRow) = true)
    {odCountPaths anCountPaths : Option Addr} {slCountPaths : Array (Option Value)} {ocCountPaths kVCountPaths dcCountPaths pmCountPaths cdCountPaths ctCountPaths : Value} (aCountPaths : PySem.W.nsIn K mainGlobals "count_paths" = some (some (.ref fCountPaths))) (lCountPaths : K.lookup fCountPaths = some ⟨ocCountPaths, odCountPaths, .func (PySem.W.fnOf "count_paths" "count_paths" (defArgs sCountPaths) (defBody sCountPaths) (defScope sCountPaths) .none kVCountPaths dcCountPaths pmCountPaths anCountPaths cdCountPaths ctCountPaths), slCountPaths⟩) (cCountPaths : PySem.W.codeIn K cdCountPaths "count_paths" = true) (kCountPaths : PySem.W.keepIn K (.ref fCountPaths) = true)
    {odIsClaim anIsClaim : Option Addr} {slIsClaim : Array (Option Value)} {ocIsClaim kVIsClaim dcIsClaim pmIsClaim cdIsClaim ctIsClaim : Value} (aIsClaim : PySem.W.nsIn K mainGlobals "is_claim" = some (some (.ref fIsClaim))) (lIsClaim : K.lookup fIsClaim = some ⟨ocIsClaim, odIsClaim, .func (PySem.W.fnOf "is_claim" "is_claim" (defArgs sIsClaim) (defBody sIsClaim) (defScope sIsClaim) .none kVIsClaim dcIsClaim pmIsClaim anIsClaim cdIsClaim ctIsClaim), slIsClaim⟩) (cIsClaim : PySem.W.codeIn K cdIsClaim "is_claim" = true) (kIsClaim : PySem.W.keepIn K (.ref fIsClaim) = true)
    {odAllPaths anAllPaths : Option Addr} {slAllPaths : Array (Option Value)} {ocAllPaths kVAllPaths dcAllPaths pmAllPaths cdAllPaths ctAllPaths : Value} (aAllPaths : PySem.W.nsIn K mainGlobals "all_paths" = some (some (.ref fAllPaths))) (lAllPaths : K.lookup fAllPaths = some ⟨ocAllPaths, odAllPaths, .func (PySem.W.fnOf "all_paths" "all_paths" (defArgs sAllPaths) (defBody sAllPaths) (defScope sAllPaths) .none kVAllPaths dcAllPaths pmAllPaths anAllPaths cdAllPaths ctAllPaths), slAllPaths⟩) (cAllPaths : PySem.W.codeIn K cdAllPaths "all_paths" = true) (kAllPaths : PySem.W.keepIn K (.ref fAllPaths) = true)
    {odKidPlaces anKidPlaces : Option Addr} {slKidPlaces : Array (Option Value)} {ocKidPlaces kVKidPlaces dcKidPlaces pmKidPlaces cdKidPlaces ctKidPlaces : Value} (aKidPlaces : PySem.W.nsIn K mainGlobals "kid_places" = some (some (.ref fKidPlaces))) (lKidPlaces : K.lookup fKidPlaces = some ⟨ocKidPlaces, odKidPlaces, .func (PySem.W.fnOf "kid_places" "kid_places" (defArgs sKidPlaces) (defBody sKidPlaces) (defScope sKidPlaces) .none kVKidPlaces dcKidPlaces pmKidPlaces anKidPlaces cdKidPlaces ctKidPlaces), slKidPlaces⟩) (cKidPlaces : PySem.W.codeIn K cdKidPlaces "kid_places" = true) (kKidPlaces : PySem.W.keepIn K (.ref fKidPlaces) = true)
    {odLeafPays anLeafPays : Option Addr} {slLeafPays : Array (Option Value)} {ocLeafPays kVLeafPays dcLeafPays pmLeafPays cdLeafPays ctLeafPays : Value} (aLeafPays : PySem.W.nsIn K mainGlobals "leaf_pays" = some (some (.ref fLeafPays))) (lLeafPays : K.lookup fLeafPays = some ⟨ocLeafPays, odLeafPays, .func (PySem.W.fnOf "leaf_pays" "leaf_pays" (defArgs sLeafPays) (defBody sLeafPays) (defScope sLeafPays) .none kVLeafPays dcLeafPays pmLeafPays anLeafPays cdLeafPays ctLeafPays), slLeafPays⟩) (cLeafPays : PySem.W.codeIn K cdLeafPays "leaf_pays" = true) (kLeafPays : PySem.W.keepIn K (.ref fLeafPays) = true)
    {odTermPays anTermPays : Option Addr} {slTermPays : Array (Option Value)} {ocTermPays kVTermPays dcTermPays pmTermPays cdTermPays ctTermPays : Value} (aTermPays : PySem.W.nsIn K mainGlobals "term_pays" = some (some (.ref fTermPays))) (lTermPays : K.lookup fTermPays = some ⟨ocTermPays, odTermPays, .func (PySem.W.fnOf "term_pays" "term_pays" (defArgs sTermPays) (defBody sTermPays) (defScope sTermPays) .none kVTermPays dcTermPays pmTermPays anTermPays cdTermPays ctTermPays), slTermPays⟩) (cTermPays : PySem.W.codeIn K cdTermPays "term_pays" = true) (kTermPays : PySem.W.keepIn K (.ref fTermPays) = true)
    {odClaimAt anClaimAt : Option Addr} {slClaimAt : Array (Option Value)} {ocClaimAt kVClaimAt dcClaimAt pmClaimAt cdClaimAt ctClaimAt : Value} (aClaimAt : PySem.W.nsIn K mainGlobals "claim_at" = some (some (.ref fClaimAt))) (lClaimAt : K.lookup fClaimAt = some ⟨ocClaimAt, odClaimAt, .func (PySem.W.fnOf "claim_at" "claim_at" (defArgs sClaimAt) (defBody sClaimAt) (defScope sClaimAt) .none kVClaimAt dcClaimAt pmClaimAt anClaimAt cdClaimAt ctClaimAt), slClaimAt⟩) (cClaimAt : PySem.W.codeIn K cdClaimAt "claim_at" = true) (kClaimAt : PySem.W.keepIn K (.ref fClaimAt) = true)
    {odIsInOrder anIsInOrder : Option Addr} {slIsInOrder : Array (Option Value)} {ocIsInOrder kVIsInOrder dcIsInOrder pmIsInOrder cdIsInOrder ctIsInOrder : Value} (aIsInOrder : PySem.W.nsIn K mainGlobals "is_in_order" = some (some (.ref fIsInOrder))) (lIsInOrder : K.lookup fIsInOrder = some ⟨ocIsInOrder, odIsInOrder, .func (PySem.W.fnOf "is_in_order" "is_in_order" (defArgs sIsInOrder) (defBody sIsInOrder) (defScope sIsInOrder) .none kVIsInOrder dcIsInOrder pmIsInOrder anIsInOrder cdIsInOrder ctIsInOrder), slIsInOrder⟩) (cIsInOrder : PySem.W.codeIn K cdIsInOrder "is_in_order" = true) (kIsInOrder : PySem.W.keepIn K (.ref fIsInOrder) = true)
    {odMayStand anMayStand : Option Addr} {slMayStand : Array (Option Value)} {ocMayStand kVMayStand dcMayStand pmMayStand cdMayStand ctMayStand : Value} (aMayStand : PySem.W.nsIn K mainGlobals "may_stand" = some (some (.ref fMayStand))) (lMayStand : K.lookup fMayStand = some ⟨ocMayStand, odMayStand, .func (PySem.W.fnOf "may_stand" "may_stand" (defArgs sMayStand) (defBody sMayStand) (defScope sMayStand) .none kVMayStand dcMayStand pmMayStand anMayStand cdMayStand ctMayStand), slMayStand⟩) (cMayStand : PySem.W.codeIn K cdMayStand "may_stand" = true) (kMayStand : PySem.W.keepIn K (.ref fMayStand) = true)
    {odIsWord anIsWord : Option Addr} {slIsWord : Array (Option Value)} {ocIsWord kVIsWord dcIsWord pmIsWord cdIsWord ctIsWord : Value} (aIsWord : PySem.W.nsIn K mainGlobals "is_word" = some (some (.ref fIsWord))) (lIsWord : K.lookup fIsWord = some ⟨ocIsWord, odIsWord, .func (PySem.W.fnOf "is_word" "is_word" (defArgs sIsWord) (defBody sIsWord) (defScope sIsWord) .none kVIsWord dcIsWord pmIsWord anIsWord cdIsWord ctIsWord), slIsWord⟩) (cIsWord : PySem.W.codeIn K cdIsWord "is_word" = true) (kIsWord : PySem.W.keepIn K (.ref fIsWord) = true)
    {odIsFormed anIsFormed : Option Addr} {slIsFormed : Array (Option Value)} {ocIsFormed kVIsFormed dcIsFormed pmIsFormed cdIsFormed ctIsFormed : Value} (aIsFormed : PySem.W.nsIn K mainGlobals "is_formed" = some (some (.ref fIsFormed))) (lIsFormed : K.lookup fIsFormed = some ⟨ocIsFormed, odIsFormed, .func (PySem.W.fnOf "is_formed" "is_formed" (defArgs sIsFormed) (defBody sIsFormed) (defScope sIsFormed) .none kVIsFormed dcIsFormed pmIsFormed anIsFormed cdIsFormed ctIsFormed), slIsFormed⟩) (cIsFormed : PySem.W.codeIn K cdIsFormed "is_formed" = true) (kIsFormed : PySem.W.keepIn K (.ref fIsFormed) = true)
    {odFaultIn anFaultIn : Option Addr} {slFaultIn : Array (Option Value)} {ocFaultIn kVFaultIn dcFaultIn pmFaultIn cdFaultIn ctFaultIn : Value} (aFaultIn : PySem.W.nsIn K mainGlobals "fault_in" = some (some (.ref fFaultIn))) (lFaultIn : K.lookup fFaultIn = some ⟨ocFaultIn, odFaultIn, .func (PySem.W.fnOf "fault_in" "fault_in" (defArgs sFaultIn) (defBody sFaultIn) (defScope sFaultIn) .none kVFaultIn dcFaultIn pmFaultIn anFaultIn cdFaultIn ctFaultIn), slFaultIn⟩) (cFaultIn : PySem.W.codeIn K cdFaultIn "fault_in" = true) (kFaultIn : PySem.W.keepIn K (.ref fFaultIn) = true)
    {odNeedTerm anNeedTerm : Option Addr} {slNeedTerm : Array (Option Value)} {ocNeedTerm kVNeedTerm dcNeedTerm pmNeedTerm cdNeedTerm ctNeedTerm : Value} (aNeedTerm : PySem.W.nsIn K mainGlobals "need_term" = some (some (.ref fNeedTerm))) (lNeedTerm : K.lookup fNeedTerm = some ⟨ocNeedTerm, odNeedTerm, .func (PySem.W.fnOf "need_term" "need_term" (defArgs sNeedTerm) (defBody sNeedTerm) (defScope sNeedTerm) .none kVNeedTerm dcNeedTerm pmNeedTerm anNeedTerm cdNeedTerm ctNeedTerm), slNeedTerm⟩) (cNeedTerm : PySem.W.codeIn K cdNeedTerm "need_term" = true) (kNeedTerm : PySem.W.keepIn K (.ref fNeedTerm) = true)
    {odAscends anAscends : Option Addr} {slAscends : Array (Option Value)} {ocAscends kVAscends dcAscends pmAscends cdAscends ctAscends : Value} (aAscends : PySem.W.nsIn K mainGlobals "ascends" = some (some (.ref fAscends))) (lAscends : K.lookup fAscends = some ⟨ocAscends, odAscends, .func (PySem.W.fnOf "ascends" "ascends" (defArgs sAscends) (defBody sAscends) (defScope sAscends) .none kVAscends dcAscends pmAscends anAscends cdAscends ctAscends), slAscends⟩) (cAscends : PySem.W.codeIn K cdAscends "ascends" = true) (kAscends : PySem.W.keepIn K (.ref fAscends) = true)
    {odIsNumber anIsNumber : Option Addr} {slIsNumber : Array (Option Value)} {ocIsNumber kVIsNumber dcIsNumber pmIsNumber cdIsNumber ctIsNumber : Value} (aIsNumber : PySem.W.nsIn K mainGlobals "is_number" = some (some (.ref fIsNumber))) (lIsNumber : K.lookup fIsNumber = some ⟨ocIsNumber, odIsNumber, .func (PySem.W.fnOf "is_number" "is_number" (defArgs sIsNumber) (defBody sIsNumber) (defScope sIsNumber) .none kVIsNumber dcIsNumber pmIsNumber anIsNumber cdIsNumber ctIsNumber), slIsNumber⟩) (cIsNumber : PySem.W.codeIn K cdIsNumber "is_number" = true) (kIsNumber : PySem.W.keepIn K (.ref fIsNumber) = true)
    {odIsDay anIsDay : Option Addr} {slIsDay : Array (Option Value)} {ocIsDay kVIsDay dcIsDay pmIsDay cdIsDay ctIsDay : Value} (aIsDay : PySem.W.nsIn K mainGlobals "is_day" = some (some (.ref fIsDay))) (lIsDay : K.lookup fIsDay = some ⟨ocIsDay, odIsDay, .func (PySem.W.fnOf "is_day" "is_day" (defArgs sIsDay) (defBody sIsDay) (defScope sIsDay) .none kVIsDay dcIsDay pmIsDay anIsDay cdIsDay ctIsDay), slIsDay⟩) (cIsDay : PySem.W.codeIn K cdIsDay "is_day" = true) (kIsDay : PySem.W.keepIn K (.ref fIsDay) = true)
    {odIsDays anIsDays : Option Addr} {slIsDays : Array (Option Value)} {ocIsDays kVIsDays dcIsDays pmIsDays cdIsDays ctIsDays : Value} (aIsDays : PySem.W.nsIn K mainGlobals "is_days" = some (some (.ref fIsDays))) (lIsDays : K.lookup fIsDays = some ⟨ocIsDays, odIsDays, .func (PySem.W.fnOf "is_days" "is_days" (defArgs sIsDays) (defBody sIsDays) (defScope sIsDays) .none kVIsDays dcIsDays pmIsDays anIsDays cdIsDays ctIsDays), slIsDays⟩) (cIsDays : PySem.W.codeIn K cdIsDays "is_days" = true) (kIsDays : PySem.W.keepIn K (.ref fIsDays) = true)
    {odNeedDays anNeedDays : Option Addr} {slNeedDays : Array (Option Value)} {ocNeedDays kVNeedDays dcNeedDays pmNeedDays cdNeedDays ctNeedDays : Value} (aNeedDays : PySem.W.nsIn K mainGlobals "need_days" = some (some (.ref fNeedDays))) (lNeedDays : K.lookup fNeedDays = some ⟨ocNeedDays, odNeedDays, .func (PySem.W.fnOf "need_days" "need_days" (defArgs sNeedDays) (defBody sNeedDays) (defScope sNeedDays) .none kVNeedDays dcNeedDays pmNeedDays anNeedDays cdNeedDays ctNeedDays), slNeedDays⟩) (cNeedDays : PySem.W.codeIn K cdNeedDays "need_days" = true) (kNeedDays : PySem.W.keepIn K (.ref fNeedDays) = true)
    {odClaimOf anClaimOf : Option Addr} {slClaimOf : Array (Option Value)} {ocClaimOf kVClaimOf dcClaimOf pmClaimOf cdClaimOf ctClaimOf : Value} (aClaimOf : PySem.W.nsIn K mainGlobals "claim_of" = some (some (.ref fClaimOf))) (lClaimOf : K.lookup fClaimOf = some ⟨ocClaimOf, odClaimOf, .func (PySem.W.fnOf "claim_of" "claim_of" (defArgs sClaimOf) (defBody sClaimOf) (defScope sClaimOf) .none kVClaimOf dcClaimOf pmClaimOf anClaimOf cdClaimOf ctClaimOf), slClaimOf⟩) (cClaimOf : PySem.W.codeIn K cdClaimOf "claim_of" = true) (kClaimOf : PySem.W.keepIn K (.ref fClaimOf) = true)
    {odLawHeard anLawHeard : Option Addr} {slLawHeard : Array (Option Value)} {ocLawHeard kVLawHeard dcLawHeard pmLawHeard cdLawHeard ctLawHeard : Value} (aLawHeard : PySem.W.nsIn K mainGlobals "_law_heard" = some (some (.ref fLawHeard))) (lLawHeard : K.lookup fLawHeard = some ⟨ocLawHeard, odLawHeard, .func (PySem.W.fnOf "_law_heard" "_law_heard" (defArgs sLawHeard) (defBody sLawHeard) (defScope sLawHeard) .none kVLawHeard dcLawHeard pmLawHeard anLawHeard cdLawHeard ctLawHeard), slLawHeard⟩) (cLawHeard : PySem.W.codeIn K cdLawHeard "_law_heard" = true) (kLawHeard : PySem.W.keepIn K (.ref fLawHeard) = true)
    {odLawHandRight anLawHandRight : Option Addr} {slLawHandRight : Array (Option Value)} {ocLawHandRight kVLawHandRight dcLawHandRight pmLawHandRight cdLawHandRight ctLawHandRight : Value} (aLawHandRight : PySem.W.nsIn K mainGlobals "_law_hand_right" = some (some (.ref fLawHandRight))) (lLawHandRight : K.lookup fLawHandRight = some ⟨ocLawHandRight, odLawHandRight, .func (PySem.W.fnOf "_law_hand_right" "_law_hand_right" (defArgs sLawHandRight) (defBody sLawHandRight) (defScope sLawHandRight) .none kVLawHandRight dcLawHandRight pmLawHandRight anLawHandRight cdLawHandRight ctLawHandRight), slLawHandRight⟩) (cLawHandRight : PySem.W.codeIn K cdLawHandRight "_law_hand_right" = true) (kLawHandRight : PySem.W.keepIn K (.ref fLawHandRight) = true)
    {odKidsOf anKidsOf : Option Addr} {slKidsOf : Array (Option Value)} {ocKidsOf kVKidsOf dcKidsOf pmKidsOf cdKidsOf ctKidsOf : Value} (aKidsOf : PySem.W.nsIn K mainGlobals "kids_of" = some (some (.ref fKidsOf))) (lKidsOf : K.lookup fKidsOf = some ⟨ocKidsOf, odKidsOf, .func (PySem.W.fnOf "kids_of" "kids_of" (defArgs sKidsOf) (defBody sKidsOf) (defScope sKidsOf) .none kVKidsOf dcKidsOf pmKidsOf anKidsOf cdKidsOf ctKidsOf), slKidsOf⟩) (cKidsOf : PySem.W.codeIn K cdKidsOf "kids_of" = true) (kKidsOf : PySem.W.keepIn K (.ref fKidsOf) = true)
    {odLawPlaces anLawPlaces : Option Addr} {slLawPlaces : Array (Option Value)} {ocLawPlaces kVLawPlaces dcLawPlaces pmLawPlaces cdLawPlaces ctLawPlaces : Value} (aLawPlaces : PySem.W.nsIn K mainGlobals "_law_places" = some (some (.ref fLawPlaces))) (lLawPlaces : K.lookup fLawPlaces = some ⟨ocLawPlaces, odLawPlaces, .func (PySem.W.fnOf "_law_places" "_law_places" (defArgs sLawPlaces) (defBody sLawPlaces) (defScope sLawPlaces) .none kVLawPlaces dcLawPlaces pmLawPlaces anLawPlaces cdLawPlaces ctLawPlaces), slLawPlaces⟩) (cLawPlaces : PySem.W.codeIn K cdLawPlaces "_law_places" = true) (kLawPlaces : PySem.W.keepIn K (.ref fLawPlaces) = true)
    {odLawPays anLawPays : Option Addr} {slLawPays : Array (Option Value)} {ocLawPays kVLawPays dcLawPays pmLawPays cdLawPays ctLawPays : Value} (aLawPays : PySem.W.nsIn K mainGlobals "_law_pays" = some (some (.ref fLawPays))) (lLawPays : K.lookup fLawPays = some ⟨ocLawPays, odLawPays, .func (PySem.W.fnOf "_law_pays" "_law_pays" (defArgs sLawPays) (defBody sLawPays) (defScope sLawPays) .none kVLawPays dcLawPays pmLawPays anLawPays cdLawPays ctLawPays), slLawPays⟩) (cLawPays : PySem.W.codeIn K cdLawPays "_law_pays" = true) (kLawPays : PySem.W.keepIn K (.ref fLawPays) = true)
    {odLawFault anLawFault : Option Addr} {slLawFault : Array (Option Value)} {ocLawFault kVLawFault dcLawFault pmLawFault cdLawFault ctLawFault : Value} (aLawFault : PySem.W.nsIn K mainGlobals "_law_fault" = some (some (.ref fLawFault))) (lLawFault : K.lookup fLawFault = some ⟨ocLawFault, odLawFault, .func (PySem.W.fnOf "_law_fault" "_law_fault" (defArgs sLawFault) (defBody sLawFault) (defScope sLawFault) .none kVLawFault dcLawFault pmLawFault anLawFault cdLawFault ctLawFault), slLawFault⟩) (cLawFault : PySem.W.codeIn K cdLawFault "_law_fault" = true) (kLawFault : PySem.W.keepIn K (.ref fLawFault) = true)
    {odLawPaths anLawPaths : Option Addr} {slLawPaths : Array (Option Value)} {ocLawPaths kVLawPaths dcLawPaths pmLawPaths cdLawPaths ctLawPaths : Value} (aLawPaths : PySem.W.nsIn K mainGlobals "_law_paths" = some (some (.ref fLawPaths))) (lLawPaths : K.lookup fLawPaths = some ⟨ocLawPaths, odLawPaths, .func (PySem.W.fnOf "_law_paths" "_law_paths" (defArgs sLawPaths) (defBody sLawPaths) (defScope sLawPaths) .none kVLawPaths dcLawPaths pmLawPaths anLawPaths cdLawPaths ctLawPaths), slLawPaths⟩) (cLawPaths : PySem.W.codeIn K cdLawPaths "_law_paths" = true) (kLawPaths : PySem.W.keepIn K (.ref fLawPaths) = true)
    {odLawIsRight anLawIsRight : Option Addr} {slLawIsRight : Array (Option Value)} {ocLawIsRight kVLawIsRight dcLawIsRight pmLawIsRight cdLawIsRight ctLawIsRight : Value} (aLawIsRight : PySem.W.nsIn K mainGlobals "_law_is_right" = some (some (.ref fLawIsRight))) (lLawIsRight : K.lookup fLawIsRight = some ⟨ocLawIsRight, odLawIsRight, .func (PySem.W.fnOf "_law_is_right" "_law_is_right" (defArgs sLawIsRight) (defBody sLawIsRight) (defScope sLawIsRight) .none kVLawIsRight dcLawIsRight pmLawIsRight anLawIsRight cdLawIsRight ctLawIsRight), slLawIsRight⟩) (cLawIsRight : PySem.W.codeIn K cdLawIsRight "_law_is_right" = true) (kLawIsRight : PySem.W.keepIn K (.ref fLawIsRight) = true)
    {odDraw anDraw : Option Addr} {slDraw : Array (Option Value)} {ocDraw kVDraw dcDraw pmDraw cdDraw ctDraw : Value} (aDraw : PySem.W.nsIn K mainGlobals "_law_draw" = some (some (.ref fDraw))) (lDraw : K.lookup fDraw = some ⟨ocDraw, odDraw, .func (PySem.W.fnOf "_law_draw" "_law_draw" (defArgs sDraw) (defBody sDraw) (defScope sDraw) .none kVDraw dcDraw pmDraw anDraw cdDraw ctDraw), slDraw⟩) (cDraw : PySem.W.codeIn K cdDraw "_law_draw" = true) (kDraw : PySem.W.keepIn K (.ref fDraw) = true)
    {odMixed anMixed : Option Addr} {slMixed : Array (Option Value)} {ocMixed kVMixed dcMixed pmMixed cdMixed ctMixed : Value} (aMixed : PySem.W.nsIn K mainGlobals "_law_mixed" = some (some (.ref fMixed))) (lMixed : K.lookup fMixed = some ⟨ocMixed, odMixed, .func (PySem.W.fnOf "_law_mixed" "_law_mixed" (defArgs sMixed) (defBody sMixed) (defScope sMixed) .none kVMixed dcMixed pmMixed anMixed cdMixed ctMixed), slMixed⟩) (cMixed : PySem.W.codeIn K cdMixed "_law_mixed" = true) (kMixed : PySem.W.keepIn K (.ref fMixed) = true)
    {odLawOf anLawOf : Option Addr} {slLawOf : Array (Option Value)} {ocLawOf kVLawOf dcLawOf pmLawOf cdLawOf ctLawOf : Value} (aLawOf : PySem.W.nsIn K mainGlobals "_law_of" = some (some (.ref fLawOf))) (lLawOf : K.lookup fLawOf = some ⟨ocLawOf, odLawOf, .func (PySem.W.fnOf "_law_of" "_law_of" (defArgs sLawOf) (defBody sLawOf) (defScope sLawOf) .none kVLawOf dcLawOf pmLawOf anLawOf cdLawOf ctLawOf), slLawOf⟩) (cLawOf : PySem.W.codeIn K cdLawOf "_law_of" = true) (kLawOf : PySem.W.keepIn K (.ref fLawOf) = true)
    {odLawTerm anLawTerm : Option Addr} {slLawTerm : Array (Option Value)} {ocLawTerm kVLawTerm dcLawTerm pmLawTerm cdLawTerm ctLawTerm : Value} (aLawTerm : PySem.W.nsIn K mainGlobals "_law_term" = some (some (.ref fLawTerm))) (lLawTerm : K.lookup fLawTerm = some ⟨ocLawTerm, odLawTerm, .func (PySem.W.fnOf "_law_term" "_law_term" (defArgs sLawTerm) (defBody sLawTerm) (defScope sLawTerm) .none kVLawTerm dcLawTerm pmLawTerm anLawTerm cdLawTerm ctLawTerm), slLawTerm⟩) (cLawTerm : PySem.W.codeIn K cdLawTerm "_law_term" = true) (kLawTerm : PySem.W.keepIn K (.ref fLawTerm) = true)
    {odLawDays anLawDays : Option Addr} {slLawDays : Array (Option Value)} {ocLawDays kVLawDays dcLawDays pmLawDays cdLawDays ctLawDays : Value} (aLawDays : PySem.W.nsIn K mainGlobals "_law_days" = some (some (.ref fLawDays))) (lLawDays : K.lookup fLawDays = some ⟨ocLawDays, odLawDays, .func (PySem.W.fnOf "_law_days" "_law_days" (defArgs sLawDays) (defBody sLawDays) (defScope sLawDays) .none kVLawDays dcLawDays pmLawDays anLawDays cdLawDays ctLawDays), slLawDays⟩) (cLawDays : PySem.W.codeIn K cdLawDays "_law_days" = true) (kLawDays : PySem.W.keepIn K (.ref fLawDays) = true)
    {odBegin anBegin : Option Addr} {slBegin : Array (Option Value)} {ocBegin kVBegin dcBegin pmBegin cdBegin ctBegin : Value} (aBegin : PySem.W.nsIn K mainGlobals "_law_begin" = some (some (.ref fBegin))) (lBegin : K.lookup fBegin = some ⟨ocBegin, odBegin, .func (PySem.W.fnOf "_law_begin" "_law_begin" (defArgs sBegin) (defBody sBegin) (defScope sBegin) .none kVBegin dcBegin pmBegin anBegin cdBegin ctBegin), slBegin⟩) (cBegin : PySem.W.codeIn K cdBegin "_law_begin" = true) (kBegin : PySem.W.keepIn K (.ref fBegin) = true)
    {odLaw anLaw : Option Addr} {slLaw : Array (Option Value)} {ocLaw kVLaw dcLaw pmLaw cdLaw ctLaw : Value} (aLaw : PySem.W.nsIn K mainGlobals "law" = some (some (.ref fLaw))) (lLaw : K.lookup fLaw = some ⟨ocLaw, odLaw, .func (PySem.W.fnOf "law" "law" (defArgs sLaw) (defBody sLaw) (defScope sLaw) .none kVLaw dcLaw pmLaw anLaw cdLaw ctLaw), slLaw⟩) (cLaw : PySem.W.codeIn K cdLaw "law" = true) (kLaw : PySem.W.keepIn K (.ref fLaw) = true)
    (z_isinstance : PySem.W.nsIn K mainGlobals "isinstance" = some none) (z_int : PySem.W.nsIn K mainGlobals "int" = some none) (z_tuple : PySem.W.nsIn K mainGlobals "tuple" = some none) (z_len : PySem.W.nsIn K mainGlobals "len" = some none) (z_abs : PySem.W.nsIn K mainGlobals "abs" = some none) (z_range : PySem.W.nsIn K mainGlobals "range" = some none) (z_list : PySem.W.nsIn K mainGlobals "list" = some none) (z_sorted : PySem.W.nsIn K mainGlobals "sorted" = some none) (z_zip : PySem.W.nsIn K mainGlobals "zip" = some none) (z_all : PySem.W.nsIn K mainGlobals "all" = some none) (z_dict : PySem.W.nsIn K mainGlobals "dict" = some none) (z_enumerate : PySem.W.nsIn K mainGlobals "enumerate" = some none) (z_min : PySem.W.nsIn K mainGlobals "min" = some none) (z_max : PySem.W.nsIn K mainGlobals "max" = some none) (z_str : PySem.W.nsIn K mainGlobals "str" = some none) (z_repr : PySem.W.nsIn K mainGlobals "repr" = some none)
    {tK10000_MOST_CLAIMED : Tok} (aK_MOST_CLAIMED : PySem.W.nsIn K mainGlobals "MOST_CLAIMED" = some (some (.int 10000 tK10000_MOST_CLAIMED)))
    {tK20_MOST_WORDS : Tok} (aK_MOST_WORDS : PySem.W.nsIn K mainGlobals "MOST_WORDS" = some (some (.int 20 tK20_MOST_WORDS)))
    {tK8_MOST_WITHIN : Tok} (aK_MOST_WITHIN : PySem.W.nsIn K mainGlobals "MOST_WITHIN" = some (some (.int 8 tK8_MOST_WITHIN)))
    {tK8_MOST_PAIRS : Tok} (aK_MOST_PAIRS : PySem.W.nsIn K mainGlobals "MOST_PAIRS" = some (some (.int 8 tK8_MOST_PAIRS)))
    {tK4_MOST_DAYS : Tok} (aK_MOST_DAYS : PySem.W.nsIn K mainGlobals "MOST_DAYS" = some (some (.int 4 tK4_MOST_DAYS)))
    {tK32_MOST_PATHS : Tok} (aK_MOST_PATHS : PySem.W.nsIn K mainGlobals "MOST_PATHS" = some (some (.int 32 tK32_MOST_PATHS)))
    {tS_KID : Tok} (aZ_KID : PySem.W.nsIn K mainGlobals "KID" = some (some (.str "S" tS_KID)))
    {tS_DAY : Tok} (aZ_DAY : PySem.W.nsIn K mainGlobals "DAY" = some (some (.str "D" tS_DAY)))
    {esaB : Array DictEntry} {naB : Nat} {uaB0 uaB1 uaB2 uaB3 uaB4 : Value} (gaB : PySem.W.nsIn K mainGlobals "BOUNDS" = some (some (.ref aB))) (laB : K.lookup aB = some ⟨.type "dict", none, .dict esaB naB, #[]⟩) (eaB : Ents w esaB.toList [("N", .ref aN), ("D", .ref aD), ("X", .ref aX), ("A", .ref aA), ("M", .ref aM)] [(Sum.inr "N", uaB0), (Sum.inr "D", uaB1), (Sum.inr "X", uaB2), (Sum.inr "A", uaB3), (Sum.inr "M", uaB4)]) (waB : (aB == sysModules) = false)
    {odaN : Option Addr} {naN : Nat} {slaN : Array (Option Value)} {taN0 taN1 : Tok} (laN : K.lookup aN = some ⟨.type "tuple", odaN, .seq #[.int (-1000) taN0, .int 1000 taN1] naN, slaN⟩)
    {odaD : Option Addr} {naD : Nat} {slaD : Array (Option Value)} {taD0 taD1 : Tok} (laD : K.lookup aD = some ⟨.type "tuple", odaD, .seq #[.int 0 taD0, .int 3 taD1] naD, slaD⟩)
    {esaT : Array DictEntry} {naT : Nat} {uaT0 uaT1 uaT2 uaT3 uaT4 uaT5 uaT6 uaT7 uaT8 uaT9 uaT10 uaT11 : Value} (gaT : PySem.W.nsIn K mainGlobals "TERM_SHAPES" = some (some (.ref aT))) (laT : K.lookup aT = some ⟨.type "dict", none, .dict esaT naT, #[]⟩) (eaT : Ents w esaT.toList [("cash", .str "N"), ("at", .str "D"), ("above", .str "DN"), ("below", .str "DN"), ("lowest", .str "D"), ("highest", .str "D"), ("both", .str "SS"), ("short", .str "S"), ("times", .str "SN"), ("lesser", .str "SS"), ("greater", .str "SS"), ("if", .str "DNSS")] [(Sum.inr "cash", uaT0), (Sum.inr "at", uaT1), (Sum.inr "above", uaT2), (Sum.inr "below", uaT3), (Sum.inr "lowest", uaT4), (Sum.inr "highest", uaT5), (Sum.inr "both", uaT6), (Sum.inr "short", uaT7), (Sum.inr "times", uaT8), (Sum.inr "lesser", uaT9), (Sum.inr "greater", uaT10), (Sum.inr "if", uaT11)]) (waT : (aT == sysModules) = false)
    {CXe0 gXe0 : Addr} {odXe0 anXe0 : Option Addr} {slXe0 : Array (Option Value)} {ocXe0 kVXe0 dcXe0 pmXe0 cdXe0 ctXe0 : Value} (aXe0 : PySem.W.nsIn K mainGlobals "BadTerm" = some (some (.ref CXe0))) (iXe0 : PySem.W.excInitIn K CXe0 bmV "ValueError.__new__" = true) (oXe0 : PySem.W.excOver K CXe0 bmV = true) (sXe0 : PySem.W.findIn K (.ref CXe0) "__setattr__" = some (some (.builtin "object.__setattr__"))) (tXe0 : PySem.W.takerIn K CXe0 "path" = some none)
    (xXe0 : xfB K CXe0 = true) (nXe0 : PySem.W.findIn K (.ref CXe0) "path" = some none) (jXe0 : PySem.W.findIn K (.ref CXe0) "__init__" = some (some (.ref gXe0))) (vXe0 : PySem.W.typeIn K (.ref gXe0) = some (.type "function")) (qXe0 : PySem.W.keepIn K (.ref CXe0) = true) (yXe0 : PySem.W.typeIn K (.ref CXe0) = some (.type "type"))
    (lXe0 : K.lookup gXe0 = some ⟨ocXe0, odXe0, .func (PySem.W.fnOf "__init__" "BadTerm.__init__" (defArgs (inClass sBadTerm 0)) (defBody (inClass sBadTerm 0)) (defScope (inClass sBadTerm 0)) .none kVXe0 dcXe0 pmXe0 anXe0 cdXe0 ctXe0), slXe0⟩) (cXe0 : PySem.W.codeIn K cdXe0 "BadTerm.__init__" = true) (kXe0 : PySem.W.keepIn K (.ref gXe0) = true)
    (exXe0 : PySem.W.exmOne K (.ref CXe0) (.ref CXe0) = some true) :
    ∃ fd : FuncData, (∀ (s : Shared) (v : Value), BindsTo s fd ⟨[v], []⟩ [("script", v)]) ∧ ∀ base : Heap, K.In base → base.Ns mainGlobals mg → FnG l.prog w K mg base CX0 15 fa fd ["script"] (spLaw25 K) := by
  have e := hfa.symm.trans (PySem.W.mg_of X G aLaw)
  cases e
  have T : Bt mg := ⟨PySem.W.mg_none_of X G z_isinstance, PySem.W.mg_none_of X G z_int, PySem.W.mg_none_of X G z_tuple, PySem.W.mg_none_of X G z_len, PySem.W.mg_none_of X G z_abs, PySem.W.mg_none_of X G z_range, PySem.W.mg_none_of X G z_list, PySem.W.mg_none_of X G z_sorted, PySem.W.mg_none_of X G z_zip, PySem.W.mg_none_of X G z_all, PySem.W.mg_none_of X G z_dict⟩
  have gK_MOST_CLAIMED := PySem.W.mg_of X G aK_MOST_CLAIMED
  have gK_MOST_WORDS := PySem.W.mg_of X G aK_MOST_WORDS
  have gK_MOST_WITHIN := PySem.W.mg_of X G aK_MOST_WITHIN
  have gK_MOST_PAIRS := PySem.W.mg_of X G aK_MOST_PAIRS
  have gK_MOST_DAYS := PySem.W.mg_of X G aK_MOST_DAYS
  have gK_MOST_PATHS := PySem.W.mg_of X G aK_MOST_PATHS
  have gZ_KID := PySem.W.mg_of X G aZ_KID
  have gZ_DAY := PySem.W.mg_of X G aZ_DAY
  have g2aB := PySem.W.mg_of X G gaB
  have kdaB : KD l.prog w K aB (bndKV aN aD aX aA aM) := kd_of waB laB eaB (show (["N", "D", "X", "A", "M"] : List Str).Nodup by decide +kernel) (show 5 ≤ 1000 by decide)
  have sqaN : ∀ H, SqT K H aN [.int (-1000), .int 1000] := fun H => .inr ⟨_, _, _, laN, rfl, rfl, (by show 2 ≤ sizeLine; decide), .cons ⟨taN0, rfl⟩ (.cons ⟨taN1, rfl⟩ (.nil))⟩
  have sqaD : ∀ H, SqT K H aD [.int 0, .int 3] := fun H => .inr ⟨_, _, _, laD, rfl, rfl, (by show 2 ≤ sizeLine; decide), .cons ⟨taD0, rfl⟩ (.cons ⟨taD1, rfl⟩ (.nil))⟩
  have g2aT := PySem.W.mg_of X G gaT
  have kdaT : KD l.prog w K aT shKV := kd_of waT laT eaT (show (["cash", "at", "above", "below", "lowest", "highest", "both", "short", "times", "lesser", "greater", "if"] : List Str).Nodup by decide +kernel) (show 12 ≤ 1000 by decide)
  have FXe0 := fun_mk (st := inClass sBadTerm 0) lXe0 cXe0 kXe0
  have ZXe0 : Xc K mg "BadTerm" "path" CXe0 gXe0 bmV "ValueError.__new__" (inClass sBadTerm 0) "BadTerm.__init__" _ := ⟨⟨PySem.W.mg_of X G aXe0, iXe0, oXe0, sXe0, tXe0, xfB_ok xXe0, nXe0, jXe0, vXe0, qXe0, yXe0⟩, FXe0, FXe0.binds (ps := ["self", "path"]) fun _ _ _ _ _ _ us hl => match us, hl with | [_, _], _ => rfl⟩
  have FIsWholeWithin := fun_mk (st := sIsWholeWithin) lIsWholeWithin cIsWholeWithin kIsWholeWithin
  have DIsWholeWithin : Df K mg "is_whole_within" sIsWholeWithin ["thing", "least", "most"] fIsWholeWithin _ := ⟨FIsWholeWithin, FIsWholeWithin.binds (ps := ["thing", "least", "most"]) fun _ _ _ _ _ _ us hl => match us, hl with | [_, _, _], _ => rfl, PySem.W.mg_of X G aIsWholeWithin⟩
  have FIsWhole := fun_mk (st := sIsWhole) lIsWhole cIsWhole kIsWhole
  have DIsWhole : Df K mg "is_whole" sIsWhole ["thing"] fIsWhole _ := ⟨FIsWhole, FIsWhole.binds (ps := ["thing"]) fun _ _ _ _ _ _ us hl => match us, hl with | [_], _ => rfl, PySem.W.mg_of X G aIsWhole⟩
  have FIsWholeClaimed := fun_mk (st := sIsWholeClaimed) lIsWholeClaimed cIsWholeClaimed kIsWholeClaimed
  have DIsWholeClaimed : Df K mg "is_whole_claimed" sIsWholeClaimed ["thing"] fIsWholeClaimed _ := ⟨FIsWholeClaimed, FIsWholeClaimed.binds (ps := ["thing"]) fun _ _ _ _ _ _ us hl => match us, hl with | [_], _ => rfl, PySem.W.mg_of X G aIsWholeClaimed⟩
  have FIsRowOf := fun_mk (st := sIsRowOf) lIsRowOf cIsRowOf kIsRowOf
  have DIsRowOf : Df K mg "is_row_of" sIsRowOf ["thing", "many"] fIsRowOf _ := ⟨FIsRowOf, FIsRowOf.binds (ps := ["thing", "many"]) fun _ _ _ _ _ _ us hl => match us, hl with | [_, _], _ => rfl, PySem.W.mg_of X G aIsRowOf⟩
  have FIsRow := fun_mk (st := sIsRow) lIsRow cIsRow kIsRow
  have DIsRow : Df K mg "is_row" sIsRow ["thing"] fIsRow _ := ⟨FIsRow, FIsRow.binds (ps := ["thing"]) fun _ _ _ _ _ _ us hl => match us, hl with | [_], _ => rfl, PySem.W.mg_of X G aIsRow⟩
  have FCountPaths := fun_mk (st := sCountPaths) lCountPaths cCountPaths kCountPaths
  have DCountPaths : Df K mg "count_paths" sCountPaths ["days"] fCountPaths _ := ⟨FCountPaths, FCountPaths.binds (ps := ["days"]) fun _ _ _ _ _ _ us hl => match us, hl with | [_], _ => rfl, PySem.W.mg_of X G aCountPaths⟩
  have FIsClaim := fun_mk (st := sIsClaim) lIsClaim cIsClaim kIsClaim
  have DIsClaim : Df K mg "is_claim" sIsClaim ["days", "thing"] fIsClaim _ := ⟨FIsClaim, FIsClaim.binds (ps := ["days", "thing"]) fun _ _ _ _ _ _ us hl => match us, hl with | [_, _], _ => rfl, PySem.W.mg_of X G aIsClaim⟩
  have FAllPaths := fun_mk (st := sAllPaths) lAllPaths cAllPaths kAllPaths
  have DAllPaths : Df K mg "all_paths" sAllPaths ["days"] fAllPaths _ := ⟨FAllPaths, FAllPaths.binds (ps := ["days"]) fun _ _ _ _ _ _ us hl => match us, hl with | [_], _ => rfl, PySem.W.mg_of X G aAllPaths⟩
  have FKidPlaces := fun_mk (st := sKidPlaces) lKidPlaces cKidPlaces kKidPlaces
  have DKidPlaces : Df K mg "kid_places" sKidPlaces ["shape"] fKidPlaces _ := ⟨FKidPlaces, FKidPlaces.binds (ps := ["shape"]) fun _ _ _ _ _ _ us hl => match us, hl with | [_], _ => rfl, PySem.W.mg_of X G aKidPlaces⟩
  have FLeafPays := fun_mk (st := sLeafPays) lLeafPays cLeafPays kLeafPays
  have DLeafPays : Df K mg "leaf_pays" sLeafPays ["term", "way"] fLeafPays _ := ⟨FLeafPays, FLeafPays.binds (ps := ["term", "way"]) fun _ _ _ _ _ _ us hl => match us, hl with | [_, _], _ => rfl, PySem.W.mg_of X G aLeafPays⟩
  have FTermPays := fun_mk (st := sTermPays) lTermPays cTermPays kTermPays
  have DTermPays : Df K mg "term_pays" sTermPays ["term", "way", "paid"] fTermPays _ := ⟨FTermPays, FTermPays.binds (ps := ["term", "way", "paid"]) fun _ _ _ _ _ _ us hl => match us, hl with | [_, _, _], _ => rfl, PySem.W.mg_of X G aTermPays⟩
  have FClaimAt := fun_mk (st := sClaimAt) lClaimAt cClaimAt kClaimAt
  have DClaimAt : Df K mg "claim_at" sClaimAt ["days", "term", "path"] fClaimAt _ := ⟨FClaimAt, FClaimAt.binds (ps := ["days", "term", "path"]) fun _ _ _ _ _ _ us hl => match us, hl with | [_, _, _], _ => rfl, PySem.W.mg_of X G aClaimAt⟩
  have FIsInOrder := fun_mk (st := sIsInOrder) lIsInOrder cIsInOrder kIsInOrder
  have DIsInOrder : Df K mg "is_in_order" sIsInOrder ["thing"] fIsInOrder _ := ⟨FIsInOrder, FIsInOrder.binds (ps := ["thing"]) fun _ _ _ _ _ _ us hl => match us, hl with | [_], _ => rfl, PySem.W.mg_of X G aIsInOrder⟩
  have FMayStand := fun_mk (st := sMayStand) lMayStand cMayStand kMayStand
  have DMayStand : Df K mg "may_stand" sMayStand ["kind", "thing"] fMayStand _ := ⟨FMayStand, FMayStand.binds (ps := ["kind", "thing"]) fun _ _ _ _ _ _ us hl => match us, hl with | [_, _], _ => rfl, PySem.W.mg_of X G aMayStand⟩
  have FIsWord := fun_mk (st := sIsWord) lIsWord cIsWord kIsWord
  have DIsWord : Df K mg "is_word" sIsWord ["thing"] fIsWord _ := ⟨FIsWord, FIsWord.binds (ps := ["thing"]) fun _ _ _ _ _ _ us hl => match us, hl with | [_], _ => rfl, PySem.W.mg_of X G aIsWord⟩
  have FIsFormed := fun_mk (st := sIsFormed) lIsFormed cIsFormed kIsFormed
  have DIsFormed : Df K mg "is_formed" sIsFormed ["thing", "shapes"] fIsFormed _ := ⟨FIsFormed, FIsFormed.binds (ps := ["thing", "shapes"]) fun _ _ _ _ _ _ us hl => match us, hl with | [_, _], _ => rfl, PySem.W.mg_of X G aIsFormed⟩
  have FFaultIn := fun_mk (st := sFaultIn) lFaultIn cFaultIn kFaultIn
  have DFaultIn : Df K mg "fault_in" sFaultIn ["whole", "shapes"] fFaultIn _ := ⟨FFaultIn, FFaultIn.binds (ps := ["whole", "shapes"]) fun _ _ _ _ _ _ us hl => match us, hl with | [_, _], _ => rfl, PySem.W.mg_of X G aFaultIn⟩
  have FNeedTerm := fun_mk (st := sNeedTerm) lNeedTerm cNeedTerm kNeedTerm
  have DNeedTerm : Df K mg "need_term" sNeedTerm ["thing"] fNeedTerm _ := ⟨FNeedTerm, FNeedTerm.binds (ps := ["thing"]) fun _ _ _ _ _ _ us hl => match us, hl with | [_], _ => rfl, PySem.W.mg_of X G aNeedTerm⟩
  have FAscends := fun_mk (st := sAscends) lAscends cAscends kAscends
  have DAscends : Df K mg "ascends" sAscends ["things"] fAscends _ := ⟨FAscends, FAscends.binds (ps := ["things"]) fun _ _ _ _ _ _ us hl => match us, hl with | [_], _ => rfl, PySem.W.mg_of X G aAscends⟩
  have FIsNumber := fun_mk (st := sIsNumber) lIsNumber cIsNumber kIsNumber
  have DIsNumber : Df K mg "is_number" sIsNumber ["thing"] fIsNumber _ := ⟨FIsNumber, FIsNumber.binds (ps := ["thing"]) fun _ _ _ _ _ _ us hl => match us, hl with | [_], _ => rfl, PySem.W.mg_of X G aIsNumber⟩
  have FIsDay := fun_mk (st := sIsDay) lIsDay cIsDay kIsDay
  have DIsDay : Df K mg "is_day" sIsDay ["thing"] fIsDay _ := ⟨FIsDay, FIsDay.binds (ps := ["thing"]) fun _ _ _ _ _ _ us hl => match us, hl with | [_], _ => rfl, PySem.W.mg_of X G aIsDay⟩
  have FIsDays := fun_mk (st := sIsDays) lIsDays cIsDays kIsDays
  have DIsDays : Df K mg "is_days" sIsDays ["thing"] fIsDays _ := ⟨FIsDays, FIsDays.binds (ps := ["thing"]) fun _ _ _ _ _ _ us hl => match us, hl with | [_], _ => rfl, PySem.W.mg_of X G aIsDays⟩
  have FNeedDays := fun_mk (st := sNeedDays) lNeedDays cNeedDays kNeedDays
  have DNeedDays : Df K mg "need_days" sNeedDays ["thing"] fNeedDays _ := ⟨FNeedDays, FNeedDays.binds (ps := ["thing"]) fun _ _ _ _ _ _ us hl => match us, hl with | [_], _ => rfl, PySem.W.mg_of X G aNeedDays⟩
  have FClaimOf := fun_mk (st := sClaimOf) lClaimOf cClaimOf kClaimOf
  have DClaimOf : Df K mg "claim_of" sClaimOf ["days", "term"] fClaimOf _ := ⟨FClaimOf, FClaimOf.binds (ps := ["days", "term"]) fun _ _ _ _ _ _ us hl => match us, hl with | [_, _], _ => rfl, PySem.W.mg_of X G aClaimOf⟩
  have FLawHeard := fun_mk (st := sLawHeard) lLawHeard cLawHeard kLawHeard
  have DLawHeard : Df K mg "_law_heard" sLawHeard ["days_so", "term"] fLawHeard _ := ⟨FLawHeard, FLawHeard.binds (ps := ["days_so", "term"]) fun _ _ _ _ _ _ us hl => match us, hl with | [_, _], _ => rfl, PySem.W.mg_of X G aLawHeard⟩
  have FLawHandRight := fun_mk (st := sLawHandRight) lLawHandRight cLawHandRight kLawHandRight
  have DLawHandRight : Df K mg "_law_hand_right" sLawHandRight [] fLawHandRight _ := ⟨FLawHandRight, FLawHandRight.binds (ps := []) fun _ _ _ _ _ _ us hl => match us, hl with | [], _ => rfl, PySem.W.mg_of X G aLawHandRight⟩
  have FKidsOf := fun_mk (st := sKidsOf) lKidsOf cKidsOf kKidsOf
  have DKidsOf : Df K mg "kids_of" sKidsOf ["term"] fKidsOf _ := ⟨FKidsOf, FKidsOf.binds (ps := ["term"]) fun _ _ _ _ _ _ us hl => match us, hl with | [_], _ => rfl, PySem.W.mg_of X G aKidsOf⟩
  have FLawPlaces := fun_mk (st := sLawPlaces) lLawPlaces cLawPlaces kLawPlaces
  have DLawPlaces : Df K mg "_law_places" sLawPlaces ["term"] fLawPlaces _ := ⟨FLawPlaces, FLawPlaces.binds (ps := ["term"]) fun _ _ _ _ _ _ us hl => match us, hl with | [_], _ => rfl, PySem.W.mg_of X G aLawPlaces⟩
  have FLawPays := fun_mk (st := sLawPays) lLawPays cLawPays kLawPays
  have DLawPays : Df K mg "_law_pays" sLawPays ["term", "path"] fLawPays _ := ⟨FLawPays, FLawPays.binds (ps := ["term", "path"]) fun _ _ _ _ _ _ us hl => match us, hl with | [_, _], _ => rfl, PySem.W.mg_of X G aLawPays⟩
  have FLawFault := fun_mk (st := sLawFault) lLawFault cLawFault kLawFault
  have DLawFault : Df K mg "_law_fault" sLawFault ["days_so", "paths_so", "term", "path"] fLawFault _ := ⟨FLawFault, FLawFault.binds (ps := ["days_so", "paths_so", "term", "path"]) fun _ _ _ _ _ _ us hl => match us, hl with | [_, _, _, _], _ => rfl, PySem.W.mg_of X G aLawFault⟩
  have FLawPaths := fun_mk (st := sLawPaths) lLawPaths cLawPaths kLawPaths
  have DLawPaths : Df K mg "_law_paths" sLawPaths ["days_so"] fLawPaths _ := ⟨FLawPaths, FLawPaths.binds (ps := ["days_so"]) fun _ _ _ _ _ _ us hl => match us, hl with | [_], _ => rfl, PySem.W.mg_of X G aLawPaths⟩
  have FLawIsRight := fun_mk (st := sLawIsRight) lLawIsRight cLawIsRight kLawIsRight
  have DLawIsRight : Df K mg "_law_is_right" sLawIsRight ["days_so", "term"] fLawIsRight _ := ⟨FLawIsRight, FLawIsRight.binds (ps := ["days_so", "term"]) fun _ _ _ _ _ _ us hl => match us, hl with | [_, _], _ => rfl, PySem.W.mg_of X G aLawIsRight⟩
  have FDraw := fun_mk (st := sDraw) lDraw cDraw kDraw
  have DDraw : Df K mg "_law_draw" sDraw ["state", "many"] fDraw _ := ⟨FDraw, FDraw.binds (ps := ["state", "many"]) fun _ _ _ _ _ _ us hl => match us, hl with | [_, _], _ => rfl, PySem.W.mg_of X G aDraw⟩
  have FMixed := fun_mk (st := sMixed) lMixed cMixed kMixed
  have DMixed : Df K mg "_law_mixed" sMixed ["cell", "k"] fMixed _ := ⟨FMixed, FMixed.binds (ps := ["cell", "k"]) fun _ _ _ _ _ _ us hl => match us, hl with | [_, _], _ => rfl, PySem.W.mg_of X G aMixed⟩
  have FLawOf := fun_mk (st := sLawOf) lLawOf cLawOf kLawOf
  have DLawOf : Df K mg "_law_of" sLawOf ["state", "some"] fLawOf _ := ⟨FLawOf, FLawOf.binds (ps := ["state", "some"]) fun _ _ _ _ _ _ us hl => match us, hl with | [_, _], _ => rfl, PySem.W.mg_of X G aLawOf⟩
  have FLawTerm := fun_mk (st := sLawTerm) lLawTerm cLawTerm kLawTerm
  have DLawTerm : Df K mg "_law_term" sLawTerm ["state", "deep"] fLawTerm _ := ⟨FLawTerm, FLawTerm.binds (ps := ["state", "deep"]) fun _ _ _ _ _ _ us hl => match us, hl with | [_, _], _ => rfl, PySem.W.mg_of X G aLawTerm⟩
  have FLawDays := fun_mk (st := sLawDays) lLawDays cLawDays kLawDays
  have DLawDays : Df K mg "_law_days" sLawDays ["state", "most", "many"] fLawDays _ := ⟨FLawDays, FLawDays.binds (ps := ["state", "most", "many"]) fun _ _ _ _ _ _ us hl => match us, hl with | [_, _, _], _ => rfl, PySem.W.mg_of X G aLawDays⟩
  have FBegin := fun_mk (st := sBegin) lBegin cBegin kBegin
  have DBegin : Df K mg "_law_begin" sBegin ["script"] fBegin _ := ⟨FBegin, FBegin.binds (ps := ["script"]) fun _ _ _ _ _ _ us hl => match us, hl with | [_], _ => rfl, PySem.W.mg_of X G aBegin⟩
  have FLaw := fun_mk (st := sLaw) lLaw cLaw kLaw
  have DLaw : Df K mg "law" sLaw ["script"] _ _ := ⟨FLaw, FLaw.binds (ps := ["script"]) fun _ _ _ _ _ _ us hl => match us, hl with | [_], _ => rfl, PySem.W.mg_of X G aLaw⟩
  refine ⟨PySem.W.fnOf "law" "law" (defArgs sLaw) (defBody sLaw) (defScope sLaw) .none kVLaw dcLaw pmLaw anLaw cdLaw ctLaw, fun s v => .of_eq rfl, fun base _ _ => ?_⟩
  have g0_ := ok_is_whole_within (P := l.prog) (w := w) (base := base) DIsWholeWithin DIsWhole T
  have g1_ := ok_is_whole_claimed (P := l.prog) (w := w) (base := base) DIsWholeClaimed DIsWholeWithin g0_ gK_MOST_CLAIMED
  have g2_ := ok_is_row_of (P := l.prog) (w := w) (base := base) DIsRowOf DIsRow T
  have g3_ := ok_count_paths (P := l.prog) (w := w) (base := base) DCountPaths T
  have g4_ := ok_is_claim (P := l.prog) (w := w) (base := base) DIsClaim DIsWholeClaimed g1_ DIsRowOf g2_ DCountPaths g3_ T
  have g5_ := ok_all_paths (P := l.prog) (w := w) (base := base) DAllPaths T
  have g6_ := ok_kid_places (P := l.prog) (w := w) (base := base) DKidPlaces gZ_KID T (PySem.W.mg_none_of X G z_enumerate)
  have g7_ := ok_leaf_pays (P := l.prog) (w := w) (base := base) DLeafPays T (PySem.W.mg_none_of X G z_min) (PySem.W.mg_none_of X G z_max)
  have g8_ := ok_term_pays (P := l.prog) (w := w) (base := base) DTermPays DLeafPays g7_ T (PySem.W.mg_none_of X G z_min) (PySem.W.mg_none_of X G z_max)
  have g9_ := ok_claim_at5 (P := l.prog) (w := w) (base := base) DClaimAt DIsClaim g4_ DAllPaths g5_ DKidPlaces g6_ DTermPays g8_ g2aT gZ_DAY kdaT T (PySem.W.mg_none_of X G z_enumerate) ZXe0
  have g10_ := ok_is_in_order (P := l.prog) (w := w) (base := base) DIsInOrder
  have g11_ := ok_may_stand (P := l.prog) (w := w) (base := base) DMayStand DIsWholeWithin g0_ gZ_KID g2aB kdaB sqaN sqaD T
  have g12_ := ok_wordD (P := l.prog) (w := w) (base := base) DIsWord T (PySem.W.mg_none_of X G z_str)
  have g13_ := ok_rowD (P := l.prog) (w := w) (base := base) DIsRow T
  have g14_ := ok_is_formed (P := l.prog) (w := w) (base := base) DIsFormed DIsInOrder g10_ DMayStand g11_ DIsWord g12_ DIsRow g13_ T
  have g15_ := ok_fault_in (P := l.prog) (w := w) (base := base) DFaultIn DKidPlaces g6_ DIsFormed g14_ gK_MOST_WORDS gK_MOST_WITHIN T
  have g16_ := ok_need_term (P := l.prog) (w := w) (base := base) DNeedTerm DFaultIn g15_ g2aT kdaT T
  have g17_ := ok_ascendsT (P := l.prog) (w := w) (base := base) DAscends T
  have g18_ := ok_is_number (P := l.prog) (w := w) (base := base) DIsNumber DIsWholeWithin g0_
  have g19_ := ok_is_day (P := l.prog) (w := w) (base := base) DIsDay DAscends g17_ DIsNumber g18_ DIsRow g13_ gK_MOST_PAIRS T
  have g20_ := ok_is_days (P := l.prog) (w := w) (base := base) DIsDays DCountPaths g3_ DIsDay g19_ DIsRow g13_ gK_MOST_DAYS gK_MOST_PATHS T
  have g21_ := ok_need_days (P := l.prog) (w := w) (base := base) DNeedDays DIsDays g20_
  have g22_ := ok_claim_of (P := l.prog) (w := w) (base := base) DClaimOf DClaimAt g9_ DNeedTerm g16_ DNeedDays g21_
  have g23_ := ok_law_heardT (P := l.prog) (w := w) (base := base) DLawHeard DClaimOf g22_ ZXe0 exXe0
  have g24_ := ok_law_hand_right (P := l.prog) (w := w) (base := base) DLawHandRight DLawHeard g23_ T
  have g25_ := ok_kids_of (P := l.prog) (w := w) (base := base) DKidsOf DKidPlaces g6_ DNeedTerm g16_ g2aT kdaT T
  have g26_ := ok_law_places (P := l.prog) (w := w) (base := base) DLawPlaces
  have g27_ := ok_law_pays5 (P := l.prog) (w := w) (base := base) DLawPays T (PySem.W.mg_none_of X G z_min) (PySem.W.mg_none_of X G z_max)
  have g28_ := ok_law_fault5 (P := l.prog) (w := w) (base := base) DLawFault DLawPays g27_ DLawPlaces g26_ T
  have g29_ := ok_law_paths (P := l.prog) (w := w) (base := base) DLawPaths T
  have g30_ := ok_law_is_right (P := l.prog) (w := w) (base := base) DLawIsRight DKidsOf g25_ DNeedTerm g16_ DLawPlaces g26_ DLawHeard g23_ DLawPays g27_ DLawFault g28_ DLawPaths g29_ T (PySem.W.mg_none_of X G z_repr)
  have g31_ := ok_draw (P := l.prog) (w := w) (base := base) DDraw DMixed T
  have g32_ := ok_law_of (P := l.prog) (w := w) (base := base) DLawOf DDraw g31_ T
  have g33_ := ok_law_term3 (P := l.prog) (w := w) (base := base) DLawTerm DLawOf g32_ DDraw g31_ T
  have g34_ := ok_law_days (P := l.prog) (w := w) (base := base) DLawDays DDraw g31_ DLawOf g32_ T (PySem.W.mg_none_of X G z_max)
  have g35_ := ok_begin (P := l.prog) (w := w) (base := base) DBegin T
  exact ok_law DLaw DLawHandRight g24_ DLawIsRight g30_ DLawTerm g33_ DLawDays g34_ DBegin g35_ T (PySem.W.mg_none_of X G z_min)
theorem walk {l : PySem.W.OpenLaw} {q : Program} {loose : List Str} {XP : (Str → Option Value) → Heap → Prop} {YP : World → Heap → Prop} {d : DefRec} {K : Params → PySem.W.Frag} (hn : l.most = some 63) (hdf : d.params.defaults = [])
    (hY : ∀ (w : World) (h : Heap), YP w h → (K w.params).In h)
    (F : ∀ (w : World) (mg : Str → Option Value) (fa : Addr) (h : Heap), (K w.params).In h → h.Ns mainGlobals mg → mg d.name = some (.ref fa) →
      ∃ fd : FuncData, (∀ (s : Shared) (u : Value), BindsTo s fd ⟨[u], []⟩ [("script", u)]) ∧ ∀ base : Heap, (K w.params).In base → base.Ns mainGlobals mg → FnG l.prog w (K w.params) mg base CX0 15 fa fd ["script"] (spLaw25 (K w.params))) :
    PySem.W.WalkO q loose XP YP l.row.toRowW d [] (fun f vs => PySem.call f vs) := by
  refine Att.attach_call hn hdf fun w s₀ s₁ mg mb fa o pm cd doc a vs ns gr y ho hd hcd hmg hobj hints hlen hg => ?_
  have inn := hY w _ y
  obtain ⟨fd, hb, hF⟩ := F w mg fa _ inn gr.T.g hmg
  exact law_still inn gr.T.g gr.T.b gr.T.builtins gr.T.nolimit hg hobj hints (Nat.le_trans hlen (by decide)) ⟨rfl, by decide, by decide⟩ hF hb fun H hS => ⟨a, ns, rfl, hS, hlen, fun _ => rfl⟩
end CS
open PySem PySem.W PyProof.Rows
set_option maxRecDepth 100000 in
set_option maxHeartbeats 0 in
theorem PySem.Challenge.cw_curtainsteps_k25_whole_terms_holds : PySem.Challenge.rw_curtainsteps_k25_whole_terms.Holds := by
  w_on; o_law; k_head; (case hw => w_witness2)
  k_fill
  refine CS.walk (l := PySem.Challenge.rw_curtainsteps_k25_whole_terms) rfl rfl (fun w h Y => PySem.W.kIn_of Y) ?F
  case F =>
    intro w mg fa h KX G hmg
    refine' CS.all_mk KX G hmg ?aIsWholeWithin ?lIsWholeWithin ?cIsWholeWithin ?kIsWholeWithin ?aIsWhole ?lIsWhole ?cIsWhole ?kIsWhole ?aIsWholeClaimed ?lIsWholeClaimed ?cIsWholeClaimed ?kIsWholeClaimed ?aIsRowOf ?lIsRowOf ?cIsRowOf ?kIsRowOf ?aIsRow ?lIsRow ?cIsRow ?kIsRow ?aCountPaths ?lCountPaths ?cCountPaths ?kCountPaths ?aIsClaim ?lIsClaim ?cIsClaim ?kIsClaim ?aAllPaths ?lAllPaths ?cAllPaths ?kAllPaths ?aKidPlaces ?lKidPlaces ?cKidPlaces ?kKidPlaces ?aLeafPays ?lLeafPays ?cLeafPays ?kLeafPays ?aTermPays ?lTermPays ?cTermPays ?kTermPays ?aClaimAt ?lClaimAt ?cClaimAt ?kClaimAt ?aIsInOrder ?lIsInOrder ?cIsInOrder ?kIsInOrder ?aMayStand ?lMayStand ?cMayStand ?kMayStand ?aIsWord ?lIsWord ?cIsWord ?kIsWord ?aIsFormed ?lIsFormed ?cIsFormed ?kIsFormed ?aFaultIn ?lFaultIn ?cFaultIn ?kFaultIn ?aNeedTerm ?lNeedTerm ?cNeedTerm ?kNeedTerm ?aAscends ?lAscends ?cAscends ?kAscends ?aIsNumber ?lIsNumber ?cIsNumber ?kIsNumber ?aIsDay ?lIsDay ?cIsDay ?kIsDay ?aIsDays ?lIsDays ?cIsDays ?kIsDays ?aNeedDays ?lNeedDays ?cNeedDays ?kNeedDays ?aClaimOf ?lClaimOf ?cClaimOf ?kClaimOf ?aLawHeard ?lLawHeard ?cLawHeard ?kLawHeard ?aLawHandRight ?lLawHandRight ?cLawHandRight ?kLawHandRight ?aKidsOf ?lKidsOf ?cKidsOf ?kKidsOf ?aLawPlaces ?lLawPlaces ?cLawPlaces ?kLawPlaces ?aLawPays ?lLawPays ?cLawPays ?kLawPays ?aLawFault ?lLawFault ?cLawFault ?kLawFault ?aLawPaths ?lLawPaths ?cLawPaths ?kLawPaths ?aLawIsRight ?lLawIsRight ?cLawIsRight ?kLawIsRight ?aDraw ?lDraw ?cDraw ?kDraw ?aMixed ?lMixed ?cMixed ?kMixed ?aLawOf ?lLawOf ?cLawOf ?kLawOf ?aLawTerm ?lLawTerm ?cLawTerm ?kLawTerm ?aLawDays ?lLawDays ?cLawDays ?kLawDays ?aBegin ?lBegin ?cBegin ?kBegin ?aLaw ?lLaw ?cLaw ?kLaw ?z_isinstance ?z_int ?z_tuple ?z_len ?z_abs ?z_range ?z_list ?z_sorted ?z_zip ?z_all ?z_dict ?z_enumerate ?z_min ?z_max ?z_str ?z_repr ?aK_MOST_CLAIMED ?aK_MOST_WORDS ?aK_MOST_WITHIN ?aK_MOST_PAIRS ?aK_MOST_DAYS ?aK_MOST_PATHS ?aZ_KID ?aZ_DAY ?gaB ?laB ?eaB ?waB ?laN ?laD ?gaT ?laT ?eaT ?waT ?aXe0 ?iXe0 ?oXe0 ?sXe0 ?tXe0 ?xXe0 ?nXe0 ?jXe0 ?vXe0 ?qXe0 ?yXe0 ?lXe0 ?cXe0 ?kXe0 ?exXe0
    (case aIsWholeWithin => k_is)
    (case lIsWholeWithin => k_is)
    (case cIsWholeWithin => k_is)
    (case kIsWholeWithin => k_is)
    (case aIsWhole => k_is)
    (case lIsWhole => k_is)
    (case cIsWhole => k_is)
    (case kIsWhole => k_is)
    (case aIsWholeClaimed => k_is)
    (case lIsWholeClaimed => k_is)
    (case cIsWholeClaimed => k_is)
    (case kIsWholeClaimed => k_is)
    (case aIsRowOf => k_is)
    (case lIsRowOf => k_is)
    (case cIsRowOf => k_is)
    (case kIsRowOf => k_is)
    (case aIsRow => k_is)
    (case lIsRow => k_is)
    (case cIsRow => k_is)
    (case kIsRow => k_is)
    (case aCountPaths => k_is)
    (case lCountPaths => k_is)
    (case cCountPaths => k_is)
    (case kCountPaths => k_is)
    (case aIsClaim => k_is)
    (case lIsClaim => k_is)
    (case cIsClaim => k_is)
    (case kIsClaim => k_is)
    (case aAllPaths => k_is)
    (case lAllPaths => k_is)
    (case cAllPaths => k_is)
    (case kAllPaths => k_is)
    (case aKidPlaces => k_is)
    (case lKidPlaces => k_is)
    (case cKidPlaces => k_is)
    (case kKidPlaces => k_is)
    (case aLeafPays => k_is)
    (case lLeafPays => k_is)
    (case cLeafPays => k_is)
    (case kLeafPays => k_is)
    (case aTermPays => k_is)
    (case lTermPays => k_is)
    (case cTermPays => k_is)
    (case kTermPays => k_is)
    (case aClaimAt => k_is)
    (case lClaimAt => k_is)
    (case cClaimAt => k_is)
    (case kClaimAt => k_is)
    (case aIsInOrder => k_is)
    (case lIsInOrder => k_is)
    (case cIsInOrder => k_is)
    (case kIsInOrder => k_is)
    (case aMayStand => k_is)
    (case lMayStand => k_is)
    (case cMayStand => k_is)
    (case kMayStand => k_is)
    (case aIsWord => k_is)
    (case lIsWord => k_is)
    (case cIsWord => k_is)
    (case kIsWord => k_is)
    (case aIsFormed => k_is)
    (case lIsFormed => k_is)
    (case cIsFormed => k_is)
    (case kIsFormed => k_is)
    (case aFaultIn => k_is)
    (case lFaultIn => k_is)
    (case cFaultIn => k_is)
    (case kFaultIn => k_is)
    (case aNeedTerm => k_is)
    (case lNeedTerm => k_is)
    (case cNeedTerm => k_is)
    (case kNeedTerm => k_is)
    (case aAscends => k_is)
    (case lAscends => k_is)
    (case cAscends => k_is)
    (case kAscends => k_is)
    (case aIsNumber => k_is)
    (case lIsNumber => k_is)
    (case cIsNumber => k_is)
    (case kIsNumber => k_is)
    (case aIsDay => k_is)
    (case lIsDay => k_is)
    (case cIsDay => k_is)
    (case kIsDay => k_is)
    (case aIsDays => k_is)
    (case lIsDays => k_is)
    (case cIsDays => k_is)
    (case kIsDays => k_is)
    (case aNeedDays => k_is)
    (case lNeedDays => k_is)
    (case cNeedDays => k_is)
    (case kNeedDays => k_is)
    (case aClaimOf => k_is)
    (case lClaimOf => k_is)
    (case cClaimOf => k_is)
    (case kClaimOf => k_is)
    (case aLawHeard => k_is)
    (case lLawHeard => k_is)
    (case cLawHeard => k_is)
    (case kLawHeard => k_is)
    (case aLawHandRight => k_is)
    (case lLawHandRight => k_is)
    (case cLawHandRight => k_is)
    (case kLawHandRight => k_is)
    (case aKidsOf => k_is)
    (case lKidsOf => k_is)
    (case cKidsOf => k_is)
    (case kKidsOf => k_is)
    (case aLawPlaces => k_is)
    (case lLawPlaces => k_is)
    (case cLawPlaces => k_is)
    (case kLawPlaces => k_is)
    (case aLawPays => k_is)
    (case lLawPays => k_is)
    (case cLawPays => k_is)
    (case kLawPays => k_is)
    (case aLawFault => k_is)
    (case lLawFault => k_is)
    (case cLawFault => k_is)
    (case kLawFault => k_is)
    (case aLawPaths => k_is)
    (case lLawPaths => k_is)
    (case cLawPaths => k_is)
    (case kLawPaths => k_is)
    (case aLawIsRight => k_is)
    (case lLawIsRight => k_is)
    (case cLawIsRight => k_is)
    (case kLawIsRight => k_is)
    (case aDraw => k_is)
    (case lDraw => k_is)
    (case cDraw => k_is)
    (case kDraw => k_is)
    (case aMixed => k_is)
    (case lMixed => k_is)
    (case cMixed => k_is)
    (case kMixed => k_is)
    (case aLawOf => k_is)
    (case lLawOf => k_is)
    (case cLawOf => k_is)
    (case kLawOf => k_is)
    (case aLawTerm => k_is)
    (case lLawTerm => k_is)
    (case cLawTerm => k_is)
    (case kLawTerm => k_is)
    (case aLawDays => k_is)
    (case lLawDays => k_is)
    (case cLawDays => k_is)
    (case kLawDays => k_is)
    (case aBegin => k_is)
    (case lBegin => k_is)
    (case cBegin => k_is)
    (case kBegin => k_is)
    (case aLaw => k_is)
    (case lLaw => k_is)
    (case cLaw => k_is)
    (case kLaw => k_is)
    (case z_isinstance => k_is)
    (case z_int => k_is)
    (case z_tuple => k_is)
    (case z_len => k_is)
    (case z_abs => k_is)
    (case z_range => k_is)
    (case z_list => k_is)
    (case z_sorted => k_is)
    (case z_zip => k_is)
    (case z_all => k_is)
    (case z_dict => k_is)
    (case z_enumerate => k_is)
    (case z_min => k_is)
    (case z_max => k_is)
    (case z_str => k_is)
    (case z_repr => k_is)
    (case aK_MOST_CLAIMED => k_is)
    (case aK_MOST_WORDS => k_is)
    (case aK_MOST_WITHIN => k_is)
    (case aK_MOST_PAIRS => k_is)
    (case aK_MOST_DAYS => k_is)
    (case aK_MOST_PATHS => k_is)
    (case aZ_KID => k_is)
    (case aZ_DAY => k_is)
    (case gaB => k_is)
    (case laB => k_is)
    (case eaB => exact ⟨⟨_, rfl⟩, rfl, rfl, rfl, rfl, ⟨_, rfl⟩, rfl, rfl, rfl, rfl, ⟨_, rfl⟩, rfl, rfl, rfl, rfl, ⟨_, rfl⟩, rfl, rfl, rfl, rfl, ⟨_, rfl⟩, rfl, rfl, rfl, rfl, trivial⟩)
    (case waB => decide +kernel)
    (case laN => k_is)
    (case laD => k_is)
    (case gaT => k_is)
    (case laT => k_is)
    (case eaT => exact ⟨⟨_, rfl⟩, rfl, rfl, rfl, ⟨_, rfl⟩, ⟨_, rfl⟩, rfl, rfl, rfl, ⟨_, rfl⟩, ⟨_, rfl⟩, rfl, rfl, rfl, ⟨_, rfl⟩, ⟨_, rfl⟩, rfl, rfl, rfl, ⟨_, rfl⟩, ⟨_, rfl⟩, rfl, rfl, rfl, ⟨_, rfl⟩, ⟨_, rfl⟩, rfl, rfl, rfl, ⟨_, rfl⟩, ⟨_, rfl⟩, rfl, rfl, rfl, ⟨_, rfl⟩, ⟨_, rfl⟩, rfl, rfl, rfl, ⟨_, rfl⟩, ⟨_, rfl⟩, rfl, rfl, rfl, ⟨_, rfl⟩, ⟨_, rfl⟩, rfl, rfl, rfl, ⟨_, rfl⟩, ⟨_, rfl⟩, rfl, rfl, rfl, ⟨_, rfl⟩, ⟨_, rfl⟩, rfl, rfl, rfl, ⟨_, rfl⟩, trivial⟩)
    (case waT => decide +kernel)
    (case aXe0 => k_is)
    (case iXe0 => kernel_rfl)
    (case oXe0 => kernel_rfl)
    (case sXe0 => k_is)
    (case tXe0 => k_is)
    (case xXe0 => kernel_rfl)
    (case nXe0 => k_is)
    (case jXe0 => k_is)
    (case vXe0 => k_is)
    (case qXe0 => k_is)
    (case yXe0 => k_is)
    (case lXe0 => k_is)
    (case cXe0 => k_is)
    (case kXe0 => k_is)
    (case exXe0 => kernel_rfl)
