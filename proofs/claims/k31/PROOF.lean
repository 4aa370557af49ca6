import PyProof.Rows.All
import Wide.All
import OpenK.AllK
import Wide.FinOn
import HandS.ForMost
import HandS.Gcd
import HandS.Wide
import HandS.IsInst
import KE.KTypeName
import PyProof.IsiStr
import HandS.Flow
import HandS.Style
import HandS.Lambda
import HandS.Nested
import HandS.CallSlots
import KE.KDflt
import HandS.ExcInit
import HandS.ExcField
import HandS.ExcOwn
import HandS.WordsExc
import KE.KExcInit
import HandS.TryMany
import HandS.Ends
import HandS.Words
import PyProof.ReprRoads
import PyProof.ReprLen
import HandS.Evl
import HandS.Conv
import HandS.Zip
import HandS.TupAny
import HandS.Star
import HandS.Walk
import HandS.More
import KE.KExcIs
import HandS.ExcValue
import HandS.HotCalls
import HandS.TupLe
import HandS.ExcIs
import HandS.StrMore
import HandS.Dict
import KE.KDictPairs
import HandS.Deep
import HandS.TryOnly
import HandS.Exc
import HandS.Comp
import HandS.Iter
import PyProof.Draws
import PyProof.Rows.CallKwBuiltin
import KE.GoesMore
import KE.GoesEnum
import KE.GoesEnumKw
import KE.GoesZip
import PyProof.ZipIter
import KE.KDictOf
import HandS.EndTab
import KE.KDictLaws
import HandS.Replace
import PyProof.EnumMake
import HandS.DictComp
import HandS.Small
import HandS.List
import HandS.Call
import PyProof.ListStr
import PyProof.StrOps2
import KE.KNestM
import PySem.Challenge.RW_curtainsteps_k31_whole_texts_of_terms
set_option Elab.async false
set_option maxRecDepth 100000
set_option maxHeartbeats 4000000
/-! x.__class__.__name__ of whole numbers, truth values and tuples; // by any divisor that is not too great. -/
namespace CS
open PySem
section
variable {P : Program} {w : World} {A : Around} {E : Value → Shared → Prop} {hp : Heap} {gs : Array GenState} {dr : Drawn} {tk : Nat} {os : OsState}
theorem cls_of_int {i : Int} {u : Tok} {Q : Value → Shared → Prop} (q : Q (.type "int") ⟨hp, gs, dr, tk + 1, os⟩) : wpAny (model P w) A (getAttr (.int i u) "__class__" true) Q E ⟨hp, gs, dr, tk, os⟩ := by
  have ty : Shared.TypeIs ⟨hp, gs, dr, tk, os⟩ (.int i u) "int" := rfl
  have lo := F.slot_int_getattribute.lookup
  have bi := F.slot_int_getattribute.bind (.int i u)
  unfold getAttr
  all_goals (repeat' first | assumption | wp_step)
  refine class_call_int ?_
  all_goals (repeat' first | assumption | wp_step)
theorem cls_of_bool {b : Bool} {Q : Value → Shared → Prop} (q : Q (.type "bool") ⟨hp, gs, dr, tk + 1, os⟩) : wpAny (model P w) A (getAttr (.bool b) "__class__" true) Q E ⟨hp, gs, dr, tk, os⟩ := by
  have ty : Shared.TypeIs ⟨hp, gs, dr, tk, os⟩ (.bool b) "bool" := rfl
  have lo := F.slot_bool_getattribute.lookup
  have bi := F.slot_bool_getattribute.bind (.bool b)
  unfold getAttr
  all_goals (repeat' first | assumption | wp_step)
  refine class_call_bool ?_
  all_goals (repeat' first | assumption | wp_step)
theorem cls_of_tuple {a : Addr} {od : Option Addr} {dt : Data} {sl : Array (Option Value)} {Q : Value → Shared → Prop} (ha : hp.get? a = some ⟨.type "tuple", od, dt, sl⟩) (q : Q (.type "tuple") ⟨hp, gs, dr, tk + 1, os⟩) :
    wpAny (model P w) A (getAttr (.ref a) "__class__" true) Q E ⟨hp, gs, dr, tk, os⟩ := by
  have ty : Shared.TypeIs ⟨hp, gs, dr, tk, os⟩ (.ref a) "tuple" := ⟨_, ha, rfl⟩
  have lo := F.slot_tuple_getattribute.lookup
  have bi := F.slot_tuple_getattribute.bind (.ref a)
  unfold getAttr
  all_goals (repeat' first | assumption | wp_step)
  refine class_call_tuple ha rfl ?_
  all_goals (repeat' first | assumption | wp_step)
theorem cls_of_str {x : Str} {u : Tok} {Q : Value → Shared → Prop} (q : Q (.type "str") ⟨hp, gs, dr, tk + 1, os⟩) : wpAny (model P w) A (getAttr (.str x u) "__class__" true) Q E ⟨hp, gs, dr, tk, os⟩ := by
  have ty : Shared.TypeIs ⟨hp, gs, dr, tk, os⟩ (.str x u) "str" := rfl
  have lo := F.slot_str_getattribute.lookup
  have bi := F.slot_str_getattribute.bind (.str x u)
  unfold getAttr
  all_goals (repeat' first | assumption | wp_step)
  refine class_call_str ?_
  all_goals (repeat' first | assumption | wp_step)
end
end CS
set_option Elab.async false
set_option maxRecDepth 100000
set_option maxHeartbeats 4000000
namespace CS
open PySem L2
/-- the name of a plain value's class -/
inductive CN (K : PySem.W.Frag) (H : Hp) : V → Str → Prop where
  | int (i : Int) : CN K H (.int i) "int"
  | bl (b : Bool) : CN K H (.bl b) "bool"
  | str (x : Str) : CN K H (.str x) "str"
  | tup {a : Addr} {xs : List V} (h : SqT K H a xs) : CN K H (.ref a) "tuple"
def tCN (K : PySem.W.Frag) (te : TE) : TE := fun σ H Q => te σ H fun x H1 => ∃ nm, CN K H1 x nm ∧ Q (.str nm) H1
section
variable {X : Cx} {pins : List (Addr × Obj)} {σ : St} {H : Hp} {s : Shared}
/-- a built-in class's __name__ -/
theorem name_ok {T q : String} {Q : VK} (I : Inv X pins σ H s) (ht : PySem.W.kitMeta T = true) (hs : Manifest.isStub T = false)
    (e : PySem.W.findCls X.K (.type T) (.type "type") "__name__" = some (.get (.builtin "getset_descriptor.__get__") (.builtin "type.__name__") (.type T) (.type "type"))) (hq : PySem.W.ktynFast T = q) (hz : (Str.ofString q).length ≤ sizeLine)
    (h : Q (.str (Str.ofString q)) H) : wpAny (model X.prog X.w) X.A (getAttr (.type T) "__name__" true) (EP X pins σ Q) X.xe s := by
  obtain ⟨m, Fm⟩ := I.fr
  exact PySem.W.ktyn_attr Fm I.ok.mod.kin ht hs e hq hz fun tk u => ⟨.str _, H, I.tok u, ⟨tk, rfl⟩, h⟩
theorem cn_ok {x : V} {u : Value} {nm : Str} {Q : VK} (I : Inv X pins σ H s) (r : RelV x u) (c : CN X.K H x nm) (h : Q (.str nm) H) :
    wpAny (model X.prog X.w) X.A (getAttr u "__class__" true) (fun v s1 => wpAny (model X.prog X.w) X.A (getAttr v "__name__" true) (EP X pins σ Q) X.xe s1) X.xe s := by
  cases c with
  | int i =>
    obtain ⟨t, rfl⟩ := r
    obtain ⟨hh, g, d, tt, os⟩ := s
    exact cls_of_int (name_ok (I.tok (tt + 1)) (by decide +kernel) (by decide +kernel) (by first | kernel_rfl | rfl) (by decide +kernel) (by decide +kernel) h)
  | bl b =>
    cases (show u = Value.bool b from r)
    obtain ⟨hh, g, d, tt, os⟩ := s
    exact cls_of_bool (name_ok (I.tok (tt + 1)) (by decide +kernel) (by decide +kernel) (by first | kernel_rfl | rfl) (by decide +kernel) (by decide +kernel) h)
  | str x =>
    obtain ⟨t, rfl⟩ := r
    obtain ⟨hh, g, d, tt, os⟩ := s
    exact cls_of_str (name_ok (I.tok (tt + 1)) (by decide +kernel) (by decide +kernel) (by first | kernel_rfl | rfl) (by decide +kernel) (by decide +kernel) h)
  | @tup a xs hT =>
    cases (show u = Value.ref a from r)
    obtain ⟨its, _, ⟨o, h1, h2, _⟩, _⟩ := I.tuple hT
    obtain ⟨oc, od, dt, sl⟩ := o
    simp only at h2
    subst h2
    obtain ⟨hh, g, d, tt, os⟩ := s
    exact cls_of_tuple h1 (name_ok (I.tok (tt + 1)) (by decide +kernel) (by decide +kernel) (by first | kernel_rfl | rfl) (by decide +kernel) (by decide +kernel) h)
/-- e.__class__.__name__ -/
theorem pe_cn {e : Expr} {te : TE} {p1 p2 : PySem.Pos} (he : PE X e te) (hb1 : attributeBase e "__class__" X.env (eval e X.env) = eval e X.env := by rfl)
    (hb2 : attributeBase (.Attribute e "__class__" p1) "__name__" X.env (eval (.Attribute e "__class__" p1) X.env) = eval (.Attribute e "__class__" p1) X.env := by rfl) :
    PE X (.Attribute (.Attribute e "__class__" p1) "__name__" p2) (tCN X.K te) :=
  ⟨fun pins s σ H Q I h => attr_of hb2 (attr_of hb1 (thn (he.run pins s σ H _ I h) fun u s1 ⟨x, H1, I1, rx, nm, c, q⟩ => cn_ok I1 rx c q))⟩
/-- // by any divisor below 2 ^ 9000 in size -/
def CDivX (_ j : Int) : Prop := j ≠ 0 ∧ j.natAbs.log2 < 9000
theorem op_fdivX : OpR X (binaryOp .FloorDiv) (rI CDivX fun i j => .int (i.fdiv j)) := opI fun _ _ _ _ _ _ _ hc q =>
  PyProof.Rows.floordiv_int hc.1 q (.inl (PyProof.noPylong_of_log2 hc.2))
end
end CS
set_option maxHeartbeats 1000000
namespace CS
/-- in least terms, the lower one positive -/
def Fr (x : Int × Int) : Prop := 1 ≤ x.2 ∧ Int.gcd x.1 x.2 = 1
instance (x : Int × Int) : Decidable (Fr x) := by unfold Fr; infer_instance
def Sz (n : Nat) (x : Int × Int) : Prop := x.1.natAbs < 2 ^ n ∧ x.2.natAbs < 2 ^ n
def cm (t b : Int) : Int := if b < 0 then -(Int.gcd t b : Int) else (Int.gcd t b : Int)
def low (t b : Int) : Int × Int := (t.fdiv (cm t b), b.fdiv (cm t b))
theorem gcd_pos {t b : Int} (hb : b ≠ 0) : 0 < Int.gcd t b := Int.gcd_pos_of_ne_zero_right t hb
theorem cm_ne {t b : Int} (hb : b ≠ 0) : cm t b ≠ 0 := by
  have := gcd_pos (t := t) hb
  unfold cm
  split <;> omega
theorem cm_dvd (t b : Int) : cm t b ∣ t ∧ cm t b ∣ b := by
  unfold cm
  split
  · exact ⟨Int.neg_dvd.mpr (Int.gcd_dvd_left t b), Int.neg_dvd.mpr (Int.gcd_dvd_right t b)⟩
  · exact ⟨Int.gcd_dvd_left t b, Int.gcd_dvd_right t b⟩
theorem cm_abs (t b : Int) : (cm t b).natAbs = Int.gcd t b := by
  unfold cm
  split <;> omega
theorem low_parts {t b : Int} (hb : b ≠ 0) : t = cm t b * (low t b).1 ∧ b = cm t b * (low t b).2 := by
  obtain ⟨⟨t', ht⟩, ⟨b', hb'⟩⟩ := cm_dvd t b
  have hg := cm_ne (t := t) hb
  have e1 : t.fdiv (cm t b) = t' := by
    conv => lhs; lhs; rw [ht]
    exact Int.mul_fdiv_cancel_left t' hg
  have e2 : b.fdiv (cm t b) = b' := by
    conv => lhs; lhs; rw [hb']
    exact Int.mul_fdiv_cancel_left b' hg
  unfold low
  simp only [e1, e2]
  exact ⟨ht, hb'⟩
theorem low_fr {t b : Int} (hb : b ≠ 0) : Fr (low t b) := by
  obtain ⟨h1, h2⟩ := low_parts (t := t) hb
  have hp := gcd_pos (t := t) hb
  have hs : (b < 0 → cm t b < 0) ∧ (0 < b → 0 < cm t b) := by
    unfold cm
    split <;> constructor <;> intro h <;> omega
  have e : Int.gcd t b = (cm t b).natAbs * Int.gcd (low t b).1 (low t b).2 := by
    have z : ∀ g a c : Int, t = g * a → b = g * c → Int.gcd t b = g.natAbs * Int.gcd a c := by
      intro g a c e1 e2
      rw [e1, e2, Int.gcd_mul_left]
    exact z _ _ _ h1 h2
  rw [cm_abs] at e
  constructor
  · rcases Int.lt_or_gt_of_ne hb with h | h
    · have hc := hs.1 h
      rcases Int.lt_or_le 0 (low t b).2 with q | q
      · omega
      · have : 0 ≤ cm t b * (low t b).2 := Int.mul_nonneg_of_nonpos_of_nonpos (by omega) q
        omega
    · have hc := hs.2 h
      rcases Int.lt_or_le 0 (low t b).2 with q | q
      · omega
      · have : cm t b * (low t b).2 ≤ 0 := Int.mul_nonpos_of_nonneg_of_nonpos (by omega) q
        omega
  · have e' : Int.gcd t b * 1 = Int.gcd t b * Int.gcd (low t b).1 (low t b).2 := by omega
    exact (Nat.eq_of_mul_eq_mul_left hp e').symm
theorem low_cross {t b : Int} (hb : b ≠ 0) : (low t b).1 * b = t * (low t b).2 := by
  obtain ⟨h1, h2⟩ := low_parts (t := t) hb
  generalize low t b = y at *
  generalize cm t b = g at *
  subst h1
  subst h2
  grind
theorem low_le {t b : Int} (hb : b ≠ 0) : (low t b).1.natAbs ≤ t.natAbs ∧ (low t b).2.natAbs ≤ b.natAbs := by
  obtain ⟨h1, h2⟩ := low_parts (t := t) hb
  have hg : 0 < (cm t b).natAbs := by have := cm_ne (t := t) hb; omega
  constructor
  · conv => rhs; rw [h1, Int.natAbs_mul]
    exact Nat.le_mul_of_pos_left _ hg
  · conv => rhs; rw [h2, Int.natAbs_mul]
    exact Nat.le_mul_of_pos_left _ hg
theorem cop_dvd {k m n : Int} (h : k ∣ m * n) (c : Int.gcd k m = 1) : k ∣ n := by
  have h2 : k.natAbs ∣ m.natAbs * n.natAbs := by
    rw [← Int.natAbs_mul]
    exact Int.natAbs_dvd_natAbs.mpr h
  exact Int.natAbs_dvd_natAbs.mp (Nat.Coprime.dvd_of_dvd_mul_left (show Nat.Coprime k.natAbs m.natAbs from c) h2)
theorem Fr.uniq {x y : Int × Int} (hx : Fr x) (hy : Fr y) (h : x.1 * y.2 = y.1 * x.2) : x = y := by
  obtain ⟨a, b⟩ := x
  obtain ⟨c, d⟩ := y
  obtain ⟨hb, hab⟩ := hx
  obtain ⟨hd, hcd⟩ := hy
  simp only at *
  have d1 : b ∣ d := by
    have : b ∣ a * d := ⟨c, by grind⟩
    exact cop_dvd this (by rw [Int.gcd_comm]; exact hab)
  have d2 : d ∣ b := by
    have : d ∣ c * b := ⟨a, by grind⟩
    exact cop_dvd this (by rw [Int.gcd_comm]; exact hcd)
  have e : b = d := Int.dvd_antisymm (by omega) (by omega) d1 d2
  subst e
  have : a = c := Int.eq_of_mul_eq_mul_right (by omega) h
  rw [this]
theorem low_uniq {t b : Int} {x : Int × Int} (hb : b ≠ 0) (hx : Fr x) (h : x.1 * b = t * x.2) : low t b = x := by
  refine (low_fr hb).uniq hx ?_
  have c := low_cross (t := t) hb
  have : b * ((low t b).1 * x.2) = b * (x.1 * (low t b).2) := by
    generalize low t b = y at *
    grind
  exact Int.eq_of_mul_eq_mul_left hb this
def fadd (x y : Int × Int) : Int × Int := low (x.1 * y.2 + y.1 * x.2) (x.2 * y.2)
def fsub (x y : Int × Int) : Int × Int := low (x.1 * y.2 - y.1 * x.2) (x.2 * y.2)
def fmul (x y : Int × Int) : Int × Int := low (x.1 * y.1) (x.2 * y.2)
def fdiv (x y : Int × Int) : Int × Int := low (x.1 * y.2) (x.2 * y.1)
def flt (x y : Int × Int) : Bool := decide (x.1 * y.2 < y.1 * x.2)
theorem Fr.pos {x : Int × Int} (h : Fr x) : 0 < x.2 := by have := h.1; omega
theorem Fr.ne {x : Int × Int} (h : Fr x) : x.2 ≠ 0 := by have := h.1; omega
theorem dd {x y : Int × Int} (hx : Fr x) (hy : Fr y) : x.2 * y.2 ≠ 0 := Int.mul_ne_zero hx.ne hy.ne
theorem dd0 {x y : Int × Int} (hx : Fr x) (hy : Fr y) : 0 < x.2 * y.2 := Int.mul_pos hx.pos hy.pos
theorem fadd_fr {x y : Int × Int} (hx : Fr x) (hy : Fr y) : Fr (fadd x y) := low_fr (dd hx hy)
theorem fsub_fr {x y : Int × Int} (hx : Fr x) (hy : Fr y) : Fr (fsub x y) := low_fr (dd hx hy)
theorem fmul_fr {x y : Int × Int} (hx : Fr x) (hy : Fr y) : Fr (fmul x y) := low_fr (dd hx hy)
theorem fdiv_fr {x y : Int × Int} (hx : Fr x) (h : y.1 ≠ 0) : Fr (fdiv x y) := low_fr (Int.mul_ne_zero hx.ne h)
theorem fadd_comm (x y : Int × Int) : fadd x y = fadd y x := by
  unfold fadd
  rw [Int.add_comm, Int.mul_comm x.2 y.2]
theorem fsub_fadd {x y : Int × Int} (hx : Fr x) (hy : Fr y) : fsub (fadd x y) y = x := by
  have hp := fadd_fr hx hy
  have c : (fadd x y).1 * (x.2 * y.2) = (x.1 * y.2 + y.1 * x.2) * (fadd x y).2 := low_cross (dd hx hy)
  refine low_uniq (dd hp hy) hx ?_
  generalize fadd x y = p at *
  grind
theorem fmul_fdiv {x y : Int × Int} (hx : Fr x) (hy : Fr y) (h : y.1 ≠ 0) : fmul (fdiv x y) y = x := by
  have hp := fdiv_fr hx h
  have c : (fdiv x y).1 * (x.2 * y.1) = (x.1 * y.2) * (fdiv x y).2 := low_cross (Int.mul_ne_zero hx.ne h)
  refine low_uniq (dd hp hy) hx ?_
  generalize fdiv x y = p at *
  grind
theorem low_neg {t b : Int} (hb : b ≠ 0) : low (-t) (-b) = low t b := by
  refine low_uniq (by omega) (low_fr hb) ?_
  have c := low_cross (t := t) hb
  grind
theorem due_eq {x y : Int × Int} (h : y.1 ≠ 0) (hx : Fr x) : low (x.1 * y.2 * (if 0 < y.1 then 1 else -1)) (x.2 * (y.1.natAbs : Int)) = fdiv x y := by
  unfold fdiv
  split
  · next q =>
    rw [show ((y.1.natAbs : Nat) : Int) = y.1 by omega]
    congr 1
    omega
  · next q =>
    rw [show ((y.1.natAbs : Nat) : Int) = -y.1 by omega]
    have := low_neg (t := x.1 * y.2) (b := x.2 * y.1) (Int.mul_ne_zero hx.ne h)
    rw [← this]
    congr 1
    · omega
    · grind
theorem flt_sub {x y : Int × Int} (hx : Fr x) (hy : Fr y) : flt x y = flt (fsub x y) (0, 1) := by
  have hp := fsub_fr hx hy
  have c : (fsub x y).1 * (x.2 * y.2) = (x.1 * y.2 - y.1 * x.2) * (fsub x y).2 := low_cross (dd hx hy)
  have k := dd0 hx hy
  have m := hp.pos
  unfold flt
  simp only [Int.mul_one, Int.zero_mul]
  generalize fsub x y = p at *
  generalize hk : x.2 * y.2 = kk at *
  generalize hd : x.1 * y.2 - y.1 * x.2 = dl at *
  rw [decide_eq_decide]
  constructor
  · intro q
    have q2 : dl < 0 := by omega
    have : dl * p.2 < 0 := Int.mul_neg_of_neg_of_pos q2 m
    rcases Int.lt_or_le p.1 0 with z | z
    · exact z
    · have := Int.mul_nonneg z (Int.le_of_lt k)
      omega
  · intro q
    have : p.1 * kk < 0 := Int.mul_neg_of_neg_of_pos q k
    rcases Int.lt_or_le dl 0 with z | z
    · omega
    · have := Int.mul_nonneg z (Int.le_of_lt m)
      omega
theorem fadd_zero {x : Int × Int} (hx : Fr x) : fadd x (0, 1) = x := by
  unfold fadd
  refine low_uniq ?_ hx ?_
  · have := hx.ne
    simp only [Int.mul_one]
    exact this
  · grind
/-! sizes -/
theorem abs_mul_lt {a b : Int} {m n : Nat} (ha : a.natAbs < 2 ^ m) (hb : b.natAbs < 2 ^ n) : (a * b).natAbs < 2 ^ (m + n) := by
  rw [Int.natAbs_mul, Nat.pow_add]
  exact Nat.mul_lt_mul'' ha hb
theorem abs_add_lt {a b : Int} {m : Nat} (ha : a.natAbs < 2 ^ m) (hb : b.natAbs < 2 ^ m) : (a + b).natAbs < 2 ^ (m + 1) := by
  rw [Nat.pow_succ]
  omega
theorem abs_sub_lt {a b : Int} {m : Nat} (ha : a.natAbs < 2 ^ m) (hb : b.natAbs < 2 ^ m) : (a - b).natAbs < 2 ^ (m + 1) := by
  rw [Nat.pow_succ]
  omega
theorem lt_up {a : Nat} {m n : Nat} (ha : a < 2 ^ m) (h : m ≤ n) : a < 2 ^ n := Nat.lt_of_lt_of_le ha (Nat.pow_le_pow_right (by decide) h)
theorem Sz.up {x : Int × Int} {m n : Nat} (h : Sz m x) (q : m ≤ n) : Sz n x := ⟨lt_up h.1 q, lt_up h.2 q⟩
theorem low_sz {t b : Int} {n : Nat} (hb : b ≠ 0) (h1 : t.natAbs < 2 ^ n) (h2 : b.natAbs < 2 ^ n) : Sz n (low t b) :=
  ⟨Nat.lt_of_le_of_lt (low_le hb).1 h1, Nat.lt_of_le_of_lt (low_le hb).2 h2⟩
theorem fadd_sz {x y : Int × Int} {m n : Nat} (hx : Fr x) (hy : Fr y) (sx : Sz m x) (sy : Sz n y) : Sz (m + n + 1) (fadd x y) := by
  refine low_sz (dd hx hy) ?_ ?_
  · refine abs_add_lt (abs_mul_lt sx.1 sy.2) ?_
    rw [Int.mul_comm]
    exact abs_mul_lt sx.2 sy.1
  · exact lt_up (abs_mul_lt sx.2 sy.2) (by omega)
theorem fsub_sz {x y : Int × Int} {m n : Nat} (hx : Fr x) (hy : Fr y) (sx : Sz m x) (sy : Sz n y) : Sz (m + n + 1) (fsub x y) := by
  refine low_sz (dd hx hy) ?_ ?_
  · refine abs_sub_lt (abs_mul_lt sx.1 sy.2) ?_
    rw [Int.mul_comm]
    exact abs_mul_lt sx.2 sy.1
  · exact lt_up (abs_mul_lt sx.2 sy.2) (by omega)
theorem fmul_sz {x y : Int × Int} {m n : Nat} (hx : Fr x) (hy : Fr y) (sx : Sz m x) (sy : Sz n y) : Sz (m + n) (fmul x y) :=
  low_sz (dd hx hy) (abs_mul_lt sx.1 sy.1) (abs_mul_lt sx.2 sy.2)
theorem fdiv_sz {x y : Int × Int} {m n : Nat} (hx : Fr x) (h : y.1 ≠ 0) (sx : Sz m x) (sy : Sz n y) : Sz (m + n) (fdiv x y) :=
  low_sz (Int.mul_ne_zero hx.ne h) (abs_mul_lt sx.1 sy.2) (abs_mul_lt sx.2 sy.1)
/-! Euclid's loop -/
theorem euclid_step {a b : Int} (h : 0 ≤ a) (hb : 0 < b) : Int.gcd b (a % b) = Int.gcd a b := by
  obtain ⟨m, rfl⟩ := Int.eq_ofNat_of_zero_le h
  obtain ⟨n, rfl⟩ := Int.eq_ofNat_of_zero_le (Int.le_of_lt hb)
  show Nat.gcd n ((m : Int) % (n : Int)).natAbs = Nat.gcd m n
  rw [← Int.natCast_emod, Int.natAbs_natCast, Nat.gcd_comm m n, Nat.gcd_rec n m, Nat.gcd_comm]
end CS
set_option Elab.async false
set_option maxRecDepth 100000
set_option maxHeartbeats 4000000
set_option linter.unusedVariables false
namespace CS
open PySem L2
theorem PE.imp {X : Cx} {e : Expr} {t t1 : TE} (h : PE X e t) (k : ∀ σ H Q, t1 σ H Q → t σ H Q) : PE X e t1 := ⟨fun pins s σ H Q I q => h.run pins s σ H Q I (k σ H Q q)⟩
/-- a fraction's tuple stands at p -/
abbrev FT (K : PySem.W.Frag) (H : Hp) (p : Addr) (x : Int × Int) : Prop := SqT K H p [.int x.1, .int x.2]
/-- slot i holds a fraction's tuple: its item 0, its item 1 -/
def tFst (K : PySem.W.Frag) (i : Nat) : TE := fun σ H Q => ∃ p x, σ[i]? = some (some (.ref p)) ∧ FT K H p x ∧ Q (.int x.1) H
def tSnd (K : PySem.W.Frag) (i : Nat) : TE := fun σ H Q => ∃ p x, σ[i]? = some (some (.ref p)) ∧ FT K H p x ∧ Q (.int x.2) H
section
variable {X : Cx}
theorem pe_fst (i : Nat) {x : Str} {pos p2 pos' : PySem.Pos} {j : Nat} (hN : X.N[i]? = some x := by rfl) (hv : Vis X.env.scope x := by first | exact Or.inl rfl | exact Or.inr (Or.inl rfl) | exact Or.inr (Or.inr rfl)) (hd : (x == ("__debug__" : Str)) = false := by decide)
    (hcd : (x == ("__classdict__" : Str)) = false := by decide) : PE X (.Subscript (.Name x pos) (.Constant (.int 0) j p2) pos') (tFst X.K i) :=
  PE.imp (pe_ix ix_tup (pe_var hN hv hd hcd) pe_int (fun _ _ => rfl)) fun σ H Q ⟨p, x, e, h, q⟩ => ⟨_, e, p, _, 0, .int x.1, rfl, rfl, h, atI_nat (j := 0) rfl, q⟩
theorem pe_snd (i : Nat) {x : Str} {pos p2 pos' : PySem.Pos} {j : Nat} (hN : X.N[i]? = some x := by rfl) (hv : Vis X.env.scope x := by first | exact Or.inl rfl | exact Or.inr (Or.inl rfl) | exact Or.inr (Or.inr rfl)) (hd : (x == ("__debug__" : Str)) = false := by decide)
    (hcd : (x == ("__classdict__" : Str)) = false := by decide) : PE X (.Subscript (.Name x pos) (.Constant (.int 1) j p2) pos') (tSnd X.K i) :=
  PE.imp (pe_ix ix_tup (pe_var hN hv hd hcd) pe_int (fun _ _ => rfl)) fun σ H Q ⟨p, x, e, h, q⟩ => ⟨_, e, p, _, 1, .int x.2, rfl, rfl, h, atI_nat (j := 1) rfl, q⟩
end
theorem cmw {a b : Int} (ha : a.natAbs < 2 ^ 1900) (hb : b.natAbs < 2 ^ 1900) : CMulW a b := wide_mul ha hb (by decide) (by decide) (by decide)
end CS
set_option Elab.async false
set_option maxRecDepth 100000
set_option maxHeartbeats 4000000
set_option linter.unusedVariables false
/-! A function object as a value: what its call without arguments does is told by a promise over the abstract heap, in which the cells that it captured are tracked, too. -/
namespace CS
open PySem PySem.Spec PyProof.Rows L2 LamX
/-- the function object at f -/
def FunO (f : Addr) (fd : FuncData) : HO := .ext fun h => ∃ od sl, h.get? f = some (⟨.type "function", od, .func fd, sl⟩ : Obj)
/-- the very object at c -/
def CellX (c : Addr) (o : Obj) : HO := .ext fun h => h.get? c = some o
theorem funO_at {P : Program} {w : World} {H : Hp} {h : Heap} {f : Addr} {fd : FuncData} (ok : HOk P w H h) (e : H f = some (FunO f fd)) : ∃ od sl, h.get? f = some (⟨.type "function", od, .func fd, sl⟩ : Obj) := by
  have x : ObjOk P w H h f (FunO f fd) := ok f _ e
  exact x.1
theorem cellX_at {P : Program} {w : World} {H : Hp} {h : Heap} {c : Addr} {o : Obj} (ok : HOk P w H h) (e : H c = some (CellX c o)) : h.get? c = some o := by
  have x : ObjOk P w H h c (CellX c o) := ok c _ e
  exact x.1
theorem cellX_ok {P : Program} {w : World} {H : Hp} {h : Heap} {c : Addr} {o : Obj} (e : h.get? c = some o) : ObjOk P w H h c (CellX c o) := ⟨e, ⟨o, e⟩, fun _ _ z k => k _ z⟩
/-- with the objects of l tracked, without them -/
def addC (l : Addr → Option Obj) (H : Hp) : Hp := fun b => match l b with
  | some o => some (CellX b o)
  | none => H b
def Free (l : Addr → Option Obj) (H : Hp) : Prop := ∀ b o, l b = some o → H b = none
def Cin (l : Addr → Option Obj) (H : Hp) : Prop := ∀ b o, l b = some o → H b = some (CellX b o)
def subC (l : Addr → Option Obj) (H : Hp) : Hp := fun b => if (l b).isSome then none else H b
section
variable {l : Addr → Option Obj} {H H2 : Hp} {b : Addr} {o : Obj}
theorem addC_in (e : l b = some o) : addC l H b = some (CellX b o) := by
  unfold addC
  rw [e]
theorem addC_out (e : l b = none) : addC l H b = H b := by
  unfold addC
  rw [e]
theorem subC_in (e : l b = some o) : subC l H b = none := by
  unfold subC
  rw [e]
  rfl
theorem subC_out (e : l b = none) : subC l H b = H b := by
  unfold subC
  rw [e]
  rfl
theorem cin_add : Cin l (addC l H) := fun _ _ e => addC_in e
theorem free_sub : Free l (subC l H) := fun _ _ e => subC_in e
theorem sub_add (F : Free l H) : subC l (addC l H) = H := by
  funext b
  cases e : l b with
  | none => rw [subC_out e, addC_out e]
  | some o => rw [subC_in e, F b o e]
theorem add_sub (C : Cin l H) : addC l (subC l H) = H := by
  funext b
  cases e : l b with
  | none => rw [addC_out e, subC_out e]
  | some o => rw [addC_in e, C b o e]
theorem Cin.out (C : Cin l H) {u : HO} (e : H b = some u) (n : ∀ c o, u ≠ CellX c o) : l b = none := by
  cases q : l b with
  | none => rfl
  | some o =>
    have := C b o q
    rw [e] at this
    exact absurd (Option.some.inj this) (n b o)
theorem Free.out (F : Free l H) {u : HO} (e : H b = some u) : l b = none := by
  cases q : l b with
  | none => rfl
  | some o =>
    rw [F b o q] at e
    cases e
theorem cx_tup {c : Addr} {o : Obj} {xs : List V} : (HO.tup xs) ≠ CellX c o := fun z => by
  unfold CellX at z
  cases z
theorem cx_frz {c : Addr} {o o2 : Obj} {u : HO} : (HO.frz o2 u) ≠ CellX c o := fun z => by
  unfold CellX at z
  cases z
theorem cx_tbl {c : Addr} {o : Obj} {ps : Array Value} : (HO.tbl ps) ≠ CellX c o := fun z => by
  unfold CellX at z
  cases z
theorem sub_none (n : H b = none) : subC l H b = none := by
  unfold subC
  split
  · rfl
  · exact n
end
section
variable {P : Program} {w : World} {l : Addr → Option Obj} {H H2 : Hp} {h h' : Heap} {fs : List Addr}
theorem hok_sub (C : Cin l H) (ok : HOk P w H h) : HOk P w (subC l H) h := fun b u e => by
  have hb : l b = none := free_sub.out e
  rw [subC_out hb] at e
  refine (ok b u e).stay (fun _ _ _ q => q) (fun c hc => ?_) (fun c xs hc => ?_)
  · rw [subC_out (C.out hc fun _ _ z => by unfold CellX at z; cases z)]
    exact hc
  · rw [subC_out (C.out hc fun _ _ => cx_tup)]
    exact hc
theorem hok_add (F : Free l H2) (ok : HOk P w H2 h) (k : ∀ b o, l b = some o → h.get? b = some o) : HOk P w (addC l H2) h := fun b u e => by
  cases q : l b with
  | some o =>
    rw [addC_in q] at e
    cases e
    exact cellX_ok (k b o q)
  | none =>
    rw [addC_out q] at e
    refine (ok b u e).stay (fun _ _ _ q => q) (fun c hc => ?_) (fun c xs hc => ?_)
    · rw [addC_out (F.out hc)]
      exact hc
    · rw [addC_out (F.out hc)]
      exact hc
/-- the step of a body, told with the cells -/
theorem un_add (C : Cin l H) (F : Free l H2) (u : Un fs [] (subC l H) H2 h h') : Un fs [] H (addC l H2) h h' where
  keep := fun b o q n hb hx => u.keep b o q (sub_none n) hb hx
  slot := fun b o q n hb hx => u.slot b o q (sub_none n) hb hx
  free := fun b o q n hx => by
    have e : l b = none := by
      cases z : l b with
      | none => rfl
      | some o2 =>
        rw [C b o2 z] at n
        cases n
    rw [addC_out e]
    exact u.free b o q (sub_none n) hx
  there := u.there
  tups := fun b xs e => by
    have q := C.out e fun _ _ => cx_tup
    rw [addC_out q]
    exact u.tups b xs (by rw [subC_out q]; exact e)
  frzs := fun b o2 x e => by
    have q := C.out e fun _ _ => cx_frz
    rw [addC_out q]
    exact u.frzs b o2 x (by rw [subC_out q]; exact e)
  tbls := fun b ps e => by
    have q := C.out e fun _ _ => cx_tbl
    rw [addC_out q]
    exact u.tbls b ps (by rw [subC_out q]; exact e)
/-- .. and a caller's, told without them -/
theorem un_sub (F : Free l H) (C : Cin l H2) (hk : HOk P w H2 h') (hh : ∀ b o, l b = some o → h.get? b = some o) (u : Un fs [] (addC l H) H2 h h') : Un fs [] H (subC l H2) h h' where
  keep := fun b o q n hb hx => by
    cases z : l b with
    | none => exact u.keep b o q (by rw [addC_out z]; exact n) hb hx
    | some o2 =>
      have e := hh b o2 z
      rw [q] at e
      cases e
      exact cellX_at hk (C b _ z)
  slot := fun b o q n hb hx => by
    cases z : l b with
    | none => exact u.slot b o q (by rw [addC_out z]; exact n) hb hx
    | some o2 =>
      have e := hh b o2 z
      rw [q] at e
      cases e
      exact ⟨o.slots, cellX_at hk (C b _ z)⟩
  free := fun b o q n hx => by
    cases z : l b with
    | none => exact sub_none (u.free b o q (by rw [addC_out z]; exact n) hx)
    | some o2 => exact subC_in z
  there := u.there
  tups := fun b xs e => by
    have q := F.out e
    have := u.tups b xs (by rw [addC_out q]; exact e)
    rw [subC_out q]
    exact this
  frzs := fun b o2 x e => by
    have q := F.out e
    have := u.frzs b o2 x (by rw [addC_out q]; exact e)
    rw [subC_out q]
    exact this
  tbls := fun b ps e => by
    have q := F.out e
    have := u.tbls b ps (by rw [addC_out q]; exact e)
    rw [subC_out q]
    exact this
/-- an exception that leaves a body, told with the cells -/
theorem cx_add {outer : List Env} {s s' : Shared} {E : XK} {u : Value} (C : Cin l H) (ok : HOk P w H s.heap) (nf : ∀ b ∈ frs outer, H b = none) (c : L2.CX P w outer (subC l H) s (fun cls d H' => Free l H' → E cls d (addC l H')) u s') : L2.CX P w outer H s E u s' := by
  obtain ⟨a, B, H', cls, d, rfl, fl, hok, ub, na, os, ag, hE⟩ := c
  have hh : ∀ b o, l b = some o → s.heap.get? b = some o := fun b o e => cellX_at ok (C b o e)
  have nfr : ∀ b o, l b = some o → b ∉ frs outer := fun b o e z => by
    have := nf b z
    rw [C b o e] at this
    cases this
  have F : Free l H' := fun b o e => ub.free b o (hh b o e) (subC_in e)
  have kB : ∀ b o, l b = some o → B.get? b = some o := fun b o e => ub.keep b o (hh b o e) (subC_in e) (nfr b o e)
  refine ⟨a, B, addC l H', cls, d, rfl, fl, hok_add F hok kB, ⟨fun b o q n hb => ub.keep b o q (sub_none n) hb, ub.slot, fun b o q n => ?_, ub.there, fun b xs e => ?_, fun b o2 x e => ?_, fun b ps e => ?_⟩, ?_, os, ag, hE F⟩
  · have e : l b = none := by
      cases z : l b with
      | none => rfl
      | some o2 =>
        rw [C b o2 z] at n
        cases n
    rw [addC_out e]
    exact ub.free b o q (sub_none n)
  · have q := C.out e fun _ _ => cx_tup
    rw [addC_out q]
    exact ub.tups b xs (by rw [subC_out q]; exact e)
  · have q := C.out e fun _ _ => cx_frz
    rw [addC_out q]
    exact ub.frzs b o2 x (by rw [subC_out q]; exact e)
  · have q := C.out e fun _ _ => cx_tbl
    rw [addC_out q]
    exact ub.tbls b ps (by rw [subC_out q]; exact e)
  · cases z : l a with
    | none => rw [addC_out z]; exact na
    | some o =>
      have e1 := kB a o z
      have e2 : B.get? a = none := fl.2.1
      rw [e1] at e2
      cases e2
end
/-! what a function object's call does -/
abbrev Act := Addr → Hp → VK → XK → Prop
def ActOk (P : Program) (w : World) (K : PySem.W.Frag) (mg : Str → Option Value) (base : Heap) (k : Nat) (act : Act) : Prop :=
  ∀ (f : Addr) (A : Around) (outer : List Env) (s : Shared) (H : Hp) (Q : VK) (E : XK), Room k A → Env0 P w K mg base A outer s H → act f H Q E →
    (∃ fd, H f = some (FunO f fd)) ∧ codeAny (model P w) A (.call (.ref f) ⟨[], []⟩) (CR (L2.CX P w) outer P w H s Q E) s
section
variable {X : Cx} {act : Act} {k i : Nat} {x : Str} {E : L2.St → XK} {p pos : PySem.Pos}
def tAct (act : Act) (i : Nat) (E : L2.St → XK) : TE := fun σ H Q => ∃ f, σ[i]? = some (some (.ref f)) ∧ act f H Q (E σ)
/-- x(), x a name that holds such an object -/
theorem pe_act0 (ha : ActOk X.prog X.w X.K X.mg X.base k act) (hr : Room k X.A) (hx : ∀ σ, PassesAt (L2.CX X.prog X.w) X σ (E σ)) (hN : X.N[i]? = some x) (hv : Vis X.env.scope x) (hd : (x == ("__debug__" : Str)) = false := by decide) (hcd : (x == ("__classdict__" : Str)) = false := by decide) :
    PE X (.Call (.Name x p) [] [] pos) (tAct act i E) := by
  refine ⟨fun pins s σ H Q I h => ?_⟩
  obtain ⟨f, hs, q⟩ := h
  obtain ⟨⟨fd, hf⟩, hc⟩ := ha f X.A X.stack s H Q (E σ) hr I.env0 q
  have hv2 := (pe_var (pos := p) hN hv hd hcd).run pins s σ H (fun v H1 => v = .ref f ∧ H1 = H ∧ act f H Q (E σ)) I ⟨.ref f, hs, rfl, rfl, q⟩
  refine wpAny_Call_Name_kw (thn hv2 fun u s1 ⟨v, H1, I1, r1, ev, eH, q1⟩ => ?_)
  subst ev
  subst eH
  obtain rfl : u = Value.ref f := r1
  obtain ⟨⟨fd, hf⟩, hc⟩ := ha f X.A X.stack s1 H1 Q (E σ) hr I1.env0 q1
  obtain ⟨od, sl, ho⟩ := funO_at I1.hok hf
  refine PySem.W.callWith_F0 (first := []) ⟨_, od, _, sl, ho⟩ ?_
  show wpAny _ _ (call (.ref f) []) _ _ _
  refine wpAny_call (codeAny_mono hc fun r s' hq => ?_)
  match r with
  | .error er => exact hx σ pins H1 s1 er s' I1 hq
  | .ok (.ret u) => exact I1.after hq
  | .ok .next => exact hq.elim
  | .ok .brk => exact hq.elim
  | .ok .cont => exact hq.elim
end
/-! a lambda's call -/
/-- the scope of a lambda whose own names (its parameters) are none of N -/
structure LScope (sc scope : Scope) (N : List Str) : Prop where
  kind : scope.kind = .function
  co : scope.isCoroutine = false
  gen : scope.isGenerator = false
  cell : ∀ y ∈ scope.names, y.2 ≠ .cell
  own : ∀ y ∈ scope.names, y.2 = .local → y.1 ∉ N
  free : ∀ y ∈ scope.names, y.2 = .free → sc.names.lookup y.1 = some .cell ∨ sc.names.lookup y.1 = some .free
theorem LScope.has {X : Cx} {scope : Scope} {N : List Str} (L : LScope X.env.scope scope N) (ok : X.Ok) : ∀ y ∈ scope.names, y.2 = .free → ∃ c, X.env.cells.lookup y.1 = some c := fun y hy e =>
  (L.free y hy e).elim (fun k => ok.has _ (.inl k)) fun k => ok.has _ (.inr k)
abbrev clo (X : Cx) (scope : Scope) : List (Str × Addr) := cloFrom X.env.cells scope.names []
abbrev lfd (X : Cx) (scope : Scope) (params : Arguments) (body : Expr) (c' : Addr) (dV doc pm ctv : Value) : FuncData :=
  PySem.W.kdv_fn "<lambda>" (X.env.qual ++ "<lambda>") params (.expr body) scope (clo X scope) dV doc pm (.ref c') ctv
/-- the objects of l are the captured cells, with what the slots tell -/
structure Held (X : Cx) (scope : Scope) (σ : L2.St) (l : Addr → Option Obj) : Prop where
  all : ∀ y c, (clo X scope).lookup y = some c → ∃ o v, l c = some o ∧ o.data = .cell v
  val : ∀ (i : Nat) (x : Str) (v : V), X.N[i]? = some x → σ[i]? = some (some v) → scope.names.lookup x = some .free → ∃ c o u, (clo X scope).lookup x = some c ∧ l c = some o ∧ o.data = .cell (some u) ∧ RelV v u
section
variable {X : Cx} {scope : Scope} {σ : L2.St} {l : Addr → Option Obj} {params : Arguments} {body : Expr} {f c' : Addr} {dV doc pm ctv : Value} {k : Nat} {binds : List (Str × Value)} {E : XK} {tb : TE}
theorem lam_inv {A : Around} {outer : List Env} {s : Shared} {H : Hp} {h₁ : Heap} {tk : Nat} (ok : X.Ok) (L : LScope X.env.scope scope X.N) (V : Held X scope σ l) (hlen : σ.length = X.N.length) (C : Cin l H) (e0 : Env0 X.prog X.w X.K X.mg X.base A outer s H) (hd : A.handled = none)
    (hns : h₁.Ns s.heap.objs.size fun y => binds.reverse.lookup y) (kp : ∀ b o, s.heap.get? b = some o → h₁.get? b = some o) : Inv (lamCx X A outer s (subC l H) E scope f c') [] σ (subC l H) { s with heap := h₁, toks := tk } := by
  have hfree := L.has ok
  have at_ : ∀ {c o}, l c = some o → s.heap.get? c = some o := fun {c o} e => cellX_at e0.hok (C c o e)
  have hs := hok_sub C e0.hok
  refine {
    ok := {
      mod := e0.mod, kind := L.kind, glob := rfl, blt := rfl, above := Nat.le_refl _
      inj := fun y z c e1 e2 => ok.inj y z c (NdefX.clo_cm hfree e1) (NdefX.clo_cm hfree e2)
      has := fun y hy => ?_
      cab := fun y c z _ => absurd (show false = true from z) (by decide)
      hd := fun _ => hd
      frames := Around.frames_deeper e0.frames
      stk := .inr ⟨rfl, rfl⟩
      exf := fun b z => absurd (show b ∈ ([] : List Addr) from z) (by simp)
      bs := fun b o e => ⟨(e0.bs b o e).1, sub_none (e0.bs b o e).2⟩
      bsz := e0.bsz
      noex := fun b _ _ z => absurd (show b ∈ ([] : List Addr) from z) (by simp)
      exfs := fun b z => absurd (show b ∈ ([] : List Addr) from z) (by simp)
      funs := e0.funs
      frf := fun b hb => sub_none (e0.frf b hb) }
    os := rfl
    bare := e0.bare
    base := Un.kept kp
    loc := ⟨_, hns, fun i y v e1 e2 e3 => ?_⟩
    cell := fun y c e => ?_
    free := hs.fresh (Nat.le_refl _)
    freeC := fun y c e => ?_
    pin := fun q hq => absurd (show q ∈ ([] : List (Addr × Obj)) ++ [] from hq) (by simp)
    hok := hs.kept kp
    len := hlen }
  · have hy : scope.names.lookup y = some .cell ∨ scope.names.lookup y = some .free := hy
    rcases hy with hy | hy
    · exact absurd rfl (L.cell _ (PySem.mem_of_lookup hy))
    · obtain ⟨c, hc⟩ := hfree _ (PySem.mem_of_lookup hy) rfl
      exact ⟨c, NdefX.clo_has hfree (PySem.mem_of_lookup hy) hc⟩
  · have e3 : Vis scope y := e3
    have e1 : X.N[i]? = some y := e1
    rcases e3 with q | q | q
    · exact absurd (List.mem_of_getElem? e1) (L.own _ (PySem.mem_of_lookup q) rfl)
    · exact absurd rfl (L.cell _ (PySem.mem_of_lookup q))
    · obtain ⟨c, o, u, h1, h2, h3, r⟩ := V.val i y v e1 e2 q
      exact ⟨u, r, .inr ⟨.inr q, c, h1, o, kp _ _ (at_ h2), h3⟩⟩
  · obtain ⟨o, v, h1, h2⟩ := V.all y c e
    exact ⟨v, o, kp _ _ (at_ h1), h2⟩
  · obtain ⟨o, v, h1, h2⟩ := V.all y c e
    exact subC_in h1
/-- how its parameters are bound where nothing is passed -/
def BindL (X : Cx) (scope : Scope) (params : Arguments) (body : Expr) (dV : Value) (H : Hp) : Prop := ∀ (P : Program) (w : World) (s : Shared) (c' : Addr) (doc pm ctv : Value), HOk P w H s.heap →
  ∃ binds, BindsTo s (lfd X scope params body c' dV doc pm ctv) ⟨[], []⟩ binds ∧ ∀ y ∈ binds, scope.names.lookup y.1 = some .local
/-- what such an object's call does: the body's reading, over what is tracked but the cells -/
def lact (X : Cx) (scope : Scope) (params : Arguments) (body : Expr) (σ : L2.St) (l : Addr → Option Obj) (tb : XK → TE) : Act := fun f H Q E =>
  ∃ (c' : Addr) (dV doc pm ctv : Value) (H1 : Hp) (Q0 : VK) (E0 : XK), H = addC l H1 ∧ Free l H1 ∧ H1 f = some (FunO f (lfd X scope params body c' dV doc pm ctv)) ∧ H1 c' = some (CodeO c' (X.env.qual ++ "<lambda>")) ∧
    BindL X scope params body dV H ∧ tb E0 σ H1 Q0 ∧ (∀ v H2, Free l H2 → Q0 v H2 → Q v (addC l H2)) ∧ ∀ cls d H2, Free l H2 → E0 cls d H2 → E cls d (addC l H2)
theorem lact_ok {tb : XK → TE} (ok : X.Ok) (L : LScope X.env.scope scope X.N) (V : Held X scope σ l) (hlen : σ.length = X.N.length)
    (hb : ∀ (A : Around) (outer : List Env) (s : Shared) (H : Hp) (E : XK) (f c' : Addr), Room k (A.deeper (lamEnv X scope s.heap.objs.size f c')) → PE (lamCx X A outer s H E scope f c') body (tb E)) :
    ActOk X.prog X.w X.K X.mg X.base (k + 1) (lact X scope params body σ l tb) := by
  intro f A outer s H Q E hr e0 h
  obtain ⟨c', dV, doc, pm, ctv, H1, Q0, E0, rfl, F, hf, hc, hbind, q, hQ, hE⟩ := h
  have hf2 : addC l H1 f = some (FunO f (lfd X scope params body c' dV doc pm ctv)) := by rw [addC_out (F.out hf)]; exact hf
  have hc2 : addC l H1 c' = some (CodeO c' (X.env.qual ++ "<lambda>")) := by rw [addC_out (F.out hc)]; exact hc
  refine ⟨⟨_, hf2⟩, ?_⟩
  obtain ⟨od, sl, ho⟩ := funO_at e0.hok hf2
  have C : Cin l (addC l H1) := cin_add
  have es : subC l (addC l H1) = H1 := sub_add F
  obtain ⟨binds, hbi, hloc⟩ := hbind _ _ s c' doc pm ctv e0.hok
  refine PySem.W.kla_callFunE hr.depth ho rfl L.co L.gen rfl (NdefX.codeO_at e0.hok hc2) (hbi _ _ _ _ ?_)
  refine wpAny_newFunctionEnv L.cell hloc (fun h₁ hns hsb => ⟨((e0.mod.nolimit).keeps fun b o e => (e0.bs b o e).1).fresh _ hsb, ?_⟩) L.kind
  show codeAny _ _ (.expr body (lamEnv X scope s.heap.objs.size f c')) _ _
  have kp : ∀ b o, s.heap.get? b = some o → h₁.get? b = some o := fun b o e => hsb.extBut b o (Nat.ne_of_lt (Heap.lt_size e)) (Heap.get?_push_of_some _ e)
  have I := lam_inv (E := E0) (f := f) (c' := c') (tk := s.toks + binds.length) ok L V hlen C e0 hr.hd hns kp
  rw [es] at I
  have nfr : ∀ b ∈ frs outer, addC l H1 b = none := e0.frf
  have cx : ∀ {e : Value} {s3 : Shared}, L2.CX X.prog X.w outer H1 s E0 e s3 → L2.CX X.prog X.w outer (addC l H1) s E e s3 := fun {e s3} hx => by
    refine cx_add C e0.hok nfr ?_
    rw [es]
    obtain ⟨a, B, H', cls, d, x1, x2, x3, x4, x5, x6, x7, x8⟩ := hx
    exact ⟨a, B, H', cls, d, x1, x2, x3, x4, x5, x6, x7, fun F' => hE cls d H' F' x8⟩
  refine PySem.W.kla_codeExpr (wpAny_mono ((hb A outer s H1 E0 f c' (hr.deeper _)).run [] _ σ H1 Q0 I q) (fun u s2 hq => ?_) fun e s2 he => wpAny_mono he (fun _ _ hx => cx hx) fun _ _ hx => cx hx)
  obtain ⟨v, H2, I2, r, q2⟩ := hq
  have F2 : Free l H2 := fun b o e => I2.base.free b o (cellX_at e0.hok (C b o e)) (F b o e) (by intro z; cases z)
  have un : Un (frs outer) [] (subC l (addC l H1)) H2 s.heap s2.heap := by rw [es]; exact I2.base
  refine ⟨v, addC l H2, I2.os, I2.bare, un_add C F2 un, hok_add F2 I2.hok fun b o e => ?_, r, hQ v H2 F2 q2⟩
  refine I2.base.keep b o (cellX_at e0.hok (C b o e)) (F b o e) (fun z => ?_) (by intro z; cases z)
  have := nfr b z
  rw [C b o e] at this
  cases this
end
end CS
set_option Elab.async false
set_option maxRecDepth 100000
set_option maxHeartbeats 4000000
set_option linter.unusedVariables false
namespace CS
open PySem PySem.Spec PyProof.Rows L2 LamX
/-! the making of such an object; a def that is handed it -/
theorem funO_ok {P : Program} {w : World} {H : Hp} {h : Heap} {f : Addr} {fd : FuncData} {od : Option Addr} {sl : Array (Option Value)} (e : h.get? f = some (⟨.type "function", od, .func fd, sl⟩ : Obj)) : ObjOk P w H h f (FunO f fd) :=
  ⟨⟨od, sl, e⟩, ⟨_, e⟩, fun _ _ ⟨a, b, z⟩ k => ⟨a, b, k _ z⟩⟩
/-- one more code object of the name q in the table -/
theorem tabs_more {T : List (Addr × Str)} {H : Hp} {P c' : Addr} {q : Str} {ps : Array Value} {pos : PySem.Pos} (hT : Tabs T H) (hP : H P = some (.tbl ps)) (ht : TriplesOk ps.toList) (hn : H c' = none) (hu : ∀ p ∈ T, p.1 = P → p.2 = q) :
    Tabs T (upd (upd H P (.tbl (ps ++ #[rawInt pos.line, rawInt pos.col, .ref c']))) c' (CodeO c' q)) := by
  have nP : P ≠ c' := ne_of_none hP hn
  rintro ⟨B, z⟩ hp
  obtain ⟨bs, b1, b2, b3⟩ := hT _ hp
  have nB : B ≠ c' := ne_of_none b1 hn
  have old : ∀ c, H c = some (CodeO c z) → upd (upd H P (.tbl (ps ++ #[rawInt pos.line, rawInt pos.col, .ref c']))) c' (CodeO c' q) c = some (CodeO c z) := fun c hc => by
    rw [upd_ne (ne_of_none hc hn), upd_ne (fun y => by rw [y, hP] at hc; exact codeO_ne _ (Option.some.inj hc).symm)]
    exact hc
  by_cases e : B = P
  · subst e
    obtain rfl : z = q := hu _ hp rfl
    rw [show H B = _ from b1] at hP
    cases hP
    refine ⟨_, by show upd _ _ _ B = _; rw [upd_ne nB, upd_same], ?_, fun p2 cv hcv => ?_⟩
    · rw [Array.toList_append]
      exact PySem.TriplesOk_snoc _ _ _ _ b2
    · rw [Array.toList_append] at hcv
      rcases among_app _ b2 hcv with y | y
      · obtain ⟨c, rfl, hc⟩ := b3 p2 cv y
        exact ⟨c, rfl, old c hc⟩
      · exact ⟨c', y, upd_same⟩
  · refine ⟨bs, by show upd _ _ _ B = _; rw [upd_ne nB, upd_ne e]; exact b1, b2, fun p2 cv hcv => ?_⟩
    obtain ⟨c, rfl, hc⟩ := b3 p2 cv hcv
    exact ⟨c, rfl, old c hc⟩
section
variable {X : Cx} {pins : List (Addr × Obj)} {σ : L2.St} {H : Hp} {s : Shared} {scope : Scope} {params : Arguments} {body : Expr}
/-- the object alone is new -/
theorem fun_new {c' : Addr} {dV doc pm ctv : Value} {tk : Nat} (I : Inv X pins σ H s) : Inv X pins σ (upd H s.heap.objs.size (FunO s.heap.objs.size (lfd X scope params body c' dV doc pm ctv))) { s with heap := s.heap.push (PySem.W.kdv_obj "<lambda>" (X.env.qual ++ "<lambda>") params (.expr body) scope (clo X scope) dV doc pm c' ctv), toks := tk } :=
  I.laid (fun b u e => Heap.get?_push_of_some _ e) (Nat.le_refl _) (funO_ok (Heap.get?_push_size _ rfl))
/-- what is known behind the making -/
def Made (X : Cx) (scope : Scope) (params : Arguments) (body : Expr) (T : List (Addr × Str)) (H : Hp) (dV : Value) (f : Addr) (H1 : Hp) : Prop :=
  ExtN H H1 ∧ Tabs T H1 ∧ H f = none ∧ ∃ (c' : Addr) (doc pm ctv : Value), H1 f = some (FunO f (lfd X scope params body c' dV doc pm ctv)) ∧ H1 c' = some (CodeO c' (X.env.qual ++ "<lambda>"))
theorem lam_made {T : List (Addr × Str)} {c P : Addr} {pos : PySem.Pos} {dV : Value} {E : Value → Shared → Prop} {Q : Value → Shared → Prop} (I : Inv X pins σ H s) (TB : TabB X.base X.mg c P) (hcode : X.env.code = .ref c) (hm : (P, X.env.qual ++ "<lambda>") ∈ T)
    (hu : ∀ p ∈ T, p.1 = P → p.2 = X.env.qual ++ "<lambda>") (hT : Tabs T H) (hfree : ∀ y ∈ scope.names, y.2 = .free → ∃ c, X.env.cells.lookup y.1 = some c) (h : ∀ f H1 s', Inv X pins σ H1 s' → Made X scope params body T H dV f H1 → Q (.ref f) s') :
    wpAny (model X.prog X.w) X.A (makeTail "<lambda>" (X.env.qual ++ "<lambda>") params (.expr body) scope X.env dV .none none pos pos.line) Q E s := by
  obtain ⟨ps, hP, ht, ha⟩ := hT _ hm
  have gP : s.heap.get? P = some (PySem.W.tabObj ps) := I.hok P _ hP
  cases hc : codeAmong pos ps.toList with
  | some cv =>
    obtain ⟨c', rfl, hc'⟩ := ha pos cv hc
    refine PySem.W.kdv_makeTailHit (closure_ok hfree) I.ok.glob (I.mod.glob.keeps I.bk) hcode (TB.code.keeps I.bk) gP ht hc (TB.bm.keeps I.bk) fun ctv doc h' tk hx hge => ?_
    have I1 : Inv X pins σ H { s with heap := h', toks := tk } := I.kept hx
    have n1 : H h'.objs.size = none := I1.hok.fresh (Nat.le_refl _)
    refine h _ _ _ (fun_new (c' := c') (tk := tk) I1) ⟨fun b o e _ => by rw [upd_ne (ne_of_none e n1)]; exact e, hT.ext fun b o e => by rw [upd_ne (ne_of_none e n1)]; exact e, n1, c', doc, _, ctv, upd_same, by rw [upd_ne (ne_of_none hc' n1)]; exact hc'⟩
  | none =>
    refine PySem.W.kdv_makeTail (closure_ok hfree) I.ok.glob (I.mod.glob.keeps I.bk) hcode (TB.code.keeps I.bk) gP ht hc TB.gP (TB.bm.keeps I.bk) fun c' ctv doc h' tk hx hge _ hrec htb => ?_
    obtain ⟨c2, oc, vs, t, e2, r1, r2, r3⟩ := hrec
    cases e2
    have nC : H c' = none := I.hok.fresh hge
    have I1 := inv_table (t' := tk) I hP (fun b o hb e => hx b o hb e) htb hge ⟨oc, vs, t, r1, r2, r3⟩
    have n1 := I1.hok.fresh (a := h'.objs.size) (Nat.le_refl _)
    have T1 := tabs_more (pos := pos) hT hP ht nC hu
    have X1 : ExtN H (upd (upd H P (.tbl (ps ++ #[rawInt pos.line, rawInt pos.col, .ref c']))) c' (CodeO c' (X.env.qual ++ "<lambda>"))) := fun b o e n => by
      rw [upd_ne (ne_of_none e nC), upd_ne (fun y => by rw [y, hP] at e; cases e; exact n _ rfl)]
      exact e
    have hc' : upd (upd H P (.tbl (ps ++ #[rawInt pos.line, rawInt pos.col, .ref c']))) c' (CodeO c' (X.env.qual ++ "<lambda>")) c' = some (CodeO c' (X.env.qual ++ "<lambda>")) := upd_same
    have nH : H h'.objs.size = none := by
      by_cases y : h'.objs.size = c'
      · rw [y]; exact nC
      · by_cases y2 : h'.objs.size = P
        · rw [y2, upd_ne (ne_of_none hP nC), upd_same] at n1
          cases n1
        · rw [upd_ne y, upd_ne y2] at n1
          exact n1
    generalize upd (upd H P (.tbl (ps ++ #[rawInt pos.line, rawInt pos.col, .ref c']))) c' (CodeO c' (X.env.qual ++ "<lambda>")) = H2 at *
    refine h _ _ _ (fun_new (c' := c') (tk := tk) I1) ⟨X1.trans fun b o e _ => by rw [upd_ne (ne_of_none e n1)]; exact e, T1.ext fun b o e => by rw [upd_ne (ne_of_none e n1)]; exact e, nH, c', doc, _, ctv, upd_same, by rw [upd_ne (ne_of_none hc' n1)]; exact hc'⟩
/-- lambda: body -/
def tLamV (X : Cx) (scope : Scope) (params : Arguments) (body : Expr) (T : List (Addr × Str)) : TE := fun _ H Q => Tabs T H ∧ ∀ f H1 dV, Made X scope params body T H dV f H1 → BindL X scope params body dV H1 → Q (.ref f) H1
theorem Made.of_ext {T : List (Addr × Str)} {H0 H1 : Hp} {dV : Value} {f : Addr} (e : ∀ b o, H b = some o → H0 b = some o) (n : ∀ b, H0 b = none → H b = none) (m : Made X scope params body T H0 dV f H1) : Made X scope params body T H dV f H1 :=
  ⟨(ExtN.of e).trans m.1, m.2.1, n _ m.2.2.1, m.2.2.2⟩
theorem pe_lam0 {T : List (Addr × Str)} {c P : Addr} {pos : PySem.Pos} (TB : TabB X.base X.mg c P) (hcode : X.env.code = .ref c) (hm : (P, X.env.qual ++ "<lambda>") ∈ T)
    (hu : ∀ p ∈ T, p.1 = P → p.2 = X.env.qual ++ "<lambda>") (L : LScope X.env.scope scope X.N) (hp : params = ⟨[], [], none, [], [], none, []⟩) : PE X (.Lambda params body scope pos) (tLamV X scope params body T) := by
  subst hp
  refine ⟨fun pins s σ H Q I ⟨hT, h⟩ => ?_⟩
  refine PySem.W.kla_eval rfl ?_
  rw [makeFunction_eq]
  simp only [List.zip_nil_right, List.filterMap_nil, List.isEmpty_nil, if_true, pure_bind]
  refine lam_made I TB hcode hm hu hT (L.has I.ok) fun f H1 s' I1 m => ⟨.ref f, H1, I1, rfl, h f H1 .none m fun P w s c' doc pm ctv _ => ⟨[], .of_eq rfl, fun _ z => nomatch z⟩⟩
theorem pe_lam1 {T : List (Addr × Str)} {c P : Addr} {pos p1 p2 : PySem.Pos} {x : Str} {i : Int} {j : Nat} (TB : TabB X.base X.mg c P) (hcode : X.env.code = .ref c) (hm : (P, X.env.qual ++ "<lambda>") ∈ T)
    (hu : ∀ p ∈ T, p.1 = P → p.2 = X.env.qual ++ "<lambda>") (L : LScope X.env.scope scope X.N) (hx : scope.names.lookup x = some .local) (hp : params = ⟨[], [⟨x, none, p1⟩], none, [], [], none, [.Constant (.int i) j p2]⟩) : PE X (.Lambda params body scope pos) (tLamV X scope params body T) := by
  subst hp
  refine ⟨fun pins s σ H Q I ⟨hT, h⟩ => ?_⟩
  refine PySem.W.kdv_lam rfl rfl (evalAll_cons ?_)
  have h0 := (pe_int (X := X) (i := i) (j := j) (pos := p2)).run pins s σ H (fun v H1 => v = .int i ∧ H1 = H) I ⟨rfl, rfl⟩
  refine thn h0 fun u s1 ⟨v, H1, I1, r, ev, eH⟩ => ?_
  subst ev
  subst eH
  obtain ⟨t, rfl⟩ := r
  refine evalAll_nil ?_
  rw [makeFunction_eq]
  simp only [List.zip_nil_right, List.filterMap_nil, List.isEmpty_nil, if_true, pure_bind, List.isEmpty_cons, Bool.false_eq_true, if_false]
  refine wpAny_bind (wpAny_newTextTuple ?_)
  have nd : H1 s1.heap.objs.size = none := I1.hok.fresh (Nat.le_refl _)
  have I2 : Inv X pins σ (upd H1 s1.heap.objs.size (.tup [.int i])) { s1 with heap := s1.heap.push { cls := .type "tuple", data := .seq [Value.int i t].toArray } } :=
    I1.laid (t' := s1.toks) (fun b u e => Heap.get?_push_of_some _ e) (Nat.le_refl _) ⟨by show 1 ≤ sizeLine; decide, [Value.int i t], .cons ⟨t, rfl⟩ .nil, ⟨_, Heap.get?_push_size _ rfl, rfl, _, rfl⟩⟩
  have e2 : ∀ b o, H1 b = some o → upd H1 s1.heap.objs.size (.tup [.int i]) b = some o := fun b o e => by
    rw [upd_ne (ne_of_none e nd)]
    exact e
  have hT2 := hT.ext e2
  have ht : upd H1 s1.heap.objs.size (.tup [.int i]) s1.heap.objs.size = some (.tup [.int i]) := upd_same
  have n2 : ∀ b, upd H1 s1.heap.objs.size (.tup [.int i]) b = none → H1 b = none := fun b z => NdefX.upd_none z
  generalize upd H1 s1.heap.objs.size (.tup [.int i]) = H2 at *
  refine lam_made I2 TB hcode hm hu hT2 (L.has I2.ok) fun f H3 s' I3 m => ⟨.ref f, H3, I3, rfl, h f H3 _ (m.of_ext e2 n2) fun P w s c' doc pm ctv ok => ?_⟩
  have ht3 : H3 s1.heap.objs.size = some (.tup [.int i]) := m.1 _ _ ht fun _ z => by cases z
  obtain ⟨_, its, vs, o, h1, h2, n, h3⟩ := (show ObjOk P w H3 s.heap s1.heap.objs.size (.tup [.int i]) from ok _ _ ht3)
  cases vs with
  | @cons _ u _ ur ra rw' =>
    cases rw'
    exact ⟨[(x, u)], .of_defaults rfl h1 h3 rfl (by simp), fun y hy => by
      rw [List.mem_singleton.mp hy]
      exact hx⟩
end
section
variable {X : Cx} {scope : Scope} {params : Arguments} {body : Expr} {k : Nat}
/-- the captured cells' objects, now -/
def heldNow (X : Cx) (scope : Scope) (h : Heap) : Addr → Option Obj := fun c => if (clo X scope).any (fun p => decide (p.2 = c)) then h.get? c else none
theorem held_mem {h : Heap} {c : Addr} {o : Obj} (e : heldNow X scope h c = some o) : (∃ y, (y, c) ∈ clo X scope) ∧ h.get? c = some o := by
  unfold heldNow at e
  split at e
  · rename_i q
    obtain ⟨⟨y, c2⟩, hp, z⟩ := List.any_eq_true.mp q
    exact ⟨⟨y, of_decide_eq_true z ▸ hp⟩, e⟩
  · cases e
theorem held_in {h : Heap} {y : Str} {c : Addr} (e : (clo X scope).lookup y = some c) : heldNow X scope h c = h.get? c := by
  unfold heldNow
  rw [if_pos (List.any_eq_true.mpr ⟨(y, c), PySem.mem_of_lookup e, decide_eq_true rfl⟩)]
theorem clo_mem (L : LScope X.env.scope scope X.N) (ok : X.Ok) {y : Str} {c : Addr} (e : (y, c) ∈ clo X scope) : X.env.cells.lookup y = some c := by
  rcases cloFrom_mem e with hm | ⟨h1, h2⟩
  · cases hm
  · obtain ⟨c1, hc⟩ := L.has ok _ h1 rfl
    have hc : X.env.cells.lookup y = some c1 := hc
    rw [h2, hc]
    rfl
theorem held_of {pins : List (Addr × Obj)} {σ : L2.St} {H : Hp} {s : Shared} (L : LScope X.env.scope scope X.N) (I : Inv X pins σ H s) : Held X scope σ (heldNow X scope s.heap) ∧ Free (heldNow X scope s.heap) H := by
  have hfree := L.has I.ok
  refine ⟨⟨fun y c e => ?_, fun i x v e1 e2 e3 => ?_⟩, fun c o e => ?_⟩
  · obtain ⟨v, o, ho, hd⟩ := I.cell y c (NdefX.clo_cm hfree e)
    exact ⟨o, v, by rw [held_in e]; exact ho, hd⟩
  · obtain ⟨m, hn, hl⟩ := I.loc
    have hm := PySem.mem_of_lookup e3
    have hvis : Vis X.env.scope x := (L.free _ hm rfl).elim (fun k => .inr (.inl k)) fun k => .inr (.inr k)
    obtain ⟨u, r, lo⟩ := hl i x v e1 e2 hvis
    rcases lo with ⟨k, _⟩ | ⟨_, c, ec, o, ho, hd⟩
    · rcases L.free _ hm rfl with k2 | k2 <;> (rw [show X.env.kindOf x = _ from k2] at k; cases k)
    · have e4 := NdefX.clo_has hfree hm ec
      exact ⟨c, o, u, e4, by rw [held_in e4]; exact ho, hd, r⟩
  · obtain ⟨⟨y, hy⟩, _⟩ := held_mem e
    exact I.freeC y c (clo_mem L I.ok hy)
/-- what a def makes of the exceptions of what it is handed, is the same with cells tracked -/
def Nat1 (Wx : Value → Option Addr → Hp → VK → Prop) : Prop := ∀ (l : Addr → Option Obj) (cls : Value) (d : Option Addr) (H : Hp) (Q : VK), Free l H → Wx cls d H Q → Wx cls d (addC l H) (fun v H2 => Cin l H2 ∧ Q v (subC l H2))
/-- the promise of a def that calls what it is handed, gives out what that gives, and makes Wx of its exceptions -/
def spGive (Wx : Value → Option Addr → Hp → VK → Prop) (act : Act) : Sp := fun vs H Q _ => ∃ f, vs = [.ref f] ∧ act f H Q (fun cls d H' => Wx cls d H' Q)
/-- x(lambda: body) -/
theorem pe_give {Wx : Value → Option Addr → Hp → VK → Prop} {T : List (Addr × Str)} {x a : Str} {g : Addr} {fd : FuncData} {j : Nat} {tb : XK → TE} {p lpos pos : PySem.Pos} (nat : Nat1 Wx)
    (G : ∀ act, ActOk X.prog X.w X.K X.mg X.base (k + 1) act → FnOk X.prog X.w X.K X.mg X.base CX0 j g fd [a] (spGive Wx act)) (hr : Room j X.A) (hg : Gl X x) (hm : X.mg x = some (.ref g)) (hk : PySem.W.keepIn X.K (.ref g) = true) (hb : Binds X.K fd [a] [])
    (hfn : ∀ y, X.fn y = true) (L : LScope X.env.scope scope X.N) (he : PE X (.Lambda params body scope lpos) (tLamV X scope params body T))
    (hbody : ∀ (A : Around) (outer : List Env) (s : Shared) (H : Hp) (E : XK) (f c' : Addr), Room k (A.deeper (lamEnv X scope s.heap.objs.size f c')) → PE (lamCx X A outer s H E scope f c') body (tb E)) (hdb : (x == ("__debug__" : Str)) = false := by decide) :
    PE X (.Call (.Name x p) [.Lambda params body scope lpos] [] pos) (fun σ H Q => Tabs T H ∧ ∀ H1, ExtN H H1 → Tabs T H1 → tb (fun cls d H2 => Wx cls d H2 Q) σ H1 Q) := by
  refine ⟨fun pins s σ H Q I ⟨hT, h⟩ => ?_⟩
  refine wpAny_Call_Name_kw (ld_glob I hg hm ?_ hdb)
  refine PySem.W.callWith_K (h₀ := X.base) I.ok.mod.kin hk (thn ((pa_cons he pa_nil).run pos pins s σ H (fun vs H1 => ∃ f dV, vs = [.ref f] ∧ Made X scope params body T H dV f H1 ∧ BindL X scope params body dV H1) I ⟨hT, fun f H1 dV m b => ⟨f, dV, rfl, m, b⟩⟩) fun us s1 ⟨vs, H1, I1, r, f, dV, ev, m, bl⟩ => ⟨I1.kIn, ?_⟩) rfl rfl
  subst ev
  obtain ⟨V, F⟩ := held_of L I1
  obtain ⟨x1, t1, nf, c', doc, pm, ctv, hf, hc⟩ := m
  have q := h H1 x1 t1
  have hh : ∀ b o, heldNow X scope s1.heap b = some o → s1.heap.get? b = some o := fun b o e => (held_mem e).2
  have cell_hi : ∀ b o, heldNow X scope s1.heap b = some o → X.s_0.heap.objs.size ≤ b := fun b o e => by
    obtain ⟨⟨y, hy⟩, _⟩ := held_mem e
    exact I.ok.cab y b (hfn y) (clo_mem L I.ok hy)
  have cell_ne : ∀ b o, heldNow X scope s1.heap b = some o → b ≠ X.env.locals := fun b o e => by
    obtain ⟨⟨y, hy⟩, _⟩ := held_mem e
    exact I1.cne y b (clo_mem L I.ok hy)
  have okA := hok_add F I1.hok hh
  generalize heldNow X scope s1.heap = l at *
  have A := lact_ok (params := params) (body := body) I.ok L V I1.len hbody
  have e0 := I1.env0
  have none_of : ∀ b, H1 b = none → l b = none → addC l H1 b = none := fun b n e => by rw [addC_out e]; exact n
  have lbase : ∀ b o, X.base.get? b = some o → l b = none := fun b o e => by
    cases z : l b with
    | none => rfl
    | some o2 => exact absurd (Nat.lt_of_lt_of_le (Heap.lt_size e) I.ok.bsz) (Nat.not_lt.mpr (cell_hi b o2 z))
  have lfr : ∀ b ∈ frs X.stack, l b = none := fun b hb => by
    cases z : l b with
    | none => rfl
    | some o2 =>
      rcases List.mem_cons.mp (I1.stkSub b hb) with y | y
      · exact absurd y (cell_ne b o2 z)
      · obtain ⟨_, ob, hob, _⟩ := I1.ok.funs.mem y
        exact absurd (Heap.lt_size hob) (Nat.not_lt.mpr (cell_hi b o2 z))
  have e1 : Env0 X.prog X.w X.K X.mg X.base X.A X.stack s1 (addC l H1) := ⟨e0.frames, e0.mod, fun b o e => ⟨(e0.bs b o e).1, none_of b (e0.bs b o e).2 (lbase b o e)⟩, e0.bsz, e0.funs, fun b hb => none_of b (e0.frf b hb) (lfr b hb), okA, e0.bare⟩
  have hsp : spGive Wx (lact X scope params body σ l tb) [.ref f] (addC l H1) (fun v H2 => Cin l H2 ∧ Q v (subC l H2)) (fun _ _ _ => False) := by
    refine ⟨f, rfl, c', dV, doc, pm, ctv, H1, Q, _, rfl, F, hf, hc, fun P w s c' doc pm ctv ok => ?_, q, fun v H2 F2 q2 => ⟨cin_add, by rw [sub_add F2]; exact q2⟩, fun cls d H2 F2 q2 => nat l cls d H2 Q F2 q2⟩
    have := hok_sub (l := l) cin_add ok
    rw [sub_add F] at this
    exact bl P w s c' doc pm ctv this
  refine wpAny_call (codeAny_mono ((G _ A).run X.A X.stack s1 (addC l H1) ⟨us, []⟩ (us ++ []) [.ref f] _ _ hr e1 (hb s1 us I1.kIn (by rw [List.append_nil, ← r.length]; rfl)) (by rw [List.append_nil]; exact r) hsp) fun r s' hq => ?_)
  match r with
  | .error er => exact hq.elim
  | .ok (.ret u) =>
    obtain ⟨v, H2, os, bare, un, hok, r2, C2, q2⟩ := hq
    exact ⟨v, subC l H2, I1.call' (ch := []) os (un_sub F C2 hok hh un) (hok_sub C2 hok) bare (fun b z => absurd z (by simp)), r2, q2⟩
  | .ok .next => exact hq.elim
  | .ok .brk => exact hq.elim
  | .ok .cont => exact hq.elim
end
end CS
set_option Elab.async false
set_option maxRecDepth 100000
set_option maxHeartbeats 4000000
set_option linter.unusedVariables false
/-! An exception class of the program's own over any built-in one, whose __init__ stores its one argument. -/
namespace CS
open PySem PySem.Spec PyProof.Rows L2
/-- what the written part says of it: x its name, f the field, bmB the built-in classes above -/
structure OwnX (K : PySem.W.Frag) (mg : Str → Option Value) (x f : Str) (C fI : Addr) (bmB : List Value) (newId : String) : Prop where
  gC : mg x = some (.ref C)
  ini : PySem.W.excInitIn K C bmB newId = true
  ovr : PySem.W.excOver K C bmB = true
  sa : PySem.W.findIn K (.ref C) "__setattr__" = some (some (.builtin "object.__setattr__"))
  tk : PySem.W.takerIn K C f = some none
  xf : XfC K C
  noF : PySem.W.findIn K (.ref C) f = some none
  iC : PySem.W.findIn K (.ref C) "__init__" = some (some (.ref fI))
  tI : PySem.W.typeIn K (.ref fI) = some (.type "function")
  kC : PySem.W.keepIn K (.ref C) = true
  tyC : PySem.W.typeIn K (.ref C) = some (.type "type")
section
variable {X : Cx} {pins : List (Addr × Obj)} {σ : L2.St} {H : Hp} {s : Shared} {a C fI : Addr} {x f : Str} {y : V} {u : Value} {bmB : List Value} {B newId initId : String}
/-- what the store leaves -/
def Stored (H : Hp) (a C : Addr) (f : Str) (y : V) (dx : Addr) (H' : Hp) : Prop := H dx = none ∧ dx ≠ a ∧ H' a = some (exo a C (some dx)) ∧ H' dx = some (exd dx [(f, y)]) ∧ ∀ b, b ≠ a → b ≠ dx → H' b = H b
theorem put_new {A : Around} {Q : Unit → Shared → Prop} {E : Value → Shared → Prop} (SF : StoreFacts B bmB "object.__setattr__" "object") (T : OwnX X.K X.mg x f C fI bmB newId) (I : Inv X pins σ H s) (e : H a = some (exo a C none)) (ry : RelV y u)
    (h : ∀ dx H' s', Stored H a C f y dx H' → Inv X pins σ H' s' → Q () s') : wpAny (model X.prog X.w) A (setAttr (.ref a) f u) Q E s := by
  obtain ⟨t1, ho⟩ := exo_at I.hok e
  obtain ⟨hp, g, d, t, os⟩ := s
  have hnd : H hp.objs.size = none := I.hok.fresh (Nat.le_refl _)
  have lt : a < hp.objs.size := Heap.lt_size ho
  have dne : hp.objs.size ≠ a := Nat.ne_of_gt lt
  obtain ⟨cd, hc, hd⟩ := PySem.W.any_some T.xf.hdC
  refine PySem.W.set_plain I.kIn (od := none) ⟨ho, rfl, rfl, trivial⟩ T.sa ?_
  refine PySem.W.osa_openX SF I.kIn (od := none) ⟨ho, rfl, rfl, trivial⟩ T.ovr T.tk fun b => ?_
  refine wpAny_bind (wpAny_pure (wpAny_bind (PySem.W.instanceDict_exc ho (PySem.W.looks_clsIn I.kIn hc) hd ?_)))
  have e1 : (hp.push (PySem.W.dictOf [] 0)).get? hp.objs.size = some (PySem.W.dictOf [] 0) := Heap.get?_push_size _ rfl
  have n1 : (hp.push (PySem.W.dictOf [] 0)).Ns hp.objs.size (fun _ => none) := ⟨_, _, _, e1, rfl, fun q hq => absurd hq (by simp), fun _ => rfl⟩
  have I1 : Inv X pins σ (upd H hp.objs.size (exd hp.objs.size [])) ⟨hp.push (PySem.W.dictOf [] 0), g, d, t, os⟩ := I.laid (fun b o q => Heap.get?_push_of_some _ q) (Nat.le_refl _) (exd_ok (Heap.Ns1.of_empty n1) fun _ => True.intro)
  have ea : upd H hp.objs.size (exd hp.objs.size []) a = some (exo a C none) := by rw [upd_ne (Ne.symm dne)]; exact e
  have ho1 := Heap.get?_push_of_some (PySem.W.dictOf [] 0) ho
  have ho2 := Heap.get?_update_self (fun o : Obj => { o with dict := some hp.objs.size }) ho1 rfl
  have I2 := I1.write (x := a) (e := a) (o := exo a C (some hp.objs.size)) (t' := t) (h' := (hp.push (PySem.W.dictOf [] 0)).update a fun o => { o with dict := some hp.objs.size }) (by rw [ea]; exact True.intro) (.inl rfl)
    (fun b o hb q => by rw [Heap.get?_update_other _ _ (Ne.symm hb)]; exact q) ⟨_, ho2⟩ (exo_ok ho2)
  have n2 : ((hp.push (PySem.W.dictOf [] 0)).update a fun o => { o with dict := some hp.objs.size }).Ns hp.objs.size (fun _ => none) :=
    ⟨_, _, _, by rw [Heap.get?_update_other _ _ (Ne.symm dne)]; exact e1, rfl, fun q hq => absurd hq (by simp), fun _ => rfl⟩
  have ed : upd (upd H hp.objs.size (exd hp.objs.size [])) a (exo a C (some hp.objs.size)) hp.objs.size = some (exd hp.objs.size []) := by rw [upd_ne dne, upd_same]
  show wpAny _ _ (Builtin.ObjectAttr.storeInDict hp.objs.size _ f u) _ _ _
  refine PySem.HandSPX.store_in_new n2 fun h3 tk3 hn3 hs3 => ?_
  obtain ⟨o3, es3, ep3, q3, r3⟩ := id hn3
  have I3 := I2.write (x := hp.objs.size) (e := hp.objs.size) (o := exd hp.objs.size [(f, y)]) (t' := tk3) (h' := h3) (by rw [ed]; exact True.intro) (.inl rfl) (fun b o hb q => (hs3.2 b hb).trans q) ⟨_, q3⟩
    (exd_ok hn3 (relO_put (fs := []) ry fun g => True.intro))
  exact h _ _ _ ⟨hnd, dne, by rw [upd_ne (Ne.symm dne), upd_same], upd_same, fun b h1 h2 => by rw [upd_ne h2, upd_ne h1, upd_ne h2]⟩ I3
/-- self.f = e, self an exception that has no field yet -/
def tPut (C : Addr) (f : Str) (to te : TE) : TS := fun D σ H => te σ H fun y H1 => to σ H1 fun x H2 => ∃ a, x = .ref a ∧ H2 a = some (exo a C none) ∧ ∀ dx H', Stored H2 a C f y dx H' → D.nx σ H'
theorem ps_put {o e : Expr} {to te : TE} {p' pos : PySem.Pos} (SF : StoreFacts B bmB "object.__setattr__" "object") (T : OwnX X.K X.mg x f C fI bmB newId) (ho : PE X o to) (he : PE X e te) (hs : swapsWith e (some (.Attribute o f p')) pos.line X.env = pure false := by rfl) : PS X (.Assign [.Attribute o f p'] e pos) (tPut C f to te) := by
  refine ⟨fun pins s σ H D I h => plainObj_wpAny_Assign_Attribute (thn (he.run pins s σ H _ I h) fun v s1 ⟨y, H1, I1, r1, q1⟩ => thn (ho.run pins s1 σ H1 _ I1 q1) fun w2 s2 ⟨z, H2, I2, r2, a, ez, ea, q⟩ => ?_) hs⟩
  subst ez
  obtain rfl : w2 = Value.ref a := r2
  exact put_new SF T I2 ea r1 fun dx H' s' st J => ⟨σ, H', J, q dx H' st⟩
/-- the promise of such an __init__ -/
def spPut (C : Addr) (f : Str) : Sp := fun vs H Q _ => ∃ a y, vs = [.ref a, y] ∧ H a = some (exo a C none) ∧ ∀ dx H', Stored H a C f y dx H' → Q .non H'
theorem ok_put {P : Program} {w : World} {K : PySem.W.Frag} {mg : Str → Option Value} {base : Heap} {st : Stmt} {qual : Str} {fd : FuncData} {p1 p2 p3 p4 : PySem.Pos} (SF : StoreFacts B bmB "object.__setattr__" "object") (T : OwnX K mg x f C fI bmB newId)
    (F : Fun K "__init__" qual st fI fd) (S : FnScope ["self", f] ["self", f] (defScope st)) (hb : defBody st = [.Assign [.Attribute (.Name "self" p1) f p2] (.Name f p3) p4]) (hf : (defScope st).names.lookup f = some .local) (hs : (defScope st).names.lookup ("self" : Str) = some .local)
    (hd : (f == ("__debug__" : Str)) = false) (hcd : (f == ("__classdict__" : Str)) = false) (hsw : ∀ env : Env, swapsWith (.Name f p3) (some (.Attribute (.Name "self" p1) f p2)) p4.line env = pure false) : FnOk P w K mg base CX0 1 fI fd ["self", f] (spPut C f) := by
  refine F.ok S (fun vs H Q E h => ?_) (fun cdv A outer s H vs Q E hr h => ?_)
  · obtain ⟨a, y, rfl, _⟩ := h
    rfl
  · obtain ⟨a, y, rfl, ea, k⟩ := h
    rw [hb]
    refine ⟨_, pss_one (ps_put SF T (pe_var (i := 0) rfl (.inl hs) (by decide) (by decide)) (pe_var (i := 1) rfl (.inl hf) hd hcd) (hsw _)), ?_⟩
    exact ⟨_, rfl, _, rfl, a, rfl, ea, fun dx H' st => k dx H' st⟩
/-- C(e) as an exception that is raised -/
def tMkX (C : Addr) (f : Str) (ta : TA) : L2.St → Hp → XK → Prop := fun σ H Q => ta σ H fun vs H1 => ∃ v, vs = [v] ∧ ∀ d, H1 d = none → Q (.ref C) (some d) (upd H1 d (.xd [(f, v)]))
theorem pmk_own1 {e : Expr} {ta : TA} {p pos : PySem.Pos} {k : Nat} {fd : FuncData} (FB : ExcBaseFacts B newId initId bmB) (T : OwnX X.K X.mg x f C fI bmB newId) (G : FnOk X.prog X.w X.K X.mg X.base CX0 k fI fd ["self", f] (spPut C f)) (hb : Binds X.K fd ["self", f] []) (hr : Room (k + 1) X.A) (hg : Gl X x) (ha : PA X [e] ta)
    (hdb : (x == ("__debug__" : Str)) = false := by decide) (he : starEach [e] X.env = (false, eval e X.env) :: starEach [] X.env := by rfl) (hpl : (backTo pos (starEach [] X.env)).any (·.1) = false := by rfl) : PMk X (.Call (.Name x p) [e] [] pos) (tMkX C f ta) := fun pins s σ H Q I h => by
  refine wpAny_Call_Name_kw (ld_glob I hg T.gC (PySem.W.callWith_K (h₀ := X.base) I.ok.mod.kin T.kC (thn (ha.run pos pins s σ H _ I h) fun us s1 ⟨vs, H1, I1, r1, v, ev, q⟩ => ⟨I1.kIn, ?_⟩) he hpl) hdb)
  subst ev
  obtain ⟨nm, N, qn, bs, bm, hdct, sn, sub, ab, col, dd, k0, k1, k2, k3, k5, hC, hT⟩ := PySem.W.excInit_of I1.kIn T.ini
  have hus : us.length ≤ sizeLine := by
    rw [← r1.length]
    show 1 ≤ sizeLine
    decide
  obtain ⟨hp, g, dr, tk, os⟩ := s1
  obtain ⟨a, ea⟩ : ∃ a, a = hp.objs.size + 1 := ⟨_, rfl⟩
  obtain ⟨h2, eh⟩ : ∃ h2, h2 = (hp.push (PySem.W.kdv_tup us)).push (PySem.HandSPX.excO C hp.objs.size) := ⟨_, rfl⟩
  have big : hp.objs.size ≤ a := by rw [ea]; exact Nat.le_succ _
  have kp : ∀ b o, hp.get? b = some o → h2.get? b = some o := fun b o z => by
    rw [eh]
    exact Heap.get?_push_of_some _ (Heap.get?_push_of_some _ z)
  have at_ : h2.get? a = some (PySem.HandSPX.excO C hp.objs.size) := by
    rw [eh, ea]
    heap_get
  have na : H1 a = none := I1.hok.fresh big
  have I2 : Inv X pins σ (upd H1 a (exo a C none)) ⟨h2, g, dr, tk, os⟩ := I1.laid (t' := tk) kp big (exo_ok at_)
  have hsp : spPut C f [.ref a, v] (upd H1 a (exo a C none)) (fun v2 H2 => v2 = .non ∧ ∃ dx, Stored (upd H1 a (exo a C none)) a C f v dx H2) (fun _ _ _ => False) := ⟨a, v, rfl, upd_same, fun dx H' st => ⟨rfl, dx, st⟩⟩
  have run := G.run (A := X.A.under (.builtin "type.__call__" ⟨.ref C :: us, []⟩)) (outer := X.stack) (s := ⟨h2, g, dr, tk, os⟩) (args := ⟨.ref a :: us, []⟩) (us := .ref a :: us) (vs := [.ref a, v]) (Q := _) (E := fun _ _ _ => False) (H := upd H1 a (exo a C none)) (hr.make C us []) (I2.env0.make C us [])
    (by have := hb ⟨h2, g, dr, tk, os⟩ (.ref a :: us) I2.kIn (by rw [List.append_nil, List.length_cons, ← r1.length]; rfl); rw [List.append_nil] at this; exact this) (.cons rfl r1) hsp
  show wpAny _ _ (call (.ref C) us) _ _ _
  refine wpAny_call (PySem.HandSPX.call_own FB hT hC (PySem.W.looks_findIn I1.kIn T.iC) (fun self => PySem.W.bind_fn I1.kIn self T.tI) hus ?_)
  rw [← ea, ← eh]
  refine codeAny_mono run fun r s' hq => ?_
  match r with
  | .error er => exact hq.elim
  | .ok .next => exact hq.elim
  | .ok .brk => exact hq.elim
  | .ok .cont => exact hq.elim
  | .ok (.ret z) =>
    obtain ⟨v2, H2, os2, bare2, un2, hok2, rv, ev2, dx, st1, st2, st3, st4, st5⟩ := hq
    have nd : H1 dx = none := by rw [upd_ne st2] at st1; exact st1
    have eq : upd (del H2 a) dx (.xd [(f, v)]) = upd H1 dx (.xd [(f, v)]) := by
      funext b
      by_cases h1 : b = dx
      · rw [h1, upd_same, upd_same]
      · rw [upd_ne h1, upd_ne h1]
        by_cases h2 : b = a
        · rw [h2, del_same, na]
        · rw [del_ne h2, st5 b h2 h1, upd_ne h2]
    obtain ⟨h3, g3, d3, t3, os3⟩ := s'
    have fin := mk_end (Q := Q) (d2 := d3) (t2 := t3) (raises_own T.xf.exC T.tyC) I1 big kp un2 hok2 os2 bare2 st3 st4 nd (by rw [eq]; exact q dx nd)
    subst ev2
    exact ⟨rv, fin⟩
end
end CS
set_option Elab.async false
set_option maxRecDepth 100000
set_option maxHeartbeats 4000000
set_option linter.unusedVariables false
/-! try with several except clauses, some with a name, some without. -/
namespace CS
open PySem PySem.Spec PyProof.Rows L2
/-- the exception at a, of the class cls with the dict d, has landed; W0 is what is wanted of one that no clause takes -/
structure Landed (X : Cx) (pins : List (Addr × Obj)) (σ : L2.St) (H : Hp) (a : Addr) (cls : Value) (d : Option Addr) (s : Shared) : Prop where
  go : ∃ (B : Heap) (sI : Shared), HandSPX.FlyingZ B (X.env :: X.outer) a (Zc cls d) s.heap ∧ Inv X pins σ H sI ∧ (∀ b o, sI.heap.get? b = some o → b ∉ frs X.stack → B.get? b = some o) ∧ sI.heap.UpToSlots s.heap ∧ s.os = sI.os ∧ AllBare s.gens
  no : H a = none
abbrev TSx := Addr → Value → Option Addr → TS
section
variable {X : Cx} {pins : List (Addr × Obj)} {σ : L2.St} {H : Hp} {s : Shared} {a : Addr} {cls : Value} {d : Option Addr}
theorem Landed.inv (L : Landed X pins σ H a cls d s) : Inv X pins σ H s := by
  obtain ⟨B, sI, fl, J, nb, up, os, ag⟩ := L.go
  exact J.landed nb fl.1 up os ag
/-- the state within a suite -/
theorem Landed.suite (L : Landed X pins σ H a cls d s) (hf : X.env.frame = some X.env.locals) : ∃ oe, Zc cls d oe ∧ (∃ vs, oe.data = .fields vs) ∧ s.heap.get? a = some oe ∧ Inv (X.suite a ((a, oe) :: (X.pn ++ pins))) [] σ H s := by
  have J := L.inv
  obtain ⟨B, sI, fl, _⟩ := L.go
  obtain ⟨oe, vs, he, hz, hd⟩ := fl.there
  have no : a ∉ frs (X.env :: X.outer) := fun hm => by
    obtain ⟨_, o, e, n⟩ := fl.2.2.1.mem hm
    rw [he] at e
    cases e
    exact n _ hd
  have in_ : ∀ e ∈ X.env :: X.outer, e.frame ≠ some a := fun e he q => no (List.mem_filterMap.mpr ⟨e, he, q⟩)
  refine ⟨oe, hz, ⟨vs, hd⟩, he, J.suite he hd L.no (fun z => in_ _ List.mem_cons_self (by rw [hf, z])) fun hm => ?_⟩
  obtain ⟨e, h1, h2⟩ := List.mem_filterMap.mp hm
  exact in_ e (List.mem_cons_of_mem _ h1) h2
/-- it is looked at once more -/
theorem Landed.again {M : Model} {A : Around} {E : Value → Shared → Prop} {Q : Unit → Shared → Prop} (L : Landed X pins σ H a cls d s) (h : ∀ s', Landed X pins σ H a cls d s' → Q () s') :
    ∃ B, HandSPX.FlyingZ B (X.env :: X.outer) a (Zc cls d) s.heap ∧ ∀ h', HandSPX.FlyingZ B (X.env :: X.outer) a (Zc cls d) h' → s.heap.UpToSlots h' → Q () { s with heap := h' } := by
  obtain ⟨B, sI, fl, J, nb, up, os, ag⟩ := L.go
  exact ⟨B, fl, fun h' fl' up' => h _ ⟨⟨B, sI, fl', J, nb, up.trans up', os, ag⟩, L.no⟩⟩
end
/-- clauses with a name or without; what they wish of an exception, the wish W0 where none takes it -/
inductive Clauses (X : Cx) (W0 : WX) : List ExceptHandler → (Ends → WX) → Prop
  | nil : Clauses X W0 [] (fun _ => W0)
  | plain {x : Str} {c : Value} {ts : TSx} {b₀ : Stmt} {suite : List Stmt} {np pos' : PySem.Pos} {hds : List ExceptHandler} {W : Ends → WX} (hc : Names X x c)
      (hsu : ∀ (a : Addr) (oe : Obj) (cls : Value) (d : Option Addr) (pn : List (Addr × Obj)), Zc cls d oe → (∃ vs, oe.data = .fields vs) → PSs (X.suite a ((a, oe) :: pn)) (b₀ :: suite) (ts a cls d)) (r : Clauses X W0 hds W) :
      Clauses X W0 (.ExceptHandler (some (.Name x np)) none (b₀ :: suite) pos' :: hds) (fun D cls d σ H => ∃ b, PySem.W.exmOne X.K cls c = some b ∧ (b = true → ∀ a, H a = none → ts a cls d D σ H) ∧ (b = false → W D cls d σ H))
  | named {x n : Str} {c : Value} {i : Nat} {ts : TSx} {b₀ : Stmt} {suite : List Stmt} {np pos' : PySem.Pos} {hds : List ExceptHandler} {W : Ends → WX} (hc : Names X x c) (hi : X.N[i]? = some n) (hln : X.env.kindOf n = some .local)
      (hsu : ∀ (a : Addr) (oe : Obj) (cls : Value) (d : Option Addr) (pn : List (Addr × Obj)), Zc cls d oe → (∃ vs, oe.data = .fields vs) → PSs (X.suite a ((a, oe) :: pn)) (b₀ :: suite) (ts a cls d)) (r : Clauses X W0 hds W) :
      Clauses X W0 (.ExceptHandler (some (.Name x np)) (some n) (b₀ :: suite) pos' :: hds) (fun D cls d σ H => ∃ b, PySem.W.exmOne X.K cls c = some b ∧
        (b = true → ∀ a, H a = none → ts a cls d { nx := fun σ' H' => D.nx (σ'.set i none) H', rt := D.rt, bk := fun σ' H' => D.bk (σ'.set i none) H', ct := fun σ' H' => D.ct (σ'.set i none) H' } (σ.set i (some (.ref a))) H) ∧ (b = false → W D cls d σ H))
section
variable {X : Cx} {pins : List (Addr × Obj)} {σ : L2.St} {H : Hp} {s : Shared} {a : Addr} {cls : Value} {d : Option Addr} {W0 : WX}
/-- a clause's test -/
theorem Landed.test (L : Landed X pins σ H a cls d s) (hf : X.env.frame = some X.env.locals) {x : Str} {c : Value} {np : PySem.Pos} (hc : Names X x c) {b : Bool} (hb : PySem.W.exmOne X.K cls c = some b) {Q E : Value → Shared → Prop}
    (q : (∀ (A : Around) (Q E : Bool → Shared → Prop), True) → ∀ M, PySem.W.Looks M s.heap (typeOf (.ref a)) cls → Q c s) : wpAny (model X.prog X.w) (X.A.mark (some (.ref a))) (eval (.Name x np) X.env) Q E s := by
  obtain ⟨oe, hz, hd, he, S⟩ := L.suite hf
  have q2 : Q c s := q (fun _ _ _ => trivial) (model X.prog X.w) fun A Q E s k q => wpAny_typeOf_ref (k _ _ he) (by rw [hz.1]; exact q)
  obtain ⟨hg, hdbg, hm | ⟨hm, hv, hnn⟩⟩ := hc
  · exact ld_glob (X := X.suite a ((a, oe) :: (X.pn ++ pins))) S hg hm q2 hdbg
  · exact ld_blt (X := X.suite a ((a, oe) :: (X.pn ++ pins))) S hg hm hv q2 hnn hdbg
theorem ends_plain {a : Addr} {p : Addr × Obj} {D : Ends} {f : Flow} (ok : X.Ok) (h : SP (X.suite a (p :: (X.pn ++ pins))) [] D f s) : SP X pins D f s := by
  cases f with
  | ret u =>
    obtain ⟨v, σ6, H6, S6, r, q⟩ := h
    exact ⟨v, σ6, H6, S6.unsuite ok, r, q⟩
  | next =>
    obtain ⟨σ6, H6, S6, q⟩ := h
    exact ⟨σ6, H6, S6.unsuite ok, q⟩
  | brk =>
    obtain ⟨σ6, H6, S6, q⟩ := h
    exact ⟨σ6, H6, S6.unsuite ok, q⟩
  | cont =>
    obtain ⟨σ6, H6, S6, q⟩ := h
    exact ⟨σ6, H6, S6.unsuite ok, q⟩
theorem caught (hs : X.stack = X.env :: X.outer) (hf : X.env.frame = some X.env.locals) (hN : X.N.Nodup) (tk : Takes X W0) {D : Ends} {hds : List ExceptHandler} {W : Ends → WX} (C : Clauses X W0 hds W) (L : Landed X pins σ H a cls d s) (w : W D cls d σ H) :
    wpAny (model X.prog X.w) X.A (handleBy (.ref a) X.env hds) (SP X pins D) X.xe s := by
  have ok := L.inv.ok
  have LT : ∀ M, PySem.W.Looks M s.heap (typeOf (.ref a)) cls := fun M => by
    obtain ⟨oe, hz, _, he, _⟩ := L.suite hf
    exact fun A Q E s k q => wpAny_typeOf_ref (k _ _ he) (by rw [hz.1]; exact q)
  induction C with
  | nil =>
    refine wpAny_handleBy_nil ?_
    obtain ⟨B, sI, fl, J, nb, up, os, ag⟩ := L.go
    obtain ⟨_, _, _, oe, vs, T, oT, ts, he, _, hd, h1, _⟩ := id fl
    have out : wpAny (model X.prog X.w) X.A (setFlight (.ref a) X.env.frame) (fun _ s4 => wpAny (model X.prog X.w) X.A (throw (.ref a) : Sem Flow) (SP X pins D) X.xe s4) X.xe s := by
      rw [hf]
      exact HandSPX.setFlight_upZ fl fun h4 hh4 up4 => wpAny_throw (tk _ _ ⟨a, B, sI, pins, σ, H, cls, d, rfl, J, nb, up.trans up4, .inr (.inr (by rw [hs]; exact hh4)), L.no, os, ag, w⟩)
    unfold PySem.passOn
    refine wpAny_bind (wpAny_field he hd h1 ?_)
    rw [if_neg (show ¬ ((Value.ref T == Value.none) = true) from by simp)]
    first
      | exact wpAny_bind (wpAny_pure (wpAny_bind out))
      | exact wpAny_bind out
  | plain hc hsu r ih =>
    obtain ⟨b, hb, yes, no⟩ := w
    refine wpAny_handleBy_cons (codeAny_handlers_test (L.test hf hc hb fun _ _ _ => ((PySem.W.exm_one (M := model X.prog X.w) L.inv.kIn (LT _) hb).here ?_))) (by intro q; cases q)
    cases b with
    | false => exact ih (no rfl)
    | true =>
      refine codeAny_handlers_suite ?_
      obtain ⟨B, fl, k⟩ := L.again (M := model X.prog X.w) (A := X.A) (E := X.xe) (Q := fun _ s' => Landed X pins σ H a cls d s') fun _ z => z
      refine HandSPX.lands_againZ fl fun h4 fl4 up4 => ?_
      obtain ⟨oe, hz, hd, he, S⟩ := (k h4 fl4 up4).suite hf
      exact wpAny_mono ((hsu a oe cls d (X.pn ++ pins) hz hd).run [] _ _ H _ S (yes rfl a L.no)) (fun f s6 hsp => ends_plain ok hsp) fun _ _ z => z.elim
  | @named x n c i ts b₀ suite np pos' hds W hc hi hln hsu r ih =>
    obtain ⟨b, hb, yes, no⟩ := w
    refine wpAny_handleBy_cons (codeAny_handlers_test (L.test hf hc hb fun _ _ _ => ((PySem.W.exm_one (M := model X.prog X.w) L.inv.kIn (LT _) hb).here ?_))) (by intro q; cases q)
    cases b with
    | false => exact ih (no rfl)
    | true =>
      refine codeAny_handlers_suite_as ?_
      obtain ⟨B, fl, k⟩ := L.again (M := model X.prog X.w) (A := X.A) (E := X.xe) (Q := fun _ s' => Landed X pins σ H a cls d s') fun _ z => z
      refine HandSPX.lands_againZ fl fun h4 fl4 up4 => ?_
      obtain ⟨oe, hz, hd, he, S⟩ := (k h4 fl4 up4).suite hf
      refine store_ok (X := X.suite a ((a, oe) :: (X.pn ++ pins))) (v := .ref a) S hN hi (.inl hln) rfl (fun s5 S5 => ?_) (.inr hln)
      refine wpAny_mono ((hsu a oe cls d (X.pn ++ pins) hz hd).run [] s5 _ H _ S5 (yes rfl a L.no)) (fun f s6 hsp => ?_) fun _ _ z => z.elim
      have gone : ∀ {σ6 : L2.St} {H6 : Hp} {Q : Shared → Prop}, Inv X pins σ6 H6 s6 → (∀ s7, Inv X pins (σ6.set i none) H6 s7 → Q s7) → wpAny (model X.prog X.w) X.A (do bindName X.env n .none; unbindBehindTheSuite X.env n pos') (fun _ s7 => Q s7) X.xe s6 :=
        fun J6 hq => gone_ok J6 hN hi hln hq
      have q6 := ends_plain ok hsp
      cases f with
      | ret u =>
        obtain ⟨v6, σ6, H6, J6, r6, q6⟩ := q6
        exact gone J6 fun s7 J7 => ⟨_, _, _, J7, r6, q6⟩
      | next =>
        obtain ⟨σ6, H6, J6, q6⟩ := q6
        exact gone J6 fun s7 J7 => ⟨_, _, J7, q6⟩
      | brk =>
        obtain ⟨σ6, H6, J6, q6⟩ := q6
        exact gone J6 fun s7 J7 => ⟨_, _, J7, q6⟩
      | cont =>
        obtain ⟨σ6, H6, J6, q6⟩ := q6
        exact gone J6 fun s7 J7 => ⟨_, _, J7, q6⟩
/-- try: body / except .. -/
theorem ps_tryx {body : List Stmt} {h₀ : ExceptHandler} {hds : List ExceptHandler} {W : Ends → WX} {tb : WX → TS} {pos : PySem.Pos} (hs : X.stack = X.env :: X.outer) (hf : X.env.frame = some X.env.locals) (hN : X.N.Nodup) (tk : Takes X W0) (C : Clauses X W0 (h₀ :: hds) W)
    (hb : ∀ (W : WX) (pn : List (Addr × Obj)) (xe : Value → Shared → Prop), Takes (X.tr pn xe) W → PassesOwn (model X.prog X.w) X.A X.env xe → PSs (X.tr pn xe) body (tb W)) : PS X (.Try body (h₀ :: hds) [] [] pos) (fun D σ H => tb (W D) D σ H) := by
  refine ⟨fun pins s σ H D I h => ?_⟩
  have ok := I.ok
  have hfr : X.A.frames = some (X.env :: X.outer) := by rw [ok.frames, hs]
  refine wpAny_Try_except (wpAny_mono ((hb (W D) (X.pn ++ pins) _ (fun u s' xx => ?_) PassesOwn.looking).run [] s σ H D (I.toTry _) h) (fun f s1 hsp => ?_) fun _ _ he => he)
  · obtain ⟨a, B, sI, pins', σ', H', cls, d, rfl, J, nb, up, sky, na, os, ag, w⟩ := xx
    have J := J.ofTry ok
    have sky : Sky B (X.env :: X.outer) a (Zc cls d) X.env.locals s'.heap := by rw [← hs]; exact sky
    exact Sky.land Zc.steady hfr hf sky fun h3 fl3 up3 => caught hs hf hN tk C ⟨⟨B, sI, fl3, J, nb, up.trans up3, os, ag⟩, na⟩ w
  · cases f with
    | ret u =>
      obtain ⟨v, σ', H', J, r, q⟩ := hsp
      exact ⟨v, σ', H', J.ofTry ok, r, q⟩
    | next =>
      obtain ⟨σ', H', J, q⟩ := hsp
      exact wpAny_execs_nil ⟨σ', H', J.ofTry ok, q⟩
    | brk =>
      obtain ⟨σ', H', J, q⟩ := hsp
      exact ⟨σ', H', J.ofTry ok, q⟩
    | cont =>
      obtain ⟨σ', H', J, q⟩ := hsp
      exact ⟨σ', H', J.ofTry ok, q⟩
end
end CS
set_option Elab.async false
set_option maxRecDepth 100000
set_option maxHeartbeats 4000000
set_option linter.unusedVariables false
/-! Calls while no repr is under way; repr of data of any depth. -/
namespace CS
open PySem PySem.Spec PyProof.Rows L2
/-- a call stands ready, and no repr is under way around it -/
structure Quiet (P : Program) (w : World) (K : PySem.W.Frag) (mg : Str → Option Value) (base : Heap) (k : Nat) (fd : FuncData) (ps : List Str) (A : Around) (outer : List Env) (s : Shared) (H : Hp) (args : Args) (us : List Value) (vs : List V) : Prop where
  still : A.guards = some []
  room : Room k A
  env : Env0 P w K mg base A outer s H
  bound : BindsTo s fd args (ps.zip us)
  vals : Vals vs us
/-- a def's promise for calls while no repr is under way -/
structure FnG (P : Program) (w : World) (K : PySem.W.Frag) (mg : Str → Option Value) (base : Heap) (CX : CXT) (k : Nat) (f : Addr) (fd : FuncData) (ps : List Str) (sp : Sp) : Prop where
  many : ∀ vs H Q E, sp vs H Q E → vs.length = ps.length
  go : ∀ {A outer s H args us vs Q E}, Quiet P w K mg base k fd ps A outer s H args us vs → sp vs H Q E → codeAny (model P w) A (.call (.ref f) args) (CR CX outer P w H s Q E) s
section
variable {P : Program} {w : World} {K : PySem.W.Frag} {mg : Str → Option Value} {base : Heap} {CX : CXT} {k : Nat} {f : Addr} {fd : FuncData} {ps N : List Str} {sp : Sp} {x qual : Str} {st : Stmt}
theorem FnG.of_any (F : FnOk P w K mg base CX k f fd ps sp) : FnG P w K mg base CX k f fd ps sp := ⟨F.len, fun q h => F.run _ _ _ _ _ _ _ _ _ q.room q.env q.bound q.vals h⟩
/-- how a body's end is the call's end -/
theorem end_of_body {scope : Scope} {cdv : Value} {A : Around} {outer : List Env} {s s' : Shared} {H : Hp} {Q : VK} {E : XK} {fl : Flow} (h : SP (cxOf CX P w K mg base N qual scope f cdv A outer s H E) [] { nx := fun _ H' => Q .non H', rt := Q } fl s') :
    ∃ u v, (fl = .ret u ∨ (fl = .next ∧ u = Value.none)) ∧ RelV v u ∧ CE outer P w H s Q u s' := by
  cases fl with
  | ret u =>
    obtain ⟨v, _, H', J, rv, q⟩ := h
    exact ⟨u, v, .inl rfl, rv, v, H', J.os, J.bare, J.base, J.hok, rv, q⟩
  | next =>
    obtain ⟨_, H', J, q⟩ := h
    exact ⟨.none, .non, .inr ⟨rfl, rfl⟩, rfl, .non, H', J.os, J.bare, J.base, J.hok, rfl, q⟩
  | brk => exact absurd h (fun ⟨_, _, _, z⟩ => z)
  | cont => exact absurd h (fun ⟨_, _, _, z⟩ => z)
/-- a def keeps its promise, if its body does, no repr being under way -/
theorem FnG.of_body (F : Fun K x qual st f fd) (S : FnScope N ps (defScope st)) (many : ∀ vs H Q E, sp vs H Q E → vs.length = ps.length)
    (body : ∀ cdv A outer s H vs Q E, A.guards = some [] → Room k (A.deeper (envOfC qual (defScope st) s.heap.objs.size f cdv)) → sp vs H Q E → ∃ t, PSs (cxOf CX P w K mg base N qual (defScope st) f cdv A outer s H E) (defBody st) t ∧ t { nx := fun _ H' => Q .non H', rt := Q } (start N vs) H) :
    FnG P w K mg base CX (k + 1) f fd ps sp := by
  obtain ⟨oc, od, kV, doc, pm, an, cdv, ct, osl, efd, at_, code⟩ := F.ex
  subst efd
  constructor
  · exact many
  intro A outer s H args us vs Q E q h
  have kept := q.env.bs
  have inn : K.In s.heap := q.env.mod.kin.keeps fun b o e => (kept b o e).1
  have nolim : s.heap.NoLimit := q.env.mod.nolimit.keeps fun b o e => (kept b o e).1
  have pars : ∀ y ∈ ps.zip us, (defScope st).names.lookup y.1 = some .local ∨ ((defScope st).names.lookup y.1 = some .cell ∧ ((cellsFrom (s.heap.objs.size + 1) (defScope st).names []).lookup y.1).isSome = true) := by
    rintro ⟨n, v⟩ hy
    exact (S.par n (List.of_mem_zip hy).1).imp id fun c => ⟨c, PySem.W.cellsFrom_some _ _ _ (.inl c)⟩
  refine codeAny_call_function q.room.depth (inn _ _ at_) rfl S.co S.gen rfl (PySem.W.codeRec_of inn code) (q.bound _ _ _ _ (wpAny_newFunctionEnv_cells S.kind pars ?_))
  rintro env rfl s1 laid
  refine ⟨nolim.keeps laid.toInCall.keep, codeAny_func ?_⟩
  obtain ⟨t, run, now⟩ := body cdv A outer s H vs Q E q.still (q.room.deeper _) h
  have I := inv_start (CX := CX) (E := E) S q.room.hd q.env (many _ _ _ _ h) q.vals laid
  refine wpAny_mono (run.run [] s1 _ H _ I now) (fun fl s' e => ?_) fun _ _ e => e
  obtain ⟨u, v, e1, _, e2⟩ := end_of_body e
  rcases e1 with rfl | ⟨rfl, rfl⟩
  · exact e2
  · exact e2
end
section
variable {X : Cx} {CX : CXT} {k : Nat} {f : Addr} {fd : FuncData} {ps : List Str} {sp : Sp} {dvs : List V} {ds : List Value} {E : XK} {x : Str} {p pos : PySem.Pos} {e : Expr} {es : List Expr} {t : TA}
/-- f(e, ..) where no repr is under way -/
theorem pe_callG (F : FnG X.prog X.w X.K X.mg X.base CX k f fd ps sp) (hq : X.A.guards = some []) (hr : Room k X.A) (hg : Gl X x) (hm : X.mg x = some (.ref f)) (hk : PySem.W.keepIn X.K (.ref f) = true) (hb : Binds X.K fd ps []) (hx : Passes CX X E) (ha : PA X (e :: es) t)
    (he : starEach (e :: es) X.env = (false, eval e X.env) :: starEach es X.env := by rfl) (hpl : (backTo pos (starEach es X.env)).any (·.1) = false := by rfl) (hdb : (x == ("__debug__" : Str)) = false := by decide) : PE X (.Call (.Name x p) (e :: es) [] pos) (tCall sp [] E t) := by
  constructor
  intro pins s σ H Q I h
  refine wpAny_Call_Name_kw (ld_glob I hg hm (PySem.W.callWith_K (h₀ := X.base) I.ok.mod.kin hk (thn (ha.run pos pins s σ H _ I h) fun us s1 ⟨vs, H1, J, rv, now⟩ => ⟨J.kIn, ?_⟩) he hpl) hdb)
  have now2 : sp vs H1 Q E := by
    have z : sp (vs ++ []) H1 Q E := now
    rw [List.append_nil] at z
    exact z
  have b2 : BindsTo s1 fd ⟨us, []⟩ (ps.zip us) := by
    have z := hb s1 us J.kIn (by rw [List.append_nil, ← rv.length]; exact F.many _ _ _ _ now2)
    rw [List.append_nil] at z
    exact z
  show wpAny _ _ (call (.ref f) us) _ _ _
  refine wpAny_call (codeAny_mono (F.go ⟨hq, hr, J.env0, b2, rv⟩ now2) fun r s' z => ?_)
  match r, z with
  | .error er, z => exact hx pins σ H1 s1 er s' J z
  | .ok (.ret u), z => exact J.after z
  | .ok .next, z => exact z.elim
  | .ok .brk, z => exact z.elim
  | .ok .cont, z => exact z.elim
/-- repr of data -/
def rShow (K : PySem.W.Frag) : List V → Hp → VK → Prop := fun xs H Q => ∃ v d, xs = [v] ∧ Dp K H v d ∧ d.showable = true ∧ d.hasDict = false ∧ d.depth ≤ 60 ∧ d.shown.length + 64 ≤ sizeLine ∧ Q (.str d.shown) H
theorem call_show (hq : X.A.guards = some []) (hu : X.A.units + 64 < cLine) : CallR X (.builtin "repr") (rShow X.K) := by
  intro pins s σ H xs us Q I r ⟨v, d, ex, hd, h1, h2, h3, h4, q⟩
  subst ex
  obtain ⟨u, rfl, rv⟩ := vals1 r
  obtain ⟨as, rd⟩ := Dp.reads I d v u hd rv
  have sz : d.shown.length ≤ sizeLine := by omega
  cases rd with
  | none =>
    refine PySem.P.repr_of_none ⟨.str _, H, I.tok _, ⟨_, rfl⟩, ?_⟩
    rw [PyData.shown_none] at q
    exact q
  | bool b =>
    refine PySem.P.repr_of_bool ⟨.str _, H, I.tok _, ⟨_, rfl⟩, ?_⟩
    rw [PyData.shown_bool] at q
    exact q
  | int i t =>
    refine PySem.P.repr_of_int (of_decide_eq_true h1) ⟨.str _, H, I.tok _, ⟨_, rfl⟩, ?_⟩
    rw [PyData.shown_int] at q
    exact q
  | str x t =>
    rw [PyData.shown_str] at q sz
    exact PySem.P.repr_of_str ⟨.str _, H, I.tok _, ⟨_, rfl⟩, q⟩ sz
  | list g1 g2 g3 g4 => exact repr_of_reads' (.list g1 g2 g3 g4) h1 (PyData.noDict_hsm h2) hq (by omega) (fun _ _ e => e) (fun h' t tk kp => ⟨.str _, H, I.kept (t' := tk) kp, ⟨_, rfl⟩, q⟩) sz
  | tuple g1 g2 g3 g4 => exact repr_of_reads' (.tuple g1 g2 g3 g4) h1 (PyData.noDict_hsm h2) hq (by omega) (fun _ _ e => e) (fun h' t tk kp => ⟨.str _, H, I.kept (t' := tk) kp, ⟨_, rfl⟩, q⟩) sz
  | dict g1 g2 g3 g4 g5 => cases hd
end
/-! the end: a law whose def is called while no repr is under way -/
theorem still_caller : callerA.guards = some [] := rfl
/-- what is tracked ahead of the law's call: its script alone -/
def scriptH (K : PySem.W.Frag) (a : Addr) (vs : List Value) (ns : List Int) : Hp := fun b => if b = a ∧ K.lookup a = none then some (.frz { cls := .type "list", data := .seq vs.toArray } (.lst (ns.map V.int))) else none
section
variable {P : Program} {w : World} {K : PySem.W.Frag} {mg mb : Str → Option Value} {k : Nat} {fa a : Addr} {fd : FuncData} {x : Str} {sp : Sp} {s₁ : Shared} {vs : List Value} {ns : List Int}
theorem scriptH_of {b : Addr} {u : HO} (e : scriptH K a vs ns b = some u) : b = a ∧ K.lookup a = none ∧ u = .frz { cls := .type "list", data := .seq vs.toArray } (.lst (ns.map V.int)) := by
  unfold scriptH at e
  split at e
  · next z => exact ⟨z.1, z.2, (Option.some.inj e).symm⟩
  · cases e
theorem scriptH_ok (ha : s₁.heap.get? a = some { cls := .type "list", data := .seq vs.toArray }) (hi : IntsAre vs ns) (hl : ns.length ≤ sizeLine) : HOk P w (scriptH K a vs ns) s₁.heap := by
  intro b u e
  obtain ⟨rfl, _, rfl⟩ := scriptH_of e
  exact ⟨ha, by rw [List.length_map]; exact hl, vs, _, vals_ints hi, ha⟩
theorem scriptH_sq (KX : K.In s₁.heap) (ha : s₁.heap.get? a = some { cls := .type "list", data := .seq vs.toArray }) (hi : IntsAre vs ns) (hl : ns.length ≤ sizeLine) : SqL K (scriptH K a vs ns) a (ns.map V.int) := by
  cases e : K.lookup a with
  | none => exact .inl (.inr ⟨_, if_pos ⟨rfl, e⟩⟩)
  | some o =>
    have g := KX a o e
    rw [ha] at g
    cases g
    have l := hi.length
    exact .inr ⟨_, vs.toArray, _, e, rfl, rfl, rfl, by rw [List.size_toArray]; omega, by simpa using vals_ints hi⟩
/-- the law's call ends with True, and what stood stands -/
theorem law_still (KX : K.In s₁.heap) (hns : s₁.heap.Ns mainGlobals mg) (hb : s₁.heap.Ns builtinsNs mb) (hbb : ∀ x : Str, x ≠ "__name__" → mb x = bootBuiltins x) (hlim : s₁.heap.NoLimit) (hg : s₁.gens = #[])
    (ha : s₁.heap.get? a = some { cls := .type "list", data := .seq vs.toArray }) (hi : IntsAre vs ns) (hl : ns.length ≤ sizeLine) (hr : Room k callerA)
    (F : ∀ base : Heap, K.In base → base.Ns mainGlobals mg → FnG P w K mg base CX0 k fa fd [x] sp) (bind : ∀ (s : Shared) (u : Value), BindsTo s fd ⟨[u], []⟩ [(x, u)])
    (hsp : ∀ H : Hp, SqL K H a (ns.map V.int) → sp [.ref a] H (fun v _ => v = .bl true) E0) :
    codeAny (model P w) callerA (.call (.ref fa) ⟨[.ref a], []⟩) (fun r s' => r = .ok (.ret (.bool true)) ∧ OldK s₁.heap s'.heap ∧ s'.os = s₁.os ∧ AllBare s'.gens) s₁ := by
  obtain ⟨H, eH⟩ : ∃ H, H = scriptH K a vs ns := ⟨_, rfl⟩
  have ok : HOk P w H s₁.heap := by rw [eH]; exact scriptH_ok ha hi hl
  have sq : SqL K H a (ns.map V.int) := by rw [eH]; exact scriptH_sq KX ha hi hl
  have only : ∀ {b u}, H b = some u → b = a ∧ K.lookup a = none ∧ u = .frz { cls := .type "list", data := .seq vs.toArray } (.lst (ns.map V.int)) := fun e => scriptH_of (by rw [← eH]; exact e)
  -- whatever is not the script's object is in the part that the call may not change
  have stays : ∀ {b : Addr} {ob : Obj}, s₁.heap.get? b = some ob → (b = a → K.lookup a ≠ none) → (hidT s₁.heap H).get? b = some ob := fun {b ob} e n => hidT_get e (by
    cases q : H b with
    | none => rfl
    | some u =>
      obtain ⟨e1, e2, _⟩ := only q
      exact absurd e2 (n e1))
  have names : ∀ {b : Addr} {m : Str → Option Value}, s₁.heap.Ns b m → (hidT s₁.heap H).Ns b m := by
    rintro b m ⟨ob, es, ep, e, ed, r⟩
    refine ⟨ob, es, ep, stays e (fun z => ?_), ed, r⟩
    subst z
    rw [ha] at e
    cases e
    cases ed
  have inn : K.In (hidT s₁.heap H) := fun b ob e => stays (KX b ob e) (fun z => by rw [← z, e]; exact fun y => nomatch y)
  obtain ⟨mc, l1, l2⟩ := hlim
  have env : Env0 P w K mg (hidT s₁.heap H) callerA [] s₁ H := by
    refine ⟨rfl, ⟨inn, names hns, ⟨mb, names hb, hbb⟩, ⟨mc, names l1, l2⟩⟩, fun b ob e => of_hidT e, Nat.le_of_eq (hidT_size _ _), trivial, fun b hb => ?_, ok, .of_eq hg⟩
    exact (List.not_mem_nil hb).elim
  have ready : Quiet P w K mg (hidT s₁.heap H) k fd [x] callerA [] s₁ H ⟨[.ref a], []⟩ [.ref a] [.ref a] := ⟨still_caller, hr, env, bind s₁ (.ref a), .cons rfl .nil⟩
  refine codeAny_mono ((F _ inn (names hns)).go ready (hsp H sq)) fun r s' z => ?_
  match r, z with
  | .error _, z => exact z.elim
  | .ok .next, z => exact z.elim
  | .ok .brk, z => exact z.elim
  | .ok .cont, z => exact z.elim
  | .ok (.ret u), ⟨v, H', os, bare, un, ok', rv, ev⟩ =>
    subst ev
    cases rv
    refine ⟨rfl, OldK.of_keep fun b ob e => ?_, os, bare⟩
    cases q : H b with
    | none => exact un.keep b ob e q (fun z => (List.not_mem_nil z).elim) (by simp)
    | some u =>
      obtain ⟨rfl, _, rfl⟩ := only q
      rw [ha] at e
      cases e
      exact (ok' _ _ (un.frzs _ _ _ q)).1
end
end CS
set_option maxHeartbeats 1000000
set_option linter.unusedVariables false
namespace CS
abbrev Fx := Int × Int
def lk (f : List (Int × Fx)) (k : Int) : Fx := (f.lookup k).getD (0, 1)
def ups : List (Int × Fx) → Int → Fx → List (Int × Fx)
  | [], k, x => [(k, x)]
  | (j, y) :: f, k, x => if j = k then (j, x) :: f else (j, y) :: ups f k x
def gat (f : List (Int × Fx)) (xs : List (Int × Fx)) : List (Int × Fx) := xs.foldl (fun f kx => ups f kx.1 (fadd (lk f kx.1) kx.2)) f
theorem lk_cons (j : Int) (y : Fx) (f : List (Int × Fx)) (k : Int) : lk ((j, y) :: f) k = if k = j then y else lk f k := by
  unfold lk
  rw [List.lookup_cons]
  by_cases h : k = j
  · subst h
    simp
  · have : (k == j) = false := by simpa using h
    simp [this, h]
theorem lk_ups : ∀ (f : List (Int × Fx)) (k : Int) (x : Fx) (j : Int), lk (ups f k x) j = if j = k then x else lk f j
  | [], k, x, j => by
    show lk [(k, x)] j = _
    rw [lk_cons]
  | (i, y) :: f, k, x, j => by
    show lk (if i = k then (i, x) :: f else (i, y) :: ups f k x) j = _
    by_cases h : i = k
    · subst h
      rw [if_pos rfl, lk_cons, lk_cons]
      by_cases q : j = i <;> simp [q]
    · rw [if_neg h, lk_cons, lk_cons, lk_ups f k x j]
      by_cases q : j = i
      · subst q
        simp [h]
      · simp [q]
theorem ups_keys (f : List (Int × Fx)) (k : Int) (x : Fx) : ∀ j, j ∈ (ups f k x).map (·.1) ↔ j = k ∨ j ∈ f.map (·.1) := by
  induction f with
  | nil =>
    intro j
    simp [ups]
  | cons a f ih =>
    obtain ⟨i, y⟩ := a
    intro j
    by_cases h : i = k
    · subst h
      simp [ups]
    · have := ih j
      simp [ups, h] at *
      grind
theorem ups_nodup (f : List (Int × Fx)) (k : Int) (x : Fx) (h : (f.map (·.1)).Nodup) : ((ups f k x).map (·.1)).Nodup := by
  induction f with
  | nil => simp [ups]
  | cons a f ih =>
    obtain ⟨i, y⟩ := a
    by_cases q : i = k
    · subst q
      simpa [ups] using h
    · rw [List.map_cons, List.nodup_cons] at h
      have e : ups ((i, y) :: f) k x = (i, y) :: ups f k x := by simp [ups, q]
      rw [e, List.map_cons, List.nodup_cons]
      refine ⟨fun m => ?_, ih h.2⟩
      rcases (ups_keys f k x i).mp m with z | z
      · exact q z
      · exact h.1 z
theorem ups_len (f : List (Int × Fx)) (k : Int) (x : Fx) : (ups f k x).length ≤ f.length + 1 := by
  induction f with
  | nil => simp [ups]
  | cons a f ih =>
    obtain ⟨i, y⟩ := a
    by_cases q : i = k
    · simp [ups, q]
    · simp [ups, q]; omega
/-- the strictly ascending list of what is not nought in a table -/
def IsS (f r : List (Int × Fx)) : Prop := (r.map (·.1)).Pairwise (· < ·) ∧ ∀ k x, (k, x) ∈ r ↔ (lk f k = x ∧ x ≠ (0, 1))
theorem asc_same : ∀ {r q : List (Int × Fx)}, (r.map (·.1)).Pairwise (· < ·) → (q.map (·.1)).Pairwise (· < ·) → (∀ a, a ∈ r ↔ a ∈ q) → r = q
  | [], [], _, _, _ => rfl
  | [], b :: q, _, _, h => absurd ((h b).mpr List.mem_cons_self) (by simp)
  | a :: r, [], _, _, h => absurd ((h a).mp List.mem_cons_self) (by simp)
  | a :: r, b :: q, h1, h2, h => by
    rw [List.map_cons, List.pairwise_cons] at h1 h2
    have low1 : ∀ c ∈ r, a.1 < c.1 := fun c hc => h1.1 _ (List.mem_map.mpr ⟨c, hc, rfl⟩)
    have low2 : ∀ c ∈ q, b.1 < c.1 := fun c hc => h2.1 _ (List.mem_map.mpr ⟨c, hc, rfl⟩)
    have e : a = b := by
      rcases List.mem_cons.mp ((h a).mp List.mem_cons_self) with z | z
      · exact z
      · rcases List.mem_cons.mp ((h b).mpr List.mem_cons_self) with y | y
        · exact y.symm
        · have := low1 b y
          have := low2 a z
          omega
    subst e
    have : r = q := asc_same h1.2 h2.2 fun c => by
      constructor
      · intro hc
        rcases List.mem_cons.mp ((h c).mp (List.mem_cons_of_mem _ hc)) with z | z
        · subst z
          have := low1 c hc
          omega
        · exact z
      · intro hc
        rcases List.mem_cons.mp ((h c).mpr (List.mem_cons_of_mem _ hc)) with z | z
        · subst z
          have := low2 c hc
          omega
        · exact z
    rw [this]
theorem IsS.uniq {f g r q : List (Int × Fx)} (h1 : IsS f r) (h2 : IsS g q) (h : ∀ k, lk f k = lk g k) : r = q := by
  refine asc_same h1.1 h2.1 fun ⟨k, x⟩ => ?_
  rw [h1.2 k x, h2.2 k x, h k]
theorem lk_mem {f : List (Int × Fx)} {k : Int} (h : lk f k ≠ (0, 1)) : k ∈ f.map (·.1) := by
  induction f with
  | nil => exact absurd rfl h
  | cons a f ih =>
    obtain ⟨j, y⟩ := a
    rw [lk_cons] at h
    by_cases q : k = j
    · simp [q]
    · rw [if_neg q] at h
      have := ih h
      simp at *
      grind
theorem isS_of {f : List (Int × Fx)} {ys : List Int} (hp : ys.Perm (f.map (·.1))) (hn : (f.map (·.1)).Nodup) (hs : ys.Pairwise (· ≤ ·)) : IsS f ((ys.filter fun k => decide (lk f k ≠ (0, 1))).map fun k => (k, lk f k)) := by
  have hn2 : ys.Nodup := hp.nodup_iff.mpr hn
  have hlt : ys.Pairwise (· < ·) := by
    have := List.Pairwise.and hs hn2
    refine this.imp ?_
    rintro a b ⟨h1, h2⟩
    omega
  constructor
  · rw [List.map_map]
    have : ((fun x : Int × Fx => x.1) ∘ fun k => (k, lk f k)) = id := rfl
    rw [this, List.map_id]
    exact hlt.filter _
  · intro k x
    rw [List.mem_map]
    constructor
    · rintro ⟨j, hj, e⟩
      injection e with e1 e2
      subst e1
      rw [List.mem_filter] at hj
      exact ⟨e2, by rw [← e2]; exact of_decide_eq_true hj.2⟩
    · rintro ⟨e, hx⟩
      subst e
      exact ⟨k, List.mem_filter.mpr ⟨hp.mem_iff.mpr (lk_mem hx), decide_eq_true hx⟩, rfl⟩
/-- a share's parts -/
def AllF (n : Nat) (xs : List (Int × Fx)) : Prop := ∀ a ∈ xs, Fr a.2 ∧ Sz n a.2
theorem fr01 : Fr ((0, 1) : Fx) := by decide
theorem sz01 {n : Nat} (h : 0 < n) : Sz n ((0, 1) : Fx) := ⟨Nat.two_pow_pos _, Nat.one_lt_two_pow (by omega)⟩
theorem zero_fadd {x : Fx} (hx : Fr x) : fadd (0, 1) x = x := by rw [fadd_comm, fadd_zero hx]
theorem lk_fr {n : Nat} {f : List (Int × Fx)} (h : AllF n f) (h0 : 0 < n) (k : Int) : Fr (lk f k) ∧ Sz n (lk f k) := by
  induction f with
  | nil => exact ⟨fr01, sz01 h0⟩
  | cons a f ih =>
    obtain ⟨j, y⟩ := a
    rw [lk_cons]
    by_cases q : k = j
    · rw [if_pos q]
      exact h _ List.mem_cons_self
    · rw [if_neg q]
      exact ih fun b hb => h b (List.mem_cons_of_mem _ hb)
theorem lk_gat : ∀ (xs f : List (Int × Fx)) (j : Int), lk (gat f xs) j = xs.foldl (fun a kx => if j = kx.1 then fadd a kx.2 else a) (lk f j)
  | [], f, j => rfl
  | (k, x) :: xs, f, j => by
    show lk (gat (ups f k (fadd (lk f k) x)) xs) j = xs.foldl _ _
    rw [lk_gat xs, lk_ups]
    by_cases h : j = k
    · subst h
      simp
    · simp [h]
theorem gat_nodup : ∀ (xs f : List (Int × Fx)), (f.map (·.1)).Nodup → ((gat f xs).map (·.1)).Nodup
  | [], _, h => h
  | (k, x) :: xs, f, h => gat_nodup xs _ (ups_nodup f k _ h)
theorem gat_len : ∀ (xs f : List (Int × Fx)), (gat f xs).length ≤ f.length + xs.length
  | [], _ => Nat.le_refl _
  | (k, x) :: xs, f => by
    have h1 := gat_len xs (ups f k (fadd (lk f k) x))
    have h2 := ups_len f k (fadd (lk f k) x)
    show (gat (ups f k (fadd (lk f k) x)) xs).length ≤ _
    rw [List.length_cons]
    omega
theorem fold_none : ∀ (xs : List (Int × Fx)) (j : Int) (a : Fx), j ∉ xs.map (·.1) → xs.foldl (fun a kx => if j = kx.1 then fadd a kx.2 else a) a = a
  | [], _, _, _ => rfl
  | (k, x) :: xs, j, a, h => by
    simp only [List.map_cons, List.mem_cons, not_or] at h
    show xs.foldl _ (if j = k then fadd a x else a) = a
    rw [if_neg h.1]
    exact fold_none xs j a h.2
theorem lk_none {xs : List (Int × Fx)} {j : Int} (h : j ∉ xs.map (·.1)) : lk xs j = (0, 1) := by
  by_cases q : lk xs j = (0, 1)
  · exact q
  · exact absurd (lk_mem q) h
/-- one more share gathered: each key's sum -/
theorem fold_nodup : ∀ (xs : List (Int × Fx)) (j : Int) (a : Fx), Fr a → (xs.map (·.1)).Nodup → xs.foldl (fun a kx => if j = kx.1 then fadd a kx.2 else a) a = fadd a (lk xs j)
  | [], j, a, ha, _ => (fadd_zero ha).symm
  | (k, x) :: xs, j, a, ha, hn => by
    simp only [List.map_cons, List.nodup_cons] at hn
    show xs.foldl _ (if j = k then fadd a x else a) = _
    rw [lk_cons]
    by_cases h : j = k
    · subst h
      rw [if_pos rfl, if_pos rfl]
      exact fold_none xs j _ hn.1
    · rw [if_neg h, if_neg h]
      exact fold_nodup xs j a ha hn.2
theorem lk_gat_nodup {xs f : List (Int × Fx)} {n : Nat} (hf : AllF n f) (h0 : 0 < n) (hn : (xs.map (·.1)).Nodup) (j : Int) : lk (gat f xs) j = fadd (lk f j) (lk xs j) := by
  rw [lk_gat, fold_nodup xs j _ (lk_fr hf h0 j).1 hn]
/-! sums -/
def fsum (l : List Fx) : Fx := l.foldl fadd (0, 1)
def scl (x : Fx) (k : Int) : Fx := low (x.1 * k) x.2
theorem scl_fr {x : Fx} (h : Fr x) (k : Int) : Fr (scl x k) := low_fr h.ne
theorem scl_sz {x : Fx} {n m : Nat} {k : Int} (h : Fr x) (z : Sz n x) (hk : k.natAbs < 2 ^ m) : Sz (n + m) (scl x k) :=
  low_sz h.ne (abs_mul_lt z.1 hk) (lt_up z.2 (by omega))
theorem scl_mul (x : Fx) (k : Int) : fmul x (k, 1) = scl x k := by
  unfold fmul scl
  simp only [Int.mul_one]
theorem fold_fr : ∀ (l : List Fx) (a : Fx), Fr a → (∀ x ∈ l, Fr x) → Fr (l.foldl fadd a)
  | [], _, h, _ => h
  | x :: l, a, h, g => fold_fr l _ (fadd_fr h (g x List.mem_cons_self)) fun y hy => g y (List.mem_cons_of_mem _ hy)
theorem fold_sz (n : Nat) : ∀ (l : List Fx) (a : Fx) (m : Nat), Fr a → Sz m a → (∀ x ∈ l, Fr x ∧ Sz n x) → Sz (m + l.length * (n + 1)) (l.foldl fadd a)
  | [], a, m, _, z, _ => z.up (by simp)
  | x :: l, a, m, h, z, g => by
    have hx := g x List.mem_cons_self
    have := fold_sz n l (fadd a x) (m + n + 1) (fadd_fr h hx.1) (fadd_sz h hx.1 z hx.2) fun y hy => g y (List.mem_cons_of_mem _ hy)
    refine this.up ?_
    rw [List.length_cons, Nat.succ_mul]
    omega
end CS
namespace CS
def ftot (xs : List (Int × Fx)) : Fx := fsum (xs.map (·.2))
def fmom (xs : List (Int × Fx)) : Fx := fsum (xs.map fun a => scl a.2 a.1)
def frest (xs : List (Int × Fx)) (k : Int) : Fx := fsum ((xs.filter fun a => decide (k < a.1)).map fun a => scl a.2 (a.1 - k))
end CS
namespace CS
theorem cfold_fr (j : Int) : ∀ (xs : List (Int × Fx)) (a : Fx), Fr a → (∀ x ∈ xs, Fr x.2) → Fr (xs.foldl (fun a kx => if j = kx.1 then fadd a kx.2 else a) a)
  | [], a, h, _ => h
  | x :: l, a, h, g => by
    refine cfold_fr j l _ ?_ fun y hy => g y (List.mem_cons_of_mem _ hy)
    show Fr (if j = x.1 then fadd a x.2 else a)
    split
    · exact fadd_fr h (g x List.mem_cons_self)
    · exact h
theorem cfold_sz (n : Nat) (j : Int) : ∀ (xs : List (Int × Fx)) (a : Fx) (m : Nat), Fr a → Sz m a → (∀ x ∈ xs, Fr x.2 ∧ Sz n x.2) → Sz (m + xs.length * (n + 1)) (xs.foldl (fun a kx => if j = kx.1 then fadd a kx.2 else a) a)
  | [], a, m, _, z, _ => z.up (by simp)
  | x :: l, a, m, h, z, g => by
    have hx := g x List.mem_cons_self
    have h2 : Fr (if j = x.1 then fadd a x.2 else a) ∧ Sz (m + n + 1) (if j = x.1 then fadd a x.2 else a) := by
      split
      · exact ⟨fadd_fr h hx.1, fadd_sz h hx.1 z hx.2⟩
      · exact ⟨h, z.up (by omega)⟩
    have := cfold_sz n j l _ (m + n + 1) h2.1 h2.2 fun y hy => g y (List.mem_cons_of_mem _ hy)
    refine this.up ?_
    rw [List.length_cons, Nat.succ_mul]
    omega
theorem gat_fr {n : Nat} {xs : List (Int × Fx)} (h : AllF n xs) (j : Int) : Fr (lk (gat [] xs) j) := by
  rw [lk_gat]
  exact cfold_fr j xs _ fr01 fun x hx => (h x hx).1
theorem gat_sz {n : Nat} {xs : List (Int × Fx)} (h : AllF n xs) (j : Int) : Sz (1 + xs.length * (n + 1)) (lk (gat [] xs) j) := by
  rw [lk_gat]
  exact cfold_sz n j xs _ 1 fr01 (sz01 (by decide)) h
theorem gat_snoc (xs : List (Int × Fx)) (f : List (Int × Fx)) (a : Int × Fx) : gat f (xs ++ [a]) = ups (gat f xs) a.1 (fadd (lk (gat f xs) a.1) a.2) := by
  unfold gat
  rw [List.foldl_append]
  rfl
theorem AllF.take {n i : Nat} {xs : List (Int × Fx)} (h : AllF n xs) : AllF n (xs.take i) := fun a ha => h a (List.mem_of_mem_take ha)
/-- what a share is -/
def Shr (xs : List (Int × Fx)) : Prop := xs.length ≤ 8 ∧ (∀ a ∈ xs, -100 ≤ a.1 ∧ a.1 ≤ 100 ∧ Fr a.2 ∧ 0 < a.2.1) ∧ (xs.map (·.1)).Pairwise (· < ·)
instance (xs : List (Int × Fx)) : Decidable (Shr xs) := by unfold Shr; infer_instance
theorem asc_zip : ∀ (ns : List Int), (List.zipWith (fun a b => decide (a < b)) ns (ns.drop 1)).all id = decide (ns.Pairwise (· < ·))
  | [] => by simp
  | [a] => by simp
  | a :: b :: ns => by
    have ih := asc_zip (b :: ns)
    simp only [List.drop_succ_cons, List.drop_zero] at *
    rw [List.zipWith_cons_cons, List.all_cons, ih, Bool.eq_iff_iff]
    simp only [id, Bool.and_eq_true, decide_eq_true_eq, List.pairwise_cons]
    constructor
    · rintro ⟨h1, h2, h3⟩
      refine ⟨?_, h2, h3⟩
      intro c hc
      rcases List.mem_cons.mp hc with q | q
      · omega
      · have := h2 c q
        omega
    · rintro ⟨h1, h2⟩
      exact ⟨h1 b List.mem_cons_self, h2⟩
end CS
set_option Elab.async false
set_option maxRecDepth 100000
set_option maxHeartbeats 4000000
set_option linter.unusedVariables false
namespace CS
open PySem L2
/-- a def of the text, how its arguments bind, where its name leads -/
structure Df (K : PySem.W.Frag) (mg : Str → Option Value) (x : Str) (st : Stmt) (ps : List Str) (f : Addr) (fd : FuncData) : Prop where
  F : Fun K x x st f fd
  b : Binds K fd ps []
  g : mg x = some (.ref f)
/-- what the walk asks of the module's names -/
structure Bt (mg : Str → Option Value) : Prop where
  isinstance : mg "isinstance" = none
  int : mg "int" = none
  tuple : mg "tuple" = none
  len : mg "len" = none
  abs : mg "abs" = none
  range : mg "range" = none
  list : mg "list" = none
  sorted : mg "sorted" = none
  zip : mg "zip" = none
  all : mg "all" = none
  dict : mg "dict" = none
end CS
namespace L2
open PySem
theorem Same.tup {K : PySem.W.Frag} {H H' : Hp} {a : Addr} {xs : List V} (e : Same H H') (h : SqT K H a xs) : SqT K H' a xs := by
  rcases h with (h | ⟨o, h⟩) | h
  · exact .inl (.inl (e _ _ h))
  · exact .inl (.inr ⟨o, e _ _ h⟩)
  · exact .inr h
theorem Same.new {H : Hp} {p : Addr} {o : HO} (h : H p = none) : Same H (upd H p o) := fun b u e => by
  rw [upd_ne (ne_of_none e h)]
  exact e
end L2
namespace CS
open PySem L2
/-! promises -/
def spLow : Sp := fun vs H Q _ => ∃ t b : Int, vs = [.int t, .int b] ∧ b ≠ 0 ∧ t.natAbs < 2 ^ 4000 ∧ b.natAbs < 2 ^ 4000 ∧
  ∀ p, H p = none → Q (.ref p) (upd H p (.tup [.int (low t b).1, .int (low t b).2]))
/-- two fractions in, a new one out -/
def spF2 (K : PySem.W.Frag) (ok : Int × Int → Int × Int → Prop) (f : Int × Int → Int × Int → Int × Int) : Sp := fun vs H Q _ => ∃ p q x y, vs = [.ref p, .ref q] ∧ FT K H p x ∧ FT K H q y ∧ Fr x ∧ Fr y ∧ Sz 1900 x ∧ Sz 1900 y ∧ ok x y ∧
  ∀ r, H r = none → Q (.ref r) (upd H r (.tup [.int (f x y).1, .int (f x y).2]))
def spB2 (K : PySem.W.Frag) (f : Int × Int → Int × Int → Bool) : Sp := fun vs H Q _ => ∃ p q x y, vs = [.ref p, .ref q] ∧ FT K H p x ∧ FT K H q y ∧ Fr x ∧ Fr y ∧ Sz 1900 x ∧ Sz 1900 y ∧ Q (.bl (f x y)) H
def spWhole (K : PySem.W.Frag) : Sp := fun vs H Q _ => ∃ i : Int, vs = [.int i] ∧ Q (.bl true) H
def spRow (K : PySem.W.Frag) : Sp := fun vs H Q _ => ∃ p xs, vs = [.ref p] ∧ SqT K H p xs ∧ Q (.bl true) H
def spRowOf (K : PySem.W.Frag) : Sp := fun vs H Q _ => ∃ p xs n, vs = [.ref p, .int n] ∧ SqT K H p xs ∧ Q (.bl (decide ((xs.length : Int) = n))) H
def spIsFr (K : PySem.W.Frag) : Sp := fun vs H Q _ => ∃ p x, vs = [.ref p] ∧ FT K H p x ∧ Q (.bl (decide (Fr x))) H
def spNeedFr (K : PySem.W.Frag) : Sp := fun vs H Q _ => ∃ p x, vs = [.ref p] ∧ FT K H p x ∧ Fr x ∧ Q (.ref p) H

end CS
namespace CS
open PySem L2
/-- the pairs of a state of draws -/
def stD (c l : Addr) (k : Int) : List (Key × V) := [(Sum.inr "cells", .ref c), (Sum.inr "lefts", .ref l), (Sum.inr "at", .int k), (Sum.inr "room", .int 0)]
theorem kn1 : ¬ (("cells" : Str) = "lefts") := by decide +kernel
theorem kn2 : ¬ (("cells" : Str) = "at") := by decide +kernel
theorem kn3 : ¬ (("cells" : Str) = "room") := by decide +kernel
theorem kn4 : ¬ (("lefts" : Str) = "at") := by decide +kernel
theorem kn5 : ¬ (("lefts" : Str) = "room") := by decide +kernel
theorem kn6 : ¬ (("at" : Str) = "room") := by decide +kernel
theorem kn7 : ¬ (("room" : Str) = "at") := by decide +kernel
theorem stD_cells (c l : Addr) (k : Int) : valV (stD c l k) (Sum.inr ("cells" : Str)) = some (.ref c) := valV_pos rfl
theorem stD_lefts (c l : Addr) (k : Int) : valV (stD c l k) (Sum.inr ("lefts" : Str)) = some (.ref l) := by
  simp [stD, valV, List.find?_cons, kn1]
theorem stD_at (c l : Addr) (k : Int) : valV (stD c l k) (Sum.inr ("at" : Str)) = some (.int k) := by
  simp [stD, valV, List.find?_cons, kn2, kn4]
theorem stD_put (c l : Addr) (k k' : Int) : putK (stD c l k) (Sum.inr ("at" : Str)) (.int k') = stD c l k' := by
  simp [stD, putK, kn2, kn4, kn7]
theorem stD_make (c l : Addr) : mergeK [] [((Sum.inr ("cells" : Str) : Key), V.ref c), (Sum.inr ("lefts" : Str), .ref l), (Sum.inr ("at" : Str), .int 0), (Sum.inr ("room" : Str), .int 0)] = stD c l 0 := by
  simp [mergeK, putK, stD, kn1, kn2, kn3, kn4, kn5, kn6]
/-- a state of draws, k of them done -/
structure StAt (H : Hp) (d c l : Addr) (k : Nat) : Prop where
  hd : H d = some (.dK (stD c l k))
  ne : c ≠ l
  ex : ∃ cs ls : List Int, H c = some (.lst (cs.map V.int)) ∧ H l = some (.lst (ls.map V.int)) ∧ cs.length = ls.length ∧ 0 < cs.length ∧ cs.length ≤ 64 ∧ ∀ v ∈ ls, 0 ≤ v
/-- what does not belong to the state is as it was -/
def Fm (d l : Addr) (H H' : Hp) : Prop := ∀ b o, H b = some o → b ≠ d → b ≠ l → H' b = some o
theorem Fm.refl (d l : Addr) (H : Hp) : Fm d l H H := fun _ _ e _ _ => e
theorem Fm.trans {d l : Addr} {H H1 H2 : Hp} (a : Fm d l H H1) (b : Fm d l H1 H2) : Fm d l H H2 := fun c o h n m => b c o (a c o h n m) n m
theorem Fm.same {d l : Addr} {H H1 H2 : Hp} (a : Fm d l H H1) (b : Same H1 H2) : Fm d l H H2 := fun c o h n m => b c o (a c o h n m)
theorem same_fm {d l : Addr} {H H1 : Hp} (a : Same H H1) : Fm d l H H1 := fun c o h _ _ => a c o h
theorem StAt.same {H H' : Hp} {d c l : Addr} {k : Nat} (S : StAt H d c l k) (e : Same H H') : StAt H' d c l k := by
  obtain ⟨hd, ne, cs, ls, h1, h2, r⟩ := S
  exact ⟨e _ _ hd, ne, cs, ls, e _ _ h1, e _ _ h2, r⟩
/-- a tuple that stood stands -/
theorem Fm.tup {K : PySem.W.Frag} {H H' : Hp} {d c l p : Addr} {k : Nat} {xs : List V} (e : Fm d l H H') (S : StAt H d c l k) (h : SqT K H p xs) : SqT K H' p xs := by
  obtain ⟨hd, ne, cs, ls, h1, h2, r⟩ := S
  rcases h with (h | ⟨o, h⟩) | h
  · exact .inl (.inl (e _ _ h (fun q => by subst q; rw [hd] at h; cases h) (fun q => by subst q; rw [h2] at h; cases h)))
  · exact .inl (.inr ⟨o, e _ _ h (fun q => by subst q; rw [hd] at h; cases h) (fun q => by subst q; rw [h2] at h; cases h)⟩)
  · exact .inr h
def spMixed : Sp := fun vs H Q _ => ∃ c k : Int, vs = [.int c, .int k] ∧ 0 ≤ k ∧ k ≤ 1000000 ∧ ∀ r : Int, 0 ≤ r → r < 2147483629 → Q (.int r) H
def spBegin (K : PySem.W.Frag) : Sp := fun vs H Q _ => ∃ (a : Addr) (ns : List Int), vs = [.ref a] ∧ SqL K H a (ns.map V.int) ∧ ns.length ≤ 63 ∧ ∀ d c l H', H d = none → Same H H' → StAt H' d c l 0 → Q (.ref d) H'
def spDraw : Sp := fun vs H Q _ => ∃ (d c l : Addr) (k : Nat) (m : Int), vs = [.ref d, .int m] ∧ StAt H d c l k ∧ 0 < m ∧ m.natAbs < 2 ^ 200 ∧ k ≤ 100000 ∧ ∀ r H', 0 ≤ r → r < m → StAt H' d c l (k + 1) → Fm d l H H' → Q (.int r) H'

end CS
namespace CS
open PySem L2
def spLowP : Sp := fun vs H Q _ => ∃ t b : Int, vs = [.int t, .int b] ∧ 0 < b ∧ t.natAbs < 2 ^ 4000 ∧ b.natAbs < 2 ^ 4000 ∧
  ∀ p, H p = none → Q (.ref p) (upd H p (.tup [.int (low t b).1, .int (low t b).2]))
def spDrawn (K : PySem.W.Frag) : Sp := fun vs H Q _ => ∃ (d c l : Addr) (k : Nat), vs = [.ref d] ∧ StAt H d c l k ∧ k ≤ 90000 ∧
  ∀ p H' x, Fr x → Sz 70 x → StAt H' d c l (k + 3) → Fm d l H H' → FT K H' p x → Q (.ref p) H'

end CS
namespace CS
open PySem L2
section
variable {K : PySem.W.Frag}
theorem eqv2 (x : Int × Int) : PyData.eqv (.tuple [.int x.1, .int x.2]) (.tuple [.int x.1, .int x.2]) = true := by
  simp [PyData.eqv, PyData.eqvAll]
theorem ne_same {H : Hp} {p q : Addr} {x y : Int × Int} {Q : VK} (hp : FT K H p x) (hq : FT K H q y) (e : x = y) (h : Q (.bl false) H) : rNeD K (.ref p) (.ref q) H Q := by
  subst e
  refine ⟨.tuple [.int x.1, .int x.2], .tuple [.int x.1, .int x.2], .tup hp (.cons (.int _) (.cons (.int _) .nil)), .tup hq (.cons (.int _) (.cons (.int _) .nil)), rfl, rfl, ?_⟩
  rw [eqv2]
  exact h
theorem eq_same {H : Hp} {p q : Addr} {x y : Int × Int} {Q : VK} (hp : FT K H p x) (hq : FT K H q y) (e : x = y) (h : Q (.bl true) H) : rEqD K (.ref p) (.ref q) H Q := by
  subst e
  refine ⟨.tuple [.int x.1, .int x.2], .tuple [.int x.1, .int x.2], .tup hp (.cons (.int _) (.cons (.int _) .nil)), .tup hq (.cons (.int _) (.cons (.int _) .nil)), rfl, rfl, ?_⟩
  rw [eqv2]
  exact h
theorem FT.new {H : Hp} {r : Addr} {x : Int × Int} : FT K (upd H r (.tup [.int x.1, .int x.2])) r x := SqT.of upd_same
theorem abs_if (z : Int) : (if z < 0 then -z else z) = ((z.natAbs : Nat) : Int) := by split <;> omega
end
/-! shares in the heap -/
/-- refs to pairs of a number and a fraction -/
inductive PrsAt (K : PySem.W.Frag) (H : Hp) : List V → List (Int × Fx) → Prop where
  | nil : PrsAt K H [] []
  | cons {q r : Addr} {m : Int} {x : Fx} {vs : List V} {xs : List (Int × Fx)} (h1 : SqT K H q [.int m, .ref r]) (h2 : FT K H r x) (h3 : PrsAt K H vs xs) : PrsAt K H (.ref q :: vs) ((m, x) :: xs)
def ShAt (K : PySem.W.Frag) (H : Hp) (p : Addr) (xs : List (Int × Fx)) : Prop := ∃ vs, SqT K H p vs ∧ PrsAt K H vs xs
/-- refs to fractions -/
inductive FsAt (K : PySem.W.Frag) (H : Hp) : List V → List Fx → Prop where
  | nil : FsAt K H [] []
  | cons {r : Addr} {x : Fx} {vs : List V} {xs : List Fx} (h2 : FT K H r x) (h3 : FsAt K H vs xs) : FsAt K H (.ref r :: vs) (x :: xs)
section
variable {K : PySem.W.Frag} {H H' : Hp}
/-- what keeps tuples -/
def TK (K : PySem.W.Frag) (H H' : Hp) : Prop := ∀ (p : Addr) (xs : List V), SqT K H p xs → SqT K H' p xs
theorem tk_same (e : Same H H') : TK K H H' := fun _ _ h => e.tup h
theorem tk_fm {d c l : Addr} {k : Nat} (e : Fm d l H H') (S : StAt H d c l k) : TK K H H' := fun _ _ h => e.tup S h
theorem TK.trans {H1 : Hp} (a : TK K H H1) (b : TK K H1 H') : TK K H H' := fun p xs h => b p xs (a p xs h)
theorem PrsAt.tk (e : TK K H H') : ∀ {vs : List V} {xs : List (Int × Fx)}, PrsAt K H vs xs → PrsAt K H' vs xs
  | _, _, .nil => .nil
  | _, _, .cons a b c => .cons (e _ _ a) (e _ _ b) (PrsAt.tk e c)
theorem ShAt.tk {p : Addr} {xs : List (Int × Fx)} (e : TK K H H') (h : ShAt K H p xs) : ShAt K H' p xs := by
  obtain ⟨vs, a, b⟩ := h
  exact ⟨vs, e _ _ a, b.tk e⟩
theorem FsAt.tk (e : TK K H H') : ∀ {vs : List V} {xs : List Fx}, FsAt K H vs xs → FsAt K H' vs xs
  | _, _, .nil => .nil
  | _, _, .cons a b => .cons (e _ _ a) (FsAt.tk e b)
theorem PrsAt.len : ∀ {vs : List V} {xs : List (Int × Fx)}, PrsAt K H vs xs → vs.length = xs.length
  | _, _, .nil => rfl
  | _, _, .cons _ _ c => by simp [c.len]
theorem FsAt.len : ∀ {vs : List V} {xs : List Fx}, FsAt K H vs xs → vs.length = xs.length
  | _, _, .nil => rfl
  | _, _, .cons _ c => by simp [c.len]
theorem PrsAt.get : ∀ {vs : List V} {xs : List (Int × Fx)} {i : Nat} {v : V}, PrsAt K H vs xs → vs[i]? = some v → ∃ q r m x, v = .ref q ∧ xs[i]? = some (m, x) ∧ SqT K H q [.int m, .ref r] ∧ FT K H r x
  | _, _, 0, _, .cons a b c, e => by
    cases e
    exact ⟨_, _, _, _, rfl, rfl, a, b⟩
  | _, _, i + 1, _, .cons a b c, e => by
    obtain ⟨q, r, m, x, h1, h2, h3, h4⟩ := PrsAt.get c (by simpa using e)
    exact ⟨q, r, m, x, h1, by simpa using h2, h3, h4⟩
theorem FsAt.get : ∀ {vs : List V} {xs : List Fx} {i : Nat} {v : V}, FsAt K H vs xs → vs[i]? = some v → ∃ r x, v = .ref r ∧ xs[i]? = some x ∧ FT K H r x
  | _, _, 0, _, .cons a b, e => by
    cases e
    exact ⟨_, _, rfl, rfl, a⟩
  | _, _, i + 1, _, .cons a c, e => by
    obtain ⟨r, x, h1, h2, h4⟩ := FsAt.get c (by simpa using e)
    exact ⟨r, x, h1, by simpa using h2, h4⟩
theorem PrsAt.app {vs ws : List V} {xs ys : List (Int × Fx)} (a : PrsAt K H vs xs) (b : PrsAt K H ws ys) : PrsAt K H (vs ++ ws) (xs ++ ys) := by
  induction a with
  | nil => exact b
  | cons h1 h2 h3 ih => exact .cons h1 h2 ih
theorem FsAt.app {vs ws : List V} {xs ys : List Fx} (a : FsAt K H vs xs) (b : FsAt K H ws ys) : FsAt K H (vs ++ ws) (xs ++ ys) := by
  induction a with
  | nil => exact b
  | cons h1 h3 ih => exact .cons h1 ih
/-! shares as data -/
def prD (a : Int × Fx) : PyData := .tuple [.int a.1, .tuple [.int a.2.1, .int a.2.2]]
def shD (xs : List (Int × Fx)) : PyData := .tuple (xs.map prD)
theorem PrsAt.dp : ∀ {vs : List V} {xs : List (Int × Fx)}, PrsAt K H vs xs → DpAll K H vs (xs.map prD)
  | _, _, .nil => .nil
  | _, _, .cons a b c => .cons (.tup a (.cons (.int _) (.cons (.tup b (.cons (.int _) (.cons (.int _) .nil))) .nil))) c.dp
theorem ShAt.dp {p : Addr} {xs : List (Int × Fx)} (h : ShAt K H p xs) : Dp K H (.ref p) (shD xs) := by
  obtain ⟨vs, a, b⟩ := h
  exact .tup a b.dp
theorem cl1 : ∀ xs : List (Int × Fx), PyData.canLayAll0 (xs.map prD) = true
  | [] => rfl
  | n :: ns => by
    show (PyData.canLay0 (prD n) && PyData.canLayAll0 (ns.map prD)) = true
    rw [cl1 ns]
    rfl
theorem dp1 : ∀ xs : List (Int × Fx), PyData.depthAll (xs.map prD) ≤ 2
  | [] => by decide
  | n :: ns => by
    have := dp1 ns
    simp [PyData.depthAll, PyData.depth, prD] at *
    omega
theorem shShaped (xs : List (Int × Fx)) : SeqAt.shaped (shD xs) = true := by
  have h1 := cl1 xs
  have h2 := dp1 xs
  simp [SeqAt.shaped, PyData.canLay0, PyData.depth, h1, shD]
  omega
theorem eqvPr (a b : Int × Fx) : PyData.eqv (prD a) (prD b) = decide (a = b) := by
  obtain ⟨m, x, y⟩ := a
  obtain ⟨n, z, w⟩ := b
  simp only [prD, PyData.eqv, PyData.eqvAll, Bool.and_true]
  by_cases h1 : m = n <;> by_cases h2 : x = z <;> by_cases h3 : y = w <;> simp [h1, h2, h3]
theorem eqvPrs : ∀ xs ys : List (Int × Fx), PyData.eqvAll (xs.map prD) (ys.map prD) = decide (xs = ys)
  | [], [] => by simp [PyData.eqvAll]
  | [], _ :: _ => by simp [PyData.eqvAll]
  | _ :: _, [] => by simp [PyData.eqvAll]
  | a :: xs, b :: ys => by
    simp only [List.map_cons, PyData.eqvAll, eqvPr, eqvPrs xs ys]
    by_cases h1 : a = b <;> by_cases h2 : xs = ys <;> simp [h1, h2]
theorem eqvSh (xs ys : List (Int × Fx)) : PyData.eqv (shD xs) (shD ys) = decide (xs = ys) := eqvPrs xs ys
theorem shNe {p q : Addr} {xs ys : List (Int × Fx)} {Q : VK} (hp : ShAt K H p xs) (hq : ShAt K H q ys) (h : Q (.bl (!decide (xs = ys))) H) : rNeD K (.ref p) (.ref q) H Q :=
  ⟨shD xs, shD ys, hp.dp, hq.dp, shShaped _, shShaped _, by rw [eqvSh]; exact h⟩
theorem shEq {p q : Addr} {xs ys : List (Int × Fx)} {Q : VK} (hp : ShAt K H p xs) (hq : ShAt K H q ys) (h : Q (.bl (decide (xs = ys))) H) : rEqD K (.ref p) (.ref q) H Q :=
  ⟨shD xs, shD ys, hp.dp, hq.dp, shShaped _, shShaped _, by rw [eqvSh]; exact h⟩
theorem eqvF (x y : Fx) : PyData.eqv (.tuple [.int x.1, .int x.2]) (.tuple [.int y.1, .int y.2]) = decide (x = y) := by
  obtain ⟨a, b⟩ := x
  obtain ⟨c, d⟩ := y
  simp only [PyData.eqv, PyData.eqvAll, Bool.and_true]
  by_cases h1 : a = c <;> by_cases h2 : b = d <;> simp [h1, h2]
def frD (x : Fx) : PyData := .tuple [.int x.1, .int x.2]
theorem ftDp {p : Addr} {x : Fx} (h : FT K H p x) : Dp K H (.ref p) (frD x) := .tup h (.cons (.int _) (.cons (.int _) .nil))
theorem eqvFr (x y : Fx) : PyData.eqv (frD x) (frD y) = decide (x = y) := eqvF x y
theorem ftNe {p q : Addr} {x y : Fx} {Q : VK} (hp : FT K H p x) (hq : FT K H q y) (h : Q (.bl (!decide (x = y))) H) : rNeD K (.ref p) (.ref q) H Q :=
  ⟨.tuple [.int x.1, .int x.2], .tuple [.int y.1, .int y.2], .tup hp (.cons (.int _) (.cons (.int _) .nil)), .tup hq (.cons (.int _) (.cons (.int _) .nil)), rfl, rfl, by rw [eqvF]; exact h⟩
/-! tables from numbers to fractions -/
inductive DPr (K : PySem.W.Frag) (H : Hp) : List (Key × V) → List (Int × Fx) → Prop where
  | nil : DPr K H [] []
  | cons {k : Int} {r : Addr} {x : Fx} {kvs : List (Key × V)} {f : List (Int × Fx)} (h : FT K H r x) (t : DPr K H kvs f) : DPr K H ((Sum.inl k, .ref r) :: kvs) ((k, x) :: f)
theorem DPr.tk (e : TK K H H') : ∀ {kvs : List (Key × V)} {f : List (Int × Fx)}, DPr K H kvs f → DPr K H' kvs f
  | _, _, .nil => .nil
  | _, _, .cons a b => .cons (e _ _ a) (DPr.tk e b)
theorem DPr.keys : ∀ {kvs : List (Key × V)} {f : List (Int × Fx)}, DPr K H kvs f → kvs.map (·.1) = (f.map (·.1)).map Sum.inl
  | _, _, .nil => rfl
  | _, _, .cons _ b => by simp [b.keys]
theorem DPr.len {kvs : List (Key × V)} {f : List (Int × Fx)} (h : DPr K H kvs f) : kvs.length = f.length := by
  have := congrArg List.length h.keys
  simpa using this
theorem DPr.val : ∀ {kvs : List (Key × V)} {f : List (Int × Fx)}, DPr K H kvs f → ∀ k : Int, k ∈ f.map (·.1) → ∃ r, valV kvs (Sum.inl k : Key) = some (.ref r) ∧ FT K H r (lk f k)
  | _, _, .nil, k, hm => by cases hm
  | _, _, @DPr.cons _ _ j r x kvs f a b, k, hm => by
    by_cases h : k = j
    · subst h
      refine ⟨r, valV_pos rfl, ?_⟩
      rw [lk_cons, if_pos rfl]
      exact a
    · have hm2 : k ∈ f.map (·.1) := by
        simp only [List.map_cons, List.mem_cons] at hm
        rcases hm with q | q
        · exact absurd q h
        · exact q
      obtain ⟨r', h1, h2⟩ := b.val k hm2
      refine ⟨r', ?_, ?_⟩
      · rw [valV_neg (by intro z; exact h (Sum.inl.inj z).symm)]
        exact h1
      · rw [lk_cons, if_neg h]
        exact h2
theorem DPr.non : ∀ {kvs : List (Key × V)} {f : List (Int × Fx)}, DPr K H kvs f → ∀ k : Int, k ∉ f.map (·.1) → valV kvs (Sum.inl k : Key) = none
  | _, _, .nil, k, hm => rfl
  | _, _, @DPr.cons _ _ j r x kvs f a b, k, hm => by
    simp only [List.map_cons, List.mem_cons, not_or] at hm
    rw [valV_neg (by intro z; exact hm.1 (Sum.inl.inj z).symm)]
    exact b.non k hm.2
theorem putK_c1 {k : Key} {u v : V} {kvs : List (Key × V)} (hn : ∀ p ∈ kvs, p.1 ≠ k) : putK ((k, u) :: kvs) k v = (k, v) :: kvs := by
  unfold putK
  have : (((k, u) :: kvs).any fun kv => decide (kv.1 = k)) = true := by simp
  rw [if_pos this]
  simp only [List.map_cons, if_pos]
  congr 1
  conv => rhs; rw [← List.map_id kvs]
  apply List.map_congr_left
  intro p hp
  simp [hn p hp]
theorem putK_c2 {j k : Key} {u v : V} {kvs : List (Key × V)} (h : j ≠ k) : putK ((j, u) :: kvs) k v = (j, u) :: putK kvs k v := by
  unfold putK
  by_cases q : (kvs.any fun kv => decide (kv.1 = k)) = true
  · have : (((j, u) :: kvs).any fun kv => decide (kv.1 = k)) = true := by simp only [List.any_cons, q, Bool.or_true]
    rw [if_pos this, if_pos q]
    simp [h]
  · have : ¬ (((j, u) :: kvs).any fun kv => decide (kv.1 = k)) = true := by
      simp only [List.any_cons, Bool.or_eq_true, not_or]
      exact ⟨by simp [h], q⟩
    rw [if_neg this, if_neg q]
    rfl
theorem DPr.put {kvs : List (Key × V)} {f : List (Int × Fx)} (h : DPr K H kvs f) (hn : (f.map (·.1)).Nodup) {k : Int} {r : Addr} {x : Fx} (hr : FT K H r x) : DPr K H (putK kvs (Sum.inl k : Key) (.ref r)) (ups f k x) := by
  induction h with
  | nil =>
    show DPr K H [(Sum.inl k, .ref r)] [(k, x)]
    exact .cons hr .nil
  | @cons j r' y kvs f a b ih =>
    rw [List.map_cons, List.nodup_cons] at hn
    by_cases q : j = k
    · subst q
      rw [putK_c1 (by
        intro p hp e
        have : p.1 ∈ kvs.map (·.1) := List.mem_map.mpr ⟨p, hp, rfl⟩
        rw [b.keys, e] at this
        obtain ⟨z, hz, ez⟩ := List.mem_map.mp this
        exact hn.1 ((Sum.inl.inj ez) ▸ hz))]
      have : ups ((j, y) :: f) j x = (j, x) :: f := by simp [ups]
      rw [this]
      exact .cons hr b
    · rw [putK_c2 (by intro z; exact q (Sum.inl.inj z))]
      have : ups ((j, y) :: f) k x = (j, y) :: ups f k x := by simp [ups, q]
      rw [this]
      exact .cons a (ih hn.2)
end
section
variable {K : PySem.W.Frag} {H H4 : Hp} {D : Addr}
theorem tk_lst {xs ys : List V} (h : H D = some (.lst xs)) : TK K H (upd H D (.lst ys)) := fun p zs hp => by
  rcases hp with (hp | ⟨o, hp⟩) | hp
  · exact .inl (.inl (by rw [upd_ne (fun z => by rw [z, h] at hp; cases hp)]; exact hp))
  · exact .inl (.inr ⟨o, by rw [upd_ne (fun z => by rw [z, h] at hp; cases hp)]; exact hp⟩)
  · exact .inr hp
theorem tk_dk {xs ys : List (Key × V)} (h : H D = some (.dK xs)) : TK K H (upd H D (.dK ys)) := fun p zs hp => by
  rcases hp with (hp | ⟨o, hp⟩) | hp
  · exact .inl (.inl (by rw [upd_ne (fun z => by rw [z, h] at hp; cases hp)]; exact hp))
  · exact .inl (.inr ⟨o, by rw [upd_ne (fun z => by rw [z, h] at hp; cases hp)]; exact hp⟩)
  · exact .inr hp
theorem same_upd {H0 : Hp} {o : HO} (h0 : H0 D = none) (s : Same H0 H4) : Same H0 (upd H4 D o) := fun b u e => by
  rw [upd_ne (ne_of_none e h0)]
  exact s b u e
/-- a list of fractions that is being made at D -/
def LcF (K : PySem.W.Frag) (H : Hp) (D : Addr) (zs : List Fx) (H' : Hp) : Prop := ∃ ws, H' D = some (.lst ws) ∧ Same H H' ∧ FsAt K H' ws zs
theorem LcF.start (h : H D = none) : LcF K H D [] (upd H D (.lst [])) := ⟨[], upd_same, Same.new h, .nil⟩
theorem LcF.step {zs : List Fx} {ws : List V} {y : Addr} {x : Fx} (h0 : H D = none) (h1 : H4 D = some (.lst ws)) (s : Same H H4) (f : FsAt K H4 ws zs) (hx : FT K H4 y x) : LcF K H D (zs ++ [x]) (upd H4 D (.lst (ws ++ [.ref y]))) :=
  ⟨_, upd_same, same_upd h0 s, (f.app (.cons hx .nil)).tk (tk_lst h1)⟩
/-- a list of pairs that is being made at D -/
def LcP (K : PySem.W.Frag) (H : Hp) (D : Addr) (zs : List (Int × Fx)) (H' : Hp) : Prop := ∃ ws, H' D = some (.lst ws) ∧ Same H H' ∧ PrsAt K H' ws zs
theorem LcP.start (h : H D = none) : LcP K H D [] (upd H D (.lst [])) := ⟨[], upd_same, Same.new h, .nil⟩
theorem LcP.step {zs : List (Int × Fx)} {ws : List V} {q r : Addr} {m : Int} {x : Fx} (h0 : H D = none) (h1 : H4 D = some (.lst ws)) (s : Same H H4) (f : PrsAt K H4 ws zs) (hq : SqT K H4 q [.int m, .ref r]) (hx : FT K H4 r x) :
    LcP K H D (zs ++ [(m, x)]) (upd H4 D (.lst (ws ++ [.ref q]))) :=
  ⟨_, upd_same, same_upd h0 s, (f.app (.cons hq hx .nil)).tk (tk_lst h1)⟩
theorem take_snoc {α : Type} {l : List α} {i : Nat} {a : α} (h : l[i]? = some a) : l.take (i + 1) = l.take i ++ [a] := by
  rw [List.take_add_one, h]
  rfl
theorem small {n : Nat} (h : n ≤ 1000) : n ≤ sizeLine := Nat.le_of_lt (small1000 h)
end
/-! promises -/
def spScaled (K : PySem.W.Frag) : Sp := fun vs H Q _ => ∃ p x k, vs = [.ref p, .int k] ∧ FT K H p x ∧ Fr x ∧ Sz 1900 x ∧ k.natAbs < 2 ^ 20 ∧ ∀ r, H r = none → Q (.ref r) (upd H r (.tup [.int (scl x k).1, .int (scl x k).2]))
def spSum (K : PySem.W.Frag) : Sp := fun vs H Q _ => ∃ a ws xs, vs = [.ref a] ∧ SqL K H a ws ∧ FsAt K H ws xs ∧ (∀ x ∈ xs, Fr x ∧ Sz 100 x) ∧ xs.length ≤ 16 ∧ ∀ H' p, Same H H' → FT K H' p (fsum xs) → Q (.ref p) H'
/-- of a share: a fraction -/
def spShF (K : PySem.W.Frag) (f : List (Int × Fx) → Fx) : Sp := fun vs H Q _ => ∃ p xs, vs = [.ref p] ∧ ShAt K H p xs ∧ AllF 90 xs ∧ (∀ a ∈ xs, a.1.natAbs ≤ 200) ∧ xs.length ≤ 16 ∧ ∀ H' r, Same H H' → FT K H' r (f xs) → Q (.ref r) H'
def spShFk (K : PySem.W.Frag) (f : List (Int × Fx) → Int → Fx) : Sp := fun vs H Q _ => ∃ p xs k, vs = [.ref p, .int k] ∧ ShAt K H p xs ∧ AllF 90 xs ∧ (∀ a ∈ xs, a.1.natAbs ≤ 200) ∧ k.natAbs ≤ 200 ∧ xs.length ≤ 16 ∧ ∀ H' r, Same H H' → FT K H' r (f xs k) → Q (.ref r) H'
end CS
set_option Elab.async false
set_option maxRecDepth 100000
set_option maxHeartbeats 4000000
set_option linter.unusedVariables false
namespace CS
open PySem L2
def top (i : Nat) : Stmt := PySem.Challenge.pw_curtainsteps_k31_whole_texts_of_terms.main.body.getD i (.Pass ⟨0, 0, 0, 0⟩)
abbrev sWall : Stmt := top 0
abbrev sSteperror : Stmt := top 2
abbrev sBadTerm : Stmt := top 3
abbrev sBadText : Stmt := top 4
abbrev sIsWhole : Stmt := top 6
abbrev sIsWord : Stmt := top 7
abbrev sIsRow : Stmt := top 8
abbrev sIsWholeWithin : Stmt := top 9
abbrev sKidPlaces : Stmt := top 16
abbrev sWholePlaces : Stmt := top 17
abbrev sMayStand : Stmt := top 18
abbrev sIsInOrder : Stmt := top 19
abbrev sIsFormed : Stmt := top 20
abbrev sFaultIn : Stmt := top 21
abbrev sIsFigures : Stmt := top 25
abbrev sIsInteger : Stmt := top 26
abbrev sLine : Stmt := top 27
abbrev sLinesOf : Stmt := top 28
abbrev sNeedNoMore : Stmt := top 29
abbrev sTreeIn : Stmt := top 30
abbrev sTreeOf : Stmt := top 31
abbrev sNeedTerm : Stmt := top 33
abbrev sTreeText : Stmt := top 35
abbrev sTermText : Stmt := top 36
abbrev sReadTree : Stmt := top 37
abbrev sReadTerm : Stmt := top 38
abbrev sMixed : Stmt := top 40
abbrev sBegin : Stmt := top 41
abbrev sDraw : Stmt := top 42
abbrev sLawOf : Stmt := top 43
abbrev sLawPaperWords : Stmt := top 44
abbrev sLawJoined : Stmt := top 45
abbrev sLawIntegers : Stmt := top 46
abbrev sLawKids : Stmt := top 47
abbrev sLawLineOf : Stmt := top 48
abbrev sLawPaper : Stmt := top 49
abbrev sLawBoundsOf : Stmt := top 50
abbrev sLawAreGood : Stmt := top 51
abbrev sLawPlaces : Stmt := top 52
abbrev sLawFault : Stmt := top 53
abbrev sLawInteger : Stmt := top 54
abbrev sLawTake : Stmt := top 55
abbrev sLawReadLine : Stmt := top 56
abbrev sLawTermDue : Stmt := top 57
abbrev sLawBentText : Stmt := top 58
abbrev sLawHeard : Stmt := top 59
abbrev sLawRight : Stmt := top 60
abbrev sLaw : Stmt := top 61
section
variable {P : Program} {w : World} {K : PySem.W.Frag} {mg : Str → Option Value} {base : Heap}
theorem scIsWhole : FnScope ["thing"] ["thing"] (defScope sIsWhole) := ⟨rfl, rfl, rfl, by decide +kernel, rfl, by decide +kernel, by decide +kernel⟩
theorem ok_is_whole {f : Addr} {fd : FuncData} (F : Df K mg "is_whole" sIsWhole ["thing"] f fd) (T : Bt mg) : FnOk P w K mg base CX0 1 f fd ["thing"] (spWhole K) := by
  refine F.F.ok scIsWhole (fun vs H Q E h => ?_) (fun cdv A outer s H vs Q E hr h => ?_)
  · obtain ⟨i, rfl, _⟩ := h
    rfl
  · obtain ⟨i, rfl, k⟩ := h
    refine ⟨_, pss_one (ps_ret (pe_and (pe_callB call_isi (by rfl) T.isinstance (by decide +kernel) (pa_cons (pv 0) (pa_cons (pe_bltn (v := .ty "int") (by rfl) T.int (by decide +kernel) rfl) pa_nil))) (pe_one (pe_cmpR op_eq (pe_cn (pv 0)) pe_str (nomark _))))), ?_⟩
    refine ⟨_, rfl, _, _, _, _, true, rfl, .ty _, .base (.int i), kit_ty (a := "int") (b := "int") (by decide +kernel), _, rfl, iteT ?_⟩
    refine ⟨_, rfl, _, .int i, rfl, ?_⟩
    exact k
theorem scIsRow : FnScope ["thing"] ["thing"] (defScope sIsRow) := ⟨rfl, rfl, rfl, by decide +kernel, rfl, by decide +kernel, by decide +kernel⟩
theorem TyX.of_tup {K : PySem.W.Frag} {H : Hp} {p : Addr} {xs : List V} (h : SqT K H p xs) : TyX K H (.ref p) (.type "tuple") := by
  rcases h with (h | ⟨o, h⟩) | ⟨o, its, n, h, c, _⟩
  · exact .base (.tup h)
  · exact .fTuple h
  · exact .kTuple h c
theorem ok_is_row {f : Addr} {fd : FuncData} (F : Df K mg "is_row" sIsRow ["thing"] f fd) (T : Bt mg) : FnOk P w K mg base CX0 1 f fd ["thing"] (spRow K) := by
  refine F.F.ok scIsRow (fun vs H Q E h => ?_) (fun cdv A outer s H vs Q E hr h => ?_)
  · obtain ⟨i, xs, rfl, _⟩ := h
    rfl
  · obtain ⟨i, xs, rfl, hp, k⟩ := h
    refine ⟨_, pss_one (ps_ret (pe_and (pe_callB call_isi (by rfl) T.isinstance (by decide +kernel) (pa_cons (pv 0) (pa_cons (pe_bltn (v := .ty "tuple") (by rfl) T.tuple (by decide +kernel) rfl) pa_nil))) (pe_one (pe_cmpR op_eq (pe_cn (pv 0)) pe_str (nomark _))))), ?_⟩
    refine ⟨_, rfl, _, _, _, _, true, rfl, .ty _, TyX.of_tup hp, kit_ty (a := "tuple") (b := "tuple") (by decide +kernel), _, rfl, iteT ?_⟩
    refine ⟨_, rfl, _, .tup hp, rfl, ?_⟩
    exact k
theorem scMixed : FnScope ["cell", "k"] ["cell", "k"] (defScope sMixed) := ⟨rfl, rfl, rfl, by decide +kernel, rfl, by decide +kernel, by decide +kernel⟩
theorem ok_mixed {f : Addr} {fd : FuncData} (F : Df K mg "_law_mixed" sMixed ["cell", "k"] f fd) (T : Bt mg) : FnOk P w K mg base CX0 1 f fd ["cell", "k"] spMixed := by
  refine F.F.ok scMixed (fun vs H Q E h => ?_) (fun cdv A outer s H vs Q E hr h => ?_)
  · obtain ⟨c, k, rfl, _⟩ := h
    rfl
  · obtain ⟨c, k, rfl, k0, k1, q⟩ := h
    refine ⟨_, pss_cons (ps_set (i := 0) scMixed.nd rfl (Or.inl rfl) (pe_op op_mod (pe_callTy call_int1 (by rfl) T.int (by decide +kernel) (pa_cons (pv 0) pa_nil)) pe_int))
      (pss_one (ps_ret (pe_op op_mod (pe_op op_mul (pe_op op_mod (pe_op op_add (pe_op op_add
        (pe_op op_mul (pv 0) (pe_op op_add pe_int (pe_op op_mul (pe_op op_mul pe_int (pv 1)) (pv 1))))
        (pe_op op_mul pe_int (pv 1))) pe_int) pe_int) pe_int) pe_int))), ?_⟩
    have hc0 : 0 ≤ c % 2147483647 := Int.emod_nonneg _ (by decide)
    have hc1 : c % 2147483647 < 2147483647 := Int.emod_lt_of_pos _ (by decide)
    refine ⟨_, rfl, .inl ⟨c, rfl, _, _, rfl, rfl, (by show (0 : Int) < 2147483647; decide), ?_⟩⟩
    generalize hcc : c % 2147483647 = cc at *
    refine ⟨_, rfl, _, rfl, _, _, rfl, rfl, .inl ⟨by decide, by decide⟩, _, rfl, _, _, rfl, rfl, .inr ⟨by omega, by omega⟩, _, _, rfl, rfl, ?_⟩
    generalize 48271 + 2 * k * k = z
    refine ⟨_, _, rfl, rfl, .inl ⟨by omega, by omega⟩, _, rfl, _, _, rfl, rfl, .inl ⟨by decide, by decide⟩, _, _, rfl, rfl, _, _, rfl, rfl, _, _, rfl, rfl, (by show (0 : Int) < 2147483647; decide), ?_⟩
    generalize hy : (cc * z + 69621 * k + 11) = y
    have hy0 : 0 ≤ y % 2147483647 := Int.emod_nonneg _ (by decide)
    have hy1 : y % 2147483647 < 2147483647 := Int.emod_lt_of_pos _ (by decide)
    refine ⟨_, _, rfl, rfl, .inl ⟨by omega, by omega⟩, _, _, rfl, rfl, (by show (0 : Int) < 2147483629; decide), ?_⟩
    exact q _ (Int.emod_nonneg _ (by decide)) (Int.emod_lt_of_pos _ (by decide))
theorem dpInts (K : PySem.W.Frag) (H : Hp) : ∀ ns : List Int, DpAll K H (ns.map V.int) (ns.map PyData.int)
  | [] => .nil
  | n :: ns => .cons (.int n) (dpInts K H ns)
theorem cl0 : ∀ ns : List Int, PyData.canLayAll0 (ns.map PyData.int) = true
  | [] => rfl
  | n :: ns => by
    show (PyData.canLay0 (.int n) && PyData.canLayAll0 (ns.map PyData.int)) = true
    rw [cl0 ns]
    rfl
theorem dp0 : ∀ ns : List Int, PyData.depthAll (ns.map PyData.int) ≤ 1
  | [] => by decide
  | n :: ns => by
    have := dp0 ns
    simp [PyData.depthAll, PyData.depth] at *
    omega
theorem shInts (ns : List Int) : SeqAt.shaped (.list (ns.map PyData.int)) = true := by
  have h1 := cl0 ns
  have h2 := dp0 ns
  simp [SeqAt.shaped, PyData.canLay0, PyData.depth, h1]
  omega
theorem scBegin : FnScope ["script", "cells", "cell"] ["script"] (defScope sBegin) := ⟨rfl, rfl, rfl, by decide +kernel, rfl, by decide +kernel, by decide +kernel⟩
theorem ok_begin {f : Addr} {fd : FuncData} (F : Df K mg "_law_begin" sBegin ["script"] f fd) (T : Bt mg) : FnOk P w K mg base CX0 1 f fd ["script"] (spBegin K) := by
  refine F.F.ok scBegin (fun vs H Q E h => ?_) (fun cdv A outer s H vs Q E hr h => ?_)
  · obtain ⟨a, ns, rfl, _⟩ := h
    rfl
  · obtain ⟨a, ns, rfl, hS, hlen, k⟩ := h
    refine ⟨_, Evl.pss_cut (ps_set (i := 1) scBegin.nd rfl (Or.inl rfl) (pe_ifExp (pt_cmpR (op_neD hr.units) (pv 0) (pe_lst pa_nil) (nomark _)) (pe_callTy call_list_of (by rfl) T.list (by decide +kernel) (pa_cons (pv 0) pa_nil)) (pe_lst (pa_cons pe_int pa_nil))))
      (pss_one (ps_ret (pe_disp (pps_cons pe_str (pv 1) (pps_cons pe_str
        (pe_lc (own := [("cell", 2)]) (g := gName 2) (tt := tYes) rfl scBegin.nd (pi_list (pv 1)) (blkOk_by (N := ["script", "cells", "cell"]) (sc := defScope sBegin) (by decide +kernel)) (fun _ _ _ _ _ => pg_name (i := 2) scBegin.nd rfl (Or.inl rfl)) (fun _ _ _ _ _ => pts_nil)
          (fun _ _ _ _ _ => pe_ifExp (pt_cmpR op_ge (pv 2) (pe_op op_pow pe_int pe_int) (nomark _)) (pv 2) pe_int))
        (pps_cons pe_str pe_int (pps_cons pe_str pe_int pps_nil)))) (by rfl) (by rfl) (fun z => by cases z) (by decide)))), ?_⟩
    refine ⟨fun σ' H' => ∃ (c : Addr) (cs : List Int), σ' = [some (.ref a), some (.ref c), none] ∧ Same H H' ∧ H c = none ∧ H' c = some (.lst (cs.map V.int)) ∧ 0 < cs.length ∧ cs.length ≤ 64, ?_, ?_⟩
    · refine ⟨_, rfl, (by show 0 ≤ sizeLine; decide), fun q0 hq0 => ?_⟩
      refine ⟨.list (ns.map PyData.int), .list [], .lst ((Same.new hq0).seq hS) (dpInts _ _ ns), .lst (SqL.of upd_same) .nil, shInts ns, rfl, _, rfl, ?_⟩
      cases ns with
      | nil =>
        refine iteF ?_
        refine ⟨(by show 1 ≤ sizeLine; decide), fun c hc => ?_⟩
        exact ⟨c, [0], rfl, (Same.new hq0).trans (Same.new hc), (Same.new hq0).free hc, upd_same, by decide, by decide⟩
      | cons n ns =>
        refine iteT ?_
        refine ⟨_, rfl, a, _, rfl, .inl ((Same.new hq0).seq hS), fun c hc => ?_⟩
        exact ⟨c, n :: ns, rfl, (Same.new hq0).trans (Same.new hc), (Same.new hq0).free hc, upd_same, by simp, by omega⟩
    · rintro σ' H1 ⟨c, cs, rfl, s1, nc, hc, c0, c64⟩
      intro p hp
      have ncp : c ≠ p := ne_of_none hc hp
      have hcp : (upd H1 p (.dK [])) c = some (.lst (cs.map V.int)) := by rw [upd_ne ncp]; exact hc
      refine ⟨_, rfl, _, rfl, c, rfl, ⟨_, SqL.of hcp⟩, fun D hD => ?_⟩
      have ncD : c ≠ D := ne_of_none hcp hD
      have npD : p ≠ D := ne_of_none upd_same hD
      refine lc_list (K := K) (a := c) (xs := cs.map V.int) (fun i H' => ∃ acc : List Int, H' = upd (upd H1 p (.dK [])) D (.lst (acc.map V.int)) ∧ acc.length = i ∧ ∀ v ∈ acc, 0 ≤ v) ⟨[], rfl, rfl, fun v hv => by cases hv⟩ ?_ ?_ ?_
      · rintro i H' hi ⟨acc, rfl, _, _⟩
        exact SqL.of (by rw [upd_ne ncD]; exact hcp)
      · rintro i x H' hx ⟨acc, rfl, hl, h0⟩
        have hil : i < (cs.map V.int).length := (List.getElem?_eq_some_iff.mp hx).1
        rw [List.length_map] at hil
        obtain ⟨z, rfl⟩ : ∃ z, x = V.int z := by
          rw [List.getElem?_map] at hx
          cases e : cs[i]? with
          | none =>
            rw [e] at hx
            cases hx
          | some z =>
            rw [e] at hx
            exact ⟨z, (Option.some.inj hx).symm⟩
        refine ⟨rfl, ?_⟩
        dsimp only [tYes]
        rw [if_pos rfl]
        refine ⟨_, rfl, 10, 18, rfl, rfl, ⟨by decide, by decide, by decide⟩, _, _, rfl, rfl, _, rfl, ?_⟩
        by_cases hz : (10 : Int) ^ (18 : Int).toNat ≤ z
        · rw [decide_eq_true hz]
          refine iteT ⟨_, rfl, _, upd_same, ?_, acc ++ [z], ?_, ?_, ?_⟩
          · rw [List.length_map]; exact small1000 (by omega)
          · rw [upd_upd, List.map_append]; rfl
          · rw [List.length_append]; simp [hl]
          · intro v hv
            rcases List.mem_append.mp hv with q | q
            · exact h0 v q
            · have := List.mem_singleton.mp q
              have h18 : (0 : Int) ≤ (10 : Int) ^ (18 : Int).toNat := by decide
              omega
        · rw [decide_eq_false hz]
          refine iteF ⟨_, upd_same, ?_, acc ++ [0], ?_, ?_, ?_⟩
          · rw [List.length_map]; exact small1000 (by omega)
          · rw [upd_upd, List.map_append]; rfl
          · rw [List.length_append]; simp [hl]
          · intro v hv
            rcases List.mem_append.mp hv with q | q
            · exact h0 v q
            · have := List.mem_singleton.mp q
              omega
      · rintro H' ⟨acc, rfl, hl, h0⟩
        refine ⟨by rw [upd_ne npD]; exact upd_same, [(Sum.inr ("cells" : Str), V.ref c), (Sum.inr ("lefts" : Str), .ref D), (Sum.inr ("at" : Str), .int 0), (Sum.inr ("room" : Str), .int 0)], rfl, (by show 4 ≤ 15; decide), ?_⟩
        rw [stD_make]
        have hD1 : H1 D = none := (Same.new hp).free hD
        refine k p c D _ (s1.free hp) (s1.trans ?_) ?_
        · intro b o e
          rw [upd_ne (ne_of_none e hp), upd_ne (ne_of_none e hD1), upd_ne (ne_of_none e hp)]
          exact e
        · refine ⟨upd_same, ncD, cs, acc, ?_, ?_, ?_, c0, c64, h0⟩
          · rw [upd_ne ncp, upd_ne ncD]; exact hcp
          · rw [upd_ne npD.symm, upd_same]
          · rw [hl, List.length_map]
theorem scDraw : FnScope ["state", "many", "at", "place", "left", "number"] ["state", "many"] (defScope sDraw) := ⟨rfl, rfl, rfl, by decide +kernel, rfl, by decide +kernel, by decide +kernel⟩
theorem ok_draw {f f1 : Addr} {fd fd1 : FuncData} (F : Df K mg "_law_draw" sDraw ["state", "many"] f fd) (F1 : Df K mg "_law_mixed" sMixed ["cell", "k"] f1 fd1) (T : Bt mg) : FnOk P w K mg base CX0 2 f fd ["state", "many"] spDraw := by
  have G1 : FnOk P w K mg base CX0 1 f1 fd1 ["cell", "k"] spMixed := ok_mixed F1 T
  refine F.F.ok scDraw (fun vs H Q E h => ?_) (fun cdv A outer s H vs Q E hr h => ?_)
  · obtain ⟨d, c, l, k, m, rfl, _⟩ := h
    rfl
  · obtain ⟨d, c, l, n, m, rfl, S, m0, m1, n1, k⟩ := h
    have hu := hu_of hr
    refine ⟨_, pss_cons (ps_set (i := 2) scDraw.nd rfl (Or.inl rfl) (pe_dget hu (pv 0) pe_str (fun _ _ => rfl)))
      (pss_cons (ps_dput hu (pv 0) pe_str (pe_op op_add (pv 2) pe_int) rfl)
      (pss_cons (ps_set (i := 3) scDraw.nd rfl (Or.inl rfl) (pe_op op_mod (pe_callTy call_int1 (by rfl) T.int (by decide +kernel) (pa_cons (pv 2) pa_nil)) (pe_callB call_len_seq (by rfl) T.len PySem.boot_len (pa_cons (pe_dget hu (pv 0) pe_str (fun _ _ => rfl)) pa_nil))))
      (pss_cons (ps_set (i := 4) scDraw.nd rfl (Or.inl rfl) (pe_ix ix_list (pe_dget hu (pv 0) pe_str (fun _ _ => rfl)) (pv 3) (fun _ _ => rfl)))
      (pss_cons (ps_if (pt_cmpR op_gt (pv 4) pe_int (nomark _))
        (pss_cons (ps_asg (pe_op op_fdivW (pv 4) (pv 1)) (pg_sub (pe_dget hu (pv 0) pe_str (fun _ _ => rfl)) (pv 3) set_list))
        (pss_one (ps_ret (pe_op op_mod (pe_callTy call_int1 (by rfl) T.int (by decide +kernel) (pa_cons (pv 4) pa_nil)) (pv 1))))) pss_nil)
      (pss_cons (ps_set (i := 5) scDraw.nd rfl (Or.inl rfl) (pe_call G1 hr (by rfl) F1.g F1.F.kp F1.b .nil pass0 (pa_cons (pe_call G1 hr (by rfl) F1.g F1.F.kp F1.b .nil pass0 (pa_cons (pe_ix ix_list (pe_dget hu (pv 0) pe_str (fun _ _ => rfl)) (pv 3) (fun _ _ => rfl)) (pa_cons (pv 2) pa_nil))) (pa_cons (pe_op op_add pe_int (pv 2)) pa_nil))))
      (pss_one (ps_ret (pe_op op_mod (pe_op op_fdiv (pe_callTy call_int1 (by rfl) T.int (by decide +kernel) (pa_cons (pe_op op_add (pe_op op_mul (pv 5) pe_int) (pe_call G1 hr (by rfl) F1.g F1.F.kp F1.b .nil pass0 (pa_cons (pv 5) (pa_cons (pe_op op_add pe_int (pv 2)) pa_nil)))) pa_nil)) pe_int) (pv 1))))))))), ?_⟩
    obtain ⟨hd, ncl, cs, ls, hc, hl, hcl, c0, c64, hls⟩ := S
    have ndc : d ≠ c := ne_of hd hc (by intro z; cases z)
    have ndl : d ≠ l := ne_of hd hl (by intro z; cases z)
    refine ⟨_, rfl, d, _, rfl, (stD_at c l n) ▸ DGet.k (k := Sum.inr ("at" : Str)) hd, ?_⟩
    refine ⟨_, rfl, _, _, rfl, rfl, _, rfl, d, _, rfl, DPut.k (k := Sum.inr ("at" : Str)) hd (by show 4 < sizeLine; decide), ?_⟩
    rw [stD_put]
    have hd2 : (upd H d (.dK (stD c l ((n : Int) + 1)))) d = some (.dK (stD c l ((n + 1 : Nat) : Int))) := upd_same
    have hc2 : (upd H d (.dK (stD c l ((n : Int) + 1)))) c = some (.lst (cs.map V.int)) := by rw [upd_ne ndc.symm]; exact hc
    have hl2 : (upd H d (.dK (stD c l ((n : Int) + 1)))) l = some (.lst (ls.map V.int)) := by rw [upd_ne ndl.symm]; exact hl
    have fm2 : Fm d l H (upd H d (.dK (stD c l ((n : Int) + 1)))) := fun b o e nb _ => by rw [upd_ne nb]; exact e
    generalize upd H d (.dK (stD c l ((n : Int) + 1))) = H2 at *
    have el : ((n : Int) % ((cs.map V.int).length : Int)) = ((n % cs.length : Nat) : Int) := by
      rw [List.length_map]
      omega
    refine ⟨_, rfl, .inl ⟨_, rfl, _, rfl, d, _, rfl, (stD_cells c l _) ▸ DGet.k (k := Sum.inr ("cells" : Str)) hd2, c, _, rfl, .inl (SqL.of hc2), _, _, rfl, rfl, (by show (0 : Int) < ((cs.map V.int).length : Int); rw [List.length_map]; omega), ?_⟩⟩
    simp only [el]
    have hj : n % cs.length < cs.length := Nat.mod_lt _ c0
    generalize n % cs.length = j at *
    obtain ⟨y, hy⟩ : ∃ y, ls[j]? = some y := ⟨ls[j]'(by omega), by simp⟩
    obtain ⟨x, hx⟩ : ∃ x, cs[j]? = some x := ⟨cs[j]'(by omega), by simp⟩
    have y0 : 0 ≤ y := hls y (List.mem_of_getElem? hy)
    have hyv : atI (ls.map V.int) ((j : Nat) : Int) = some (.int y) := atI_nat (by rw [List.getElem?_map, hy]; rfl)
    have hxv : atI (cs.map V.int) ((j : Nat) : Int) = some (.int x) := atI_nat (by rw [List.getElem?_map, hx]; rfl)
    refine ⟨_, rfl, d, _, rfl, (stD_lefts c l _) ▸ DGet.k (k := Sum.inr ("lefts" : Str)) hd2, _, rfl, l, _, _, _, rfl, rfl, SqL.of hl2, hyv, ?_⟩
    refine ⟨_, rfl, _, _, rfl, rfl, _, rfl, ?_⟩
    by_cases hy1 : 0 < y
    · rw [decide_eq_true hy1]
      refine iteT ?_
      refine ⟨_, rfl, _, rfl, _, _, rfl, rfl, wide_div m0 m1 (by decide) (by decide), ?_⟩
      refine ⟨_, rfl, d, _, rfl, (stD_lefts c l _) ▸ DGet.k (k := Sum.inr ("lefts" : Str)) hd2, _, rfl, l, _, _, j, rfl, rfl, hl2, ?_, ?_⟩
      · rw [List.length_map]
        unfold ixN
        rw [if_pos (by omega), if_pos (by omega)]
        simp
      refine ⟨_, rfl, .inl ⟨_, rfl, _, rfl, _, _, rfl, rfl, m0, ?_⟩⟩
      refine k _ _ (Int.emod_nonneg _ (by omega)) (Int.emod_lt_of_pos _ m0) ⟨by rw [upd_ne ndl]; exact hd2, ncl, cs, ls.set j (y / m), by rw [upd_ne ncl]; exact hc2, ?_, by rw [List.length_set]; exact hcl, c0, c64, ?_⟩ ?_
      · rw [upd_same, List.map_set]
      · intro v hv
        rcases List.mem_or_eq_of_mem_set hv with q | q
        · exact hls v q
        · rw [q]; exact Int.ediv_nonneg y0 (by omega)
      · intro b o e n1 n2
        rw [upd_ne n2]
        exact fm2 b o e n1 n2
    · rw [decide_eq_false hy1]
      refine iteF ?_
      refine ⟨_, rfl, d, _, rfl, (stD_cells c l _) ▸ DGet.k (k := Sum.inr ("cells" : Str)) hd2, _, rfl, c, _, _, _, rfl, rfl, SqL.of hc2, hxv, _, rfl, x, n, rfl, by omega, by omega, fun r1 a0 a1 => ?_⟩
      refine ⟨_, rfl, _, _, rfl, rfl, _, _, rfl, by omega, by omega, fun r2 b0 b1 => ?_⟩
      refine ⟨_, rfl, _, _, rfl, rfl, .inl ⟨by omega, by omega⟩, _, rfl, _, rfl, _, _, rfl, rfl, _, _, rfl, by omega, by omega, fun r3 e0 e1 => ?_⟩
      refine ⟨_, _, rfl, rfl, .inl ⟨_, rfl, _, _, rfl, rfl, ⟨by decide, by decide⟩, _, rfl, _, _, rfl, rfl, m0, ?_⟩⟩
      exact k _ _ (Int.emod_nonneg _ (by omega)) (Int.emod_lt_of_pos _ m0) ⟨hd2, ncl, cs, ls, hc2, hl2, hcl, c0, c64, hls⟩ fm2
end
end CS
set_option Elab.async false
set_option maxRecDepth 100000
set_option maxHeartbeats 8000000
set_option linter.unusedVariables false
namespace CS
open PySem L2
section
variable {P : Program} {w : World} {K : PySem.W.Frag} {mg : Str → Option Value} {base : Heap}
end
end CS
set_option Elab.async false
set_option maxRecDepth 100000
set_option maxHeartbeats 8000000
set_option linter.unusedVariables false
namespace CS
open PySem L2
section
variable {P : Program} {w : World} {K : PySem.W.Frag} {mg : Str → Option Value} {base : Heap}
theorem dget_or {H : Hp} {d aN : Addr} {kvs : List (Key × V)} {f : List (Int × Fx)} (hd : H d = some (.dK kvs)) (hD : DPr K H kvs f) (hN : FT K H aN (0, 1)) (k : Int) : ∃ (o : Option V) (r : Addr), DGet H d (.int k) o ∧ o.getD (.ref aN) = .ref r ∧ FT K H r (lk f k) := by
  by_cases hm : k ∈ f.map (·.1)
  · obtain ⟨r, h1, h2⟩ := hD.val k hm
    refine ⟨some (.ref r), r, ?_, rfl, h2⟩
    rw [← h1]
    exact DGet.k (k := Sum.inl k) hd
  · have h1 := hD.non k hm
    refine ⟨none, aN, ?_, rfl, ?_⟩
    · rw [← h1]
      exact DGet.k (k := Sum.inl k) hd
    · rw [lk_none hm]
      exact hN
def spGatT (K : PySem.W.Frag) : Sp := fun vs H Q _ => ∃ p ws xs, vs = [.ref p] ∧ SqT K H p ws ∧ PrsAt K H ws xs ∧ AllF 90 xs ∧ xs.length ≤ 16 ∧ ∀ H' r ys, Same H H' → ShAt K H' r ys → IsS (gat [] xs) ys → Q (.ref r) H'
def spGatL (K : PySem.W.Frag) : Sp := fun vs H Q _ => ∃ p ws xs, vs = [.ref p] ∧ SqL K H p ws ∧ PrsAt K H ws xs ∧ AllF 90 xs ∧ xs.length ≤ 16 ∧ ∀ H' r ys, Same H H' → ShAt K H' r ys → IsS (gat [] xs) ys → Q (.ref r) H'
end
end CS
set_option Elab.async false
set_option maxRecDepth 100000
set_option maxHeartbeats 8000000
set_option linter.unusedVariables false
namespace CS
open PySem L2
section
variable {P : Program} {w : World} {K : PySem.W.Frag} {mg : Str → Option Value} {base : Heap}
def GoodP (a : Int × Fx) : Prop := -100 ≤ a.1 ∧ a.1 ≤ 100 ∧ Fr a.2 ∧ 0 < a.2.1
instance (a : Int × Fx) : Decidable (GoodP a) := by unfold GoodP; infer_instance
def spWW : Sp := fun vs H Q _ => ∃ i l m : Int, vs = [.int i, .int l, .int m] ∧ Q (.bl (decide (l ≤ i ∧ i ≤ m))) H
def spNum : Sp := fun vs H Q _ => ∃ i : Int, vs = [.int i] ∧ Q (.bl (decide (-100 ≤ i ∧ i ≤ 100))) H
def spWt (K : PySem.W.Frag) : Sp := fun vs H Q _ => ∃ p x, vs = [.ref p] ∧ FT K H p x ∧ Q (.bl (decide (Fr x ∧ 0 < x.1))) H
def spShP (K : PySem.W.Frag) : Sp := fun vs H Q _ => ∃ q r m x, vs = [.ref q] ∧ SqT K H q [.int m, .ref r] ∧ FT K H r x ∧ Q (.bl (decide (GoodP (m, x)))) H
def spAsc (K : PySem.W.Frag) : Sp := fun vs H Q _ => ∃ (a : Addr) (ns : List Int), vs = [.ref a] ∧ SqL K H a (ns.map V.int) ∧ ns.length ≤ 900 ∧ ∀ H', Same H H' → Q (.bl (decide (ns.Pairwise (· < ·)))) H'
def spIsSh (K : PySem.W.Frag) : Sp := fun vs H Q _ => ∃ p xs, vs = [.ref p] ∧ ShAt K H p xs ∧ xs.length ≤ 900 ∧ ∀ H', Same H H' → Q (.bl (decide (Shr xs))) H'
def spNeedSh (K : PySem.W.Frag) : Sp := fun vs H Q _ => ∃ p xs, vs = [.ref p] ∧ ShAt K H p xs ∧ Shr xs ∧ ∀ H', Same H H' → Q (.ref p) H'
def spNeedNum : Sp := fun vs H Q _ => ∃ i : Int, vs = [.int i] ∧ -100 ≤ i ∧ i ≤ 100 ∧ Q (.int i) H
def spTot (K : PySem.W.Frag) (f : List (Int × Fx) → Fx) : Sp := fun vs H Q _ => ∃ p xs, vs = [.ref p] ∧ ShAt K H p xs ∧ Shr xs ∧ AllF 90 xs ∧ ∀ H' r, Same H H' → FT K H' r (f xs) → Q (.ref r) H'
def spRest (K : PySem.W.Frag) : Sp := fun vs H Q _ => ∃ p xs k, vs = [.ref p, .int k] ∧ ShAt K H p xs ∧ Shr xs ∧ AllF 90 xs ∧ -100 ≤ k ∧ k ≤ 100 ∧ ∀ H' r, Same H H' → FT K H' r (frest xs k) → Q (.ref r) H'
theorem Shr.abs {xs : List (Int × Fx)} (h : Shr xs) : ∀ a ∈ xs, a.1.natAbs ≤ 200 := fun a ha => by
  have := h.2.1 a ha
  omega
theorem Shr.len {xs : List (Int × Fx)} (h : Shr xs) : xs.length ≤ 16 := by have := h.1; omega
theorem scIsWholeWithin : FnScope ["thing", "least", "most"] ["thing", "least", "most"] (defScope sIsWholeWithin) := ⟨rfl, rfl, rfl, by decide +kernel, rfl, by decide +kernel, by decide +kernel⟩
theorem ok_is_whole_within {f f1 : Addr} {fd fd1 : FuncData} (F : Df K mg "is_whole_within" sIsWholeWithin ["thing", "least", "most"] f fd) (D1 : Df K mg "is_whole" sIsWhole ["thing"] f1 fd1) (T : Bt mg) : FnOk P w K mg base CX0 2 f fd ["thing", "least", "most"] spWW := by
  have G1 : FnOk P w K mg base CX0 1 f1 fd1 ["thing"] (spWhole K) := ok_is_whole D1 T
  refine F.F.ok scIsWholeWithin (fun vs H Q E h => ?_) (fun cdv A outer s H vs Q E hr h => ?_)
  · obtain ⟨i, l, m, rfl, _⟩ := h
    rfl
  · obtain ⟨i, l, m, rfl, k⟩ := h
    refine ⟨_, pss_one (ps_ret (pe_and (pe_call G1 hr (by rfl) D1.g D1.F.kp D1.b .nil pass0 (pa_cons (pv 0) pa_nil)) (pe_and (pe_cmpR op_le (pv 1) (pv 0) (nomark _)) (pe_one (pe_cmpR op_le (pv 0) (pv 2) (nomark _)))))), ?_⟩
    refine ⟨_, rfl, _, rfl, _, rfl, iteT ?_⟩
    refine ⟨_, rfl, _, rfl, _, _, rfl, rfl, _, rfl, ?_⟩
    by_cases h1 : l ≤ i
    · rw [decide_eq_true h1]
      refine iteT ⟨_, rfl, _, rfl, _, _, rfl, rfl, ?_⟩
      have e : decide (i ≤ m) = decide (l ≤ i ∧ i ≤ m) := by simp [h1]
      rw [← e] at k
      exact k
    · rw [decide_eq_false h1]
      refine iteF ?_
      rw [decide_eq_false (fun h => h1 h.1)] at k
      exact k
theorem cut1 (xs : List V) : cutV xs (some 1) none = xs.drop 1 := by
  unfold cutV
  have e1 : HT.sIx xs.length 0 (some 1) = min 1 xs.length := HT.sIx_nat xs.length 0 1
  rw [e1, HT.sIx_none]
  cases xs with
  | nil => rfl
  | cons a t =>
    have : min 1 (a :: t).length = 1 := by simp
    rw [this]
    simp
end
end CS
set_option Elab.async false
set_option maxRecDepth 100000
set_option maxHeartbeats 8000000
set_option linter.unusedVariables false
namespace CS
open PySem L2
abbrev bmO : List Value := [.type "OverflowError", .type "ArithmeticError", .type "Exception", .type "BaseException", .type "object"]
abbrev bmV : List Value := [.type "ValueError", .type "Exception", .type "BaseException", .type "object"]
theorem AllF.app {n : Nat} {xs ys : List (Int × Fx)} (h : AllF n xs) (g : AllF n ys) : AllF n (xs ++ ys) := fun a ha => (List.mem_append.mp ha).elim (h a) (g a)
theorem AllF.up {n m : Nat} {xs : List (Int × Fx)} (h : AllF n xs) (l : n ≤ m) : AllF m xs := fun a ha => ⟨(h a ha).1, (h a ha).2.up l⟩
section
variable {P : Program} {w : World} {K : PySem.W.Frag} {mg : Str → Option Value} {base : Heap}
/-- an exception class of the text with its __init__ -/
structure Xc (K : PySem.W.Frag) (mg : Str → Option Value) (x f : Str) (C fI : Addr) (bmB : List Value) (newId : String) (st : Stmt) (qual : Str) (fd : FuncData) : Prop where
  T : OwnX K mg x f C fI bmB newId
  F : Fun K "__init__" qual st fI fd
  b : Binds K fd ["self", f] []
/-- put together: the gathered share, or too many -/
def spPutT (K : PySem.W.Frag) (CT : Addr) : Sp := fun vs H Q E => ∃ p q xs ys, vs = [.ref p, .ref q] ∧ ShAt K H p xs ∧ ShAt K H q ys ∧ Shr xs ∧ Shr ys ∧ AllF 80 xs ∧ AllF 80 ys ∧ ∀ H' r zs, Same H H' → ShAt K H' r zs → IsS (gat [] (xs ++ ys)) zs →
  (zs.length ≤ 8 → Q (.ref r) H') ∧ (8 < zs.length → ∀ d, H' d = none → E (.ref CT) (some d) (upd H' d (.xd [("most", .int 8)])))
end
end CS
set_option Elab.async false
set_option maxRecDepth 100000
set_option maxHeartbeats 4000000
set_option linter.unusedVariables false
/-! Exceptions of the program's own as values: made, their fields read, asked for their classes; defs called in an except suite. -/
namespace CS
open PySem PySem.Spec PyProof.Rows L2
/-! the making of an exception whose built-in base has no __new__ of its own (KeyError: LookupError's) -/
abbrev bmK : List Value := [.type "KeyError", .type "LookupError", .type "Exception", .type "BaseException", .type "object"]
abbrev bmR : List Value := [.type "RuntimeError", .type "Exception", .type "BaseException", .type "object"]
open PySem.F in
theorem key_store : StoreFacts "KeyError" bmK "object.__setattr__" "object" := by
  constructor
  case mro => kernel_rfl
  case slot => exact .of (owner := "object") (n := "__setattr__") (by rw [typeLookup_type, builtinLookup_eq_fast]; kernel_rfl) (by decide +kernel) (by decide +kernel) (by decide +kernel) (by first | exact .inl (by decide +kernel) | exact .inr (by decide +kernel)) (by rw [isSubtype_type]; kernel_rfl)
  case entry => exact entry_object_sa
  case args => exact fun a b c => by unfold argsOk; kernel_rfl
  case passes => exact fun self => by kernel_rfl
  all_goals decide +kernel
/-- who makes the instances of a class whose built-in classes above are bmB -/
structure Maker (bmB : List Value) (newId : String) : Prop where
  facts : ∃ B initId bm0, ExcBaseFacts B newId initId bm0 ∧ bmB.contains (.type B) = true
  noA : bmB.contains (.type "AttributeError") = false
  noN : bmB.contains (.type "NameError") = false
theorem maker_V : Maker bmV "ValueError.__new__" := ⟨⟨_, _, _, PySem.F.excBase_ValueError, by decide +kernel⟩, by decide +kernel, by decide +kernel⟩
theorem maker_O : Maker bmO "OverflowError.__new__" := ⟨⟨_, _, _, PySem.F.excBase_OverflowError, by decide +kernel⟩, by decide +kernel, by decide +kernel⟩
theorem maker_R : Maker bmR "RuntimeError.__new__" := ⟨⟨_, _, _, PySem.F.excBase_RuntimeError, by decide +kernel⟩, by decide +kernel, by decide +kernel⟩
theorem maker_K : Maker bmK "LookupError.__new__" := ⟨⟨_, _, _, PySem.F.excBase_LookupError, by decide +kernel⟩, by decide +kernel, by decide +kernel⟩
end CS
namespace PySem
namespace CSX
open CS
section
variable {prog : Program} {w : World} {A : Around} {R : Result → Shared → Prop} {h : Heap} {g : Array GenState} {d : Drawn} {t : Nat} {os : OsState}
variable {nm q : Str} {C N fI : Addr} {bs bm bm0 : List Value} {hdct : Bool} {sn : List Str} {sub : List Value} {ab : Bool} {col : Option Bool} {dd : Option Addr} {k0 k1 k2 k3 k5 : Option Value} {B newId initId : String} {rest : List Value}
/-- the made object, not yet begun -/
theorem fresh_exc (F : ExcBaseFacts B newId initId bm0) (b1 : (Value.ref C :: bm).contains (.type B) = true) (b2 : (Value.ref C :: bm).contains (.type "AttributeError") = false) (b3 : (Value.ref C :: bm).contains (.type "NameError") = false)
    (hC : h.get? C = some (excClassObj nm q C N bs bm hdct sn sub ab col dd k0 k1 k2 k3 k5 newId)) (hz : rest.length ≤ sizeLine)
    (k : R (.ok (.ret (.ref (h.objs.size + 1)))) ⟨(h.push (PySem.W.kdv_tup rest)).push (PySem.HandSPX.excO C h.objs.size), g, d, t, os⟩) : codeAny (model prog w) A (.builtin newId ⟨.ref C :: rest, []⟩) R ⟨h, g, d, t, os⟩ := by
  have e0 := F.ends
  refine codeAny_builtinAt F.entry ?_
  unfold Builtin.«BaseException.__new__»
  refine wpAt_bind (show wpAt _ _ _ (stack >>= _) _ _ _ from wpAt_bind (wpAt_stack fun p below => wpAt_of_wpAny ?_))
  wp_walk
  refine wpAt_of_wpAny ?_
  rw [F.owner]
  repeat (first | with_reducible refine wpAny_madeHere_exc F.canon hC ?_ | with_reducible refine wpAny_loadPart_at hC ?_
                | (with_reducible refine wpAny_isSubtype_exc hC ?_; first | rw [b1] | rw [b2] | rw [b3]) | wp_step)
  rw [← Heap.size_push] at k
  exact k
theorem may_make (F : ExcBaseFacts B newId initId bm0) (b1 : (Value.ref C :: bm).contains (.type B) = true) {M : Model} {E : Value → Shared → Prop} {Q : Unit → Shared → Prop}
    (hC : h.get? C = some (excClassObj nm q C N bs bm hdct sn sub ab col dd k0 k1 k2 k3 k5 newId)) (k : Q () ⟨h, g, d, t, os⟩) : wpAny M A (checkBuiltinCall newId ⟨.ref C :: rest, []⟩) Q E ⟨h, g, d, t, os⟩ := by
  have e0 := F.noStar
  simp only [checkBuiltinCall, F.newKind, F.newSplit, F.newRow]
  repeat (first | (refine wpAny_isSubtype_exc hC ?_; rw [b1]) | refine wpAny_loadPart_at hC ?_ | refine wpAny_madeBy_exc hC ?_ | refine wpAny_staticBase_exc hC ?_
                | simp only [bne_self_eq_false, Bool.false_eq_true, if_false] | wp_step)
  exact k
/-- C(..), its __init__ a def -/
theorem call_made (m : CS.Maker bm0 newId) (hT : ∀ X : String, bm.contains (.type X) = bm0.contains (.type X)) (hC : h.get? C = some (excClassObj nm q C N bs bm hdct sn sub ab col dd k0 k1 k2 k3 k5 newId))
    (hi : PySem.W.Looks (model prog w) h (typeLookup (.ref C) "__init__") (some (.ref fI))) (hb : ∀ self, PySem.W.Looks (model prog w) h (bindSpecial (.ref fI) self) (.ref fI, [self])) (hz : rest.length ≤ sizeLine)
    (k : codeAny (model prog w) (A.under (.builtin "type.__call__" ⟨.ref C :: rest, []⟩)) (.call (.ref fI) ⟨.ref (h.objs.size + 1) :: rest, []⟩) (PySem.W.InitBack (h.objs.size + 1) R) ⟨(h.push (PySem.W.kdv_tup rest)).push (PySem.HandSPX.excO C h.objs.size), g, d, t, os⟩) :
    codeAny (model prog w) A (.call (.ref C) ⟨rest, []⟩) R ⟨h, g, d, t, os⟩ := by
  obtain ⟨⟨B, initId, bmF, F, hB⟩, nA, nN⟩ := m
  have c1 : (Value.ref C :: bm).contains (.type B) = true := by rw [List.contains_cons, hT, hB, Bool.or_true]
  have c2 : (Value.ref C :: bm).contains (.type "AttributeError") = false := by rw [List.contains_cons, hT, nA]; rfl
  have c3 : (Value.ref C :: bm).contains (.type "NameError") = false := by rw [List.contains_cons, hT, nN]; rfl
  have c4 : (Value.ref C :: bm).contains (.ref C) = true := by simp
  have z1 := PySem.tc_lookup
  have z2 := PySem.tc_bind (.ref C)
  have z3 : (⟨h, g, d, t, os⟩ : Shared).TypeIs (.ref C) "type" := ⟨_, hC, rfl⟩
  have up : ∀ b o, h.get? b = some o → ((h.push (PySem.W.kdv_tup rest)).push (PySem.HandSPX.excO C h.objs.size)).get? b = some o := fun b o e => Heap.get?_push_of_some _ (Heap.get?_push_of_some _ e)
  have at_ : ((h.push (PySem.W.kdv_tup rest)).push (PySem.HandSPX.excO C h.objs.size)).get? (h.objs.size + 1) = some (PySem.HandSPX.excO C h.objs.size) := by heap_get
  have hC1 := up _ _ hC
  refine codeAny_of_tree (show wpAny _ _ (callAny (.ref C) _) _ _ _ from ?_)
  repeat (any_goals (first | assumption | with_reducible refine wpAny_loadPart_at hC ?_ | wp_step))
  refine ⟨rfl, codeAny_call_builtin_at (Code.quiet_builtin _ (by decide +kernel)) PySem.entry_typeCall (wpAny_check_type_call_sub hC ?_)⟩
  repeat (first | with_reducible refine wpAny_madeBy_exc hC ?_ | with_reducible refine wpAny_loadPart_at hC ?_ | wp_step)
  refine codeAny_call_builtin_code (Code.quiet_builtin _ F.quiet) (may_make F c1 hC (fresh_exc F c1 c2 c3 hC hz ?_))
  show wpAny _ _ _ _ _ _
  unfold isInstance
  repeat (first | with_reducible refine wpAny_loadPart_at at_ ?_ | (with_reducible refine wpAny_isSubtype_exc hC1 ?_; rw [c4]) | wp_step)
  refine wpAny_isSubtype_exc hC1 ?_
  rw [c4]
  repeat wp_step
  refine show wpAny _ _ (typeLookup (.ref C) _) _ _ _ from (hi.keeps up).at (wpAny_holding (wpAny_bind (((hb (.ref (h.objs.size + 1))).keeps up).at (wpAny_bind (wpAny_call (codeAny_mono k fun r s' z => ?_))))))
  match r, z with
  | .error e, z => exact z
  | .ok (.ret v), ⟨e1, z⟩ =>
    subst e1
    first
      | exact wpAny_pure (wpAny_pure z)
      | (wp_walk; exact z)
  | .ok .next, z => exact z.elim
  | .ok .brk, z => exact z.elim
  | .ok .cont, z => exact z.elim
end
end CSX
end PySem
set_option Elab.async false
set_option maxRecDepth 100000
set_option maxHeartbeats 4000000
set_option linter.unusedVariables false
namespace CS
open PySem PySem.Spec PyProof.Rows L2
/-- what stands at a is an exception of the class at C, its dict at d -/
def ExAt (o : HO) (a C : Addr) (d : Option Addr) : Prop := ∀ (P : Program) (w : World) (H : Hp) (h : Heap), ObjOk P w H h a o → ∃ oe, h.get? a = some oe ∧ Zc (.ref C) d oe ∧ ∃ vs, oe.data = .fields vs
theorem exAt_exo {a C : Addr} {d : Option Addr} : ExAt (exo a C d) a C d := fun P w H h x => by
  obtain ⟨t1, e⟩ := (show (∃ t1 : Addr, h.get? a = some ({ cls := .ref C, dict := d, data := .fields #[.ref t1, .none, .none, .none, .bool false, .none] } : Obj)) ∧ _ from x).1
  exact ⟨_, e, ⟨rfl, rfl⟩, _, rfl⟩
theorem exAt_O {a C : Addr} : ExAt (ExO (.ref C) a) a C none := fun P w H h x => by
  obtain ⟨oe, vs, e, z, dt, _⟩ := (show (∃ (oe : Obj) (vs : Array Value), h.get? a = some oe ∧ Zc (.ref C) none oe ∧ oe.data = .fields vs ∧ vs[1]? = some .none ∧ vs[2]? = some .none ∧ 4 < vs.size) ∧ _ from x).1
  exact ⟨oe, e, z, vs, dt⟩
/-- an exception that is tracked, or the one that a suite holds -/
def ExIs (pn : List (Addr × Obj)) (H : Hp) (a C : Addr) (d : Option Addr) : Prop := ((∃ o, H a = some o ∧ ExAt o a C d) ∨ ∃ oe, (a, oe) ∈ pn ∧ Zc (.ref C) d oe ∧ ∃ vs, oe.data = .fields vs) ∧ ∀ dd, d = some dd → ∃ o, H dd = some o
theorem ExIs.same {pn : List (Addr × Obj)} {H H' : Hp} {a C : Addr} {d : Option Addr} (x : ExIs pn H a C d) (e : Same H H') : ExIs pn H' a C d :=
  ⟨x.1.imp (fun ⟨o, h, r⟩ => ⟨o, e _ _ h, r⟩) id, fun dd z => let ⟨o, h⟩ := x.2 dd z; ⟨o, e _ _ h⟩⟩
section
variable {X : Cx} {pins : List (Addr × Obj)} {σ : L2.St} {H : Hp} {s : Shared} {a C : Addr} {d : Option Addr}
theorem ExIs.inst (x : ExIs X.pn H a C d) (I : Inv X pins σ H s) : ∃ oe od, PySem.W.InstAt s.heap a oe C od ∧ (∀ dd, d = some dd → s.heap.get? dd = od) := by
  obtain ⟨oe, e, z, vs, dt⟩ : ∃ oe, s.heap.get? a = some oe ∧ Zc (.ref C) d oe ∧ ∃ vs, oe.data = .fields vs := by
    rcases x.1 with ⟨o, h, r⟩ | ⟨oe, m, z, k⟩
    · exact r _ _ _ _ (I.hok a o h)
    · exact ⟨oe, (I.pin (a, oe) (List.mem_append_left _ m)).1, z, k⟩
  have nc : PySem.W.notCls oe = true := by unfold PySem.W.notCls; rw [dt] <;> rfl
  cases d with
  | none => exact ⟨oe, none, ⟨e, z.1, nc, by rw [z.2]; trivial⟩, fun _ q => nomatch q⟩
  | some dd =>
    obtain ⟨o, h⟩ := x.2 dd rfl
    obtain ⟨od, g⟩ := objOk_get (I.hok dd o h)
    exact ⟨oe, some od, ⟨e, z.1, nc, by rw [z.2]; exact g⟩, fun d2 q => by cases q; exact g⟩
/-- isinstance(e, C) of an exception -/
def rIsX (K : PySem.W.Frag) (pn : List (Addr × Obj)) : List V → Hp → VK → Prop := fun xs H Q => ∃ (a C : Addr) (d : Option Addr) (c : V) (u : Value) (b : Bool), xs = [.ref a, c] ∧ ClsV c u ∧ ExIs pn H a C d ∧ ExcC K C ∧ PySem.W.kitOne K (.ref C) u = some b ∧ Q (.bl b) H
theorem call_isX : CallR X (.builtin "isinstance") (rIsX X.K X.pn) := by
  intro pins s σ H xs us Q I r ⟨a, C, d, c, u, b, ex, k, x, T, e, q⟩
  subst ex
  obtain ⟨u1, u2, rfl, r1, r2⟩ := vals2 r
  cases (show u1 = Value.ref a from r1)
  cases k.eq r2
  obtain ⟨oe, od, J, _⟩ := x.inst I
  obtain ⟨cd, hc, _⟩ := PySem.W.any_some T.hd
  exact PySem.W.kia_one (PySem.W.kitx_exc (by rw [hc]; rfl) T.hg T.hk T.hs T.ha T.hn T.ht T.hm) I.kIn J e (fun z => nomatch z) fun tk => ⟨.bl b, H, I.tok tk, rfl, q⟩
/-- e.f of an exception -/
def tFld (K : PySem.W.Frag) (pn : List (Addr × Obj)) (f : Str) (te : TE) : TE := fun σ H Q => te σ H fun x H1 => ∃ (a C dd : Addr) (fs : List (Str × V)) (v : V), x = .ref a ∧ ExIs pn H1 a C (some dd) ∧ XfC K C ∧ PySem.W.findIn K (.ref C) f = some none ∧ (H1 dd = some (.xd fs) ∨ H1 dd = some (exd dd fs)) ∧ fs.lookup f = some v ∧ Q v H1
theorem pe_fld {e : Expr} {te : TE} {pos : PySem.Pos} {n : Str} (he : PE X e te) (hb : attributeBase e n X.env (eval e X.env) = eval e X.env := by rfl) : PE X (.Attribute e n pos) (tFld X.K X.pn n te) := by
  refine ⟨fun pins s σ H Q I h => attr_of hb (thn (he.run pins s σ H _ I h) fun u s1 ⟨x, H1, I1, rx, a, C, dd, fs, v, ex, ei, T, no, ed, l, q⟩ => ?_)⟩
  subst ex
  cases (show u = Value.ref a from rx)
  obtain ⟨oe, od, J, g⟩ := ei.inst I1
  have g2 := g dd rfl
  obtain ⟨mA, hn, hr⟩ : ∃ mA, s1.heap.Ns1 dd mA ∧ ∀ f, RelO (fs.lookup f) (mA f) := by
    rcases ed with ed | ed
    · exact (show ObjOk X.prog X.w H1 s1.heap dd (.xd fs) from I1.hok dd _ ed)
    · exact exd_at I1.hok ed
  obtain ⟨od2, ho, hl⟩ := lookIn_ns hn
  have e2 : od = some od2 := g2.symm.trans ho
  subst e2
  obtain ⟨u2, hu, ru⟩ := RelO.some_of (v := v) (o := mA n) (by rw [← l]; exact hr n)
  exact HandSPX.exc_get I1.kIn J T.ga T.gg T.exC (PySem.W.findObj_own T.hdC no rfl (by rw [hl, hu])) (handed_of ru) ⟨v, H1, I1.tok _, ru, q⟩
end
section
variable {X : Cx} {pins : List (Addr × Obj)} {σ : L2.St} {H : Hp} {s : Shared} {a C fI : Addr} {x f : Str} {bmB : List Value} {B newId initId : String}
/-- C(..) as a value; W: what is asked of the arguments -/
theorem pe_mkV {W : List V → Hp → VK → Prop} {e : Expr} {es : List Expr} {ta : TA} {p pos : PySem.Pos} {k : Nat} {fd : FuncData} {ps : List Str} {sp : Sp} (M : Maker bmB newId) (T : OwnX X.K X.mg x f C fI bmB newId) (G : FnOk X.prog X.w X.K X.mg X.base CX0 k fI fd ps sp) (hb : Binds X.K fd ps []) (hr : Room (k + 1) X.A) (hg : Gl X x) (ha : PA X (e :: es) ta) (hW : ∀ vs H1 Q, W vs H1 Q → vs.length ≤ 1000 ∧ ∀ a, H1 a = none → sp (.ref a :: vs) (upd H1 a (exo a C none)) (fun v H2 => v = .non ∧ Q (.ref a) H2) (fun _ _ _ => False))
    (hdb : (x == ("__debug__" : Str)) = false := by decide) (he : starEach (e :: es) X.env = (false, eval e X.env) :: starEach es X.env := by rfl) (hpl : (backTo pos (starEach es X.env)).any (·.1) = false := by rfl) : PE X (.Call (.Name x p) (e :: es) [] pos) (fun σ H Q => ta σ H fun vs H1 => W vs H1 Q) := by
  refine ⟨fun pins s σ H Q I h => ?_⟩
  refine wpAny_Call_Name_kw (ld_glob I hg T.gC (PySem.W.callWith_K (h₀ := X.base) I.ok.mod.kin T.kC (thn (ha.run pos pins s σ H _ I h) fun us s1 ⟨vs, H1, I1, r1, hw⟩ => ⟨I1.kIn, ?_⟩) he hpl) hdb)
  obtain ⟨hl, q⟩ := hW _ _ _ hw
  obtain ⟨nm, N, qn, bs, bm, hdct, sn, sub, ab, col, dd, k0, k1, k2, k3, k5, hC, hT⟩ := PySem.W.excInit_of I1.kIn T.ini
  have hus : us.length ≤ sizeLine := by
    rw [← r1.length, sizeLine_eq]
    omega
  obtain ⟨hp, g, dr, tk, os⟩ := s1
  obtain ⟨a, ea⟩ : ∃ a, a = hp.objs.size + 1 := ⟨_, rfl⟩
  obtain ⟨h2, eh⟩ : ∃ h2, h2 = (hp.push (PySem.W.kdv_tup us)).push (PySem.HandSPX.excO C hp.objs.size) := ⟨_, rfl⟩
  have kp : ∀ b o, hp.get? b = some o → h2.get? b = some o := fun b o z => by
    rw [eh]
    exact Heap.get?_push_of_some _ (Heap.get?_push_of_some _ z)
  have at_ : h2.get? a = some (PySem.HandSPX.excO C hp.objs.size) := by
    rw [eh, ea]
    heap_get
  have big : hp.objs.size ≤ a := by rw [ea]; exact Nat.le_succ _
  have na : H1 a = none := I1.hok.fresh big
  have I2 : Inv X pins σ (upd H1 a (exo a C none)) ⟨h2, g, dr, tk, os⟩ := I1.laid (t' := tk) kp big (exo_ok at_)
  have hsp := q a na
  have len := G.len _ _ _ _ hsp
  have run := G.run (A := X.A.under (.builtin "type.__call__" ⟨.ref C :: us, []⟩)) (outer := X.stack) (s := ⟨h2, g, dr, tk, os⟩) (args := ⟨.ref a :: us, []⟩) (us := .ref a :: us) (vs := .ref a :: vs) (Q := fun v H2 => v = .non ∧ Q (.ref a) H2) (E := fun _ _ _ => False) (H := upd H1 a (exo a C none)) (hr.make C us []) (I2.env0.make C us [])
    (by have := hb ⟨h2, g, dr, tk, os⟩ (.ref a :: us) I2.kIn (by rw [List.append_nil, List.length_cons, ← r1.length]; exact len); rw [List.append_nil] at this; exact this) (.cons rfl r1) hsp
  show wpAny _ _ (call (.ref C) us) _ _ _
  refine wpAny_call (PySem.CSX.call_made M hT hC (PySem.W.looks_findIn I1.kIn T.iC) (fun self => PySem.W.bind_fn I1.kIn self T.tI) hus ?_)
  rw [← ea, ← eh]
  refine codeAny_mono run fun r s' hq => ?_
  match r, hq with
  | .error er, hq => exact hq.elim
  | .ok .next, hq => exact hq.elim
  | .ok .brk, hq => exact hq.elim
  | .ok .cont, hq => exact hq.elim
  | .ok (.ret z), ⟨v2, H2, os2, bare2, un2, hok2, rv, ev2, q2⟩ =>
    subst ev2
    exact ⟨rv, .ref a, H2, I1.call' (ch := []) os2 (Un.trans (Un.laid kp big na) un2) hok2 bare2 (fun b z => absurd z (by simp)), rfl, q2⟩
end
/-! a further field -/
section
variable {X : Cx} {pins : List (Addr × Obj)} {σ : L2.St} {H : Hp} {s : Shared} {a C dx fI : Addr} {x f f2 : Str} {y : V} {u : Value} {bmB : List Value} {B newId : String} {fs : List (Str × V)}
theorem put_more {A : Around} {Q : Unit → Shared → Prop} {E : Value → Shared → Prop} (SF : StoreFacts B bmB "object.__setattr__" "object") (T : OwnX X.K X.mg x f C fI bmB newId) (tk2 : PySem.W.takerIn X.K C f2 = some none) (I : Inv X pins σ H s) (e : H a = some (exo a C (some dx))) (ed : H dx = some (exd dx fs)) (hl : fs.length ≤ 900) (ry : RelV y u)
    (h : ∀ s', Inv X pins σ (upd H dx (exd dx ((f2, y) :: fs))) s' → Q () s') : wpAny (model X.prog X.w) A (setAttr (.ref a) f2 u) Q E s := by
  obtain ⟨t1, ho⟩ := exo_at I.hok e
  obtain ⟨mA, hns, rel⟩ := exd_at I.hok ed
  have hw := within_of rel
  obtain ⟨hp, g, d, t, os⟩ := s
  obtain ⟨oD, _, _, hoD, _, _⟩ := hns.count hw
  obtain ⟨cd, hc, hd⟩ := PySem.W.any_some T.xf.hdC
  refine PySem.W.set_plain I.kIn (od := some oD) ⟨ho, rfl, rfl, hoD⟩ T.sa ?_
  refine PySem.W.osa_openX SF I.kIn (od := some oD) ⟨ho, rfl, rfl, hoD⟩ T.ovr tk2 fun b => ?_
  have there : ∀ {Q2 : Option Addr → Shared → Prop} {E2 : Value → Shared → Prop} {A2 : Around} {t2 : Nat}, Q2 (some dx) ⟨hp, g, d, t2, os⟩ → wpAny (model X.prog X.w) A2 (instanceDict a true) Q2 E2 ⟨hp, g, d, t2, os⟩ := fun {Q2 E2 A2 t2} k => by
    unfold instanceDict
    refine wpAny_bind (wpAny_loadPart ho ?_)
    refine wpAny_bind ((PySem.W.looks_clsIn I.kIn hc).at ?_)
    rw [hd]
    exact wpAny_pure k
  refine wpAny_bind (wpAny_pure (wpAny_bind (there ?_)))
  show wpAny _ _ (Builtin.ObjectAttr.storeInDict dx _ f2 u) _ _ _
  refine PySem.OEX.store_in_old hns hw (by rw [List.length_map]; omega) fun h3 tk3 hn3 hs3 => ?_
  obtain ⟨o3, es3, ep3, q3, r3⟩ := id hn3
  have I3 := I.write (x := dx) (e := dx) (o := exd dx ((f2, y) :: fs)) (t' := tk3) (h' := h3) (by rw [ed]; exact True.intro) (.inl rfl) (fun b o hb q => (hs3.2 b hb).trans q) ⟨_, q3⟩ (exd_ok hn3 (relO_put ry rel))
  exact h _ I3
/-- self.f2 = e, self an exception that has fields -/
def tMore (C : Addr) (f2 : Str) (to te : TE) : TS := fun D σ H => te σ H fun y H1 => to σ H1 fun x H2 => ∃ a dx fs, x = .ref a ∧ H2 a = some (exo a C (some dx)) ∧ H2 dx = some (exd dx fs) ∧ fs.length ≤ 900 ∧ D.nx σ (upd H2 dx (exd dx ((f2, y) :: fs)))
theorem ps_more {o e : Expr} {to te : TE} {p' pos : PySem.Pos} (SF : StoreFacts B bmB "object.__setattr__" "object") (T : OwnX X.K X.mg x f C fI bmB newId) (tk2 : PySem.W.takerIn X.K C f2 = some none) (ho : PE X o to) (he : PE X e te) (hs : swapsWith e (some (.Attribute o f2 p')) pos.line X.env = pure false := by rfl) : PS X (.Assign [.Attribute o f2 p'] e pos) (tMore C f2 to te) := by
  refine ⟨fun pins s σ H D I h => ?_⟩
  refine plainObj_wpAny_Assign_Attribute (thn (he.run pins s σ H _ I h) fun v s1 ⟨y, H1, I1, r1, q1⟩ => thn (ho.run pins s1 σ H1 _ I1 q1) fun w2 s2 ⟨z, H2, I2, r2, a, dx, fs, ez, ea, ed, hl, q⟩ => ?_) hs
  subst ez
  cases (show w2 = Value.ref a from r2)
  exact put_more SF T tk2 I2 ea ed hl r1 fun s' J => ⟨σ, _, J, q⟩
end
/-! defs called in an except suite -/
/-- such a def's promise: sp is told what the suite holds -/
structure FnS (P : Program) (w : World) (K : PySem.W.Frag) (mg : Str → Option Value) (base : Heap) (k : Nat) (f : Addr) (fd : FuncData) (ps : List Str) (sp : List (Addr × Obj) → Sp) : Prop where
  many : ∀ pn vs H Q E, sp pn vs H Q E → vs.length = ps.length
  go : ∀ {A outer s H args us vs Q p}, L2H.RoomH k A → L2H.PinOk outer H s p → Env0 P w K mg base A outer s H → BindsTo s fd args (ps.zip us) → Vals vs us → sp [p] vs H Q E0 → codeAny (model P w) A (.call (.ref f) args) (CR CX0 outer P w H s Q E0) s
section
variable {P : Program} {w : World} {K : PySem.W.Frag} {mg : Str → Option Value} {base : Heap} {k : Nat} {f : Addr} {fd : FuncData} {ps N : List Str} {sp : List (Addr × Obj) → Sp} {x qual : Str} {st : Stmt}
theorem FnS.of_body (F : Fun K x qual st f fd) (S : FnScope N ps (defScope st)) (many : ∀ pn vs H Q E, sp pn vs H Q E → vs.length = ps.length)
    (body : ∀ cdv A outer s H vs Q p, L2H.RoomH k (A.deeper (envOfC qual (defScope st) s.heap.objs.size f cdv)) → sp [p] vs H Q E0 → ∃ t, PSs (L2H.cxH CX0 P w K mg base N qual (defScope st) f cdv A outer s H E0 p) (defBody st) t ∧ t { nx := fun _ H' => Q .non H', rt := Q } (start N vs) H) :
    FnS P w K mg base (k + 1) f fd ps sp := by
  obtain ⟨oc, od, kV, doc, pm, an, cdv, ct, osl, efd, at_, code⟩ := F.ex
  subst efd
  constructor
  · exact many
  intro A outer s H args us vs Q p room pin env bound vals h
  have inn : K.In s.heap := env.mod.kin.keeps fun b o e => (env.bs b o e).1
  have nolim : s.heap.NoLimit := env.mod.nolimit.keeps fun b o e => (env.bs b o e).1
  have pars : ∀ y ∈ ps.zip us, (defScope st).names.lookup y.1 = some .local ∨ ((defScope st).names.lookup y.1 = some .cell ∧ ((cellsFrom (s.heap.objs.size + 1) (defScope st).names []).lookup y.1).isSome = true) := by
    rintro ⟨n, v⟩ hy
    exact (S.par n (List.of_mem_zip hy).1).imp id fun c => ⟨c, PySem.W.cellsFrom_some _ _ _ (.inl c)⟩
  refine codeAny_call_function room.depth (inn _ _ at_) rfl S.co S.gen rfl (PySem.W.codeRec_of inn code) (bound _ _ _ _ (wpAny_newFunctionEnv_cells S.kind pars ?_))
  rintro env2 rfl s1 laid
  refine ⟨nolim.keeps laid.toInCall.keep, codeAny_func ?_⟩
  obtain ⟨t, run, now⟩ := body cdv A outer s H vs Q p (room.deeper _) h
  have I := L2H.inv_startH (CX := CX0) (E := E0) S pin env (many _ _ _ _ _ h) vals laid
  refine wpAny_mono (run.run [] s1 _ H _ I now) (fun fl s' e => ?_) fun _ _ e => e
  have J : ∃ u v, (fl = .ret u ∨ (fl = .next ∧ u = Value.none)) ∧ RelV v u ∧ CE outer P w H s Q u s' := by
    cases fl with
    | ret u =>
      obtain ⟨v, _, H', J, rv, q⟩ := e
      exact ⟨u, v, .inl rfl, rv, v, H', J.os, J.bare, J.base, J.hok, rv, q⟩
    | next =>
      obtain ⟨_, H', J, q⟩ := e
      exact ⟨.none, .non, .inr ⟨rfl, rfl⟩, rfl, .non, H', J.os, J.bare, J.base, J.hok, rfl, q⟩
    | brk => exact absurd e (fun ⟨_, _, _, z⟩ => z)
    | cont => exact absurd e (fun ⟨_, _, _, z⟩ => z)
  obtain ⟨u, v, e1, _, e2⟩ := J
  rcases e1 with rfl | ⟨rfl, rfl⟩
  · exact e2
  · exact e2
end
section
variable {X : Cx} {k : Nat} {f : Addr} {fd : FuncData} {ps : List Str} {sp : List (Addr × Obj) → Sp} {x : Str} {p pos : PySem.Pos} {e : Expr} {es : List Expr} {t : TA} {pin : Addr × Obj}
/-- f(e, ..) in a suite -/
theorem pe_callS {W : List V → Hp → VK → Prop} (F : FnS X.prog X.w X.K X.mg X.base k f fd ps sp) (hp : pin ∈ X.pn) (hr : L2H.RoomH k X.A) (hg : Gl X x) (hm : X.mg x = some (.ref f)) (hk : PySem.W.keepIn X.K (.ref f) = true) (hb : Binds X.K fd ps []) (ha : PA X (e :: es) t) (hW : ∀ vs H Q, W vs H Q → sp [pin] vs H Q E0)
    (he : starEach (e :: es) X.env = (false, eval e X.env) :: starEach es X.env := by rfl) (hpl : (backTo pos (starEach es X.env)).any (·.1) = false := by rfl) (hdb : (x == ("__debug__" : Str)) = false := by decide) : PE X (.Call (.Name x p) (e :: es) [] pos) (fun σ H Q => t σ H fun vs H1 => W vs H1 Q) := by
  constructor
  intro pins s σ H Q I h
  refine wpAny_Call_Name_kw (ld_glob I hg hm (PySem.W.callWith_K (h₀ := X.base) I.ok.mod.kin hk (thn (ha.run pos pins s σ H _ I h) fun us s1 ⟨vs, H1, J, rv, now⟩ => ⟨J.kIn, ?_⟩) he hpl) hdb)
  have now2 : sp [pin] vs H1 Q E0 := hW _ _ _ now
  have b2 : BindsTo s1 fd ⟨us, []⟩ (ps.zip us) := by
    have z := hb s1 us J.kIn (by rw [List.append_nil, ← rv.length]; exact F.many _ _ _ _ _ now2)
    rw [List.append_nil] at z
    exact z
  have P1 := J.pin pin (List.mem_append_left _ hp)
  have ok : L2H.PinOk X.stack H1 s1 pin := ⟨P1.1, P1.2.1, fun hm => (List.mem_cons.mp (J.stkSub pin.1 hm)).elim P1.2.2.1 P1.2.2.2.1, P1.2.2.2.2⟩
  show wpAny _ _ (call (.ref f) us) _ _ _
  refine wpAny_call (codeAny_mono (F.go hr ok J.env0 b2 rv now2) fun r s' z => ?_)
  match r, z with
  | .error er, z => exact z.elim
  | .ok (.ret u), z => exact J.after z
  | .ok .next, z => exact z.elim
  | .ok .brk, z => exact z.elim
  | .ok .cont, z => exact z.elim
end
end CS
set_option Elab.async false
set_option maxRecDepth 100000
set_option maxHeartbeats 4000000
set_option linter.unusedVariables false
/-! an own exception with two fields -/
namespace CS
open PySem PySem.Spec PyProof.Rows L2
section
variable {P : Program} {w : World} {K : PySem.W.Frag} {mg : Str → Option Value} {base : Heap}
structure Xc2 (K : PySem.W.Frag) (mg : Str → Option Value) (x f f2 : Str) (C fI : Addr) (bmB : List Value) (newId : String) (st : Stmt) (qual : Str) (fd : FuncData) : Prop where
  T : OwnX K mg x f C fI bmB newId
  F : Fun K "__init__" qual st fI fd
  b : Binds K fd ["self", f, f2] []
  tk2 : PySem.W.takerIn K C f2 = some none
  no2 : PySem.W.findIn K (.ref C) f2 = some none
theorem scI20 : FnScope ["self", "line", "word"] ["self", "line", "word"] (defScope (inClass sBadText 0)) := ⟨rfl, rfl, rfl, by decide +kernel, rfl, by decide +kernel, by decide +kernel⟩
def spPut2 (C : Addr) : Sp := fun vs H Q _ => ∃ a y z, vs = [.ref a, y, z] ∧ H a = some (exo a C none) ∧ ∀ dx H', H dx = none → dx ≠ a → H' a = some (exo a C (some dx)) → H' dx = some (exd dx [("word", z), ("line", y)]) → (∀ b, b ≠ a → b ≠ dx → H' b = H b) → Q .non H'
theorem ini_20 {C g : Addr} {fd : FuncData} (Z : Xc2 K mg "BadText" "line" "word" C g bmV "ValueError.__new__" (inClass sBadText 0) "BadText.__init__" fd) : FnOk P w K mg base CX0 1 g fd ["self", "line", "word"] (spPut2 C) := by
  refine Z.F.ok scI20 (fun vs H Q E h => ?_) (fun cdv A outer s H vs Q E hr h => ?_)
  · obtain ⟨a, y, z, rfl, _⟩ := h
    rfl
  · obtain ⟨a, y, z, rfl, ea, k⟩ := h
    refine ⟨_, pss_cons (ps_put PySem.F.store_ValueError Z.T (pv 0) (pv 1)) (pss_one (ps_more PySem.F.store_ValueError Z.T Z.tk2 (pv 0) (pv 2))), ?_⟩
    refine ⟨_, rfl, _, rfl, a, rfl, ea, fun dx H1 st => ?_⟩
    obtain ⟨s1, s2, s3, s4, s5⟩ := st
    refine ⟨_, rfl, _, rfl, a, dx, _, rfl, s3, s4, (by show 1 ≤ 900; decide), ?_⟩
    refine k dx _ s1 s2 (by rw [upd_ne (Ne.symm s2)]; exact s3) upd_same fun b h1 h2 => by rw [upd_ne h2]; exact s5 b h1 h2
end
section
variable {X : Cx} {pins : List (Addr × Obj)} {σ : L2.St} {H : Hp} {s : Shared} {a C fI : Addr} {x f : Str} {y : V} {u : Value} {bmB : List Value} {B newId initId : String}
def tMkX2 (C : Addr) (ta : TA) : L2.St → Hp → XK → Prop := fun σ H Q => ta σ H fun vs H1 => ∃ v v0, vs = [v, v0] ∧ ∀ d, H1 d = none → Q (.ref C) (some d) (upd H1 d (.xd [("word", v0), ("line", v)]))
theorem pmk_own2 {e e2 : Expr} {ta : TA} {p pos : PySem.Pos} {k : Nat} {fd : FuncData} (FB : ExcBaseFacts B newId initId bmB) (T : OwnX X.K X.mg x f C fI bmB newId) (G : FnOk X.prog X.w X.K X.mg X.base CX0 k fI fd ["self", "line", "word"] (spPut2 C)) (hb : Binds X.K fd ["self", "line", "word"] []) (hr : Room (k + 1) X.A) (hg : Gl X x) (ha : PA X [e, e2] ta)
    (hdb : (x == ("__debug__" : Str)) = false := by decide) (he : starEach [e, e2] X.env = (false, eval e X.env) :: starEach [e2] X.env := by rfl) (hpl : (backTo pos (starEach [e2] X.env)).any (·.1) = false := by rfl) : PMk X (.Call (.Name x p) [e, e2] [] pos) (tMkX2 C ta) := fun pins s σ H Q I h => by
  refine wpAny_Call_Name_kw (ld_glob I hg T.gC (PySem.W.callWith_K (h₀ := X.base) I.ok.mod.kin T.kC (thn (ha.run pos pins s σ H _ I h) fun us s1 ⟨vs, H1, I1, r1, v, v0, ev, q⟩ => ⟨I1.kIn, ?_⟩) he hpl) hdb)
  subst ev
  obtain ⟨nm, N, qn, bs, bm, hdct, sn, sub, ab, col, dd, k0, k1, k2, k3, k5, hC, hT⟩ := PySem.W.excInit_of I1.kIn T.ini
  have hus : us.length ≤ sizeLine := by
    rw [← r1.length]
    show 2 ≤ sizeLine
    decide
  obtain ⟨hp, g, dr, tk, os⟩ := s1
  obtain ⟨a, ea⟩ : ∃ a, a = hp.objs.size + 1 := ⟨_, rfl⟩
  obtain ⟨h2, eh⟩ : ∃ h2, h2 = (hp.push (PySem.W.kdv_tup us)).push (PySem.HandSPX.excO C hp.objs.size) := ⟨_, rfl⟩
  have big : hp.objs.size ≤ a := by rw [ea]; exact Nat.le_succ _
  have kp : ∀ b o, hp.get? b = some o → h2.get? b = some o := fun b o z => by
    rw [eh]
    exact Heap.get?_push_of_some _ (Heap.get?_push_of_some _ z)
  have at_ : h2.get? a = some (PySem.HandSPX.excO C hp.objs.size) := by
    rw [eh, ea]
    heap_get
  have na : H1 a = none := I1.hok.fresh big
  have I2 : Inv X pins σ (upd H1 a (exo a C none)) ⟨h2, g, dr, tk, os⟩ := I1.laid (t' := tk) kp big (exo_ok at_)
  have hsp : spPut2 C [.ref a, v, v0] (upd H1 a (exo a C none)) (fun v2 H2 => v2 = .non ∧ ∃ dx, (upd H1 a (exo a C none)) dx = none ∧ dx ≠ a ∧ H2 a = some (exo a C (some dx)) ∧ H2 dx = some (exd dx [("word", v0), ("line", v)]) ∧ ∀ b, b ≠ a → b ≠ dx → H2 b = (upd H1 a (exo a C none)) b) (fun _ _ _ => False) := ⟨a, v, v0, rfl, upd_same, fun dx H' x1 x2 x3 x4 x5 => ⟨rfl, dx, x1, x2, x3, x4, x5⟩⟩
  have run := G.run (A := X.A.under (.builtin "type.__call__" ⟨.ref C :: us, []⟩)) (outer := X.stack) (s := ⟨h2, g, dr, tk, os⟩) (args := ⟨.ref a :: us, []⟩) (us := .ref a :: us) (vs := [.ref a, v, v0]) (Q := _) (E := fun _ _ _ => False) (H := upd H1 a (exo a C none)) (hr.make C us []) (I2.env0.make C us [])
    (by have := hb ⟨h2, g, dr, tk, os⟩ (.ref a :: us) I2.kIn (by rw [List.append_nil, List.length_cons, ← r1.length]; rfl); rw [List.append_nil] at this; exact this) (.cons rfl r1) hsp
  show wpAny _ _ (call (.ref C) us) _ _ _
  refine wpAny_call (PySem.HandSPX.call_own FB hT hC (PySem.W.looks_findIn I1.kIn T.iC) (fun self => PySem.W.bind_fn I1.kIn self T.tI) hus ?_)
  rw [← ea, ← eh]
  refine codeAny_mono run fun r s' hq => ?_
  match r with
  | .error er => exact hq.elim
  | .ok .next => exact hq.elim
  | .ok .brk => exact hq.elim
  | .ok .cont => exact hq.elim
  | .ok (.ret z) =>
    obtain ⟨v2, H2, os2, bare2, un2, hok2, rv, ev2, dx, st1, st2, st3, st4, st5⟩ := hq
    have nd : H1 dx = none := by rw [upd_ne st2] at st1; exact st1
    have eq : upd (del H2 a) dx (.xd [("word", v0), ("line", v)]) = upd H1 dx (.xd [("word", v0), ("line", v)]) := by
      funext b
      by_cases h1 : b = dx
      · rw [h1, upd_same, upd_same]
      · rw [upd_ne h1, upd_ne h1]
        by_cases h2 : b = a
        · rw [h2, del_same, na]
        · rw [del_ne h2, st5 b h2 h1, upd_ne h2]
    obtain ⟨h3, g3, d3, t3, os3⟩ := s'
    have fin := mk_end (Q := Q) (d2 := d3) (t2 := t3) (raises_own T.xf.exC T.tyC) I1 big kp un2 hok2 os2 bare2 st3 st4 nd (by rw [eq]; exact q dx nd)
    subst ev2
    exact ⟨rv, fin⟩
end
end CS
set_option Elab.async false
set_option maxRecDepth 100000
set_option maxHeartbeats 4000000
set_option linter.unusedVariables false
/-! A lambda whose parameter's name is a name of the def around it, too: its slot is not seen within. -/
namespace CS
open PySem PySem.Spec PyProof.Rows L2 LamX
def maskS (N : List Str) (scope : Scope) (σ : L2.St) : L2.St := List.zipWith (fun y v => if scope.names.lookup y = some .local then none else v) N σ
theorem maskS_len {N : List Str} {scope : Scope} {σ : L2.St} (h : σ.length = N.length) : (maskS N scope σ).length = N.length := by
  unfold maskS
  rw [List.length_zipWith, h, Nat.min_self]
theorem maskS_get {N : List Str} {scope : Scope} {σ : L2.St} {i : Nat} {y : Str} {v : Option V} (h : σ[i]? = some v) (hy : N[i]? = some y) (n : scope.names.lookup y ≠ some .local) : (maskS N scope σ)[i]? = some v := by
  unfold maskS
  rw [List.getElem?_zipWith, h, hy]
  show some (if scope.names.lookup y = some .local then none else v) = some v
  rw [if_neg n]
theorem maskS_inv {N : List Str} {scope : Scope} {σ : L2.St} {i : Nat} {y : Str} {v : V} (hy : N[i]? = some y) (h : (maskS N scope σ)[i]? = some (some v)) : σ[i]? = some (some v) ∧ scope.names.lookup y ≠ some .local := by
  unfold maskS at h
  rw [List.getElem?_zipWith, hy] at h
  cases e : σ[i]? with
  | none => rw [e] at h; cases h
  | some u =>
    rw [e] at h
    have h2 : (if scope.names.lookup y = some .local then none else u) = some v := Option.some.inj h
    by_cases c : scope.names.lookup y = some .local
    · rw [if_pos c] at h2; cases h2
    · rw [if_neg c] at h2; exact ⟨by rw [h2], c⟩
section
variable {X : Cx} {scope : Scope} {σ : L2.St} {l : Addr → Option Obj} {params : Arguments} {body : Expr} {f c' : Addr} {dV doc pm ctv : Value} {k : Nat} {binds : List (Str × Value)} {E : XK} {tb : TE}
theorem Held.mask (V : Held X scope σ l) : Held X scope (maskS X.N scope σ) l := ⟨V.all, fun i x v e1 e2 e3 => V.val i x v e1 (maskS_inv e1 e2).1 e3⟩
theorem lam_invM {A : Around} {outer : List Env} {s : Shared} {H : Hp} {h₁ : Heap} {tk : Nat} (ok : X.Ok) (L : LScope X.env.scope scope []) (own : ∀ (i : Nat) (y : Str) (v : V), X.N[i]? = some y → σ[i]? = some (some v) → scope.names.lookup y ≠ some .local) (V : Held X scope σ l) (hlen : σ.length = X.N.length) (C : Cin l H) (e0 : Env0 X.prog X.w X.K X.mg X.base A outer s H) (hd : A.handled = none)
    (hns : h₁.Ns s.heap.objs.size fun y => binds.reverse.lookup y) (kp : ∀ b o, s.heap.get? b = some o → h₁.get? b = some o) : Inv (lamCx X A outer s (subC l H) E scope f c') [] σ (subC l H) { s with heap := h₁, toks := tk } := by
  have hfree := L.has ok
  have at_ : ∀ {c o}, l c = some o → s.heap.get? c = some o := fun {c o} e => cellX_at e0.hok (C c o e)
  have hs := hok_sub C e0.hok
  refine {
    ok := {
      mod := e0.mod, kind := L.kind, glob := rfl, blt := rfl, above := Nat.le_refl _
      inj := fun y z c e1 e2 => ok.inj y z c (NdefX.clo_cm hfree e1) (NdefX.clo_cm hfree e2)
      has := fun y hy => ?_
      cab := fun y c z _ => absurd (show false = true from z) (by decide)
      hd := fun _ => hd
      frames := Around.frames_deeper e0.frames
      stk := .inr ⟨rfl, rfl⟩
      exf := fun b z => absurd (show b ∈ ([] : List Addr) from z) (by simp)
      bs := fun b o e => ⟨(e0.bs b o e).1, sub_none (e0.bs b o e).2⟩
      bsz := e0.bsz
      noex := fun b _ _ z => absurd (show b ∈ ([] : List Addr) from z) (by simp)
      exfs := fun b z => absurd (show b ∈ ([] : List Addr) from z) (by simp)
      funs := e0.funs
      frf := fun b hb => sub_none (e0.frf b hb) }
    os := rfl
    bare := e0.bare
    base := Un.kept kp
    loc := ⟨_, hns, fun i y v e1 e2 e3 => ?_⟩
    cell := fun y c e => ?_
    free := hs.fresh (Nat.le_refl _)
    freeC := fun y c e => ?_
    pin := fun q hq => absurd (show q ∈ ([] : List (Addr × Obj)) ++ [] from hq) (by simp)
    hok := hs.kept kp
    len := hlen }
  · have hy : scope.names.lookup y = some .cell ∨ scope.names.lookup y = some .free := hy
    rcases hy with hy | hy
    · exact absurd rfl (L.cell _ (PySem.mem_of_lookup hy))
    · obtain ⟨c, hc⟩ := hfree _ (PySem.mem_of_lookup hy) rfl
      exact ⟨c, NdefX.clo_has hfree (PySem.mem_of_lookup hy) hc⟩
  · have e3 : Vis scope y := e3
    have e1 : X.N[i]? = some y := e1
    rcases e3 with q | q | q
    · exact absurd q (own i y v e1 e2)
    · exact absurd rfl (L.cell _ (PySem.mem_of_lookup q))
    · obtain ⟨c, o, u, h1, h2, h3, r⟩ := V.val i y v e1 e2 q
      exact ⟨u, r, .inr ⟨.inr q, c, h1, o, kp _ _ (at_ h2), h3⟩⟩
  · obtain ⟨o, v, h1, h2⟩ := V.all y c e
    exact ⟨v, o, kp _ _ (at_ h1), h2⟩
  · obtain ⟨o, v, h1, h2⟩ := V.all y c e
    exact subC_in h1
theorem lact_okM {tb : XK → TE} (ok : X.Ok) (L : LScope X.env.scope scope []) (own : ∀ (i : Nat) (y : Str) (v : V), X.N[i]? = some y → σ[i]? = some (some v) → scope.names.lookup y ≠ some .local) (V : Held X scope σ l) (hlen : σ.length = X.N.length)
    (hb : ∀ (A : Around) (outer : List Env) (s : Shared) (H : Hp) (E : XK) (f c' : Addr), Room k (A.deeper (lamEnv X scope s.heap.objs.size f c')) → PE (lamCx X A outer s H E scope f c') body (tb E)) :
    ActOk X.prog X.w X.K X.mg X.base (k + 1) (lact X scope params body σ l tb) := by
  intro f A outer s H Q E hr e0 h
  obtain ⟨c', dV, doc, pm, ctv, H1, Q0, E0, rfl, F, hf, hc, hbind, q, hQ, hE⟩ := h
  have hf2 : addC l H1 f = some (FunO f (lfd X scope params body c' dV doc pm ctv)) := by rw [addC_out (F.out hf)]; exact hf
  have hc2 : addC l H1 c' = some (CodeO c' (X.env.qual ++ "<lambda>")) := by rw [addC_out (F.out hc)]; exact hc
  refine ⟨⟨_, hf2⟩, ?_⟩
  obtain ⟨od, sl, ho⟩ := funO_at e0.hok hf2
  have C : Cin l (addC l H1) := cin_add
  have es : subC l (addC l H1) = H1 := sub_add F
  obtain ⟨binds, hbi, hloc⟩ := hbind _ _ s c' doc pm ctv e0.hok
  refine PySem.W.kla_callFunE hr.depth ho rfl L.co L.gen rfl (NdefX.codeO_at e0.hok hc2) (hbi _ _ _ _ ?_)
  refine wpAny_newFunctionEnv L.cell hloc (fun h₁ hns hsb => ⟨((e0.mod.nolimit).keeps fun b o e => (e0.bs b o e).1).fresh _ hsb, ?_⟩) L.kind
  show codeAny _ _ (.expr body (lamEnv X scope s.heap.objs.size f c')) _ _
  have kp : ∀ b o, s.heap.get? b = some o → h₁.get? b = some o := fun b o e => hsb.extBut b o (Nat.ne_of_lt (Heap.lt_size e)) (Heap.get?_push_of_some _ e)
  have I := lam_invM (E := E0) (f := f) (c' := c') (tk := s.toks + binds.length) ok L own V hlen C e0 hr.hd hns kp
  rw [es] at I
  have nfr : ∀ b ∈ frs outer, addC l H1 b = none := e0.frf
  have cx : ∀ {e : Value} {s3 : Shared}, L2.CX X.prog X.w outer H1 s E0 e s3 → L2.CX X.prog X.w outer (addC l H1) s E e s3 := fun {e s3} hx => by
    refine cx_add C e0.hok nfr ?_
    rw [es]
    obtain ⟨a, B, H', cls, d, x1, x2, x3, x4, x5, x6, x7, x8⟩ := hx
    exact ⟨a, B, H', cls, d, x1, x2, x3, x4, x5, x6, x7, fun F' => hE cls d H' F' x8⟩
  refine PySem.W.kla_codeExpr (wpAny_mono ((hb A outer s H1 E0 f c' (hr.deeper _)).run [] _ σ H1 Q0 I q) (fun u s2 hq => ?_) fun e s2 he => wpAny_mono he (fun _ _ hx => cx hx) fun _ _ hx => cx hx)
  obtain ⟨v, H2, I2, r, q2⟩ := hq
  have F2 : Free l H2 := fun b o e => I2.base.free b o (cellX_at e0.hok (C b o e)) (F b o e) (by intro z; cases z)
  have un : Un (frs outer) [] (subC l (addC l H1)) H2 s.heap s2.heap := by rw [es]; exact I2.base
  refine ⟨v, addC l H2, I2.os, I2.bare, un_add C F2 un, hok_add F2 I2.hok fun b o e => ?_, r, hQ v H2 F2 q2⟩
  refine I2.base.keep b o (cellX_at e0.hok (C b o e)) (F b o e) (fun z => ?_) (by intro z; cases z)
  have := nfr b z
  rw [C b o e] at this
  cases this
end
section
variable {X : Cx} {pins : List (Addr × Obj)} {σ : L2.St} {H : Hp} {s : Shared} {scope : Scope} {params : Arguments} {body : Expr} {k : Nat}
theorem pe_lam0M {T : List (Addr × Str)} {c P : Addr} {pos : PySem.Pos} (TB : LamX.TabB X.base X.mg c P) (hcode : X.env.code = .ref c) (hm : (P, X.env.qual ++ "<lambda>") ∈ T)
    (hu : ∀ p ∈ T, p.1 = P → p.2 = X.env.qual ++ "<lambda>") (L : LScope X.env.scope scope []) (hp : params = ⟨[], [], none, [], [], none, []⟩) : PE X (.Lambda params body scope pos) (tLamV X scope params body T) := by
  subst hp
  refine ⟨fun pins s σ H Q I ⟨hT, h⟩ => ?_⟩
  refine PySem.W.kla_eval rfl ?_
  rw [makeFunction_eq]
  simp only [List.zip_nil_right, List.filterMap_nil, List.isEmpty_nil, if_true, pure_bind]
  refine lam_made I TB hcode hm hu hT (L.has I.ok) fun f H1 s' I1 m => ⟨.ref f, H1, I1, rfl, h f H1 .none m fun P w s c' doc pm ctv _ => ⟨[], .of_eq rfl, fun _ z => nomatch z⟩⟩
theorem pe_lam1M {T : List (Addr × Str)} {c P : Addr} {pos p1 p2 : PySem.Pos} {x : Str} {i : Int} {j : Nat} (TB : LamX.TabB X.base X.mg c P) (hcode : X.env.code = .ref c) (hm : (P, X.env.qual ++ "<lambda>") ∈ T)
    (hu : ∀ p ∈ T, p.1 = P → p.2 = X.env.qual ++ "<lambda>") (L : LScope X.env.scope scope []) (hx : scope.names.lookup x = some .local) (hp : params = ⟨[], [⟨x, none, p1⟩], none, [], [], none, [.Constant (.int i) j p2]⟩) : PE X (.Lambda params body scope pos) (tLamV X scope params body T) := by
  subst hp
  refine ⟨fun pins s σ H Q I ⟨hT, h⟩ => ?_⟩
  refine PySem.W.kdv_lam rfl rfl (evalAll_cons ?_)
  have h0 := (pe_int (X := X) (i := i) (j := j) (pos := p2)).run pins s σ H (fun v H1 => v = .int i ∧ H1 = H) I ⟨rfl, rfl⟩
  refine thn h0 fun u s1 ⟨v, H1, I1, r, ev, eH⟩ => ?_
  subst ev
  subst eH
  obtain ⟨t, rfl⟩ := r
  refine evalAll_nil ?_
  rw [makeFunction_eq]
  simp only [List.zip_nil_right, List.filterMap_nil, List.isEmpty_nil, if_true, pure_bind, List.isEmpty_cons, Bool.false_eq_true, if_false]
  refine wpAny_bind (wpAny_newTextTuple ?_)
  have nd : H1 s1.heap.objs.size = none := I1.hok.fresh (Nat.le_refl _)
  have I2 : Inv X pins σ (upd H1 s1.heap.objs.size (.tup [.int i])) { s1 with heap := s1.heap.push { cls := .type "tuple", data := .seq [Value.int i t].toArray } } :=
    I1.laid (t' := s1.toks) (fun b u e => Heap.get?_push_of_some _ e) (Nat.le_refl _) ⟨by show 1 ≤ sizeLine; decide, [Value.int i t], .cons ⟨t, rfl⟩ .nil, ⟨_, Heap.get?_push_size _ rfl, rfl, _, rfl⟩⟩
  have e2 : ∀ b o, H1 b = some o → upd H1 s1.heap.objs.size (.tup [.int i]) b = some o := fun b o e => by
    rw [upd_ne (ne_of_none e nd)]
    exact e
  have hT2 := hT.ext e2
  have ht : upd H1 s1.heap.objs.size (.tup [.int i]) s1.heap.objs.size = some (.tup [.int i]) := upd_same
  have n2 : ∀ b, upd H1 s1.heap.objs.size (.tup [.int i]) b = none → H1 b = none := fun b z => NdefX.upd_none z
  generalize upd H1 s1.heap.objs.size (.tup [.int i]) = H2 at *
  refine lam_made I2 TB hcode hm hu hT2 (L.has I2.ok) fun f H3 s' I3 m => ⟨.ref f, H3, I3, rfl, h f H3 _ (m.of_ext e2 n2) fun P w s c' doc pm ctv ok => ?_⟩
  have ht3 : H3 s1.heap.objs.size = some (.tup [.int i]) := m.1 _ _ ht fun _ z => by cases z
  obtain ⟨_, its, vs, o, h1, h2, n, h3⟩ := (show ObjOk P w H3 s.heap s1.heap.objs.size (.tup [.int i]) from ok _ _ ht3)
  cases vs with
  | @cons _ u _ ur ra rw' =>
    cases rw'
    exact ⟨[(x, u)], .of_defaults rfl h1 h3 rfl (by simp), fun y hy => by
      rw [List.mem_singleton.mp hy]
      exact hx⟩
theorem clo_memM (L : LScope X.env.scope scope []) (ok : X.Ok) {y : Str} {c : Addr} (e : (y, c) ∈ clo X scope) : X.env.cells.lookup y = some c := by
  rcases cloFrom_mem e with hm | ⟨h1, h2⟩
  · cases hm
  · obtain ⟨c1, hc⟩ := L.has ok _ h1 rfl
    have hc : X.env.cells.lookup y = some c1 := hc
    rw [h2, hc]
    rfl
theorem held_ofM {pins : List (Addr × Obj)} {σ : L2.St} {H : Hp} {s : Shared} (L : LScope X.env.scope scope []) (I : Inv X pins σ H s) : Held X scope σ (heldNow X scope s.heap) ∧ Free (heldNow X scope s.heap) H := by
  have hfree := L.has I.ok
  refine ⟨⟨fun y c e => ?_, fun i x v e1 e2 e3 => ?_⟩, fun c o e => ?_⟩
  · obtain ⟨v, o, ho, hd⟩ := I.cell y c (NdefX.clo_cm hfree e)
    exact ⟨o, v, by rw [held_in e]; exact ho, hd⟩
  · obtain ⟨m, hn, hl⟩ := I.loc
    have hm := PySem.mem_of_lookup e3
    have hvis : Vis X.env.scope x := (L.free _ hm rfl).elim (fun k => .inr (.inl k)) fun k => .inr (.inr k)
    obtain ⟨u, r, lo⟩ := hl i x v e1 e2 hvis
    rcases lo with ⟨k, _⟩ | ⟨_, c, ec, o, ho, hd⟩
    · rcases L.free _ hm rfl with k2 | k2 <;> (rw [show X.env.kindOf x = _ from k2] at k; cases k)
    · have e4 := NdefX.clo_has hfree hm ec
      exact ⟨c, o, u, e4, by rw [held_in e4]; exact ho, hd, r⟩
  · obtain ⟨⟨y, hy⟩, _⟩ := held_mem e
    exact I.freeC y c (clo_memM L I.ok hy)
theorem pe_giveM {Wx : Value → Option Addr → Hp → VK → Prop} {T : List (Addr × Str)} {x a : Str} {g : Addr} {fd : FuncData} {j : Nat} {tb : XK → TE} {p lpos pos : PySem.Pos} (nat : Nat1 Wx)
    (G : ∀ act, ActOk X.prog X.w X.K X.mg X.base (k + 1) act → FnOk X.prog X.w X.K X.mg X.base CX0 j g fd [a] (spGive Wx act)) (hr : Room j X.A) (hg : Gl X x) (hm : X.mg x = some (.ref g)) (hk : PySem.W.keepIn X.K (.ref g) = true) (hb : Binds X.K fd [a] [])
    (hfn : ∀ y, X.fn y = true) (L : LScope X.env.scope scope []) (he : PE X (.Lambda params body scope lpos) (tLamV X scope params body T))
    (hbody : ∀ (A : Around) (outer : List Env) (s : Shared) (H : Hp) (E : XK) (f c' : Addr), Room k (A.deeper (lamEnv X scope s.heap.objs.size f c')) → PE (lamCx X A outer s H E scope f c') body (tb E)) (hdb : (x == ("__debug__" : Str)) = false := by decide) :
    PE X (.Call (.Name x p) [.Lambda params body scope lpos] [] pos) (fun σ H Q => Tabs T H ∧ ∀ H1, ExtN H H1 → Tabs T H1 → tb (fun cls d H2 => Wx cls d H2 Q) (maskS X.N scope σ) H1 Q) := by
  refine ⟨fun pins s σ H Q I ⟨hT, h⟩ => ?_⟩
  refine wpAny_Call_Name_kw (ld_glob I hg hm ?_ hdb)
  refine PySem.W.callWith_K (h₀ := X.base) I.ok.mod.kin hk (thn ((pa_cons he pa_nil).run pos pins s σ H (fun vs H1 => ∃ f dV, vs = [.ref f] ∧ Made X scope params body T H dV f H1 ∧ BindL X scope params body dV H1) I ⟨hT, fun f H1 dV m b => ⟨f, dV, rfl, m, b⟩⟩) fun us s1 ⟨vs, H1, I1, r, f, dV, ev, m, bl⟩ => ⟨I1.kIn, ?_⟩) rfl rfl
  subst ev
  obtain ⟨V, F⟩ := held_ofM L I1
  obtain ⟨x1, t1, nf, c', doc, pm, ctv, hf, hc⟩ := m
  have q := h H1 x1 t1
  have hh : ∀ b o, heldNow X scope s1.heap b = some o → s1.heap.get? b = some o := fun b o e => (held_mem e).2
  have cell_hi : ∀ b o, heldNow X scope s1.heap b = some o → X.s_0.heap.objs.size ≤ b := fun b o e => by
    obtain ⟨⟨y, hy⟩, _⟩ := held_mem e
    exact I.ok.cab y b (hfn y) (clo_memM L I.ok hy)
  have cell_ne : ∀ b o, heldNow X scope s1.heap b = some o → b ≠ X.env.locals := fun b o e => by
    obtain ⟨⟨y, hy⟩, _⟩ := held_mem e
    exact I1.cne y b (clo_memM L I.ok hy)
  have okA := hok_add F I1.hok hh
  generalize heldNow X scope s1.heap = l at *
  have A := lact_okM (params := params) (body := body) I.ok L (fun i y v e1 e2 => (maskS_inv e1 e2).2) V.mask (maskS_len I1.len) hbody
  have e0 := I1.env0
  have none_of : ∀ b, H1 b = none → l b = none → addC l H1 b = none := fun b n e => by rw [addC_out e]; exact n
  have lbase : ∀ b o, X.base.get? b = some o → l b = none := fun b o e => by
    cases z : l b with
    | none => rfl
    | some o2 => exact absurd (Nat.lt_of_lt_of_le (Heap.lt_size e) I.ok.bsz) (Nat.not_lt.mpr (cell_hi b o2 z))
  have lfr : ∀ b ∈ frs X.stack, l b = none := fun b hb => by
    cases z : l b with
    | none => rfl
    | some o2 =>
      rcases List.mem_cons.mp (I1.stkSub b hb) with y | y
      · exact absurd y (cell_ne b o2 z)
      · obtain ⟨_, ob, hob, _⟩ := I1.ok.funs.mem y
        exact absurd (Heap.lt_size hob) (Nat.not_lt.mpr (cell_hi b o2 z))
  have e1 : Env0 X.prog X.w X.K X.mg X.base X.A X.stack s1 (addC l H1) := ⟨e0.frames, e0.mod, fun b o e => ⟨(e0.bs b o e).1, none_of b (e0.bs b o e).2 (lbase b o e)⟩, e0.bsz, e0.funs, fun b hb => none_of b (e0.frf b hb) (lfr b hb), okA, e0.bare⟩
  have hsp : spGive Wx (lact X scope params body (maskS X.N scope σ) l tb) [.ref f] (addC l H1) (fun v H2 => Cin l H2 ∧ Q v (subC l H2)) (fun _ _ _ => False) := by
    refine ⟨f, rfl, c', dV, doc, pm, ctv, H1, Q, _, rfl, F, hf, hc, fun P w s c' doc pm ctv ok => ?_, q, fun v H2 F2 q2 => ⟨cin_add, by rw [sub_add F2]; exact q2⟩, fun cls d H2 F2 q2 => nat l cls d H2 Q F2 q2⟩
    have := hok_sub (l := l) cin_add ok
    rw [sub_add F] at this
    exact bl P w s c' doc pm ctv this
  refine wpAny_call (codeAny_mono ((G _ A).run X.A X.stack s1 (addC l H1) ⟨us, []⟩ (us ++ []) [.ref f] _ _ hr e1 (hb s1 us I1.kIn (by rw [List.append_nil, ← r.length]; rfl)) (by rw [List.append_nil]; exact r) hsp) fun r s' hq => ?_)
  match r with
  | .error er => exact hq.elim
  | .ok (.ret u) =>
    obtain ⟨v, H2, os, bare, un, hok, r2, C2, q2⟩ := hq
    exact ⟨v, subC l H2, I1.call' (ch := []) os (un_sub F C2 hok hh un) (hok_sub C2 hok) bare (fun b z => absurd z (by simp)), r2, q2⟩
  | .ok .next => exact hq.elim
  | .ok .brk => exact hq.elim
  | .ok .cont => exact hq.elim
end
end CS
set_option Elab.async false
set_option maxRecDepth 100000
set_option maxHeartbeats 8000000
set_option linter.unusedVariables false
namespace CS
open PySem PySem.Spec PyProof.Rows L2 LamX
theorem addC_new {l : Addr → Option Obj} {H : Hp} {p : Addr} {o : HO} {Q : Hp → Prop} (F : Free l H) (n : addC l H p = none) (q : Q (upd H p o)) : Cin l (upd (addC l H) p o) ∧ Q (subC l (upd (addC l H) p o)) := by
  have lp : l p = none := by
    cases e : l p with
    | none => rfl
    | some b =>
      rw [addC_in e] at n
      cases n
  refine ⟨fun b ob e => ?_, ?_⟩
  · have : b ≠ p := fun z => by rw [z, lp] at e; cases e
    rw [upd_ne this, addC_in e]
  · have : subC l (upd (addC l H) p o) = upd H p o := by
      funext b
      cases e : l b with
      | none =>
        rw [subC_out e]
        by_cases z : b = p
        · rw [z, upd_same, upd_same]
        · rw [upd_ne z, upd_ne z, addC_out e]
      | some ob =>
        have : b ≠ p := fun z => by rw [z, lp] at e; cases e
        rw [subC_in e, upd_ne this, F b ob e]
    rw [this]
    exact q
/-- a weaker end -/
def actCD (act : Act) : Act := fun f H Q E => ∃ Q0 E0, act f H Q0 E0 ∧ (∀ v H', Q0 v H' → Q v H') ∧ ∀ c d H', E0 c d H' → E c d H'
theorem ActOk.closD {P : Program} {w : World} {K : PySem.W.Frag} {mg : Str → Option Value} {base : Heap} {k : Nat} {act : Act} (h : ActOk P w K mg base k act) : ActOk P w K mg base k (actCD act) := fun f A outer s H Q E hr e0 ⟨Q0, E0, a, hq, he⟩ => by
  obtain ⟨x, c⟩ := h f A outer s H Q0 E0 hr e0 a
  refine ⟨x, codeAny_mono c fun r s' z => ?_⟩
  match r with
  | .error er =>
    obtain ⟨a, B, H', cls, d, x1, x2, x3, x4, x5, x6, x7, x8⟩ := z
    exact ⟨a, B, H', cls, d, x1, x2, x3, x4, x5, x6, x7, he _ _ _ x8⟩
  | .ok (.ret u) =>
    obtain ⟨v, H', x1, x2, x3, x4, x5, x6⟩ := z
    exact ⟨v, H', x1, x2, x3, x4, x5, hq _ _ x6⟩
  | .ok .next => exact z.elim
  | .ok .brk => exact z.elim
  | .ok .cont => exact z.elim
/-- what is given out, in a new list -/
def putL (Q : VK) : VK := fun v H => ∀ p, H p = none → Q (.ref p) (upd H p (.lst [v]))
theorem addC_none {l : Addr → Option Obj} {H : Hp} {p : Addr} (n : addC l H p = none) : H p = none := by
  cases e : l p with
  | none => rw [addC_out e] at n; exact n
  | some b => rw [addC_in e] at n; cases n
def spGiveL (Wx : Value → Option Addr → Hp → VK → Prop) (act : Act) : Sp := fun vs H Q _ => ∃ f, vs = [.ref f] ∧ act f H (putL Q) (fun cls d H' => Wx cls d H' Q)
section
variable {X : Cx} {scope : Scope} {params : Arguments} {body : Expr} {k : Nat}
theorem pe_giveL {Wx : Value → Option Addr → Hp → VK → Prop} {T : List (Addr × Str)} {x a : Str} {g : Addr} {fd : FuncData} {j : Nat} {tb : XK → TE} {p lpos pos : PySem.Pos} (nat : Nat1 Wx)
    (G : ∀ act, ActOk X.prog X.w X.K X.mg X.base (k + 1) act → FnOk X.prog X.w X.K X.mg X.base CX0 j g fd [a] (spGiveL Wx act)) (hr : Room j X.A) (hg : Gl X x) (hm : X.mg x = some (.ref g)) (hk : PySem.W.keepIn X.K (.ref g) = true) (hb : Binds X.K fd [a] [])
    (hfn : ∀ y, X.fn y = true) (L : LScope X.env.scope scope X.N) (he : PE X (.Lambda params body scope lpos) (tLamV X scope params body T))
    (hbody : ∀ (A : Around) (outer : List Env) (s : Shared) (H : Hp) (E : XK) (f c' : Addr), Room k (A.deeper (lamEnv X scope s.heap.objs.size f c')) → PE (lamCx X A outer s H E scope f c') body (tb E)) (hdb : (x == ("__debug__" : Str)) = false := by decide) :
    PE X (.Call (.Name x p) [.Lambda params body scope lpos] [] pos) (fun σ H Q => Tabs T H ∧ ∀ H1, ExtN H H1 → Tabs T H1 → tb (fun cls d H2 => Wx cls d H2 Q) σ H1 (putL Q)) := by
  refine ⟨fun pins s σ H Q I ⟨hT, h⟩ => ?_⟩
  refine wpAny_Call_Name_kw (ld_glob I hg hm ?_ hdb)
  refine PySem.W.callWith_K (h₀ := X.base) I.ok.mod.kin hk (thn ((pa_cons he pa_nil).run pos pins s σ H (fun vs H1 => ∃ f dV, vs = [.ref f] ∧ Made X scope params body T H dV f H1 ∧ BindL X scope params body dV H1) I ⟨hT, fun f H1 dV m b => ⟨f, dV, rfl, m, b⟩⟩) fun us s1 ⟨vs, H1, I1, r, f, dV, ev, m, bl⟩ => ⟨I1.kIn, ?_⟩) rfl rfl
  subst ev
  obtain ⟨V, F⟩ := held_of L I1
  obtain ⟨x1, t1, nf, c', doc, pm, ctv, hf, hc⟩ := m
  have q := h H1 x1 t1
  have hh : ∀ b o, heldNow X scope s1.heap b = some o → s1.heap.get? b = some o := fun b o e => (held_mem e).2
  have cell_hi : ∀ b o, heldNow X scope s1.heap b = some o → X.s_0.heap.objs.size ≤ b := fun b o e => by
    obtain ⟨⟨y, hy⟩, _⟩ := held_mem e
    exact I.ok.cab y b (hfn y) (clo_mem L I.ok hy)
  have cell_ne : ∀ b o, heldNow X scope s1.heap b = some o → b ≠ X.env.locals := fun b o e => by
    obtain ⟨⟨y, hy⟩, _⟩ := held_mem e
    exact I1.cne y b (clo_mem L I.ok hy)
  have okA := hok_add F I1.hok hh
  generalize heldNow X scope s1.heap = l at *
  have A := lact_ok (params := params) (body := body) I.ok L V I1.len hbody
  have e0 := I1.env0
  have none_of : ∀ b, H1 b = none → l b = none → addC l H1 b = none := fun b n e => by rw [addC_out e]; exact n
  have lbase : ∀ b o, X.base.get? b = some o → l b = none := fun b o e => by
    cases z : l b with
    | none => rfl
    | some o2 => exact absurd (Nat.lt_of_lt_of_le (Heap.lt_size e) I.ok.bsz) (Nat.not_lt.mpr (cell_hi b o2 z))
  have lfr : ∀ b ∈ frs X.stack, l b = none := fun b hb => by
    cases z : l b with
    | none => rfl
    | some o2 =>
      rcases List.mem_cons.mp (I1.stkSub b hb) with y | y
      · exact absurd y (cell_ne b o2 z)
      · obtain ⟨_, ob, hob, _⟩ := I1.ok.funs.mem y
        exact absurd (Heap.lt_size hob) (Nat.not_lt.mpr (cell_hi b o2 z))
  have e1 : Env0 X.prog X.w X.K X.mg X.base X.A X.stack s1 (addC l H1) := ⟨e0.frames, e0.mod, fun b o e => ⟨(e0.bs b o e).1, none_of b (e0.bs b o e).2 (lbase b o e)⟩, e0.bsz, e0.funs, fun b hb => none_of b (e0.frf b hb) (lfr b hb), okA, e0.bare⟩
  have hsp : spGiveL Wx (lact X scope params body σ l tb) [.ref f] (addC l H1) (fun v H2 => Cin l H2 ∧ Q v (subC l H2)) (fun _ _ _ => False) := by
    refine ⟨f, rfl, c', dV, doc, pm, ctv, H1, putL Q, _, rfl, F, hf, hc, fun P w s c' doc pm ctv ok => ?_, q, fun v H2 F2 q2 p n => addC_new (Q := fun H3 => Q (.ref p) H3) F2 n (q2 p (addC_none n)), fun cls d H2 F2 q2 => nat l cls d H2 Q F2 q2⟩
    have := hok_sub (l := l) cin_add ok
    rw [sub_add F] at this
    exact bl P w s c' doc pm ctv this
  refine wpAny_call (codeAny_mono ((G _ A).run X.A X.stack s1 (addC l H1) ⟨us, []⟩ (us ++ []) [.ref f] _ _ hr e1 (hb s1 us I1.kIn (by rw [List.append_nil, ← r.length]; rfl)) (by rw [List.append_nil]; exact r) hsp) fun r s' hq => ?_)
  match r with
  | .error er => exact hq.elim
  | .ok (.ret u) =>
    obtain ⟨v, H2, os, bare, un, hok, r2, C2, q2⟩ := hq
    exact ⟨v, subC l H2, I1.call' (ch := []) os (un_sub F C2 hok hh un) (hok_sub C2 hok) bare (fun b z => absurd z (by simp)), r2, q2⟩
  | .ok .next => exact hq.elim
  | .ok .brk => exact hq.elim
  | .ok .cont => exact hq.elim
end
section
variable {X : Cx} {pins : List (Addr × Obj)} {σ : L2.St} {H : Hp} {s : Shared} {scope : Scope} {params : Arguments} {body : Expr} {k : Nat}
theorem pe_giveML {Wx : Value → Option Addr → Hp → VK → Prop} {T : List (Addr × Str)} {x a : Str} {g : Addr} {fd : FuncData} {j : Nat} {tb : XK → TE} {p lpos pos : PySem.Pos} (nat : Nat1 Wx)
    (G : ∀ act, ActOk X.prog X.w X.K X.mg X.base (k + 1) act → FnOk X.prog X.w X.K X.mg X.base CX0 j g fd [a] (spGiveL Wx act)) (hr : Room j X.A) (hg : Gl X x) (hm : X.mg x = some (.ref g)) (hk : PySem.W.keepIn X.K (.ref g) = true) (hb : Binds X.K fd [a] [])
    (hfn : ∀ y, X.fn y = true) (L : LScope X.env.scope scope []) (he : PE X (.Lambda params body scope lpos) (tLamV X scope params body T))
    (hbody : ∀ (A : Around) (outer : List Env) (s : Shared) (H : Hp) (E : XK) (f c' : Addr), Room k (A.deeper (lamEnv X scope s.heap.objs.size f c')) → PE (lamCx X A outer s H E scope f c') body (tb E)) (hdb : (x == ("__debug__" : Str)) = false := by decide) :
    PE X (.Call (.Name x p) [.Lambda params body scope lpos] [] pos) (fun σ H Q => Tabs T H ∧ ∀ H1, ExtN H H1 → Tabs T H1 → tb (fun cls d H2 => Wx cls d H2 Q) (maskS X.N scope σ) H1 (putL Q)) := by
  refine ⟨fun pins s σ H Q I ⟨hT, h⟩ => ?_⟩
  refine wpAny_Call_Name_kw (ld_glob I hg hm ?_ hdb)
  refine PySem.W.callWith_K (h₀ := X.base) I.ok.mod.kin hk (thn ((pa_cons he pa_nil).run pos pins s σ H (fun vs H1 => ∃ f dV, vs = [.ref f] ∧ Made X scope params body T H dV f H1 ∧ BindL X scope params body dV H1) I ⟨hT, fun f H1 dV m b => ⟨f, dV, rfl, m, b⟩⟩) fun us s1 ⟨vs, H1, I1, r, f, dV, ev, m, bl⟩ => ⟨I1.kIn, ?_⟩) rfl rfl
  subst ev
  obtain ⟨V, F⟩ := held_ofM L I1
  obtain ⟨x1, t1, nf, c', doc, pm, ctv, hf, hc⟩ := m
  have q := h H1 x1 t1
  have hh : ∀ b o, heldNow X scope s1.heap b = some o → s1.heap.get? b = some o := fun b o e => (held_mem e).2
  have cell_hi : ∀ b o, heldNow X scope s1.heap b = some o → X.s_0.heap.objs.size ≤ b := fun b o e => by
    obtain ⟨⟨y, hy⟩, _⟩ := held_mem e
    exact I.ok.cab y b (hfn y) (clo_memM L I.ok hy)
  have cell_ne : ∀ b o, heldNow X scope s1.heap b = some o → b ≠ X.env.locals := fun b o e => by
    obtain ⟨⟨y, hy⟩, _⟩ := held_mem e
    exact I1.cne y b (clo_memM L I.ok hy)
  have okA := hok_add F I1.hok hh
  generalize heldNow X scope s1.heap = l at *
  have A := lact_okM (params := params) (body := body) I.ok L (fun i y v e1 e2 => (maskS_inv e1 e2).2) V.mask (maskS_len I1.len) hbody
  have e0 := I1.env0
  have none_of : ∀ b, H1 b = none → l b = none → addC l H1 b = none := fun b n e => by rw [addC_out e]; exact n
  have lbase : ∀ b o, X.base.get? b = some o → l b = none := fun b o e => by
    cases z : l b with
    | none => rfl
    | some o2 => exact absurd (Nat.lt_of_lt_of_le (Heap.lt_size e) I.ok.bsz) (Nat.not_lt.mpr (cell_hi b o2 z))
  have lfr : ∀ b ∈ frs X.stack, l b = none := fun b hb => by
    cases z : l b with
    | none => rfl
    | some o2 =>
      rcases List.mem_cons.mp (I1.stkSub b hb) with y | y
      · exact absurd y (cell_ne b o2 z)
      · obtain ⟨_, ob, hob, _⟩ := I1.ok.funs.mem y
        exact absurd (Heap.lt_size hob) (Nat.not_lt.mpr (cell_hi b o2 z))
  have e1 : Env0 X.prog X.w X.K X.mg X.base X.A X.stack s1 (addC l H1) := ⟨e0.frames, e0.mod, fun b o e => ⟨(e0.bs b o e).1, none_of b (e0.bs b o e).2 (lbase b o e)⟩, e0.bsz, e0.funs, fun b hb => none_of b (e0.frf b hb) (lfr b hb), okA, e0.bare⟩
  have hsp : spGiveL Wx (lact X scope params body (maskS X.N scope σ) l tb) [.ref f] (addC l H1) (fun v H2 => Cin l H2 ∧ Q v (subC l H2)) (fun _ _ _ => False) := by
    refine ⟨f, rfl, c', dV, doc, pm, ctv, H1, putL Q, _, rfl, F, hf, hc, fun P w s c' doc pm ctv ok => ?_, q, fun v H2 F2 q2 p n => addC_new (Q := fun H3 => Q (.ref p) H3) F2 n (q2 p (addC_none n)), fun cls d H2 F2 q2 => nat l cls d H2 Q F2 q2⟩
    have := hok_sub (l := l) cin_add ok
    rw [sub_add F] at this
    exact bl P w s c' doc pm ctv this
  refine wpAny_call (codeAny_mono ((G _ A).run X.A X.stack s1 (addC l H1) ⟨us, []⟩ (us ++ []) [.ref f] _ _ hr e1 (hb s1 us I1.kIn (by rw [List.append_nil, ← r.length]; rfl)) (by rw [List.append_nil]; exact r) hsp) fun r s' hq => ?_)
  match r with
  | .error er => exact hq.elim
  | .ok (.ret u) =>
    obtain ⟨v, H2, os, bare, un, hok, r2, C2, q2⟩ := hq
    exact ⟨v, subC l H2, I1.call' (ch := []) os (un_sub F C2 hok hh un) (hok_sub C2 hok) bare (fun b z => absurd z (by simp)), r2, q2⟩
  | .ok .next => exact hq.elim
  | .ok .brk => exact hq.elim
  | .ok .cont => exact hq.elim
end
end CS
set_option Elab.async false
set_option maxRecDepth 100000
set_option maxHeartbeats 4000000
set_option linter.unusedVariables false
/-! A function object that is handed on and called with one argument; a lambda of one parameter handed to a method. -/
namespace CS
open PySem PySem.Spec PyProof.Rows L2 LamX
abbrev Act1 := Addr → V → Hp → VK → XK → Prop
def ActOk1 (P : Program) (w : World) (K : PySem.W.Frag) (mg : Str → Option Value) (base : Heap) (k : Nat) (act : Act1) : Prop :=
  ∀ (f : Addr) (v : V) (u : Value) (A : Around) (outer : List Env) (s : Shared) (H : Hp) (Q : VK) (E : XK), Room k A → Env0 P w K mg base A outer s H → RelV v u → act f v H Q E →
    PySem.W.FnAt f s.heap ∧ codeAny (model P w) A (.call (.ref f) ⟨[u], []⟩) (CR (L2.CX P w) outer P w H s Q E) s
/-- a weaker end -/
def actC1 (act : Act1) : Act1 := fun f v H Q E => ∃ Q0 E0, act f v H Q0 E0 ∧ (∀ v H', Q0 v H' → Q v H') ∧ ∀ c d H', E0 c d H' → E c d H'
theorem ActOk1.clos {P : Program} {w : World} {K : PySem.W.Frag} {mg : Str → Option Value} {base : Heap} {k : Nat} {act : Act1} (h : ActOk1 P w K mg base k act) : ActOk1 P w K mg base k (actC1 act) := fun f v u A outer s H Q E hr e0 rv ⟨Q0, E0, a, hq, he⟩ => by
  obtain ⟨x, c⟩ := h f v u A outer s H Q0 E0 hr e0 rv a
  refine ⟨x, codeAny_mono c fun r s' z => ?_⟩
  match r with
  | .error er =>
    obtain ⟨a, B, H', cls, d, x1, x2, x3, x4, x5, x6, x7, x8⟩ := z
    exact ⟨a, B, H', cls, d, x1, x2, x3, x4, x5, x6, x7, he _ _ _ x8⟩
  | .ok (.ret u) =>
    obtain ⟨v, H', x1, x2, x3, x4, x5, x6⟩ := z
    exact ⟨v, H', x1, x2, x3, x4, x5, hq _ _ x6⟩
  | .ok .next => exact z.elim
  | .ok .brk => exact z.elim
  | .ok .cont => exact z.elim
/-- a function stands at f -/
def FnV (K : PySem.W.Frag) (H : Hp) (f : Addr) : Prop := (∃ fd, H f = some (FunO f fd)) ∨ ∃ oc od fd sl, K.lookup f = some (⟨oc, od, .func fd, sl⟩ : Obj)
theorem FnV.at {X : Cx} {pins : List (Addr × Obj)} {σ : L2.St} {H : Hp} {s : Shared} {f : Addr} (h : FnV X.K H f) (I : Inv X pins σ H s) : PySem.W.FnAt f s.heap := by
  rcases h with ⟨fd, e⟩ | ⟨oc, od, fd, sl, e⟩
  · obtain ⟨od, sl, ho⟩ := funO_at I.hok e
    exact ⟨_, od, fd, sl, ho⟩
  · exact ⟨oc, od, fd, sl, I.kIn f _ e⟩
theorem FnV.same {K : PySem.W.Frag} {H H' : Hp} {f : Addr} (h : FnV K H f) (e : Same H H') : FnV K H' f := h.imp (fun ⟨fd, z⟩ => ⟨fd, e _ _ z⟩) id
section
variable {X : Cx} {act : Act1} {k i : Nat} {x : Str} {E : L2.St → XK} {p pos : PySem.Pos} {e : Expr} {te : TE}
def tAct1 (K : PySem.W.Frag) (act : Act1) (i : Nat) (E : L2.St → XK) (te : TE) : TE := fun σ H Q => ∃ f, σ[i]? = some (some (.ref f)) ∧ FnV K H f ∧ te σ H fun y H1 => act f y H1 Q (E σ)
/-- x(e), x a name that holds such an object -/
theorem pe_act1 (ha : ActOk1 X.prog X.w X.K X.mg X.base k act) (hr : Room k X.A) (hx : ∀ σ, PassesAt (L2.CX X.prog X.w) X σ (E σ)) (he : PE X e te) (hN : X.N[i]? = some x) (hv : Vis X.env.scope x) (hd : (x == ("__debug__" : Str)) = false := by decide) (hcd : (x == ("__classdict__" : Str)) = false := by decide)
    (hst : starEach [e] X.env = (false, eval e X.env) :: starEach [] X.env := by rfl) (hpl : (backTo pos (starEach [] X.env)).any (·.1) = false := by rfl) : PE X (.Call (.Name x p) [e] [] pos) (tAct1 X.K act i E te) := by
  refine ⟨fun pins s σ H Q I h => ?_⟩
  obtain ⟨f, hs, hf, q⟩ := h
  have hv2 := (pe_var (pos := p) hN hv hd hcd).run pins s σ H (fun v H1 => v = .ref f ∧ H1 = H) I ⟨.ref f, hs, rfl, rfl⟩
  refine wpAny_Call_Name_kw (thn hv2 fun u s1 ⟨v, H1, I1, r1, ev, eH⟩ => ?_)
  subst ev
  subst eH
  obtain rfl : u = Value.ref f := r1
  refine PySem.W.callWith_F (first := []) (hf.at I1) (thn ((pa_cons he pa_nil hst).run pos pins s1 σ H1 (fun vs H2 => match vs with | [y] => act f y H2 Q (E σ) | _ => False) I1 q) fun us s2 ⟨vs, H2, I2, r2, q2⟩ => ?_) hst hpl
  obtain ⟨y, rfl⟩ : ∃ y, vs = [y] := by
    match vs, q2 with
    | [y], _ => exact ⟨y, rfl⟩
  obtain ⟨u2, rfl, r3⟩ := vals1 r2
  obtain ⟨fa, hc⟩ := ha f y u2 X.A X.stack s2 H2 Q (E σ) hr I2.env0 r3 q2
  refine ⟨fa, ?_⟩
  show wpAny _ _ (call (.ref f) [u2]) _ _ _
  refine wpAny_call (codeAny_mono hc fun r s' hq => ?_)
  match r with
  | .error er => exact hx σ pins H2 s2 er s' I2 hq
  | .ok (.ret u) => exact I2.after hq
  | .ok .next => exact hq.elim
  | .ok .brk => exact hq.elim
  | .ok .cont => exact hq.elim
end
/-! a lambda of one parameter -/
abbrev lamCx1 (X : Cx) (A : Around) (outer : List Env) (s : Shared) (H : Hp) (E : XK) (scope : Scope) (f c' : Addr) (x : Str) : Cx := { lamCx X A outer s H E scope f c' with N := X.N ++ [x] }
section
variable {X : Cx} {scope : Scope} {σ : L2.St} {l : Addr → Option Obj} {params : Arguments} {body : Expr} {f c' : Addr} {dV doc pm ctv : Value} {k : Nat} {E : XK} {tb : XK → TE} {x : Str} {v : V} {u : Value}
theorem lam_inv1 {A : Around} {outer : List Env} {s : Shared} {H : Hp} {h₁ : Heap} {tk : Nat} (ok : X.Ok) (L : LScope X.env.scope scope X.N) (hxl : scope.names.lookup x = some .local) (V : Held X scope σ l) (hlen : σ.length = X.N.length) (C : Cin l H) (e0 : Env0 X.prog X.w X.K X.mg X.base A outer s H) (hd : A.handled = none) (rv : RelV v u)
    (hns : h₁.Ns s.heap.objs.size fun y => ([(x, u)] : List (Str × Value)).reverse.lookup y) (kp : ∀ b o, s.heap.get? b = some o → h₁.get? b = some o) : Inv (lamCx1 X A outer s (subC l H) E scope f c' x) [] (σ ++ [some v]) (subC l H) { s with heap := h₁, toks := tk } := by
  have hfree := L.has ok
  have at_ : ∀ {c o}, l c = some o → s.heap.get? c = some o := fun {c o} e => cellX_at e0.hok (C c o e)
  have hs := hok_sub C e0.hok
  refine {
    ok := {
      mod := e0.mod, kind := L.kind, glob := rfl, blt := rfl, above := Nat.le_refl _
      inj := fun y z c e1 e2 => ok.inj y z c (NdefX.clo_cm hfree e1) (NdefX.clo_cm hfree e2)
      has := fun y hy => ?_
      cab := fun y c z _ => absurd (show false = true from z) (by decide)
      hd := fun _ => hd
      frames := Around.frames_deeper e0.frames
      stk := .inr ⟨rfl, rfl⟩
      exf := fun b z => absurd (show b ∈ ([] : List Addr) from z) (by simp)
      bs := fun b o e => ⟨(e0.bs b o e).1, sub_none (e0.bs b o e).2⟩
      bsz := e0.bsz
      noex := fun b _ _ z => absurd (show b ∈ ([] : List Addr) from z) (by simp)
      exfs := fun b z => absurd (show b ∈ ([] : List Addr) from z) (by simp)
      funs := e0.funs
      frf := fun b hb => sub_none (e0.frf b hb) }
    os := rfl
    bare := e0.bare
    base := Un.kept kp
    loc := ⟨_, hns, fun i y v e1 e2 e3 => ?_⟩
    cell := fun y c e => ?_
    free := hs.fresh (Nat.le_refl _)
    freeC := fun y c e => ?_
    pin := fun q hq => absurd (show q ∈ ([] : List (Addr × Obj)) ++ [] from hq) (by simp)
    hok := hs.kept kp
    len := by
      show (σ ++ [some _]).length = (X.N ++ [x]).length
      rw [List.length_append, List.length_append, hlen]
      rfl }
  · have hy : scope.names.lookup y = some .cell ∨ scope.names.lookup y = some .free := hy
    rcases hy with hy | hy
    · exact absurd rfl (L.cell _ (PySem.mem_of_lookup hy))
    · obtain ⟨c, hc⟩ := hfree _ (PySem.mem_of_lookup hy) rfl
      exact ⟨c, NdefX.clo_has hfree (PySem.mem_of_lookup hy) hc⟩
  · have e3 : Vis scope y := e3
    have e1 : (X.N ++ [x])[i]? = some y := e1
    by_cases lt : i < X.N.length
    · rw [List.getElem?_append_left lt] at e1
      rw [List.getElem?_append_left (by rw [hlen]; exact lt)] at e2
      rcases e3 with q | q | q
      · exact absurd (List.mem_of_getElem? e1) (L.own _ (PySem.mem_of_lookup q) rfl)
      · exact absurd rfl (L.cell _ (PySem.mem_of_lookup q))
      · obtain ⟨c, o, u, h1, h2, h3, r⟩ := V.val i y v e1 e2 q
        exact ⟨u, r, .inr ⟨.inr q, c, h1, o, kp _ _ (at_ h2), h3⟩⟩
    · rw [List.getElem?_append_right (by omega)] at e1
      rw [List.getElem?_append_right (by rw [hlen]; omega)] at e2
      rw [hlen] at e2
      have i0 : i - X.N.length = 0 := by
        cases z : i - X.N.length with
        | zero => rfl
        | succ m =>
          rw [z] at e1
          cases e1
      rw [i0] at e1 e2
      cases e1
      cases e2
      exact ⟨u, rv, .inl ⟨hxl, by simp⟩⟩
  · obtain ⟨o, v, h1, h2⟩ := V.all y c e
    exact ⟨v, o, kp _ _ (at_ h1), h2⟩
  · obtain ⟨o, v, h1, h2⟩ := V.all y c e
    exact subC_in h1
/-- how its parameter is bound -/
def BindP (X : Cx) (scope : Scope) (params : Arguments) (body : Expr) (x : Str) : Prop := ∀ (s : Shared) (c' : Addr) (doc pm ctv u : Value), BindsTo s (lfd X scope params body c' .none doc pm ctv) ⟨[u], []⟩ [(x, u)]
/-- what such an object's call does -/
def lact1 (X : Cx) (scope : Scope) (params : Arguments) (body : Expr) (σ : L2.St) (l : Addr → Option Obj) (tb : XK → TE) : Act1 := fun f v H Q E =>
  ∃ (c' : Addr) (doc pm ctv : Value) (H1 : Hp) (Q0 : VK) (E0 : XK), H = addC l H1 ∧ Free l H1 ∧ H1 f = some (FunO f (lfd X scope params body c' .none doc pm ctv)) ∧ H1 c' = some (CodeO c' (X.env.qual ++ "<lambda>")) ∧
    tb E0 (σ ++ [some v]) H1 Q0 ∧ (∀ v H2, Free l H2 → Q0 v H2 → Q v (addC l H2)) ∧ ∀ cls d H2, Free l H2 → E0 cls d H2 → E cls d (addC l H2)
theorem lact1_ok (ok : X.Ok) (L : LScope X.env.scope scope X.N) (hxl : scope.names.lookup x = some .local) (V : Held X scope σ l) (hlen : σ.length = X.N.length) (hbind : BindP X scope params body x)
    (hb : ∀ (A : Around) (outer : List Env) (s : Shared) (H : Hp) (E : XK) (f c' : Addr), Room k (A.deeper (lamEnv X scope s.heap.objs.size f c')) → PE (lamCx1 X A outer s H E scope f c' x) body (tb E)) :
    ActOk1 X.prog X.w X.K X.mg X.base (k + 1) (lact1 X scope params body σ l tb) := by
  intro f v u A outer s H Q E hr e0 rv h
  obtain ⟨c', doc, pm, ctv, H1, Q0, E0, rfl, F, hf, hc, q, hQ, hE⟩ := h
  have hf2 : addC l H1 f = some (FunO f (lfd X scope params body c' .none doc pm ctv)) := by rw [addC_out (F.out hf)]; exact hf
  have hc2 : addC l H1 c' = some (CodeO c' (X.env.qual ++ "<lambda>")) := by rw [addC_out (F.out hc)]; exact hc
  obtain ⟨od, sl, ho⟩ := funO_at e0.hok hf2
  refine ⟨⟨_, od, _, sl, ho⟩, ?_⟩
  have C : Cin l (addC l H1) := cin_add
  have es : subC l (addC l H1) = H1 := sub_add F
  refine PySem.W.kla_callFunE hr.depth ho rfl L.co L.gen rfl (NdefX.codeO_at e0.hok hc2) (hbind s c' doc pm ctv u _ _ _ _ ?_)
  refine wpAny_newFunctionEnv L.cell (fun y hy => by rw [List.mem_singleton.mp hy]; exact hxl) (fun h₁ hns hsb => ⟨((e0.mod.nolimit).keeps fun b o e => (e0.bs b o e).1).fresh _ hsb, ?_⟩) L.kind
  show codeAny _ _ (.expr body (lamEnv X scope s.heap.objs.size f c')) _ _
  have kp : ∀ b o, s.heap.get? b = some o → h₁.get? b = some o := fun b o e => hsb.extBut b o (Nat.ne_of_lt (Heap.lt_size e)) (Heap.get?_push_of_some _ e)
  have I := lam_inv1 (E := E0) (f := f) (c' := c') (tk := s.toks + ([(x, u)] : List (Str × Value)).length) ok L hxl V hlen C e0 hr.hd rv hns kp
  rw [es] at I
  have nfr : ∀ b ∈ frs outer, addC l H1 b = none := e0.frf
  have cx : ∀ {e : Value} {s3 : Shared}, L2.CX X.prog X.w outer H1 s E0 e s3 → L2.CX X.prog X.w outer (addC l H1) s E e s3 := fun {e s3} hx => by
    refine cx_add C e0.hok nfr ?_
    rw [es]
    obtain ⟨a, B, H', cls, d, x1, x2, x3, x4, x5, x6, x7, x8⟩ := hx
    exact ⟨a, B, H', cls, d, x1, x2, x3, x4, x5, x6, x7, fun F' => hE cls d H' F' x8⟩
  refine PySem.W.kla_codeExpr (wpAny_mono ((hb A outer s H1 E0 f c' (hr.deeper _)).run [] _ (σ ++ [some v]) H1 Q0 I q) (fun u s2 hq => ?_) fun e s2 he => wpAny_mono he (fun _ _ hx => cx hx) fun _ _ hx => cx hx)
  obtain ⟨v, H2, I2, r, q2⟩ := hq
  have F2 : Free l H2 := fun b o e => I2.base.free b o (cellX_at e0.hok (C b o e)) (F b o e) (by intro z; cases z)
  have un : Un (frs outer) [] (subC l (addC l H1)) H2 s.heap s2.heap := by rw [es]; exact I2.base
  refine ⟨v, addC l H2, I2.os, I2.bare, un_add C F2 un, hok_add F2 I2.hok fun b o e => ?_, r, hQ v H2 F2 q2⟩
  refine I2.base.keep b o (cellX_at e0.hok (C b o e)) (F b o e) (fun z => ?_) (by intro z; cases z)
  have := nfr b z
  rw [C b o e] at this
  cases this
theorem pe_lamP {T : List (Addr × Str)} {c P : Addr} {pos p1 : PySem.Pos} (TB : TabB X.base X.mg c P) (hcode : X.env.code = .ref c) (hm : (P, X.env.qual ++ "<lambda>") ∈ T)
    (hu : ∀ p ∈ T, p.1 = P → p.2 = X.env.qual ++ "<lambda>") (L : LScope X.env.scope scope X.N) (hp : params = ⟨[], [⟨x, none, p1⟩], none, [], [], none, []⟩) : PE X (.Lambda params body scope pos) (fun σ H Q => Tabs T H ∧ ∀ f H1, Made X scope params body T H .none f H1 → Q (.ref f) H1) := by
  subst hp
  refine ⟨fun pins s σ H Q I ⟨hT, h⟩ => ?_⟩
  refine PySem.W.kla_eval rfl ?_
  rw [makeFunction_eq]
  simp only [List.zip_nil_right, List.filterMap_nil, List.isEmpty_nil, if_true, pure_bind]
  exact lam_made I TB hcode hm hu hT (L.has I.ok) fun f H1 s' I1 m => ⟨.ref f, H1, I1, rfl, h f H1 m⟩
end
section
variable {P : Program} {w : World} {l : Addr → Option Obj} {H : Hp}
/-- an exception that leaves a def that was handed the cells, told without them -/
theorem cx_sub {outer : List Env} {s s' : Shared} {E : XK} {u : Value} (F : Free l H) (hh : ∀ b o, l b = some o → s.heap.get? b = some o) (c : L2.CX P w outer (addC l H) s (fun cls d H' => Cin l H' ∧ E cls d (subC l H')) u s') : L2.CX P w outer H s E u s' := by
  obtain ⟨a, B, H', cls, d, rfl, fl, hok, ub, na, os, ag, C, hE⟩ := c
  have at_ : ∀ {b o}, l b = some o → B.get? b = some o := fun {b o} e => cellX_at hok (C b o e)
  refine ⟨a, B, subC l H', cls, d, rfl, fl, hok_sub C hok, ⟨fun b o q n hb => ?_, ub.slot, fun b o q n => ?_, ub.there, fun b xs e => ?_, fun b o2 x e => ?_, fun b ps e => ?_⟩, sub_none na, os, ag, hE⟩
  · cases z : l b with
    | none => exact ub.keep b o q (by rw [addC_out z]; exact n) hb
    | some o2 =>
      have e := hh b o2 z
      rw [q] at e
      cases e
      exact at_ z
  · cases z : l b with
    | none => exact sub_none (ub.free b o q (by rw [addC_out z]; exact n))
    | some o2 => exact subC_in z
  · have q := F.out e
    rw [subC_out q]
    exact ub.tups b xs (by rw [addC_out q]; exact e)
  · have q := F.out e
    rw [subC_out q]
    exact ub.frzs b o2 x (by rw [addC_out q]; exact e)
  · have q := F.out e
    rw [subC_out q]
    exact ub.tbls b ps (by rw [addC_out q]; exact e)
end
section
variable {X : Cx} {scope : Scope} {params : Arguments} {body o : Expr} {k j : Nat} {C g : Addr} {fd : FuncData} {a m x : Str} {spG : Act1 → Sp} {tb : XK → TE} {to : TE} {T : List (Addr × Str)} {E : XK} {R : Addr → L2.St → Hp → VK → XK → Prop} {lpos pos apos : PySem.Pos} {pl : Sem Bool}
/-- o.m(lambda x: body), the reading of what the lambda does told by R -/
def tMethA (C : Addr) (m : Str) (T : List (Addr × Str)) (R : Addr → L2.St → Hp → VK → XK → Prop) (E : XK) (to : TE) : TE := fun σ H Q => to σ H fun y H1 => ∃ p dx fs, y = .ref p ∧ H1 p = some (.ins C dx fs) ∧ fs.lookup m = none ∧ Tabs T H1 ∧ ∀ H2, ExtN H1 H2 → Tabs T H2 → R p σ H2 Q E
theorem pe_methA (ho : PE X o to) (c : Cls X.K C) (hm : Meth X.K C m g) (G : ∀ act, ActOk1 X.prog X.w X.K X.mg X.base (k + 1) act → FnOk X.prog X.w X.K X.mg X.base (L2.CX X.prog X.w) j g fd ["self", a] (spG act)) (hr : Room j X.A) (hb : Binds X.K fd ["self", a] []) (hfn : ∀ y, X.fn y = true) (L : LScope X.env.scope scope X.N)
    (hxl : scope.names.lookup x = some .local) (hbind : BindP X scope params body x) (hx : Passes (L2.CX X.prog X.w) X E) (hl : PE X (.Lambda params body scope lpos) (fun σ H Q => Tabs T H ∧ ∀ f H1, Made X scope params body T H .none f H1 → Q (.ref f) H1))
    (hbody : ∀ (A : Around) (outer : List Env) (s : Shared) (H : Hp) (E : XK) (f c' : Addr), Room k (A.deeper (lamEnv X scope s.heap.objs.size f c')) → PE (lamCx1 X A outer s H E scope f c' x) body (tb E))
    (hR : ∀ (l : Addr → Option Obj) (σ : L2.St) (H : Hp) (p f : Addr) (dx : Addr) (fs : List (Str × V)) (Q : VK), Free l H → H p = some (.ins C dx fs) → (∃ (c' : Addr) (doc pm ctv : Value), H f = some (FunO f (lfd X scope params body c' .none doc pm ctv)) ∧ H c' = some (CodeO c' (X.env.qual ++ "<lambda>"))) → R p σ H Q E →
      spG (lact1 X scope params body σ l tb) [.ref p, .ref f] (addC l H) (fun v H2 => Cin l H2 ∧ Q v (subC l H2)) (fun cls d H2 => Cin l H2 ∧ E cls d (subC l H2)))
    (ht : eval (.Call (.Attribute o m apos) [.Lambda params body scope lpos] [] pos) X.env = (do
      let ov ← eval o X.env
      standAt apos.atName
      let (f, first) ← holding [ov] (getMethod ov m pl)
      callWith pos f first (backTo pos (starEach [.Lambda params body scope lpos] X.env)) (backToKw pos (keywordEach [] X.env))) := by rfl) : PE X (.Call (.Attribute o m apos) [.Lambda params body scope lpos] [] pos) (tMethA C m T R E to) := by
  refine ⟨fun pins s σ H Q I h => ?_⟩
  refine PySem.W.methodCall_KW (pl := pl) (thn (ho.run pins s σ H _ I h) fun u s1 ⟨y, H1, I1, ry, p, dx, fs, ey, ep, lm, hT, q⟩ => ?_) ht
  subst ey
  obtain rfl : u = Value.ref p := ry
  refine getmeth_ok I1 ep c hm lm ?_
  refine PySem.W.callWith_K (first := [.ref p]) (h₀ := X.base) I.ok.mod.kin hm.kp (thn ((pa_cons hl pa_nil).run pos pins s1 σ H1 (fun vs H2 => ∃ f, vs = [.ref f] ∧ Made X scope params body T H1 .none f H2) I1 ⟨hT, fun f H2 m => ⟨f, rfl, m⟩⟩) fun us s2 ⟨vs, H2, I2, r, f, ev, md⟩ => ⟨I2.kIn, ?_⟩) rfl rfl
  subst ev
  obtain ⟨V, F⟩ := held_of L I2
  obtain ⟨x1, t1, nf, c', doc, pm, ctv, hf, hc⟩ := md
  have q2 := q H2 x1 t1
  have ep2 : H2 p = some (.ins C dx fs) := x1 _ _ ep fun _ z => by cases z
  have hh : ∀ b o, heldNow X scope s2.heap b = some o → s2.heap.get? b = some o := fun b o e => (held_mem e).2
  have cell_hi : ∀ b o, heldNow X scope s2.heap b = some o → X.s_0.heap.objs.size ≤ b := fun b o e => by
    obtain ⟨⟨y, hy⟩, _⟩ := held_mem e
    exact I.ok.cab y b (hfn y) (clo_mem L I.ok hy)
  have cell_ne : ∀ b o, heldNow X scope s2.heap b = some o → b ≠ X.env.locals := fun b o e => by
    obtain ⟨⟨y, hy⟩, _⟩ := held_mem e
    exact I2.cne y b (clo_mem L I.ok hy)
  have okA := hok_add F I2.hok hh
  generalize heldNow X scope s2.heap = l at *
  have A := lact1_ok (params := params) (body := body) I.ok L hxl V I2.len hbind hbody
  have e0 := I2.env0
  have none_of : ∀ b, H2 b = none → l b = none → addC l H2 b = none := fun b n e => by rw [addC_out e]; exact n
  have lbase : ∀ b o, X.base.get? b = some o → l b = none := fun b o e => by
    cases z : l b with
    | none => rfl
    | some o2 => exact absurd (Nat.lt_of_lt_of_le (Heap.lt_size e) I.ok.bsz) (Nat.not_lt.mpr (cell_hi b o2 z))
  have lfr : ∀ b ∈ frs X.stack, l b = none := fun b hb => by
    cases z : l b with
    | none => rfl
    | some o2 =>
      rcases List.mem_cons.mp (I2.stkSub b hb) with y | y
      · exact absurd y (cell_ne b o2 z)
      · obtain ⟨_, ob, hob, _⟩ := I2.ok.funs.mem y
        exact absurd (Heap.lt_size hob) (Nat.not_lt.mpr (cell_hi b o2 z))
  have e1 : Env0 X.prog X.w X.K X.mg X.base X.A X.stack s2 (addC l H2) := ⟨e0.frames, e0.mod, fun b o e => ⟨(e0.bs b o e).1, none_of b (e0.bs b o e).2 (lbase b o e)⟩, e0.bsz, e0.funs, fun b hb => none_of b (e0.frf b hb) (lfr b hb), okA, e0.bare⟩
  have hsp := hR l σ H2 p f dx fs Q F ep2 ⟨c', doc, pm, ctv, hf, hc⟩ q2
  show wpAny _ _ (call (.ref g) (.ref p :: us)) _ _ _
  refine wpAny_call (codeAny_mono ((G _ A).run X.A X.stack s2 (addC l H2) ⟨.ref p :: us, []⟩ (.ref p :: us) [.ref p, .ref f] _ _ hr e1 (by
    have := hb s2 (.ref p :: us) I2.kIn (by rw [List.append_nil, List.length_cons, ← r.length]; rfl)
    rw [List.append_nil] at this
    exact this) (.cons rfl r) hsp) fun r s' hq => ?_)
  match r with
  | .error er => exact hx pins σ H2 s2 er s' I2 (cx_sub F hh hq)
  | .ok (.ret u) =>
    obtain ⟨v, H3, os, bare, un, hok, r2, C2, q2⟩ := hq
    exact ⟨v, subC l H3, I2.call' (ch := []) os (un_sub F C2 hok hh un) (hok_sub C2 hok) bare (fun b z => absurd z (by simp)), r2, q2⟩
  | .ok .next => exact hq.elim
  | .ok .brk => exact hq.elim
  | .ok .cont => exact hq.elim
end
end CS
set_option Elab.async false
set_option maxRecDepth 100000
set_option maxHeartbeats 4000000
set_option linter.unusedVariables false
/-! texts cut at one sign and put together again -/
namespace CS
open PySem
abbrev sgn (c : Nat) : Str := ⟨#[c]⟩
def lsS (x : Str) : List Nat := x.cps.toList
theorem lsS_inj {x y : Str} (h : lsS x = lsS y) : x = y := by
  obtain ⟨⟨a⟩⟩ := x
  obtain ⟨⟨b⟩⟩ := y
  cases (show a = b from h)
  rfl
def ofL (l : List Nat) : Str := ⟨l.toArray⟩
theorem lsS_ofL (l : List Nat) : lsS (ofL l) = l := rfl
theorem ofL_lsS (x : Str) : ofL (lsS x) = x := lsS_inj rfl
def spl (c : Nat) : List Nat → List (List Nat)
  | [] => [[]]
  | a :: l => if a = c then [] :: spl c l else match spl c l with
    | [] => [[a]]
    | p :: ps => (a :: p) :: ps
def jnL (c : Nat) : List (List Nat) → List Nat
  | [] => []
  | [p] => p
  | p :: q :: r => p ++ c :: jnL c (q :: r)
theorem spl_ne (c : Nat) : ∀ l, spl c l ≠ []
  | [] => by simp [spl]
  | a :: l => by
    unfold spl
    split
    · simp
    · split <;> simp
theorem jnL_cons (c a : Nat) (p : List Nat) (ps : List (List Nat)) : jnL c ((a :: p) :: ps) = a :: jnL c (p :: ps) := by
  cases ps <;> rfl
theorem jnL_nil (c : Nat) {ps : List (List Nat)} (h : ps ≠ []) : jnL c ([] :: ps) = c :: jnL c ps := by
  cases ps with
  | nil => exact absurd rfl h
  | cons q r => rfl
theorem jn_spl (c : Nat) : ∀ l, jnL c (spl c l) = l
  | [] => rfl
  | a :: l => by
    have ih := jn_spl c l
    have ne := spl_ne c l
    unfold spl
    split
    · next e => rw [jnL_nil c ne, ih, e]
    · split
      · next e => exact absurd e ne
      · next p ps e => rw [jnL_cons, ← e, ih]
theorem spl_free (c : Nat) : ∀ l, ∀ p ∈ spl c l, c ∉ p
  | [] => by simp [spl]
  | a :: l => by
    have ih := spl_free c l
    unfold spl
    split
    · intro p hp
      rcases List.mem_cons.mp hp with rfl | hp
      · exact List.not_mem_nil
      · exact ih p hp
    · next ne =>
      split
      · intro p hp
        rcases List.mem_cons.mp hp with rfl | hp
        · simp [Ne.symm ne]
        · cases hp
      · next q ps e =>
        intro p hp
        rcases List.mem_cons.mp hp with rfl | hp
        · intro m
          rcases List.mem_cons.mp m with m | m
          · exact ne m.symm
          · exact ih q (by rw [e]; exact List.mem_cons_self) m
        · exact ih p (by rw [e]; exact List.mem_cons_of_mem _ hp)
theorem spl_app (c : Nat) : ∀ {p : List Nat}, c ∉ p → ∀ l, spl c (p ++ c :: l) = p :: spl c l
  | [], _, l => by
    show spl c (c :: l) = _
    rw [spl, if_pos rfl]
  | a :: p, h, l => by
    have h1 : a ≠ c := fun e => h (by rw [e]; exact List.mem_cons_self)
    have h2 := spl_app c (p := p) (fun m => h (List.mem_cons_of_mem _ m)) l
    show spl c (a :: (p ++ c :: l)) = _
    rw [spl, if_neg h1, h2]
theorem spl_one (c : Nat) : ∀ {p : List Nat}, c ∉ p → spl c p = [p]
  | [], _ => rfl
  | a :: p, h => by
    have h1 : a ≠ c := fun e => h (by rw [e]; exact List.mem_cons_self)
    have h2 := spl_one c (p := p) fun m => h (List.mem_cons_of_mem _ m)
    rw [spl, if_neg h1, h2]
theorem spl_jn (c : Nat) : ∀ {ps : List (List Nat)}, ps ≠ [] → (∀ p ∈ ps, c ∉ p) → spl c (jnL c ps) = ps
  | [], h, _ => absurd rfl h
  | [p], _, f => spl_one c (f p List.mem_cons_self)
  | p :: q :: r, _, f => by
    show spl c (p ++ c :: jnL c (q :: r)) = _
    rw [spl_app c (f p List.mem_cons_self), spl_jn c (ps := q :: r) (by simp) fun x hx => f x (List.mem_cons_of_mem _ hx)]
theorem ls_join (c : Nat) : ∀ ws : List Str, lsS ((sgn c).join ws) = jnL c (ws.map lsS)
  | [] => by simp [Str.join, jnL]; rfl
  | [p] => by simp [Str.join, jnL]
  | p :: q :: r => by
    have ih := ls_join c (q :: r)
    simp only [Str.join, List.map_cons, jnL] at ih ⊢
    rw [← ih]
    show ((p.cps ++ #[c]) ++ ((sgn c).join (q :: r)).cps).toList = _
    simp [lsS]
theorem split_eq (x : Str) (c : Nat) (h : c < 256) : Txt.split x (sgn c) = (spl c (lsS x)).map ofL := by
  have k1 : Builtin.Str.strKind (sgn c) = 1 := by
    unfold Builtin.Str.strKind
    rw [if_pos]
    simp [sgn, h]
  have k2 : ¬ Builtin.Str.strKind x < 1 := by
    unfold Builtin.Str.strKind
    split
    · omega
    · split <;> omega
  unfold Txt.split
  split
  · next e =>
    rw [k1] at e
    have e0 : x.length < 1 := by
      simp only [Bool.or_eq_true, decide_eq_true_eq] at e
      rcases e with e | e
      · exact e
      · exact absurd e k2
    have : lsS x = [] := List.length_eq_zero_iff.mp (by show x.cps.toList.length = 0; rw [Array.length_toList]; exact Nat.lt_one_iff.mp e0)
    rw [this]
    show [x] = [ofL []]
    rw [← this, ofL_lsS]
  · have key : ∀ ps, ps = StrLaws.partsFrom x 1 0 (Builtin.Str.occurrences x (sgn c) 0 x.length (x.length + 1)) → ps = (spl c (lsS x)).map ofL := fun ps eps => by
      obtain ⟨f, g1, g2⟩ := StrLaws.occ_tight x (sgn c) (Nat.le_refl 1)
      obtain ⟨f2, g3⟩ := StrLaws.occ_chain x (sgn c) (x.length + 1)
      have fr := StrLaws.parts_free x c _ 0 f g1 g2
      have jn := StrLaws.join_partsFrom x (sgn c) _ 0 f2 g3
      have ne := StrLaws.partsFrom_ne x 1 0 (Builtin.Str.occurrences x (sgn c) 0 x.length (x.length + 1))
      rw [show (sgn c).length = 1 from rfl] at fr jn
      rw [← eps] at fr jn ne
      have whole : Builtin.Str.strSub x 0 x.length = x := lsS_inj (by unfold lsS Builtin.Str.strSub; simp [Str.length])
      rw [whole] at jn
      have e1 : lsS x = jnL c (ps.map lsS) := by rw [← ls_join, jn]
      rw [e1, spl_jn c (by obtain ⟨p, r, e⟩ := ne; rw [e]; simp) (by
        intro p hp
        obtain ⟨w, hw, rfl⟩ := List.mem_map.mp hp
        exact fr w hw), List.map_map]
      exact (List.map_id'' (fun w => ofL_lsS w) ps).symm
    split
    · next e =>
      refine key [x] ?_
      rw [List.isEmpty_iff.mp e]
      show [x] = [Builtin.Str.strSub x 0 x.length]
      congr 1
      exact lsS_inj (by unfold lsS Builtin.Str.strSub; simp [Str.length])
    · rw [StrLaws.partsBetween_eq]
      exact key _ rfl
end CS
set_option Elab.async false
set_option maxRecDepth 100000
set_option maxHeartbeats 4000000
set_option linter.unusedVariables false
/-! words read as a paper -/
namespace CS
open PySem
/-- figures, as they are read -/
def figs (l : List Nat) : Bool := !l.isEmpty && decide (l.length ≤ 31) && l.all (fun c => decide (48 ≤ c ∧ c ≤ 57)) && (l == [48] || l.head? != some 48)
def intW (w : Str) : Option Int := match lsS w with
  | 45 :: r => if figs r && r != [48] then some (-(NumText.digitsVal r : Int)) else none
  | l => if figs l then some (NumText.digitsVal l : Int) else none
theorem intW_minus {x : Str} {r : List Nat} (e : lsS x = 45 :: r) : intW x = if (figs r && r != [48]) = true then some (-(NumText.digitsVal r : Int)) else none := by
  unfold intW
  rw [e]
  rfl
theorem intW_plain {x : Str} (h : (lsS x).head? ≠ some 45) : intW x = if figs (lsS x) = true then some (NumText.digitsVal (lsS x) : Int) else none := by
  unfold intW
  split
  · next e => rw [e] at h; exact absurd rfl h
  · rfl
theorem isSome_ite {c : Bool} {n : Int} : (if c = true then some n else none).isSome = c := by cases c <;> rfl
/-- a paper as it is read: its word, its whole numbers, its parts -/
inductive Pt
  | n0 (w : Str) (ns : List Int) | n1 (w : Str) (ns : List Int) (k : Pt) | n2 (w : Str) (ns : List Int) (k l : Pt)
def intAt (ws : List Str) (p : Nat) : Option Int := ws[p]?.bind intW
def readI : Nat → List Str → Nat → Sum (List Int × Nat) Nat
  | 0, _, p => .inl ([], p)
  | n + 1, ws, p => match intAt ws p with
    | none => .inr p
    | some i => match readI n ws (p + 1) with
      | .inr q => .inr q
      | .inl (is, q) => .inl (i :: is, q)
def PreI (ws : List Str) (p : Nat) (ns : List Int) : Prop := ∀ i n, ns[i]? = some n → intAt ws (p + i) = some n
theorem ints_yes {ws : List Str} : ∀ {n p : Nat} {ns : List Int}, PreI ws p ns → ns.length = n → readI n ws p = .inl (ns, p + n)
  | 0, p, ns, _, e => by
    rw [List.length_eq_zero_iff.mp e]
    rfl
  | n + 1, p, [], _, e => by cases e
  | n + 1, p, i :: ns, h, e => by
    have h0 : intAt ws p = some i := h 0 i rfl
    have h1 : PreI ws (p + 1) ns := fun j m hm => by
      have := h (j + 1) m hm
      rw [show p + 1 + j = p + (j + 1) by omega]
      exact this
    rw [readI, h0]
    dsimp only
    rw [ints_yes h1 (Nat.succ.inj e)]
    show Sum.inl (i :: ns, p + 1 + n) = Sum.inl (i :: ns, p + (n + 1))
    rw [show p + 1 + n = p + (n + 1) by omega]
theorem ints_no {ws : List Str} : ∀ {n p : Nat} {ns : List Int}, PreI ws p ns → ns.length < n → intAt ws (p + ns.length) = none → readI n ws p = .inr (p + ns.length)
  | 0, p, ns, _, e, _ => by omega
  | n + 1, p, [], h, e, z => by
    have z : intAt ws p = none := z
    rw [readI, z]
    rfl
  | n + 1, p, i :: ns, h, e, z => by
    have h0 : intAt ws p = some i := h 0 i rfl
    have h1 : PreI ws (p + 1) ns := fun j m hm => by
      have := h (j + 1) m hm
      rw [show p + 1 + j = p + (j + 1) by omega]
      exact this
    have z1 : intAt ws (p + 1 + ns.length) = none := by
      rw [List.length_cons] at z
      rw [show p + 1 + ns.length = p + (ns.length + 1) by omega]
      exact z
    rw [readI, h0]
    dsimp only
    rw [ints_no h1 (Nat.lt_of_succ_lt_succ e) z1]
    show Sum.inr (p + 1 + ns.length) = Sum.inr (p + (ns.length + 1))
    rw [show p + 1 + ns.length = p + (ns.length + 1) by omega]
/-- what words stand for: how many whole numbers, how many parts -/
abbrev Kinds := Str → Option (Nat × Nat)
/-- a paper read from the word at p on, m words named ahead; or the word that is refused -/
def parse (kd : Kinds) (ws : List Str) : Nat → Nat → Nat → Sum (Pt × Nat × Nat) Nat
  | 0, p, _ => .inr p
  | h + 1, p, m => if m = 20 then .inr p else match ws[p]? with
    | none => .inr p
    | some w => match kd w with
      | none => .inr p
      | some (a, b) => match readI a ws (p + 1) with
        | .inr q => .inr q
        | .inl (ns, q) => match b with
          | 0 => .inl (.n0 w ns, q, m + 1)
          | 1 => match parse kd ws h q (m + 1) with
            | .inr r => .inr r
            | .inl (k, r, m2) => .inl (.n1 w ns k, r, m2)
          | _ => match parse kd ws h q (m + 1) with
            | .inr r => .inr r
            | .inl (k, r, m2) => match parse kd ws h r m2 with
              | .inr r2 => .inr r2
              | .inl (l, r2, m3) => .inl (.n2 w ns k l, r2, m3)
def Pt.words : Pt → Nat
  | .n0 .. => 1
  | .n1 _ _ k => k.words + 1
  | .n2 _ _ k l => k.words + l.words + 1
/-- every word stands with as much as it asks for -/
def Pt.Wf (kd : Kinds) : Pt → Prop
  | .n0 w ns => kd w = some (ns.length, 0)
  | .n1 w ns k => kd w = some (ns.length, 1) ∧ k.Wf kd
  | .n2 w ns k l => (∃ b, kd w = some (ns.length, b + 2)) ∧ k.Wf kd ∧ l.Wf kd
theorem ints_len {ws : List Str} : ∀ {n p q : Nat} {ns : List Int}, readI n ws p = .inl (ns, q) → ns.length = n ∧ q = p + n
  | 0, p, q, ns, h => by cases h; exact ⟨rfl, rfl⟩
  | n + 1, p, q, ns, h => by
    rw [readI] at h
    split at h
    · cases h
    · split at h
      · cases h
      · next e =>
        cases h
        obtain ⟨a, b⟩ := ints_len e
        exact ⟨by rw [List.length_cons, a], by omega⟩
theorem parse_wf {kd : Kinds} {ws : List Str} : ∀ {h p m q m2 : Nat} {t : Pt}, m ≤ 20 → parse kd ws h p m = .inl (t, q, m2) → t.Wf kd ∧ m2 = m + t.words ∧ m2 ≤ 20
  | 0, p, m, q, m2, t, _, e => by cases e
  | h + 1, p, m, q, m2, t, le, e => by
    rw [parse] at e
    split at e
    · cases e
    · next nm =>
      cases hw : ws[p]? with
      | none => rw [hw] at e; cases e
      | some w =>
        rw [hw] at e
        dsimp only at e
        cases hk : kd w with
        | none => rw [hk] at e; cases e
        | some ab =>
          obtain ⟨a, b⟩ := ab
          rw [hk] at e
          dsimp only at e
          cases hi : readI a ws (p + 1) with
          | inr q => rw [hi] at e; cases e
          | inl x =>
            obtain ⟨ns, q1⟩ := x
            rw [hi] at e
            dsimp only at e
            have el := ints_len hi
            split at e
            · cases e
              exact ⟨by show kd w = _; rw [el.1]; exact hk, rfl, by omega⟩
            · split at e
              · cases e
              · next e1 =>
                cases e
                obtain ⟨a1, a2, a3⟩ := parse_wf (by omega) e1
                exact ⟨⟨by rw [el.1]; exact hk, a1⟩, by show _ = m + (_ + 1); omega, a3⟩
            · next nb0 nb1 =>
              split at e
              · cases e
              · next e1 =>
                split at e
                · cases e
                · next e2 =>
                  cases e
                  obtain ⟨a1, a2, a3⟩ := parse_wf (by omega) e1
                  obtain ⟨b1, b2, b3⟩ := parse_wf (by omega) e2
                  refine ⟨⟨⟨b - 2, ?_⟩, a1, b1⟩, by show _ = m + (_ + _ + 1); omega, b3⟩
                  rw [el.1, hk]
                  have : b ≠ 0 := nb0
                  have : b ≠ 1 := nb1
                  rw [show b - 2 + 2 = b by omega]
end CS
set_option maxHeartbeats 1000000
set_option linter.unusedVariables false
namespace CS
theorem ups_new {f : List (Int × Fx)} {k : Int} {x : Fx} (h : k ∉ f.map (·.1)) : ups f k x = f ++ [(k, x)] := by
  induction f with
  | nil => rfl
  | cons a f ih =>
    obtain ⟨i, y⟩ := a
    simp only [List.map_cons, List.mem_cons, not_or] at h
    simp [ups, Ne.symm h.1, ih h.2]
theorem cm_pos {t b : Int} (hb : 0 < b) : 0 < cm t b := by
  unfold cm
  rw [if_neg (by omega)]
  have := gcd_pos (t := t) (b := b) (by omega)
  omega
theorem sg {c l : Int} (h : 0 < c) : (0 < l ↔ 0 < c * l) ∧ (l < 0 ↔ c * l < 0) := by
  rcases Int.lt_trichotomy l 0 with a | a | a
  · have := Int.mul_neg_of_pos_of_neg h a
    omega
  · subst a
    simp
  · have := Int.mul_pos h a
    omega
theorem low_sign {t b : Int} (hb : 0 < b) : (0 < (low t b).1 ↔ 0 < t) ∧ ((low t b).1 < 0 ↔ t < 0) := by
  have e := (low_parts (t := t) (b := b) (by omega)).1
  have h := sg (l := (low t b).1) (cm_pos (t := t) hb)
  rw [← e] at h
  exact h
theorem fr_zero {x : Fx} (h : Fr x) (e : x.1 = 0) : x = (0, 1) := by
  obtain ⟨a, b⟩ := x
  have h1 := h.1
  have h2 := h.2
  simp only at e h1 h2
  subst e
  rw [Int.gcd_zero_left] at h2
  have : b = 1 := by omega
  rw [this]
theorem fadd_pos {x y : Fx} (hx : Fr x) (hy : Fr y) (px : 0 ≤ x.1) (py : 0 ≤ y.1) (h : 0 < x.1 ∨ 0 < y.1) : 0 < (fadd x y).1 := by
  unfold fadd
  rw [(low_sign (dd0 hx hy)).1]
  have h1 := hx.pos
  have h2 := hy.pos
  rcases h with h | h
  · have a := Int.mul_pos h h2
    have b := Int.mul_nonneg py (Int.le_of_lt h1)
    omega
  · have a := Int.mul_pos h h1
    have b := Int.mul_nonneg px (Int.le_of_lt h2)
    omega
theorem scl_neg {y : Fx} (hy : Fr y) : scl y (-1) = (-y.1, y.2) := by
  unfold scl
  refine low_uniq hy.ne ⟨hy.1, ?_⟩ (by simp)
  have := hy.2
  simpa [Int.neg_gcd] using this
theorem fadd_neg {x y : Fx} (hy : Fr y) : fadd x (scl y (-1)) = fsub x y := by
  rw [scl_neg hy]
  unfold fadd fsub
  simp only [Int.neg_mul, Int.sub_eq_add_neg]
theorem fsub_neg_iff {x y : Fx} (hx : Fr x) (hy : Fr y) : (fsub x y).1 < 0 ↔ flt x y = true := by
  unfold fsub flt
  rw [(low_sign (dd0 hx hy)).2, decide_eq_true_iff]
  omega
theorem lk_of_mem : ∀ {xs : List (Int × Fx)} {k : Int} {x : Fx}, (xs.map (·.1)).Nodup → (k, x) ∈ xs → lk xs k = x
  | [], _, _, _, h => by cases h
  | (j, y) :: xs, k, x, hn, h => by
    rw [List.map_cons, List.nodup_cons] at hn
    rw [lk_cons]
    rcases List.mem_cons.mp h with e | h
    · cases e
      rw [if_pos rfl]
    · rw [if_neg fun e => hn.1 (by rw [← e]; exact List.mem_map.mpr ⟨(k, x), h, rfl⟩)]
      exact lk_of_mem hn.2 h
/-- weights taken away one after another -/
def tks (f ys : List (Int × Fx)) : List (Int × Fx) := ys.foldl (fun f kx => ups f kx.1 (fsub (lk f kx.1) kx.2)) f
theorem tks_snoc (f ys : List (Int × Fx)) (a : Int × Fx) : tks f (ys ++ [a]) = ups (tks f ys) a.1 (fsub (lk (tks f ys) a.1) a.2) := by
  unfold tks
  rw [List.foldl_append]
  rfl
theorem tks_none : ∀ (ys f : List (Int × Fx)) (j : Int), j ∉ ys.map (·.1) → lk (tks f ys) j = lk f j
  | [], _, _, _ => rfl
  | (k, x) :: ys, f, j, h => by
    simp only [List.map_cons, List.mem_cons, not_or] at h
    show lk (tks (ups f k (fsub (lk f k) x)) ys) j = _
    rw [tks_none ys _ j h.2, lk_ups, if_neg h.1]
theorem lk_tks : ∀ (ys f : List (Int × Fx)) (j : Int), (ys.map (·.1)).Nodup → lk (tks f ys) j = if j ∈ ys.map (·.1) then fsub (lk f j) (lk ys j) else lk f j
  | [], f, j, _ => by simp [tks]
  | (k, x) :: ys, f, j, h => by
    rw [List.map_cons, List.nodup_cons] at h
    show lk (tks (ups f k (fsub (lk f k) x)) ys) j = _
    by_cases e : j = k
    · subst e
      rw [tks_none ys _ j h.1, lk_ups, if_pos rfl, lk_cons, if_pos rfl, if_pos (by simp)]
    · have q : (j ∈ ((k, x) :: ys).map (·.1)) ↔ j ∈ ys.map (·.1) := by simp [e]
      rw [lk_tks ys _ j h.2, lk_ups, if_neg e, lk_cons, if_neg e]
      simp only [q]
theorem tks_keys : ∀ (ys f : List (Int × Fx)) (j : Int), j ∈ (tks f ys).map (·.1) ↔ j ∈ f.map (·.1) ∨ j ∈ ys.map (·.1)
  | [], f, j => by simp [tks]
  | (k, x) :: ys, f, j => by
    show j ∈ (tks (ups f k _) ys).map (·.1) ↔ _
    rw [tks_keys ys, ups_keys]
    simp only [List.map_cons, List.mem_cons]
    grind
theorem tks_nodup : ∀ (ys f : List (Int × Fx)), (f.map (·.1)).Nodup → ((tks f ys).map (·.1)).Nodup
  | [], _, h => h
  | (k, x) :: ys, f, h => tks_nodup ys _ (ups_nodup f k _ h)
theorem tks_len : ∀ (ys f : List (Int × Fx)), (tks f ys).length ≤ f.length + ys.length
  | [], _ => Nat.le_refl _
  | (k, x) :: ys, f => by
    have h1 := tks_len ys (ups f k (fsub (lk f k) x))
    have h2 := ups_len f k (fsub (lk f k) x)
    show (tks (ups f k (fsub (lk f k) x)) ys).length ≤ _
    rw [List.length_cons]
    omega
theorem gat_frS {n : Nat} {f xs : List (Int × Fx)} (hf : AllF n f) (h : AllF n xs) (h0 : 0 < n) (j : Int) : Fr (lk (gat f xs) j) ∧ Sz (n + xs.length * (n + 1)) (lk (gat f xs) j) := by
  rw [lk_gat]
  have hl := lk_fr hf h0 j
  exact ⟨cfold_fr j xs _ hl.1 fun x hx => (h x hx).1, cfold_sz n j xs _ n hl.1 hl.2 h⟩
/-! two shares -/
/-- as the law draws them, or puts them together -/
structure Good (n : Nat) (xs : List (Int × Fx)) : Prop where
  nd : (xs.map (·.1)).Pairwise (· < ·)
  all : AllF n xs
  pos : ∀ a ∈ xs, 0 < a.2.1
  lo : ∀ a ∈ xs, -100 ≤ a.1 ∧ a.1 ≤ 100
theorem Good.nodup {n : Nat} {xs : List (Int × Fx)} (g : Good n xs) : (xs.map (·.1)).Nodup := g.nd.imp fun e => Int.ne_of_lt e
theorem Good.shr {n : Nat} {xs : List (Int × Fx)} (g : Good n xs) (h : xs.length ≤ 8) : Shr xs := ⟨h, fun a ha => ⟨(g.lo a ha).1, (g.lo a ha).2, (g.all a ha).1, g.pos a ha⟩, g.nd⟩
theorem lk_nonneg {xs : List (Int × Fx)} (h : ∀ a ∈ xs, 0 < a.2.1) (k : Int) : 0 ≤ (lk xs k).1 ∧ (k ∈ xs.map (·.1) → 0 < (lk xs k).1) := by
  induction xs with
  | nil => exact ⟨by show (0 : Int) ≤ 0; decide, fun h => by cases h⟩
  | cons a xs ih =>
    obtain ⟨j, y⟩ := a
    have ih := ih fun b hb => h b (List.mem_cons_of_mem _ hb)
    have hy := h (j, y) List.mem_cons_self
    simp only at hy
    rw [lk_cons]
    by_cases e : k = j
    · rw [if_pos e]
      exact ⟨by omega, fun _ => hy⟩
    · rw [if_neg e]
      refine ⟨ih.1, fun m => ih.2 ?_⟩
      rcases List.mem_cons.mp m with q | q
      · exact absurd q e
      · exact q
theorem Good.self {n : Nat} {xs : List (Int × Fx)} (g : Good n xs) : IsS xs xs := ⟨g.nd, fun k x => by
  constructor
  · intro h
    refine ⟨lk_of_mem g.nodup h, fun e => ?_⟩
    have q : 0 < x.1 := g.pos _ h
    rw [e] at q
    exact absurd q (by decide)
  · rintro ⟨e, h⟩
    have m := lk_mem (f := xs) (k := k) (by rw [e]; exact h)
    obtain ⟨⟨k2, y⟩, hm, e2⟩ := List.mem_map.mp m
    simp only at e2
    subst e2
    rw [lk_of_mem g.nodup hm] at e
    rw [← e]
    exact hm⟩
theorem lk_cat {n : Nat} {xs ys : List (Int × Fx)} (g : Good n xs) (h0 : 0 < n) (hn : (ys.map (·.1)).Nodup) (j : Int) : lk (gat [] (xs ++ ys)) j = fadd (lk xs j) (lk ys j) := by
  have e : gat [] (xs ++ ys) = gat (gat [] xs) ys := by
    unfold gat
    rw [List.foldl_append]
  have hx : lk (gat [] xs) j = lk xs j := by
    rw [lk_gat]
    exact (fold_nodup xs j (0, 1) fr01 g.nodup).trans (zero_fadd (lk_fr g.all h0 j).1)
  rw [e, lk_gat, fold_nodup ys j _ (by rw [hx]; exact (lk_fr g.all h0 j).1) hn, hx]
theorem both_good {n : Nat} {xs ys zs : List (Int × Fx)} (gx : Good n xs) (gy : Good n ys) (h0 : 0 < n) (h : IsS (gat xs ys) zs) : Good (n + n + 1) zs := by
  have val : ∀ k x, (k, x) ∈ zs → x = fadd (lk xs k) (lk ys k) ∧ (k ∈ xs.map (·.1) ∨ k ∈ ys.map (·.1)) := fun k x hm => by
    obtain ⟨e, hx⟩ := (h.2 k x).mp hm
    rw [lk_gat_nodup gx.all h0 gy.nodup] at e
    refine ⟨e.symm, ?_⟩
    by_cases a : k ∈ xs.map (·.1)
    · exact .inl a
    · refine .inr ?_
      by_cases b : k ∈ ys.map (·.1)
      · exact b
      · rw [lk_none a, lk_none b] at e
        exact absurd (e.symm.trans (by decide)) hx
  refine ⟨h.1, fun a ha => ?_, fun a ha => ?_, fun a ha => ?_⟩
  · obtain ⟨e, _⟩ := val a.1 a.2 ha
    have h1 := lk_fr gx.all h0 a.1
    have h2 := lk_fr gy.all h0 a.1
    rw [e]
    exact ⟨fadd_fr h1.1 h2.1, fadd_sz h1.1 h2.1 h1.2 h2.2⟩
  · obtain ⟨e, m⟩ := val a.1 a.2 ha
    have h1 := lk_nonneg gx.pos a.1
    have h2 := lk_nonneg gy.pos a.1
    rw [e]
    exact fadd_pos (lk_fr gx.all h0 a.1).1 (lk_fr gy.all h0 a.1).1 h1.1 h2.1 (m.imp h1.2 h2.2)
  · obtain ⟨e, m⟩ := val a.1 a.2 ha
    rcases m with m | m
    · obtain ⟨b, hb, eb⟩ := List.mem_map.mp m
      rw [← eb]
      exact gx.lo b hb
    · obtain ⟨b, hb, eb⟩ := List.mem_map.mp m
      rw [← eb]
      exact gy.lo b hb
def ngs (ys : List (Int × Fx)) : List (Int × Fx) := ys.map fun a => (a.1, scl a.2 (-1))
theorem ngs_keys (ys : List (Int × Fx)) : (ngs ys).map (·.1) = ys.map (·.1) := by
  unfold ngs
  rw [List.map_map]
  rfl
theorem lk_ngs (ys : List (Int × Fx)) (j : Int) : lk (ngs ys) j = scl (lk ys j) (-1) := by
  induction ys with
  | nil =>
    show ((0, 1) : Fx) = scl (0, 1) (-1)
    decide
  | cons a ys ih =>
    obtain ⟨k, y⟩ := a
    show lk ((k, scl y (-1)) :: ngs ys) j = _
    rw [lk_cons, lk_cons, ih]
    split <;> rfl
theorem lk_take {n : Nat} {xs ys : List (Int × Fx)} (gx : Good n xs) (gy : Good n ys) (h0 : 0 < n) (j : Int) : lk (gat [] (xs ++ ngs ys)) j = fsub (lk xs j) (lk ys j) := by
  rw [lk_cat gx h0 (by rw [ngs_keys]; exact gy.nodup), lk_ngs, fadd_neg (lk_fr gy.all h0 j).1]
/-- what was put on is taken off -/
theorem take_both {n : Nat} {xs ys zs ws : List (Int × Fx)} (gx : Good n xs) (gy : Good n ys) (h0 : 0 < n) (hz : IsS (gat xs ys) zs) (hw : IsS (gat [] (zs ++ ngs ys)) ws) : ws = xs := by
  have gz := both_good gx gy h0 hz
  refine hw.uniq gx.self fun k => ?_
  have e : lk zs k = fadd (lk xs k) (lk ys k) := by
    rw [← lk_gat_nodup gx.all h0 gy.nodup]
    by_cases c : lk (gat xs ys) k = (0, 1)
    · rw [c]
      by_cases d : lk zs k = (0, 1)
      · exact d
      · obtain ⟨⟨k2, y⟩, hm, e2⟩ := List.mem_map.mp (lk_mem d)
        simp only at e2
        subst e2
        exact absurd (c ▸ ((hz.2 _ _).mp hm).1.symm) ((hz.2 _ _).mp hm).2
    · exact lk_of_mem gz.nodup ((hz.2 k _).mpr ⟨rfl, c⟩)
  have gy2 : AllF (n + n + 1) ys := fun a ha => ⟨(gy.all a ha).1, (gy.all a ha).2.up (by omega)⟩
  rw [lk_take gz ⟨gy.nd, gy2, gy.pos, gy.lo⟩ (by omega), e]
  exact fsub_fadd (lk_fr gx.all h0 k).1 (lk_fr gy.all h0 k).1
theorem both_comm {n : Nat} {xs ys zs ws : List (Int × Fx)} (gx : Good n xs) (gy : Good n ys) (h0 : 0 < n) (hz : IsS (gat xs ys) zs) (hw : IsS (gat [] (ys ++ xs)) ws) : ws = zs :=
  hw.uniq hz fun k => by rw [lk_cat gy h0 gx.nodup, lk_gat_nodup gx.all h0 gy.nodup, fadd_comm]
theorem both_same {n : Nat} {xs ys zs ws : List (Int × Fx)} (gx : Good n xs) (gy : Good n ys) (h0 : 0 < n) (hz : IsS (gat xs ys) zs) (hw : IsS (gat [] (xs ++ ys)) ws) : ws = zs :=
  hw.uniq hz fun k => by rw [lk_cat gx h0 gy.nodup, lk_gat_nodup gx.all h0 gy.nodup]
/-- the second one is within the first one -/
def Inn (xs ys : List (Int × Fx)) : Prop := ∀ a ∈ ys, a.1 ∈ xs.map (·.1) ∧ flt (lk xs a.1) a.2 = false
theorem nd_len : ∀ {r q : List Int}, r.Nodup → (∀ a ∈ r, a ∈ q) → r.length ≤ q.length
  | [], _, _, _ => Nat.zero_le _
  | a :: r, q, h, m => by
    rw [List.nodup_cons] at h
    have ha : a ∈ q := m a List.mem_cons_self
    have h2 := nd_len (q := q.erase a) h.2 fun b hb => (List.mem_erase_of_ne fun e => h.1 (by rw [← e]; exact hb)).mpr (m b (List.mem_cons_of_mem _ hb))
    rw [List.length_erase_of_mem ha] at h2
    have := List.length_pos_of_mem ha
    rw [List.length_cons]
    omega
theorem take_in {n : Nat} {xs ys zs : List (Int × Fx)} (gx : Good n xs) (gy : Good n ys) (h0 : 0 < n) (h8 : xs.length ≤ 8) (hz : IsS (gat [] (xs ++ ngs ys)) zs) (h : Inn xs ys) : Shr zs ∧ ∀ ws, IsS (tks xs ys) ws → zs = ws := by
  have lx := fun k => lk_fr gx.all h0 k
  have ly := fun k => lk_fr gy.all h0 k
  have val : ∀ k x, (k, x) ∈ zs → x = fsub (lk xs k) (lk ys k) ∧ x ≠ (0, 1) ∧ k ∈ xs.map (·.1) := fun k x hm => by
    obtain ⟨e, hx⟩ := (hz.2 k x).mp hm
    rw [lk_take gx gy h0] at e
    refine ⟨e.symm, hx, ?_⟩
    by_cases a : k ∈ xs.map (·.1)
    · exact a
    · by_cases b : k ∈ ys.map (·.1)
      · obtain ⟨c, hc, ec⟩ := List.mem_map.mp b
        rw [← ec]
        exact (h c hc).1
      · rw [lk_none a, lk_none b] at e
        exact absurd (e.symm.trans (by decide)) hx
  refine ⟨⟨?_, fun a ha => ?_, hz.1⟩, fun ws hw => hz.uniq hw fun k => ?_⟩
  · have n1 : (zs.map (·.1)).Nodup := hz.1.imp fun e => Int.ne_of_lt e
    have := nd_len (q := xs.map (·.1)) n1 fun k hk => by
      obtain ⟨a, ha, rfl⟩ := List.mem_map.mp hk
      exact (val a.1 a.2 ha).2.2
    rw [List.length_map, List.length_map] at this
    omega
  · obtain ⟨e, hne, m⟩ := val a.1 a.2 ha
    obtain ⟨b, hb, eb⟩ := List.mem_map.mp m
    have lo := gx.lo b hb
    rw [eb] at lo
    have f : Fr a.2 := by rw [e]; exact fsub_fr (lx _).1 (ly _).1
    refine ⟨lo.1, lo.2, f, ?_⟩
    have n0 : a.2.1 ≠ 0 := fun z => hne (fr_zero f z)
    have n1 : ¬ a.2.1 < 0 := fun z => by
      rw [e, fsub_neg_iff (lx _).1 (ly _).1] at z
      by_cases c : a.1 ∈ ys.map (·.1)
      · obtain ⟨b2, hb2, eb2⟩ := List.mem_map.mp c
        have q := (h b2 hb2).2
        rw [eb2] at q
        rw [← eb2, lk_of_mem gy.nodup hb2, eb2, q] at z
        cases z
      · rw [lk_none c] at z
        unfold flt at z
        have := (lk_nonneg gx.pos a.1).1
        have z2 := of_decide_eq_true z
        simp only [Int.mul_one, Int.zero_mul] at z2
        omega
    omega
  · rw [lk_take gx gy h0, lk_tks ys xs k gy.nodup]
    split
    · rfl
    · rename_i c
      rw [lk_none c]
      have := fsub_fadd (lx k).1 fr01
      rw [fadd_zero (lx k).1] at this
      exact this
theorem take_out {n : Nat} {xs ys zs : List (Int × Fx)} (gx : Good n xs) (gy : Good n ys) (h0 : 0 < n) (hz : IsS (gat [] (xs ++ ngs ys)) zs) (h : ¬ Inn xs ys) : ¬ Shr zs := fun S => by
  refine h fun a ha => ?_
  have hl := lk_of_mem gy.nodup ha
  have hp := gy.pos a ha
  have key : flt (lk xs a.1) a.2 = false := by
    cases c : flt (lk xs a.1) a.2 with
    | false => rfl
    | true =>
      have neg : (fsub (lk xs a.1) (lk ys a.1)).1 < 0 := by
        rw [fsub_neg_iff (lk_fr gx.all h0 _).1 (lk_fr gy.all h0 _).1, hl]
        exact c
      have hm : (a.1, fsub (lk xs a.1) (lk ys a.1)) ∈ zs := (hz.2 _ _).mpr ⟨lk_take gx gy h0 _, fun e => by rw [e] at neg; exact absurd neg (by decide)⟩
      have := (S.2.1 _ hm).2.2.2
      simp only at this
      omega
  refine ⟨?_, key⟩
  by_cases m : a.1 ∈ xs.map (·.1)
  · exact m
  · rw [lk_none m] at key
    unfold flt at key
    have z := of_decide_eq_false key
    simp only [Int.zero_mul, Int.mul_one] at z
    omega
theorem take_self {n : Nat} {xs zs : List (Int × Fx)} (gx : Good n xs) (h0 : 0 < n) (hz : IsS (gat [] (xs ++ ngs xs)) zs) : zs = [] := by
  refine hz.uniq (g := []) ⟨List.Pairwise.nil, fun k x => ?_⟩ fun k => ?_
  · constructor
    · intro h
      cases h
    · rintro ⟨e, h⟩
      exact absurd e.symm h
  · rw [lk_take gx gx h0]
    have := fsub_fadd fr01 (lk_fr gx.all h0 k).1
    rw [zero_fadd (lk_fr gx.all h0 k).1] at this
    exact this
end CS
set_option Elab.async false
set_option maxRecDepth 100000
set_option maxHeartbeats 8000000
set_option linter.unusedVariables false
namespace CS
open PySem L2
theorem ngs_all {n : Nat} {ys : List (Int × Fx)} (h : AllF n ys) : AllF (n + 1) (ngs ys) := fun a ha => by
  obtain ⟨b, hb, rfl⟩ := List.mem_map.mp ha
  exact ⟨scl_fr (h b hb).1 _, scl_sz (m := 1) (h b hb).1 (h b hb).2 (by decide)⟩
theorem IsS.len {f r : List (Int × Fx)} (h : IsS f r) : r.length ≤ f.length := by
  have n : (r.map (·.1)).Nodup := h.1.imp fun e => Int.ne_of_lt e
  have := nd_len (q := f.map (·.1)) n fun a ha => by
    obtain ⟨⟨k, x⟩, hk, rfl⟩ := List.mem_map.mp ha
    obtain ⟨e, z⟩ := (h.2 k x).mp hk
    exact lk_mem (by rw [e]; exact z)
  simpa using this
section
variable {P : Program} {w : World} {K : PySem.W.Frag} {mg : Str → Option Value} {base : Heap}
def spTakeT (K : PySem.W.Frag) (CB : Addr) : Sp := fun vs H Q E => ∃ p q xs ys, vs = [.ref p, .ref q] ∧ ShAt K H p xs ∧ ShAt K H q ys ∧ Shr xs ∧ Shr ys ∧ AllF 80 xs ∧ AllF 80 ys ∧ ∀ H' r zs, Same H H' → ShAt K H' r zs → IsS (gat [] (xs ++ ngs ys)) zs →
  (Shr zs → Q (.ref r) H') ∧ (¬ Shr zs → ∀ d, H' d = none → E (.ref CB) (some d) (upd H' d (.xd [("given", .ref q)])))
end
end CS
set_option Elab.async false
set_option maxRecDepth 100000
set_option maxHeartbeats 4000000
set_option linter.unusedVariables false
/-! tuples whose very object is known to have no dict of its own, made by tuple(list); dict(..) of such ones -/
namespace CS
open PySem PySem.Spec PyProof.Rows L2
def TupZ (H : Hp) (a : Addr) (xs : List V) : Prop := ∃ o : Obj, o.dict = none ∧ H a = some (.frz o (.tup xs))
theorem TupZ.sq {K : PySem.W.Frag} {H : Hp} {a : Addr} {xs : List V} (h : TupZ H a xs) : SqT K H a xs := by
  obtain ⟨o, _, e⟩ := h
  exact .inl (.inr ⟨o, e⟩)
section
variable {X : Cx}
theorem call_tuple_ofZ : CallR X (.type "tuple") (fun xs H Q => ∃ p ys, xs = [.ref p] ∧ SqL X.K H p ys ∧ ∀ l o, H l = none → o.dict = none → Q (.ref l) (upd H l (.frz o (.tup ys)))) := by
  intro pins s σ H xs us Q I r ⟨p, ys, ex, hq, q⟩
  subst ex
  obtain ⟨u, rfl, rx⟩ := vals1 r
  cases rx
  obtain ⟨its, rv, pl, hz⟩ := I.list hq
  have hl := rv.length
  refine call_tuple_list pl.isList (fun h' kp => ?_) (by simp only [List.size_toArray]; omega)
  have J : Inv X pins σ H { s with heap := h' } := I.kept (t' := s.toks) kp
  have g : (h'.push ({ cls := .type "tuple", data := .seq its.toArray } : Obj)).get? h'.objs.size = some { cls := .type "tuple", data := .seq its.toArray } := Heap.get?_push_size _ rfl
  refine ⟨.ref h'.objs.size, _, J.laid (t' := s.toks) (o := .frz { cls := .type "tuple", data := .seq its.toArray } (.tup ys)) (fun b o e => Heap.get?_push_of_some _ e) (Nat.le_refl _) ?_, rfl, q _ _ (J.hok.fresh (Nat.le_refl _)) rfl⟩
  exact ⟨g, hz, its, rv, ⟨_, g, rfl, _, rfl⟩⟩
theorem call_dictZ (hcalm : X.calm = true) : CallR X (.type "dict") (fun xs H Q => ∃ (a : Addr) (ps : List Addr) (kvs : List (Key × V)), xs = [.ref a] ∧ TupZ H a (ps.map V.ref) ∧ Paired (fun p kv => SqT X.K H p [kV kv.1, kv.2]) ps kvs ∧
    ∀ p, H p = none → Q (.ref p) (upd H p (.dK (mergeK [] kvs)))) := by
  intro pins s σ H xs us Q I r ⟨a, ps, kvs, ex, ⟨o, od, ho⟩, hp, q⟩
  subst ex
  obtain ⟨u, rfl, rx⟩ := vals1 r
  cases rx
  obtain ⟨g, z, its, rv, o2, g2, oc, n, dat⟩ := (show ObjOk X.prog X.w H s.heap a (.frz o (.tup (ps.map V.ref))) from I.hok a _ ho)
  rw [g] at g2
  cases g2
  cases refs_at rv
  rw [List.length_map] at z
  obtain ⟨prs, rel, hl, hpr⟩ := pairs_of I hp
  
  obtain ⟨us, hus⟩ : ∃ us : List (Value × Value), us.length = prs.length ∧ ∀ (j : Nat) (q : Key × Value), prs[j]? = some q → ∃ b u, us[j]? = some (u, q.2) ∧ ps[j]? = some b ∧ IsTup s.heap b #[u, q.2] ∧ keyIs q.1 u = true := by
    have mk : ∀ (prs : List (Key × Value)) (ps : List Addr), prs.length = ps.length → (∀ (j : Nat) (q : Key × Value), prs[j]? = some q → ∃ b u, ps[j]? = some b ∧ IsTup s.heap b #[u, q.2] ∧ keyIs q.1 u = true) → ∃ us : List (Value × Value), us.length = prs.length ∧ ∀ (j : Nat) (q : Key × Value), prs[j]? = some q → ∃ b u, us[j]? = some (u, q.2) ∧ ps[j]? = some b ∧ IsTup s.heap b #[u, q.2] ∧ keyIs q.1 u = true := by
      intro prs
      induction prs with
      | nil => exact fun ps _ _ => ⟨[], rfl, fun j q e => by simp at e⟩
      | cons p prs ih =>
        intro ps hl h
        cases ps with
        | nil => simp at hl
        | cons c ps =>
          obtain ⟨b, u, e1, e2, e3⟩ := h 0 p rfl
          obtain ⟨us, h1, h2⟩ := ih ps (by simpa using hl) fun j q e => by simpa using h (j + 1) q (by simpa using e)
          refine ⟨(u, p.2) :: us, by simp [h1], fun j q e => ?_⟩
          cases j with
          | zero =>
            cases (Option.some.inj e : p = q)
            exact ⟨b, u, rfl, e1, e2, e3⟩
          | succ j => simpa using h2 j q (by simpa using e)
    exact mk prs ps hl hpr
  obtain ⟨ul, uh⟩ := hus
  have P := PairArg.tuple (prog := X.prog) (w := X.w) a (ps.map Value.ref).toArray (fun j => (ps[j]?).getD 0) us
  refine PySem.call_dict_pairs (knd := mixKind X.prog X.w) (kvs := prs) P (I.ok.hd hcalm) ⟨⟨o, n, g, oc, od, dat⟩, by simp [ul, hl], fun j k v e => ?_⟩ ⟨by rw [ul], fun i k v e => ?_⟩ (by rw [ul, hl]; exact z) fun h' tk hd' k => ?_
  · have hj : j < prs.length := by rw [← ul]; exact (List.getElem?_eq_some_iff.mp e).1
    obtain ⟨b, u, e1, e2, e3, e4⟩ := uh j prs[j] (List.getElem?_eq_getElem hj)
    rw [e] at e1
    cases e1
    refine ⟨by simp [e2], ?_⟩
    show PairAt s.heap ((ps[j]?).getD 0) _ _
    rw [e2]
    exact .inl e3
  · have e : us[i]? = some (k, v) := e
    have hj : i < prs.length := by rw [← ul]; exact (List.getElem?_eq_some_iff.mp e).1
    obtain ⟨b, u, e1, e2, e3, e4⟩ := uh i prs[i] (List.getElem?_eq_getElem hj)
    rw [e] at e1
    cases e1
    exact ⟨prs[i].1, List.getElem?_eq_getElem hj, e4⟩
  · have hm : (s.heap.objs.size == sysModules) = false := beq_eq_false_iff_ne.mpr (Nat.ne_of_gt I.big)
    have h1 : (mergeK [] kvs).length ≤ sizeLine := by
      have := length_mergeK kvs []
      have h2 := Paired.length rel
      rw [List.length_nil, Nat.zero_add] at this
      omega
    exact ⟨.ref s.heap.objs.size, upd H s.heap.objs.size (.dK (mergeK [] kvs)), I.laid (t' := tk) (fun b o e => k b o (fun z => nomatch z) e) (Nat.le_refl _) (show ObjOk X.prog X.w _ _ _ (.dK (mergeK [] kvs)) from ⟨h1, hm, merged [] prs, KV.merge rel .nil, hd'⟩), rfl, q _ (I.hok.fresh (Nat.le_refl _))⟩
end
end CS
set_option Elab.async false
set_option maxRecDepth 100000
set_option maxHeartbeats 8000000
set_option linter.unusedVariables false
namespace CS
open PySem L2
theorem fr_one (m : Int) : Fr ((m, 1) : Fx) := by
  unfold Fr
  simp
theorem sz_one {m : Int} {n : Nat} (h : m.natAbs < 2 ^ n) (h0 : 0 < n) : Sz n ((m, 1) : Fx) := ⟨h, Nat.one_lt_two_pow (by omega)⟩
section
variable {P : Program} {w : World} {K : PySem.W.Frag} {mg : Str → Option Value} {base : Heap}
/-! share_of -/
def spShOf (K : PySem.W.Frag) : Sp := fun vs H Q _ => ∃ d kvs g, vs = [.ref d] ∧ H d = some (.dK kvs) ∧ DPr K H kvs g ∧ (g.map (·.1)).Nodup ∧ g.length ≤ 40 ∧ ∀ H' r ys, Same H H' → ShAt K H' r ys → IsS g ys → Q (.ref r) H'
end
end CS
set_option Elab.async false
set_option maxRecDepth 100000
set_option maxHeartbeats 8000000
set_option linter.unusedVariables false
namespace CS
open PySem L2
/-! shares whose tuple has no dict of its own -/
def ShZ (K : PySem.W.Frag) (H : Hp) (p : Addr) (xs : List (Int × Fx)) : Prop := ∃ vs, TupZ H p vs ∧ PrsAt K H vs xs
section
variable {K : PySem.W.Frag} {H H' : Hp}
theorem ShZ.sh {p : Addr} {xs : List (Int × Fx)} (h : ShZ K H p xs) : ShAt K H p xs := by
  obtain ⟨vs, a, b⟩ := h
  exact ⟨vs, a.sq, b⟩
theorem ShZ.same {p : Addr} {xs : List (Int × Fx)} (e : Same H H') (h : ShZ K H p xs) : ShZ K H' p xs := by
  obtain ⟨vs, ⟨o, d, a⟩, b⟩ := h
  exact ⟨vs, ⟨o, d, e _ _ a⟩, b.tk (tk_same e)⟩
/-- the table that dict(..) makes of a share -/
theorem dpr_merge : ∀ {vs : List V} {xs : List (Int × Fx)}, PrsAt K H vs xs → ∃ (ps : List Addr) (kvs : List (Key × V)), vs = ps.map V.ref ∧ Paired (fun p kv => SqT K H p [kV kv.1, kv.2]) ps kvs ∧
    ∀ (acc : List (Key × V)) (f : List (Int × Fx)), DPr K H acc f → ((f ++ xs).map (·.1)).Nodup → DPr K H (mergeK acc kvs) (f ++ xs)
  | _, _, .nil => ⟨[], [], rfl, .nil, fun acc f h _ => by rw [List.append_nil]; exact h⟩
  | _, _, @PrsAt.cons _ _ q r m x vs xs a b c => by
    obtain ⟨ps, kvs, e, hp, k⟩ := dpr_merge c
    refine ⟨q :: ps, (Sum.inl m, .ref r) :: kvs, by rw [e]; rfl, .cons a hp, fun acc f h hn => ?_⟩
    have hn2 : (f.map (·.1)).Nodup := by
      rw [List.map_append] at hn
      exact (List.nodup_append.mp hn).1
    have hm : m ∉ f.map (·.1) := fun z => by
      rw [List.map_append] at hn
      exact (List.nodup_append.mp hn).2.2 m z m (by simp) rfl
    have h2 := h.put hn2 (k := m) b
    rw [ups_new hm] at h2
    have := k _ _ h2 (by rw [List.append_assoc]; exact hn)
    rw [List.append_assoc] at this
    exact this
end
section
variable {P : Program} {w : World} {K : PySem.W.Frag} {mg : Str → Option Value} {base : Heap}
/-- two shares in, the first one of the law's own, a share out -/
def spTwo (K : PySem.W.Frag) (ok : List (Int × Fx) → List (Int × Fx) → Prop) (g : List (Int × Fx) → List (Int × Fx) → List (Int × Fx)) : Sp := fun vs H Q _ => ∃ p q xs ys, vs = [.ref p, .ref q] ∧ ShZ K H p xs ∧ ShAt K H q ys ∧ (xs.map (·.1)).Nodup ∧ AllF 80 xs ∧ AllF 80 ys ∧ xs.length ≤ 16 ∧ ys.length ≤ 16 ∧ ok xs ys ∧
  ∀ H' r zs, Same H H' → ShAt K H' r zs → IsS (g xs ys) zs → Q (.ref r) H'
end
end CS
set_option Elab.async false
set_option maxRecDepth 100000
set_option maxHeartbeats 8000000
set_option linter.unusedVariables false
namespace CS
open PySem L2
theorem low_pos {t b : Int} (ht : 0 < t) (hb : 0 < b) : 0 < (low t b).1 := (low_sign hb).1.mpr ht
/-- a set's keys, one more -/
def addK (ns : List Int) (m : Int) : List Int := if m ∈ ns then ns else ns ++ [m]
theorem keys_put {kvs : List (Key × V)} {ns : List Int} {m : Int} {v : V} (h : kvs.map (·.1) = ns.map Sum.inl) : (putK kvs (Sum.inl m : Key) v).map (·.1) = (addK ns m).map Sum.inl := by
  have e : (kvs.any fun kv => decide (kv.1 = (Sum.inl m : Key))) = decide (m ∈ ns) := by
    have e1 : (kvs.any fun kv => decide (kv.1 = (Sum.inl m : Key))) = (kvs.map (·.1)).any fun k => decide (k = (Sum.inl m : Key)) := by rw [List.any_map]; rfl
    rw [e1, h, List.any_map, Bool.eq_iff_iff]
    simp
  unfold putK addK
  rw [e]
  by_cases c : m ∈ ns
  · rw [if_pos (decide_eq_true c), if_pos c, ← h, List.map_map]
    apply List.map_congr_left
    intro kv _
    simp only [Function.comp]
    by_cases q : kv.1 = (Sum.inl m : Key)
    · rw [if_pos q, q]
    · rw [if_neg q]
  · rw [if_neg (by simp [c]), if_neg c, List.map_append, List.map_append, h]
    rfl
theorem addK_nodup {ns : List Int} {m : Int} (h : ns.Nodup) : (addK ns m).Nodup := by
  unfold addK
  split
  · exact h
  · rename_i c
    rw [List.nodup_append]
    refine ⟨h, by simp, fun a ha b hb => ?_⟩
    rw [List.mem_singleton.mp hb]
    exact fun e => c (e ▸ ha)
theorem addK_len (ns : List Int) (m : Int) : (addK ns m).length ≤ ns.length + 1 := by
  unfold addK
  split
  · omega
  · simp
theorem addK_pos (ns : List Int) (m : Int) : 0 < (addK ns m).length := by
  unfold addK
  split
  · next h => exact List.length_pos_of_mem h
  · simp
theorem addK_mem {ns : List Int} {m a : Int} (h : a ∈ addK ns m) : a ∈ ns ∨ a = m := by
  unfold addK at h
  split at h
  · exact .inl h
  · simpa using h
section
variable {H H1 : Hp} {d c l a : Addr} {k : Nat} {o : HO}
/-- a write beside the state -/
theorem StAt.upd (S : StAt H d c l k) (h1 : a ≠ d) (h2 : a ≠ c) (h3 : a ≠ l) : StAt (upd H a o) d c l k := by
  obtain ⟨hd, ne, cs, ls, e1, e2, r⟩ := S
  exact ⟨by rw [upd_ne (Ne.symm h1)]; exact hd, ne, cs, ls, by rw [upd_ne (Ne.symm h2)]; exact e1, by rw [upd_ne (Ne.symm h3)]; exact e2, r⟩
theorem StAt.neD (S : StAt H d c l k) (h : H a = none) : a ≠ d ∧ a ≠ c ∧ a ≠ l := by
  obtain ⟨hd, ne, cs, ls, e1, e2, r⟩ := S
  refine ⟨fun z => ?_, fun z => ?_, fun z => ?_⟩
  · rw [z, hd] at h
    cases h
  · rw [z, e1] at h
    cases h
  · rw [z, e2] at h
    cases h
/-- what was new ahead is no part of the state behind -/
theorem Fm.upd (f : Fm d l H H1) (h : H a = none) : Fm d l H (upd H1 a o) := fun b u e n m => by
  rw [upd_ne (ne_of_none e h)]
  exact f b u e n m
theorem Fm.none (f : Fm d l H H1) (h : H1 a = Option.none) (nd : a ≠ d) (nl : a ≠ l) : H a = Option.none := by
  cases e : H a with
  | none => rfl
  | some u =>
    rw [f a u e nd nl] at h
    cases h
end
section
variable {P : Program} {w : World} {K : PySem.W.Frag} {mg : Str → Option Value} {base : Heap}
def spHeft (K : PySem.W.Frag) : Sp := fun vs H Q _ => ∃ (d c l : Addr) (k : Nat), vs = [.ref d] ∧ StAt H d c l k ∧ k ≤ 90000 ∧ ∀ p H' x, Fr x → 0 < x.1 → Sz 10 x → StAt H' d c l (k + 2) → Fm d l H H' → FT K H' p x → Q (.ref p) H'
def spMarks : Sp := fun vs H Q _ => ∃ (d c l : Addr) (k : Nat) (m n : Int), vs = [.ref d, .int m, .int n] ∧ StAt H d c l k ∧ k ≤ 80000 ∧ 0 < m ∧ m ≤ 10 ∧ 0 ≤ n ∧ n ≤ 90 ∧
  ∀ (H' : Hp) (p : Addr) (ns : List Int) (k' : Nat), k' ≤ k + 11 → ns.Pairwise (· < ·) → (∀ a ∈ ns, -n ≤ a ∧ a ≤ n) → (ns.length : Int) ≤ m → 0 < ns.length → StAt H' d c l k' → Fm d l H H' → H p = none → H' p = some (.lst (ns.map V.int)) → Q (.ref p) H'
def spShare (K : PySem.W.Frag) : Sp := fun vs H Q _ => ∃ (d c l : Addr) (k : Nat) (m : Int), vs = [.ref d, .int m] ∧ StAt H d c l k ∧ k ≤ 70000 ∧ 0 < m ∧ m ≤ 8 ∧
  ∀ H' p xs k', k' ≤ k + 40 → Good 10 xs → xs.length ≤ 8 → 0 < xs.length → StAt H' d c l k' → Fm d l H H' → ShZ K H' p xs → Q (.ref p) H'
end
end CS
set_option Elab.async false
set_option maxRecDepth 100000
set_option maxHeartbeats 8000000
set_option linter.unusedVariables false
namespace CS
open PySem L2 LamX
/-! a def whose code object is told -/
structure FunC (K : PySem.W.Frag) (x qual : Str) (st : Stmt) (f : Addr) (fd : FuncData) (c : Addr) : Prop where
  ex : ∃ (oc : Value) (od : Option Addr) (kV doc pm : Value) (an : Option Addr) (ct : Value) (osl : Array (Option Value)),
    fd = PySem.W.fnOf x qual (defArgs st) (defBody st) (defScope st) .none kV doc pm an (.ref c) ct ∧ K.lookup f = some ⟨oc, od, .func fd, osl⟩ ∧ PySem.W.codeIn K (.ref c) qual = true
  kp : PySem.W.keepIn K (.ref f) = true
theorem FunC.fun_ {K : PySem.W.Frag} {x qual : Str} {st : Stmt} {f c : Addr} {fd : FuncData} (F : FunC K x qual st f fd c) : Fun K x qual st f fd := by
  obtain ⟨oc, od, kV, doc, pm, an, ct, osl, e, l, h⟩ := F.ex
  exact ⟨⟨oc, od, kV, doc, pm, an, _, ct, osl, e, l, h⟩, F.kp⟩
theorem FunC.ok {P : Program} {w : World} {K : PySem.W.Frag} {mg : Str → Option Value} {base : Heap} {x qual : Str} {st : Stmt} {f c : Addr} {fd : FuncData} {N ps : List Str} {k : Nat} {sp : Sp} (F : FunC K x qual st f fd c) (S : FnScope N ps (defScope st)) (len : ∀ vs H Q E, sp vs H Q E → vs.length = ps.length)
    (hbody : ∀ (A : Around) (outer : List Env) (s : Shared) (H : Hp) (vs : List V) (Q : VK) (E : XK), Room k (A.deeper (PyProof.Rows.envOfC qual (defScope st) s.heap.objs.size f (.ref c))) → sp vs H Q E →
      ∃ t, PSs (cxOf CX0 P w K mg base N qual (defScope st) f (.ref c) A outer s H E).nox (defBody st) t ∧ t { nx := fun _ H' => Q .non H', rt := Q } (start N vs) H) : FnOk P w K mg base CX0 (k + 1) f fd ps sp := by
  obtain ⟨oc, od, kV, doc, pm, an, ct, osl, rfl, l, h⟩ := F.ex
  refine fn_of l h S len fun A outer s H vs Q E hr hsp => ?_
  obtain ⟨t, ht, q⟩ := hbody A outer s H vs Q E hr hsp
  exact ⟨t, ht.nox, q⟩
/-! the scope of a lambda, looked at -/
def lscB (sc scope : Scope) (N : List Str) : Bool :=
  decide (scope.kind = .function) && !scope.isCoroutine && !scope.isGenerator && scope.names.all fun y => !decide (y.2 = .cell) && (!decide (y.2 = .local) || !decide (y.1 ∈ N)) && (!decide (y.2 = .free) || decide (sc.names.lookup y.1 = some .cell) || decide (sc.names.lookup y.1 = some .free))
theorem lsc_by {sc scope : Scope} {N : List Str} (h : lscB sc scope N = true) : LScope sc scope N := by
  unfold lscB at h
  simp only [Bool.and_eq_true, Bool.or_eq_true, Bool.not_eq_true', decide_eq_true_eq, decide_eq_false_iff_not, List.all_eq_true] at h
  obtain ⟨⟨⟨h1, h2⟩, h3⟩, h4⟩ := h
  refine ⟨h1, h2, h3, fun y hy => (h4 y hy).1.1, fun y hy e => ?_, fun y hy e => ?_⟩
  · rcases (h4 y hy).1.2 with z | z
    · exact absurd e z
    · exact z
  · rcases (h4 y hy).2 with (z | z) | z
    · exact absurd e z
    · exact .inl z
    · exact .inr z
/-! what stays -/
section
variable {K : PySem.W.Frag} {H H' : Hp}
theorem tk_ext (e : ExtN H H') : TK K H H' := fun p xs h => by
  rcases h with (h | ⟨o, h⟩) | h
  · exact .inl (.inl (e _ _ h fun _ z => by cases z))
  · exact .inl (.inr ⟨o, e _ _ h fun _ z => by cases z⟩)
  · exact .inr h
theorem StAt.ext {d c l : Addr} {k : Nat} (S : StAt H d c l k) (e : ExtN H H') : StAt H' d c l k := by
  obtain ⟨hd, ne, cs, ls, h1, h2, r⟩ := S
  exact ⟨e _ _ hd (fun _ z => by cases z), ne, cs, ls, e _ _ h1 (fun _ z => by cases z), e _ _ h2 (fun _ z => by cases z), r⟩
theorem ShZ.ext {p : Addr} {xs : List (Int × Fx)} (e : ExtN H H') (h : ShZ K H p xs) : ShZ K H' p xs := by
  obtain ⟨vs, ⟨o, d, a⟩, b⟩ := h
  exact ⟨vs, ⟨o, d, e _ _ a fun _ z => by cases z⟩, b.tk (tk_ext e)⟩
theorem ShZ.fm {p d c l : Addr} {k : Nat} {xs : List (Int × Fx)} (e : Fm d l H H') (S : StAt H d c l k) (h : ShZ K H p xs) : ShZ K H' p xs := by
  obtain ⟨vs, ⟨o, z, a⟩, b⟩ := h
  refine ⟨vs, ⟨o, z, e _ _ a (fun q => ?_) fun q => ?_⟩, b.tk (tk_fm e S)⟩
  · rw [q, S.hd] at a
    cases a
  · obtain ⟨_, _, cs, ls, h1, h2, _⟩ := S
    rw [q, h2] at a
    cases a
theorem tabs_fm {T : List (Addr × Str)} {d c l : Addr} {k : Nat} (h : Tabs T H) (e : Fm d l H H') (S : StAt H d c l k) : Tabs T H' := fun p hp => by
  obtain ⟨ps, b1, b2, b3⟩ := h p hp
  obtain ⟨hd, _, cs, ls, h1, h2, _⟩ := S
  refine ⟨ps, e _ _ b1 (fun q => by rw [q, hd] at b1; cases b1) (fun q => by rw [q, h2] at b1; cases b1), b2, fun pos cv z => ?_⟩
  obtain ⟨c0, rfl, y⟩ := b3 pos cv z
  refine ⟨c0, rfl, e _ _ y (fun q => ?_) fun q => ?_⟩
  · rw [q, hd] at y
    unfold CodeO at y
    cases y
  · rw [q, h2] at y
    unfold CodeO at y
    cases y
mutual
theorem Dp.keep (t : TK K H H') (l : ∀ a xs, SqL K H a xs → SqL K H' a xs) : ∀ {v : V} {d : PyData}, Dp K H v d → Dp K H' v d
  | _, _, .non => .non
  | _, _, .bl b => .bl b
  | _, _, .int i => .int i
  | _, _, .str x => .str x
  | _, _, .lst a b => .lst (l _ _ a) (DpAll.keep t l b)
  | _, _, .tup a b => .tup (t _ _ a) (DpAll.keep t l b)
theorem DpAll.keep (t : TK K H H') (l : ∀ a xs, SqL K H a xs → SqL K H' a xs) : ∀ {vs : List V} {ds : List PyData}, DpAll K H vs ds → DpAll K H' vs ds
  | _, _, .nil => .nil
  | _, _, .cons a b => .cons (Dp.keep t l a) (DpAll.keep t l b)
end
theorem dp_same {v : V} {d : PyData} (h : Dp K H v d) (e : Same H H') : Dp K H' v d := CS.Dp.keep (tk_same e) (fun _ _ z => e.seq z) h
theorem dp_ext {v : V} {d : PyData} (h : Dp K H v d) (e : ExtN H H') : Dp K H' v d := CS.Dp.keep (tk_ext e) (fun a xs z => by
  rcases z with (z | ⟨o, z⟩) | z
  · exact .inl (.inl (e _ _ z fun _ q => by cases q))
  · exact .inl (.inr ⟨o, e _ _ z fun _ q => by cases q⟩)
  · exact .inr z) h
end
open PySem PySem.Spec PyProof.Rows L2
section
variable {P : Program} {w : World} {K : PySem.W.Frag} {mg : Str → Option Value} {base : Heap} {CX : CXT} {k : Nat} {f : Addr} {fd : FuncData} {ps N : List Str} {sp : Sp} {x qual : Str} {st : Stmt}
theorem FunC.okG {c : Addr} (F : FunC K x qual st f fd c) (S : FnScope N ps (defScope st)) (many : ∀ vs H Q E, sp vs H Q E → vs.length = ps.length)
    (body : ∀ A outer s H vs Q E, A.guards = some [] → Room k (A.deeper (envOfC qual (defScope st) s.heap.objs.size f (.ref c))) → sp vs H Q E → ∃ t, PSs (cxOf CX P w K mg base N qual (defScope st) f (.ref c) A outer s H E) (defBody st) t ∧ t { nx := fun _ H' => Q .non H', rt := Q } (start N vs) H) :
    FnG P w K mg base CX (k + 1) f fd ps sp := by
  obtain ⟨oc, od, kV, doc, pm, an, ct, osl, efd, at_, code⟩ := F.ex
  subst efd
  constructor
  · exact many
  intro A outer s H args us vs Q E q h
  have kept := q.env.bs
  have inn : K.In s.heap := q.env.mod.kin.keeps fun b o e => (kept b o e).1
  have nolim : s.heap.NoLimit := q.env.mod.nolimit.keeps fun b o e => (kept b o e).1
  have pars : ∀ y ∈ ps.zip us, (defScope st).names.lookup y.1 = some .local ∨ ((defScope st).names.lookup y.1 = some .cell ∧ ((cellsFrom (s.heap.objs.size + 1) (defScope st).names []).lookup y.1).isSome = true) := by
    rintro ⟨n, v⟩ hy
    exact (S.par n (List.of_mem_zip hy).1).imp id fun c => ⟨c, PySem.W.cellsFrom_some _ _ _ (.inl c)⟩
  refine codeAny_call_function q.room.depth (inn _ _ at_) rfl S.co S.gen rfl (PySem.W.codeRec_of inn code) (q.bound _ _ _ _ (wpAny_newFunctionEnv_cells S.kind pars ?_))
  rintro env rfl s1 laid
  refine ⟨nolim.keeps laid.toInCall.keep, codeAny_func ?_⟩
  obtain ⟨t, run, now⟩ := body A outer s H vs Q E q.still (q.room.deeper _) h
  have I := inv_start (CX := CX) (E := E) S q.room.hd q.env (many _ _ _ _ h) q.vals laid
  refine wpAny_mono (run.run [] s1 _ H _ I now) (fun fl s' e => ?_) fun _ _ e => e
  obtain ⟨u, v, e1, _, e2⟩ := end_of_body e
  rcases e1 with rfl | ⟨rfl, rfl⟩
  · exact e2
  · exact e2
end
end CS
set_option Elab.async false
set_option maxRecDepth 100000
set_option maxHeartbeats 4000000
set_option linter.unusedVariables false
set_option pp.maxSteps 4000
/-! a line that is read word by word -/
namespace CS
open PySem L2
def lnF (n : V) (wl : Addr) (i m : Nat) : List (Str × V) := [("number", n), ("words", .ref wl), ("at", .int (i : Int)), ("named", .int (m : Int))]
theorem s_nw : ¬ (("number" : Str) = "words") := by decide +kernel
theorem s_na : ¬ (("number" : Str) = "at") := by decide +kernel
theorem s_nm : ¬ (("number" : Str) = "named") := by decide +kernel
theorem s_wa : ¬ (("words" : Str) = "at") := by decide +kernel
theorem s_wm : ¬ (("words" : Str) = "named") := by decide +kernel
theorem s_am : ¬ (("at" : Str) = "named") := by decide +kernel
theorem lk_hd {k : Str} {v : V} {r : List (Str × V)} : List.lookup k ((k, v) :: r) = some v := by
  rw [List.lookup_cons]
  simp
theorem lk_tl {k j : Str} {v : V} {r : List (Str × V)} (h : ¬ j = k) : List.lookup k ((j, v) :: r) = List.lookup k r := by
  rw [List.lookup_cons]
  have : (k == j) = false := by
    rw [beq_eq_false_iff_ne]
    exact fun e => h e.symm
  rw [this]
section
variable {n : V} {wl : Addr} {i m : Nat}
theorem lnF_number : (lnF n wl i m).lookup ("number" : Str) = some n := lk_hd
theorem lnF_words : (lnF n wl i m).lookup ("words" : Str) = some (.ref wl) := by
  unfold lnF
  rw [lk_tl s_nw, lk_hd]
theorem lnF_at : (lnF n wl i m).lookup ("at" : Str) = some (.int (i : Int)) := by
  unfold lnF
  rw [lk_tl s_na, lk_tl s_wa, lk_hd]
theorem lnF_named : (lnF n wl i m).lookup ("named" : Str) = some (.int (m : Int)) := by
  unfold lnF
  rw [lk_tl s_nm, lk_tl s_wm, lk_tl s_am, lk_hd]
theorem lnF_no {k : Str} (h1 : ¬ ("number" : Str) = k) (h2 : ¬ ("words" : Str) = k) (h3 : ¬ ("at" : Str) = k) (h4 : ¬ ("named" : Str) = k) : (lnF n wl i m).lookup k = none := by
  unfold lnF
  rw [lk_tl h1, lk_tl h2, lk_tl h3, lk_tl h4]
  rfl
theorem put_tl {k j : Str} {v u : V} {r : List (Str × V)} (h : ¬ j = k) : putF k u ((j, v) :: r) = (j, v) :: putF k u r := by
  show (if j = k then _ else _) = _
  rw [if_neg h]
theorem put_hd {k : Str} {v u : V} {r : List (Str × V)} : putF k u ((k, v) :: r) = (k, u) :: r := by
  show (if k = k then _ else _) = _
  rw [if_pos rfl]
theorem lnF_put_at (j : Nat) : putF "at" (.int (j : Int)) (lnF n wl i m) = lnF n wl j m := by
  unfold lnF
  rw [put_tl s_na, put_tl s_wa, put_hd]
theorem lnF_put_named (j : Nat) : putF "named" (.int (j : Int)) (lnF n wl i m) = lnF n wl i j := by
  unfold lnF
  rw [put_tl s_nm, put_tl s_wm, put_tl s_am, put_hd]
theorem lnF_make : putF "named" (.int 0) (putF "at" (.int 0) (putF "words" (.ref wl) (putF "number" n []))) = lnF n wl 0 0 := by
  show putF "named" (.int 0) (putF "at" (.int 0) (putF "words" (.ref wl) [("number", n)])) = _
  rw [put_tl s_nw]
  show putF "named" (.int 0) (putF "at" (.int 0) [("number", n), ("words", .ref wl)]) = _
  rw [put_tl s_na, put_tl s_wa]
  show putF "named" (.int 0) [("number", n), ("words", .ref wl), ("at", .int 0)] = _
  rw [put_tl s_nm, put_tl s_wm, put_tl s_am]
  rfl
end
/-- nothing but p has changed -/
def Chg (H : Hp) (p : Addr) (H' : Hp) : Prop := ∀ b o, H b = some o → b ≠ p → H' b = some o
theorem Chg.trans {H H1 H2 : Hp} {p : Addr} (a : Chg H p H1) (b : Chg H1 p H2) : Chg H p H2 := fun c o e n => b c o (a c o e n) n
theorem Chg.of {H H' : Hp} {p : Addr} (e : Same H H') : Chg H p H' := fun b o z _ => e b o z
/-- a line stands at p -/
def LineAt (C : Addr) (H : Hp) (p : Addr) (n : V) (ws : List Str) (i m : Nat) : Prop := ∃ dx wl, H p = some (.ins C dx (lnF n wl i m)) ∧ H wl = some (.lst (ws.map V.str))
theorem LineAt.same {C : Addr} {H H' : Hp} {p : Addr} {n : V} {ws : List Str} {i m : Nat} (h : LineAt C H p n ws i m) (e : Same H H') : LineAt C H' p n ws i m := let ⟨dx, wl, a, b⟩ := h; ⟨dx, wl, e _ _ a, e _ _ b⟩
/-- the class -/
structure LnK (K : PySem.W.Frag) (mg : Str → Option Value) (C : Addr) : Prop where
  cl : Cls K C
  nN : NoAttr K C "number"
  nW : NoAttr K C "words"
  nA : NoAttr K C "at"
  nM : NoAttr K C "named"
  mgC : mg "Line" = some (.ref C)
section
variable {P : Program} {w : World} {K : PySem.W.Frag} {mg : Str → Option Value} {base : Heap} {C : Addr}
def spLnInit (C : Addr) : Sp := fun vs H Q _ => ∃ (p dx : Addr) (t : Str) (n : V), vs = [.ref p, .str t, n] ∧ H p = some (.ins C dx []) ∧ t.length + 2 ≤ sizeLine ∧ ∀ H', Chg H p H' → LineAt C H' p n (Txt.split t (sgn 32)) 0 0 → Q .non H'
theorem scLnI : FnScope ["self", "text", "number"] ["self", "text", "number"] (defScope (inClass sLine 0)) := ⟨rfl, rfl, rfl, by decide +kernel, rfl, by decide +kernel, by decide +kernel⟩
theorem ok_lnInit {f : Addr} {fd : FuncData} (F : Fun K "__init__" "Line.__init__" (inClass sLine 0) f fd) (T : LnK K mg C) : FnOk P w K mg base CX0 1 f fd ["self", "text", "number"] (spLnInit C) := by
  refine F.ok scLnI (fun vs H Q E h => ?_) (fun cdv A outer s H vs Q E hr h => ?_)
  · obtain ⟨p, dx, t, n, rfl, _⟩ := h
    rfl
  · obtain ⟨p, dx, t, n, rfl, hp, hz, k⟩ := h
    refine ⟨_, pss_cons (ps_fld (pv 0) (pv 2) rfl) (pss_cons (ps_fld (pv 0) (pe_split (pv 1) pe_str) rfl) (pss_cons (ps_fld (pv 0) pe_int rfl) (pss_one (ps_fld (pv 0) pe_int rfl)))), ?_⟩
    refine ⟨_, rfl, _, rfl, p, C, dx, [], rfl, hp, T.cl, T.nN, (by show 0 < 1000; decide), ?_⟩
    refine ⟨_, rfl, ⟨_, rfl⟩, t, sgn 32, rfl, rfl, rfl, hz, fun wl nw => ?_⟩
    have npw : p ≠ wl := ne_of_none upd_same nw
    refine ⟨_, rfl, p, C, dx, _, rfl, (by rw [upd_ne npw, upd_same]), T.cl, T.nW, (by show 1 < 1000; decide), ?_⟩
    refine ⟨_, rfl, p, C, dx, _, rfl, upd_same, T.cl, T.nA, (by show 2 < 1000; decide), ?_⟩
    refine ⟨_, rfl, p, C, dx, _, rfl, upd_same, T.cl, T.nM, (by show 3 < 1000; decide), ?_⟩
    refine k _ (fun b o e hb => ?_) ⟨dx, wl, by rw [upd_same, lnF_make], ?_⟩
    · rw [upd_ne hb, upd_ne hb, upd_ne hb, upd_ne, upd_ne hb]
      · exact e
      · intro z
        rw [← z, upd_ne hb, e] at nw
        cases nw
    · rw [upd_ne npw.symm, upd_ne npw.symm, upd_ne npw.symm, upd_same]
def spLnMore (C : Addr) : Sp := fun vs H Q _ => ∃ (p : Addr) (n : V) (ws : List Str) (i m : Nat), vs = [.ref p] ∧ LineAt C H p n ws i m ∧ ws.length ≤ sizeLine ∧ Q (.bl (decide (i < ws.length))) H
theorem scLnM : FnScope ["self"] ["self"] (defScope (inClass sLine 2)) := ⟨rfl, rfl, rfl, by decide +kernel, rfl, by decide +kernel, by decide +kernel⟩
theorem ok_lnMore {f : Addr} {fd : FuncData} (F : Fun K "has_more" "Line.has_more" (inClass sLine 2) f fd) (T : LnK K mg C) (B : Bt mg) : FnOk P w K mg base CX0 1 f fd ["self"] (spLnMore C) := by
  refine F.ok scLnM (fun vs H Q E h => ?_) (fun cdv A outer s H vs Q E hr h => ?_)
  · obtain ⟨p, n, ws, i, m, rfl, _⟩ := h
    rfl
  · obtain ⟨p, n, ws, i, m, rfl, ⟨dx, wl, h1, h2⟩, hz, k⟩ := h
    refine ⟨_, pss_one (ps_ret (pe_cmpR op_lt (L2.pe_fld (pv 0) rfl) (pe_callB call_len_seq (by rfl) B.len PySem.boot_len (pa_cons (L2.pe_fld (pv 0) rfl) pa_nil)) (nomark _))), ?_⟩
    refine ⟨_, rfl, p, C, dx, _, _, rfl, h1, T.cl, T.nA, lnF_at, _, rfl, p, C, dx, _, _, rfl, h1, T.cl, T.nW, lnF_words, wl, _, rfl, .inl (SqL.of h2), _, _, rfl, rfl, ?_⟩
    rw [List.length_map]
    have e : decide ((i : Int) < ((ws.length : Nat) : Int)) = decide (i < ws.length) := by
      by_cases c : i < ws.length
      · rw [decide_eq_true c, decide_eq_true (by omega)]
      · rw [decide_eq_false c, decide_eq_false (by omega)]
    show Q (.bl (decide ((i : Int) < ((ws.length : Nat) : Int)))) H
    rw [e]
    exact k
/-- a refusal: the text's line, the word's place -/
def refE (CB : Addr) (n : V) (i : Nat) (H : Hp) (E : XK) : Prop := ∀ H' d, Same H H' → H' d = some (.xd [("word", .int (i : Int)), ("line", n)]) → E (.ref CB) (some d) H'
variable {CB fI : Addr} {fdI : FuncData}
def spLnRefuse (C CB : Addr) : Sp := fun vs H Q E => ∃ (p : Addr) (n : V) (ws : List Str) (i m : Nat), vs = [.ref p] ∧ LineAt C H p n ws i m ∧ refE CB n i H E
theorem scLnR : FnScope ["self"] ["self"] (defScope (inClass sLine 1)) := ⟨rfl, rfl, rfl, by decide +kernel, rfl, by decide +kernel, by decide +kernel⟩
theorem ok_lnRefuse {f : Addr} {fd : FuncData} (F : Fun K "refuse" "Line.refuse" (inClass sLine 1) f fd) (T : LnK K mg C) (Z : Xc2 K mg "BadText" "line" "word" CB fI bmV "ValueError.__new__" (inClass sBadText 0) "BadText.__init__" fdI) : FnOk P w K mg base (L2.CX P w) 3 f fd ["self"] (spLnRefuse C CB) := by
  refine F.okX scLnR (fun vs H Q E h => ?_) (fun cdv A outer s H vs Q E hr h => ?_)
  · obtain ⟨p, n, ws, i, m, rfl, _⟩ := h
    rfl
  · obtain ⟨p, n, ws, i, m, rfl, ⟨dx, wl, h1, h2⟩, k⟩ := h
    refine ⟨_, pss_one (ps_raise rfl (takes_of rfl rfl rfl rfl) (pmk_own2 PySem.F.excBase_ValueError Z.T (ini_20 Z) Z.b hr (by rfl) (pa_cons (L2.pe_fld (pv 0) rfl) (pa_cons (L2.pe_fld (pv 0) rfl) pa_nil)))), ?_⟩
    refine ⟨_, rfl, p, C, dx, _, _, rfl, h1, T.cl, T.nN, lnF_number, _, rfl, p, C, dx, _, _, rfl, h1, T.cl, T.nA, lnF_at, _, _, rfl, fun d nd => ?_⟩
    exact k _ d (Same.new nd) upd_same
/-- a word that may stand is taken, another one is refused -/
def spLnTaken (C CB : Addr) (K : PySem.W.Frag) (act : Act1) : Sp := fun vs H Q E => ∃ (p f : Addr) (n : V) (ws : List Str) (i m : Nat) (b : Bool), vs = [.ref p, .ref f] ∧ LineAt C H p n ws i m ∧ ws.length ≤ sizeLine ∧ FnV K H f ∧ (∀ x, ws[i]? = some x → ∀ H', Same H H' → act f (.str x) H' (fun v H2 => v = .bl b ∧ Same H' H2) E0) ∧
  ((∃ x, ws[i]? = some x ∧ b = true ∧ ∀ H', Chg H p H' → LineAt C H' p n ws (i + 1) m → Q (.str x) H') ∨ ((ws[i]? = none ∨ b = false) ∧ refE CB n i H E))
theorem scLnT : FnScope ["self", "may_stand"] ["self", "may_stand"] (defScope (inClass sLine 3)) := ⟨rfl, rfl, rfl, by decide +kernel, rfl, by decide +kernel, by decide +kernel⟩
theorem ok_lnTaken {f fM fR : Addr} {fd fdM fdR : FuncData} {act : Act1} (F : Fun K "taken" "Line.taken" (inClass sLine 3) f fd) (T : LnK K mg C) (mM : Meth K C "has_more" fM) (bM : Binds K fdM ["self"] []) (GM : FnOk P w K mg base CX0 1 fM fdM ["self"] (spLnMore C)) (mR : Meth K C "refuse" fR) (bR : Binds K fdR ["self"] []) (GR : FnOk P w K mg base (L2.CX P w) 3 fR fdR ["self"] (spLnRefuse C CB))
    (ha : ActOk1 P w K mg base 3 act) : FnOk P w K mg base (L2.CX P w) 4 f fd ["self", "may_stand"] (spLnTaken C CB K act) := by
  refine F.okX scLnT (fun vs H Q E h => ?_) (fun cdv A outer s H vs Q E hr h => ?_)
  · obtain ⟨p, f, n, ws, i, m, b, rfl, _⟩ := h
    rfl
  · obtain ⟨p, f, n, ws, i, m, b, rfl, hl, hz, hf, hact, k⟩ := h
    refine ⟨_, pss_cons (ps_if (PW.pt (pw_or (pt_not (pt_val (pe_meth0 (pv 0) T.cl mM GM (hr.mono (by decide)) bM .nil pass0))) (pw_or1 (pt_not (pt_val (pe_act1 (act := actC1 act) (i := 1) (E := fun _ => E) ha.clos hr (fun σ pins H s e s' => (passes_call (takes_of rfl rfl rfl rfl) (fun _ _ _ _ h => h)) pins σ H s e s') (pe_ix ix_list (L2.pe_fld (pv 0) rfl) (L2.pe_fld (pv 0) rfl) (fun _ _ => rfl)) rfl (Or.inl rfl)))))))
      (pss_one (ps_expr (pe_meth0 (pv 0) T.cl mR GR hr bR .nil (passes_call (takes_of rfl rfl rfl rfl) (fun _ _ _ _ h => h))))) pss_nil)
      (pss_cons (ps_fldaug (pv 0) pe_int in_add)
      (pss_one (ps_ret (pe_ix ix_list (L2.pe_fld (pv 0) rfl) (pe_op op_sub (L2.pe_fld (pv 0) rfl) pe_int) (fun _ _ => rfl))))), ?_⟩
    have refuse : ∀ (H2 : Hp), Same H H2 → refE CB n i H E → tDrop (tMeth C "refuse" (spLnRefuse C CB) [] E (tVar 0) tNil) { nx := fun σ' H' => True, rt := Q } [some (.ref p), some (.ref f)] H2 := fun H2 s2 kr => by
      obtain ⟨dx, wl, h1, h2⟩ := hl.same s2
      exact ⟨_, rfl, p, dx, _, rfl, h1, lnF_no (by decide +kernel) (by decide +kernel) (by decide +kernel) (by decide +kernel), p, n, ws, i, m, rfl, ⟨dx, wl, h1, h2⟩, fun H' d s3 hd => kr H' d (s2.trans s3) hd⟩
    obtain ⟨dx, wl, h1, h2⟩ := id hl
    refine ⟨_, rfl, p, dx, _, rfl, h1, lnF_no (by decide +kernel) (by decide +kernel) (by decide +kernel) (by decide +kernel), p, n, ws, i, m, rfl, hl, hz, _, rfl, ?_⟩
    by_cases lt : i < ws.length
    · rw [decide_eq_true lt]
      have hx : ws[i]? = some ws[i] := List.getElem?_eq_getElem lt
      refine iteF ⟨f, rfl, hf, _, rfl, p, C, dx, _, _, rfl, h1, T.cl, T.nW, lnF_words, _, rfl, p, C, dx, _, _, rfl, h1, T.cl, T.nA, lnF_at, wl, _, (i : Int), .str ws[i], rfl, rfl, SqL.of h2, atI_nat (by rw [List.getElem?_map, hx]; rfl), _, _, hact _ hx H (Same.refl H), ?_, fun _ _ _ z => z.elim⟩
      rintro v H2 ⟨rfl, s2⟩
      refine ⟨_, rfl, ?_⟩
      rcases k with ⟨x, hx2, rfl, kk⟩ | ⟨hor, kr⟩
      · rw [hx] at hx2
        cases hx2
        refine iteF ?_
        have h3 := s2 _ _ h1
        have h4 := s2 _ _ h2
        have npw : wl ≠ p := fun z => by
          rw [z, h1] at h2
          cases h2
        refine ⟨_, rfl, p, C, dx, _, _, rfl, h3, T.cl, T.nA, lnF_at, _, _, rfl, rfl, dx, _, h3, (by show 4 < 1000; decide), ?_⟩
        rw [show ((i : Int) + 1) = ((i + 1 : Nat) : Int) by omega, lnF_put_at]
        refine ⟨_, rfl, p, C, dx, _, _, rfl, upd_same, T.cl, T.nW, lnF_words, _, rfl, p, C, dx, _, _, rfl, upd_same, T.cl, T.nA, lnF_at, _, _, rfl, rfl, wl, _, (i : Int), .str ws[i], rfl, (congrArg V.int (show (((i + 1 : Nat) : Int) - 1) = (i : Int) by omega)), SqL.of (by rw [upd_ne npw]; exact h4), atI_nat (by rw [List.getElem?_map, hx]; rfl), ?_⟩
        exact kk _ (fun b o e hb => by rw [upd_ne hb]; exact s2 _ _ e) ⟨dx, wl, upd_same, by rw [upd_ne npw]; exact h4⟩
      · have hb : b = false := hor.resolve_left (by rw [hx]; exact fun z => nomatch z)
        rw [hb]
        refine iteT ?_
        exact refuse H2 s2 kr
    · rw [decide_eq_false lt]
      refine iteT ?_
      rcases k with ⟨x, hx2, _⟩ | ⟨_, kr⟩
      · exact absurd (List.getElem?_eq_some_iff.mp hx2).1 lt
      · exact refuse H (Same.refl H) kr
end
end CS
set_option Elab.async false
set_option maxRecDepth 100000
set_option maxHeartbeats 4000000
set_option linter.unusedVariables false
/-! data of any kind: what keeps it, what it is an instance of, slices, sums, membership -/
namespace CS
open PySem L2
end CS
namespace L2
open PySem CS
section
variable {K : PySem.W.Frag} {H H' : Hp}
mutual
theorem Dp.same (e : Same H H') : ∀ {d : PyData} {v : V}, Dp K H v d → Dp K H' v d
  | .none, _, .non => .non
  | .bool _, _, .bl b => .bl b
  | .int _, _, .int i => .int i
  | .str _, _, .str x => .str x
  | .list _, _, .lst h a => .lst (e.seq h) (DpAll.same e a)
  | .tuple _, _, .tup h a => .tup (e.tup h) (DpAll.same e a)
theorem DpAll.same (e : Same H H') : ∀ {ds : List PyData} {vs : List V}, DpAll K H vs ds → DpAll K H' vs ds
  | [], _, .nil => .nil
  | _ :: _, _, .cons a b => .cons (Dp.same e a) (DpAll.same e b)
end

mutual
def flatD : PyData → Bool
  | .list _ => false
  | .dict _ => false
  | .tuple ds => flatDs ds
  | _ => true
def flatDs : List PyData → Bool
  | [] => true
  | d :: ds => flatD d && flatDs ds
end
mutual
theorem Dp.tk (e : TK K H H') : ∀ {d : PyData} {v : V}, flatD d = true → Dp K H v d → Dp K H' v d
  | .none, _, _, .non => .non
  | .bool _, _, _, .bl b => .bl b
  | .int _, _, _, .int i => .int i
  | .str _, _, _, .str x => .str x
  | .tuple ds, _, f, .tup h a => .tup (e _ _ h) (DpAll.tk e (by simpa [flatD] using f) a)
theorem DpAll.tk (e : TK K H H') : ∀ {ds : List PyData} {vs : List V}, flatDs ds = true → DpAll K H vs ds → DpAll K H' vs ds
  | [], _, _, .nil => .nil
  | d :: ds, _, f, .cons a b => by
    have f2 : (flatD d && flatDs ds) = true := by simpa [flatDs] using f
    rw [Bool.and_eq_true] at f2
    exact .cons (Dp.tk e f2.1 a) (DpAll.tk e f2.2 b)
end
theorem DpAll.len : ∀ {vs : List V} {ds : List PyData}, DpAll K H vs ds → vs.length = ds.length
  | _, _, .nil => rfl
  | _, _, .cons _ b => by simp [DpAll.len b]
theorem DpAll.app : ∀ {vs ws : List V} {ds es : List PyData}, DpAll K H vs ds → DpAll K H ws es → DpAll K H (vs ++ ws) (ds ++ es)
  | _, _, _, _, .nil, g => g
  | _, _, _, _, .cons a b, g => .cons a (DpAll.app b g)
theorem DpAll.drop : ∀ {vs : List V} {ds : List PyData} (n : Nat), DpAll K H vs ds → DpAll K H (vs.drop n) (ds.drop n)
  | _, _, 0, h => h
  | _, _, _ + 1, .nil => .nil
  | _, _, n + 1, .cons _ b => DpAll.drop n b
theorem DpAll.take : ∀ {vs : List V} {ds : List PyData} (n : Nat), DpAll K H vs ds → DpAll K H (vs.take n) (ds.take n)
  | _, _, 0, _ => .nil
  | _, _, _ + 1, .nil => .nil
  | _, _, n + 1, .cons a b => .cons a (DpAll.take n b)
theorem DpAll.get : ∀ {vs : List V} {ds : List PyData} {i : Nat} {v : V}, DpAll K H vs ds → vs[i]? = some v → ∃ d, ds[i]? = some d ∧ Dp K H v d
  | _, _, 0, _, .cons a _, e => by
    cases e
    exact ⟨_, rfl, a⟩
  | _, _, i + 1, _, .cons _ b, e => by
    obtain ⟨d, h1, h2⟩ := DpAll.get b (by simpa using e)
    exact ⟨d, by simpa using h1, h2⟩
theorem DpAll.at : ∀ {vs : List V} {ds : List PyData} {i : Nat} {d : PyData}, DpAll K H vs ds → ds[i]? = some d → ∃ v, vs[i]? = some v ∧ Dp K H v d
  | _, _, 0, _, .cons a _, e => by
    cases e
    exact ⟨_, rfl, a⟩
  | _, _, i + 1, _, .cons _ b, e => by
    obtain ⟨v, h1, h2⟩ := DpAll.at b (by simpa using e)
    exact ⟨v, by simpa using h1, h2⟩
theorem DpAll.ints : ∀ ns : List Int, DpAll K H (ns.map V.int) (ns.map PyData.int)
  | [] => .nil
  | n :: ns => .cons (.int n) (DpAll.ints ns)
theorem DpAll.of_ints : ∀ {ns : List Int} {vs : List V}, DpAll K H vs (ns.map PyData.int) → vs = ns.map V.int
  | [], _, .nil => rfl
  | _ :: _, _, .cons (.int _) b => by rw [DpAll.of_ints b]; rfl
theorem Dp.tup_inv {v : V} {ds : List PyData} (h : Dp K H v (.tuple ds)) : ∃ a xs, v = .ref a ∧ SqT K H a xs ∧ DpAll K H xs ds := by
  cases h with
  | tup h a => exact ⟨_, _, rfl, h, a⟩
theorem Dp.lst_inv {v : V} {ds : List PyData} (h : Dp K H v (.list ds)) : ∃ a xs, v = .ref a ∧ SqL K H a xs ∧ DpAll K H xs ds := by
  cases h with
  | lst h a => exact ⟨_, _, rfl, h, a⟩
theorem Dp.new_tup {p : Addr} {xs : List V} {ds : List PyData} (n : H p = none) (h : DpAll K H xs ds) : Dp K (upd H p (.tup xs)) (.ref p) (.tuple ds) := .tup (SqT.of upd_same) (h.same (Same.new n))
theorem Dp.new_lst {p : Addr} {xs : List V} {ds : List PyData} (n : H p = none) (h : DpAll K H xs ds) : Dp K (upd H p (.lst xs)) (.ref p) (.list ds) := .lst (SqL.of upd_same) (h.same (Same.new n))
mutual
theorem Dp.noDict : ∀ {d : PyData} {v : V}, Dp K H v d → d.hasDict = false
  | .none, _, .non => rfl
  | .bool _, _, .bl _ => rfl
  | .int _, _, .int _ => rfl
  | .str _, _, .str _ => rfl
  | .list ds, _, .lst _ a => by
    rw [PyData.hasDict]
    exact DpAll.noDict a
  | .tuple ds, _, .tup _ a => by
    rw [PyData.hasDict]
    exact DpAll.noDict a
theorem DpAll.noDict : ∀ {ds : List PyData} {vs : List V}, DpAll K H vs ds → PyData.hasDictAll ds = false
  | [], _, .nil => rfl
  | d :: ds, _, .cons a b => by
    rw [PyData.hasDictAll, Dp.noDict a, DpAll.noDict b]
    rfl
end
/-! isinstance -/
def tyD : PyData → String
  | .none => "NoneType"
  | .bool _ => "bool"
  | .int _ => "int"
  | .str _ => "str"
  | .list _ => "list"
  | .tuple _ => "tuple"
  | .dict _ => "dict"
theorem TyX.of_lst {p : Addr} {xs : List V} (h : SqL K H p xs) : TyX K H (.ref p) (.type "list") := by
  rcases h with (h | ⟨o, h⟩) | ⟨o, its, n, h, c, _⟩
  · exact .base (.lst h)
  · exact .base (.frz h)
  · exact .kList h c
theorem Dp.ty {v : V} {d : PyData} (h : Dp K H v d) : TyX K H v (.type (tyD d)) := by
  cases h with
  | non => exact .base .non
  | bl b => exact .base (.bl b)
  | int i => exact .base (.int i)
  | str x => exact .base (.str x)
  | lst h _ => exact TyX.of_lst h
  | tup h _ => exact TyX.of_tup h
def isIntD : PyData → Bool
  | .int _ => true
  | .bool _ => true
  | _ => false
theorem kit_int : ∀ d : PyData, d.hasDict = false → kitB (tyD d) "int" = some (isIntD d)
  | .none, _ => (by decide +kernel : kitB "NoneType" "int" = some false)
  | .bool _, _ => (by decide +kernel : kitB "bool" "int" = some true)
  | .int _, _ => (by decide +kernel : kitB "int" "int" = some true)
  | .str _, _ => (by decide +kernel : kitB "str" "int" = some false)
  | .list _, _ => (by decide +kernel : kitB "list" "int" = some false)
  | .tuple _, _ => (by decide +kernel : kitB "tuple" "int" = some false)
  | .dict _, h => by simp [PyData.hasDict] at h
def isBoolD : PyData → Bool
  | .bool _ => true
  | _ => false
theorem kit_bool : ∀ d : PyData, d.hasDict = false → kitB (tyD d) "bool" = some (isBoolD d)
  | .none, _ => (by decide +kernel : kitB "NoneType" "bool" = some false)
  | .bool _, _ => (by decide +kernel : kitB "bool" "bool" = some true)
  | .int _, _ => (by decide +kernel : kitB "int" "bool" = some false)
  | .str _, _ => (by decide +kernel : kitB "str" "bool" = some false)
  | .list _, _ => (by decide +kernel : kitB "list" "bool" = some false)
  | .tuple _, _ => (by decide +kernel : kitB "tuple" "bool" = some false)
  | .dict _, h => by simp [PyData.hasDict] at h
def isStrD : PyData → Bool
  | .str _ => true
  | _ => false
theorem kit_str : ∀ d : PyData, d.hasDict = false → kitB (tyD d) "str" = some (isStrD d)
  | .none, _ => (by decide +kernel : kitB "NoneType" "str" = some false)
  | .bool _, _ => (by decide +kernel : kitB "bool" "str" = some false)
  | .int _, _ => (by decide +kernel : kitB "int" "str" = some false)
  | .str _, _ => (by decide +kernel : kitB "str" "str" = some true)
  | .list _, _ => (by decide +kernel : kitB "list" "str" = some false)
  | .tuple _, _ => (by decide +kernel : kitB "tuple" "str" = some false)
  | .dict _, h => by simp [PyData.hasDict] at h
def isTupleD : PyData → Bool
  | .tuple _ => true
  | _ => false
theorem kit_tuple : ∀ d : PyData, d.hasDict = false → kitB (tyD d) "tuple" = some (isTupleD d)
  | .none, _ => (by decide +kernel : kitB "NoneType" "tuple" = some false)
  | .bool _, _ => (by decide +kernel : kitB "bool" "tuple" = some false)
  | .int _, _ => (by decide +kernel : kitB "int" "tuple" = some false)
  | .str _, _ => (by decide +kernel : kitB "str" "tuple" = some false)
  | .list _, _ => (by decide +kernel : kitB "list" "tuple" = some false)
  | .tuple _, _ => (by decide +kernel : kitB "tuple" "tuple" = some true)
  | .dict _, h => by simp [PyData.hasDict] at h
end
end L2
namespace CS
open PySem L2
section
variable {K : PySem.W.Frag} {H H' : Hp}
/-! class names -/
theorem cn_int {v : V} {i : Int} (h : Dp K H v (.int i)) : CN K H v "int" := by
  cases h
  exact .int i
theorem cn_bool {v : V} {b : Bool} (h : Dp K H v (.bool b)) : CN K H v "bool" := by
  cases h
  exact .bl b
theorem cn_str {v : V} {x : Str} (h : Dp K H v (.str x)) : CN K H v "str" := by
  cases h
  exact .str x
theorem cn_tup {v : V} {ds : List PyData} (h : Dp K H v (.tuple ds)) : CN K H v "tuple" := by
  cases h with
  | tup h a => exact .tup h
end
/-! slices and sums of tuples as data -/
def cutD {α : Type} (xs : List α) (lo hi : Option Int) : List α := (xs.drop (HT.sIx xs.length 0 lo)).take (HT.sIx xs.length xs.length hi - HT.sIx xs.length 0 lo)
def rCutD (K : PySem.W.Frag) : V → Option Int → Option Int → Hp → VK → Prop := fun x lo hi H Q => ∃ ds, Dp K H x (.tuple ds) ∧ ∀ H' v, Same H H' → Dp K H' v (.tuple (cutD ds lo hi)) → Q v H'
section
variable {X : Cx}
theorem sl_data : L2.SlR X (rCutD X.K) := by
  intro pins s σ H x v vl vu lo hi sl Q I rx hs pl pu ⟨ds, hd, q⟩
  obtain ⟨a, xs, rfl, hx, ha⟩ := hd.tup_inv
  have l := ha.len
  refine sl_tupA pins s σ H _ v vl vu lo hi sl Q I rx hs pl pu ⟨a, xs, rfl, hx, fun w => ?_, fun _ p np => ?_⟩
  · refine q H _ (Same.refl H) ?_
    have e : cutD ds lo hi = ds := by
      unfold cutD
      rw [← l, w.1, w.2, List.drop_zero, Nat.sub_zero, l, List.take_length]
    rw [e]
    exact hd
  · refine q _ _ (Same.new np) (.tup (SqT.of upd_same) ?_)
    unfold cutV cutD
    rw [l]
    exact (((ha.drop _).take _).same (Same.new np))
def rSumD (K : PySem.W.Frag) : R2 := fun x y H Q => ∃ ds es, Dp K H x (.tuple ds) ∧ Dp K H y (.tuple es) ∧ ds.length + es.length ≤ 1000 ∧ ∀ H' v, Same H H' → Dp K H' v (.tuple (ds ++ es)) → Q v H'
theorem op_sumD : OpR X (binaryOp .Add) (rSumD X.K) := by
  intro pins s σ H x y v u Q I rx ry ⟨ds, es, hd, he, sz, q⟩
  obtain ⟨a, xs, rfl, hx, ha⟩ := hd.tup_inv
  obtain ⟨b, ys, rfl, hy, hb⟩ := he.tup_inv
  have l1 := ha.len
  have l2 := hb.len
  refine op_catA pins s σ H _ _ v u Q I rx ry ⟨a, b, xs, ys, rfl, rfl, hx, hy, Nat.le_of_lt (small1000 (by omega)), fun e => ?_, fun _ e => ?_, fun _ _ p np => ?_⟩
  · subst e
    have : ds = [] := List.eq_nil_of_length_eq_zero (by rw [← l1]; rfl)
    subst this
    exact q H _ (Same.refl H) he
  · subst e
    have : es = [] := List.eq_nil_of_length_eq_zero (by rw [← l2]; rfl)
    subst this
    rw [List.append_nil] at q
    exact q H _ (Same.refl H) hd
  · exact q _ _ (Same.new np) (Dp.new_tup np (ha.app hb))
/-- x in t, x not in t -/
def rMemD (K : PySem.W.Frag) (neg : Bool) : R2 := fun x y H Q => ∃ d ds, Dp K H x d ∧ Dp K H y (.tuple ds) ∧ SeqAt.shaped d = true ∧ SeqAt.shaped (.tuple ds) = true ∧ Q (.bl (if neg then !ds.any fun z => PyData.eqv z d else ds.any fun z => PyData.eqv z d)) H
theorem op_memT (hu : X.A.units + 64 < cLine) : OpR X (compareOp .In) (rMemD X.K false) := by
  intro pins s σ H x y v u Q I rx ry ⟨d, ds, hd, he, sd, se, q⟩
  obtain ⟨as, r1⟩ := Dp.reads I d x v hd rx
  obtain ⟨bs, r2⟩ := Dp.reads I (.tuple ds) y u he ry
  refine SeqAt.in_tuple_reads r2 r1 (by simpa [PyData.canLay0] using SeqAt.canLay_of_shaped se) (SeqAt.canLay_of_shaped sd) ?_ ⟨.bl _, H, I, rfl, q⟩
  have z := SeqAt.depth_of_shaped se
  have : 1 + PyData.depthAll ds = (PyData.tuple ds).depth := by simp [PyData.depth]; omega
  have := Nat.min_le_left (PyData.depthAll ds) d.depth
  omega
theorem op_notT (hu : X.A.units + 64 < cLine) : OpR X (compareOp .NotIn) (rMemD X.K true) := by
  intro pins s σ H x y v u Q I rx ry ⟨d, ds, hd, he, sd, se, q⟩
  obtain ⟨as, r1⟩ := Dp.reads I d x v hd rx
  obtain ⟨bs, r2⟩ := Dp.reads I (.tuple ds) y u he ry
  refine SeqAt.notIn_tuple_reads r2 r1 (by simpa [PyData.canLay0] using SeqAt.canLay_of_shaped se) (SeqAt.canLay_of_shaped sd) ?_ ⟨.bl _, H, I, rfl, q⟩
  have z := SeqAt.depth_of_shaped se
  have : 1 + PyData.depthAll ds = (PyData.tuple ds).depth := by simp [PyData.depth]; omega
  have := Nat.min_le_left (PyData.depthAll ds) d.depth
  omega
def rMemL (K : PySem.W.Frag) : R2 := fun x y H Q => ∃ d ds, Dp K H x d ∧ Dp K H y (.list ds) ∧ SeqAt.shaped d = true ∧ SeqAt.shaped (.list ds) = true ∧ Q (.bl (ds.any fun z => PyData.eqv z d)) H
theorem op_memL (hu : X.A.units + 65 < cLine) : OpR X (compareOp .In) (rMemL X.K) := fun pins s σ H x y v u Q I rx ry h => op_inD hu pins s σ H x y v u Q I rx ry h
end
end CS
set_option Elab.async false
set_option maxRecDepth 100000
set_option maxHeartbeats 8000000
set_option linter.unusedVariables false
namespace CS
open PySem L2
/-- a def that tells whether a datum is so -/
def spD1 (K : PySem.W.Frag) (f : PyData → Bool) : Sp := fun vs H Q _ => ∃ v d, vs = [v] ∧ Dp K H v d ∧ Q (.bl (f d)) H
def wholeD : PyData → Bool
  | .int _ => true
  | _ => false
def wordD : PyData → Bool
  | .str _ => true
  | _ => false
def rowD : PyData → Bool
  | .tuple _ => true
  | _ => false
def rowOfD : PyData → Int → Bool
  | .tuple ds, n => decide ((ds.length : Int) = n)
  | _, _ => false
def spRowOfD (K : PySem.W.Frag) : Sp := fun vs H Q _ => ∃ v d n, vs = [v, .int n] ∧ Dp K H v d ∧ Q (.bl (rowOfD d n)) H
/-- a word and a number of things, of a tuple -/
def sortD (sorts : List PyData) : PyData → Bool
  | .tuple (.str x :: ds) => sorts.any fun z => PyData.eqv z (.tuple [.str x, .int ((ds.length + 1 : Nat) : Int)])
  | _ => false
def spSortD (K : PySem.W.Frag) : Sp := fun vs H Q _ => ∃ v d u sorts, vs = [v, u] ∧ Dp K H v d ∧ Dp K H u (.tuple sorts) ∧ SeqAt.shaped d = true ∧ SeqAt.shaped (.tuple sorts) = true ∧ ∀ H', Same H H' → Q (.bl (sortD sorts d)) H'
theorem shaped_head {x : Str} {ds : List PyData} {i : Int} (h : SeqAt.shaped (.tuple (.str x :: ds)) = true) : SeqAt.shaped (.tuple [.str x, .int i]) = true := by
  have h1 := SeqAt.canLay_of_shaped h
  simp [PyData.canLay0, PyData.canLayAll0] at h1
  simp [SeqAt.shaped, PyData.canLay0, PyData.canLayAll0, PyData.depth, PyData.depthAll, h1.1]
section
variable {P : Program} {w : World} {K : PySem.W.Frag} {mg : Str → Option Value} {base : Heap}
theorem ok_wholeD {f : Addr} {fd : FuncData} (F : Df K mg "is_whole" sIsWhole ["thing"] f fd) (T : Bt mg) : FnOk P w K mg base CX0 1 f fd ["thing"] (spD1 K wholeD) := by
  refine F.F.ok scIsWhole (fun vs H Q E h => ?_) (fun cdv A outer s H vs Q E hr h => ?_)
  · obtain ⟨v, d, rfl, _⟩ := h
    rfl
  · obtain ⟨v, d, rfl, hd, k⟩ := h
    refine ⟨_, pss_one (ps_ret (pe_and (pe_callB call_isi (by rfl) T.isinstance (by decide +kernel) (pa_cons (pv 0) (pa_cons (pe_bltn (v := .ty "int") (by rfl) T.int (by decide +kernel) rfl) pa_nil))) (pe_one (pe_cmpR op_eq (pe_cn (pv 0)) pe_str (nomark _))))), ?_⟩
    refine ⟨_, rfl, _, _, _, _, _, rfl, .ty _, hd.ty, kit_ty (kit_int d hd.noDict), _, rfl, ?_⟩
    cases d with
    | int i => exact iteT ⟨_, rfl, _, cn_int hd, rfl, k⟩
    | bool b => exact iteT ⟨_, rfl, _, cn_bool hd, rfl, k⟩
    | none => exact iteF k
    | str x => exact iteF k
    | list ds => exact iteF k
    | tuple ds => exact iteF k
    | dict ds => exact iteF k
theorem scIsWord : FnScope ["thing"] ["thing"] (defScope sIsWord) := ⟨rfl, rfl, rfl, by decide +kernel, rfl, by decide +kernel, by decide +kernel⟩
theorem ok_wordD {f : Addr} {fd : FuncData} (F : Df K mg "is_word" sIsWord ["thing"] f fd) (T : Bt mg) (mstr : mg "str" = none) : FnOk P w K mg base CX0 1 f fd ["thing"] (spD1 K wordD) := by
  refine F.F.ok scIsWord (fun vs H Q E h => ?_) (fun cdv A outer s H vs Q E hr h => ?_)
  · obtain ⟨v, d, rfl, _⟩ := h
    rfl
  · obtain ⟨v, d, rfl, hd, k⟩ := h
    refine ⟨_, pss_one (ps_ret (pe_and (pe_callB call_isi (by rfl) T.isinstance (by decide +kernel) (pa_cons (pv 0) (pa_cons (pe_bltn (v := .ty "str") (by rfl) mstr (by decide +kernel) rfl) pa_nil))) (pe_one (pe_cmpR op_eq (pe_cn (pv 0)) pe_str (nomark _))))), ?_⟩
    refine ⟨_, rfl, _, _, _, _, _, rfl, .ty _, hd.ty, kit_ty (kit_str d hd.noDict), _, rfl, ?_⟩
    cases d with
    | str x => exact iteT ⟨_, rfl, _, cn_str hd, rfl, k⟩
    | int i => exact iteF k
    | bool b => exact iteF k
    | none => exact iteF k
    | list ds => exact iteF k
    | tuple ds => exact iteF k
    | dict ds => exact iteF k
theorem ok_rowD {f : Addr} {fd : FuncData} (F : Df K mg "is_row" sIsRow ["thing"] f fd) (T : Bt mg) : FnOk P w K mg base CX0 1 f fd ["thing"] (spD1 K rowD) := by
  refine F.F.ok scIsRow (fun vs H Q E h => ?_) (fun cdv A outer s H vs Q E hr h => ?_)
  · obtain ⟨v, d, rfl, _⟩ := h
    rfl
  · obtain ⟨v, d, rfl, hd, k⟩ := h
    refine ⟨_, pss_one (ps_ret (pe_and (pe_callB call_isi (by rfl) T.isinstance (by decide +kernel) (pa_cons (pv 0) (pa_cons (pe_bltn (v := .ty "tuple") (by rfl) T.tuple (by decide +kernel) rfl) pa_nil))) (pe_one (pe_cmpR op_eq (pe_cn (pv 0)) pe_str (nomark _))))), ?_⟩
    refine ⟨_, rfl, _, _, _, _, _, rfl, .ty _, hd.ty, kit_ty (kit_tuple d hd.noDict), _, rfl, ?_⟩
    cases d with
    | tuple ds => exact iteT ⟨_, rfl, _, cn_tup hd, rfl, k⟩
    | str x => exact iteF k
    | int i => exact iteF k
    | bool b => exact iteF k
    | none => exact iteF k
    | list ds => exact iteF k
    | dict ds => exact iteF k
end
end CS
set_option Elab.async false
set_option maxRecDepth 100000
set_option maxHeartbeats 8000000
set_option linter.unusedVariables false
namespace L2
open PySem CS
theorem DpAll.of_bools {K : PySem.W.Frag} {H : Hp} : ∀ {bs : List Bool} {vs : List V}, DpAll K H vs (bs.map PyData.bool) → vs = bs.map V.bl
  | [], _, .nil => rfl
  | _ :: _, _, .cons (.bl _) b => by rw [DpAll.of_bools b]; rfl
theorem flatDs_app : ∀ {ds es : List PyData}, flatDs ds = true → flatDs es = true → flatDs (ds ++ es) = true
  | [], _, _, h => h
  | d :: ds, es, g, h => by
    have g2 : (flatD d && flatDs ds) = true := by simpa [flatDs] using g
    rw [Bool.and_eq_true] at g2
    show (flatD d && flatDs (ds ++ es)) = true
    rw [g2.1, flatDs_app g2.2 h]
    rfl
theorem flatDs_ints : ∀ ns : List Int, flatDs (ns.map PyData.int) = true
  | [] => rfl
  | n :: ns => by
    show (flatD (.int n) && flatDs (ns.map PyData.int)) = true
    rw [flatDs_ints ns]
    rfl
end L2
namespace CS
open PySem L2
theorem iteTe {b : Bool} {A B : Prop} {i : Decidable (b = true)} (e : b = true) (h : A) : @ite Prop (b = true) i A B := by
  rw [if_pos e]
  exact h
theorem iteFe {b : Bool} {A B : Prop} {i : Decidable (b = true)} (e : b = false) (h : B) : @ite Prop (b = true) i A B := by
  subst e
  rw [if_neg Bool.false_ne_true]
  exact h
/-- a list of data that a comprehension makes at D; H1 stood ahead -/
def LcD (K : PySem.W.Frag) (H1 : Hp) (D : Addr) (es : List PyData) (H : Hp) : Prop := ∃ ws, H D = some (.lst ws) ∧ Same H1 H ∧ DpAll K H ws es
section
variable {K : PySem.W.Frag} {H1 H H4 : Hp} {D : Addr}
theorem LcD.start (n : H1 D = none) : LcD K H1 D [] (upd H1 D (.lst [])) := ⟨[], upd_same, Same.new n, .nil⟩
theorem LcD.same {es : List PyData} (h : LcD K H1 D es H) : Same H1 H := by
  obtain ⟨ws, _, s, _⟩ := h
  exact s
theorem LcD.step {es : List PyData} {e : PyData} {y : V} (n : H1 D = none) (h : LcD K H1 D es H) (s : Same H H4) (hy : Dp K H4 y e) (f : flatDs es = true) (g : flatD e = true) (sz : es.length ≤ 1000) :
    ∃ acc, H4 D = some (.lst acc) ∧ acc.length < sizeLine ∧ LcD K H1 D (es ++ [e]) (upd H4 D (.lst (acc ++ [y]))) := by
  obtain ⟨ws, h1, s1, hd⟩ := h
  have h2 := s _ _ h1
  refine ⟨ws, h2, small1000 (by rw [hd.len]; exact sz), ws ++ [y], upd_same, same_upd n (s1.trans s), ?_⟩
  exact DpAll.tk (tk_lst h2) (flatDs_app f (by show (flatD e && flatDs []) = true; rw [g]; rfl)) ((hd.same s).app (.cons hy .nil))
theorem LcD.ints {ns : List Int} (h : LcD K H1 D (ns.map PyData.int) H) : H D = some (.lst (ns.map V.int)) := by
  obtain ⟨ws, h1, _, hd⟩ := h
  rw [hd.of_ints] at h1
  exact h1
theorem LcD.bools {bs : List Bool} (h : LcD K H1 D (bs.map PyData.bool) H) : H D = some (.lst (bs.map V.bl)) := by
  obtain ⟨ws, h1, _, hd⟩ := h
  rw [hd.of_bools] at h1
  exact h1
end
/-- t[lo:hi] of a tuple, whatever its items -/
def rCutV (K : PySem.W.Frag) : V → Option Int → Option Int → Hp → VK → Prop := fun x lo hi H Q => ∃ a xs, x = .ref a ∧ SqT K H a xs ∧ ∀ H' b, Same H H' → SqT K H' b (cutD xs lo hi) → Q (.ref b) H'
theorem sl_any {X : Cx} : L2.SlR X (rCutV X.K) := by
  intro pins s σ H x v vl vu lo hi sl Q I rx hs pl pu ⟨a, xs, ex, hx, q⟩
  subst ex
  refine sl_tupA pins s σ H _ v vl vu lo hi sl Q I rx hs pl pu ⟨a, xs, rfl, hx, fun w => ?_, fun _ p np => ?_⟩
  · refine q H _ (Same.refl H) ?_
    have e : cutD xs lo hi = xs := by
      unfold cutD
      rw [w.1, w.2, List.drop_zero, Nat.sub_zero, List.take_length]
    rw [e]
    exact hx
  · exact q _ _ (Same.new np) (SqT.of upd_same)
theorem cutD_nat {α : Type} {xs : List α} {i j : Nat} (h : j ≤ xs.length) (hij : i ≤ j) : cutD xs (some (i : Int)) (some (j : Int)) = (xs.drop i).take (j - i) := by
  unfold cutD
  rw [HT.sIx_nat, HT.sIx_nat, Nat.min_eq_left h, Nat.min_eq_left (Nat.le_trans hij h)]
/-! the mathematics of bends -/
def riseL (a b : List Int) : List Int := List.zipWith (fun lo hi => hi - lo) a b
def at0 (ns : List Int) (j : Nat) : Int := ns.getD j 0
def bowL (ms rs : List Int) (j : Nat) : Int := (at0 rs (j + 2) - at0 rs (j + 1)) * (at0 ms (j + 1) - at0 ms j) - (at0 rs (j + 1) - at0 rs j) * (at0 ms (j + 2) - at0 ms (j + 1))
def bendRow (ms rs : List Int) (way : Int) (i : Nat) : List (Nat × Nat) := ((List.range (ms.length - 2)).filter fun j => decide (0 < bowL ms rs j * way)).map fun j => (i, j)
def bendsL (ms : List Int) (rows : List (List Int)) (way : Int) : Nat → List (Nat × Nat)
  | 0 => []
  | n + 1 => bendsL ms rows way n ++ bendRow ms (riseL (rows.getD n []) (rows.getD (n + 1) [])) way n
def bendsT (ms : List Int) (rows : List (List Int)) (way : Int) : List (Nat × Nat) := bendsL ms rows way (rows.length - 1)
def plD (a : Nat × Nat) : PyData := .tuple [.int (a.1 : Int), .int (a.2 : Int)]
def costD (rows : List (List Int)) : PyData := .tuple (rows.map fun r => .tuple (r.map PyData.int))
/-- costs of n rows, m places each, not too great -/
structure CostOk (rows : List (List Int)) (n m : Nat) : Prop where
  len : rows.length = n
  wide : ∀ r ∈ rows, r.length = m
  small : ∀ r ∈ rows, ∀ c ∈ r, c.natAbs ≤ 1000
theorem riseL_len {a b : List Int} {m : Nat} (ha : a.length = m) (hb : b.length = m) : (riseL a b).length = m := by
  unfold riseL
  rw [List.length_zipWith, ha, hb, Nat.min_self]
theorem riseL_small {a b : List Int} (ha : ∀ c ∈ a, c.natAbs ≤ 1000) (hb : ∀ c ∈ b, c.natAbs ≤ 1000) : ∀ c ∈ riseL a b, c.natAbs ≤ 2000 := by
  intro c hc
  unfold riseL at hc
  rw [List.mem_iff_getElem?] at hc
  obtain ⟨i, hi⟩ := hc
  rw [List.getElem?_zipWith] at hi
  cases e1 : a[i]? with
  | none => rw [e1] at hi; cases hi
  | some x =>
    cases e2 : b[i]? with
    | none => rw [e1, e2] at hi; cases hi
    | some y =>
      rw [e1, e2] at hi
      cases hi
      have h1 := ha x (List.mem_of_getElem? e1)
      have h2 := hb y (List.mem_of_getElem? e2)
      omega
theorem at0_get {ns : List Int} {j : Nat} (h : j < ns.length) : ns[j]? = some (at0 ns j) := by
  unfold at0
  rw [List.getD_eq_getElem?_getD, List.getElem?_eq_getElem h]
  rfl
theorem at0_mem {ns : List Int} {j : Nat} (h : j < ns.length) : at0 ns j ∈ ns := List.mem_of_getElem? (at0_get h)
theorem bendRow_len (ms rs : List Int) (way : Int) (i : Nat) : (bendRow ms rs way i).length ≤ ms.length := by
  unfold bendRow
  rw [List.length_map]
  refine Nat.le_trans (List.length_filter_le _ _) ?_
  rw [List.length_range]
  omega
theorem bendsL_len (ms : List Int) (rows : List (List Int)) (way : Int) : ∀ n, (bendsL ms rows way n).length ≤ n * ms.length
  | 0 => by show 0 ≤ _; exact Nat.zero_le _
  | n + 1 => by
    have := bendsL_len ms rows way n
    have h2 := bendRow_len ms (riseL (rows.getD n []) (rows.getD (n + 1) [])) way n
    show (bendsL ms rows way n ++ _).length ≤ _
    rw [List.length_append, Nat.add_mul, Nat.one_mul]
    omega
theorem flat_pls : ∀ ps : List (Nat × Nat), flatDs (ps.map plD) = true
  | [] => rfl
  | p :: ps => by
    show (flatD (plD p) && flatDs (ps.map plD)) = true
    rw [flat_pls ps]
    rfl
section
variable {P : Program} {w : World} {K : PySem.W.Frag} {mg : Str → Option Value} {base : Heap}
def spCostRow (K : PySem.W.Frag) : Sp := fun vs H Q _ => ∃ (v : V) (row : List Int), vs = [v, .int ((row.length : Nat) : Int)] ∧ Dp K H v (.tuple (row.map PyData.int)) ∧ (∀ c ∈ row, c.natAbs ≤ 1000) ∧ row.length ≤ 900 ∧ ∀ H', Same H H' → Q (.bl true) H'
def spNeedCosts (K : PySem.W.Frag) : Sp := fun vs H Q _ => ∃ (p q : Addr) (v : V) (xs ys : List (Int × Fx)) (rows : List (List Int)), vs = [.ref p, .ref q, v] ∧ ShAt K H p xs ∧ ShAt K H q ys ∧ Shr xs ∧ Shr ys ∧ Dp K H v (costD rows) ∧ CostOk rows xs.length ys.length ∧ ∀ H', Same H H' → Q v H'
end
end CS
set_option Elab.async false
set_option maxRecDepth 100000
set_option maxHeartbeats 4000000
set_option linter.unusedVariables false
set_option pp.maxSteps 4000
/-! figures and whole numbers in words -/
namespace CS
open PySem L2
theorem len_lsS (x : Str) : x.length = (lsS x).length := (Array.length_toList).symm
theorem cutS1 (x : Str) : lsS (cutS x (some 1) none) = (lsS x).drop 1 := by
  unfold cutS HT.sIx
  obtain ⟨⟨l⟩⟩ := x
  cases l <;> simp [lsS, Str.length]
theorem sw_minus (x : Str) : Txt.startswith x (sgn 45) = decide ((lsS x).head? = some 45) := by
  unfold Txt.startswith Builtin.Str.subAt
  obtain ⟨⟨l⟩⟩ := x
  cases l with
  | nil => rfl
  | cons a l =>
    by_cases h : a = 45 <;> simp [Str.length, lsS, h]
def isDg (c : Nat) : Bool := decide (48 ≤ c ∧ c ≤ 57)
theorem dig_mem (c : Nat) : decide (c ∈ lsS "0123456789") = isDg c := by
  have e : lsS "0123456789" = [48, 49, 50, 51, 52, 53, 54, 55, 56, 57] := by decide +kernel
  unfold isDg
  rw [e, decide_eq_decide]
  simp only [List.mem_cons, List.not_mem_nil, or_false]
  omega
theorem figs_eq (l : List Nat) : figs l = (!l.isEmpty && decide (l.length ≤ 31) && l.all isDg && (l == [48] || l.head? != some 48)) := rfl
theorem str_eq (x y : Str) : decide (V.str x = V.str y) = decide (lsS x = lsS y) := by
  rw [decide_eq_decide]
  exact ⟨fun h => by cases h; rfl, fun h => by rw [lsS_inj h]⟩
section
variable {P : Program} {w : World} {K : PySem.W.Frag} {mg : Str → Option Value} {base : Heap}
def spFigs : Sp := fun vs H Q _ => ∃ x : Str, vs = [.str x] ∧ x.length ≤ 3000 ∧ ∀ H', Same H H' → Q (.bl (figs (lsS x))) H'
abbrev nsIsFigures : List Str := ["word", "letter"]
theorem scIsFigures : FnScope nsIsFigures ["word"] (defScope sIsFigures) := ⟨rfl, rfl, rfl, by decide +kernel, rfl, by decide +kernel, by decide +kernel⟩
theorem ok_is_figures {f : Addr} {fd : FuncData} (F : Df K mg "is_figures" sIsFigures ["word"] f fd)
    (T : Bt mg) {tF tD : Tok} (gF : mg "MOST_FIGURES" = some (.int 31 tF)) (gD : mg "DIGITS" = some (.str "0123456789" tD)) : FnOk P w K mg base CX0 1 f fd ["word"] (spFigs) := by
  refine F.F.ok scIsFigures (fun vs H Q E h => ?_) (fun cdv A outer s H vs Q E hr h => ?_)
  · obtain ⟨x, rfl, _⟩ := h
    rfl
  · obtain ⟨x, rfl, hx, k⟩ := h
    refine ⟨_, (pss_cons (ps_if (PW.pt (pw_or (pt_cmpR op_eq (pv 0) pe_str (nomark _)) (pw_or (pt_cmpR op_gt (pe_callB call_len_str (by rfl) T.len PySem.boot_len (pa_cons (pv 0) pa_nil)) (pe_glob (v := .int 31) rfl gF ⟨_, rfl⟩) (nomark _)) (pw_or1 (pt_not (pt_val (pe_callB (cr_all rfl) (by rfl) T.all (by decide +kernel) (pa_cons (pe_lc (own := [("letter", 1)]) (g := gName 1) (tt := tYes) rfl scIsFigures.nd (pi_str (pv 0)) (blkOk_by (N := nsIsFigures) (sc := defScope sIsFigures) (by decide +kernel)) (fun _ _ _ _ _ => pg_name (i := 1) scIsFigures.nd rfl (Or.inl rfl)) (fun _ _ _ _ _ => pts_nil) (fun _ _ _ _ _ => (pe_cmpR op_in_sign (pv 1) (pe_glob (v := .str "0123456789") rfl gD ⟨_, rfl⟩) (by rfl)))) pa_nil)))))))) (pss_one (ps_ret pe_bl)) pss_nil)
      (pss_one (ps_ret (pe_or (pe_cmpR op_eq (pv 0) pe_str (nomark _)) (pe_one (pe_cmpR op_ne (pe_ix ix_str (pv 0) pe_int (fun _ _ => rfl)) pe_str (nomark _))))))), ?_⟩
    have hl := len_lsS x
    refine ⟨_, rfl, rfl, _, rfl, ?_⟩
    rw [str_eq, show lsS "" = [] by decide +kernel]
    by_cases c1 : lsS x = []
    · rw [decide_eq_true c1]
      refine iteT ?_
      have := k H (Same.refl H)
      rw [c1] at this
      exact this
    rw [decide_eq_false c1]
    refine iteF ⟨_, rfl, x, rfl, Nat.le_trans hx (by decide), _, _, rfl, rfl, _, rfl, ?_⟩
    by_cases c2 : (lsS x).length ≤ 31
    · refine iteFe (decide_eq_false (by omega)) ⟨_, rfl, x, rfl, fun D nD => lc_it (walk_str (z := x)) (fun i H' => Same H H' ∧ H' D = some (.lst (((lsS x).take i).map fun c => V.bl (isDg c)))) ⟨Same.new nD, upd_same⟩ (fun _ _ _ _ => trivial) ?_ ?_⟩
      · rintro i v H1 H2 hi ⟨s1, h1⟩ ⟨rfl, c, hc, rfl⟩
        have hc2 : (lsS x)[i]? = some c := by
          show x.cps.toList[i]? = some c
          rw [Array.getElem?_toList]
          exact hc
        refine ⟨rfl, ?_⟩
        dsimp only [tYes]
        rw [if_pos rfl]
        refine ⟨_, rfl, c, "0123456789", rfl, rfl, _, h1, ?_, same_upd nD s1, ?_⟩
        · rw [List.length_map, List.length_take]
          exact Nat.lt_of_le_of_lt (Nat.min_le_right _ _) (Nat.lt_of_le_of_lt (show _ ≤ 3000 by omega) (by decide))
        · rw [upd_same, take_snoc hc2, List.map_append]
          show some (HO.lst (_ ++ [V.bl (decide (c ∈ lsS "0123456789"))])) = _
          rw [dig_mem]
          rfl
      · rintro H1 ⟨s1, h1⟩
        have e1 : (lsS x).take x.cps.size = lsS x := List.take_of_length_le (Nat.le_of_eq (by rw [← hl]; rfl))
        rw [e1] at h1
        refine ⟨D, (lsS x).map isDg, rfl, SqL.of (by rw [List.map_map]; exact h1), ?_⟩
        have e2 : ((lsS x).map isDg).all id = (lsS x).all isDg := by rw [List.all_map]; rfl
        rw [e2]
        cases c3 : (lsS x).all isDg with
        | false =>
          refine ⟨_, rfl, iteT ?_⟩
          have := k H1 s1
          rw [figs_eq, c3, Bool.and_false, Bool.false_and] at this
          exact this
        | true =>
          refine ⟨_, rfl, iteF ?_⟩
          refine ⟨_, rfl, rfl, _, rfl, ?_⟩
          rw [str_eq, show lsS "0" = [48] by decide +kernel]
          have kk := k H1 s1
          rw [figs_eq, c3, decide_eq_true c2] at kk
          have e4 : (lsS x).isEmpty = false := by
            cases z : lsS x with
            | nil => exact absurd z c1
            | cons a r => rfl
          rw [e4] at kk
          obtain ⟨a, r, ear⟩ : ∃ a r, lsS x = a :: r := by
            cases z : lsS x with
            | nil => exact absurd z c1
            | cons a r => exact ⟨a, r, rfl⟩
          by_cases c5 : lsS x = [48]
          · rw [decide_eq_true c5]
            refine iteT ?_
            have e5 : ((lsS x) == [48]) = true := by rw [c5]; rfl
            rw [e5] at kk
            exact kk
          · rw [decide_eq_false c5]
            refine iteF ?_
            have e5 : ((lsS x) == [48]) = false := beq_eq_false_iff_ne.mpr c5
            rw [e5] at kk
            refine ⟨_, rfl, x, 0, a, rfl, rfl, Nat.le_trans hx (by decide), atI_nat (j := 0) (by show (lsS x)[0]? = some a; rw [ear]; rfl), rfl, ?_⟩
            rw [str_eq, show lsS "0" = [48] by decide +kernel]
            rw [ear] at kk
            have e6 : (!decide (lsS (sgn a) = [48])) = (List.head? (a :: r) != some 48) := by
              show (!decide ([a] = [48])) = _
              by_cases z : a = 48 <;> simp [z]
            have kk2 : Q (.bl (List.head? (a :: r) != some 48)) H1 := kk
            rw [← e6] at kk2
            exact kk2
    · refine iteTe (decide_eq_true (by omega)) ?_
      have := k H (Same.refl H)
      rw [figs_eq, decide_eq_false c2, Bool.and_false, Bool.false_and, Bool.false_and] at this
      exact this
def spInt : Sp := fun vs H Q _ => ∃ x : Str, vs = [.str x] ∧ x.length ≤ 3000 ∧ ∀ H', Same H H' → Q (.bl (intW x).isSome) H'
abbrev nsIsInteger : List Str := ["word"]
theorem scIsInteger : FnScope nsIsInteger ["word"] (defScope sIsInteger) := ⟨rfl, rfl, rfl, by decide +kernel, rfl, by decide +kernel, by decide +kernel⟩
theorem ok_is_integer {f : Addr} {fd : FuncData} (F : Df K mg "is_integer" sIsInteger ["word"] f fd)
    {f1 : Addr} {fd1 : FuncData} (D1 : Df K mg "is_figures" sIsFigures ["word"] f1 fd1) (G1 : FnOk P w K mg base CX0 1 f1 fd1 ["word"] (spFigs)) : FnOk P w K mg base CX0 2 f fd ["word"] (spInt) := by
  refine F.F.ok scIsInteger (fun vs H Q E h => ?_) (fun cdv A outer s H vs Q E hr h => ?_)
  · obtain ⟨x, rfl, _⟩ := h
    rfl
  · obtain ⟨x, rfl, hx, k⟩ := h
    refine ⟨_, (pss_cons (ps_if (pt_val (pe_m1 PySem.F.slot_str_startswith PySem.F.type_str_startswith mt_startswith (pv 0) pe_str)) (pss_one (ps_ret (pe_and (pe_cmpR op_ne (pv 0) pe_str (nomark _)) (pe_one (pe_call G1 (hr.mono (by decide)) (by rfl) D1.g D1.F.kp D1.b .nil pass0 (pa_cons (pe_slice sl_str (pv 0) (po_some pe_int) po_none) pa_nil)))))) pss_nil)
      (pss_one (ps_ret (pe_call G1 (hr.mono (by decide)) (by rfl) D1.g D1.F.kp D1.b .nil pass0 (pa_cons (pv 0) pa_nil))))), ?_⟩
    have hl := len_lsS x
    have em : ("-" : Str) = sgn 45 := by decide +kernel
    refine ⟨_, rfl, ⟨_, rfl⟩, x, sgn 45, rfl, congrArg (fun z => [V.str z]) em, _, rfl, ?_⟩
    rw [sw_minus]
    cases e : lsS x with
    | nil =>
      refine iteFe (by simp) ⟨_, rfl, x, rfl, hx, fun H' s => ?_⟩
      have := k H' s
      rw [intW_plain (by rw [e]; simp), isSome_ite] at this
      exact this
    | cons a r =>
      by_cases c : a = 45
      · subst c
        refine iteTe (by simp) ⟨_, rfl, rfl, _, rfl, ?_⟩
        rw [str_eq, e, show lsS "-0" = [45, 48] by decide +kernel]
        rw [intW_minus e, isSome_ite] at k
        by_cases c0 : r = [48]
        · rw [c0, decide_eq_true rfl]
          refine iteF ?_
          have := k H (Same.refl H)
          rw [c0] at this
          exact this
        · rw [decide_eq_false (fun z => c0 (List.cons.inj z).2)]
          refine iteT ⟨_, rfl, 1, rfl, x, rfl, Nat.le_trans hx (by decide), cutS x (some 1) none, rfl, ?_, fun H' s => ?_⟩
          · rw [len_lsS, cutS1, List.length_drop]
            omega
          · have := k H' s
            rw [cutS1, e]
            have c1 : (r != [48]) = true := bne_iff_ne.mpr c0
            rw [c1, Bool.and_true] at this
            exact this
      · refine iteFe (by simp [c]) ⟨_, rfl, x, rfl, hx, fun H' s => ?_⟩
        have := k H' s
        rw [intW_plain (by rw [e]; simpa using c), isSome_ite] at this
        exact this
end
end CS
set_option Elab.async false
set_option maxRecDepth 100000
set_option maxHeartbeats 4000000
set_option linter.unusedVariables false
set_option pp.maxSteps 4000
/-! a whole number read off a line; a line's end -/
namespace CS
open PySem PySem.Spec PyProof.Rows L2
theorem figs_digits {l : List Nat} (h : figs l = true) : NumText.AllDigits l ∧ l ≠ [] ∧ l.length ≤ 31 := by
  rw [figs_eq] at h
  simp only [Bool.and_eq_true, Bool.not_eq_true', decide_eq_true_eq, List.all_eq_true] at h
  obtain ⟨⟨⟨h1, h2⟩, h3⟩, _⟩ := h
  refine ⟨fun c hc => ?_, fun e => ?_, h2⟩
  · have := h3 c hc
    unfold isDg at this
    exact of_decide_eq_true this
  · rw [e] at h1
    cases h1
theorem intW_text {x : Str} {n : Int} (h : intW x = some n) : PySem.intText? x = some n ∧ x.length ≤ 32 := by
  have hl := len_lsS x
  by_cases c : (lsS x).head? = some 45
  · obtain ⟨r, e⟩ : ∃ r, lsS x = 45 :: r := by
      cases z : lsS x with
      | nil => rw [z] at c; cases c
      | cons a r =>
        rw [z] at c
        cases c
        exact ⟨r, rfl⟩
    rw [intW_minus e] at h
    split at h
    · next q =>
      cases h
      obtain ⟨d, ne, le⟩ := figs_digits (Bool.and_eq_true_iff.mp q).1
      have le2 : x.length ≤ 32 := by rw [hl, e, List.length_cons]; omega
      exact ⟨PySem.intText_neg e d ne (by omega), le2⟩
    · cases h
  · rw [intW_plain c] at h
    split at h
    · next q =>
      cases h
      obtain ⟨d, ne, le⟩ := figs_digits q
      exact ⟨PySem.intText_digits d ne (by omega), by omega⟩
    · cases h
/-- a def of the text, handed on and called -/
def actFn (g : Addr) (sp : Sp) : Act1 := fun f v H Q _ => f = g ∧ sp [v] H Q E0
section
variable {P : Program} {w : World} {K : PySem.W.Frag} {mg : Str → Option Value} {base : Heap} {C CB : Addr}
theorem actFn_ok {k : Nat} {g : Addr} {fd : FuncData} {a : Str} {sp : Sp} (G : FnOk P w K mg base CX0 k g fd [a] sp) (hb : Binds K fd [a] []) (hlk : ∃ oc od fd' sl, K.lookup g = some (⟨oc, od, .func fd', sl⟩ : Obj)) : ActOk1 P w K mg base k (actFn g sp) := by
  rintro f v u A outer s H Q E hr e0 rv ⟨rfl, h⟩
  have kin : K.In s.heap := e0.mod.kin.keeps fun b o e => (e0.bs b o e).1
  obtain ⟨oc, od, fd', sl, e⟩ := hlk
  refine ⟨⟨oc, od, fd', sl, kin f _ e⟩, ?_⟩
  refine codeAny_mono (G.run A outer s H ⟨[u], []⟩ [u] [v] Q E0 hr e0 ?_ (.cons rv .nil) h) fun r s' z => ?_
  · have := hb s [u] kin rfl
    rw [List.append_nil] at this
    exact this
  · match r with
    | .error er => exact z.elim
    | .ok (.ret u) => exact z
    | .ok .next => exact z.elim
    | .ok .brk => exact z.elim
    | .ok .cont => exact z.elim
def spLnInt (C CB : Addr) : Sp := fun vs H Q E => ∃ (p : Addr) (n : V) (ws : List Str) (i m : Nat), vs = [.ref p] ∧ LineAt C H p n ws i m ∧ ws.length ≤ sizeLine ∧ (∀ x ∈ ws, x.length ≤ 3000) ∧
  ((∃ z, intAt ws i = some z ∧ ∀ H', Chg H p H' → LineAt C H' p n ws (i + 1) m → Q (.int z) H') ∨ (intAt ws i = none ∧ refE CB n i H E))
theorem scLnG : FnScope ["self"] ["self"] (defScope (inClass sLine 4)) := ⟨rfl, rfl, rfl, by decide +kernel, rfl, by decide +kernel, by decide +kernel⟩
theorem ok_lnInt {f fT gI : Addr} {fd fdT fdI2 : FuncData} (F : Fun K "integer" "Line.integer" (inClass sLine 4) f fd) (T : LnK K mg C) (B : Bt mg) (mT : Meth K C "taken" fT) (bT : Binds K fdT ["self", "may_stand"] []) (GT : ∀ act, ActOk1 P w K mg base 3 act → FnOk P w K mg base (L2.CX P w) 4 fT fdT ["self", "may_stand"] (spLnTaken C CB K act))
    (DI : Df K mg "is_integer" sIsInteger ["word"] gI fdI2) (GI : FnOk P w K mg base CX0 2 gI fdI2 ["word"] spInt) : FnOk P w K mg base (L2.CX P w) 5 f fd ["self"] (spLnInt C CB) := by
  refine F.okX scLnG (fun vs H Q E h => ?_) (fun cdv A outer s H vs Q E hr h => ?_)
  · obtain ⟨p, n, ws, i, m, rfl, _⟩ := h
    rfl
  · obtain ⟨p, n, ws, i, m, rfl, hl, hz, hw, k⟩ := h
    have hlk : ∃ oc od fd' sl, K.lookup gI = some (⟨oc, od, .func fd', sl⟩ : Obj) := by
      obtain ⟨oc, od, kV, doc, pm, an, cdv, ct, osl, efd, at_, code⟩ := DI.F.ex
      exact ⟨_, _, _, _, at_⟩
    have G0 : ActOk1 P w K mg base 3 (actFn gI spInt) := fun f v u A outer s H Q E hr e0 rv a => actFn_ok GI DI.b hlk f v u A outer s H Q E (hr.mono (by decide)) e0 rv a
    refine ⟨_, pss_one (ps_ret (pe_callTy call_int_str (by rfl) B.int (by decide +kernel) (pa_cons (pe_meth (pv 0) T.cl mT (GT _ G0) hr bT .nil (passes_call (takes_of rfl rfl rfl rfl) (fun _ _ _ _ h => h)) (pa_cons (pe_glob (v := .ref gI) (by rfl) DI.g rfl) pa_nil)) pa_nil))), ?_⟩
    obtain ⟨dx, wl, h1, h2⟩ := id hl
    have act : ∀ x, ws[i]? = some x → ∀ H', Same H H' → actFn gI spInt gI (.str x) H' (fun v H2 => v = .bl (intW x).isSome ∧ Same H' H2) E0 := fun x hx H' s => ⟨rfl, x, rfl, hw x (List.mem_of_getElem? hx), fun H2 s2 => ⟨rfl, s2⟩⟩
    refine ⟨_, rfl, p, dx, _, rfl, h1, lnF_no (by decide +kernel) (by decide +kernel) (by decide +kernel) (by decide +kernel), p, gI, n, ws, i, m, ?_⟩
    rcases k with ⟨z, hz2, kk⟩ | ⟨hn, kr⟩
    · obtain ⟨x, hx, hi⟩ := Option.bind_eq_some_iff.mp hz2
      have hi2 := intW_text hi
      refine ⟨true, rfl, hl, hz, .inr hlk, fun y hy H' s => ?_, .inl ⟨x, hx, rfl, fun H' c l => ⟨x, z, rfl, hi2.1, by omega, kk H' c l⟩⟩⟩
      rw [hx] at hy
      cases hy
      have := act x hx H' s
      rw [hi] at this
      exact this
    · cases hx : ws[i]? with
      | none => exact ⟨false, rfl, hl, hz, .inr hlk, (fun y hy => by cases hy), .inr ⟨.inl rfl, kr⟩⟩
      | some x =>
        have hi : intW x = none := by
          unfold intAt at hn
          rw [hx] at hn
          exact hn
        refine ⟨false, rfl, hl, hz, .inr hlk, fun y hy H' s => ?_, .inr ⟨.inr rfl, kr⟩⟩
        cases hy
        have := act x hx H' s
        rw [hi] at this
        exact this
def spLnEnd (C CB : Addr) : Sp := fun vs H Q E => ∃ (p : Addr) (n : V) (ws : List Str) (i m : Nat), vs = [.ref p] ∧ LineAt C H p n ws i m ∧ ws.length ≤ sizeLine ∧ ((¬ i < ws.length ∧ Q .non H) ∨ (i < ws.length ∧ refE CB n i H E))
theorem scLnE : FnScope ["self"] ["self"] (defScope (inClass sLine 6)) := ⟨rfl, rfl, rfl, by decide +kernel, rfl, by decide +kernel, by decide +kernel⟩
theorem ok_lnEnd {f fM fR : Addr} {fd fdM fdR : FuncData} (F : Fun K "end" "Line.end" (inClass sLine 6) f fd) (T : LnK K mg C) (mM : Meth K C "has_more" fM) (bM : Binds K fdM ["self"] []) (GM : FnOk P w K mg base CX0 1 fM fdM ["self"] (spLnMore C)) (mR : Meth K C "refuse" fR) (bR : Binds K fdR ["self"] []) (GR : FnOk P w K mg base (L2.CX P w) 3 fR fdR ["self"] (spLnRefuse C CB)) : FnOk P w K mg base (L2.CX P w) 4 f fd ["self"] (spLnEnd C CB) := by
  refine F.okX scLnE (fun vs H Q E h => ?_) (fun cdv A outer s H vs Q E hr h => ?_)
  · obtain ⟨p, n, ws, i, m, rfl, _⟩ := h
    rfl
  · obtain ⟨p, n, ws, i, m, rfl, hl, hz, k⟩ := h
    refine ⟨_, pss_one (ps_if (pt_val (pe_meth0 (pv 0) T.cl mM GM (hr.mono (by decide)) bM .nil pass0)) (pss_one (ps_expr (pe_meth0 (pv 0) T.cl mR GR hr bR .nil (passes_call (takes_of rfl rfl rfl rfl) (fun _ _ _ _ h => h))))) pss_nil), ?_⟩
    obtain ⟨dx, wl, h1, h2⟩ := id hl
    refine ⟨_, rfl, p, dx, _, rfl, h1, lnF_no (by decide +kernel) (by decide +kernel) (by decide +kernel) (by decide +kernel), p, n, ws, i, m, rfl, hl, hz, _, rfl, ?_⟩
    rcases k with ⟨c, q⟩ | ⟨c, q⟩
    · exact iteFe (decide_eq_false c) q
    · exact iteTe (decide_eq_true c) ⟨_, rfl, p, dx, _, rfl, h1, lnF_no (by decide +kernel) (by decide +kernel) (by decide +kernel) (by decide +kernel), p, n, ws, i, m, rfl, hl, q⟩
end
end CS
set_option Elab.async false
set_option maxRecDepth 100000
set_option maxHeartbeats 8000000
set_option linter.unusedVariables false
/-! days, their paths; terms by words, what they pay -/
namespace CS
open PySem L2
abbrev Dys := List (List Int)
def dysD (ds : Dys) : PyData := .tuple (ds.map fun r => .tuple (r.map .int))
structure DysOk (ds : Dys) : Prop where
  len : 1 ≤ ds.length ∧ ds.length ≤ 4
  rows : ∀ r ∈ ds, 1 ≤ r.length ∧ r.length ≤ 8 ∧ r.Pairwise (· < ·) ∧ ∀ a ∈ r, -100 ≤ a ∧ a ≤ 100
  few : (ds.map List.length).foldl (· * ·) 1 ≤ 32
def stepP (ps : List (List Int)) (r : List Int) : List (List Int) := ps.flatMap fun p => r.map fun n => p ++ [n]
def pathsL (ds : Dys) : List (List Int) := ds.foldl stepP [[]]
def rowD_ (p : List Int) : PyData := .tuple (p.map .int)
theorem stepP_len (ps : List (List Int)) (r : List Int) : (stepP ps r).length = ps.length * r.length := by
  unfold stepP
  induction ps with
  | nil => simp
  | cons p ps ih => rw [List.flatMap_cons, List.length_append, ih, List.length_map, List.length_cons, Nat.succ_mul, Nat.add_comm]
theorem paths_len_from (ds : Dys) : ∀ ps : List (List Int), (ds.foldl stepP ps).length = (ds.map List.length).foldl (· * ·) ps.length := by
  induction ds with
  | nil => exact fun _ => rfl
  | cons r ds ih => exact fun ps => by rw [List.foldl_cons, ih, stepP_len]; rfl
theorem paths_len (ds : Dys) : (pathsL ds).length = (ds.map List.length).foldl (· * ·) 1 := paths_len_from ds [[]]
/-! terms -/
inductive Tm
  | cash_ (n : Int) | at_ (d : Nat) | above_ (d : Nat) (n : Int) | below_ (d : Nat) (n : Int) | lowest_ (d : Nat) | highest_ (d : Nat)
  | both_ (s t : Tm) | short_ (s : Tm) | times_ (s : Tm) (n : Int) | lesser_ (s t : Tm) | greater_ (s t : Tm) | cond_ (d : Nat) (n : Int) (s t : Tm)
namespace Tm
def toD : Tm → PyData
  | cash_ n => .tuple [.str "cash", .int n]
  | at_ d => .tuple [.str "at", .int d]
  | above_ d n => .tuple [.str "above", .int d, .int n]
  | below_ d n => .tuple [.str "below", .int d, .int n]
  | lowest_ d => .tuple [.str "lowest", .int d]
  | highest_ d => .tuple [.str "highest", .int d]
  | both_ s t => .tuple [.str "both", s.toD, t.toD]
  | short_ s => .tuple [.str "short", s.toD]
  | times_ s n => .tuple [.str "times", s.toD, .int n]
  | lesser_ s t => .tuple [.str "lesser", s.toD, t.toD]
  | greater_ s t => .tuple [.str "greater", s.toD, t.toD]
  | cond_ d n s t => .tuple [.str "if", .int d, .int n, s.toD, t.toD]
def word : Tm → Str
  | cash_ _ => "cash" | at_ _ => "at" | above_ .. => "above" | below_ .. => "below" | lowest_ _ => "lowest" | highest_ _ => "highest"
  | both_ .. => "both" | short_ _ => "short" | times_ .. => "times" | lesser_ .. => "lesser" | greater_ .. => "greater" | cond_ .. => "if"
def shape : Tm → Str
  | cash_ _ => "N" | at_ _ => "D" | above_ .. => "DN" | below_ .. => "DN" | lowest_ _ => "D" | highest_ _ => "D"
  | both_ .. => "SS" | short_ _ => "S" | times_ .. => "SN" | lesser_ .. => "SS" | greater_ .. => "SS" | cond_ .. => "DNSS"
/-- what stands behind the word -/
def rest : Tm → List PyData
  | cash_ n => [.int n]
  | at_ d => [.int d]
  | above_ d n => [.int d, .int n]
  | below_ d n => [.int d, .int n]
  | lowest_ d => [.int d]
  | highest_ d => [.int d]
  | both_ s t => [s.toD, t.toD]
  | short_ s => [s.toD]
  | times_ s n => [s.toD, .int n]
  | lesser_ s t => [s.toD, t.toD]
  | greater_ s t => [s.toD, t.toD]
  | cond_ d n s t => [.int d, .int n, s.toD, t.toD]
theorem toD_eq (t : Tm) : t.toD = .tuple (.str t.word :: t.rest) := by cases t <;> rfl
/-- the terms in it, with their places -/
def kids : Tm → List (Nat × Tm)
  | both_ s t => [(1, s), (2, t)]
  | short_ s => [(1, s)]
  | times_ s _ => [(1, s)]
  | lesser_ s t => [(1, s), (2, t)]
  | greater_ s t => [(1, s), (2, t)]
  | cond_ _ _ s t => [(3, s), (4, t)]
  | _ => []
def words : Tm → Nat
  | both_ s t => s.words + t.words + 1
  | short_ s => s.words + 1
  | times_ s _ => s.words + 1
  | lesser_ s t => s.words + t.words + 1
  | greater_ s t => s.words + t.words + 1
  | cond_ _ _ s t => s.words + t.words + 1
  | _ => 1
def height : Tm → Nat
  | both_ s t => max s.height t.height + 1
  | short_ s => s.height + 1
  | times_ s _ => s.height + 1
  | lesser_ s t => max s.height t.height + 1
  | greater_ s t => max s.height t.height + 1
  | cond_ _ _ s t => max s.height t.height + 1
  | _ => 1
def okN (n : Int) : Prop := -1000 ≤ n ∧ n ≤ 1000
/-- its integers are as told -/
def Ok : Tm → Prop
  | cash_ n => okN n
  | at_ d => d ≤ 3
  | above_ d n => d ≤ 3 ∧ okN n
  | below_ d n => d ≤ 3 ∧ okN n
  | lowest_ d => d ≤ 3
  | highest_ d => d ≤ 3
  | both_ s t => s.Ok ∧ t.Ok
  | short_ s => s.Ok
  | times_ s n => s.Ok ∧ okN n
  | lesser_ s t => s.Ok ∧ t.Ok
  | greater_ s t => s.Ok ∧ t.Ok
  | cond_ d n s t => d ≤ 3 ∧ okN n ∧ s.Ok ∧ t.Ok
def g0 (w : List Int) (d : Nat) : Int := w.getD d 0
def minL : List Int → Int
  | [] => 0
  | a :: l => l.foldl min a
def maxL : List Int → Int
  | [] => 0
  | a :: l => l.foldl max a
def pays (w : List Int) : Tm → Int
  | cash_ n => n
  | at_ d => g0 w d
  | above_ d n => max 0 (g0 w d - n)
  | below_ d n => max 0 (n - g0 w d)
  | lowest_ d => minL (w.take (d + 1))
  | highest_ d => maxL (w.take (d + 1))
  | both_ s t => s.pays w + t.pays w
  | short_ s => -s.pays w
  | times_ s n => s.pays w * n
  | lesser_ s t => min (s.pays w) (t.pays w)
  | greater_ s t => max (s.pays w) (t.pays w)
  | cond_ d n s t => if g0 w d > n then s.pays w else t.pays w
/-- the day that it names -/
def day : Tm → Option Nat
  | at_ d => some d
  | above_ d _ => some d
  | below_ d _ => some d
  | lowest_ d => some d
  | highest_ d => some d
  | cond_ d .. => some d
  | _ => none
/-- its own fault: a day that is not there, a payment that is too great -/
def badDay (n : Nat) (t : Tm) : Bool := match t.day with
  | some d => decide (n ≤ d)
  | none => false
def great (ws : List (List Int)) (t : Tm) : Bool := ws.any fun w => !decide (-10000 ≤ t.pays w ∧ t.pays w ≤ 10000)
def own (n : Nat) (ws : List (List Int)) (t : Tm) (p : List Int) : Option (List Int) := if t.badDay n then some p else if t.great ws then some p else none
def fault (n : Nat) (ws : List (List Int)) : Tm → List Int → Option (List Int)
  | both_ s t, p => match s.fault n ws (p ++ [((1 : Nat) : Int)]) with
    | some f => some f
    | none => match t.fault n ws (p ++ [((2 : Nat) : Int)]) with
      | some f => some f
      | none => own n ws (both_ s t) p
  | short_ s, p => match s.fault n ws (p ++ [((1 : Nat) : Int)]) with
    | some f => some f
    | none => own n ws (short_ s) p
  | times_ s m, p => match s.fault n ws (p ++ [((1 : Nat) : Int)]) with
    | some f => some f
    | none => own n ws (times_ s m) p
  | lesser_ s t, p => match s.fault n ws (p ++ [((1 : Nat) : Int)]) with
    | some f => some f
    | none => match t.fault n ws (p ++ [((2 : Nat) : Int)]) with
      | some f => some f
      | none => own n ws (lesser_ s t) p
  | greater_ s t, p => match s.fault n ws (p ++ [((1 : Nat) : Int)]) with
    | some f => some f
    | none => match t.fault n ws (p ++ [((2 : Nat) : Int)]) with
      | some f => some f
      | none => own n ws (greater_ s t) p
  | cond_ d m s t, p => match s.fault n ws (p ++ [((3 : Nat) : Int)]) with
    | some f => some f
    | none => match t.fault n ws (p ++ [((4 : Nat) : Int)]) with
      | some f => some f
      | none => own n ws (cond_ d m s t) p
  | t, p => own n ws t p
/-- the first fault of some terms at their places -/
def faults (n : Nat) (ws : List (List Int)) (p : List Int) : List (Nat × Tm) → Option (List Int)
  | [] => none
  | (i, t) :: r => match t.fault n ws (p ++ [(i : Int)]) with
    | some f => some f
    | none => faults n ws p r
theorem fault_kids (n : Nat) (ws : List (List Int)) (t : Tm) (p : List Int) : t.fault n ws p = match faults n ws p t.kids with
    | some f => some f
    | none => own n ws t p := by
  cases t <;> simp only [fault, kids, faults]
  all_goals (repeat' split)
  all_goals (first | rfl | simp_all)
theorem kids_height {t : Tm} : ∀ k ∈ t.kids, k.2.height < t.height := by
  cases t <;> (intro k hk; simp only [kids, List.mem_cons, List.not_mem_nil, or_false] at hk)
  all_goals (first | ((rcases hk with rfl | rfl <;> simp only [height] <;> omega)) | (rcases hk with rfl; simp only [height]; omega))
theorem kids_ok {t : Tm} (h : t.Ok) : ∀ k ∈ t.kids, k.2.Ok := by
  cases t <;> (intro k hk; simp only [kids, List.mem_cons, List.not_mem_nil, or_false] at hk)
  all_goals (simp only [Ok] at h)
  all_goals (first | (rcases hk with rfl | rfl <;> simp_all) | (rcases hk with rfl; simp_all))
theorem kids_words {t : Tm} : (t.kids.map fun k => k.2.words).sum + 1 = t.words := by
  cases t <;> simp [kids, words] <;> omega
theorem kids_at {t : Tm} : ∀ k ∈ t.kids, (PyData.str t.word :: t.rest)[k.1]? = some k.2.toD := by
  cases t <;> (intro k hk; simp only [kids, List.mem_cons, List.not_mem_nil, or_false] at hk)
  all_goals (first | (rcases hk with rfl | rfl <;> rfl) | (rcases hk with rfl; rfl))
end Tm
end CS
set_option Elab.async false
set_option maxRecDepth 100000
set_option maxHeartbeats 4000000
set_option linter.unusedVariables false
/-! a list comprehension whose element may raise: the error leaves the block, its own names are let go, it flies on in the def -/
namespace CS
open PySem PySem.Spec PyProof.Rows L2
section
variable {M : Model} {A : Around} {E : Value → Shared → Prop} {env : Env} {s : Shared}
/-- behind the block: told, or an error that flies on from the block's frame fr -/
def Behind (M : Model) (A : Around) (E : Value → Shared → Prop) (Q : Value → Shared → Prop) (got : Value) (C : Addr) (fr : Option Addr) : Result → Shared → Prop
  | .ok _, t => ∃ m, t.heap.Ns C m ∧ ∀ h', Heap.SameBut C t.heap h' → Q got { t with heap := h' }
  | .error x, t => ∃ m, t.heap.Ns C m ∧ ∀ h', Heap.SameBut C t.heap h' → ∀ ce : Env, ce.frame = fr → wpAny M A (PySem.passOn "comprehension.variables-let-go" x ce : Sem Value) (fun _ _ => False) E { t with heap := h' }
theorem comp_out {ex : Expr} {sc : Scope} {pos : PySem.Pos} {mk one : Sem Value} {g : Comprehension} {gs : List Comprehension} {cl : List (Str × Addr)} {Q : Value → Shared → Prop} (h1 : clausesOf ex = g :: gs) (h2 : ∀ x, foldedSetIterable g.iter env x = pure x) (h3 : closureFor sc env = pure cl)
    (h4 : sc.kind = .function) (h5 : ∀ x ∈ sc.names, x.2 = .local → sc.names.lookup x.1 = some .local)
    (h : wpAny M A one (fun x t1 => wpAny M A (pyIter x) (fun it t2 => wpAny M A mk (fun got t3 => wpAny M A (newFunctionEnv sc env.globals cl [] env.qual none .none (some env))
      (fun ce t4 => ce.frame = env.frame ∧ codeAny M A (.compStart ex 0 it got { ce with scope := relabel sc env }) (Behind M A E Q got ce.locals env.frame) t4) E t3) E t2) E t1) E s) :
    wpAny M A (comprehension ex sc env pos mk false one none) Q E s := by
  unfold comprehension
  rw [h3, h1]
  have id_ : ∀ (v : Value) (t : Shared), E v t → E v t := fun _ _ z => z
  refine wpAny_bind (wpAny_mono h (fun x t1 q1 => ?_) id_)
  refine wpAny_bind (wpAny_standAt (wpAny_bind (wpAny_of_eq (h2 x) (wpAny_bind (wpAny_holding (wpAny_mono q1 (fun it t2 q2 => ?_) id_))))))
  refine wpAny_standIf (wpAny_bind (wpAny_mono q2 (fun got t3 q3 => ?_) id_))
  refine wpAny_bind (wpAny_pure (wpAny_bind (wpAny_mono q3 (fun ce t4 q4 => ?_) id_)))
  obtain ⟨fr, q4⟩ := q4
  dsimp only
  have own : ∀ x ∈ (sc.names.filter fun x => (x.2 == .local || x.2 == .cell) && x.1 != (".0" : Str)).reverse, x.2 = .local → Env.kindOf { ce with scope := relabel sc env } x.1 = some .local := fun x hx hl =>
    lookup_relabel_local (h5 x (List.mem_filter.mp (List.mem_reverse.mp hx)).1 hl)
  refine wpAny_holding (wpAny_bind (wpAny_attempt (wpAny_holding (wpAny_run (codeAny_mono q4 fun r t hr => ?_)))))
  cases r with
  | ok f =>
    obtain ⟨m, hn, k⟩ := hr
    exact wpAny_bind (wpAny_holding (wpAny_comp_letGo (cenv := { ce with scope := relabel sc env }) h4 _ t m own hn fun h' m' _ sb => wpAny_pure (k h' sb)))
  | error x =>
    obtain ⟨m, hn, k⟩ := hr
    exact wpAny_bind (wpAny_holding (wpAny_comp_letGo (cenv := { ce with scope := relabel sc env }) h4 _ t m own hn fun h' m' _ sb => wpAny_mono (k h' sb _ fr) (fun _ _ z => z.elim) id_))
end
section
variable {X : Cx} {pins : List (Addr × Obj)} {σ : L2.St} {H : Hp} {s s' : Shared} {E : XK}
theorem inv_xe (I : Inv X pins σ H s) (xe : Value → Shared → Prop) : Inv (X.tr X.pn xe) pins σ H s := ⟨I.ok.toTry X.pn xe, I.os, I.bare, I.base, I.loc, I.cell, I.free, I.freeC, I.pin, I.hok, I.len⟩
theorem inv_ex {xe : Value → Shared → Prop} (I : Inv (X.tr X.pn xe) pins σ H s) : Inv X pins σ H s := ⟨Cx.Ok.ofTry I.ok, I.os, I.bare, I.base, I.loc, I.cell, I.free, I.freeC, I.pin, I.hok, I.len⟩
/-- an error in the air of the block Y, come out of a call -/
def airE (Y : Cx) (E : XK) (u : Value) (t : Shared) : Prop :=
  XE Y (fun c d _ H => E c d H) u t ∧ ∃ (a : Addr) (B : Heap) (cls : Value) (d : Option Addr), u = .ref a ∧ HandSPX.FlyingZ B Y.stack a (Zc cls d) t.heap
abbrev inAir (Y : Cx) (E : XK) : Cx := Y.tr Y.pn (airE Y E)
theorem passes_air {Y : Cx} {E E1 : XK} (hW : ∀ cls d H, E1 cls d H → E cls d H) : ∀ (pins : List (Addr × Obj)) (σ : L2.St) (H : Hp) (s : Shared) (e : Value) (t : Shared), Inv (inAir Y E) pins σ H s → L2.CX Y.prog Y.w Y.stack H s E1 e t → airE Y E e t := fun pins σ H s e t I c =>
  ⟨XE.of_call (X := Y) (inv_ex I) (fun cls d H' h => hW _ _ _ h) c, by
    obtain ⟨a, B, H', cls, d, e1, fl, _⟩ := c
    exact ⟨a, B, cls, d, e1, fl⟩⟩
theorem frames_but {h h' B G : Heap} {C : Addr} (hb : ∀ b, b ≠ C → h'.get? b = h.get? b) (hg : ∀ b, b ≠ C → G.get? b = B.get? b) : ∀ {l : List Env}, C ∉ frs l → h.FunFrames B l → h'.FunFrames G l
  | [], _, _ => trivial
  | env :: rest, n, q => by
    obtain ⟨k, ⟨L, o, fr, no, here, dt⟩, r⟩ := q
    have nf : frs (env :: rest) = L :: frs rest := by simp [frs, List.filterMap_cons, fr]
    rw [nf] at n
    have nL : L ≠ C := fun z => n (z ▸ List.mem_cons_self)
    exact ⟨k, ⟨L, o, fr, by rw [hg L nL]; exact no, by rw [hb L nL]; exact here, dt⟩, frames_but hb hg (fun z => n (List.mem_cons_of_mem _ z)) r⟩
/-- an error that is in the air of the block comes behind it -/
theorem air_behind {s3 t : Shared} {H3 : Hp} {scope : Scope} {ce : Env} {fp : List Addr} {u : Value} {Q : Value → Shared → Prop} {got : Value} {E0 : Value → Shared → Prop} (tk : Takes X (fun c d _ H => E c d H)) (I3 : Inv X pins σ H3 s3) (hcL : ce.locals = s3.heap.objs.size) (hcf : ce.frame = X.env.frame)
    (hs : X.stack = X.env :: X.outer) (hfX : X.env.frame = some X.env.locals) (f3 : ∀ b ∈ fp, FpOk X pins H3 b) (air : airE (X.blk s3 H3 scope ce fp) E u t) :
    wpAny (model X.prog X.w) X.A (noteFrame u ce) (fun _ t' => Behind (model X.prog X.w) X.A X.xe Q got s3.heap.objs.size X.env.frame (.error u) t') E0 t := by
  obtain ⟨⟨a, B, sI, pI, σI, HI, cls, d, rfl, I, nb, up, sky, na, os, ag, w⟩, a2, B2, cls2, d2, e2, fl2⟩ := air
  cases e2
  have fl : HandSPX.FlyingZ B X.stack a (Zc cls d) t.heap := by
    obtain ⟨_, _, _, oe2, vs2, T2, oT2, ts2, he2, _, hd2, h12, _, _, hT2, hdT2, h32⟩ := fl2
    rcases sky with ⟨_, _, _, oe, vs, he, _, hd, h1⟩ | fl | ⟨_, _, _, oe, vs, T, oT, ts, he, _, hd, h1, _, _, hT, hdT, h3⟩
    · rw [he] at he2
      cases he2
      rw [hd] at hd2
      cases hd2
      rw [h1] at h12
      cases h12
    · exact fl
    · rw [he] at he2
      cases he2
      rw [hd] at hd2
      cases hd2
      rw [h1] at h12
      cases h12
      rw [hT] at hT2
      cases hT2
      rw [hdT] at hdT2
      cases hdT2
      rw [h3] at h32
      cases h32
  have en : noteFrame (.ref a) ce = noteFrame (.ref a) X.env := by
    unfold noteFrame PySem.frameOf
    rw [hcf]
  rw [en]
  have hfr : X.A.frames = some (X.env :: X.outer) := by rw [I3.ok.frames, hs]
  rw [hs] at fl
  refine HandSPX.looks_onZ Zc.steady hfr hfX fl fun h1 hh up1 => ?_
  obtain ⟨m, hn, _⟩ := I.loc
  have hn : sI.heap.Ns s3.heap.objs.size m := hcL ▸ hn
  have hn1 := up1.ns (up.ns hn)
  refine ⟨m, hn1, fun h' sb ce2 fr2 => ?_⟩
  have nC : HI s3.heap.objs.size = none := by
    have z : HI ce.locals = none := I.free
    rw [hcL] at z
    exact z
  obtain ⟨f0, f1, f2, f4, f5, f6⟩ := I3.fpOk (b := s3.heap.objs.size) (Nat.le_refl _) nC
  generalize hC : s3.heap.objs.size = C at *
  have nst : C ∉ frs (X.env :: X.outer) := fun z => by
    rw [show frs (X.env :: X.outer) = X.env.locals :: X.fs from by simp [frs, List.filterMap_cons, hfX]] at z
    rcases List.mem_cons.mp z with z | z
    · exact f1 z
    · exact f2 z
  obtain ⟨b1, b2, b3, oe, vs, T, oT, ts, he, hz, hd, h1', hnT, hTe, hT, hdT, h3⟩ := hh
  have rec_ : ∀ b o vs, h1.get? b = some o → o.data = .fields vs → b ≠ C := fun b o vs e ed z => by
    obtain ⟨o2, es, ep, ho, q, _⟩ := hn1
    rw [z, ho] at e
    cases e
    rw [q] at ed
    cases ed
  have naC := rec_ _ _ _ he hd
  have nTC := rec_ _ _ _ hT hdT
  obtain ⟨G, g1, g2⟩ := L2.restrict B (fun b => decide (b ≠ C))
  have gg : ∀ b, b ≠ C → G.get? b = B.get? b := fun b n => g1 b (decide_eq_true n)
  have gs : ∀ b o, G.get? b = some o → b ≠ C ∧ B.get? b = some o := fun b o e => by
    by_cases n : b = C
    · rw [g2 b (decide_eq_false (fun z => z n))] at e
      cases e
    · exact ⟨n, by rw [← gg b n]; exact e⟩
  have hh2 : HandSPX.HeldZ G (X.env :: X.outer) a (Zc cls d) X.env.locals h' :=
    ⟨fun b o e => by rw [sb.2 b (gs b o e).1]; exact b1 b o (gs b o e).2, by rw [gg a naC]; exact b2, frames_but sb.2 gg nst b3, oe, vs, T, oT, ts, by rw [sb.2 a naC]; exact he, hz, hd, h1', by rw [gg T nTC]; exact hnT, hTe, by rw [sb.2 T nTC]; exact hT, hdT, h3⟩
  unfold PySem.passOn
  refine wpAny_bind (wpAny_field (s := { t with heap := h' }) (by rw [sb.2 a naC]; exact he) hd h1' ?_)
  rw [if_neg (by simp)]
  rw [fr2, hfX]
  refine wpAny_bind (HandSPX.setFlight_onZ hh2 fun h2 hh3 up3 => ?_)
  refine wpAny_throw (tk _ _ ?_)
  obtain ⟨S, p1, p2⟩ := L2.restrict sI.heap (fun b => decide (b ≠ C))
  have ss : ∀ b o, S.get? b = some o → b ≠ C ∧ sI.heap.get? b = some o := fun b o e => by
    by_cases n : b = C
    · rw [p2 b (decide_eq_false (fun z => z n))] at e
      cases e
    · exact ⟨n, by rw [← p1 b (decide_eq_true n)]; exact e⟩
  have I7 : Inv X pins σ HI sI := I3.call' (ch := fp) I.os I.base I.hok I.bare fun b hb => ⟨(f3 b hb).2.2.2.1, (f3 b hb).2.1, (f3 b hb).2.2.2.2.1, (f3 b hb).2.2.2.2.2⟩
  refine ⟨a, G, { sI with heap := S, toks := sI.toks }, pins, σ, HI, cls, d, rfl, I7.turned (it := C) (t' := sI.toks) (fun b o nb2 e => by rw [p1 b (decide_eq_true nb2)]; exact e) f0 f1 f4 f5 f6, fun b o e nf => ?_, fun b o e nd => ?_, .inr (.inr (hs ▸ hh3)), na, os, ag, w⟩
  · obtain ⟨n, e⟩ := ss b o e
    rw [gg b n]
    exact nb b o e nf
  · obtain ⟨n, e⟩ := ss b o e
    obtain ⟨sl, e1⟩ := up b o e nd
    obtain ⟨sl2, e2⟩ := up1 b _ e1 nd
    obtain ⟨sl3, e3⟩ := up3 b _ ((sb.2 b n).trans e2) nd
    exact ⟨sl3, e3⟩
end
section
variable {Y : Cx} {E : XK} {fp : List Addr} {tn : Nat → Heap → Prop} {J : It} {it D : Addr} {elt tg iter : Expr} {ifs : List Expr} {scope : Scope} {pos : PySem.Pos} {g : TG} {tt : TT} {te : TE} {τ : L2.St} {vs : List Nat} {W : Nat → Nat → Hp → Prop} {Zq : Hp → Prop} {R : Result → Shared → Prop}
/-- what is owed at turn i, with m left: the walk stands at its end, or gives x, and the block puts what it makes of x behind the list at D -/
def DueL (J : It) (g : TG) (tt : TT) (te : TE) (τ : L2.St) (vs : List Nat) (D : Addr) (W : Nat → Nat → Hp → Prop) (Z : Hp → Prop) : Prop :=
  ∀ i m H, W i m H → (J.stop i H ∧ Z H) ∨ (J.go i H ∧ ∃ N : Hp → Prop, (∀ G, N G → ∃ j, j < m ∧ W (i + 1) j G) ∧ ∀ x H', J.yld i H x H' → g x τ H' fun ρ H2 => wipe ρ vs = τ ∧ tt ρ H2 fun b H3 =>
    if b = true then te ρ H3 fun y H4 => ∃ zs, H4 D = some (.lst zs) ∧ zs.length < sizeLine ∧ N (upd H4 D (.lst (zs ++ [y]))) else N H3)
theorem due_list (calm : Y.calm = true) (T : Turn Y.prog Y.w Y.K tg J fp it tn) (pg : PG (inAir Y E) tg g) (pt : PTs (inAir Y E) ifs tt) (pe : PE (inAir Y E) elt te)
    (fok : ∀ {σ' H' s'}, Inv Y [] σ' H' s' → (∀ b ∈ fp, H' b = none) → ∀ b ∈ fp, FpOk Y [] H' b) (air : ∀ {u t}, airE Y E u t → notedBy (model Y.prog Y.w) Y.A Y.env (fun e t' => R (.error e) t') u t)
    (due : DueL J g tt te τ vs D W Zq) (fin : ∀ {s H}, Inv Y [] τ H s → Zq H → R (.ok .next) s) {m : Nat} {s : Shared} {H : Hp} (I : Inv Y [] τ H s) (t0 : tn 0 s.heap) (n0 : ∀ b ∈ fp, H b = none) (w0 : W 0 m H) :
    codeAny (model Y.prog Y.w) Y.A (.compLoop (.ListComp elt [⟨tg, iter, ifs, 0⟩] scope pos) 0 (.ref it) (.ref D) Y.env) R s := by
  have aired : ∀ {α : Type} {m : Sem α} {Q Q' : α → Shared → Prop} {t : Shared}, wpAny (model Y.prog Y.w) Y.A m Q (airE Y E) t → (∀ a s, Q a s → Q' a s) → wpAny (model Y.prog Y.w) Y.A m Q' (notedBy (model Y.prog Y.w) Y.A Y.env fun e t' => R (.error e) t') t := fun h k => wpAny_mono h k fun _ _ z => air z
  refine compLoop_any (fun left t => ∃ i G, Inv Y [] τ G t ∧ tn i t.heap ∧ (∀ b ∈ fp, G b = none) ∧ W i left G) (fun left t ⟨i, G, IG, tG, nG, wG⟩ => ?_) m ⟨0, H, I, t0, n0, w0⟩
  rcases due i left G wG with ⟨stop, z⟩ | ⟨go, N, less, each⟩
  · refine thnF (T.done Y rfl rfl rfl calm i [] t τ G (fun _ _ => False) IG (fok IG nG) tG stop) fun r t1 ⟨er, I1⟩ => ?_
    rw [er]
    exact fin I1 z
  refine thnF (T.item Y rfl rfl rfl calm i [] t τ G (fun _ _ => False) IG (fok IG nG) tG go) fun r t1 ⟨u, er, h1⟩ => ?_
  rw [er]
  refine thnF h1 fun _ t2 ⟨x, G2, I2, rx, y2, tn2, n2⟩ => ?_
  have I2p : Inv Y ([] ++ pinsAt fp t2.heap) τ G2 t2 := I2.pinned (fok I2 n2) (T.obj _ _ tn2)
  have next : ∀ {t' : Shared} {ρ : L2.St} {G' : Hp} {j : Nat}, Inv Y ([] ++ pinsAt fp t2.heap) ρ G' t' → wipe ρ vs = τ → W (i + 1) j G' → ∃ i G, Inv Y [] τ G t' ∧ tn i t'.heap ∧ (∀ b ∈ fp, G b = none) ∧ W i j G := fun {t' ρ G' j} I' ew w' => by
    have still : ∀ b ∈ fp, ∀ o, t2.heap.get? b = some o → t'.heap.get? b = some o ∧ G' b = none := fun b hb o e => by
      have p := I'.pin (b, o) (List.mem_append_right _ (List.mem_append_right _ (mem_pinsAt hb e)))
      exact ⟨p.1, p.2.1⟩
    refine ⟨i + 1, G', Inv.weak (I'.unpinned (pins := [])) (by rw [← ew, wipe_length]) (fun a v e => ?_), ?_, fun b hb => ?_, w'⟩
    · exact (wipe_some (ew ▸ e)).1
    · exact T.keep _ _ _ tn2 fun b hb o e => (still b hb o e).1
    · obtain ⟨o, e, _⟩ := T.obj _ _ tn2 b hb
      exact (still b hb o e).2
  refine aired (pg.run _ t2 _ G2 x u _ (inv_xe I2p _) rx (each x G2 y2)) fun _ t3 ⟨ρ, G3, I3, ew, q3⟩ => ?_
  refine aired (pt.run _ t3 ρ G3 _ I3 q3) fun b t4 ⟨G4, I4, q4⟩ => ?_
  dsimp only at q4
  by_cases hb : b = true
  · rw [if_pos hb] at q4 ⊢
    refine aired (pe.run _ t4 ρ G4 _ I4 q4) fun v t5 ⟨y, G5, I5, ry, zs, hD, room, w5⟩ => ?_
    obtain ⟨j, hj, w'⟩ := less _ w5
    exact app_ok (inv_ex I5) hD room ry fun t6 I6 => ⟨j, hj, next I6 ew w'⟩
  · rw [if_neg hb] at q4 ⊢
    obtain ⟨j, hj, w'⟩ := less _ q4
    exact ⟨j, hj, next (inv_ex I4) ew w'⟩
end
section
variable {X : Cx} {E : XK} {elt tg iter : Expr} {ifs : List Expr} {scope : Scope} {own : List (PySem.Str × Nat)} {pos : PySem.Pos} {wi : TI} {g : TG} {tt : TT} {te : TE}
/-- [elt for target in iter if ..], where the element may raise what E lets go -/
theorem pe_lcE (tk : Takes X (fun c d _ H => E c d H)) (hs : X.stack = X.env :: X.outer) (hf : X.env.frame = some X.env.locals) (calm : X.calm = true) (nd : X.N.Nodup) (hi : PI X tg iter wi) (ok : BlkOk X.N X.env.scope scope own)
    (hg : ∀ (s : Shared) (H : Hp) (C : Addr) (cl : List (PySem.Str × Addr)) (fp : List Addr), PG (inAir (X.blk s H scope (compEnvC scope cl C X.env) fp) E) tg g) (ht : ∀ (s : Shared) (H : Hp) (C : Addr) (cl : List (PySem.Str × Addr)) (fp : List Addr), PTs (inAir (X.blk s H scope (compEnvC scope cl C X.env) fp) E) ifs tt)
    (he : ∀ (s : Shared) (H : Hp) (C : Addr) (cl : List (PySem.Str × Addr)) (fp : List Addr), PE (inAir (X.blk s H scope (compEnvC scope cl C X.env) fp) E) elt te) (fold : ∀ x, foldedSetIterable iter X.env x = pure x := by intro _; rfl) :
    PE X (.ListComp elt [⟨tg, iter, ifs, 0⟩] scope pos) (tLc wi g tt te (own.map (·.2))) := by
  refine ⟨fun pins s σ H Q I h => ?_⟩
  rw [eval_ListComp]
  have clo : closureFor scope X.env = pure (cloFrom X.env.cells scope.names []) := closure_ok fun y hy e => (ok.free y hy e).elim (fun k => I.ok.has _ (.inl k)) fun k => I.ok.has _ (.inr k)
  refine comp_out rfl fold clo ok.kind (fun y hy e => e ▸ ok.uniq y hy) (thn (hi.run pins s σ H _ I h) fun _ _ h1 => thn h1 fun _ s2 ⟨it, fp, tn, J, H2, ev, I2, T, t0, f2, q⟩ => ?_)
  subst ev
  refine wpAny_newObj_type (newEnv_comp ⟨rfl, ?_⟩) (by show 0 ≤ sizeLine; decide)
  obtain ⟨W, ⟨m, w0⟩, due⟩ := q s2.heap.objs.size (I2.hok.fresh (Nat.le_refl _))
  have lay : ∃ D H3 s3, D = s2.heap.objs.size ∧ H3 = upd H2 D (.lst []) ∧ s3 = ({ s2 with heap := s2.heap.push { cls := .type "list", dict := none, data := .seq ([] : List Value).toArray } } : Shared) := ⟨_, _, _, rfl, rfl, rfl⟩
  obtain ⟨D, H3, s3, eD, eH, es⟩ := lay
  rw [← eD, ← eH] at w0
  rw [← eD] at due
  rw [← eD, ← es]
  have kept : ∀ b o, s2.heap.get? b = some o → s3.heap.get? b = some o := fun b o e => by rw [es]; exact Heap.get?_push_of_some _ e
  have I3 : Inv X pins σ H3 s3 := by
    rw [eH, es, eD]
    exact I2.laid (t' := s2.toks) (fun b o e => Heap.get?_push_of_some _ e) (Nat.le_refl _) ⟨Nat.zero_le _, [], 0, .nil, Heap.get?_push_size _ rfl⟩
  have small : ∀ b ∈ fp, b < s2.heap.objs.size := fun b hb => (T.obj _ _ t0 b hb).elim fun o z => Heap.lt_size z.1
  have f3 : ∀ b ∈ fp, FpOk X pins H3 b ∧ b < s3.heap.objs.size := fun b hb => by
    refine ⟨⟨?_, (f2 b hb).2⟩, ?_⟩
    · rw [eH, upd_ne (by rw [eD]; exact Nat.ne_of_lt (small b hb))]
      exact (f2 b hb).1
    · rw [es]
      show b < (s2.heap.push _).objs.size
      rw [Heap.size_push]
      exact Nat.lt_succ_of_lt (small b hb)
  have I4 := block_start I3 ok nd f3
  have tn4 : tn 0 (pushCells (s3.heap.push { cls := .type "dict", data := .dict #[] }) scope.names) := T.keep _ _ _ t0 fun b _ o e => pushCells_keeps _ _ _ _ (Heap.get?_push_of_some _ (kept b o e))
  refine codeAny_compStart_list ?_ (T.self X.A 0 _ _ _ tn4 ?_)
  all_goals
    refine due_list (Y := X.blk s3 H3 scope (compEnvC scope (cellsFrom (s3.heap.objs.size + 1) scope.names (cloFrom X.env.cells scope.names [])) s3.heap.objs.size X.env) fp) (E := E) calm T (hg ..) (ht ..) (he ..) (fun {σ' H' s'} I' n b hb => ?_) (fun {u t} z => ?_) due (fun {s' H'} I' z => ?_) I4 tn4 (fun b hb => (f3 b hb).1.1) w0
    · exact ⟨n b hb, (I'.ok.exf b hb).1, I'.ok.exfs b hb, .inl hb, fun x c e => (I'.ok.exf b hb).2 x c e, fun p hp => nomatch (show p ∈ ([] : List (Addr × Obj)) from hp)⟩
    · exact air_behind tk I3 rfl rfl hs hf (fun b hb => (f3 b hb).1) z
    · have nC : H' s3.heap.objs.size = none := I'.free
      have back : Inv X pins σ H' s' := I3.call' (ch := fp) I'.os I'.base I'.hok I'.bare fun b hb => ⟨(f3 b hb).1.2.2.2.1, (f3 b hb).1.2.1, (f3 b hb).1.2.2.2.2.1, (f3 b hb).1.2.2.2.2.2⟩
      obtain ⟨j, hj, _⟩ := I'.loc
      refine ⟨j, hj, fun h2 sb => ?_⟩
      obtain ⟨c0, c1, c2, c3, c4, c5⟩ := I3.fpOk (Nat.le_refl _) nC
      exact ⟨.ref D, H', back.turned (t' := s'.toks) (fun b o hb e => (sb.2 b hb).trans e) c0 c1 c3 c4 c5, rfl, z⟩
end
end CS
set_option Elab.async false
set_option maxRecDepth 100000
set_option maxHeartbeats 8000000
set_option linter.unusedVariables false
set_option pp.maxSteps 400
/-! enumerate(x, start=k), x a text -/
namespace CS
open PySem PySem.Spec PyProof.Rows L2
section
variable {M : Model} {A : Around} {E : Value → Shared → Prop} {s : Shared} {env : Env}
theorem kw_of_type {pos : PySem.Pos} {T : String} {e : Expr} {kws : List Keyword} {Q : Value → Shared → Prop} (st : starEach [e] env = [(false, eval e env)]) (named : (backToKw pos (keywordEach kws env)).all (·.1.isSome) = true) (noneless : (backToKw pos (keywordEach kws env)).any (·.1.isNone) = false)
    (h : wpAny M A (spliced (backTo pos (starEach [e] env))) (fun vs t1 => wpAny M A (evalAll ((backToKw pos (keywordEach kws env)).map (·.2))) (fun ks t2 => wpAny M A (call (.type T) vs (((backToKw pos (keywordEach kws env)).filterMap (·.1)).zip ks)) Q E t2) E t1) E s) :
    wpAny M A (callWith pos (.type T) [] (backTo pos (starEach [e] env)) (backToKw pos (keywordEach kws env))) Q E s := by
  rw [st] at h ⊢
  have ev : wpAny M A (evalArgs (.type T) true (backTo pos [(false, eval e env)]) (backToKw pos (keywordEach kws env))) (fun a t => wpAny M A (call (.type T) ([] ++ a.pos) a.kw) Q E t) E s := evalArgs_kwB (rest := []) named h
  unfold callWith
  refine wpAny_bind (wpAny_holding (wpAny_mono ev (fun a t k => wpAny_bind (wpAny_standAt ?_)) fun _ _ z => z))
  simp only [show (backTo pos [(false, eval e env)]).any (·.1) = false from rfl, noneless, Bool.or_false]
  refine wpAny_bind (wpAny_pure ?_)
  exact wpAny_bind (wpAny_mono k (fun r t2 q => wpAny_bind (wpAny_holding (wpAny_point (wpAny_pure q)))) fun _ _ z => z)
end
/-- the walk: (k + i, the sign i) -/
def IteS (x : Str) (k : Int) : It where
  go i _ := i < x.cps.size
  yld i H v H' := ∃ T c, v = .ref T ∧ H T = none ∧ H' = upd H T (.tup [.int (k + (i : Nat)), .str ⟨#[c]⟩]) ∧ x.cps[i]? = some c
  stop i _ := i = x.cps.size
def EsAt (x : Str) (t : Tok) (k : Int) (e it : Addr) (i : Nat) (h : Heap) : Prop := (∃ old, IsEnum h e it (k + ((i : Nat) : Int)) old) ∧ h.IsStrIter it (strIterType x) x t i ∧ e ≠ it
theorem EsAt.lt {x : Str} {t : Tok} {k : Int} {e it : Addr} {i : Nat} {h : Heap} (st : EsAt x t k e it i h) : e < h.objs.size ∧ it < h.objs.size := by
  obtain ⟨⟨_, he⟩, ⟨_, hi, _⟩, _⟩ := st
  exact ⟨Heap.lt_size he, Heap.lt_size hi⟩
theorem enumS_turn {P : Program} {w : World} {K : PySem.W.Frag} {elts : List Expr} {kk : Nat} {tpos : PySem.Pos} (x : Str) (t : Tok) (k : Int) (e it : Addr) : Turn P w K (.Tuple elts kk tpos) (IteS x k) [e, it] e (EsAt x t k e it) where
  mem := List.mem_cons_self
  obj i h st b hb := by
    obtain ⟨⟨_, he⟩, ⟨o, hi, _, hd⟩, _⟩ := st
    rcases List.mem_cons.mp hb with rfl | hb
    · exact ⟨_, he, fun v q => nomatch q⟩
    · rw [List.mem_singleton.mp hb]
      exact ⟨o, hi, fun v q => by rw [hd] at q; cases q⟩
  keep i h h' st k1 := by
    obtain ⟨⟨old, he⟩, hi, ne⟩ := st
    exact ⟨⟨old, k1 e (by simp) _ he⟩, (let ⟨o, ho, r⟩ := hi; ⟨o, k1 it (by simp) o ho, r⟩), ne⟩
  item := by
    intro X e1 e2 e3 calm i pins s σ H E I fok st less
    subst e1 e2 e3
    have lt := st.lt
    obtain ⟨⟨old, he⟩, hi, ne⟩ := st
    refine wpAny_pyNext_enum_itemC (Draws.text (A := X.A.in1) (I.ok.hd calm) it x t) he hi less ne (by simp [ne]) fun v h1 tk hv he1 hi1 hT1 sz k1 => ?_
    obtain ⟨c, u, hc, rfl⟩ := hv
    refine ⟨_, rfl, wpAny_letOwnedTupleGo_enum (s := { s with heap := h1, toks := tk + 1 }) he1 fun h2 he2 sb => ?_⟩
    have apart : s.heap.objs.size ≠ e := Nat.ne_of_gt lt.1
    have there : h2.get? s.heap.objs.size = some { cls := .type "tuple", data := .seq #[.int (k + (i : Nat)) tk, .str ⟨#[c]⟩ u] } := (sb.2 _ apart).trans hT1
    have kept : ∀ b ob, b ∉ [e, it] → s.heap.get? b = some ob → h2.get? b = some ob := fun b ob nb q => (sb.2 b fun z => nb (by simp [z])).trans (k1 b ob (fun z => nb (by simp [z])) (fun z => nb (by simp [z])) q)
    have I2 := I.turnedNew (t' := tk + 1) (ch := [e, it]) (T := s.heap.objs.size) (ob := .tup [.int (k + (i : Nat)), .str ⟨#[c]⟩]) kept fok (Nat.le_refl _) ⟨by show 2 ≤ sizeLine; decide, [.int (k + (i : Nat)) tk, .str ⟨#[c]⟩ u], .cons ⟨_, rfl⟩ (.cons ⟨_, rfl⟩ .nil), ⟨_, there, rfl, _, rfl⟩⟩
    refine ⟨.ref s.heap.objs.size, _, I2, rfl, ⟨_, c, rfl, I.hok.fresh (Nat.le_refl _), rfl, hc⟩, ⟨⟨.str ⟨#[c]⟩ u, ?_⟩, (let ⟨o, ho, r⟩ := hi1; ⟨o, (sb.2 it (Ne.symm ne)).trans ho, r⟩), ne⟩, fun b hb => ?_⟩
    · rw [show k + ((i + 1 : Nat) : Int) = k + (i : Int) + 1 by omega]
      exact he2
    · have lb : b < s.heap.objs.size := by
        rcases List.mem_cons.mp hb with rfl | hb
        · exact lt.1
        · rw [List.mem_singleton.mp hb]; exact lt.2
      rw [upd_ne (Nat.ne_of_lt lb)]
      exact (fok b hb).1
  done := by
    intro X e1 e2 e3 calm i pins s σ H E I fok st past
    subst e1 e2 e3
    obtain ⟨⟨old, he⟩, hi, ne⟩ := st
    have D := Draws.text (prog := X.prog) (w := X.w) (A := X.A.in1) (I.ok.hd calm) it x t
    obtain ⟨f0, f1, f2, f3, f4, f5⟩ := fok it (by simp)
    have c : i = x.cps.size := past
    rw [c] at hi
    exact wpAny_pyNext_enum_endD D he hi fun h1 eb => ⟨rfl, I.turned (t' := s.toks) (fun b o nb q => eb b o nb q) f0 f1 f3 f4 f5⟩
  self A i s Q E st h := by
    obtain ⟨⟨_, he⟩, _⟩ := st
    exact wpAny_pyIter_enum he h
def iEnS (ta : TA) (tk : TE) : TI := fun σ H R => ta σ H fun vs H1 => ∃ x, vs = [.str x] ∧ tk σ H1 fun u H2 => ∃ k : Int, u = .int k ∧ -(2 ^ 63) ≤ k ∧ k < 2 ^ 63 ∧ R (IteS x k) H2
theorem pi_enumS {X : Cx} {e ek : Expr} {ta : TA} {tk : TE} {p pos tpos kp : PySem.Pos} {elts : List Expr} {kk : Nat} (gl : Gl X "enumerate") (mn : X.mg "enumerate" = none) (ha : PA X [e] ta) (hk : PE X ek tk)
    (hs : starEach [e] X.env = [(false, eval e X.env)] := by rfl) : PI X (.Tuple elts kk tpos) (.Call (.Name "enumerate" p) [e] [⟨some "start", ek, kp⟩] pos) (iEnS ta tk) := by
  refine ⟨fun pins s σ H R I h => ?_⟩
  rw [show eval (.Call (.Name "enumerate" p) [e] [⟨some "start", ek, kp⟩] pos) X.env = (do callWith pos (← eval (.Name "enumerate" p) X.env) [] (backTo pos (starEach [e] X.env)) (backToKw pos (keywordEach [⟨some "start", ek, kp⟩] X.env))) from rfl]
  refine wpAny_bind (ld_blt I gl mn boot_enumerate (kw_of_type hs rfl rfl (thn (ha.run pos pins s σ H _ I h) fun us s1 ⟨vs, G, I1, rv, x, ev, q⟩ => ?_)))
  subst ev
  obtain ⟨u, rfl, ru⟩ := vals1 rv
  obtain ⟨t, rfl⟩ := ru
  refine kws_cons (thn (hk.run pins s1 σ G _ I1 q) fun v s2 ⟨y, G2, I2, ry, k, ey, k0, k1, r⟩ => ?_)
  subst ey
  obtain ⟨tk2, rfl⟩ := ry
  refine kws_nil ?_
  show wpAny _ _ (call (.type "enumerate") [.str x t] [(Str.ofString "start", .int k tk2)]) _ _ _
  refine enum_begins_start (begins_text x t) trivial k0 k1 fun h' he hi sz kp => wpAny_pyIter_enum he ⟨_, [s2.heap.objs.size + 1, s2.heap.objs.size], _, _, G2, rfl, I2.kept (t' := s2.toks) kp, enumS_turn x t k _ _, ⟨⟨_, by rw [show k + ((0 : Nat) : Int) = k by omega]; exact he⟩, ⟨_, hi, rfl, rfl⟩, Nat.succ_ne_self _⟩, fun b hb => ?_, r⟩
  have young : s2.heap.objs.size ≤ b := by
    rcases List.mem_cons.mp hb with z | z
    · rw [z]
      exact Nat.le_add_right _ _
    · rw [List.mem_singleton.mp z]
      exact Nat.le_refl _
  exact I2.fpOk young (I2.hok.fresh young)
theorem walk_enS {x : Str} {k : Int} : Walk (IteS x k) x.cps.size (fun _ => True) (YPair (fun i => some (.int (k + (i : Nat)))) (fun i => (x.cps[i]?).map fun c => .str ⟨#[c]⟩)) :=
  ⟨fun i H lt _ => lt, fun H _ => rfl, fun i H v H' _ _ ⟨T, c, e1, e2, e3, e4⟩ => ⟨T, _, _, e1, e2, e3, rfl, by show (x.cps[i]?).map _ = _; rw [e4]; rfl⟩⟩
end CS
set_option Elab.async false
set_option maxRecDepth 100000
set_option maxHeartbeats 8000000
set_option linter.unusedVariables false
set_option pp.maxSteps 400
/-! zip(x, t), x a text, t a tuple -/
namespace CS
open PySem PySem.Spec PyProof.Rows L2
/-- the walk: (the sign i of x, the item i of the tuple at a) -/
def IzS (K : PySem.W.Frag) (x : Str) (a : Addr) : It where
  go i H := ∃ (xs : List V) (y : V), SqT K H a xs ∧ i < x.cps.size ∧ xs[i]? = some y
  yld i H v H' := ∃ T c y, v = .ref T ∧ H T = none ∧ H' = upd H T (.tup [.str ⟨#[c]⟩, y]) ∧ x.cps[i]? = some c ∧ ∀ xs, SqT K H a xs → xs[i]? = some y
  stop i H := ∃ xs : List V, SqT K H a xs ∧ i ≤ x.cps.size ∧ i ≤ xs.length ∧ (i = x.cps.size ∨ i = xs.length)
/-- how the heap stands ahead of turn i -/
structure ZsAt (x : Str) (t : Tok) (a z p q e f : Addr) (i : Nat) (h : Heap) : Prop where
  sep : ZipSep2 z p q e f [e] [f, a]
  zip_ : IsZip h z p q .none
  ins : IsTupOf2 h p (.ref e) (.ref f)
  out : ∃ u v, IsTupOf2 h q u v
  txt : h.IsStrIter e (strIterType x) x t i
  row : h.IsTupleIter f a i
theorem ZsAt.small {x : Str} {t : Tok} {a z p q e f : Addr} {i : Nat} {h : Heap} (st : ZsAt x t a z p q e f i h) : ∀ b ∈ [z, p, q, e, f], b < h.objs.size ∧ ∃ o, h.get? b = some o ∧ ∀ v, o.data ≠ .cell v := by
  obtain ⟨u, v, ho⟩ := st.out
  obtain ⟨o1, g1, _, d1⟩ := st.txt
  obtain ⟨o2, g2, _, d2⟩ := st.row
  have all : ∀ (b : Addr) (o : Obj), h.get? b = some o → (∀ v, o.data ≠ .cell v) → b < h.objs.size ∧ ∃ o, h.get? b = some o ∧ ∀ v, o.data ≠ .cell v := fun b o g d => ⟨Heap.lt_size g, o, g, d⟩
  intro b hb
  simp only [List.mem_cons, List.not_mem_nil, or_false] at hb
  rcases hb with rfl | rfl | rfl | rfl | rfl
  · exact all _ _ st.zip_ fun v w => nomatch w
  · exact all _ _ st.ins fun v w => nomatch w
  · exact all _ _ ho fun v w => nomatch w
  · exact all _ _ g1 fun v w => by rw [d1] at w; cases w
  · exact all _ _ g2 fun v w => by rw [d2] at w; cases w
theorem zipS_turn {P : Program} {w : World} {K : PySem.W.Frag} {elts : List Expr} {kk : Nat} {tpos : PySem.Pos} (x : Str) (t : Tok) (a z p q e f : Addr) : Turn P w K (.Tuple elts kk tpos) (IzS K x a) [z, p, q, e, f] z (ZsAt x t a z p q e f) where
  mem := List.mem_cons_self
  obj i h st b hb := (st.small b hb).2
  keep i h h' st k := by
    obtain ⟨u, v, ho⟩ := st.out
    obtain ⟨o1, g1, r1⟩ := st.txt
    obtain ⟨o2, g2, r2⟩ := st.row
    exact ⟨st.sep, k z (by simp) _ st.zip_, k p (by simp) _ st.ins, ⟨u, v, k q (by simp) _ ho⟩, ⟨o1, k e (by simp) _ g1, r1⟩, ⟨o2, k f (by simp) _ g2, r2⟩⟩
  item := by
    intro X e1 e2 e3 calm i pins s σ H E I fok st ⟨xs, y, hx, less, at_i⟩
    subst e1 e2 e3
    obtain ⟨its, rv, isT, _⟩ := I.tuple hx
    obtain ⟨u, hu, ru⟩ := rv.get at_i
    have sm := st.small
    obtain ⟨sep, hz, hp, ⟨v1, v2, hq⟩, ht, hr⟩ := st
    have nfa : a ≠ f := fun w => by
      obtain ⟨o, g, c, _⟩ := id hr
      obtain ⟨o2, g2, c2, _⟩ := id isT
      rw [← w, g2] at g
      cases g
      rw [c2] at c
      exact absurd (Value.type.inj c) (by decide)
    have ltn : i < its.toArray.size := by
      rw [List.size_toArray]
      exact (List.getElem?_eq_some_iff.mp hu).1
    refine wpAny_pyNext_zipD2_item sep (Draws.text (A := X.A.in1) (I.ok.hd calm) e x t) (Draws.tuple (A := X.A.in1) (I.ok.hd calm) f a nfa its.toArray) hz hp hq ht ⟨hr, isT⟩ less ltn fun w1 w2 h1 tk c1 c2 hz1 hq1 ht1 hr1 hn sz k1 => ?_
    obtain ⟨c, tc, hc, rfl⟩ := c1
    have ev : w2 = u := by
      rw [List.getElem?_toArray, hu] at c2
      exact (Option.some.inj c2).symm
    subst ev
    refine ⟨_, rfl, wpAny_letOwnedTupleGo_zip (s := { s with heap := h1, toks := tk }) hz1 fun h2 hz2 sb => ?_⟩
    have apart : s.heap.objs.size ≠ z := Nat.ne_of_gt (sm z (by simp)).1
    have there : h2.get? s.heap.objs.size = some { cls := .type "tuple", data := .seq #[.str ⟨#[c]⟩ tc, w2] } := (sb.2 _ apart).trans hn
    have kept : ∀ b ob, b ∉ [z, p, q, e, f] → s.heap.get? b = some ob → h2.get? b = some ob := fun b ob nb g =>
      (sb.2 b fun w => nb (by simp [w])).trans (k1 b ob (fun w => nb (by simp [w])) (fun w => nb (by simp [w])) (fun w => nb (by simp [w])) (fun w => nb (by simp [w])) g)
    have I2 := I.turnedNew (t' := tk) (ch := [z, p, q, e, f]) (T := s.heap.objs.size) (ob := .tup [.str ⟨#[c]⟩, y]) kept fok (Nat.le_refl _) ⟨by show 2 ≤ sizeLine; decide, [.str ⟨#[c]⟩ tc, w2], .cons ⟨_, rfl⟩ (.cons ru .nil), ⟨_, there, rfl, _, rfl⟩⟩
    have ez : e ≠ z := fun w => sep.zf1 (by rw [w]; exact List.mem_cons_self)
    have fz : f ≠ z := fun w => sep.zf2 (by rw [w]; exact List.mem_cons_self)
    refine ⟨.ref s.heap.objs.size, _, I2, rfl, ⟨_, c, y, rfl, I.hok.fresh (Nat.le_refl _), rfl, hc, fun ys hy => by rw [I.tuple_inj hy hx]; exact at_i⟩, ⟨sep, hz2, ?_, ⟨_, _, (sb.2 q sep.TOz).trans hq1⟩, ?_, ?_⟩, fun b hb => ?_⟩
    · exact (sb.2 p sep.TIz).trans (k1 p _ sep.TIz sep.TITO sep.TIi1 sep.TIi2 hp)
    · obtain ⟨o, g, r⟩ := ht1
      exact ⟨o, (sb.2 e ez).trans g, r⟩
    · obtain ⟨⟨o, g, r⟩, _⟩ := hr1
      exact ⟨o, (sb.2 f fz).trans g, r⟩
    · rw [upd_ne (Nat.ne_of_lt (sm b hb).1)]
      exact (fok b hb).1
  done := by
    intro X e1 e2 e3 calm i pins s σ H E I fok st ⟨xs, hx, l1, l2, past⟩
    subst e1 e2 e3
    obtain ⟨its, rv, isT, _⟩ := I.tuple hx
    obtain ⟨sep, hz, hp, ⟨v1, v2, hq⟩, ht, hr⟩ := st
    have nfa : a ≠ f := fun w => by
      obtain ⟨o, g, c, _⟩ := id hr
      obtain ⟨o2, g2, c2, _⟩ := id isT
      rw [← w, g2] at g
      cases g
      rw [c2] at c
      exact absurd (Value.type.inj c) (by decide)
    have sz : its.toArray.size = xs.length := by rw [List.size_toArray, rv.length]
    refine wpAny_pyNext_zipD2_end sep (Draws.text (A := X.A.in1) (I.ok.hd calm) e x t) (Draws.tuple (A := X.A.in1) (I.ok.hd calm) f a nfa its.toArray) hz hp hq ht ⟨hr, isT⟩ l1 (by rw [sz]; exact l2) (by rw [sz]; exact past) fun h1 tk k1 => ⟨rfl, ?_⟩
    exact I.turnedL (t' := tk) (ch := [z, p, q, e, f]) (fun b o nb g => k1 b o (fun w => nb (by simp [w])) (fun w => nb (by simp [w])) (fun w => nb (by simp [w])) (fun w => nb (by simp [w])) g) fok
  self A i s Q E st h := by
    exact wpAny_pyIter_zip st.zip_ h
def iZipS (K : PySem.W.Frag) (ta : TA) : TI := fun σ H R => ta σ H fun vs H1 => ∃ x a xs, vs = [.str x, .ref a] ∧ SqT K H1 a xs ∧ R (IzS K x a) H1
theorem pi_zipS {X : Cx} {e1 e2 : Expr} {ta : TA} {p pos tpos : PySem.Pos} {elts : List Expr} {kk : Nat} (gl : Gl X "zip") (mn : X.mg "zip" = none) (ha : PA X [e1, e2] ta) (hs : starEach [e1, e2] X.env = (false, eval e1 X.env) :: starEach [e2] X.env := by rfl) (hp : (backTo pos (starEach [e2] X.env)).any (·.1) = false := by rfl) : PI X (.Tuple elts kk tpos) (.Call (.Name "zip" p) [e1, e2] [] pos) (iZipS X.K ta) := by
  refine ⟨fun pins s σ H R I h => Call_ (ld_blt I gl mn boot_zip (PyProof.Rows.callWith_type1 (thn (ha.run pos pins s σ H _ I h) fun us s1 ⟨vs, G, I1, rv, x, a, xs, ev, hx, r⟩ => ?_) hs hp))⟩
  subst ev
  obtain ⟨u1, u2, rfl, r1, r2⟩ := vals2 rv
  obtain ⟨t, rfl⟩ := r1
  obtain rfl : u2 = Value.ref a := r2
  obtain ⟨its, rl, isT, _⟩ := I1.tuple hx
  have la : a < s1.heap.objs.size := by
    obtain ⟨o, g, _⟩ := id isT
    exact Heap.lt_size g
  refine zip_begins2 (begins_text x t) (begins_tuple a its.toArray) trivial isT fun h' hz hp hq g1 g2 sz kp => ?_
  have S : ZipSep2 (s1.heap.objs.size + 4) (s1.heap.objs.size + 2) (s1.heap.objs.size + 3) s1.heap.objs.size (s1.heap.objs.size + 1) [s1.heap.objs.size] [s1.heap.objs.size + 1, a] := zip_sep2 (fp1 := []) (fp2 := [a]) (fun b hb => nomatch hb) fun b hb => by rw [List.mem_singleton.mp hb]; exact la
  refine wpAny_pyIter_zip hz ⟨_, [s1.heap.objs.size + 4, s1.heap.objs.size + 2, s1.heap.objs.size + 3, s1.heap.objs.size, s1.heap.objs.size + 1], _, _, G, rfl, I1.kept (t' := s1.toks) kp, zipS_turn x t a _ _ _ _ _, ⟨S, hz, hp, ⟨_, _, hq⟩, ⟨_, g1, rfl, rfl⟩, ⟨_, g2, rfl, rfl⟩⟩, fun b hb => ?_, r⟩
  have young : s1.heap.objs.size ≤ b := by
    simp only [List.mem_cons, List.not_mem_nil, or_false] at hb
    rcases hb with rfl | rfl | rfl | rfl | rfl
    · exact Nat.le_add_right _ _
    · exact Nat.le_add_right _ _
    · exact Nat.le_add_right _ _
    · exact Nat.le_refl _
    · exact Nat.le_add_right _ _
  exact I1.fpOk young (I1.hok.fresh young)
theorem walk_zipS {K : PySem.W.Frag} {x : Str} {a : Addr} {xs : List V} (l : x.cps.size = xs.length) : Walk (IzS K x a) xs.length (fun H => SqT K H a xs) (YPair (fun i => (x.cps[i]?).map fun c => .str ⟨#[c]⟩) (fun i => xs[i]?)) :=
  ⟨fun i H lt q => ⟨xs, xs[i], q, by omega, List.getElem?_eq_getElem lt⟩, fun H q => ⟨xs, q, by omega, Nat.le_refl _, .inr rfl⟩, fun i H v H' _ q ⟨T, c, y, e1, e2, e3, e4, e5⟩ => ⟨T, _, _, e1, e2, e3, by show (x.cps[i]?).map _ = _; rw [e4]; rfl, e5 xs q⟩⟩
end CS
set_option Elab.async false
set_option maxRecDepth 100000
set_option maxHeartbeats 8000000
set_option linter.unusedVariables false
/-! dicts of a module's top, with text keys: read, copied -/
namespace CS
open PySem PySem.Spec PyProof.Rows L2
/-- at d stands a dict of the top: these keys, these values -/
def KD (P : Program) (w : World) (K : PySem.W.Frag) (d : Addr) (kvs : List (Key × V)) : Prop :=
  (d == sysModules) = false ∧ kvs.length ≤ sizeLine ∧ ∃ vs, KV kvs vs ∧ ∀ h : Heap, K.In h → h.DictOf (mixKind P w) d vs
theorem small1000' {n : Nat} (h : n ≤ 1000) : n < sizeLine := Nat.lt_of_le_of_lt h (by decide)
/-- its entries, as the top has them -/
def Ents (w : World) : List DictEntry → List (Str × V) → List (Key × Value) → Prop
  | [], [], [] => True
  | e :: es, (x, v) :: xs, (k, u) :: us => (∃ t, e.key = .str x t) ∧ e.hash = PyData.keyHash w.params x ∧ k = Sum.inr x ∧ u = e.val ∧ RelV v u ∧ Ents w es xs us
  | _, _, _ => False
section
variable {X : Cx}
theorem ix_kd {kvs : List (Key × V)} {d : Addr} (D : KD X.prog X.w X.K d kvs) : IxR X (fun x y H Q => ∃ (k : Key) (v : V), x = .ref d ∧ y = kV k ∧ valV kvs k = some v ∧ Q v H) := by
  intro value slice pins s σ H x y v u Q I rx ry h hs
  obtain ⟨k, z, rfl, rfl, l, q⟩ := h
  cases rx
  obtain ⟨lo, _, vs, rel, at_⟩ := D
  have dd := at_ s.heap I.kIn
  obtain ⟨w', hw, rw'⟩ := RelO.some_of (v := z) (o := valueAt vs k) (by rw [← l]; exact rel.val k)
  exact subscriptTail_builtinR (x := w') dd.mapOf.typeIs PySem.F.slot_dict_getitem.lookup (wpAny_getItem_of (kV_is ry) dd.mapOf hw ⟨rfl, ⟨z, H, I.tok _, rw', q⟩⟩) hs
theorem call_dictK {kvs : List (Key × V)} {d : Addr} (D : KD X.prog X.w X.K d kvs) : CallR X (.type "dict") (fun xs H Q => xs = [.ref d] ∧ ∀ p, H p = none → Q (.ref p) (upd H p (.dK kvs))) := by
  intro pins s σ H xs us Q I r q
  obtain ⟨rfl, q⟩ := q
  obtain ⟨u, rfl, ru⟩ := vals1 r
  cases ru
  obtain ⟨lo, z, vs, rel, at_⟩ := D
  refine kt_call_dict lo (at_ s.heap I.kIn) (by rw [← rel.length]; exact z) fun h' d' sb => ?_
  have new : (s.heap.objs.size == sysModules) = false := beq_eq_false_iff_ne.mpr (Nat.ne_of_gt I.big)
  exact ⟨.ref s.heap.objs.size, _, I.laid (t' := s.toks) (fun b u e => (sb.2 b (Nat.ne_of_lt (Heap.lt_size e))).trans (Heap.get?_push_of_some _ e)) (Nat.le_refl _) (o := .dK kvs) ⟨z, new, vs, rel, d'⟩, rfl, q _ (I.hok.fresh (Nat.le_refl _))⟩
end
theorem ents_kv {w : World} : ∀ {es : List DictEntry} {xs : List (Str × V)} {us : List (Key × Value)}, Ents w es xs us → KV (xs.map fun p => ((Sum.inr p.1 : Key), p.2)) us
  | [], [], [], _ => .nil
  | _ :: _, (x, v) :: xs, (k, u) :: us, ⟨_, _, e1, _, r, t⟩ => .cons ⟨e1.symm, r⟩ (ents_kv t)
  | [], _ :: _, _, h => h.elim
  | [], [], _ :: _, h => h.elim
  | _ :: _, [], _, h => h.elim
  | _ :: _, _ :: _, [], h => h.elim
theorem ents_pairs {P : Program} {w : World} : ∀ {es : List DictEntry} {xs : List (Str × V)} {us : List (Key × Value)}, Ents w es xs us → Pairs (mixKind P w) es us ∧ ∀ e ∈ es, ∃ k, (mixKind P w).is k e.key = true ∧ e.hash = (mixKind P w).hash k
  | [], [], [], _ => ⟨.nil, fun e h => nomatch h⟩
  | e :: es, (x, v) :: xs, (k, u) :: us, ⟨⟨t, ek⟩, eh, e1, e2, r, m⟩ => by
    obtain ⟨a, b⟩ := ents_pairs (P := P) m
    have is_ : (mixKind P w).is k e.key = true := by
      rw [e1, ek]
      exact kV_is (P := P) (w := w) (k := (Sum.inr x : Key)) (u := .str x t) ⟨t, rfl⟩
    refine ⟨.cons is_ e2.symm a, fun e' he => ?_⟩
    rcases List.mem_cons.mp he with rfl | he
    · exact ⟨k, is_, by rw [eh, e1]; rfl⟩
    · exact b e' he
  | [], _ :: _, _, h => h.elim
  | [], [], _ :: _, h => h.elim
  | _ :: _, [], _, h => h.elim
  | _ :: _, _ :: _, [], h => h.elim
/-- a dict of the top, by its entries -/
theorem kd_of {P : Program} {w : World} {K : PySem.W.Frag} {d : Addr} {es : Array DictEntry} {n : Nat} {xs : List (Str × V)} {us : List (Key × Value)} (low : (d == sysModules) = false) (at_ : K.lookup d = some ⟨.type "dict", none, .dict es n, #[]⟩) (en : Ents w es.toList xs us) (nd : (xs.map (·.1)).Nodup) (few : xs.length ≤ 1000) :
    KD P w K d (xs.map fun p => ((Sum.inr p.1 : Key), p.2)) := by
  have kv := ents_kv en
  obtain ⟨pr, ks⟩ := ents_pairs (P := P) en
  refine ⟨low, by rw [List.length_map]; exact Nat.le_of_lt (small1000' few), us, kv, fun h KI => ⟨_, es, n, KI _ _ at_, ⟨rfl, rfl, rfl⟩, rfl, fun e he => ks e (Array.mem_toList_iff.mpr he), pr, ?_⟩⟩
  have e1 := kv.keys
  rw [← e1, List.map_map]
  have e2 : xs.map ((fun x => x.1) ∘ fun p => ((Sum.inr p.1 : Key), p.2)) = (xs.map (·.1)).map (Sum.inr : Str → Key) := by rw [List.map_map]; rfl
  rw [e2]
  exact List.Pairwise.map _ (fun a b ne e => ne (Sum.inr.inj e)) nd
end CS
set_option Elab.async false
set_option maxRecDepth 100000
set_option maxHeartbeats 8000000
set_option linter.unusedVariables false
set_option pp.maxSteps 400
/-! days -/
namespace CS
open PySem L2 RZ
theorem ip_mul {X : Cx} : PIp X .Mult (fun x y H Q => ∃ i j, x = .int i ∧ y = .int j ∧ CMul i j ∧ Q (.int (i * j)) H) := by
  intro pins s σ H x y v u Q I r1 r2 h
  obtain ⟨i, j, rfl, rfl, c, q⟩ := h
  obtain ⟨t, rfl⟩ := r1
  obtain ⟨t', rfl⟩ := r2
  exact PySem.P.imul_int ⟨.int _, H, I.tok _, ⟨_, rfl⟩, q⟩ c.ok
theorem cutT_to {α : Type} (xs : List α) (j : Nat) : cutD xs none (some (j : Int)) = xs.take j := by
  unfold cutD
  rw [HT.sIx_none, HT.sIx_nat, List.drop_zero, Nat.sub_zero]
  by_cases h : j ≤ xs.length
  · rw [Nat.min_eq_left h]
  · rw [Nat.min_eq_right (by omega), List.take_length, List.take_of_length_le (by omega)]
theorem cutT_from {α : Type} (xs : List α) (j : Nat) : cutD xs (some (j : Int)) none = xs.drop j := by
  unfold cutD
  rw [HT.sIx_none, HT.sIx_nat]
  by_cases h : j ≤ xs.length
  · rw [Nat.min_eq_left h]
    exact List.take_of_length_le (by rw [List.length_drop]; omega)
  · rw [Nat.min_eq_right (by omega), List.drop_length, List.drop_of_length_le (by omega), List.take_nil]
theorem walk_zipT {K : PySem.W.Frag} {a b : Addr} {xs ys : List V} {n : Nat} (hn : n = min xs.length ys.length) : Walk (ItzT K a b) n (fun H => SqT K H a xs ∧ SqT K H b ys) (YPair (fun i => xs[i]?) (fun i => ys[i]?)) := by
  subst hn
  refine ⟨fun i H lt q => ?_, fun H q => ⟨xs, ys, q.1, q.2, by omega⟩, fun i H v H' _ q ⟨T, x, y, e1, e2, e3, e4, e5⟩ => ⟨T, x, y, e1, e2, e3, e4 xs q.1, e5 ys q.2⟩⟩
  exact ⟨xs, ys, xs[i], ys[i], q.1, q.2, List.getElem?_eq_getElem (by omega), List.getElem?_eq_getElem (by omega)⟩
section
variable {P : Program} {w : World} {K : PySem.W.Frag} {mg : Str → Option Value} {base : Heap}
def spAscT (K : PySem.W.Frag) : Sp := fun vs H Q _ => ∃ (a : Addr) (ns : List Int), vs = [.ref a] ∧ SqT K H a (ns.map V.int) ∧ ns.length ≤ 900 ∧ ∀ H', Same H H' → Q (.bl (decide (ns.Pairwise (· < ·)))) H'
def prodL (ds : Dys) : Int := (((ds.map List.length).foldl (· * ·) 1 : Nat) : Int)
def spCount (K : PySem.W.Frag) : Sp := fun vs H Q _ => ∃ v ds, vs = [v] ∧ Dp K H v (dysD ds) ∧ ds.length ≤ 4 ∧ (∀ r ∈ ds, r.length ≤ 8) ∧ Q (.int (prodL ds)) H
end
end CS
set_option Elab.async false
set_option maxRecDepth 100000
set_option maxHeartbeats 8000000
set_option linter.unusedVariables false
/-! papers by words, of any sort: terms, mixes -/
namespace CS
open PySem L2
/-- where a kind is S, among the first i -/
def plcG (s : Str) (i : Nat) : List Int := (List.range i).filterMap fun j => match s.cps[j]? with
  | some c => if (⟨#[c]⟩ : Str) = "S" then some (((1 + j : Nat) : Nat) : Int) else none
  | none => none
theorem plcG_succ (s : Str) (i : Nat) : plcG s (i + 1) = plcG s i ++ (match s.cps[i]? with
  | some c => if (⟨#[c]⟩ : Str) = "S" then [(((1 + i : Nat) : Nat) : Int)] else []
  | none => []) := by
  unfold plcG
  rw [List.range_succ, List.filterMap_append]
  congr 1
  cases e : s.cps[i]? with
  | none => simp [e]
  | some c =>
    by_cases h : (⟨#[c]⟩ : Str) = "S"
    · simp [e, h]
    · simp [e, h]
theorem plcG_le (s : Str) (i : Nat) : (plcG s i).length ≤ i := by
  unfold plcG
  exact Nat.le_trans (List.length_filterMap_le _ _) (by simp)
/-- the bounds of a kind -/
def bndG (c : Nat) : Option (Int × Int) := if c = 78 then some (-1000, 1000) else if c = 68 then some (0, 3) else if c = 88 then some (-100, 100) else if c = 65 then some (1, 1000) else if c = 77 then some (-200, 200) else none
def FitG (c : Nat) (d : PyData) : Prop := c = 83 ∨ ∃ lo hi n, bndG c = some (lo, hi) ∧ d = .int n ∧ lo ≤ n ∧ n ≤ hi
def FitGV (c : Nat) (v : V) : Prop := c = 83 ∨ ∃ lo hi n, bndG c = some (lo, hi) ∧ v = .int n ∧ lo ≤ n ∧ n ≤ hi
/-- the order of the integers behind two of the words -/
def OrdG (w : Str) (ds : List PyData) : Prop := (w = "spread" → ∃ s a b c, ds = [s, .int a, .int b, .int c] ∧ b < a ∧ a < c) ∧ (w = "drawn" → ∃ s a b, ds = [s, .int a, .int b] ∧ a ≤ b)
class WTree (α : Type) where
  toD : α → PyData
  word : α → Str
  shape : α → Str
  rest : α → List PyData
  kids : α → List (Nat × α)
  words : α → Nat
  height : α → Nat
  Ok : α → Prop
  kv : List (Key × V)
  toD_eq : ∀ t : α, toD t = .tuple (.str (word t) :: rest t)
  flat : ∀ t : α, flatD (toD t) = true
  shape_len : ∀ t : α, (shape t).cps.size = (rest t).length
  shape_four : ∀ t : α, (shape t).cps.size ≤ 4
  places : ∀ t : α, plcG (shape t) (shape t).cps.size = (kids t).map fun k => (k.1 : Int)
  kids_at : ∀ t : α, ∀ k ∈ kids t, (PyData.str (word t) :: rest t)[k.1]? = some (toD k.2)
  kids_height : ∀ t : α, ∀ k ∈ kids t, height k.2 < height t
  kids_ok : ∀ t : α, Ok t → ∀ k ∈ kids t, Ok k.2
  kids_words : ∀ t : α, ((kids t).map fun k => words k.2).sum + 1 = words t
  height_pos : ∀ t : α, 1 ≤ height t
  fits : ∀ (t : α), Ok t → ∀ (i c : Nat) (d : PyData), (shape t).cps[i]? = some c → (rest t)[i]? = some d → FitG c d
  order : ∀ t : α, Ok t → OrdG (word t) (rest t)
  kv_at : ∀ t : α, valV kv (Sum.inr (word t)) = some (.str (shape t))
namespace WTree
variable {α : Type} [WTree α]
theorem words_pos (t : α) : 1 ≤ words t := by
  have := kids_words t
  omega
theorem restFlat (t : α) : flatDs (rest t) = true := by
  have := flat t
  rw [toD_eq] at this
  simpa [flatD, flatDs] using this
end WTree
end CS
set_option Elab.async false
set_option maxRecDepth 100000
set_option maxHeartbeats 8000000
set_option linter.unusedVariables false
set_option pp.maxSteps 6000
/-! words and their shapes -/
namespace CS
open PySem L2 RZ
open WTree
theorem pi_enumS1 {X : Cx} {e : Expr} {ta : TA} {p pos tpos kp cp : PySem.Pos} {j : Nat} {n : Int} {elts : List Expr} {kk : Nat} (gl : Gl X "enumerate") (mn : X.mg "enumerate" = none) (ha : PA X [e] ta)
    (hs : starEach [e] X.env = [(false, eval e X.env)] := by rfl) : PI X (.Tuple elts kk tpos) (.Call (.Name "enumerate" p) [e] [⟨some "start", (.Constant (.int n) j cp), kp⟩] pos) (iEnS ta (tC (.int n))) := pi_enumS gl mn ha pe_int hs
section
variable {P : Program} {w : World} {K : PySem.W.Frag} {mg : Str → Option Value} {base : Heap}
def spPlaces (K : PySem.W.Frag) : Sp := fun vs H Q _ => ∃ s : Str, vs = [.str s] ∧ s.cps.size ≤ 9 ∧ ∀ D H', Same H H' → SqL K H' D ((plcG s s.cps.size).map V.int) → Q (.ref D) H'
abbrev nsKidPlaces : List Str := ["shape", "at", "kind"]
theorem scKidPlaces : FnScope nsKidPlaces ["shape"] (defScope sKidPlaces) := ⟨rfl, rfl, rfl, by decide +kernel, rfl, by decide +kernel, by decide +kernel⟩
theorem ok_kid_places {f : Addr} {fd : FuncData} (F : Df K mg "kid_places" sKidPlaces ["shape"] f fd)
    {tK : Tok} (gK : mg "KID" = some (.str "S" tK)) (T : Bt mg) (menumerate : mg "enumerate" = none) : FnOk P w K mg base CX0 1 f fd ["shape"] (spPlaces K) := by
  refine F.F.ok scKidPlaces (fun vs H Q E h => ?_) (fun cdv A outer s H vs Q E hr h => ?_)
  · obtain ⟨s, rfl, _⟩ := h
    rfl
  · obtain ⟨s, rfl, l9, k⟩ := h
    refine ⟨_, (pss_one (ps_ret (pe_lc (own := [("at", 1), ("kind", 2)]) (g := gTup K 2 (gCons (gName 1) (gCons (gName 2) gNil))) (tt := _) rfl scKidPlaces.nd (pi_enumS1 (by rfl) menumerate (pa_cons (pv 0) pa_nil)) (blkOk_by (N := nsKidPlaces) (sc := defScope sKidPlaces) (by decide +kernel)) (fun _ _ _ _ _ => pg_tup rfl (pgs_cons (pg_name (i := 1) scKidPlaces.nd rfl (Or.inl rfl)) (pgs_cons (pg_name (i := 2) scKidPlaces.nd rfl (Or.inl rfl)) pgs_nil))) (fun _ _ _ _ _ => pts_one (pt_cmpR op_eq (pv 2) (pe_glob (v := .str "S") (by rfl) gK ⟨_, rfl⟩) (nomark _))) (fun _ _ _ _ _ => (pv 1))))), ?_⟩
    refine ⟨_, rfl, s, rfl, 1, rfl, by decide, by decide, fun D nD => lc_it (walk_enS (x := s) (k := 1)) (fun i H' => H' D = some (.lst ((plcG s i).map V.int)) ∧ Same H H') ⟨upd_same, Same.new nD⟩ (fun _ _ _ _ => trivial) ?_ ?_⟩
    · rintro i v H2 H3 hi ⟨h1, s2⟩ ⟨t, x, y, rfl, ht, rfl, hx, hy⟩
      obtain rfl : V.int _ = x := Option.some.inj hx
      obtain ⟨c, hc, rfl⟩ := Option.map_eq_some_iff.mp hy
      have k2 := Same.new (o := .tup [V.int (1 + (i : Nat)), V.str ⟨#[c]⟩]) ht
      refine ⟨t, _, rfl, SqT.of upd_same, rfl, _, _, rfl, _, _, rfl, rfl, rfl, ?_⟩
      have lp := plcG_le s i
      refine ⟨_, rfl, rfl, _, rfl, ?_⟩
      by_cases h : (⟨#[c]⟩ : Str) = "S"
      · refine iteTe (decide_eq_true (by rw [h])) ⟨_, rfl, _, k2 _ _ h1, small1000 (by rw [List.length_map]; omega), ?_, same_upd nD (s2.trans k2)⟩
        rw [upd_same, plcG_succ, hc, List.map_append]
        simp only [h, if_true]
        rfl
      · refine iteFe (decide_eq_false fun z => h (V.str.inj z)) ⟨?_, s2.trans k2⟩
        rw [plcG_succ, hc]
        simp only [h, if_false, List.append_nil]
        exact k2 _ _ h1
    · rintro H2 ⟨h1, s2⟩
      exact k _ _ s2 (SqL.of h1)
/-- the bounds of the kinds -/
abbrev bndKV (aN aD aX aA aM : Addr) : List (Key × V) := [(Sum.inr "N", .ref aN), (Sum.inr "D", .ref aD), (Sum.inr "X", .ref aX), (Sum.inr "A", .ref aA), (Sum.inr "M", .ref aM)]
def spMayG : Sp := fun vs H Q _ => ∃ c v, vs = [.str ⟨#[c]⟩, v] ∧ FitGV c v ∧ Q (.bl true) H
abbrev nsMayStand : List Str := ["kind", "thing", "least", "most"]
theorem scMayStand : FnScope nsMayStand ["kind", "thing"] (defScope sMayStand) := ⟨rfl, rfl, rfl, by decide +kernel, rfl, by decide +kernel, by decide +kernel⟩
theorem ok_may_stand {f : Addr} {fd : FuncData} (F : Df K mg "may_stand" sMayStand ["kind", "thing"] f fd)
    {f1 : Addr} {fd1 : FuncData} (D1 : Df K mg "is_whole_within" sIsWholeWithin ["thing", "least", "most"] f1 fd1) (G1 : FnOk P w K mg base CX0 2 f1 fd1 ["thing", "least", "most"] (spWW))
    {tK : Tok} (gK : mg "KID" = some (.str "S" tK)) {aB aN aD aX aA aM : Addr} (gB : mg "BOUNDS" = some (.ref aB)) (BD : KD P w K aB (bndKV aN aD aX aA aM)) (hN : ∀ H, SqT K H aN [.int (-1000), .int 1000]) (hD : ∀ H, SqT K H aD [.int 0, .int 3]) (hX : ∀ H, SqT K H aX [.int (-100), .int 100]) (hA : ∀ H, SqT K H aA [.int 1, .int 1000]) (hM : ∀ H, SqT K H aM [.int (-200), .int 200]) (T : Bt mg) : FnOk P w K mg base CX0 3 f fd ["kind", "thing"] (spMayG) := by
  refine F.F.ok scMayStand (fun vs H Q E h => ?_) (fun cdv A outer s H vs Q E hr h => ?_)
  · obtain ⟨c, v, rfl, _⟩ := h
    rfl
  · obtain ⟨c, v, rfl, fit, k⟩ := h
    refine ⟨_, (pss_cons (ps_if (pt_cmpR op_eq (pv 0) (pe_glob (v := .str "S") (by rfl) gK ⟨_, rfl⟩) (nomark _)) (pss_one (ps_ret pe_bl)) pss_nil)
      (pss_cons (ps_asg (pe_ix (ix_kd BD) (pe_glob (v := .ref aB) (by rfl) gB rfl) (pv 0) (fun _ _ => rfl)) (pg_tup rfl (pgs_cons (pg_name (i := 2) scMayStand.nd rfl (Or.inl rfl)) (pgs_cons (pg_name (i := 3) scMayStand.nd rfl (Or.inl rfl)) pgs_nil))))
      (pss_one (ps_ret (pe_call G1 (hr.mono (by decide)) (by rfl) D1.g D1.F.kp D1.b .nil pass0 (pa_cons (pv 1) (pa_cons (pv 2) (pa_cons (pv 3) pa_nil)))))))), ?_⟩
    rcases fit with rfl | ⟨lo, hi, n, hb, rfl, ok⟩
    · exact ⟨_, rfl, rfl, _, rfl, iteTe (by decide +kernel) k⟩
    unfold bndG at hb
    by_cases c78 : c = 78
    · subst c78
      cases hb
      refine ⟨_, rfl, rfl, _, rfl, iteFe (by decide +kernel) ⟨_, rfl, Sum.inr "N", .ref aN, rfl, rfl, by rfl, aN, _, rfl, hN H, rfl, _, _, rfl, _, _, rfl, rfl, _, rfl, _, rfl, _, rfl, n, _, _, rfl, ?_⟩⟩
      rw [decide_eq_true ok]
      exact k
    rw [if_neg c78] at hb
    by_cases c68 : c = 68
    · subst c68
      cases hb
      refine ⟨_, rfl, rfl, _, rfl, iteFe (by decide +kernel) ⟨_, rfl, Sum.inr "D", .ref aD, rfl, rfl, by rfl, aD, _, rfl, hD H, rfl, _, _, rfl, _, _, rfl, rfl, _, rfl, _, rfl, _, rfl, n, _, _, rfl, ?_⟩⟩
      rw [decide_eq_true ok]
      exact k
    rw [if_neg c68] at hb
    by_cases c88 : c = 88
    · subst c88
      cases hb
      refine ⟨_, rfl, rfl, _, rfl, iteFe (by decide +kernel) ⟨_, rfl, Sum.inr "X", .ref aX, rfl, rfl, by rfl, aX, _, rfl, hX H, rfl, _, _, rfl, _, _, rfl, rfl, _, rfl, _, rfl, _, rfl, n, _, _, rfl, ?_⟩⟩
      rw [decide_eq_true ok]
      exact k
    rw [if_neg c88] at hb
    by_cases c65 : c = 65
    · subst c65
      cases hb
      refine ⟨_, rfl, rfl, _, rfl, iteFe (by decide +kernel) ⟨_, rfl, Sum.inr "A", .ref aA, rfl, rfl, by rfl, aA, _, rfl, hA H, rfl, _, _, rfl, _, _, rfl, rfl, _, rfl, _, rfl, _, rfl, n, _, _, rfl, ?_⟩⟩
      rw [decide_eq_true ok]
      exact k
    rw [if_neg c65] at hb
    by_cases c77 : c = 77
    · subst c77
      cases hb
      refine ⟨_, rfl, rfl, _, rfl, iteFe (by decide +kernel) ⟨_, rfl, Sum.inr "M", .ref aM, rfl, rfl, by rfl, aM, _, rfl, hM H, rfl, _, _, rfl, _, _, rfl, rfl, _, rfl, _, rfl, _, rfl, n, _, _, rfl, ?_⟩⟩
      rw [decide_eq_true ok]
      exact k
    rw [if_neg c77] at hb
    cases hb
theorem ati0 {x : V} {xs : List V} : atI (x :: xs) 0 = some x := atI_nat (j := 0) rfl
def spOrder (K : PySem.W.Frag) : Sp := fun vs H Q _ => ∃ p x xs ds, vs = [.ref p] ∧ SqT K H p (.str x :: xs) ∧ DpAll K H xs ds ∧ OrdG x ds ∧ Q (.bl true) H
abbrev nsIsInOrder : List Str := ["thing"]
theorem scIsInOrder : FnScope nsIsInOrder ["thing"] (defScope sIsInOrder) := ⟨rfl, rfl, rfl, by decide +kernel, rfl, by decide +kernel, by decide +kernel⟩
theorem ok_is_in_order {f : Addr} {fd : FuncData} (F : Df K mg "is_in_order" sIsInOrder ["thing"] f fd) : FnOk P w K mg base CX0 1 f fd ["thing"] (spOrder K) := by
  refine F.F.ok scIsInOrder (fun vs H Q E h => ?_) (fun cdv A outer s H vs Q E hr h => ?_)
  · obtain ⟨p, x, xs, ds, rfl, _⟩ := h
    rfl
  · obtain ⟨p, x, xs, ds, rfl, hp, hx, od, k⟩ := h
    refine ⟨_, (pss_cons (ps_if (pt_cmpR op_eq (pe_ix ix_tup (pv 0) pe_int (fun _ _ => rfl)) pe_str (nomark _)) (pss_one (ps_ret (pe_and (pe_cmpR op_lt (pe_ix ix_tup (pv 0) pe_int (fun _ _ => rfl)) (pe_ix ix_tup (pv 0) pe_int (fun _ _ => rfl)) (nomark _)) (pe_one (pe_cmpR op_lt (pe_ix ix_tup (pv 0) pe_int (fun _ _ => rfl)) (pe_ix ix_tup (pv 0) pe_int (fun _ _ => rfl)) (nomark _)))))) pss_nil)
      (pss_cons (ps_if (pt_cmpR op_eq (pe_ix ix_tup (pv 0) pe_int (fun _ _ => rfl)) pe_str (nomark _)) (pss_one (ps_ret (pe_cmpR op_le (pe_ix ix_tup (pv 0) pe_int (fun _ _ => rfl)) (pe_ix ix_tup (pv 0) pe_int (fun _ _ => rfl)) (nomark _)))) pss_nil)
      (pss_one (ps_ret pe_bl)))), ?_⟩
    refine ⟨_, rfl, p, _, 0, _, rfl, rfl, hp, ati0, rfl, _, rfl, ?_⟩
    by_cases c1 : x = "spread"
    · obtain ⟨s, a, b, c, rfl, h1, h2⟩ := od.1 c1
      obtain ⟨y2, g2, d2⟩ := DpAll.at (i := 1) hx rfl
      obtain ⟨y3, g3, d3⟩ := DpAll.at (i := 2) hx rfl
      obtain ⟨y4, g4, d4⟩ := DpAll.at (i := 3) hx rfl
      cases d2
      cases d3
      cases d4
      refine iteTe (decide_eq_true (by rw [c1])) ⟨_, rfl, p, _, 3, _, rfl, rfl, hp, atI_nat (j := 3) (by simpa using g3), _, rfl, p, _, 2, _, rfl, rfl, hp, atI_nat (j := 2) (by simpa using g2), _, _, rfl, rfl, true, by show V.bl (decide (b < a)) = V.bl true; rw [decide_eq_true h1], iteT ⟨_, rfl, p, _, 2, _, rfl, rfl, hp, atI_nat (j := 2) (by simpa using g2), _, rfl, p, _, 4, _, rfl, rfl, hp, atI_nat (j := 4) (by simpa using g4), _, _, rfl, rfl, ?_⟩⟩
      show Q (V.bl (decide (a < c))) H
      rw [decide_eq_true h2]
      exact k
    · refine iteFe (decide_eq_false fun z => c1 (V.str.inj z)) ⟨_, rfl, p, _, 0, _, rfl, rfl, hp, ati0, rfl, _, rfl, ?_⟩
      by_cases c2 : x = "drawn"
      · obtain ⟨s, a, b, rfl, h1⟩ := od.2 c2
        obtain ⟨y2, g2, d2⟩ := DpAll.at (i := 1) hx rfl
        obtain ⟨y3, g3, d3⟩ := DpAll.at (i := 2) hx rfl
        cases d2
        cases d3
        refine iteTe (decide_eq_true (by rw [c2])) ⟨_, rfl, p, _, 2, _, rfl, rfl, hp, atI_nat (j := 2) (by simpa using g2), _, rfl, p, _, 3, _, rfl, rfl, hp, atI_nat (j := 3) (by simpa using g3), _, _, rfl, rfl, ?_⟩
        show Q (V.bl (decide (a ≤ b))) H
        rw [decide_eq_true h1]
        exact k
      · exact iteFe (decide_eq_false fun z => c2 (V.str.inj z)) k
variable {α : Type} [WTree α]
/-- a paper, taken apart -/
theorem tree_at {H : Hp} {v : V} {t : α} (h : Dp K H v (toD t)) : ∃ a xs, v = .ref a ∧ SqT K H a (.str (word t) :: xs) ∧ DpAll K H xs (rest t) := by
  rw [toD_eq] at h
  obtain ⟨a, xs, rfl, hs, ha⟩ := h.tup_inv
  cases ha with
  | cons h1 h2 =>
    cases h1
    exact ⟨a, _, rfl, hs, h2⟩
theorem fitsV {H : Hp} {t : α} {xs : List V} (ok : WTree.Ok t) (h : DpAll K H xs (rest t)) : ∀ (i c : Nat) (v : V), (shape t).cps[i]? = some c → xs[i]? = some v → FitGV c v := by
  intro i c v hc hx
  obtain ⟨d, hd, dv⟩ := DpAll.get h hx
  rcases fits t ok i c d hc hd with e | ⟨lo, hi, n, e, rfl, o⟩
  · exact .inl e
  · cases dv
    exact .inr ⟨lo, hi, n, e, rfl, o⟩
def spFormedG (α : Type) [WTree α] (K : PySem.W.Frag) : Sp := fun vs H Q _ => ∃ v s, ∃ t : α, vs = [v, .ref s] ∧ H s = some (.dK (kv α)) ∧ Dp K H v (toD t) ∧ WTree.Ok t ∧ ∀ H', Same H H' → Q (.bl true) H'
abbrev nsIsFormed : List Str := ["thing", "shapes", "shape", "kind", "item"]
theorem scIsFormed : FnScope nsIsFormed ["thing", "shapes"] (defScope sIsFormed) := ⟨rfl, rfl, rfl, by decide +kernel, rfl, by decide +kernel, by decide +kernel⟩
theorem ok_is_formed {f : Addr} {fd : FuncData} (F : Df K mg "is_formed" sIsFormed ["thing", "shapes"] f fd)
    {f1 : Addr} {fd1 : FuncData} (D1 : Df K mg "is_in_order" sIsInOrder ["thing"] f1 fd1) (G1 : FnOk P w K mg base CX0 1 f1 fd1 ["thing"] (spOrder K))
    {f2 : Addr} {fd2 : FuncData} (D2 : Df K mg "may_stand" sMayStand ["kind", "thing"] f2 fd2) (G2 : FnOk P w K mg base CX0 3 f2 fd2 ["kind", "thing"] (spMayG))
    {f3 : Addr} {fd3 : FuncData} (D3 : Df K mg "is_word" sIsWord ["thing"] f3 fd3) (G3 : FnOk P w K mg base CX0 1 f3 fd3 ["thing"] (spD1 K wordD))
    {f4 : Addr} {fd4 : FuncData} (D4 : Df K mg "is_row" sIsRow ["thing"] f4 fd4) (G4 : FnOk P w K mg base CX0 1 f4 fd4 ["thing"] (spD1 K rowD))
    (T : Bt mg) : FnOk P w K mg base CX0 4 f fd ["thing", "shapes"] (spFormedG α K) := by
  refine F.F.ok scIsFormed (fun vs H Q E h => ?_) (fun cdv A outer s H vs Q E hr h => ?_)
  · obtain ⟨v, d, t, rfl, _⟩ := h
    rfl
  · obtain ⟨v, d, t, rfl, hd, hv, ok, k⟩ := h
    have hu := hu_of hr
    refine ⟨_, (pss_cons (ps_if (PW.pt (pw_or (pt_not (pt_val (pe_call G4 (hr.mono (by decide)) (by rfl) D4.g D4.F.kp D4.b .nil pass0 (pa_cons (pv 0) pa_nil)))) (pw_or (pt_cmpR op_eq (pe_callB call_len_seq (by rfl) T.len PySem.boot_len (pa_cons (pv 0) pa_nil)) pe_int (nomark _)) (pw_or (pt_not (pt_val (pe_call G3 (hr.mono (by decide)) (by rfl) D3.g D3.F.kp D3.b .nil pass0 (pa_cons (pe_ix ix_tup (pv 0) pe_int (fun _ _ => rfl)) pa_nil)))) (pw_or1 (pt_cmp (pc_dnotin hu (pe_ix ix_tup (pv 0) pe_int (fun _ _ => rfl)) (pv 1)))))))) (pss_one (ps_ret pe_bl)) pss_nil)
      (pss_cons (ps_set (i := 2) scIsFormed.nd rfl (Or.inl rfl) (pe_dget hu (pv 1) (pe_ix ix_tup (pv 0) pe_int (fun _ _ => rfl)) (fun _ _ => rfl)))
      (pss_cons (ps_if (pt_cmpR op_ne (pe_callB call_len_seq (by rfl) T.len PySem.boot_len (pa_cons (pv 0) pa_nil)) (pe_op op_add pe_int (pe_callB call_len_str (by rfl) T.len PySem.boot_len (pa_cons (pv 2) pa_nil))) (nomark _)) (pss_one (ps_ret pe_bl)) pss_nil)
      (pss_one (ps_ret (pe_and (pe_callB (cr_all rfl) (by rfl) T.all (by decide +kernel) (pa_cons (pe_lc (own := [("kind", 3), ("item", 4)]) (g := gTup K 2 (gCons (gName 3) (gCons (gName 4) gNil))) (tt := tYes) rfl scIsFormed.nd (pi_zipS (by rfl) T.zip (pa_cons (pv 2) (pa_cons (pe_slice sl_any (pv 0) (po_some pe_int) po_none) pa_nil))) (blkOk_by (N := nsIsFormed) (sc := defScope sIsFormed) (by decide +kernel)) (fun _ _ _ _ _ => pg_tup rfl (pgs_cons (pg_name (i := 3) scIsFormed.nd rfl (Or.inl rfl)) (pgs_cons (pg_name (i := 4) scIsFormed.nd rfl (Or.inl rfl)) pgs_nil))) (fun _ _ _ _ _ => pts_nil) (fun _ _ _ _ _ => (pe_call G2 (hr.mono (by decide)) (by rfl) D2.g D2.F.kp D2.b .nil pass0 (pa_cons (pv 3) (pa_cons (pv 4) pa_nil))))) pa_nil)) (pe_one (pe_call G1 (hr.mono (by decide)) (by rfl) D1.g D1.F.kp D1.b .nil pass0 (pa_cons (pv 0) pa_nil))))))))), ?_⟩
    obtain ⟨a, xs, rfl, hs, hx⟩ := tree_at hv
    have lx := hx.len
    have ls := shape_len t
    have s4 := shape_four t
    have gd : DGet H d (.str (word t)) (some (.str (shape t))) := by
      have := DGet.k (k := Sum.inr (word t)) hd
      rw [kv_at] at this
      exact this
    have hv2 := hv
    rw [toD_eq] at hv2
    refine ⟨_, rfl, .ref a, _, rfl, hv2, _, rfl, iteF ?_⟩
    refine ⟨_, rfl, a, _, rfl, .inr hs, rfl, _, rfl, ?_⟩
    rw [dec_int]
    refine iteFe (beq_eq_false_iff_ne.mpr (by rw [List.length_cons]; omega)) ⟨_, rfl, a, _, 0, _, rfl, rfl, hs, ati0, .str (word t), .str (word t), rfl, .str _, _, rfl, iteF ⟨_, rfl, a, _, 0, _, rfl, rfl, hs, ati0, _, rfl, d, _, rfl, gd, _, rfl, iteF ?_⟩⟩
    refine ⟨_, rfl, _, rfl, a, _, 0, _, rfl, rfl, hs, ati0, d, _, rfl, gd, ?_⟩
    refine ⟨_, rfl, a, _, rfl, .inr hs, _, rfl, (shape t), rfl, Nat.le_trans s4 (by decide), _, _, rfl, rfl, rfl, _, rfl, iteFe ?_ ?_⟩
    · rw [dec_int, beq_iff_eq.mpr]
      · rfl
      · rw [List.length_cons, lx, ← ls]
        show _ = 1 + (((shape t).cps.size : Nat) : Int)
        omega
    refine ⟨_, rfl, _, rfl, 1, rfl, a, _, rfl, hs, fun H1 b s1 hB => ?_⟩
    rw [show (1 : Int) = ((1 : Nat) : Int) from rfl, cutT_from] at hB
    have hB2 : SqT K H1 b xs := hB
    refine ⟨(shape t), b, _, rfl, hB2, fun D nD => lc_it (walk_zipS (x := (shape t)) (a := b) (xs := xs) (by omega)) (fun i H' => H' D = some (.lst ((List.replicate i true).map V.bl)) ∧ Same H1 H') ⟨upd_same, Same.new nD⟩ (fun i H' _ ⟨_, s2⟩ => s2.tup hB2) ?_ ?_⟩
    · rintro i v H2 H3 hi ⟨h1, s2⟩ ⟨t', x, y, rfl, ht, rfl, hx1, hy⟩
      obtain ⟨c, hc, rfl⟩ := Option.map_eq_some_iff.mp hx1
      have k2 := Same.new (o := .tup [V.str ⟨#[c]⟩, y]) ht
      refine ⟨t', _, rfl, SqT.of upd_same, rfl, _, _, rfl, _, _, rfl, rfl, rfl, ?_⟩
      dsimp only [tYes]
      rw [if_pos rfl]
      refine ⟨_, rfl, _, rfl, c, y, rfl, fitsV ok hx i c y hc hy, _, k2 _ _ h1, small1000 (by rw [List.length_map, List.length_replicate]; omega), ?_, same_upd nD (s2.trans k2)⟩
      rw [upd_same, List.replicate_succ', List.map_append]
      rfl
    · rintro H2 ⟨h1, s2⟩
      have s3 := s1.trans s2
      exact ⟨D, _, rfl, SqL.of h1, true, by simp, iteT ⟨_, rfl, a, (word t), xs, _, rfl, s3.tup hs, DpAll.same s3 hx, order t ok, k _ s3⟩⟩
end
end CS
set_option Elab.async false
set_option maxRecDepth 100000
set_option maxHeartbeats 8000000
set_option linter.unusedVariables false
set_option pp.maxSteps 5000
/-! places of whole numbers; a text's lines -/
namespace CS
open PySem L2 RZ
def wplG (s : Str) (i : Nat) : List Int := (List.range i).filterMap fun j => match s.cps[j]? with
  | some c => if (⟨#[c]⟩ : Str) ≠ "S" then some (((1 + j : Nat) : Nat) : Int) else none
  | none => none
theorem wplG_succ (s : Str) (i : Nat) : wplG s (i + 1) = wplG s i ++ (match s.cps[i]? with
  | some c => if (⟨#[c]⟩ : Str) ≠ "S" then [(((1 + i : Nat) : Nat) : Int)] else []
  | none => []) := by
  unfold wplG
  rw [List.range_succ, List.filterMap_append]
  congr 1
  cases e : s.cps[i]? with
  | none => simp [e]
  | some c =>
    by_cases h : (⟨#[c]⟩ : Str) = "S"
    · simp [e, h]
    · simp [e, h]
theorem wplG_le (s : Str) (i : Nat) : (wplG s i).length ≤ i := by
  unfold wplG
  exact Nat.le_trans (List.length_filterMap_le _ _) (by simp)
section
variable {P : Program} {w : World} {K : PySem.W.Frag} {mg : Str → Option Value} {base : Heap}
def spWhl (K : PySem.W.Frag) : Sp := fun vs H Q _ => ∃ s : Str, vs = [.str s] ∧ s.cps.size ≤ 9 ∧ ∀ D H', Same H H' → SqL K H' D ((wplG s s.cps.size).map V.int) → Q (.ref D) H'
abbrev nsWholePlaces : List Str := ["shape", "at", "kind"]
theorem scWholePlaces : FnScope nsWholePlaces ["shape"] (defScope sWholePlaces) := ⟨rfl, rfl, rfl, by decide +kernel, rfl, by decide +kernel, by decide +kernel⟩
theorem ok_whole_places {f : Addr} {fd : FuncData} (F : Df K mg "whole_places" sWholePlaces ["shape"] f fd)
    {tK : Tok} (gK : mg "KID" = some (.str "S" tK)) (T : Bt mg) (menumerate : mg "enumerate" = none) : FnOk P w K mg base CX0 1 f fd ["shape"] (spWhl K) := by
  refine F.F.ok scWholePlaces (fun vs H Q E h => ?_) (fun cdv A outer s H vs Q E hr h => ?_)
  · obtain ⟨s, rfl, _⟩ := h
    rfl
  · obtain ⟨s, rfl, l9, k⟩ := h
    refine ⟨_, (pss_one (ps_ret (pe_lc (own := [("at", 1), ("kind", 2)]) (g := gTup K 2 (gCons (gName 1) (gCons (gName 2) gNil))) (tt := _) rfl scWholePlaces.nd (pi_enumS1 (by rfl) menumerate (pa_cons (pv 0) pa_nil)) (blkOk_by (N := nsWholePlaces) (sc := defScope sWholePlaces) (by decide +kernel)) (fun _ _ _ _ _ => pg_tup rfl (pgs_cons (pg_name (i := 1) scWholePlaces.nd rfl (Or.inl rfl)) (pgs_cons (pg_name (i := 2) scWholePlaces.nd rfl (Or.inl rfl)) pgs_nil))) (fun _ _ _ _ _ => pts_one (pt_cmpR op_ne (pv 2) (pe_glob (v := .str "S") (by rfl) gK ⟨_, rfl⟩) (nomark _))) (fun _ _ _ _ _ => (pv 1))))), ?_⟩
    refine ⟨_, rfl, s, rfl, 1, rfl, by decide, by decide, fun D nD => lc_it (walk_enS (x := s) (k := 1)) (fun i H' => H' D = some (.lst ((wplG s i).map V.int)) ∧ Same H H') ⟨upd_same, Same.new nD⟩ (fun _ _ _ _ => trivial) ?_ ?_⟩
    · rintro i v H2 H3 hi ⟨h1, s2⟩ ⟨t, x, y, rfl, ht, rfl, hx, hy⟩
      obtain rfl : V.int _ = x := Option.some.inj hx
      obtain ⟨c, hc, rfl⟩ := Option.map_eq_some_iff.mp hy
      have k2 := Same.new (o := .tup [V.int (1 + (i : Nat)), V.str ⟨#[c]⟩]) ht
      refine ⟨t, _, rfl, SqT.of upd_same, rfl, _, _, rfl, _, _, rfl, rfl, rfl, ?_⟩
      have lp := wplG_le s i
      refine ⟨_, rfl, rfl, _, rfl, ?_⟩
      by_cases h : (⟨#[c]⟩ : Str) ≠ "S"
      · refine iteTe (by rw [decide_eq_false fun z => h (V.str.inj z)]; rfl) ⟨_, rfl, _, k2 _ _ h1, small1000 (by rw [List.length_map]; omega), ?_, same_upd nD (s2.trans k2)⟩
        rw [upd_same, wplG_succ, hc, List.map_append]
        dsimp only
        rw [if_pos h]
        rfl
      · refine iteFe (by rw [decide_eq_true (congrArg V.str (Classical.not_not.mp h))]; rfl) ⟨?_, s2.trans k2⟩
        rw [wplG_succ, hc]
        dsimp only
        rw [if_neg h, List.append_nil]
        exact k2 _ _ h1
    · rintro H2 ⟨h1, s2⟩
      exact k _ _ s2 (SqL.of h1)
/-- a text's lines, in a new list -/
def spLines : Sp := fun vs H Q _ => ∃ t : Str, vs = [.str t] ∧ t.length + 2 ≤ sizeLine ∧ ∀ D H', Same H H' → H' D = some (.lst ((Txt.split t (sgn 10)).map V.str)) → Q (.ref D) H'
abbrev nsLinesOf : List Str := ["text"]
theorem scLinesOf : FnScope nsLinesOf ["text"] (defScope sLinesOf) := ⟨rfl, rfl, rfl, by decide +kernel, rfl, by decide +kernel, by decide +kernel⟩
theorem ok_lines_of {f : Addr} {fd : FuncData} (F : Df K mg "lines_of" sLinesOf ["text"] f fd)
    {f1 : Addr} {fd1 : FuncData} (D1 : Df K mg "is_word" sIsWord ["thing"] f1 fd1) (G1 : FnOk P w K mg base CX0 1 f1 fd1 ["thing"] (spD1 K wordD)) : FnOk P w K mg base CX0 2 f fd ["text"] (spLines) := by
  refine F.F.ok scLinesOf (fun vs H Q E h => ?_) (fun cdv A outer s H vs Q E hr h => ?_)
  · obtain ⟨t, rfl, _⟩ := h
    rfl
  · obtain ⟨t, rfl, hz, k⟩ := h
    refine ⟨_, (pss_cons (ps_if (pt_not (pt_val (pe_call G1 (hr.mono (by decide)) (by rfl) D1.g D1.F.kp D1.b .nil pass0 (pa_cons (pv 0) pa_nil)))) (pss_one ps_never) pss_nil)
      (pss_one (ps_ret (pe_split (pv 0) pe_str)))), ?_⟩
    have en : ("\n" : Str) = sgn 10 := by decide +kernel
    refine ⟨_, rfl, .str t, .str t, rfl, .str t, _, rfl, ?_⟩
    refine iteFe (by rfl) ⟨_, rfl, ⟨_, rfl⟩, t, sgn 10, rfl, congrArg (fun z => [V.str z]) en, rfl, hz, fun p np => k p _ (Same.new np) upd_same⟩
end
end CS
set_option Elab.async false
set_option maxRecDepth 100000
set_option maxHeartbeats 4000000
set_option linter.unusedVariables false
/-! shapes; a read paper as a datum -/
namespace CS
open PySem L2
/-- words and their shapes -/
abbrev Shp := List (Str × Str)
def shpOf (L : Shp) (w : Str) : Option Str := (L.find? fun p => decide (p.1 = w)).map (·.2)
def kvS (L : Shp) : List (Key × V) := L.map fun p => ((Sum.inr p.1 : Key), V.str p.2)
theorem valV_kvS (L : Shp) (w : Str) : valV (kvS L) (Sum.inr w) = (shpOf L w).map V.str := by
  unfold valV kvS shpOf
  rw [List.find?_map, Option.map_map, Option.map_map]
  congr 1
  congr 1
  funext p
  show decide ((Sum.inr p.1 : Key) = Sum.inr w) = decide (p.1 = w)
  rw [decide_eq_decide]
  exact ⟨fun h => Sum.inr.inj h, fun h => by rw [h]⟩
/-- the places of the whole numbers, of the parts -/
def wpl : Nat → List Nat → List Nat
  | _, [] => []
  | a, c :: s => if c = 83 then wpl (a + 1) s else (a + 1) :: wpl (a + 1) s
def kpl : Nat → List Nat → List Nat
  | _, [] => []
  | a, c :: s => if c = 83 then (a + 1) :: kpl (a + 1) s else kpl (a + 1) s
def kdS (L : Shp) : Kinds := fun w => (shpOf L w).map fun s => ((wpl 0 (lsS s)).length, (kpl 0 (lsS s)).length)
/-- the items behind a word, by its shape -/
def fill {α : Type} : List Nat → List α → List α → List α
  | [], _, _ => []
  | c :: s, xs, ks => if c = 83 then match ks with
      | [] => []
      | k :: ks => k :: fill s xs ks
    else match xs with
      | [] => []
      | x :: xs => x :: fill s xs ks
def shL (L : Shp) (w : Str) : List Nat := lsS ((shpOf L w).getD ⟨#[]⟩)
def Pt.toD (L : Shp) : Pt → PyData
  | .n0 w ns => .tuple (.str w :: fill (shL L w) (ns.map .int) [])
  | .n1 w ns k => .tuple (.str w :: fill (shL L w) (ns.map .int) [k.toD L])
  | .n2 w ns k l => .tuple (.str w :: fill (shL L w) (ns.map .int) [k.toD L, l.toD L])
section
variable {α : Type}
theorem fill_at : ∀ {s : List Nat} {a : Nat} {xs ks : List α}, xs.length = (wpl a s).length → ks.length = (kpl a s).length → (fill s xs ks).length = s.length ∧ ∀ i v, (fill s xs ks)[i]? = some v → (a + i + 1, v) ∈ (wpl a s).zip xs ++ (kpl a s).zip ks
  | [], a, xs, ks, _, _ => ⟨rfl, fun i v h => by cases h⟩
  | c :: s, a, xs, ks, h1, h2 => by
    unfold wpl at h1 ⊢
    unfold kpl at h2 ⊢
    unfold fill
    by_cases e : c = 83
    · rw [if_pos e] at h1 h2 ⊢
      rw [if_pos e, if_pos e]
      cases ks with
      | nil => cases h2
      | cons k ks =>
        obtain ⟨l, at_⟩ := fill_at (s := s) (a := a + 1) (xs := xs) (ks := ks) h1 (Nat.succ.inj h2)
        refine ⟨by rw [List.length_cons, List.length_cons, l], fun i v h => ?_⟩
        cases i with
        | zero =>
          cases h
          exact List.mem_append_right _ List.mem_cons_self
        | succ i =>
          have := at_ i v h
          rw [show a + 1 + i + 1 = a + (i + 1) + 1 by omega] at this
          rcases List.mem_append.mp this with m | m
          · exact List.mem_append_left _ m
          · exact List.mem_append_right _ (List.mem_cons_of_mem _ m)
    · rw [if_neg e] at h1 h2 ⊢
      rw [if_neg e, if_neg e]
      cases xs with
      | nil => cases h1
      | cons x xs =>
        obtain ⟨l, at_⟩ := fill_at (s := s) (a := a + 1) (xs := xs) (ks := ks) (Nat.succ.inj h1) h2
        refine ⟨by rw [List.length_cons, List.length_cons, l], fun i v h => ?_⟩
        cases i with
        | zero =>
          cases h
          exact List.mem_append_left _ List.mem_cons_self
        | succ i =>
          have := at_ i v h
          rw [show a + 1 + i + 1 = a + (i + 1) + 1 by omega] at this
          rcases List.mem_append.mp this with m | m
          · exact List.mem_append_left _ (List.mem_cons_of_mem _ m)
          · exact List.mem_append_right _ m
theorem pl_perm : ∀ (s : List Nat) (a : Nat), (wpl a s ++ kpl a s).Perm (List.range' (a + 1) s.length)
  | [], _ => .refl _
  | c :: s, a => by
    have ih := pl_perm s (a + 1)
    unfold wpl kpl
    rw [List.length_cons, List.range'_succ]
    by_cases e : c = 83
    · rw [if_pos e, if_pos e]
      exact List.perm_middle.trans (ih.cons _)
    · rw [if_neg e, if_neg e]
      exact ih.cons _
end
theorem DpAll.fill {K : PySem.W.Frag} {H : Hp} : ∀ {s : List Nat} {xs ks : List V} {ds es : List PyData}, DpAll K H xs ds → DpAll K H ks es → DpAll K H (CS.fill s xs ks) (CS.fill s ds es)
  | [], _, _, _, _, _, _ => .nil
  | c :: s, xs, ks, ds, es, hx, hk => by
    unfold CS.fill
    by_cases e : c = 83
    · rw [if_pos e, if_pos e]
      cases hk with
      | nil => exact .nil
      | cons a b => exact .cons a (DpAll.fill hx b)
    · rw [if_neg e, if_neg e]
      cases hx with
      | nil => exact .nil
      | cons a b => exact .cons a (DpAll.fill b hk)
/-- what has been put under places -/
def kvP (ps : List (Nat × V)) : List (Key × V) := ps.map fun p => ((Sum.inl (p.1 : Int) : Key), p.2)
theorem putK_new {k : Key} {v : V} : ∀ {kvs : List (Key × V)}, (∀ p ∈ kvs, p.1 ≠ k) → putK kvs k v = kvs ++ [(k, v)]
  | [], _ => rfl
  | p :: kvs, h => by
    rw [putK_c2 (h p List.mem_cons_self), putK_new fun q hq => h q (List.mem_cons_of_mem _ hq)]
    rfl
theorem kvP_put {ps : List (Nat × V)} {a : Nat} {v : V} (h : a ∉ ps.map (·.1)) : putK (kvP ps) (Sum.inl (a : Int)) v = kvP (ps ++ [(a, v)]) := by
  rw [putK_new, kvP, kvP, List.map_append]
  · rfl
  · intro p hp e
    obtain ⟨q, hq, rfl⟩ := List.mem_map.mp hp
    have : (q.1 : Int) = (a : Int) := Sum.inl.inj e
    exact h (List.mem_map.mpr ⟨q, hq, by omega⟩)
theorem valV_kvP : ∀ {ps : List (Nat × V)} {a : Nat} {v : V}, (ps.map (·.1)).Nodup → (a, v) ∈ ps → valV (kvP ps) (Sum.inl (a : Int)) = some v
  | [], _, _, _, h => by cases h
  | p :: ps, a, v, nd, h => by
    rw [List.map_cons, List.nodup_cons] at nd
    unfold valV kvP
    rw [List.map_cons, List.find?_cons]
    by_cases e : p.1 = a
    · have e2 : decide ((Sum.inl (p.1 : Int) : Key) = Sum.inl (a : Int)) = true := decide_eq_true (by rw [e])
      rw [e2]
      rcases List.mem_cons.mp h with rfl | h
      · rfl
      · exact absurd (List.mem_map.mpr ⟨(a, v), h, e.symm⟩) nd.1
    · have e2 : decide ((Sum.inl (p.1 : Int) : Key) = Sum.inl (a : Int)) = false := decide_eq_false fun z => e (by have : (p.1 : Int) = (a : Int) := Sum.inl.inj z; omega)
      rw [e2]
      rcases List.mem_cons.mp h with rfl | h
      · exact absurd rfl e
      · exact valV_kvP nd.2 h
end CS
set_option Elab.async false
set_option maxRecDepth 100000
set_option maxHeartbeats 4000000
set_option linter.unusedVariables false
/-! the end of a law whose defs make lambdas and call repr -/
namespace CS
open PySem PySem.Spec PyProof.Rows L2 LamX
/-- what is tracked ahead of the law's call: its script, and the tables of code objects -/
def scriptT (K : PySem.W.Frag) (a : Addr) (vs : List Value) (ns : List Int) (cs : List (Addr × Addr)) : Hp := fun b => if b = a ∧ K.lookup a = none then some (.frz { cls := .type "list", data := .seq vs.toArray } (.lst (ns.map V.int))) else if b ∈ cs.map (·.2) then some (.tbl #[]) else none
section
variable {P : Program} {w : World} {K : PySem.W.Frag} {mg mb : Str → Option Value} {k : Nat} {fa a : Addr} {fd : FuncData} {x : Str} {sp : Sp} {s₁ : Shared} {vs : List Value} {ns : List Int} {cs : List (Addr × Addr)}
theorem scriptT_of {b : Addr} {u : HO} (e : scriptT K a vs ns cs b = some u) : (b = a ∧ K.lookup a = none ∧ u = .frz { cls := .type "list", data := .seq vs.toArray } (.lst (ns.map V.int))) ∨ ∃ p ∈ cs, p.2 = b ∧ u = .tbl #[] := by
  unfold scriptT at e
  split at e
  · next z => exact .inl ⟨z.1, z.2, (Option.some.inj e).symm⟩
  · split at e
    · next z =>
      obtain ⟨p, hp, q⟩ := List.mem_map.mp z
      exact .inr ⟨p, hp, q, (Option.some.inj e).symm⟩
    · cases e
theorem scriptT_sq (KX : K.In s₁.heap) (ha : s₁.heap.get? a = some { cls := .type "list", data := .seq vs.toArray }) (hi : IntsAre vs ns) (hl : ns.length ≤ sizeLine) : SqL K (scriptT K a vs ns cs) a (ns.map V.int) := by
  cases e : K.lookup a with
  | none => exact .inl (.inr ⟨_, if_pos ⟨rfl, e⟩⟩)
  | some o =>
    have g := KX a o e
    rw [ha] at g
    cases g
    have l := hi.length
    exact .inr ⟨_, vs.toArray, _, e, rfl, rfl, rfl, by rw [List.size_toArray]; omega, by simpa using vals_ints hi⟩
/-- the law's call ends with True, and what stood stands, but for the tables -/
theorem law_stillTs (KX : K.In s₁.heap) (hns : s₁.heap.Ns mainGlobals mg) (hb : s₁.heap.Ns builtinsNs mb) (hbb : ∀ x : Str, x ≠ "__name__" → mb x = bootBuiltins x) (hlim : s₁.heap.NoLimit) (hg : s₁.gens = #[])
    (ht : ∀ p ∈ cs, s₁.heap.get? p.2 = some { cls := .none, data := .fields #[] }) (hk : ∀ p ∈ cs, K.lookup p.2 = none) (hc : ∀ p ∈ cs, PySem.W.CodeHd s₁.heap p.1 p.2)
    (hbm : ∃ bm ob, mg "__builtins__" = some (.ref bm) ∧ bm ≠ builtinsNs ∧ s₁.heap.get? bm = some ob ∧ ob.cls = .type "module" ∧ ob.dict = some builtinsNs ∧ ob.data = .plain)
    (ha : s₁.heap.get? a = some { cls := .type "list", data := .seq vs.toArray }) (hi : IntsAre vs ns) (hl : ns.length ≤ sizeLine) (hr : Room k callerA)
    (F : ∀ base : Heap, K.In base → base.Ns mainGlobals mg → (∀ p ∈ cs, TabB base mg p.1 p.2) → FnG P w K mg base CX0 k fa fd [x] sp) (bind : ∀ (s : Shared) (u : Value), BindsTo s fd ⟨[u], []⟩ [(x, u)])
    (hsp : ∀ H : Hp, (∀ p ∈ cs, H p.2 = some (.tbl #[])) → SqL K H a (ns.map V.int) → sp [.ref a] H (fun v _ => v = .bl true) E0) :
    codeAny (model P w) callerA (.call (.ref fa) ⟨[.ref a], []⟩) (fun r s' => r = .ok (.ret (.bool true)) ∧ OldK s₁.heap s'.heap ∧ s'.os = s₁.os ∧ AllBare s'.gens) s₁ := by
  obtain ⟨H, eH⟩ : ∃ H, H = scriptT K a vs ns cs := ⟨_, rfl⟩
  have sq : SqL K H a (ns.map V.int) := by rw [eH]; exact scriptT_sq KX ha hi hl
  have only : ∀ {b u}, H b = some u → (b = a ∧ K.lookup a = none ∧ u = .frz { cls := .type "list", data := .seq vs.toArray } (.lst (ns.map V.int))) ∨ ∃ p ∈ cs, p.2 = b ∧ u = .tbl #[] := fun e => scriptT_of (by rw [← eH]; exact e)
  have nea : ∀ p ∈ cs, p.2 ≠ a := fun p hp e => by
    have := ht p hp
    rw [e, ha] at this
    cases this
  have tbl : ∀ p ∈ cs, H p.2 = some (.tbl #[]) := fun p hp => by
    rw [eH]
    unfold scriptT
    rw [if_neg fun z => nea p hp z.1, if_pos (List.mem_map.mpr ⟨p, hp, rfl⟩)]
  have ok : HOk P w H s₁.heap := by
    intro b u e
    rcases only e with ⟨rfl, _, rfl⟩ | ⟨p, hp, rfl, rfl⟩
    · exact ⟨ha, by rw [List.length_map]; exact hl, vs, _, vals_ints hi, ha⟩
    · exact ht p hp
  have stays : ∀ {b : Addr} {ob : Obj}, s₁.heap.get? b = some ob → (b = a → K.lookup a ≠ none) → (∀ p ∈ cs, p.2 ≠ b) → (hidT s₁.heap H).get? b = some ob := fun {b ob} e n n2 => hidT_get e (by
    cases q : H b with
    | none => rfl
    | some u =>
      rcases only q with ⟨e1, e2, _⟩ | ⟨p, hp, e1, _⟩
      · exact absurd e2 (n e1)
      · exact absurd e1 (n2 p hp))
  have names : ∀ {b : Addr} {m : Str → Option Value}, s₁.heap.Ns b m → (hidT s₁.heap H).Ns b m := by
    rintro b m ⟨ob, es, ep, e, ed, r⟩
    refine ⟨ob, es, ep, stays e (fun z => ?_) (fun p hp z => ?_), ed, r⟩
    · subst z
      rw [ha] at e
      cases e
      cases ed
    · subst z
      rw [ht p hp] at e
      cases e
      cases ed
  have inn : K.In (hidT s₁.heap H) := fun b ob e => stays (KX b ob e) (fun z => by rw [← z, e]; exact fun y => nomatch y) fun p hp z => by
    have := hk p hp
    rw [z, e] at this
    cases this
  have codes : ∀ p ∈ cs, PySem.W.CodeHd (hidT s₁.heap H) p.1 p.2 := fun p hp => by
    obtain ⟨o, vs1, file, tf, flags, tg, inF, text, tt, g, cl, r⟩ := hc p hp
    refine ⟨o, vs1, file, tf, flags, tg, inF, text, tt, stays g (fun z => ?_) (fun p2 hp2 z => ?_), cl, r⟩
    · rw [z, ha] at g
      cases g
      exact absurd (show Value.type "list" = Value.type "code" from cl) (by decide +kernel)
    · rw [← z, ht p2 hp2] at g
      cases g
      exact absurd (show Value.none = Value.type "code" from cl) (by decide +kernel)
  have tabs : ∀ p ∈ cs, TabB (hidT s₁.heap H) mg p.1 p.2 := fun p hp => by
    obtain ⟨bm, ob, m1, m2, m3, m4, m5, m6⟩ := hbm
    have glob : ∀ {q : Addr} {o : Obj}, s₁.heap.get? q = some o → (∀ es ep, o.data ≠ .dict es ep) → mainGlobals ≠ q := by
      rintro q o e n rfl
      obtain ⟨ob2, es, ep, e2, ed, _⟩ := hns
      rw [e] at e2
      cases e2
      exact n _ _ ed
    refine ⟨codes p hp, ⟨bm, ob, m1, m2, ?_, ?_, stays m3 (fun z => ?_) (fun p2 hp2 z => ?_), m4, m5, m6⟩, glob (ht p hp) fun _ _ z => by cases z⟩
    · exact (glob m3 fun es ep z => by rw [m6] at z; cases z).symm
    · intro z
      rw [z, ht p hp] at m3
      cases m3
      cases m6
    · rw [z, ha] at m3
      cases m3
      cases m6
    · rw [← z, ht p2 hp2] at m3
      cases m3
      cases m6
  obtain ⟨mc, l1, l2⟩ := hlim
  have env : Env0 P w K mg (hidT s₁.heap H) callerA [] s₁ H := by
    refine ⟨rfl, ⟨inn, names hns, ⟨mb, names hb, hbb⟩, ⟨mc, names l1, l2⟩⟩, fun b ob e => of_hidT e, Nat.le_of_eq (hidT_size _ _), trivial, fun b hb => ?_, ok, .of_eq hg⟩
    exact (List.not_mem_nil hb).elim
  have ready : Quiet P w K mg (hidT s₁.heap H) k fd [x] callerA [] s₁ H ⟨[.ref a], []⟩ [.ref a] [.ref a] := ⟨still_caller, hr, env, bind s₁ (.ref a), .cons rfl .nil⟩
  refine codeAny_mono ((F _ inn (names hns) tabs).go ready (hsp H tbl sq)) fun r s' z => ?_
  match r, z with
  | .error _, z => exact z.elim
  | .ok .next, z => exact z.elim
  | .ok .brk, z => exact z.elim
  | .ok .cont, z => exact z.elim
  | .ok (.ret u), ⟨v, H', os, bare, un, ok', rv, ev⟩ =>
    subst ev
    cases rv
    have it : ∀ (b : Addr) (o : Obj), s₁.heap.get? b = some o → asItWas s₁.heap s'.heap b o := fun b ob e => by
      cases q : H b with
      | none => exact .inl (un.keep b ob e q (fun z => (List.not_mem_nil z).elim) (by simp))
      | some u =>
        rcases only q with ⟨rfl, _, rfl⟩ | ⟨p, hp, rfl, rfl⟩
        · rw [ha] at e
          cases e
          exact .inl (ok' _ _ (un.frzs _ _ _ q)).1
        · rw [ht p hp] at e
          cases e
          obtain ⟨more, hm⟩ := un.tbls _ _ q
          have hm2 := ok' _ _ hm
          refine .inr (.inl ⟨?_, rfl, #[], more, rfl, hm2⟩)
          obtain ⟨o, vs1, file, tf, flags, tg, inF, text, tt, g, cl, dt, pl, r⟩ := hc p hp
          exact ⟨p.1, o, vs1, g, cl, dt, pl⟩
    refine ⟨rfl, ⟨it, fun b ob e => ?_⟩, os, bare⟩
    rcases it b ob e with z | ⟨_, _, _, _, _, z⟩ | ⟨_, _, ⟨o', _, _, z, _⟩, _⟩
    · exact ⟨_, z⟩
    · exact ⟨_, z⟩
    · exact ⟨_, z⟩
end
/-- what is to be told of a law's def, for its end -/
def LawAtG (l : PySem.W.OpenLaw) (w : World) (K : PySem.W.Frag) (k n : Nat) (x : Str) (mg : Str → Option Value) (fa : Addr) (h : Heap) : Prop :=
  ∃ (fd : FuncData) (cs : List (Addr × Addr)) (sp : Sp), (∀ p ∈ cs, h.get? p.2 = some { cls := .none, data := .fields #[] }) ∧ (∀ p ∈ cs, K.lookup p.2 = none) ∧ (∀ p ∈ cs, PySem.W.CodeHd h p.1 p.2) ∧
    (∀ (s : Shared) (u : Value), BindsTo s fd ⟨[u], []⟩ [(x, u)]) ∧ (∀ (H : Hp) (a : Addr) (ns : List Int), ns.length ≤ n → (∀ p ∈ cs, H p.2 = some (.tbl #[])) → SqL K H a (ns.map V.int) → sp [.ref a] H (fun v _ => v = .bl true) E0) ∧
    ∀ base : Heap, K.In base → base.Ns mainGlobals mg → (∀ p ∈ cs, TabB base mg p.1 p.2) → FnG l.prog w K mg base CX0 k fa fd [x] sp
theorem walk_stillTs {l : PySem.W.OpenLaw} {n k : Nat} {q : Program} {loose : List Str} {XP : (Str → Option Value) → Heap → Prop} {YP : World → Heap → Prop} {d : DefRec} {K : Params → PySem.W.Frag} {x : Str} (hn : l.most = some n) (hn2 : n ≤ sizeLine) (hdf : d.params.defaults = []) (hr : Room k callerA)
    (hY : ∀ (w : World) (h : Heap), YP w h → (K w.params).In h)
    (F : ∀ (w : World) (mg : Str → Option Value) (fa : Addr) (h : Heap), YP w h → (K w.params).In h → h.Ns mainGlobals mg → mg d.name = some (.ref fa) → LawAtG l w (K w.params) k n x mg fa h) :
    PySem.W.WalkO q loose XP YP l.row.toRowW d [] (fun f vs => PySem.call f vs) := by
  refine Att.attach_call hn hdf fun w s₀ s₁ mg mb fa o pm cd doc a vs ns gr y ho hd hcd hmg hobj hints hlen hg => ?_
  obtain ⟨fd, cs, sp, t1, t2, t3, hb, hs, hF⟩ := F w mg fa _ y (hY w _ y) gr.T.g hmg
  exact law_stillTs (hY w _ y) gr.T.g gr.T.b gr.T.builtins gr.T.nolimit hg t1 t2 t3 gr.T.bmain hobj hints (Nat.le_trans hlen hn2) hr hF hb fun H hT hS => hs H a ns hlen hT hS
end CS
set_option Elab.async false
set_option maxRecDepth 100000
set_option maxHeartbeats 8000000
set_option linter.unusedVariables false
set_option pp.maxSteps 5000
/-! a paper read off a line -/
namespace CS
open PySem PySem.Spec PyProof.Rows L2 RZ LamX
theorem FunC.okX {P : Program} {w : World} {K : PySem.W.Frag} {mg : Str → Option Value} {base : Heap} {x qual : Str} {st : Stmt} {f c : Addr} {fd : FuncData} {N ps : List Str} {k : Nat} {sp : Sp} (F : FunC K x qual st f fd c) (S : FnScope N ps (defScope st)) (len : ∀ vs H Q E, sp vs H Q E → vs.length = ps.length)
    (hbody : ∀ A outer s H vs Q E, Room k (A.deeper (envOfC qual (defScope st) s.heap.objs.size f (.ref c))) → sp vs H Q E → ∃ t, PSs (cxOf (L2.CX P w) P w K mg base N qual (defScope st) f (.ref c) A outer s H E) (defBody st) t ∧ t { nx := fun _ H' => Q .non H', rt := Q } (start N vs) H) : FnOk P w K mg base (L2.CX P w) (k + 1) f fd ps sp := by
  obtain ⟨oc, od, kV, doc, pm, an, ct, osl, rfl, l, h⟩ := F.ex
  exact fn_of l h S len hbody
/-- nothing but p and tables has changed -/
def ExtP (H : Hp) (p : Addr) (H' : Hp) : Prop := ∀ b o, H b = some o → b ≠ p → (∀ ps, o ≠ .tbl ps) → H' b = some o
theorem ExtP.trans {H H1 H2 : Hp} {p : Addr} (a : ExtP H p H1) (b : ExtP H1 p H2) : ExtP H p H2 := fun c o e n t => b c o (a c o e n t) n t
theorem ExtP.chg {H H' : Hp} {p : Addr} (a : Chg H p H') : ExtP H p H' := fun b o e n _ => a b o e n
theorem ExtP.ext {H H' : Hp} {p : Addr} (a : ExtN H H') : ExtP H p H' := fun b o e _ t => a b o e t
theorem tabs_chg {TT : List (Addr × Str)} {H H' : Hp} {p C dx : Addr} {fs : List (Str × V)} (h : Tabs TT H) (hp : H p = some (.ins C dx fs)) (e : Chg H p H') : Tabs TT H' := fun q hq => by
  obtain ⟨ps, b1, b2, b3⟩ := h q hq
  refine ⟨ps, e _ _ b1 (fun z => by rw [z, hp] at b1; cases b1), b2, fun pos cv z => ?_⟩
  obtain ⟨c0, rfl, y⟩ := b3 pos cv z
  refine ⟨c0, rfl, e _ _ y fun z => ?_⟩
  unfold CodeO at y
  rw [z, hp] at y
  cases y
theorem same_sub {l : Addr → Option Obj} {H H' : Hp} (F : Free l H) (s : Same (addC l H) H') : Cin l H' ∧ Same H (subC l H') := by
  refine ⟨fun b o e => s b _ (addC_in e), fun b o e => ?_⟩
  have lb := F.out e
  rw [subC_out lb]
  exact s b o (by rw [addC_out lb]; exact e)
theorem chg_sub {l : Addr → Option Obj} {H H' : Hp} {p : Addr} (F : Free l H) (lp : l p = none) (s : Chg (addC l H) p H') : Cin l H' ∧ Chg H p (subC l H') := by
  refine ⟨fun b o e => s b _ (addC_in e) (fun z => by rw [z, lp] at e; cases e), fun b o e n => ?_⟩
  have lb := F.out e
  rw [subC_out lb]
  exact s b o (by rw [addC_out lb]; exact e) n
theorem line_sub {l : Addr → Option Obj} {H' : Hp} {C p : Addr} {n : V} {ws : List Str} {i m : Nat} (Ci : Cin l H') (h : LineAt C H' p n ws i m) : LineAt C (subC l H') p n ws i m := by
  obtain ⟨dx, wl, h1, h2⟩ := h
  refine ⟨dx, wl, ?_, ?_⟩
  · rw [subC_out (Ci.out h1 fun _ _ z => by unfold CellX at z; cases z)]
    exact h1
  · rw [subC_out (Ci.out h2 fun _ _ z => by unfold CellX at z; cases z)]
    exact h2
/-- what is told of a lambda that a line's word is held against -/
def RTaken (C CB : Addr) (tb : TE) : Addr → L2.St → Hp → VK → XK → Prop := fun p σ H Q E => ∃ (n : V) (ws : List Str) (i m : Nat) (b : Bool), LineAt C H p n ws i m ∧ ws.length ≤ sizeLine ∧ (∀ x, ws[i]? = some x → ∀ H', Same H H' → tb (σ ++ [some (.str x)]) H' (fun v H2 => v = .bl b ∧ Same H' H2)) ∧
  ((∃ x, ws[i]? = some x ∧ b = true ∧ ∀ H', Chg H p H' → LineAt C H' p n ws (i + 1) m → Q (.str x) H') ∨ ((ws[i]? = none ∨ b = false) ∧ refE CB n i H E))
theorem taken_lact {X : Cx} {scope : Scope} {params : Arguments} {body : Expr} {tb : TE} {C CB : Addr} {E : XK} (l : Addr → Option Obj) (σ : L2.St) (H : Hp) (p f dx : Addr) (fs : List (Str × V)) (Q : VK) (F : Free l H) (hp : H p = some (.ins C dx fs))
    (hf : ∃ (c' : Addr) (doc pm ctv : Value), H f = some (FunO f (lfd X scope params body c' .none doc pm ctv)) ∧ H c' = some (CodeO c' (X.env.qual ++ "<lambda>"))) (r : RTaken C CB tb p σ H Q E) :
    spLnTaken C CB X.K (lact1 X scope params body σ l (fun _ => tb)) [.ref p, .ref f] (addC l H) (fun v H2 => Cin l H2 ∧ Q v (subC l H2)) (fun cls d H2 => Cin l H2 ∧ E cls d (subC l H2)) := by
  obtain ⟨c', doc, pm, ctv, h1, h2⟩ := hf
  obtain ⟨n, ws, i, m, b, hl, hz, hb, k⟩ := r
  have lp := F.out hp
  have hl2 : LineAt C (addC l H) p n ws i m := by
    obtain ⟨dx, wl, a1, a2⟩ := hl
    exact ⟨dx, wl, by rw [addC_out (F.out a1)]; exact a1, by rw [addC_out (F.out a2)]; exact a2⟩
  refine ⟨p, f, n, ws, i, m, b, rfl, hl2, hz, .inl ⟨_, by rw [addC_out (F.out h1)]; exact h1⟩, fun x hx H' s => ?_, ?_⟩
  · obtain ⟨Ci, s2⟩ := same_sub F s
    refine ⟨c', doc, pm, ctv, subC l H', fun v H2 => v = .bl b ∧ Same (subC l H') H2, E0, (add_sub Ci).symm, free_sub, s2 _ _ h1, s2 _ _ h2, hb x hx _ s2, fun v H2 F2 ⟨ev, s3⟩ => ⟨ev, fun q o e => ?_⟩, fun _ _ _ _ z => z.elim⟩
    cases z : l q with
    | none =>
      rw [addC_out z]
      exact s3 q o (by rw [subC_out z]; exact e)
    | some o2 =>
      have := Ci q o2 z
      rw [e] at this
      rw [addC_in z]
      exact this.symm
  · rcases k with ⟨x, hx, eb, kk⟩ | ⟨ho, kr⟩
    · refine .inl ⟨x, hx, eb, fun H' c hl' => ?_⟩
      obtain ⟨Ci, c2⟩ := chg_sub F lp c
      exact ⟨Ci, kk _ c2 (line_sub Ci hl')⟩
    · refine .inr ⟨ho, fun H' d s hd => ?_⟩
      obtain ⟨Ci, s2⟩ := same_sub F s
      exact ⟨Ci, kr _ d s2 (by rw [subC_out (Ci.out hd fun _ _ z => by unfold CellX at z; cases z)]; exact hd)⟩
end CS
set_option Elab.async false
set_option maxRecDepth 100000
set_option maxHeartbeats 4000000
set_option linter.unusedVariables false
/-! the parts of a paper, one after another -/
namespace CS
open PySem L2
def parseK (kd : Kinds) (ws : List Str) (h : Nat) : Nat → Nat → Nat → Sum (List Pt × Nat × Nat) Nat
  | 0, q, m => .inl ([], q, m)
  | b + 1, q, m => match parse kd ws h q m with
    | .inr r => .inr r
    | .inl (k, r, m2) => match parseK kd ws h b r m2 with
      | .inr r2 => .inr r2
      | .inl (ks, r2, m3) => .inl (k :: ks, r2, m3)
section
variable {kd : Kinds} {ws : List Str} {h : Nat}
theorem parseK_snoc : ∀ {j q m : Nat}, parseK kd ws h (j + 1) q m = match parseK kd ws h j q m with
    | .inr r => .inr r
    | .inl (ks, q2, m2) => match parse kd ws h q2 m2 with
      | .inr r => .inr r
      | .inl (k, r, m3) => .inl (ks ++ [k], r, m3)
  | 0, q, m => by
    simp only [parseK]
    cases parse kd ws h q m <;> rfl
  | j + 1, q, m => by
    rw [parseK, parseK]
    cases e : parse kd ws h q m with
    | inr r => rfl
    | inl x =>
      obtain ⟨k, r, m2⟩ := x
      dsimp only
      rw [parseK_snoc (j := j)]
      cases e2 : parseK kd ws h j r m2 with
      | inr r2 => rfl
      | inl y =>
        obtain ⟨ks, q2, m3⟩ := y
        dsimp only
        cases e3 : parse kd ws h q2 m3 <;> rfl
theorem parseK_bad : ∀ {b j q m r : Nat}, parseK kd ws h j q m = .inr r → j ≤ b → parseK kd ws h b q m = .inr r
  | 0, j, q, m, r, e, l => by
    rw [Nat.le_zero.mp l] at e
    exact e
  | b + 1, j, q, m, r, e, l => by
    by_cases c : j = b + 1
    · rw [← c]; exact e
    · rw [parseK_snoc, parseK_bad e (by omega)]
theorem parseK_len : ∀ {b q m q2 m2 : Nat} {ks : List Pt}, parseK kd ws h b q m = .inl (ks, q2, m2) → ks.length = b
  | 0, q, m, q2, m2, ks, e => by cases e; rfl
  | b + 1, q, m, q2, m2, ks, e => by
    rw [parseK] at e
    split at e
    · cases e
    · split at e
      · cases e
      · next e2 =>
        cases e
        rw [List.length_cons, parseK_len e2]
theorem parseK_m : ∀ {b q m q2 m2 : Nat} {ks : List Pt}, m ≤ 20 → parseK kd ws h b q m = .inl (ks, q2, m2) → m ≤ m2 ∧ m2 ≤ 20
  | 0, q, m, q2, m2, ks, l, e => by cases e; exact ⟨Nat.le_refl _, l⟩
  | b + 1, q, m, q2, m2, ks, l, e => by
    rw [parseK] at e
    split at e
    · cases e
    · next e1 =>
      have w := parse_wf l e1
      split at e
      · cases e
      · next e2 =>
        cases e
        have := parseK_m w.2.2 e2
        omega
def Pt.mk (w : Str) (ns : List Int) : List Pt → Pt
  | [] => .n0 w ns
  | [k] => .n1 w ns k
  | k :: l :: _ => .n2 w ns k l
/-- what a word makes of what stands behind it -/
theorem parse_eq {p m : Nat} {w : Str} {a b : Nat} (nm : m ≠ 20) (hw : ws[p]? = some w) (hk : kd w = some (a, b)) (b2 : b ≤ 2) : parse kd ws (h + 1) p m = match readI a ws (p + 1) with
    | .inr q => .inr q
    | .inl (ns, q) => match parseK kd ws h b q (m + 1) with
      | .inr r => .inr r
      | .inl (ks, r, m2) => .inl (Pt.mk w ns ks, r, m2) := by
  rw [parse, if_neg nm, hw]
  dsimp only
  rw [hk]
  dsimp only
  cases readI a ws (p + 1) with
  | inr q => rfl
  | inl x =>
    obtain ⟨ns, q⟩ := x
    dsimp only
    match b, b2 with
    | 0, _ => rfl
    | 1, _ =>
      simp only [parseK]
      cases parse kd ws h q (m + 1) <;> rfl
    | 2, _ =>
      simp only [parseK]
      cases parse kd ws h q (m + 1) with
      | inr r => rfl
      | inl x =>
        obtain ⟨k, r, m2⟩ := x
        dsimp only
        cases parse kd ws h r m2 <;> rfl
theorem parse_no1 {p m : Nat} (hw : ws[p]? = none) : parse kd ws (h + 1) p m = .inr p := by
  rw [parse]
  split
  · rfl
  · rw [hw]
theorem parse_no2 {p m : Nat} {w : Str} (hw : ws[p]? = some w) (hk : kd w = none) : parse kd ws (h + 1) p m = .inr p := by
  rw [parse]
  split
  · rfl
  · rw [hw]
    dsimp only
    rw [hk]
end
/-- the shapes are as the reader takes them -/
def LOk (L : Shp) : Prop := ∀ w s, shpOf L w = some s → s.cps.size ≤ 9 ∧ wplG s s.cps.size = (wpl 0 (lsS s)).map (fun k : Nat => (k : Int)) ∧ plcG s s.cps.size = (kpl 0 (lsS s)).map (fun k : Nat => (k : Int)) ∧ (kpl 0 (lsS s)).length ≤ 2
def lokB (L : Shp) : Bool := L.all fun p => decide (p.2.cps.size ≤ 9) && decide (wplG p.2 p.2.cps.size = (wpl 0 (lsS p.2)).map (fun k : Nat => (k : Int))) && decide (plcG p.2 p.2.cps.size = (kpl 0 (lsS p.2)).map (fun k : Nat => (k : Int))) && decide ((kpl 0 (lsS p.2)).length ≤ 2)
theorem lok_of {L : Shp} (h : lokB L = true) : LOk L := fun w s e => by
  unfold shpOf at e
  obtain ⟨p, hp, rfl⟩ := Option.map_eq_some_iff.mp e
  have := List.all_eq_true.mp h p (List.mem_of_find?_eq_some hp)
  simp only [Bool.and_eq_true, decide_eq_true_eq] at this
  exact ⟨this.1.1.1, this.1.1.2, this.1.2, this.2⟩
theorem Pt.mk_toD {L : Shp} {w : Str} {ns : List Int} {ks : List Pt} (h : ks.length ≤ 2) : (Pt.mk w ns ks).toD L = .tuple (.str w :: fill (shL L w) (ns.map .int) (ks.map (Pt.toD L))) := by
  match ks, h with
  | [], _ => rfl
  | [k], _ => rfl
  | [k, l], _ => rfl
mutual
theorem fill_flat : ∀ {s : List Nat} {ds es : List PyData}, flatDs ds = true → flatDs es = true → flatDs (fill s ds es) = true
  | [], _, _, _, _ => rfl
  | c :: s, ds, es, h1, h2 => by
    unfold fill
    split
    · cases es with
      | nil => rfl
      | cons e es =>
        unfold flatDs at h2 ⊢
        rw [Bool.and_eq_true] at h2 ⊢
        exact ⟨h2.1, fill_flat h1 h2.2⟩
    · cases ds with
      | nil => rfl
      | cons d ds =>
        unfold flatDs at h1 ⊢
        rw [Bool.and_eq_true] at h1 ⊢
        exact ⟨h1.1, fill_flat h1.2 h2⟩
end
theorem flat_ints : ∀ ns : List Int, flatDs (ns.map .int) = true
  | [] => rfl
  | n :: ns => by
    rw [List.map_cons]
    unfold flatDs
    rw [flat_ints ns]
    rfl
theorem Pt.flat (L : Shp) : ∀ t : Pt, flatD (t.toD L) = true := by
  intro t
  induction t with
  | n0 w ns =>
    show flatDs (_ :: fill _ _ _) = true
    unfold flatDs
    rw [fill_flat (flat_ints ns) rfl]
    rfl
  | n1 w ns k i1 =>
    show flatDs (_ :: fill _ _ _) = true
    unfold flatDs
    rw [fill_flat (flat_ints ns) (by unfold flatDs; rw [i1]; rfl)]
    rfl
  | n2 w ns k l i1 i2 =>
    show flatDs (_ :: fill _ _ _) = true
    unfold flatDs
    rw [fill_flat (flat_ints ns) (by unfold flatDs; rw [i1]; unfold flatDs; rw [i2]; rfl)]
    rfl
end CS
set_option Elab.async false
set_option maxRecDepth 100000
set_option maxHeartbeats 8000000
set_option linter.unusedVariables false
set_option pp.maxSteps 5000
/-! a paper read off a line, part by part -/
namespace CS
open PySem L2 RZ LamX
/-- told in shapes -/
def tB27 : TE := tDIn (tVar 5) (tVar 1)
/-- what stands while a paper is read -/
structure TrS (C : Addr) (L : Shp) (TT : List (Addr × Str)) (H H' : Hp) (p d pd : Addr) (n : V) (ws : List Str) (q m : Nat) (kvs : List (Key × V)) : Prop where
  x : ExtP H p H'
  t : Tabs TT H'
  l : LineAt C H' p n ws q m
  s : H' d = some (.dK (kvS L))
  k : H' pd = some (.dK kvs)
/-- an address that is none of what stood -/
def NewP (H : Hp) (p pd : Addr) : Prop := ∀ b o, H b = some o → b ≠ p → (∀ ps, o ≠ .tbl ps) → b ≠ pd
section
variable {C : Addr} {L : Shp} {TT : List (Addr × Str)} {H H' H2 : Hp} {p d pd : Addr} {n : V} {ws : List Str} {q m q2 m2 : Nat} {kvs kvs2 : List (Key × V)}
theorem TrS.at_ (h : TrS C L TT H H' p d pd n ws q m kvs) : d ≠ p ∧ pd ≠ p := by
  obtain ⟨dx, wl, a, b⟩ := h.l
  exact ⟨(fun z => by have := h.s; rw [z, a] at this; cases this), (fun z => by have := h.k; rw [z, a] at this; cases this)⟩
theorem TrS.chg (h : TrS C L TT H H' p d pd n ws q m kvs) (c : Chg H' p H2) (l : LineAt C H2 p n ws q2 m2) : TrS C L TT H H2 p d pd n ws q2 m2 kvs := by
  obtain ⟨dx, wl, a, b⟩ := h.l
  exact ⟨h.x.trans (.chg c), tabs_chg h.t a c, l, c _ _ h.s h.at_.1, c _ _ h.k h.at_.2⟩
theorem TrS.ext (h : TrS C L TT H H' p d pd n ws q m kvs) (c : ExtP H' p H2) (t : Tabs TT H2) (l : LineAt C H2 p n ws q2 m2) : TrS C L TT H H2 p d pd n ws q2 m2 kvs :=
  ⟨h.x.trans c, t, l, c _ _ h.s h.at_.1 (fun _ z => by cases z), c _ _ h.k h.at_.2 (fun _ z => by cases z)⟩
theorem tabs_dict {ks : List (Key × V)} (h : Tabs TT H) (e : H pd = some (.dK ks)) : Tabs TT (upd H pd (.dK kvs2)) := fun z hz => by
  obtain ⟨ps, b1, b2, b3⟩ := h z hz
  refine ⟨ps, ?_, b2, fun pos cv y => ?_⟩
  · rw [upd_ne (fun w => by rw [w, e] at b1; cases b1)]
    exact b1
  · obtain ⟨c0, rfl, y2⟩ := b3 pos cv y
    refine ⟨c0, rfl, ?_⟩
    unfold CodeO at y2 ⊢
    rw [upd_ne (fun w => by rw [w, e] at y2; cases y2)]
    exact y2
theorem TrS.put (h : TrS C L TT H H' p d pd n ws q m kvs) (np : NewP H p pd) (nd : d ≠ pd) : TrS C L TT H (upd H' pd (.dK kvs2)) p d pd n ws q m kvs2 := by
  obtain ⟨dx, wl, a, b⟩ := h.l
  have e1 : p ≠ pd := h.at_.2.symm
  have e2 : wl ≠ pd := fun z => by have := h.k; rw [← z, b] at this; cases this
  exact ⟨fun b o z w t => by rw [upd_ne (np b o z w t)]; exact h.x b o z w t, tabs_dict h.t h.k, ⟨dx, wl, by rw [upd_ne e1]; exact a, by rw [upd_ne e2]; exact b⟩, by rw [upd_ne nd]; exact h.s, upd_same⟩
theorem tk_extP {K : PySem.W.Frag} {C2 dx : Addr} {fs : List (Str × V)} (hp : H p = some (.ins C2 dx fs)) (e : ExtP H p H') : TK K H H' := fun a xs h => by
  rcases h with (h | ⟨o, h⟩) | h
  · exact .inl (.inl (e _ _ h (fun z => by rw [z, hp] at h; cases h) fun _ z => by cases z))
  · exact .inl (.inr ⟨o, e _ _ h (fun z => by rw [z, hp] at h; cases h) fun _ z => by cases z⟩)
  · exact .inr h
theorem tk_dict {K : PySem.W.Frag} {ks : List (Key × V)} (e : H pd = some (.dK ks)) : TK K H (upd H pd (.dK kvs2)) := fun a xs h => by
  rcases h with (h | ⟨o, h⟩) | h
  · exact .inl (.inl (by rw [upd_ne (fun z => by rw [z, e] at h; cases h)]; exact h))
  · exact .inl (.inr ⟨o, by rw [upd_ne (fun z => by rw [z, e] at h; cases h)]; exact h⟩)
  · exact .inr h
theorem seq_extP {K : PySem.W.Frag} {C2 dx a : Addr} {fs : List (Str × V)} {xs : List V} (hp : H p = some (.ins C2 dx fs)) (e : ExtP H p H') (h : SqL K H a xs) : SqL K H' a xs := by
  rcases h with (h | ⟨o, h⟩) | h
  · exact .inl (.inl (e _ _ h (fun z => by rw [z, hp] at h; cases h) fun _ z => by cases z))
  · exact .inl (.inr ⟨o, e _ _ h (fun z => by rw [z, hp] at h; cases h) fun _ z => by cases z⟩)
  · exact .inr h
theorem seq_dict {K : PySem.W.Frag} {ks : List (Key × V)} {a : Addr} {xs : List V} (e : H pd = some (.dK ks)) (h : SqL K H a xs) : SqL K (upd H pd (.dK kvs2)) a xs := by
  rcases h with (h | ⟨o, h⟩) | h
  · exact .inl (.inl (by rw [upd_ne (fun z => by rw [z, e] at h; cases h)]; exact h))
  · exact .inl (.inr ⟨o, by rw [upd_ne (fun z => by rw [z, e] at h; cases h)]; exact h⟩)
  · exact .inr h
theorem TrS.ins (h : TrS C L TT H H' p d pd n ws q m kvs) : ∃ dx fs, H' p = some (.ins C dx fs) := let ⟨dx, wl, a, b⟩ := h.l; ⟨dx, _, a⟩
theorem zip_snoc {α β : Type} {l : List α} {xs : List β} {j : Nat} {a : α} {x : β} (h : l[j]? = some a) (e : xs.length = j) : (l.take (j + 1)).zip (xs ++ [x]) = (l.take j).zip xs ++ [(a, x)] := by
  rw [take_snoc h, List.zip_append]
  · rfl
  · rw [List.length_take, e]
    have := (List.getElem?_eq_some_iff.mp h).1
    omega
theorem not_before {α β : Type} {l : List α} {xs : List β} {j : Nat} {a : α} (nd : l.Nodup) (h : l[j]? = some a) : a ∉ ((l.take j).zip xs).map (·.1) := fun m => by
  obtain ⟨q, hq, e⟩ := List.mem_map.mp m
  obtain ⟨u, v⟩ := q
  have e : u = a := e
  subst e
  have h1 := (List.of_mem_zip hq).1
  obtain ⟨k, hk, ek⟩ := List.mem_iff_getElem.mp h1
  rw [List.length_take] at hk
  rw [List.getElem_take] at ek
  have lj := (List.getElem?_eq_some_iff.mp h)
  obtain ⟨lj1, lj2⟩ := lj
  exact List.pairwise_iff_getElem.mp nd k j (by omega) lj1 (by omega) (by rw [ek, lj2])
end
section
variable {P : Program} {w : World} {K : PySem.W.Frag} {mg : Str → Option Value} {base : Heap} {C CB : Addr} {TT : List (Addr × Str)} {L : Shp}
def spTreeIn (C CB : Addr) (L : Shp) (K : PySem.W.Frag) (TT : List (Addr × Str)) (h : Nat) : Sp := fun vs H Q E => ∃ (p d : Addr) (n : V) (ws : List Str) (i m : Nat), vs = [.ref p, .ref d] ∧ LineAt C H p n ws i m ∧ H d = some (.dK (kvS L)) ∧ ws.length ≤ 4000 ∧ (∀ x ∈ ws, x.length ≤ 3000) ∧ m ≤ 20 ∧ 20 ≤ m + h ∧ Tabs TT H ∧
  (∀ t j m2, parse (kdS L) ws (h + 1) i m = .inl (t, j, m2) → ∀ H' r, ExtP H p H' → Tabs TT H' → LineAt C H' p n ws j m2 → Dp K H' (.ref r) (t.toD L) → Q (.ref r) H') ∧
  (∀ q, parse (kdS L) ws (h + 1) i m = .inr q → ∀ H' e, ExtP H p H' → Tabs TT H' → H' e = some (.xd [("word", .int (q : Int)), ("line", n)]) → E (.ref CB) (some e) H')
def spTreeP (C CB : Addr) (L : Shp) (K : PySem.W.Frag) (TT : List (Addr × Str)) (h : Nat) : Sp := fun vs H Q E => ∃ h', h = h' + 1 ∧ spTreeIn C CB L K TT h' vs H Q E
abbrev nsTreeIn : List Str := ["line", "shapes", "word", "parts", "at"]
theorem scTreeIn : FnScope nsTreeIn ["line", "shapes"] (defScope sTreeIn) := ⟨rfl, rfl, rfl, by decide +kernel, rfl, by decide +kernel, by decide +kernel⟩
theorem ok_tree_in {f : Addr} {fd : FuncData} {c0 p0 : Addr} {TT : List (Addr × Str)} (F : FunC K "tree_in" "tree_in" sTreeIn f fd c0) (TB : LamX.TabB base mg c0 p0) (hm : (p0, (("tree_in" : Str) ++ ".<locals>.") ++ "<lambda>") ∈ TT) (hut : ∀ p ∈ TT, p.1 = p0 → p.2 = (("tree_in" : Str) ++ ".<locals>.") ++ "<lambda>")
    {f1 : Addr} {fd1 : FuncData} (D1 : Df K mg "kid_places" sKidPlaces ["shape"] f1 fd1) (G1 : FnOk P w K mg base CX0 1 f1 fd1 ["shape"] (spPlaces K))
    {f2 : Addr} {fd2 : FuncData} (D2 : Df K mg "whole_places" sWholePlaces ["shape"] f2 fd2) (G2 : FnOk P w K mg base CX0 1 f2 fd2 ["shape"] (spWhl K))
    {h : Nat} (OK : LOk L) (Lk : LnK K mg C) (T : Bt mg) {tMW : Tok} (gMW : mg "MOST_WORDS" = some (.int 20 tMW)) {fR fT fG : Addr} {fdR fdT fdG : FuncData} (mR : Meth K C "refuse" fR) (bR : Binds K fdR ["self"] []) (GR : FnOk P w K mg base (L2.CX P w) 3 fR fdR ["self"] (spLnRefuse C CB)) (mT : Meth K C "taken" fT) (bT : Binds K fdT ["self", "may_stand"] []) (GT : ∀ act, ActOk1 P w K mg base 3 act → FnOk P w K mg base (L2.CX P w) 4 fT fdT ["self", "may_stand"] (spLnTaken C CB K act)) (mG : Meth K C "integer" fG) (bG : Binds K fdG ["self"] []) (GG : FnOk P w K mg base (L2.CX P w) 5 fG fdG ["self"] (spLnInt C CB)) {f9 : Addr} {fd9 : FuncData} (D9 : Df K mg "tree_in" sTreeIn ["line", "shapes"] f9 fd9) (G9 : FnOk P w K mg base (L2.CX P w) (h + 6) f9 fd9 ["line", "shapes"] (spTreeP C CB L K TT h)) : FnOk P w K mg base (L2.CX P w) (h+7) f fd ["line", "shapes"] (spTreeIn C CB L K TT h) := by
  refine F.okX scTreeIn (fun vs H Q E h => ?_) (fun A outer s H vs Q E hr h => ?_)
  · obtain ⟨p, d, n, ws, i, m, rfl, _⟩ := h
    rfl
  · obtain ⟨p, d, n, ws, i, m, rfl, hl, hd, lw, lx, m20, mh, hT, kQ, kE⟩ := h
    have hu := hu_of hr
    refine ⟨_, (pss_cons (ps_if (pt_cmpR op_eq (L2.pe_fld (pv 0) rfl) (pe_glob (v := .int 20) rfl gMW ⟨_, rfl⟩) (nomark _)) (pss_one (ps_expr (pe_meth0 (pv 0) Lk.cl mR GR (hr.mono (by omega)) bR .nil (passes_call (takes_of rfl rfl rfl rfl) (fun _ _ _ _ h => h))))) pss_nil)
      (pss_cons (ps_set (i := 2) scTreeIn.nd rfl (Or.inl rfl) (pe_methA (k := 2) (E := E) (x := "told") (T := TT) (R := RTaken C CB (tB27)) (tb := fun _ => tB27) (pv 0) Lk.cl mT GT (hr.mono (by omega)) bT (fun _ => rfl) (lsc_by (by show lscB (defScope sTreeIn) _ nsTreeIn = true; decide +kernel)) (by rfl) (fun _ _ _ _ _ _ => .of_eq rfl) (passes_call (takes_of rfl rfl rfl rfl) (fun _ _ _ _ h => h)) (pe_lamP (x := "told") TB rfl hm hut (lsc_by (by show lscB (defScope sTreeIn) _ nsTreeIn = true; decide +kernel)) rfl) (fun A outer s H E f c' hr2 => pe_cmp (pc_din (hu_of hr2) (pv 5) (pv 1)) rfl) (fun l σ H p f dx fs Q F hp hf r => taken_lact l σ H p f dx fs Q F hp hf r)))
      (pss_cons (ps_fldaug (pv 0) pe_int in_add)
      (pss_cons (ps_set (i := 3) scTreeIn.nd rfl (Or.inr rfl) pe_dnewK)
      (pss_cons (ps_for PassesOwn.leaving rfl (pi_list (pe_call G2 (hr.mono (by omega)) (by rfl) D2.g D2.F.kp D2.b .nil pass0 (pa_cons (pe_dget hu (pv 1) (pv 2) (fun _ _ => rfl)) pa_nil))) (pg_name (i := 4) scTreeIn.nd rfl (Or.inl rfl)) (pss_one (ps_dput hu (pv 3) (pv 4) (pe_meth0 (pv 0) Lk.cl mG GG (hr.mono (by omega)) bG .nil (passes_call (takes_of rfl rfl rfl rfl) (fun _ _ _ _ h => h))) rfl)))
      (pss_cons (ps_for PassesOwn.leaving rfl (pi_list (pe_call G1 (hr.mono (by omega)) (by rfl) D1.g D1.F.kp D1.b .nil pass0 (pa_cons (pe_dget hu (pv 1) (pv 2) (fun _ _ => rfl)) pa_nil))) (pg_name (i := 4) scTreeIn.nd rfl (Or.inl rfl)) (pss_one (ps_dput hu (pv 3) (pv 4) (pe_call G9 (hr.mono (by omega)) (by rfl) D9.g D9.F.kp D9.b .nil (passes_call (takes_of rfl rfl rfl rfl) (fun _ _ _ _ h => h)) (pa_cons (pv 0) (pa_cons (pv 1) pa_nil))) rfl)))
      (pss_one (ps_ret (pe_tup (pa_cons (pv 2) (StX.pa_star (pe_lc (own := [("at", 4)]) (g := gName 4) (tt := tYes) rfl scTreeIn.nd (pi_list (pe_callB (call_sortedDI rfl) (by rfl) T.sorted (by decide +kernel) (pa_cons (pv 3) pa_nil))) (blkOk_by (N := nsTreeIn) (sc := defScope sTreeIn) (by decide +kernel)) (fun _ _ _ _ _ => pg_name (i := 4) scTreeIn.nd rfl (Or.inl rfl)) (fun _ _ _ _ _ => pts_nil) (fun _ _ _ _ _ => (pe_dget hu (pv 3) (pv 4) (fun _ _ => rfl)))) pa_nil))))))))))), ?_⟩
    obtain ⟨dx, wl, h1, h2⟩ := id hl
    refine ⟨_, rfl, p, C, dx, _, _, rfl, h1, Lk.cl, Lk.nM, lnF_named, rfl, _, rfl, ?_⟩
    have npd : d ≠ p := fun z => by rw [z, h1] at hd; cases hd
    by_cases c20 : m = 20
    · have e : parse (kdS L) ws (h + 1) i m = .inr i := by rw [parse, if_pos c20]
      exact iteTe (decide_eq_true (by rw [c20]; rfl)) ⟨_, rfl, p, dx, _, rfl, h1, lnF_no (by decide +kernel) (by decide +kernel) (by decide +kernel) (by decide +kernel), p, n, ws, i, m, rfl, hl, fun H' e' s he => kE i e H' e' (ExtP.ext (.of s)) (hT.ext s) he⟩
    refine iteFe (decide_eq_false fun z => c20 (by have : (m : Int) = 20 := V.int.inj z; omega)) ?_
    refine ⟨_, rfl, p, dx, _, rfl, h1, lnF_no (by decide +kernel) (by decide +kernel) (by decide +kernel) (by decide +kernel), hT, fun H2 e2 t2 => ?_⟩
    have hl2 : LineAt C H2 p n ws i m := ⟨dx, wl, e2 _ _ h1 (fun _ z => by cases z), e2 _ _ h2 (fun _ z => by cases z)⟩
    have hd2 : H2 d = some (.dK (kvS L)) := e2 _ _ hd (fun _ z => by cases z)
    have lz : ws.length ≤ sizeLine := Nat.le_trans lw (by decide)
    have ref : (parse (kdS L) ws (h + 1) i m = .inr i) → refE CB n i H2 E := fun e H' e' s he => kE i e H' e' (ExtP.ext (e2.trans (.of s))) (t2.ext s) he
    have tst : ∀ x b, (shpOf L x).isSome = b → ∀ H', Same H2 H' → tB27 ([some (.ref p), some (.ref d), none, none, none] ++ [some (.str x)]) H' (fun v H3 => v = .bl b ∧ Same H' H3) := fun x b eb H' s => by
      refine ⟨_, rfl, _, rfl, d, _, rfl, DGet.k (k := Sum.inr x) (s _ _ hd2), ?_, Same.refl _⟩
      rw [valV_kvS, Option.isSome_map, eb]
    cases hx : ws[i]? with
    | none => exact ⟨n, ws, i, m, false, hl2, lz, (fun x e => by rw [hx] at e; cases e), .inr ⟨.inl hx, ref (parse_no1 hx)⟩⟩
    | some w =>
      cases hk : shpOf L w with
      | none =>
        have ek : kdS L w = none := by unfold kdS; rw [hk]; rfl
        exact ⟨n, ws, i, m, false, hl2, lz, (fun x e => by rw [hx] at e; cases e; exact tst w false (by rw [hk]; rfl)), .inr ⟨.inr rfl, ref (parse_no2 hx ek)⟩⟩
      | some s =>
        have ek : kdS L w = some ((wpl 0 (lsS s)).length, (kpl 0 (lsS s)).length) := by unfold kdS; rw [hk]; rfl
        obtain ⟨o9, ow, ok, o2⟩ := OK w s hk
        have pe := parse_eq (h := h) c20 hx ek o2
        refine ⟨n, ws, i, m, true, hl2, lz, (fun x e => by rw [hx] at e; cases e; exact tst w true (by rw [hk]; rfl)), .inl ⟨w, hx, rfl, fun H3 c3 l3 => ?_⟩⟩
        obtain ⟨dx3, wl3, h3, g3⟩ := id l3
        refine ⟨_, rfl, p, C, dx3, _, _, rfl, h3, Lk.cl, Lk.nM, lnF_named, _, _, rfl, rfl, dx3, _, h3, (by show 4 < 1000; decide), ?_⟩
        rw [show ((m : Int) + 1) = ((m + 1 : Nat) : Int) by omega, lnF_put_named]
        intro pd hpd
        have c4 : Chg H3 p (upd H3 p (.ins C dx3 (lnF n wl3 (i + 1) (m + 1)))) := fun b o e nb => by rw [upd_ne nb]; exact e
        have x4 : ExtP H p (upd H3 p (.ins C dx3 (lnF n wl3 (i + 1) (m + 1)))) := ((ExtP.ext e2).trans (.chg c3)).trans (.chg c4)
        have t4 : Tabs TT (upd H3 p (.ins C dx3 (lnF n wl3 (i + 1) (m + 1)))) := tabs_chg (tabs_chg t2 (e2 _ _ h1 (fun _ z => by cases z)) c3) h3 c4
        have np : NewP H p pd := fun b o hb nb nt z => by
          have := x4 b o hb nb nt
          rw [z, hpd] at this
          cases this
        have nd : d ≠ pd := np d _ hd npd (fun _ z => by cases z)
        have k5 := Same.new (o := .dK []) hpd
        have nwl : wl3 ≠ p := fun z => by rw [z, h3] at g3; cases g3
        have S5 : TrS C L TT H (upd (upd H3 p (.ins C dx3 (lnF n wl3 (i + 1) (m + 1)))) pd (.dK [])) p d pd n ws (i + 1) (m + 1) [] :=
          ⟨x4.trans (.ext (.of k5)), t4.ext k5, ⟨dx3, wl3, k5 _ _ upd_same, k5 _ _ (by rw [upd_ne nwl]; exact g3)⟩, k5 _ _ (by rw [upd_ne npd]; exact c3 _ _ hd2 npd), upd_same⟩
        generalize upd (upd H3 p (.ins C dx3 (lnF n wl3 (i + 1) (m + 1)))) pd (.dK []) = H5 at *
        have get : ∀ H', H' d = some (.dK (kvS L)) → DGet H' d (.str w) (some (.str s)) := fun H' e => by
          have := DGet.k (k := Sum.inr w) e
          rw [valV_kvS, hk] at this
          exact this
        obtain ⟨h', rfl⟩ : ∃ h', h = h' + 1 := ⟨h - 1, by omega⟩
        refine ⟨_, rfl, _, rfl, d, _, rfl, get _ S5.s, s, rfl, o9, fun D H6 s6 hD => ?_⟩
        have S6 : TrS C L TT H H6 p d pd n ws (i + 1) (m + 1) [] := S5.ext (.ext (.of s6)) (S5.t.ext s6) (S5.l.same s6)
        rw [ow, List.map_map] at hD
        have pm := pl_perm (lsS s) 0
        have nds : (wpl 0 (lsS s) ++ kpl 0 (lsS s)).Nodup := pm.nodup_iff.mpr List.nodup_range'
        have ndw : (wpl 0 (lsS s)).Nodup := (List.nodup_append.mp nds).1
        have ndk : (kpl 0 (lsS s)).Nodup := (List.nodup_append.mp nds).2.1
        have lw9 : (wpl 0 (lsS s)).length + (kpl 0 (lsS s)).length ≤ 9 := by
          have := pm.length_eq
          rw [List.length_append, List.length_range', ← len_lsS] at this
          exact Nat.le_trans (Nat.le_of_eq this) o9
        refine ⟨D, rfl, ⟨_, hD⟩, for_list (K := K) (a := D) (xs := (wpl 0 (lsS s)).map (V.int ∘ fun k : Nat => (k : Int))) (fun j σ H' => ∃ v4 ns, σ = [some (.ref p), some (.ref d), some (.str w), some (.ref pd), v4] ∧ ns.length = j ∧ PreI ws (i + 1) ns ∧ TrS C L TT H H' p d pd n ws (i + 1 + j) (m + 1) (kvP (((wpl 0 (lsS s)).take j).zip (ns.map V.int))) ∧ SqL K H' D ((wpl 0 (lsS s)).map (V.int ∘ fun k : Nat => (k : Int)))) ⟨none, [], rfl, rfl, (fun _ _ z => by cases z), S6, hD⟩ (fun j σ H' _ ⟨_, _, _, _, _, _, q⟩ => q) ?_ ?_⟩
        · rintro j x σ H7 hi ⟨v4, ns, rfl, en, pr, st, sq⟩
          rw [List.getElem?_map] at hi
          obtain ⟨a, ha, rfl⟩ := Option.map_eq_some_iff.mp hi
          have lj := (List.getElem?_eq_some_iff.mp ha).1
          obtain ⟨dx7, wl7, h7, g7⟩ := id st.l
          refine ⟨_, rfl, p, dx7, _, rfl, h7, lnF_no (by decide +kernel) (by decide +kernel) (by decide +kernel) (by decide +kernel), p, n, ws, i + 1 + j, m + 1, rfl, st.l, lz, lx, ?_⟩
          cases ei : intAt ws (i + 1 + j) with
          | none =>
            refine .inr ⟨rfl, fun H8 e8 s8 he => kE (i + 1 + j) ?_ H8 e8 (st.x.trans (.ext (.of s8))) (st.t.ext s8) he⟩
            rw [pe, ints_no pr (by omega) (by rw [en]; exact ei), en]
          | some z =>
            refine .inl ⟨z, rfl, fun H8 c8 l8 => ?_⟩
            have st8 := st.chg c8 l8
            refine ⟨_, rfl, _, rfl, pd, _, rfl, DPut.k (k := Sum.inl (a : Int)) st8.k (Nat.lt_of_le_of_lt (show _ ≤ 9 by unfold kvP; rw [List.length_map, List.length_zip, List.length_map, List.length_take]; omega) (by decide)), ?_⟩
            refine ⟨_, ns ++ [z], rfl, by rw [List.length_append, en]; rfl, ?_, ?_, ?_⟩
            · intro e v he
              by_cases c : e < ns.length
              · rw [List.getElem?_append_left c] at he
                exact pr e v he
              · rw [List.getElem?_append_right (by omega)] at he
                have e0 : e - ns.length = 0 := by
                  cases q : e - ns.length with
                  | zero => rfl
                  | succ _ => rw [q] at he; cases he
                rw [e0] at he
                cases he
                rw [show e = j by omega]
                exact ei
            · rw [kvP_put (not_before ndw ha), List.map_append, List.map_cons, List.map_nil, zip_snoc ha (by rw [List.length_map]; exact en), show i + 1 + (j + 1) = i + 1 + j + 1 by omega]
              exact st8.put np nd
            · exact seq_dict st8.k (seq_extP h7 (.chg c8) sq)
        rintro σ H7 ⟨v4, ns, rfl, en, pr, st, _⟩
        rw [List.length_map] at en
        rw [List.length_map, List.take_length] at st
        have ri := ints_yes pr en
        rw [ri] at pe
        dsimp only at pe
        generalize eq0 : i + 1 + (wpl 0 (lsS s)).length = q0 at *
        refine ⟨_, rfl, _, rfl, d, _, rfl, get _ st.s, s, rfl, o9, fun D2 H8 s8 hD2 => ?_⟩
        have S8 := st.ext (.ext (.of s8)) (st.t.ext s8) (st.l.same s8)
        rw [ok, List.map_map] at hD2
        refine ⟨D2, rfl, ⟨_, hD2⟩, for_list (K := K) (a := D2) (xs := (kpl 0 (lsS s)).map (V.int ∘ fun k : Nat => (k : Int))) (fun j σ H' => ∃ v4 us ks q2 m2, σ = [some (.ref p), some (.ref d), some (.str w), some (.ref pd), v4] ∧ parseK (kdS L) ws (h' + 1) j q0 (m + 1) = .inl (ks, q2, m2) ∧ us.length = j ∧ DpAll K H' us (ks.map (Pt.toD L)) ∧ TrS C L TT H H' p d pd n ws q2 m2 (kvP ((wpl 0 (lsS s)).zip (ns.map V.int) ++ ((kpl 0 (lsS s)).take j).zip us)) ∧ SqL K H' D2 ((kpl 0 (lsS s)).map (V.int ∘ fun k : Nat => (k : Int)))) ⟨v4, [], [], q0, m + 1, rfl, rfl, rfl, .nil, by rw [List.take_zero, List.zip_nil_left, List.append_nil]; exact S8, hD2⟩ (fun j σ H' _ ⟨_, _, _, _, _, _, _, _, _, _, q⟩ => q) ?_ ?_⟩
        · rintro j x σ H9 hi ⟨v4, us, ks, q2, m2, rfl, pk, eu, du, st9, sq⟩
          rw [List.getElem?_map] at hi
          obtain ⟨a, ha, rfl⟩ := Option.map_eq_some_iff.mp hi
          have lj := (List.getElem?_eq_some_iff.mp ha).1
          obtain ⟨dx9, fs9, h9⟩ := st9.ins
          have mm := parseK_m (show m + 1 ≤ 20 by omega) pk
          have snoc := parseK_snoc (kd := kdS L) (ws := ws) (h := h' + 1) (j := j) (q := q0) (m := m + 1)
          rw [pk] at snoc
          dsimp only at snoc
          refine ⟨_, rfl, _, rfl, h', rfl, p, d, n, ws, q2, m2, rfl, st9.l, st9.s, lw, lx, mm.2, by omega, st9.t, fun t j3 m3 e3 HA r xA tA lA dA => ?_, fun q e3 HA e xA tA he => ?_⟩
          · rw [e3] at snoc
            have stA := st9.ext xA tA lA
            refine ⟨_, rfl, _, rfl, pd, _, rfl, DPut.k (k := Sum.inl (a : Int)) stA.k (Nat.lt_of_le_of_lt (show _ ≤ 9 by unfold kvP; rw [List.length_map, List.length_append, List.length_zip, List.length_zip, List.length_map, List.length_take]; omega) (by decide)), ?_⟩
            have na : a ∉ ((wpl 0 (lsS s)).zip (ns.map V.int) ++ ((kpl 0 (lsS s)).take j).zip us).map (·.1) := by
              rw [List.map_append, List.mem_append]
              rintro (z | z)
              · obtain ⟨y, hy, ey⟩ := List.mem_map.mp z
                obtain ⟨y1, y2⟩ := y
                have ey : y1 = a := ey
                subst ey
                exact (List.nodup_append.mp nds).2.2 _ (List.of_mem_zip hy).1 _ (List.mem_of_getElem? ha) rfl
              · exact not_before ndk ha z
            refine ⟨_, us ++ [.ref r], ks ++ [t], j3, m3, rfl, snoc, by rw [List.length_append, eu]; rfl, ?_, ?_, ?_⟩
            · rw [List.map_append]
              have f1 : flatDs (ks.map (Pt.toD L)) = true := by
                clear pk snoc du
                induction ks with
                | nil => rfl
                | cons k ks ih =>
                  rw [List.map_cons]
                  unfold flatDs
                  rw [Pt.flat L k, ih]
                  rfl
              refine DpAll.app (DpAll.tk (tk_dict stA.k) f1 (DpAll.tk (tk_extP h9 xA) f1 du)) (.cons (Dp.tk (tk_dict stA.k) (Pt.flat L t) dA) .nil)
            · rw [kvP_put na, List.append_assoc, ← zip_snoc ha eu]
              exact stA.put np nd
            · exact seq_dict stA.k (seq_extP h9 xA sq)
          · rw [e3] at snoc
            refine kE q ?_ HA e (st9.x.trans xA) tA he
            rw [pe, parseK_bad snoc lj]
        rintro σ H9 ⟨v4, us, ks, q2, m2, rfl, pk, eu, du, st9, _⟩
        rw [List.length_map] at pk eu
        rw [List.length_map, List.take_length] at st9
        rw [pk] at pe
        dsimp only at pe
        have lks := parseK_len pk
        have f0 := fill_at (s := lsS s) (a := 0) (xs := ns.map V.int) (ks := us) (by rw [List.length_map]; exact en) eu
        have fst_ : ((wpl 0 (lsS s)).zip (ns.map V.int) ++ (kpl 0 (lsS s)).zip us).map (·.1) = wpl 0 (lsS s) ++ kpl 0 (lsS s) := by
          rw [List.map_append, List.map_fst_zip (by rw [List.length_map, en]; exact Nat.le_refl _), List.map_fst_zip (by rw [eu]; exact Nat.le_refl _)]
        have len9 : (lsS s).length ≤ 9 := by rw [← len_lsS]; exact o9
        refine ⟨_, rfl, _, rfl, pd, _, ((wpl 0 (lsS s)) ++ (kpl 0 (lsS s))).map (fun k : Nat => (k : Int)), rfl, .inl st9.k, ?_, ?_, fun ys D3 perm srt nD3 => ?_⟩
        · rw [← fst_, List.map_map, List.map_map, kvP, List.map_map]
          rfl
        · rw [List.length_map, List.length_append]
          omega
        have eys : ys = (List.range' 1 (lsS s).length).map (fun k : Nat => (k : Int)) := by
          refine (perm.trans (pm.map _)).eq_of_pairwise (fun a b _ _ x y => by omega) srt ?_
          rw [List.pairwise_map]
          exact (show List.Pairwise (fun a b : Nat => a < b) (List.range' 1 (lsS s).length) from List.pairwise_lt_range' 1 (by decide)).imp fun h => by omega
        have sA := Same.new (o := .lst (ys.map V.int)) nD3
        have hA : (upd H9 D3 (.lst (ys.map V.int))) D3 = some (.lst (ys.map V.int)) := upd_same
        have stA := st9.ext (.ext (.of sA)) (st9.t.ext sA) (st9.l.same sA)
        have duA := DpAll.same sA du
        generalize upd H9 D3 (.lst (ys.map V.int)) = HA at *
        refine ⟨D3, rfl, ⟨_, SqL.of hA⟩, fun D4 nD4 => lc_it (walk_list (K := K) (a := D3) (xs := ys.map V.int)) (fun e H' => Same HA H' ∧ H' D4 = some (.lst ((fill (lsS s) (ns.map V.int) us).take e))) ⟨Same.new nD4, upd_same⟩ (fun e H' _ ⟨s, _⟩ => SqL.of (s _ _ hA)) ?_ ?_⟩
        · rintro e x HB HC he ⟨sB, hB⟩ ⟨rfl, hx0⟩
          rw [List.length_map, eys, List.length_map, List.length_range'] at he
          have hx1 : x = .int ((e + 1 : Nat) : Int) := by
            rw [eys, List.map_map, List.getElem?_map, List.getElem?_range' (by omega)] at hx0
            cases hx0
            show V.int ((1 + 1 * e : Nat) : Int) = _
            rw [show 1 + 1 * e = e + 1 by omega]
          subst hx1
          obtain ⟨v, hv⟩ : ∃ v, (fill (lsS s) (ns.map V.int) us)[e]? = some v := ⟨_, List.getElem?_eq_getElem (by rw [f0.1]; exact he)⟩
          have mem := f0.2 e v hv
          rw [show 0 + e + 1 = e + 1 by omega] at mem
          have gv := valV_kvP (by rw [fst_]; exact nds) mem
          refine ⟨rfl, ?_⟩
          dsimp only [tYes]
          rw [if_pos rfl]
          refine ⟨_, rfl, _, rfl, pd, v, rfl, ?_, _, hB, ?_, same_upd nD4 sB, ?_⟩
          · have := DGet.k (k := Sum.inl ((e + 1 : Nat) : Int)) (sB _ _ stA.k)
            rw [gv] at this
            exact this
          · rw [List.length_take, f0.1]
            exact Nat.lt_of_le_of_lt (Nat.min_le_right _ _) (Nat.lt_of_le_of_lt len9 (by decide))
          · rw [upd_same, take_snoc hv]
        rintro HB ⟨sB, hB⟩
        rw [eys, List.length_map, List.length_map, List.length_range', ← f0.1, List.take_length] at hB
        refine ⟨D4, _, rfl, .inr (SqL.of hB), ?_⟩
        show (V.str w :: (fill (lsS s) (ns.map V.int) us ++ [])).length ≤ sizeLine ∧ ∀ r, HB r = none → Q (.ref r) (upd HB r (.tup (V.str w :: (fill (lsS s) (ns.map V.int) us ++ []))))
        rw [List.append_nil]
        refine ⟨by rw [List.length_cons, f0.1]; exact Nat.le_trans (Nat.succ_le_succ len9) (by decide), fun r nr => ?_⟩
        have sR := Same.new (o := .tup (V.str w :: fill (lsS s) (ns.map V.int) us)) nr
        refine kQ _ _ _ pe _ r (stA.x.trans (.ext (.of (sB.trans sR)))) ((stA.t.ext sB).ext sR) ((stA.l.same sB).same sR) ?_
        rw [Pt.mk_toD (by rw [lks]; exact o2)]
        have eL : shL L w = lsS s := by unfold shL; rw [hk]; rfl
        rw [eL]
        exact .tup (SqT.of upd_same) (.cons (.str _) (DpAll.fill (DpAll.ints ns) (DpAll.same (sB.trans sR) duA)))
end
end CS
set_option Elab.async false
set_option maxRecDepth 100000
set_option maxHeartbeats 8000000
set_option linter.unusedVariables false
set_option pp.maxSteps 5000
/-! a paper read off a text -/
namespace CS
open PySem L2 RZ LamX
theorem spl_len (c : Nat) : ∀ l : List Nat, (spl c l).length ≤ l.length + 1 ∧ ∀ p ∈ spl c l, p.length ≤ l.length
  | [] => by simp [spl]
  | a :: l => by
    have ih := spl_len c l
    unfold spl
    split
    · refine ⟨by rw [List.length_cons, List.length_cons]; omega, fun p hp => ?_⟩
      rcases List.mem_cons.mp hp with rfl | hp
      · exact Nat.zero_le _
      · exact Nat.le_succ_of_le (ih.2 p hp)
    · split
      · exact ⟨by simp, fun p hp => by rw [List.mem_singleton.mp hp]; simp⟩
      · next q ps e =>
        rw [e] at ih
        refine ⟨by have := ih.1; simp only [List.length_cons] at this ⊢; omega, fun p hp => ?_⟩
        rcases List.mem_cons.mp hp with rfl | hp
        · exact Nat.succ_le_succ (ih.2 q List.mem_cons_self)
        · exact Nat.le_succ_of_le (ih.2 p (List.mem_cons_of_mem _ hp))
theorem split_len (x : Str) (c : Nat) (h : c < 256) : (Txt.split x (sgn c)).length ≤ x.length + 1 ∧ ∀ w ∈ Txt.split x (sgn c), w.length ≤ x.length := by
  rw [split_eq x c h, List.length_map, len_lsS]
  refine ⟨(spl_len c _).1, fun w hw => ?_⟩
  obtain ⟨p, hp, rfl⟩ := List.mem_map.mp hw
  rw [len_lsS, lsS_ofL]
  exact (spl_len c _).2 p hp
theorem split_ne (x : Str) (c : Nat) (h : c < 256) : ∃ a r, Txt.split x (sgn c) = a :: r := by
  rw [split_eq x c h]
  cases e : spl c (lsS x) with
  | nil => exact absurd e (spl_ne c _)
  | cons a r => exact ⟨_, _, rfl⟩
/-- a line read whole: the paper, or the word that is refused -/
def rdL (L : Shp) (t : Str) : Sum Pt Nat := match parse (kdS L) (Txt.split t (sgn 32)) 21 0 0 with
  | .inr q => .inr q
  | .inl (tr, j, _) => if j < (Txt.split t (sgn 32)).length then .inr j else .inl tr
/-- a text read whole -/
def rdT (L : Shp) (x : Str) : Sum Pt (Nat × Nat) := match rdL L ((Txt.split x (sgn 10)).headD ⟨#[]⟩) with
  | .inr q => .inr (0, q)
  | .inl t => if 1 < (Txt.split x (sgn 10)).length then .inr (1, 0) else .inl t
/-- a text's refusal -/
def refN (CB : Addr) (TT : List (Addr × Str)) (ln q : Nat) (H : Hp) (E : XK) : Prop := ∀ H' e, ExtN H H' → Tabs TT H' → H' e = some (.xd [("word", .int (q : Int)), ("line", .int (ln : Int))]) → E (.ref CB) (some e) H'
section
variable {P : Program} {w : World} {K : PySem.W.Frag} {mg : Str → Option Value} {base : Heap} {C CB : Addr} {TT : List (Addr × Str)} {L : Shp}
theorem tree_all {f : Addr} {fd : FuncData} {c0 p0 : Addr} {TT : List (Addr × Str)} (F : FunC K "tree_in" "tree_in" sTreeIn f fd c0) (TB : LamX.TabB base mg c0 p0) (hm : (p0, (("tree_in" : Str) ++ ".<locals>.") ++ "<lambda>") ∈ TT) (hut : ∀ p ∈ TT, p.1 = p0 → p.2 = (("tree_in" : Str) ++ ".<locals>.") ++ "<lambda>")
    {f1 : Addr} {fd1 : FuncData} (D1 : Df K mg "kid_places" sKidPlaces ["shape"] f1 fd1) (G1 : FnOk P w K mg base CX0 1 f1 fd1 ["shape"] (spPlaces K))
    {f2 : Addr} {fd2 : FuncData} (D2 : Df K mg "whole_places" sWholePlaces ["shape"] f2 fd2) (G2 : FnOk P w K mg base CX0 1 f2 fd2 ["shape"] (spWhl K))
    (OK : LOk L) (Lk : LnK K mg C) (T : Bt mg) {tMW : Tok} (gMW : mg "MOST_WORDS" = some (.int 20 tMW)) {fR fT fG : Addr} {fdR fdT fdG : FuncData} (mR : Meth K C "refuse" fR) (bR : Binds K fdR ["self"] []) (GR : FnOk P w K mg base (L2.CX P w) 3 fR fdR ["self"] (spLnRefuse C CB)) (mT : Meth K C "taken" fT) (bT : Binds K fdT ["self", "may_stand"] []) (GT : ∀ act, ActOk1 P w K mg base 3 act → FnOk P w K mg base (L2.CX P w) 4 fT fdT ["self", "may_stand"] (spLnTaken C CB K act)) (mG : Meth K C "integer" fG) (bG : Binds K fdG ["self"] []) (GG : FnOk P w K mg base (L2.CX P w) 5 fG fdG ["self"] (spLnInt C CB)) (D9 : Df K mg "tree_in" sTreeIn ["line", "shapes"] f fd) :
    ∀ h : Nat, FnOk P w K mg base (L2.CX P w) (h + 7) f fd ["line", "shapes"] (spTreeIn C CB L K TT h)
  | 0 => by
    refine ok_tree_in (h := 0) F TB hm hut D1 G1 D2 G2 OK Lk T gMW mR bR GR mT bT GT mG bG GG D9 ?_
    refine F.okX scTreeIn (fun vs H Q E h => ?_) (fun A outer s H vs Q E hr h => ?_)
    · obtain ⟨m, e, _⟩ := h
      cases e
    · obtain ⟨m, e, _⟩ := h
      cases e
  | h + 1 => by
    refine ok_tree_in (h := h + 1) F TB hm hut D1 G1 D2 G2 OK Lk T gMW mR bR GR mT bT GT mG bG GG D9 ?_
    have e : spTreeP C CB L K TT (h + 1) = spTreeIn C CB L K TT h := by
      funext vs H Q E
      refine propext ⟨fun ⟨m, e, q⟩ => ?_, fun q => ⟨h, rfl, q⟩⟩
      cases e
      exact q
    rw [e]
    exact tree_all F TB hm hut D1 G1 D2 G2 OK Lk T gMW mR bR GR mT bT GT mG bG GG D9 h
theorem ok_tree_in20 {f : Addr} {fd : FuncData} {c0 p0 : Addr} {TT : List (Addr × Str)} (F : FunC K "tree_in" "tree_in" sTreeIn f fd c0) (TB : LamX.TabB base mg c0 p0) (hm : (p0, (("tree_in" : Str) ++ ".<locals>.") ++ "<lambda>") ∈ TT) (hut : ∀ p ∈ TT, p.1 = p0 → p.2 = (("tree_in" : Str) ++ ".<locals>.") ++ "<lambda>")
    {f1 : Addr} {fd1 : FuncData} (D1 : Df K mg "kid_places" sKidPlaces ["shape"] f1 fd1) (G1 : FnOk P w K mg base CX0 1 f1 fd1 ["shape"] (spPlaces K))
    {f2 : Addr} {fd2 : FuncData} (D2 : Df K mg "whole_places" sWholePlaces ["shape"] f2 fd2) (G2 : FnOk P w K mg base CX0 1 f2 fd2 ["shape"] (spWhl K))
    (OK : LOk L) (Lk : LnK K mg C) (T : Bt mg) {tMW : Tok} (gMW : mg "MOST_WORDS" = some (.int 20 tMW)) {fR fT fG : Addr} {fdR fdT fdG : FuncData} (mR : Meth K C "refuse" fR) (bR : Binds K fdR ["self"] []) (GR : FnOk P w K mg base (L2.CX P w) 3 fR fdR ["self"] (spLnRefuse C CB)) (mT : Meth K C "taken" fT) (bT : Binds K fdT ["self", "may_stand"] []) (GT : ∀ act, ActOk1 P w K mg base 3 act → FnOk P w K mg base (L2.CX P w) 4 fT fdT ["self", "may_stand"] (spLnTaken C CB K act)) (mG : Meth K C "integer" fG) (bG : Binds K fdG ["self"] []) (GG : FnOk P w K mg base (L2.CX P w) 5 fG fdG ["self"] (spLnInt C CB)) (D9 : Df K mg "tree_in" sTreeIn ["line", "shapes"] f fd) :
    FnOk P w K mg base (L2.CX P w) 27 f fd ["line", "shapes"] (spTreeIn C CB L K TT 20) := tree_all F TB hm hut D1 G1 D2 G2 OK Lk T gMW mR bR GR mT bT GT mG bG GG D9 20
def spTreeOf (CB : Addr) (L : Shp) (K : PySem.W.Frag) (TT : List (Addr × Str)) : Sp := fun vs H Q E => ∃ (t : Str) (ln : Nat) (d : Addr), vs = [.str t, .int (ln : Int), .ref d] ∧ t.length ≤ 3000 ∧ H d = some (.dK (kvS L)) ∧ Tabs TT H ∧
  (∀ tr, rdL L t = .inl tr → ∀ H' r, ExtN H H' → Tabs TT H' → Dp K H' (.ref r) (tr.toD L) → Q (.ref r) H') ∧ (∀ q, rdL L t = .inr q → refN CB TT ln q H E)
abbrev nsTreeOf : List Str := ["text", "number", "shapes", "line", "tree"]
theorem scTreeOf : FnScope nsTreeOf ["text", "number", "shapes"] (defScope sTreeOf) := ⟨rfl, rfl, rfl, by decide +kernel, rfl, by decide +kernel, by decide +kernel⟩
theorem ok_tree_of {f : Addr} {fd : FuncData} (F : Df K mg "tree_of" sTreeOf ["text", "number", "shapes"] f fd)
    {f1 : Addr} {fd1 : FuncData} (D1 : Df K mg "tree_in" sTreeIn ["line", "shapes"] f1 fd1) (G1 : FnOk P w K mg base (L2.CX P w) 27 f1 fd1 ["line", "shapes"] (spTreeIn C CB L K TT 20))
    (Lk : LnK K mg C) {fI fE : Addr} {fdI fdE : FuncData} (MK : Mk K C fI) (bI : Binds K fdI ["self", "text", "number"] []) (GI : FnOk P w K mg base CX0 1 fI fdI ["self", "text", "number"] (spLnInit C)) (mE : Meth K C "end" fE) (bE : Binds K fdE ["self"] []) (GE : FnOk P w K mg base (L2.CX P w) 4 fE fdE ["self"] (spLnEnd C CB)) : FnOk P w K mg base (L2.CX P w) 28 f fd ["text", "number", "shapes"] (spTreeOf CB L K TT) := by
  refine F.F.okX scTreeOf (fun vs H Q E h => ?_) (fun cdv A outer s H vs Q E hr h => ?_)
  · obtain ⟨t, ln, d, rfl, _⟩ := h
    rfl
  · obtain ⟨t, ln, d, rfl, ht, hd, hT, kQ, kE⟩ := h
    refine ⟨_, (pss_cons (ps_set (i := 3) scTreeOf.nd rfl (Or.inl rfl) (pe_make MK GI (hr.mono (by omega)) (by rfl) Lk.mgC bI .nil pass0 (pa_cons (pv 0) (pa_cons (pv 1) pa_nil))))
      (pss_cons (ps_set (i := 4) scTreeOf.nd rfl (Or.inl rfl) (pe_call G1 (hr.mono (by omega)) (by rfl) D1.g D1.F.kp D1.b .nil (passes_call (takes_of rfl rfl rfl rfl) (fun _ _ _ _ h => h)) (pa_cons (pv 3) (pa_cons (pv 2) pa_nil))))
      (pss_cons (ps_expr (pe_meth0 (pv 3) Lk.cl mE GE (hr.mono (by omega)) bE .nil (passes_call (takes_of rfl rfl rfl rfl) (fun _ _ _ _ h => h))))
      (pss_one (ps_ret (pv 4)))))), ?_⟩
    obtain ⟨lw, lx⟩ := split_len t 32 (by decide)
    refine ⟨_, rfl, _, rfl, fun x dx nx ndx ne => ⟨x, dx, t, .int (ln : Int), rfl, upd_same, Nat.le_trans (Nat.add_le_add_right ht 2) (by decide), fun H1 c1 l1 => ⟨rfl, ?_⟩⟩⟩
    have s0 : Same H (upd (upd H dx (.own x)) x (.ins C dx [])) := fun b o e => by
      rw [upd_ne (ne_of_none e nx), upd_ne (ne_of_none e ndx)]
      exact e
    have e1 : ExtN H H1 := fun b o e nt => c1 b o (s0 b o e) (ne_of_none e nx)
    have t1 : Tabs TT H1 := tabs_chg (hT.ext s0) upd_same c1
    have back : ∀ {H2 : Hp}, ExtP H1 x H2 → ExtN H H2 := fun x2 b o e nt => x2 b o (e1 b o e nt) (ne_of_none e nx) nt
    refine ⟨_, rfl, _, rfl, x, d, .int (ln : Int), _, 0, 0, rfl, l1, e1 _ _ hd (fun _ z => by cases z), by omega, fun v hv => Nat.le_trans (lx v hv) ht, by omega, by omega, t1, fun tr j m2 e H2 r x2 t2 l2 d2 => ?_, fun q e H2 e' x2 t2 he => ?_⟩
    · obtain ⟨dx2, wl2, h2, g2⟩ := id l2
      refine ⟨_, rfl, x, dx2, _, rfl, h2, lnF_no (by decide +kernel) (by decide +kernel) (by decide +kernel) (by decide +kernel), x, .int (ln : Int), _, j, m2, rfl, l2, Nat.le_trans lw (Nat.le_trans (Nat.succ_le_succ ht) (by decide)), ?_⟩
      by_cases c : j < (Txt.split t (sgn 32)).length
      · refine .inr ⟨c, fun H3 e3 s3 he => kE j ?_ H3 e3 ((back x2).trans (.of s3)) (t2.ext s3) he⟩
        unfold rdL
        rw [e]
        exact if_pos c
      · refine .inl ⟨c, _, rfl, kQ tr ?_ H2 r (back x2) t2 d2⟩
        unfold rdL
        rw [e]
        exact if_neg c
    · refine kE q ?_ H2 e' (back x2) t2 he
      unfold rdL
      rw [e]
end
end CS
set_option Elab.async false
set_option maxRecDepth 100000
set_option maxHeartbeats 4000000
set_option linter.unusedVariables false
/-! what is wrong with a paper that was read -/
namespace CS
open PySem L2
def mayB (c : Nat) (n : Int) : Bool := match bndG c with
  | some (lo, hi) => decide (lo ≤ n ∧ n ≤ hi)
  | none => false
def ordB (w : Str) (ns : List Int) : Bool := if w = "spread" then match ns with
    | [a, b, c] => decide (b < a) && decide (a < c)
    | _ => true
  else if w = "drawn" then match ns with
    | [a, b] => decide (a ≤ b)
    | _ => true
  else true
def boolF : List Nat → List Int → List Bool
  | [], _ => []
  | c :: s, ns => if c = 83 then true :: boolF s ns else match ns with
      | [] => []
      | n :: ns => mayB c n :: boolF s ns
def Pt.w : Pt → Str
  | .n0 w _ => w
  | .n1 w _ _ => w
  | .n2 w _ _ _ => w
def Pt.ns : Pt → List Int
  | .n0 _ ns => ns
  | .n1 _ ns _ => ns
  | .n2 _ ns _ _ => ns
def Pt.ks : Pt → List Pt
  | .n0 .. => []
  | .n1 _ _ k => [k]
  | .n2 _ _ k l => [k, l]
theorem Pt.toD_eq (L : Shp) (t : Pt) : t.toD L = .tuple (.str t.w :: fill (shL L t.w) (t.ns.map .int) (t.ks.map (Pt.toD L))) := by
  cases t <;> rfl
def Pt.good (L : Shp) (t : Pt) : Bool := (boolF (shL L t.w) t.ns).all id && ordB t.w t.ns
/-- the first part that is not formed, or too deep -/
def Pt.fl (L : Shp) : Pt → List Int → Option (List Int)
  | .n0 w ns, p => if p.length = 8 then some [] else if Pt.good L (.n0 w ns) then none else some p
  | .n1 w ns k, p => if p.length = 8 then some [] else if Pt.good L (.n1 w ns k) then k.fl L (p ++ [((kpl 0 (shL L w)).getD 0 0 : Int)]) else some p
  | .n2 w ns k l, p => if p.length = 8 then some [] else if Pt.good L (.n2 w ns k l) then (k.fl L (p ++ [((kpl 0 (shL L w)).getD 0 0 : Int)])).or (l.fl L (p ++ [((kpl 0 (shL L w)).getD 1 0 : Int)])) else some p
/-- the shapes' letters are known, the words with an order have their shapes -/
def LGood (L : Shp) : Prop := LOk L ∧ (∀ w s, shpOf L w = some s → (∀ c ∈ lsS s, c = 83 ∨ (bndG c).isSome = true) ∧ (w = "spread" → lsS s = [83, 88, 88, 88]) ∧ (w = "drawn" → lsS s = [83, 88, 88]))
def lgoodB (L : Shp) : Bool := lokB L && L.all fun p => ((lsS p.2).all fun c => decide (c = 83) || (bndG c).isSome) && (decide (p.1 ≠ "spread") || decide (lsS p.2 = [83, 88, 88, 88])) && (decide (p.1 ≠ "drawn") || decide (lsS p.2 = [83, 88, 88]))
theorem shpOf_mem {L : Shp} {w s : Str} (e : shpOf L w = some s) : (w, s) ∈ L := by
  unfold shpOf at e
  obtain ⟨p, hp, rfl⟩ := Option.map_eq_some_iff.mp e
  have h1 := List.mem_of_find?_eq_some hp
  have h2 : p.1 = w := by simpa using List.find?_some hp
  rw [← h2]
  exact h1
theorem lgood_of {L : Shp} (h : lgoodB L = true) : LGood L := by
  unfold lgoodB at h
  rw [Bool.and_eq_true] at h
  refine ⟨lok_of h.1, fun w s e => ?_⟩
  have := List.all_eq_true.mp h.2 _ (shpOf_mem e)
  simp only [Bool.and_eq_true, Bool.or_eq_true, decide_eq_true_eq, List.all_eq_true] at this
  exact ⟨this.1.1, fun z => this.1.2.resolve_left fun q => q z, fun z => this.2.resolve_left fun q => q z⟩
/-- a paper's shape fits it -/
theorem Pt.wf_at {L : Shp} (ok : LOk L) : ∀ {t : Pt}, t.Wf (kdS L) → ∃ s, shpOf L t.w = some s ∧ shL L t.w = lsS s ∧ t.ns.length = (wpl 0 (lsS s)).length ∧ t.ks.length = (kpl 0 (lsS s)).length ∧ ∀ k ∈ t.ks, k.Wf (kdS L) := by
  have base : ∀ {w : Str} {a b : Nat}, kdS L w = some (a, b) → ∃ s, shpOf L w = some s ∧ shL L w = lsS s ∧ a = (wpl 0 (lsS s)).length ∧ b = (kpl 0 (lsS s)).length := fun {w a b} e => by
    unfold kdS at e
    obtain ⟨s, hs, es⟩ := Option.map_eq_some_iff.mp e
    cases es
    exact ⟨s, hs, by unfold shL; rw [hs]; rfl, rfl, rfl⟩
  intro t h
  cases t with
  | n0 w ns =>
    obtain ⟨s, h1, h2, h3, h4⟩ := base h
    exact ⟨s, h1, h2, h3, h4, fun _ z => nomatch z⟩
  | n1 w ns k =>
    obtain ⟨s, h1, h2, h3, h4⟩ := base h.1
    exact ⟨s, h1, h2, h3, h4, fun q z => by rw [List.mem_singleton.mp z]; exact h.2⟩
  | n2 w ns k l =>
    obtain ⟨⟨b, e⟩, hk, hl⟩ := h
    obtain ⟨s, h1, h2, h3, h4⟩ := base e
    have := (ok w s h1).2.2.2
    refine ⟨s, h1, h2, h3, by show 2 = _; omega, fun q z => ?_⟩
    rcases List.mem_cons.mp z with rfl | z
    · exact hk
    · rw [List.mem_singleton.mp z]
      exact hl
theorem boolF_len : ∀ {s : List Nat} {a : Nat} {ns : List Int}, ns.length = (wpl a s).length → (boolF s ns).length = s.length
  | [], _, _, _ => rfl
  | c :: s, a, ns, h => by
    unfold wpl at h
    unfold boolF
    by_cases e : c = 83
    · rw [if_pos e] at h ⊢
      rw [List.length_cons, List.length_cons, boolF_len h]
    · rw [if_neg e] at h ⊢
      cases ns with
      | nil => cases h
      | cons n ns => rw [List.length_cons, List.length_cons, boolF_len (Nat.succ.inj h)]
/-- the items, letter by letter -/
theorem fill_bool : ∀ {s : List Nat} {a : Nat} {ns : List Int} {ks : List PyData}, ns.length = (wpl a s).length → ks.length = (kpl a s).length → ∀ (i c : Nat) (d : PyData), s[i]? = some c → (fill s (ns.map PyData.int) ks)[i]? = some d → (c = 83 ∧ (boolF s ns)[i]? = some true) ∨ (c ≠ 83 ∧ ∃ n, d = PyData.int n ∧ (boolF s ns)[i]? = some (mayB c n))
  | [], _, _, _, _, _, i, c, d, hc, _ => by cases hc
  | c0 :: s, a, ns, ks, h1, h2, i, c, d, hc, hd => by
    unfold wpl at h1
    unfold kpl at h2
    unfold fill at hd
    unfold boolF
    by_cases e : c0 = 83
    · rw [if_pos e] at h1 h2 hd ⊢
      cases ks with
      | nil => cases h2
      | cons k ks =>
        cases i with
        | zero =>
          cases hc
          exact .inl ⟨e, rfl⟩
        | succ i => exact fill_bool (ks := ks) h1 (Nat.succ.inj h2) i c d hc hd
    · rw [if_neg e] at h1 h2 hd ⊢
      cases ns with
      | nil => cases h1
      | cons n ns =>
        cases i with
        | zero =>
          cases hc
          cases hd
          exact .inr ⟨e, n, rfl, rfl⟩
        | succ i => exact fill_bool (ks := ks) (Nat.succ.inj h1) h2 i c d hc hd
end CS
set_option Elab.async false
set_option maxRecDepth 100000
set_option maxHeartbeats 8000000
set_option linter.unusedVariables false
set_option pp.maxSteps 5000
/-! is a paper formed: both answers -/
namespace CS
open PySem L2 RZ LamX
section
variable {P : Program} {w : World} {K : PySem.W.Frag} {mg : Str → Option Value} {base : Heap} {L : Shp}
def spMayB : Sp := fun vs H Q _ => ∃ c v, vs = [.str ⟨#[c]⟩, v] ∧ ((c = 83 ∧ Q (.bl true) H) ∨ ∃ lo hi n, bndG c = some (lo, hi) ∧ v = .int n ∧ Q (.bl (decide (lo ≤ n ∧ n ≤ hi))) H)
abbrev nsMayStandB : List Str := ["kind", "thing", "least", "most"]
theorem scMayStandB : FnScope nsMayStandB ["kind", "thing"] (defScope sMayStand) := ⟨rfl, rfl, rfl, by decide +kernel, rfl, by decide +kernel, by decide +kernel⟩
theorem ok_may_standB {f : Addr} {fd : FuncData} (F : Df K mg "may_stand" sMayStand ["kind", "thing"] f fd)
    {f1 : Addr} {fd1 : FuncData} (D1 : Df K mg "is_whole_within" sIsWholeWithin ["thing", "least", "most"] f1 fd1) (G1 : FnOk P w K mg base CX0 2 f1 fd1 ["thing", "least", "most"] (spWW))
    {tK : Tok} (gK : mg "KID" = some (.str "S" tK)) {aB aN aD aX aA aM : Addr} (gB : mg "BOUNDS" = some (.ref aB)) (BD : KD P w K aB (bndKV aN aD aX aA aM)) (hN : ∀ H, SqT K H aN [.int (-1000), .int 1000]) (hD : ∀ H, SqT K H aD [.int 0, .int 3]) (hX : ∀ H, SqT K H aX [.int (-100), .int 100]) (hA : ∀ H, SqT K H aA [.int 1, .int 1000]) (hM : ∀ H, SqT K H aM [.int (-200), .int 200]) (T : Bt mg) : FnOk P w K mg base CX0 3 f fd ["kind", "thing"] (spMayB) := by
  refine F.F.ok scMayStandB (fun vs H Q E h => ?_) (fun cdv A outer s H vs Q E hr h => ?_)
  · obtain ⟨c, v, rfl, _⟩ := h
    rfl
  · obtain ⟨c, v, rfl, k⟩ := h
    refine ⟨_, (pss_cons (ps_if (pt_cmpR op_eq (pv 0) (pe_glob (v := .str "S") (by rfl) gK ⟨_, rfl⟩) (nomark _)) (pss_one (ps_ret pe_bl)) pss_nil)
      (pss_cons (ps_asg (pe_ix (ix_kd BD) (pe_glob (v := .ref aB) (by rfl) gB rfl) (pv 0) (fun _ _ => rfl)) (pg_tup rfl (pgs_cons (pg_name (i := 2) scMayStandB.nd rfl (Or.inl rfl)) (pgs_cons (pg_name (i := 3) scMayStandB.nd rfl (Or.inl rfl)) pgs_nil))))
      (pss_one (ps_ret (pe_call G1 (hr.mono (by decide)) (by rfl) D1.g D1.F.kp D1.b .nil pass0 (pa_cons (pv 1) (pa_cons (pv 2) (pa_cons (pv 3) pa_nil)))))))), ?_⟩
    rcases k with ⟨rfl, q⟩ | ⟨lo, hi, n, hb, rfl, q⟩
    · exact ⟨_, rfl, rfl, _, rfl, iteTe (by decide +kernel) q⟩
    unfold bndG at hb
    by_cases c78 : c = 78
    · subst c78
      cases hb
      exact ⟨_, rfl, rfl, _, rfl, iteFe (by decide +kernel) ⟨_, rfl, Sum.inr "N", .ref aN, rfl, rfl, by rfl, aN, _, rfl, hN H, rfl, _, _, rfl, _, _, rfl, rfl, _, rfl, _, rfl, _, rfl, n, _, _, rfl, q⟩⟩
    rw [if_neg c78] at hb
    by_cases c68 : c = 68
    · subst c68
      cases hb
      exact ⟨_, rfl, rfl, _, rfl, iteFe (by decide +kernel) ⟨_, rfl, Sum.inr "D", .ref aD, rfl, rfl, by rfl, aD, _, rfl, hD H, rfl, _, _, rfl, _, _, rfl, rfl, _, rfl, _, rfl, _, rfl, n, _, _, rfl, q⟩⟩
    rw [if_neg c68] at hb
    by_cases c88 : c = 88
    · subst c88
      cases hb
      exact ⟨_, rfl, rfl, _, rfl, iteFe (by decide +kernel) ⟨_, rfl, Sum.inr "X", .ref aX, rfl, rfl, by rfl, aX, _, rfl, hX H, rfl, _, _, rfl, _, _, rfl, rfl, _, rfl, _, rfl, _, rfl, n, _, _, rfl, q⟩⟩
    rw [if_neg c88] at hb
    by_cases c65 : c = 65
    · subst c65
      cases hb
      exact ⟨_, rfl, rfl, _, rfl, iteFe (by decide +kernel) ⟨_, rfl, Sum.inr "A", .ref aA, rfl, rfl, by rfl, aA, _, rfl, hA H, rfl, _, _, rfl, _, _, rfl, rfl, _, rfl, _, rfl, _, rfl, n, _, _, rfl, q⟩⟩
    rw [if_neg c65] at hb
    by_cases c77 : c = 77
    · subst c77
      cases hb
      exact ⟨_, rfl, rfl, _, rfl, iteFe (by decide +kernel) ⟨_, rfl, Sum.inr "M", .ref aM, rfl, rfl, by rfl, aM, _, rfl, hM H, rfl, _, _, rfl, _, _, rfl, rfl, _, rfl, _, rfl, _, rfl, n, _, _, rfl, q⟩⟩
    rw [if_neg c77] at hb
    cases hb
def spOrdB (K : PySem.W.Frag) : Sp := fun vs H Q _ => ∃ p x xs s ns ks, vs = [.ref p] ∧ SqT K H p (.str x :: xs) ∧ DpAll K H xs (fill s (ns.map .int) ks) ∧ (x = "spread" → s = [83, 88, 88, 88] ∧ ns.length = 3 ∧ ks.length = 1) ∧ (x = "drawn" → s = [83, 88, 88] ∧ ns.length = 2 ∧ ks.length = 1) ∧ Q (.bl (ordB x ns)) H
abbrev nsIsInOrderB : List Str := ["thing"]
theorem scIsInOrderB : FnScope nsIsInOrderB ["thing"] (defScope sIsInOrder) := ⟨rfl, rfl, rfl, by decide +kernel, rfl, by decide +kernel, by decide +kernel⟩
theorem ok_is_in_orderB {f : Addr} {fd : FuncData} (F : Df K mg "is_in_order" sIsInOrder ["thing"] f fd) : FnOk P w K mg base CX0 1 f fd ["thing"] (spOrdB K) := by
  refine F.F.ok scIsInOrderB (fun vs H Q E h => ?_) (fun cdv A outer s H vs Q E hr h => ?_)
  · obtain ⟨p, x, xs, s, ns, ks, rfl, _⟩ := h
    rfl
  · obtain ⟨p, x, xs, s, ns, ks, rfl, hp, hx, o3, o4, k⟩ := h
    refine ⟨_, (pss_cons (ps_if (pt_cmpR op_eq (pe_ix ix_tup (pv 0) pe_int (fun _ _ => rfl)) pe_str (nomark _)) (pss_one (ps_ret (pe_and (pe_cmpR op_lt (pe_ix ix_tup (pv 0) pe_int (fun _ _ => rfl)) (pe_ix ix_tup (pv 0) pe_int (fun _ _ => rfl)) (nomark _)) (pe_one (pe_cmpR op_lt (pe_ix ix_tup (pv 0) pe_int (fun _ _ => rfl)) (pe_ix ix_tup (pv 0) pe_int (fun _ _ => rfl)) (nomark _)))))) pss_nil)
      (pss_cons (ps_if (pt_cmpR op_eq (pe_ix ix_tup (pv 0) pe_int (fun _ _ => rfl)) pe_str (nomark _)) (pss_one (ps_ret (pe_cmpR op_le (pe_ix ix_tup (pv 0) pe_int (fun _ _ => rfl)) (pe_ix ix_tup (pv 0) pe_int (fun _ _ => rfl)) (nomark _)))) pss_nil)
      (pss_one (ps_ret pe_bl)))), ?_⟩
    refine ⟨_, rfl, p, _, 0, _, rfl, rfl, hp, atI_nat (j := 0) rfl, rfl, _, rfl, ?_⟩
    by_cases c1 : x = "spread"
    · obtain ⟨rfl, l3, l1⟩ := o3 c1
      obtain ⟨a, b, c, rfl⟩ : ∃ a b c, ns = [a, b, c] := by
        match ns, l3 with
        | [a, b, c], _ => exact ⟨a, b, c, rfl⟩
      obtain ⟨kd, rfl⟩ : ∃ kd, ks = [kd] := by
        match ks, l1 with
        | [kd], _ => exact ⟨kd, rfl⟩
      obtain ⟨y2, g2, d2⟩ := DpAll.at (i := 1) hx rfl
      obtain ⟨y3, g3, d3⟩ := DpAll.at (i := 2) hx rfl
      obtain ⟨y4, g4, d4⟩ := DpAll.at (i := 3) hx rfl
      cases d2
      cases d3
      cases d4
      have ek : ordB x [a, b, c] = (decide (b < a) && decide (a < c)) := if_pos c1
      rw [ek] at k
      refine iteTe (decide_eq_true (by rw [c1])) ⟨_, rfl, p, _, 3, _, rfl, rfl, hp, atI_nat (j := 3) (by simpa using g3), _, rfl, p, _, 2, _, rfl, rfl, hp, atI_nat (j := 2) (by simpa using g2), _, _, rfl, rfl, ?_⟩
      by_cases h1 : b < a
      · rw [decide_eq_true h1] at k
        refine ⟨true, by show V.bl (decide (b < a)) = V.bl true; rw [decide_eq_true h1], iteT ⟨_, rfl, p, _, 2, _, rfl, rfl, hp, atI_nat (j := 2) (by simpa using g2), _, rfl, p, _, 4, _, rfl, rfl, hp, atI_nat (j := 4) (by simpa using g4), _, _, rfl, rfl, k⟩⟩
      · rw [decide_eq_false h1] at k
        exact ⟨false, by show V.bl (decide (b < a)) = V.bl false; rw [decide_eq_false h1], iteF k⟩
    · refine iteFe (decide_eq_false fun z => c1 (V.str.inj z)) ⟨_, rfl, p, _, 0, _, rfl, rfl, hp, atI_nat (j := 0) rfl, rfl, _, rfl, ?_⟩
      by_cases c2 : x = "drawn"
      · obtain ⟨rfl, l3, l1⟩ := o4 c2
        obtain ⟨a, b, rfl⟩ : ∃ a b, ns = [a, b] := by
          match ns, l3 with
          | [a, b], _ => exact ⟨a, b, rfl⟩
        obtain ⟨kd, rfl⟩ : ∃ kd, ks = [kd] := by
          match ks, l1 with
          | [kd], _ => exact ⟨kd, rfl⟩
        obtain ⟨y2, g2, d2⟩ := DpAll.at (i := 1) hx rfl
        obtain ⟨y3, g3, d3⟩ := DpAll.at (i := 2) hx rfl
        cases d2
        cases d3
        have ek : ordB x [a, b] = decide (a ≤ b) := by
          unfold ordB
          rw [if_neg c1, if_pos c2]
        rw [ek] at k
        exact iteTe (decide_eq_true (by rw [c2])) ⟨_, rfl, p, _, 2, _, rfl, rfl, hp, atI_nat (j := 2) (by simpa using g2), _, rfl, p, _, 3, _, rfl, rfl, hp, atI_nat (j := 3) (by simpa using g3), _, _, rfl, rfl, k⟩
      · have ek : ordB x ns = true := by
          unfold ordB
          rw [if_neg c1, if_neg c2]
        rw [ek] at k
        exact iteFe (decide_eq_false fun z => c2 (V.str.inj z)) k
end
end CS
set_option Elab.async false
set_option maxRecDepth 100000
set_option maxHeartbeats 8000000
set_option linter.unusedVariables false
set_option pp.maxSteps 5000
/-! is a paper formed: both answers -/
namespace CS
open PySem L2 RZ LamX
section
variable {P : Program} {w : World} {K : PySem.W.Frag} {mg : Str → Option Value} {base : Heap} {L : Shp}
theorem lsS_len (s : Str) : (lsS s).length = s.cps.size := by
  unfold lsS
  simp
theorem lsS_get (s : Str) (i : Nat) : (lsS s)[i]? = s.cps[i]? := by
  unfold lsS
  simp
def spFormB (K : PySem.W.Frag) (L : Shp) : Sp := fun vs H Q _ => ∃ v s, ∃ t : Pt, vs = [v, .ref s] ∧ H s = some (.dK (kvS L)) ∧ Dp K H v (t.toD L) ∧ LGood L ∧ t.Wf (kdS L) ∧ ∀ H', Same H H' → Q (.bl (t.good L)) H'
abbrev nsIsFormedB : List Str := ["thing", "shapes", "shape", "kind", "item"]
theorem scIsFormedB : FnScope nsIsFormedB ["thing", "shapes"] (defScope sIsFormed) := ⟨rfl, rfl, rfl, by decide +kernel, rfl, by decide +kernel, by decide +kernel⟩
theorem ok_is_formedB {f : Addr} {fd : FuncData} (F : Df K mg "is_formed" sIsFormed ["thing", "shapes"] f fd)
    {f1 : Addr} {fd1 : FuncData} (D1 : Df K mg "is_in_order" sIsInOrder ["thing"] f1 fd1) (G1 : FnOk P w K mg base CX0 1 f1 fd1 ["thing"] (spOrdB K))
    {f2 : Addr} {fd2 : FuncData} (D2 : Df K mg "may_stand" sMayStand ["kind", "thing"] f2 fd2) (G2 : FnOk P w K mg base CX0 3 f2 fd2 ["kind", "thing"] (spMayB))
    {f3 : Addr} {fd3 : FuncData} (D3 : Df K mg "is_word" sIsWord ["thing"] f3 fd3) (G3 : FnOk P w K mg base CX0 1 f3 fd3 ["thing"] (spD1 K wordD))
    {f4 : Addr} {fd4 : FuncData} (D4 : Df K mg "is_row" sIsRow ["thing"] f4 fd4) (G4 : FnOk P w K mg base CX0 1 f4 fd4 ["thing"] (spD1 K rowD))
    (T : Bt mg) : FnOk P w K mg base CX0 4 f fd ["thing", "shapes"] (spFormB K L) := by
  refine F.F.ok scIsFormedB (fun vs H Q E h => ?_) (fun cdv A outer s H vs Q E hr h => ?_)
  · obtain ⟨v, d, t, rfl, _⟩ := h
    rfl
  · obtain ⟨v, d, t, rfl, hd, hv, lg, wf, k⟩ := h
    have hu := hu_of hr
    refine ⟨_, (pss_cons (ps_if (PW.pt (pw_or (pt_not (pt_val (pe_call G4 (hr.mono (by decide)) (by rfl) D4.g D4.F.kp D4.b .nil pass0 (pa_cons (pv 0) pa_nil)))) (pw_or (pt_cmpR op_eq (pe_callB call_len_seq (by rfl) T.len PySem.boot_len (pa_cons (pv 0) pa_nil)) pe_int (nomark _)) (pw_or (pt_not (pt_val (pe_call G3 (hr.mono (by decide)) (by rfl) D3.g D3.F.kp D3.b .nil pass0 (pa_cons (pe_ix ix_tup (pv 0) pe_int (fun _ _ => rfl)) pa_nil)))) (pw_or1 (pt_cmp (pc_dnotin hu (pe_ix ix_tup (pv 0) pe_int (fun _ _ => rfl)) (pv 1)))))))) (pss_one (ps_ret pe_bl)) pss_nil)
      (pss_cons (ps_set (i := 2) scIsFormedB.nd rfl (Or.inl rfl) (pe_dget hu (pv 1) (pe_ix ix_tup (pv 0) pe_int (fun _ _ => rfl)) (fun _ _ => rfl)))
      (pss_cons (ps_if (pt_cmpR op_ne (pe_callB call_len_seq (by rfl) T.len PySem.boot_len (pa_cons (pv 0) pa_nil)) (pe_op op_add pe_int (pe_callB call_len_str (by rfl) T.len PySem.boot_len (pa_cons (pv 2) pa_nil))) (nomark _)) (pss_one (ps_ret pe_bl)) pss_nil)
      (pss_one (ps_ret (pe_and (pe_callB (cr_all rfl) (by rfl) T.all (by decide +kernel) (pa_cons (pe_lc (own := [("kind", 3), ("item", 4)]) (g := gTup K 2 (gCons (gName 3) (gCons (gName 4) gNil))) (tt := tYes) rfl scIsFormedB.nd (pi_zipS (by rfl) T.zip (pa_cons (pv 2) (pa_cons (pe_slice sl_any (pv 0) (po_some pe_int) po_none) pa_nil))) (blkOk_by (N := nsIsFormedB) (sc := defScope sIsFormed) (by decide +kernel)) (fun _ _ _ _ _ => pg_tup rfl (pgs_cons (pg_name (i := 3) scIsFormedB.nd rfl (Or.inl rfl)) (pgs_cons (pg_name (i := 4) scIsFormedB.nd rfl (Or.inl rfl)) pgs_nil))) (fun _ _ _ _ _ => pts_nil) (fun _ _ _ _ _ => (pe_call G2 (hr.mono (by decide)) (by rfl) D2.g D2.F.kp D2.b .nil pass0 (pa_cons (pv 3) (pa_cons (pv 4) pa_nil))))) pa_nil)) (pe_one (pe_call G1 (hr.mono (by decide)) (by rfl) D1.g D1.F.kp D1.b .nil pass0 (pa_cons (pv 0) pa_nil))))))))), ?_⟩
    obtain ⟨sh, hsh, esh, ln, lk, kw⟩ := Pt.wf_at lg.1 wf
    have hv2 := hv
    rw [Pt.toD_eq] at hv hv2
    obtain ⟨a, xs0, rfl, hs, ha⟩ := hv.tup_inv
    obtain ⟨xs, rfl, hx⟩ : ∃ xs, xs0 = V.str t.w :: xs ∧ DpAll K H xs (fill (shL L t.w) (t.ns.map .int) (t.ks.map (Pt.toD L))) := by
      cases ha with
      | cons h1 h2 =>
        cases h1
        exact ⟨_, rfl, h2⟩
    rw [esh] at hx
    have ln2 : (t.ns.map PyData.int).length = (wpl 0 (lsS sh)).length := by rw [List.length_map]; exact ln
    have lk2 : (t.ks.map (Pt.toD L)).length = (kpl 0 (lsS sh)).length := by rw [List.length_map]; exact lk
    have lx := hx.len
    rw [(fill_at ln2 lk2).1, lsS_len] at lx
    have s9 := (lg.1 _ _ hsh).1
    have gd : DGet H d (.str t.w) (some (.str sh)) := by
      have := DGet.k (k := Sum.inr t.w) hd
      rw [valV_kvS, hsh] at this
      exact this
    refine ⟨_, rfl, .ref a, _, rfl, hv2, _, rfl, iteF ?_⟩
    refine ⟨_, rfl, a, _, rfl, .inr hs, rfl, _, rfl, ?_⟩
    rw [dec_int]
    refine iteFe (beq_eq_false_iff_ne.mpr (by rw [List.length_cons]; omega)) ⟨_, rfl, a, _, 0, _, rfl, rfl, hs, ati0, .str t.w, .str t.w, rfl, .str _, _, rfl, iteF ⟨_, rfl, a, _, 0, _, rfl, rfl, hs, ati0, _, rfl, d, _, rfl, gd, _, rfl, iteF ?_⟩⟩
    refine ⟨_, rfl, _, rfl, a, _, 0, _, rfl, rfl, hs, ati0, d, _, rfl, gd, ?_⟩
    refine ⟨_, rfl, a, _, rfl, .inr hs, _, rfl, sh, rfl, Nat.le_trans s9 (by decide), _, _, rfl, rfl, rfl, _, rfl, iteFe ?_ ?_⟩
    · rw [dec_int, beq_iff_eq.mpr]
      · rfl
      · rw [List.length_cons, lx]
        show _ = 1 + ((sh.cps.size : Nat) : Int)
        omega
    refine ⟨_, rfl, _, rfl, 1, rfl, a, _, rfl, hs, fun H1 b s1 hB => ?_⟩
    rw [show (1 : Int) = ((1 : Nat) : Int) from rfl, cutT_from] at hB
    have hB2 : SqT K H1 b xs := hB
    have lb : (boolF (lsS sh) t.ns).length = sh.cps.size := by rw [boolF_len ln, lsS_len]
    refine ⟨sh, b, _, rfl, hB2, fun D nD => lc_it (walk_zipS (x := sh) (a := b) (xs := xs) (by omega)) (fun i H' => H' D = some (.lst (((boolF (lsS sh) t.ns).take i).map V.bl)) ∧ Same H1 H') ⟨upd_same, Same.new nD⟩ (fun i H' _ ⟨_, s2⟩ => s2.tup hB2) ?_ ?_⟩
    · rintro i v H2 H3 hi ⟨h1, s2⟩ ⟨t', x, y, rfl, ht, rfl, hx1, hy⟩
      obtain ⟨c, hc, rfl⟩ := Option.map_eq_some_iff.mp hx1
      have k2 := Same.new (o := .tup [V.str ⟨#[c]⟩, y]) ht
      refine ⟨t', _, rfl, SqT.of upd_same, rfl, _, _, rfl, _, _, rfl, rfl, rfl, ?_⟩
      dsimp only [tYes]
      rw [if_pos rfl]
      have fin : ∀ bb, (boolF (lsS sh) t.ns)[i]? = some bb → ((boolF (lsS sh) t.ns).take i).map V.bl ++ [V.bl bb] = ((boolF (lsS sh) t.ns).take (i + 1)).map V.bl := fun bb hb => by
        rw [List.take_add_one, hb, List.map_append]
        rfl
      have ll : (((boolF (lsS sh) t.ns).take i).map V.bl).length ≤ 1000 := by rw [List.length_map, List.length_take]; omega
      obtain ⟨d1, hd1, dv⟩ := DpAll.get hx hy
      rcases fill_bool (a := 0) ln lk2 i c d1 (by rw [lsS_get]; exact hc) hd1 with ⟨rfl, hb⟩ | ⟨nc, n, rfl, hb⟩
      · refine ⟨_, rfl, _, rfl, 83, y, rfl, .inl ⟨rfl, _, k2 _ _ h1, small1000 ll, ?_, same_upd nD (s2.trans k2)⟩⟩
        rw [upd_same, fin _ hb]
      · cases dv
        obtain ⟨lo, hi2, hb2⟩ : ∃ lo hi, bndG c = some (lo, hi) := by
          rcases (lg.2 _ _ hsh).1 c (List.mem_of_getElem? (by rw [lsS_get]; exact hc)) with z | z
          · exact absurd z nc
          · cases e : bndG c with
            | none => rw [e] at z; cases z
            | some q => exact ⟨q.1, q.2, rfl⟩
        refine ⟨_, rfl, _, rfl, c, _, rfl, .inr ⟨lo, hi2, n, hb2, rfl, _, k2 _ _ h1, small1000 ll, ?_, same_upd nD (s2.trans k2)⟩⟩
        have e2 : mayB c n = decide (lo ≤ n ∧ n ≤ hi2) := by
          unfold mayB
          rw [hb2]
        rw [upd_same, ← fin _ hb, e2]
    · rintro H2 ⟨h1, s2⟩
      have s3 := s1.trans s2
      rw [List.take_of_length_le (by omega)] at h1
      refine ⟨D, _, rfl, SqL.of h1, (boolF (lsS sh) t.ns).all id, by simp [List.map_map, Function.comp_def], ?_⟩
      have eg : t.good L = ((boolF (lsS sh) t.ns).all id && ordB t.w t.ns) := by
        unfold Pt.good
        rw [esh]
      rw [eg] at k
      cases hal : (boolF (lsS sh) t.ns).all id with
      | false =>
        rw [hal] at k
        exact iteF (k _ s3)
      | true =>
        rw [hal] at k
        refine iteT ⟨_, rfl, a, t.w, xs, lsS sh, t.ns, t.ks.map (Pt.toD L), rfl, s3.tup hs, DpAll.same s3 hx, fun e => ?_, fun e => ?_, k _ s3⟩
        · have := (lg.2 _ _ hsh).2.1 e
          rw [this] at ln lk
          exact ⟨this, ln, by rw [List.length_map]; exact lk⟩
        · have := (lg.2 _ _ hsh).2.2 e
          rw [this] at ln lk
          exact ⟨this, ln, by rw [List.length_map]; exact lk⟩
end
end CS
set_option Elab.async false
set_option maxRecDepth 100000
set_option maxHeartbeats 8000000
set_option linter.unusedVariables false
set_option pp.maxSteps 6000
/-! terms that are formed as they should be -/
namespace CS
open PySem L2 RZ
open WTree
variable {α : Type} [WTree α]
abbrev ItmG (α : Type) := List Int × α
def itemG (p : ItmG α) : PyData := .tuple [rowD_ p.1, (toD p.2)]
theorem flatItemsG : ∀ l : List (ItmG α), flatDs (l.map itemG) = true
  | [] => rfl
  | p :: l => by
    have h1 := flatItemsG l
    have h2 : flatDs (p.1.map PyData.int) = true := flatDs_ints p.1
    show (flatD (itemG p) && flatDs (l.map itemG)) = true
    rw [h1, Bool.and_true]
    show (flatDs (p.1.map .int) && (flatD (toD p.2) && true)) = true
    rw [h2, flat p.2]
    rfl
def wsumG (l : List (ItmG α)) : Nat := (l.map fun p => words p.2).sum
theorem wsumG_len : ∀ l : List (ItmG α), l.length ≤ wsumG l
  | [] => Nat.zero_le _
  | p :: l => by
    have := wsumG_len l
    have := words_pos p.2
    simp only [wsumG, List.map_cons, List.sum_cons, List.length_cons] at *
    omega
theorem wsumG_app (l m : List (ItmG α)) : wsumG (l ++ m) = wsumG l + wsumG m := by simp [wsumG]
def kidsG (p : List Int) (t : α) : List (ItmG α) := ((kids t).map fun k => (p ++ [(k.1 : Int)], k.2)).reverse
theorem kidsG_sum (p : List Int) (t : α) : wsumG (kidsG p t) + 1 = words t := by
  rw [← kids_words t]
  unfold wsumG kidsG
  rw [List.map_reverse, List.sum_reverse, List.map_map]
  rfl
theorem dp_unsnocG {K : PySem.W.Frag} {H : Hp} : ∀ {vs : List V} {ds : List PyData} {v : V} {d : PyData}, vs.length = ds.length → DpAll K H (vs ++ [v]) (ds ++ [d]) → DpAll K H vs ds ∧ Dp K H v d
  | [], [], _, _, _, .cons a .nil => ⟨.nil, a⟩
  | x :: vs, y :: ds, _, _, l, .cons a b => by
    obtain ⟨h1, h2⟩ := dp_unsnocG (by simpa using l) b
    exact ⟨.cons a h1, h2⟩
section
variable {P : Program} {w : World} {K : PySem.W.Frag} {mg : Str → Option Value} {base : Heap}
def spFaultG (α : Type) [WTree α] (K : PySem.W.Frag) : Sp := fun vs H Q _ => ∃ v d, ∃ t : α, vs = [v, .ref d] ∧ H d = some (.dK (kv α)) ∧ Dp K H v (toD t) ∧ WTree.Ok t ∧ words t ≤ 20 ∧ height t ≤ 8 ∧ ∀ H', Same H H' → Q .non H'
abbrev nsFaultIn : List Str := ["whole", "shapes", "waiting", "many", "path", "thing", "places", "at"]
theorem scFaultIn : FnScope nsFaultIn ["whole", "shapes"] (defScope sFaultIn) := ⟨rfl, rfl, rfl, by decide +kernel, rfl, by decide +kernel, by decide +kernel⟩
theorem ok_fault_in {f : Addr} {fd : FuncData} (F : Df K mg "fault_in" sFaultIn ["whole", "shapes"] f fd)
    {f1 : Addr} {fd1 : FuncData} (D1 : Df K mg "kid_places" sKidPlaces ["shape"] f1 fd1) (G1 : FnOk P w K mg base CX0 1 f1 fd1 ["shape"] (spPlaces K))
    {f2 : Addr} {fd2 : FuncData} (D2 : Df K mg "is_formed" sIsFormed ["thing", "shapes"] f2 fd2) (G2 : FnOk P w K mg base CX0 4 f2 fd2 ["thing", "shapes"] (spFormedG α K))
    {t1 t2 : Tok} (gMW : mg "MOST_WORDS" = some (.int 20 t1)) (gMI : mg "MOST_WITHIN" = some (.int 8 t2)) (T : Bt mg) : FnOk P w K mg base CX0 5 f fd ["whole", "shapes"] (spFaultG α K) := by
  refine F.F.ok scFaultIn (fun vs H Q E h => ?_) (fun cdv A outer s H vs Q E hr h => ?_)
  · obtain ⟨v, d, t, rfl, _⟩ := h
    rfl
  · obtain ⟨v, d, t, rfl, hd, hv, ok, w20, h8, k⟩ := h
    have hu := hu_of hr
    refine ⟨_, (pss_cons (ps_set (i := 2) scFaultIn.nd rfl (Or.inl rfl) (pe_lst (pa_cons (pe_tup (pa_cons (pe_tup pa_nil) (pa_cons (pv 0) pa_nil))) pa_nil)))
      (pss_cons (ps_set (i := 3) scFaultIn.nd rfl (Or.inl rfl) pe_int)
      (pss_cons (ps_while PassesOwn.never (pt_truth (pv 2) (fun _ => rfl)) (pss_cons (ps_asg (pe_bm0 PySem.F.plainAttrs_list PySem.F.slot_list_pop PySem.F.type_list_pop mt_pop (pv 2)) (pg_tup rfl (pgs_cons (pg_name (i := 4) scFaultIn.nd rfl (Or.inr rfl)) (pgs_cons (pg_name (i := 5) scFaultIn.nd rfl (Or.inr rfl)) pgs_nil))))
      (pss_cons (ps_aug (i := 3) scFaultIn.nd rfl (Or.inl rfl) pe_int ip_add)
      (pss_cons (ps_if (PW.pt (pw_or (pt_cmpR op_gt (pv 3) (pe_glob (v := .int 20) (by rfl) gMW ⟨_, rfl⟩) (nomark _)) (pw_or1 (pt_cmpR op_eq (pe_callB call_len_seq (by rfl) T.len PySem.boot_len (pa_cons (pv 4) pa_nil)) (pe_glob (v := .int 8) (by rfl) gMI ⟨_, rfl⟩) (nomark _))))) (pss_one (ps_ret (pe_tup pa_nil))) pss_nil)
      (pss_cons (ps_if (pt_not (pt_val (pe_call G2 (hr.mono (by decide)) (by rfl) D2.g D2.F.kp D2.b .nil pass0 (pa_cons (pv 5) (pa_cons (pv 1) pa_nil))))) (pss_one (ps_ret (pv 4))) pss_nil)
      (pss_cons (ps_set (i := 6) scFaultIn.nd rfl (Or.inl rfl) (pe_call G1 (hr.mono (by decide)) (by rfl) D1.g D1.F.kp D1.b .nil pass0 (pa_cons (pe_dget hu (pv 1) (pe_ix ix_tup (pv 5) pe_int (fun _ _ => rfl)) (fun _ _ => rfl)) pa_nil)))
      (pss_one (ps_expr (pe_bm PySem.F.plainAttrs_list PySem.F.slot_list_extend PySem.F.type_list_extend mt_extend (pv 2) (pa_cons (pe_lc (own := [("at", 7)]) (g := gName 7) (tt := tYes) rfl scFaultIn.nd (pi_list (pe_revL (pv 6))) (blkOk_by (N := nsFaultIn) (sc := defScope sFaultIn) (by decide +kernel)) (fun _ _ _ _ _ => pg_name (i := 7) scFaultIn.nd rfl (Or.inl rfl)) (fun _ _ _ _ _ => pts_nil) (fun _ _ _ _ _ => (pe_tup (pa_cons (show PE _ _ (tTup (StX.tStar K (tVar 4) (tCons (tVar 7) tNil))) from pe_tup (StX.pa_star (pv 4) (pa_cons (pv 7) pa_nil))) (pa_cons (pe_ix (r := rIxT K) ix_tup (pv 5) (pv 7) (fun _ _ => rfl)) pa_nil))))) pa_nil))))))))))
      (pss_one (ps_ret pe_non))))), ?_⟩
    refine ⟨(by show 0 ≤ sizeLine; decide), fun e1 n1 => ⟨_, rfl, (by show 2 ≤ sizeLine; decide), fun e2 n2 => ⟨(by show 1 ≤ sizeLine; decide), fun l1 m1 => ?_⟩⟩⟩
    have g1 := Same.new (o := .tup []) n1
    have g2 := Same.new (o := .tup [V.ref e1, v]) n2
    have g3 := Same.new (o := .lst [V.ref e2]) m1
    have s0 := (g1.trans g2).trans g3
    have nl : H l1 = none := by
      cases e : H l1 with
      | none => rfl
      | some o =>
        have := (g1.trans g2) _ _ e
        rw [m1] at this
        cases this
    have i0 : DpAll K (upd (upd (upd H e1 (.tup [])) e2 (.tup [V.ref e1, v])) l1 (.lst [V.ref e2])) [V.ref e2] (List.map itemG [([], t)]) := .cons (.tup (g3.tup (SqT.of upd_same)) (.cons (.tup ((g2.trans g3).tup (SqT.of upd_same)) .nil) (.cons (Dp.same s0 hv) .nil))) .nil
    have h0 : (upd (upd (upd H e1 (.tup [])) e2 (.tup [V.ref e1, v])) l1 (.lst [V.ref e2])) l1 = some (.lst [V.ref e2]) := upd_same
    generalize upd (upd (upd H e1 (.tup [])) e2 (.tup [V.ref e1, v])) l1 (.lst [V.ref e2]) = H0 at *
    refine ⟨fun m σ H' => ∃ v4 v5 v6 v7 ws its, ∃ done : Nat, σ = [some v, some (.ref d), some (.ref l1), some (.int done), v4, v5, v6, v7] ∧ Same H H' ∧ H' l1 = some (.lst ws) ∧ DpAll K H' ws (its.map itemG) ∧ wsumG its + done ≤ 20 ∧ (∀ it ∈ its, WTree.Ok it.2 ∧ it.1.length + height it.2 ≤ 8) ∧ m = wsumG its,
      ⟨_, none, none, none, none, [V.ref e2], [([], t)], 0, rfl, s0, h0, i0, by simpa [wsumG] using w20, fun it hit => by
        rw [List.mem_singleton.mp hit]
        exact ⟨ok, by simpa using h8⟩, rfl⟩, ?_⟩
    rintro m σ H1 ⟨v4, v5, v6, v7, ws, its, done, rfl, s1, hl, hw, wd, each, rfl⟩
    have lw := hw.len
    rw [List.length_map] at lw
    refine ⟨_, rfl, _, .inl ⟨ws, SqL.of hl, rfl⟩, ?_⟩
    rcases List.eq_nil_or_concat its with rfl | ⟨its', ⟨p, t1⟩, rfl⟩
    · obtain rfl : ws = [] := List.length_eq_zero_iff.mp lw
      exact iteF (k _ s1)
    rw [List.concat_eq_append] at *
    rcases List.eq_nil_or_concat ws with rfl | ⟨ws', y, rfl⟩
    · rw [List.length_append] at lw
      cases lw
    rw [List.concat_eq_append] at *
    refine iteTe (by simp) ?_
    obtain ⟨hw', dy⟩ := dp_unsnocG (K := K) (H := H1) (ds := its'.map itemG) (by simpa using lw) (by simpa using hw)
    obtain ⟨pa, xp, rfl, hpa, hxp⟩ := dy.tup_inv
    obtain ⟨x1, u, rfl, d1, d2⟩ : ∃ x1 u, xp = [x1, u] ∧ Dp K H1 x1 (rowD_ p) ∧ Dp K H1 u (toD t1) := by
      cases hxp with
      | cons a b =>
        cases b with
        | cons a2 b2 =>
          cases b2
          exact ⟨_, _, rfl, a, a2⟩
    obtain ⟨q, xq, rfl, hq, hxq⟩ := d1.tup_inv
    obtain rfl := DpAll.of_ints hxq
    obtain ⟨a1, x5, rfl, ha1, hx5⟩ := tree_at d2
    obtain ⟨ok1, h81⟩ := each (p, t1) (by simp)
    have hp1 := height_pos t1
    have wp1 := words_pos t1
    have ws1 : wsumG (its' ++ [(p, t1)]) = wsumG its' + words t1 := by simp [wsumG]
    dsimp only at ok1 h81
    refine ⟨_, fun σ' H' h => h, ?_⟩
    refine ⟨_, rfl, .inl ⟨rfl, _, SqL.of hl⟩, l1, _, .ref pa, rfl, rfl, hl, by simp, ?_⟩
    rw [List.dropLast_concat]
    have k2 : TK K H1 (upd H1 l1 (.lst ws')) := tk_lst hl
    have s2 : Same H (upd H1 l1 (.lst ws')) := same_upd nl s1
    have hl2 : (upd H1 l1 (.lst ws')) l1 = some (.lst ws') := upd_same
    have hpa2 := k2 _ _ hpa
    have hq2 := k2 _ _ hq
    have ha2 := k2 _ _ ha1
    have d22 := Dp.tk k2 (flat t1) d2
    have hw2 := DpAll.tk k2 (flatItemsG its') hw'
    have hx52 := DpAll.tk k2 (restFlat t1) hx5
    generalize upd H1 l1 (.lst ws') = H2 at *
    refine ⟨pa, _, rfl, hpa2, rfl, _, _, rfl, _, _, rfl, rfl, _, rfl, _, _, rfl, rfl, ?_⟩
    refine ⟨_, rfl, _, _, rfl, rfl, _, rfl, iteFe (decide_eq_false (by show ¬ (20 < (done : Int) + 1); omega)) ⟨_, rfl, q, _, rfl, .inr hq2, rfl, _, rfl, ?_⟩⟩
    rw [dec_int]
    refine iteFe (beq_eq_false_iff_ne.mpr (by rw [List.length_map]; omega)) ?_
    refine ⟨_, rfl, _, rfl, .ref a1, d, t1, rfl, s2 _ _ hd, d22, ok1, fun H3 s3 => ⟨_, rfl, iteF ?_⟩⟩
    have gd : DGet H3 d (.str (word t1)) (some (.str (shape t1))) := by
      have := DGet.k (k := Sum.inr (word t1)) (s3 _ _ (s2 _ _ hd))
      rw [kv_at] at this
      exact this
    refine ⟨_, rfl, _, rfl, a1, _, 0, _, rfl, rfl, s3.tup ha2, ati0, d, _, rfl, gd, (shape t1), rfl, Nat.le_trans (shape_four t1) (by decide), fun D H4 s4 hD => ?_⟩
    rw [places] at hD
    refine ⟨_, rfl, .inl ⟨rfl, ws', SqL.of (s4 _ _ (s3 _ _ hl2))⟩, _, rfl, D, _, rfl, hD, fun D2 n2 => ⟨D2, rfl, ⟨_, SqL.of upd_same⟩, fun L nL => ?_⟩⟩
    have s5 := (s3.trans s4).trans (Same.new (o := .lst (List.map V.int (List.map (fun k => (k.1 : Int)) (kids t1))).reverse) n2)
    have hD2 : (upd H4 D2 (.lst (List.map V.int (List.map (fun k => (k.1 : Int)) (kids t1))).reverse)) D2 = some (.lst ((kids t1).reverse.map fun k => V.int (k.1 : Int))) := by
      rw [upd_same, List.map_map, List.map_reverse]
      rfl
    have gone : ∀ {H' : Hp}, Same (upd H4 D2 (.lst (List.map V.int (List.map (fun k => (k.1 : Int)) (kids t1))).reverse)) H' → Same H2 H' := fun s => s5.trans s
    generalize upd H4 D2 (.lst (List.map V.int (List.map (fun k => (k.1 : Int)) (kids t1))).reverse) = H5 at *
    have few : (kids t1).length ≤ 20 := by
      have e1 : (kidsG p t1).length = (kids t1).length := by simp [kidsG]
      have := wsumG_len (kidsG p t1)
      have := kidsG_sum p t1
      omega
    refine lc_it (walk_list (K := K) (a := D2) (xs := (kids t1).reverse.map fun k => V.int (k.1 : Int))) (fun i H' => ∃ us, H' L = some (.lst us) ∧ Same H5 H' ∧ DpAll K H' us (((kidsG p t1).take i).map itemG)) ⟨[], upd_same, Same.new nL, .nil⟩ (fun i H' _ ⟨_, _, s, _⟩ => s.seq (SqL.of hD2)) ?_ ?_
    · rintro i x H6 H7 hi ⟨us, h6, s6, c6⟩ ⟨rfl, hx⟩
      rw [List.getElem?_map] at hx
      obtain ⟨kd, hk, rfl⟩ := Option.map_eq_some_iff.mp hx
      have mem : kd ∈ (kids t1) := List.mem_reverse.mp (List.mem_of_getElem? hk)
      have hk2 : (kidsG p t1)[i]? = some (p ++ [(kd.1 : Int)], kd.2) := by
        unfold kidsG
        rw [← List.map_reverse, List.getElem?_map, hk]
        rfl
      have s26 := gone s6
      have hx56 := DpAll.same s26 hx52
      obtain ⟨child, hc, dc⟩ := DpAll.at (K := K) (H := H7) (vs := .str (word t1) :: x5) (ds := .str (word t1) :: (rest t1)) (.cons (.str _) hx56) (kids_at t1 kd mem)
      have lu := c6.len
      rw [List.length_map, List.length_take] at lu
      have hlen : (kidsG p t1).length = (kids t1).length := by simp [kidsG]
      refine ⟨rfl, ?_⟩
      dsimp only [tYes]
      rw [if_pos rfl]
      refine ⟨_, rfl, q, _, rfl, .inl (s26.tup hq2), _, rfl, ?_⟩
      refine ⟨(by rw [List.length_append, List.length_map]; exact Nat.le_trans (show _ ≤ 100 by simp; omega) (by decide)), fun b nb => ⟨_, rfl, _, rfl, a1, _, (kd.1 : Int), child, rfl, rfl, (s26.trans (Same.new nb)).tup ha2, atI_nat hc, ?_⟩⟩
      refine ⟨(by show 2 ≤ sizeLine; decide), fun c nc => ?_⟩
      have k6 := Same.new (o := .tup (p.map V.int ++ [V.int (kd.1 : Int)])) nb
      have k7 := Same.new (o := .tup [V.ref b, child]) nc
      have k8 := k6.trans k7
      refine ⟨us, k8 _ _ h6, small1000 (by omega), us ++ [.ref c], upd_same, same_upd nL (s6.trans k8), ?_⟩
      rw [take_snoc hk2, List.map_append]
      refine DpAll.tk (tk_lst (k8 _ _ h6)) ?_ (DpAll.app (DpAll.same k8 c6) (.cons (.tup (SqT.of upd_same) (.cons (.tup (k7.tup (SqT.of upd_same)) ?_) (.cons (Dp.same k8 dc) .nil))) .nil))
      · rw [← List.map_append]
        exact flatItemsG _
      · have := DpAll.ints (K := K) (H := upd (upd H7 b (.tup (p.map V.int ++ [V.int (kd.1 : Int)]))) c (.tup [V.ref b, child])) (p ++ [(kd.1 : Int)])
        rw [List.map_append] at this
        exact this
    · rintro H6 ⟨us, h6, s6, c6⟩
      have hlen : (kidsG p t1).length = (kids t1).length := by simp [kidsG]
      rw [List.length_map, List.length_reverse, ← hlen, List.take_length] at c6
      have lu := c6.len
      rw [List.length_map, hlen] at lu
      have lw2 := hw2.len
      rw [List.length_map] at lw2
      have li := wsumG_len its'
      have ks := kidsG_sum p t1
      have s26 := gone s6
      have hl6 := s26 _ _ hl2
      refine ⟨l1, L, ws', us, rfl, rfl, hl6, h6, Nat.le_trans (show _ ≤ 100 by omega) (by decide), wsumG (its' ++ kidsG p t1), by rw [wsumG_app]; omega, _, _, _, _, ws' ++ us, its' ++ kidsG p t1, done + 1, rfl, same_upd nl (s2.trans s26), upd_same, ?_, by rw [wsumG_app]; omega, fun it hit => ?_, rfl⟩
      · rw [List.map_append]
        refine DpAll.tk (tk_lst hl6) ?_ (DpAll.app (DpAll.same s26 hw2) c6)
        rw [← List.map_append]
        exact flatItemsG _
      · rcases List.mem_append.mp hit with h | h
        · exact each it (List.mem_append.mpr (.inl h))
        · obtain ⟨kd, mem, rfl⟩ := List.mem_map.mp (List.mem_reverse.mp h)
          have := kids_height t1 kd mem
          refine ⟨kids_ok t1 ok1 kd mem, ?_⟩
          rw [List.length_append]
          show p.length + 1 + height kd.2 ≤ 8
          omega
end
end CS
set_option Elab.async false
set_option maxRecDepth 100000
set_option maxHeartbeats 4000000
set_option linter.unusedVariables false
/-! the places of a paper's parts; the faults of a stack -/
namespace CS
open PySem L2
theorem fill_get {α : Type} : ∀ {s : List Nat} {a : Nat} {xs ks : List α}, xs.length = (wpl a s).length → ks.length = (kpl a s).length → ∀ (m : Nat) (v : α), (m, v) ∈ (wpl a s).zip xs ++ (kpl a s).zip ks → ∃ i, m = a + i + 1 ∧ (fill s xs ks)[i]? = some v
  | [], a, xs, ks, _, _, m, v, h => by
    simp [wpl, kpl] at h
  | c :: s, a, xs, ks, h1, h2, m, v, h => by
    have step : ∀ {xs ks : List α}, xs.length = (wpl (a + 1) s).length → ks.length = (kpl (a + 1) s).length → (m, v) ∈ (wpl (a + 1) s).zip xs ++ (kpl (a + 1) s).zip ks → ∃ i, m = a + (i + 1) + 1 ∧ (fill s xs ks)[i]? = some v := fun h1 h2 h => by
      obtain ⟨i, e1, e2⟩ := fill_get h1 h2 m v h
      exact ⟨i, by omega, e2⟩
    unfold wpl at h1 h
    unfold kpl at h2 h
    unfold fill
    by_cases e : c = 83
    · rw [if_pos e] at h1 h2
      rw [if_pos e, if_pos e] at h
      rw [if_pos e]
      cases ks with
      | nil => cases h2
      | cons k ks =>
        rcases List.mem_append.mp h with m1 | m1
        · obtain ⟨i, e1, e2⟩ := step h1 (Nat.succ.inj h2) (List.mem_append_left _ m1)
          exact ⟨i + 1, e1, e2⟩
        · rcases List.mem_cons.mp m1 with z | m1
          · cases z
            exact ⟨0, rfl, rfl⟩
          · obtain ⟨i, e1, e2⟩ := step h1 (Nat.succ.inj h2) (List.mem_append_right _ m1)
            exact ⟨i + 1, e1, e2⟩
    · rw [if_neg e] at h1 h2
      rw [if_neg e, if_neg e] at h
      rw [if_neg e]
      cases xs with
      | nil => cases h1
      | cons x xs =>
        rcases List.mem_append.mp h with m1 | m1
        · rcases List.mem_cons.mp m1 with z | m1
          · cases z
            exact ⟨0, rfl, rfl⟩
          · obtain ⟨i, e1, e2⟩ := step (Nat.succ.inj h1) h2 (List.mem_append_left _ m1)
            exact ⟨i + 1, e1, e2⟩
        · obtain ⟨i, e1, e2⟩ := step (Nat.succ.inj h1) h2 (List.mem_append_right _ m1)
          exact ⟨i + 1, e1, e2⟩
/-- the parts and their places -/
def Pt.kz (L : Shp) (t : Pt) : List (Nat × Pt) := (kpl 0 (shL L t.w)).zip t.ks
abbrev ItmP := List Int × Pt
def itemP (L : Shp) (p : ItmP) : PyData := .tuple [rowD_ p.1, p.2.toD L]
def Pt.kp (L : Shp) (p : List Int) (t : Pt) : List ItmP := (t.kz L).map fun k => (p ++ [(k.1 : Int)], k.2)
def wsumP (l : List ItmP) : Nat := (l.map fun p => p.2.words).sum
theorem Pt.words_pos : ∀ t : Pt, 1 ≤ t.words := fun t => by cases t <;> simp [Pt.words]
theorem wsumP_len : ∀ l : List ItmP, l.length ≤ wsumP l
  | [] => Nat.zero_le _
  | p :: l => by
    have := wsumP_len l
    have := Pt.words_pos p.2
    simp only [wsumP, List.map_cons, List.sum_cons, List.length_cons] at *
    omega
theorem wsumP_app (l m : List ItmP) : wsumP (l ++ m) = wsumP l + wsumP m := by simp [wsumP]
theorem Pt.kz_len {L : Shp} {t : Pt} (h : t.ks.length = (kpl 0 (shL L t.w)).length) : (t.kz L).length = t.ks.length := by
  unfold Pt.kz
  rw [List.length_zip]
  omega
theorem Pt.kz_snd {L : Shp} {t : Pt} (h : t.ks.length = (kpl 0 (shL L t.w)).length) : (t.kz L).map (·.2) = t.ks := by
  unfold Pt.kz
  exact List.map_snd_zip (by omega)
theorem Pt.kz_fst {L : Shp} {t : Pt} (h : t.ks.length = (kpl 0 (shL L t.w)).length) : (t.kz L).map (·.1) = kpl 0 (shL L t.w) := by
  unfold Pt.kz
  exact List.map_fst_zip (by omega)
theorem Pt.kp_sum {L : Shp} {t : Pt} (p : List Int) (h : t.ks.length = (kpl 0 (shL L t.w)).length) : wsumP (t.kp L p) + 1 = t.words := by
  have e : wsumP (t.kp L p) = (t.ks.map Pt.words).sum := by
    rw [← Pt.kz_snd h, List.map_map]
    unfold wsumP Pt.kp
    rw [List.map_map]
    rfl
  rw [e]
  cases t <;> simp [Pt.ks, Pt.words]
def Pt.kr (L : Shp) (p : List Int) (t : Pt) : List ItmP := (t.kp L p).reverse
theorem Pt.kr_sum {L : Shp} {t : Pt} (p : List Int) (h : t.ks.length = (kpl 0 (shL L t.w)).length) : wsumP (t.kr L p) + 1 = t.words := by
  rw [← Pt.kp_sum p h]
  unfold Pt.kr wsumP
  rw [List.map_reverse, List.sum_reverse]
/-- what stands behind a paper's word -/
def Pt.rest (L : Shp) (t : Pt) : List PyData := fill (shL L t.w) (t.ns.map .int) (t.ks.map (Pt.toD L))
theorem Pt.kz_at {L : Shp} {t : Pt} (h1 : t.ns.length = (wpl 0 (shL L t.w)).length) (h : t.ks.length = (kpl 0 (shL L t.w)).length) (k : Nat × Pt) (m : k ∈ t.kz L) : (PyData.str t.w :: t.rest L)[k.1]? = some (k.2.toD L) := by
  obtain ⟨i, e1, e2⟩ := fill_get (s := shL L t.w) (a := 0) (xs := t.ns.map PyData.int) (ks := t.ks.map (Pt.toD L)) (by rw [List.length_map]; exact h1) (by rw [List.length_map]; exact h) k.1 (k.2.toD L) (List.mem_append_right _ (by
    rw [List.zip_map_right]
    exact List.mem_map.mpr ⟨k, m, rfl⟩))
  rw [e1, Nat.zero_add, List.getElem?_cons_succ]
  exact e2
theorem Pt.kz_mem {L : Shp} {t : Pt} {k : Nat × Pt} (m : k ∈ t.kz L) : k.2 ∈ t.ks := (List.of_mem_zip (show (k.1, k.2) ∈ _ from m)).2
theorem Pt.rest_flat (L : Shp) (t : Pt) : flatDs (t.rest L) = true := by
  have := Pt.flat L t
  rw [Pt.toD_eq] at this
  exact (Bool.and_eq_true _ _ ▸ (show (flatD (.str t.w) && flatDs (t.rest L)) = true from this)).2
theorem pt_at {K : PySem.W.Frag} {H : Hp} {L : Shp} {t : Pt} {v : V} (h : Dp K H v (t.toD L)) : ∃ a xs, v = .ref a ∧ SqT K H a (.str t.w :: xs) ∧ DpAll K H xs (t.rest L) := by
  rw [Pt.toD_eq] at h
  obtain ⟨a, xs, rfl, hs, ha⟩ := h.tup_inv
  cases ha with
  | cons h1 h2 =>
    cases h1
    exact ⟨a, _, rfl, hs, h2⟩
theorem flatItemsP (L : Shp) : ∀ l : List ItmP, flatDs (l.map (itemP L)) = true
  | [] => rfl
  | p :: l => by
    have h1 := flatItemsP L l
    have h2 : flatDs (p.1.map PyData.int) = true := flatDs_ints p.1
    show (flatD (itemP L p) && flatDs (l.map (itemP L))) = true
    rw [h1, Bool.and_true]
    show (flatDs (p.1.map .int) && (flatD (p.2.toD L) && true)) = true
    rw [h2, Pt.flat L p.2]
    rfl
/-- the fault that a stack comes to -/
def flS (L : Shp) (its : List ItmP) : Option (List Int) := its.reverse.findSome? fun it => it.2.fl L it.1
theorem flS_snoc (L : Shp) (its : List ItmP) (it : ItmP) : flS L (its ++ [it]) = (it.2.fl L it.1).or (flS L its) := by
  unfold flS
  rw [List.reverse_append, List.reverse_singleton, List.singleton_append, List.findSome?_cons]
  cases it.2.fl L it.1 <;> rfl
theorem fl_n0 (L : Shp) (w : Str) (ns : List Int) (p : List Int) : (Pt.n0 w ns).fl L p = if p.length = 8 then some [] else if Pt.good L (.n0 w ns) then none else some p := rfl
theorem fl_n1 (L : Shp) (w : Str) (ns : List Int) (k : Pt) (p : List Int) : (Pt.n1 w ns k).fl L p = if p.length = 8 then some [] else if Pt.good L (.n1 w ns k) then k.fl L (p ++ [((kpl 0 (shL L w)).getD 0 0 : Int)]) else some p := rfl
theorem fl_n2 (L : Shp) (w : Str) (ns : List Int) (k l : Pt) (p : List Int) : (Pt.n2 w ns k l).fl L p = if p.length = 8 then some [] else if Pt.good L (.n2 w ns k l) then (k.fl L (p ++ [((kpl 0 (shL L w)).getD 0 0 : Int)])).or (l.fl L (p ++ [((kpl 0 (shL L w)).getD 1 0 : Int)])) else some p := rfl
theorem find_one {α β : Type} (f : α → Option β) (x : α) : [x].findSome? f = f x := by
  rw [List.findSome?_cons]
  cases f x <;> rfl
theorem find_two {α β : Type} (f : α → Option β) (x y : α) : [x, y].findSome? f = (f x).or (f y) := by
  rw [List.findSome?_cons, find_one]
  cases f x <;> rfl
theorem flS_kids {L : Shp} {t : Pt} {p : List Int} (its : List ItmP) (h : t.ks.length = (kpl 0 (shL L t.w)).length) (h8 : p.length ≠ 8) (hg : t.good L = true) : flS L (its ++ t.kr L p) = flS L (its ++ [(p, t)]) := by
  rw [flS_snoc]
  unfold flS Pt.kr
  rw [List.reverse_append, List.reverse_reverse, List.findSome?_append]
  congr 1
  cases t with
  | n0 w ns =>
    rw [fl_n0, if_neg h8, if_pos hg]
    unfold Pt.kp Pt.kz
    simp [Pt.ks]
  | n1 w ns k =>
    rw [fl_n1, if_neg h8, if_pos hg]
    unfold Pt.kp Pt.kz
    have h : [k].length = (kpl 0 (shL L w)).length := h
    have e : (Pt.n1 w ns k).w = w := rfl
    rw [e]
    match kpl 0 (shL L w), h with
    | [a], _ => exact find_one _ _
  | n2 w ns k l =>
    rw [fl_n2, if_neg h8, if_pos hg]
    unfold Pt.kp Pt.kz
    have h : [k, l].length = (kpl 0 (shL L w)).length := h
    have e : (Pt.n2 w ns k l).w = w := rfl
    rw [e]
    match kpl 0 (shL L w), h with
    | [a, b], _ => exact find_two _ _ _
theorem Pt.fl_deep {L : Shp} {t : Pt} {p : List Int} (h : p.length = 8) : t.fl L p = some [] := by
  cases t
  · exact (fl_n0 ..).trans (if_pos h)
  · exact (fl_n1 ..).trans (if_pos h)
  · exact (fl_n2 ..).trans (if_pos h)
theorem Pt.fl_bad {L : Shp} {t : Pt} {p : List Int} (h : p.length ≠ 8) (hg : t.good L = false) : t.fl L p = some p := by
  have hn : ¬ t.good L = true := by rw [hg]; decide
  cases t
  · exact (fl_n0 ..).trans ((if_neg h).trans (if_neg hn))
  · exact (fl_n1 ..).trans ((if_neg h).trans (if_neg hn))
  · exact (fl_n2 ..).trans ((if_neg h).trans (if_neg hn))
end CS
set_option Elab.async false
set_option maxRecDepth 100000
set_option maxHeartbeats 8000000
set_option linter.unusedVariables false
set_option pp.maxSteps 5000
/-! the first fault of a paper -/
namespace CS
open PySem L2 RZ LamX
section
variable {P : Program} {w : World} {K : PySem.W.Frag} {mg : Str → Option Value} {base : Heap} {L : Shp}
def spFaultB (K : PySem.W.Frag) (L : Shp) : Sp := fun vs H Q _ => ∃ v d, ∃ t : Pt, vs = [v, .ref d] ∧ H d = some (.dK (kvS L)) ∧ Dp K H v (t.toD L) ∧ LGood L ∧ t.Wf (kdS L) ∧ t.words ≤ 20 ∧ (t.fl L [] = none → ∀ H', Same H H' → Q .non H') ∧ ∀ p, t.fl L [] = some p → ∀ q H', Same H H' → SqT K H' q (p.map V.int) → Q (.ref q) H'
abbrev nsFaultInB : List Str := ["whole", "shapes", "waiting", "many", "path", "thing", "places", "at"]
theorem scFaultInB : FnScope nsFaultInB ["whole", "shapes"] (defScope sFaultIn) := ⟨rfl, rfl, rfl, by decide +kernel, rfl, by decide +kernel, by decide +kernel⟩
theorem ok_fault_inB {f : Addr} {fd : FuncData} (F : Df K mg "fault_in" sFaultIn ["whole", "shapes"] f fd)
    {f1 : Addr} {fd1 : FuncData} (D1 : Df K mg "kid_places" sKidPlaces ["shape"] f1 fd1) (G1 : FnOk P w K mg base CX0 1 f1 fd1 ["shape"] (spPlaces K))
    {f2 : Addr} {fd2 : FuncData} (D2 : Df K mg "is_formed" sIsFormed ["thing", "shapes"] f2 fd2) (G2 : FnOk P w K mg base CX0 4 f2 fd2 ["thing", "shapes"] (spFormB K L))
    {t1 t2 : Tok} (gMW : mg "MOST_WORDS" = some (.int 20 t1)) (gMI : mg "MOST_WITHIN" = some (.int 8 t2)) (T : Bt mg) : FnOk P w K mg base CX0 5 f fd ["whole", "shapes"] (spFaultB K L) := by
  refine F.F.ok scFaultInB (fun vs H Q E h => ?_) (fun cdv A outer s H vs Q E hr h => ?_)
  · obtain ⟨v, d, t, rfl, _⟩ := h
    rfl
  · obtain ⟨v, d, t, rfl, hd, hv, lg, wf, w20, kN, kS⟩ := h
    have hu := hu_of hr
    refine ⟨_, (pss_cons (ps_set (i := 2) scFaultInB.nd rfl (Or.inl rfl) (pe_lst (pa_cons (pe_tup (pa_cons (pe_tup pa_nil) (pa_cons (pv 0) pa_nil))) pa_nil)))
      (pss_cons (ps_set (i := 3) scFaultInB.nd rfl (Or.inl rfl) pe_int)
      (pss_cons (ps_while PassesOwn.never (pt_truth (pv 2) (fun _ => rfl)) (pss_cons (ps_asg (pe_bm0 PySem.F.plainAttrs_list PySem.F.slot_list_pop PySem.F.type_list_pop mt_pop (pv 2)) (pg_tup rfl (pgs_cons (pg_name (i := 4) scFaultInB.nd rfl (Or.inr rfl)) (pgs_cons (pg_name (i := 5) scFaultInB.nd rfl (Or.inr rfl)) pgs_nil))))
      (pss_cons (ps_aug (i := 3) scFaultInB.nd rfl (Or.inl rfl) pe_int ip_add)
      (pss_cons (ps_if (PW.pt (pw_or (pt_cmpR op_gt (pv 3) (pe_glob (v := .int 20) (by rfl) gMW ⟨_, rfl⟩) (nomark _)) (pw_or1 (pt_cmpR op_eq (pe_callB call_len_seq (by rfl) T.len PySem.boot_len (pa_cons (pv 4) pa_nil)) (pe_glob (v := .int 8) (by rfl) gMI ⟨_, rfl⟩) (nomark _))))) (pss_one (ps_ret (pe_tup pa_nil))) pss_nil)
      (pss_cons (ps_if (pt_not (pt_val (pe_call G2 (hr.mono (by decide)) (by rfl) D2.g D2.F.kp D2.b .nil pass0 (pa_cons (pv 5) (pa_cons (pv 1) pa_nil))))) (pss_one (ps_ret (pv 4))) pss_nil)
      (pss_cons (ps_set (i := 6) scFaultInB.nd rfl (Or.inl rfl) (pe_call G1 (hr.mono (by decide)) (by rfl) D1.g D1.F.kp D1.b .nil pass0 (pa_cons (pe_dget hu (pv 1) (pe_ix ix_tup (pv 5) pe_int (fun _ _ => rfl)) (fun _ _ => rfl)) pa_nil)))
      (pss_one (ps_expr (pe_bm PySem.F.plainAttrs_list PySem.F.slot_list_extend PySem.F.type_list_extend mt_extend (pv 2) (pa_cons (pe_lc (own := [("at", 7)]) (g := gName 7) (tt := tYes) rfl scFaultInB.nd (pi_list (pe_revL (pv 6))) (blkOk_by (N := nsFaultInB) (sc := defScope sFaultIn) (by decide +kernel)) (fun _ _ _ _ _ => pg_name (i := 7) scFaultInB.nd rfl (Or.inl rfl)) (fun _ _ _ _ _ => pts_nil) (fun _ _ _ _ _ => (pe_tup (pa_cons (show PE _ _ (tTup (StX.tStar K (tVar 4) (tCons (tVar 7) tNil))) from pe_tup (StX.pa_star (pv 4) (pa_cons (pv 7) pa_nil))) (pa_cons (pe_ix (r := rIxT K) ix_tup (pv 5) (pv 7) (fun _ _ => rfl)) pa_nil))))) pa_nil))))))))))
      (pss_one (ps_ret pe_non))))), ?_⟩
    refine ⟨(by show 0 ≤ sizeLine; decide), fun e1 n1 => ⟨_, rfl, (by show 2 ≤ sizeLine; decide), fun e2 n2 => ⟨(by show 1 ≤ sizeLine; decide), fun l1 m1 => ?_⟩⟩⟩
    have g1 := Same.new (o := .tup []) n1
    have g2 := Same.new (o := .tup [V.ref e1, v]) n2
    have g3 := Same.new (o := .lst [V.ref e2]) m1
    have s0 := (g1.trans g2).trans g3
    have nl : H l1 = none := by
      cases e : H l1 with
      | none => rfl
      | some o =>
        have := (g1.trans g2) _ _ e
        rw [m1] at this
        cases this
    have i0 : DpAll K (upd (upd (upd H e1 (.tup [])) e2 (.tup [V.ref e1, v])) l1 (.lst [V.ref e2])) [V.ref e2] (List.map (itemP L) [([], t)]) := .cons (.tup (g3.tup (SqT.of upd_same)) (.cons (.tup ((g2.trans g3).tup (SqT.of upd_same)) .nil) (.cons (Dp.same s0 hv) .nil))) .nil
    have h0 : (upd (upd (upd H e1 (.tup [])) e2 (.tup [V.ref e1, v])) l1 (.lst [V.ref e2])) l1 = some (.lst [V.ref e2]) := upd_same
    generalize upd (upd (upd H e1 (.tup [])) e2 (.tup [V.ref e1, v])) l1 (.lst [V.ref e2]) = H0 at *
    refine ⟨fun m σ H' => ∃ v4 v5 v6 v7 ws its, ∃ done : Nat, σ = [some v, some (.ref d), some (.ref l1), some (.int done), v4, v5, v6, v7] ∧ Same H H' ∧ H' l1 = some (.lst ws) ∧ DpAll K H' ws (its.map (itemP L)) ∧ wsumP its + done ≤ 20 ∧ (∀ it ∈ its, it.2.Wf (kdS L) ∧ it.1.length ≤ 8) ∧ flS L its = t.fl L [] ∧ m = wsumP its,
      ⟨_, none, none, none, none, [V.ref e2], [([], t)], 0, rfl, s0, h0, i0, by simpa [wsumP] using w20, fun it hit => by
        rw [List.mem_singleton.mp hit]
        exact ⟨wf, Nat.zero_le _⟩, find_one _ _, rfl⟩, ?_⟩
    rintro m σ H1 ⟨v4, v5, v6, v7, ws, its, done, rfl, s1, hl, hw, wd, each, ef, rfl⟩
    have lw := hw.len
    rw [List.length_map] at lw
    refine ⟨_, rfl, _, .inl ⟨ws, SqL.of hl, rfl⟩, ?_⟩
    rcases List.eq_nil_or_concat its with rfl | ⟨its', ⟨p, t1⟩, rfl⟩
    · obtain rfl : ws = [] := List.length_eq_zero_iff.mp lw
      exact iteF (kN ef.symm _ s1)
    rw [List.concat_eq_append] at *
    rcases List.eq_nil_or_concat ws with rfl | ⟨ws', y, rfl⟩
    · rw [List.length_append] at lw
      cases lw
    rw [List.concat_eq_append] at *
    refine iteTe (by simp) ?_
    obtain ⟨hw', dy⟩ := dp_unsnocG (K := K) (H := H1) (ds := its'.map (itemP L)) (by simpa using lw) (by simpa using hw)
    obtain ⟨pa, xp, rfl, hpa, hxp⟩ := dy.tup_inv
    obtain ⟨x1, u, rfl, d1, d2⟩ : ∃ x1 u, xp = [x1, u] ∧ Dp K H1 x1 (rowD_ p) ∧ Dp K H1 u (t1.toD L) := by
      cases hxp with
      | cons a b =>
        cases b with
        | cons a2 b2 =>
          cases b2
          exact ⟨_, _, rfl, a, a2⟩
    obtain ⟨q, xq, rfl, hq, hxq⟩ := d1.tup_inv
    obtain rfl := DpAll.of_ints hxq
    obtain ⟨a1, x5, rfl, ha1, hx5⟩ := pt_at d2
    obtain ⟨ok1, h81⟩ := each (p, t1) (by simp)
    have wp1 := Pt.words_pos t1
    dsimp only at ok1 h81
    obtain ⟨sh1, hsh1, esh1, ln1, lk1, kw1⟩ := Pt.wf_at lg.1 ok1
    rw [← esh1] at ln1 lk1
    rw [flS_snoc] at ef
    dsimp only at ef
    have ws1 : wsumP (its' ++ [(p, t1)]) = wsumP its' + t1.words := by simp [wsumP]
    refine ⟨_, fun σ' H' h => h, ?_⟩
    refine ⟨_, rfl, .inl ⟨rfl, _, SqL.of hl⟩, l1, _, .ref pa, rfl, rfl, hl, by simp, ?_⟩
    rw [List.dropLast_concat]
    have k2 : TK K H1 (upd H1 l1 (.lst ws')) := tk_lst hl
    have s2 : Same H (upd H1 l1 (.lst ws')) := same_upd nl s1
    have hl2 : (upd H1 l1 (.lst ws')) l1 = some (.lst ws') := upd_same
    have hpa2 := k2 _ _ hpa
    have hq2 := k2 _ _ hq
    have ha2 := k2 _ _ ha1
    have d22 := Dp.tk k2 (Pt.flat L t1) d2
    have hw2 := DpAll.tk k2 (flatItemsP L its') hw'
    have hx52 := DpAll.tk k2 (Pt.rest_flat L t1) hx5
    generalize upd H1 l1 (.lst ws') = H2 at *
    refine ⟨pa, _, rfl, hpa2, rfl, _, _, rfl, _, _, rfl, rfl, _, rfl, _, _, rfl, rfl, ?_⟩
    refine ⟨_, rfl, _, _, rfl, rfl, _, rfl, iteFe (decide_eq_false (by show ¬ (20 < (done : Int) + 1); omega)) ⟨_, rfl, q, _, rfl, .inr hq2, rfl, _, rfl, ?_⟩⟩
    rw [dec_int]
    by_cases c8 : p.length = 8
    · rw [Pt.fl_deep c8] at ef
      refine iteTe (beq_iff_eq.mpr (by rw [List.length_map, c8]; rfl)) ⟨(by show 0 ≤ sizeLine; decide), fun e0 n0 => kS [] ef.symm _ _ (s2.trans (Same.new n0)) (SqT.of upd_same)⟩
    refine iteFe (beq_eq_false_iff_ne.mpr (by rw [List.length_map]; omega)) ?_
    refine ⟨_, rfl, _, rfl, .ref a1, d, t1, rfl, s2 _ _ hd, d22, lg, ok1, fun H3 s3 => ⟨_, rfl, ?_⟩⟩
    cases hg : t1.good L with
    | false =>
      rw [Pt.fl_bad c8 hg] at ef
      exact iteT ⟨_, rfl, kS p ef.symm _ _ (s2.trans s3) (s3.tup hq2)⟩
    | true => ?_
    refine iteF ?_
    have gd : DGet H3 d (.str t1.w) (some (.str sh1)) := by
      have := DGet.k (k := Sum.inr t1.w) (s3 _ _ (s2 _ _ hd))
      rw [valV_kvS, hsh1] at this
      exact this
    refine ⟨_, rfl, _, rfl, a1, _, 0, _, rfl, rfl, s3.tup ha2, ati0, d, _, rfl, gd, sh1, rfl, (lg.1 _ _ hsh1).1, fun D H4 s4 hD => ?_⟩
    have pl1 : plcG sh1 sh1.cps.size = (t1.kz L).map fun k => (k.1 : Int) := by
      rw [(lg.1 _ _ hsh1).2.2.1, ← esh1, ← Pt.kz_fst lk1, List.map_map]
      rfl
    rw [pl1] at hD
    refine ⟨_, rfl, .inl ⟨rfl, ws', SqL.of (s4 _ _ (s3 _ _ hl2))⟩, _, rfl, D, _, rfl, hD, fun D2 n2 => ⟨D2, rfl, ⟨_, SqL.of upd_same⟩, fun Dl nL => ?_⟩⟩
    have s5 := (s3.trans s4).trans (Same.new (o := .lst (List.map V.int (List.map (fun k => (k.1 : Int)) (t1.kz L))).reverse) n2)
    have hD2 : (upd H4 D2 (.lst (List.map V.int (List.map (fun k => (k.1 : Int)) (t1.kz L))).reverse)) D2 = some (.lst ((t1.kz L).reverse.map fun k => V.int (k.1 : Int))) := by
      rw [upd_same, List.map_map, List.map_reverse]
      rfl
    have gone : ∀ {H' : Hp}, Same (upd H4 D2 (.lst (List.map V.int (List.map (fun k => (k.1 : Int)) (t1.kz L))).reverse)) H' → Same H2 H' := fun s => s5.trans s
    generalize upd H4 D2 (.lst (List.map V.int (List.map (fun k => (k.1 : Int)) (t1.kz L))).reverse) = H5 at *
    have few : (t1.kz L).length ≤ 20 := by
      have e1 : (t1.kr L p).length = (t1.kz L).length := by simp [Pt.kr, Pt.kp]
      have := wsumP_len (t1.kr L p)
      have := Pt.kr_sum p lk1
      omega
    refine lc_it (walk_list (K := K) (a := D2) (xs := (t1.kz L).reverse.map fun k => V.int (k.1 : Int))) (fun i H' => ∃ us, H' Dl = some (.lst us) ∧ Same H5 H' ∧ DpAll K H' us (((t1.kr L p).take i).map (itemP L))) ⟨[], upd_same, Same.new nL, .nil⟩ (fun i H' _ ⟨_, _, s, _⟩ => s.seq (SqL.of hD2)) ?_ ?_
    · rintro i x H6 H7 hi ⟨us, h6, s6, c6⟩ ⟨rfl, hx⟩
      rw [List.getElem?_map] at hx
      obtain ⟨kd, hk, rfl⟩ := Option.map_eq_some_iff.mp hx
      have mem : kd ∈ (t1.kz L) := List.mem_reverse.mp (List.mem_of_getElem? hk)
      have hk2 : (t1.kr L p)[i]? = some (p ++ [(kd.1 : Int)], kd.2) := by
        unfold Pt.kr Pt.kp
        rw [← List.map_reverse, List.getElem?_map, hk]
        rfl
      have s26 := gone s6
      have hx56 := DpAll.same s26 hx52
      obtain ⟨child, hc, dc⟩ := DpAll.at (K := K) (H := H7) (vs := .str t1.w :: x5) (ds := .str t1.w :: t1.rest L) (.cons (.str _) hx56) (Pt.kz_at ln1 lk1 kd mem)
      have lu := c6.len
      rw [List.length_map, List.length_take] at lu
      have hlen : (t1.kr L p).length = (t1.kz L).length := by simp [Pt.kr, Pt.kp]
      refine ⟨rfl, ?_⟩
      dsimp only [tYes]
      rw [if_pos rfl]
      refine ⟨_, rfl, q, _, rfl, .inl (s26.tup hq2), _, rfl, ?_⟩
      refine ⟨(by rw [List.length_append, List.length_map]; exact Nat.le_trans (show _ ≤ 100 by simp; omega) (by decide)), fun b nb => ⟨_, rfl, _, rfl, a1, _, (kd.1 : Int), child, rfl, rfl, (s26.trans (Same.new nb)).tup ha2, atI_nat hc, ?_⟩⟩
      refine ⟨(by show 2 ≤ sizeLine; decide), fun c nc => ?_⟩
      have k6 := Same.new (o := .tup (p.map V.int ++ [V.int (kd.1 : Int)])) nb
      have k7 := Same.new (o := .tup [V.ref b, child]) nc
      have k8 := k6.trans k7
      refine ⟨us, k8 _ _ h6, small1000 (by omega), us ++ [.ref c], upd_same, same_upd nL (s6.trans k8), ?_⟩
      rw [take_snoc hk2, List.map_append]
      refine DpAll.tk (tk_lst (k8 _ _ h6)) ?_ (DpAll.app (DpAll.same k8 c6) (.cons (.tup (SqT.of upd_same) (.cons (.tup (k7.tup (SqT.of upd_same)) ?_) (.cons (Dp.same k8 dc) .nil))) .nil))
      · rw [← List.map_append]
        exact flatItemsP L _
      · have := DpAll.ints (K := K) (H := upd (upd H7 b (.tup (p.map V.int ++ [V.int (kd.1 : Int)]))) c (.tup [V.ref b, child])) (p ++ [(kd.1 : Int)])
        rw [List.map_append] at this
        exact this
    · rintro H6 ⟨us, h6, s6, c6⟩
      have hlen : (t1.kr L p).length = (t1.kz L).length := by simp [Pt.kr, Pt.kp]
      rw [List.length_map, List.length_reverse, ← hlen, List.take_length] at c6
      have lu := c6.len
      rw [List.length_map, hlen] at lu
      have lw2 := hw2.len
      rw [List.length_map] at lw2
      have li := wsumP_len its'
      have ks := Pt.kr_sum p lk1
      have s26 := gone s6
      have hl6 := s26 _ _ hl2
      refine ⟨l1, Dl, ws', us, rfl, rfl, hl6, h6, Nat.le_trans (show _ ≤ 100 by omega) (by decide), wsumP (its' ++ t1.kr L p), by rw [wsumP_app]; omega, _, _, _, _, ws' ++ us, its' ++ t1.kr L p, done + 1, rfl, same_upd nl (s2.trans s26), upd_same, ?_, by rw [wsumP_app]; omega, fun it hit => ?_, ?_, rfl⟩
      · rw [List.map_append]
        refine DpAll.tk (tk_lst hl6) ?_ (DpAll.app (DpAll.same s26 hw2) c6)
        rw [← List.map_append]
        exact flatItemsP L _
      · rcases List.mem_append.mp hit with h | h
        · exact each it (List.mem_append.mpr (.inl h))
        · obtain ⟨kd, mem, rfl⟩ := List.mem_map.mp (List.mem_reverse.mp h)
          refine ⟨kw1 _ (Pt.kz_mem mem), ?_⟩
          rw [List.length_append]
          show p.length + 1 ≤ 8
          omega
      · rw [flS_kids _ lk1 c8 hg, flS_snoc]
        exact ef
end
end CS
set_option Elab.async false
set_option maxRecDepth 100000
set_option maxHeartbeats 8000000
set_option linter.unusedVariables false
set_option pp.maxSteps 5000
/-! a term read off a text -/
namespace CS
open PySem L2 RZ LamX
section
variable {P : Program} {w : World} {K : PySem.W.Frag} {mg : Str → Option Value} {base : Heap} {C CB CT : Addr} {TT : List (Addr × Str)} {L : Shp}
theorem scBtIT : FnScope ["self", "path"] ["self", "path"] (defScope (inClass sBadTerm 0)) := ⟨rfl, rfl, rfl, by decide +kernel, rfl, by decide +kernel, by decide +kernel⟩
theorem bt_iniT {fI : Addr} {fd : FuncData} (Z : Xc K mg "BadTerm" "path" CT fI bmV "ValueError.__new__" (inClass sBadTerm 0) "BadTerm.__init__" fd) : FnOk P w K mg base CX0 1 fI fd ["self", "path"] (spPut CT "path") :=
  ok_put PySem.F.store_ValueError Z.T Z.F scBtIT rfl rfl rfl (by decide +kernel) (by decide +kernel) (fun _ => rfl)
def refS (CB : Addr) (ln q : Nat) (H : Hp) (E : XK) : Prop := ∀ H' e, Same H H' → H' e = some (.xd [("word", .int (q : Int)), ("line", .int (ln : Int))]) → E (.ref CB) (some e) H'
def spNoMore (CB : Addr) (K : PySem.W.Frag) : Sp := fun vs H Q E => ∃ (l : Addr) (xs : List V) (m : Nat), vs = [.ref l, .int (m : Int)] ∧ H l = some (.lst xs) ∧ ((xs.length ≤ m ∧ Q .non H) ∨ (m < xs.length ∧ refS CB m 0 H E))
abbrev nsNeedNoMore : List Str := ["lines", "most"]
theorem scNeedNoMore : FnScope nsNeedNoMore ["lines", "most"] (defScope sNeedNoMore) := ⟨rfl, rfl, rfl, by decide +kernel, rfl, by decide +kernel, by decide +kernel⟩
theorem ok_need_no_more {f : Addr} {fd : FuncData} (F : Df K mg "need_no_more" sNeedNoMore ["lines", "most"] f fd)
    (T : Bt mg) {fI : Addr} {fdI : FuncData} (Z : Xc2 K mg "BadText" "line" "word" CB fI bmV "ValueError.__new__" (inClass sBadText 0) "BadText.__init__" fdI) : FnOk P w K mg base (L2.CX P w) 3 f fd ["lines", "most"] (spNoMore CB K) := by
  refine F.F.okX scNeedNoMore (fun vs H Q E h => ?_) (fun cdv A outer s H vs Q E hr h => ?_)
  · obtain ⟨l, xs, m, rfl, _⟩ := h
    rfl
  · obtain ⟨l, xs, m, rfl, hl, k⟩ := h
    refine ⟨_, (pss_one (ps_if (pt_cmpR op_gt (pe_callB call_len_seq (by rfl) T.len PySem.boot_len (pa_cons (pv 0) pa_nil)) (pv 1) (nomark _)) (pss_one (ps_raise rfl (takes_of rfl rfl rfl rfl) (pmk_own2 PySem.F.excBase_ValueError Z.T (ini_20 Z) Z.b (hr.mono (by omega)) (by rfl) (pa_cons (pv 1) (pa_cons pe_int pa_nil))))) pss_nil)), ?_⟩
    refine ⟨_, rfl, l, _, rfl, .inl (SqL.of hl), _, rfl, _, _, rfl, rfl, _, rfl, ?_⟩
    rcases k with ⟨c, q⟩ | ⟨c, q⟩
    · exact iteFe (decide_eq_false (by omega)) q
    · exact iteTe (decide_eq_true (by omega)) ⟨_, rfl, _, _, rfl, fun d nd => q _ d (Same.new nd) upd_same⟩
def spReadTree (CB : Addr) (L : Shp) (K : PySem.W.Frag) (TT : List (Addr × Str)) : Sp := fun vs H Q E => ∃ (t : Str) (d : Addr), vs = [.str t, .ref d] ∧ t.length ≤ 3000 ∧ H d = some (.dK (kvS L)) ∧ Tabs TT H ∧
  (∀ tr, rdT L t = .inl tr → ∀ H' r, ExtN H H' → Tabs TT H' → Dp K H' (.ref r) (tr.toD L) → Q (.ref r) H') ∧ (∀ ln q, rdT L t = .inr (ln, q) → refN CB TT ln q H E)
abbrev nsReadTree : List Str := ["text", "shapes", "lines", "tree"]
theorem scReadTree : FnScope nsReadTree ["text", "shapes"] (defScope sReadTree) := ⟨rfl, rfl, rfl, by decide +kernel, rfl, by decide +kernel, by decide +kernel⟩
theorem ok_read_tree {f : Addr} {fd : FuncData} (F : Df K mg "read_tree" sReadTree ["text", "shapes"] f fd)
    {f1 : Addr} {fd1 : FuncData} (D1 : Df K mg "need_no_more" sNeedNoMore ["lines", "most"] f1 fd1) (G1 : FnOk P w K mg base (L2.CX P w) 3 f1 fd1 ["lines", "most"] (spNoMore CB K))
    {f2 : Addr} {fd2 : FuncData} (D2 : Df K mg "tree_of" sTreeOf ["text", "number", "shapes"] f2 fd2) (G2 : FnOk P w K mg base (L2.CX P w) 28 f2 fd2 ["text", "number", "shapes"] (spTreeOf CB L K TT))
    {f3 : Addr} {fd3 : FuncData} (D3 : Df K mg "lines_of" sLinesOf ["text"] f3 fd3) (G3 : FnOk P w K mg base CX0 2 f3 fd3 ["text"] (spLines)) : FnOk P w K mg base (L2.CX P w) 29 f fd ["text", "shapes"] (spReadTree CB L K TT) := by
  refine F.F.okX scReadTree (fun vs H Q E h => ?_) (fun cdv A outer s H vs Q E hr h => ?_)
  · obtain ⟨t, d, rfl, _⟩ := h
    rfl
  · obtain ⟨t, d, rfl, ht, hd, hT, kQ, kE⟩ := h
    refine ⟨_, (pss_cons (ps_set (i := 2) scReadTree.nd rfl (Or.inl rfl) (pe_call G3 (hr.mono (by omega)) (by rfl) D3.g D3.F.kp D3.b .nil pass0 (pa_cons (pv 0) pa_nil)))
      (pss_cons (ps_set (i := 3) scReadTree.nd rfl (Or.inl rfl) (pe_call G2 (hr.mono (by omega)) (by rfl) D2.g D2.F.kp D2.b .nil (passes_call (takes_of rfl rfl rfl rfl) (fun _ _ _ _ h => h)) (pa_cons (pe_ix ix_list (pv 2) pe_int (fun _ _ => rfl)) (pa_cons pe_int (pa_cons (pv 1) pa_nil)))))
      (pss_cons (ps_expr (pe_call G1 (hr.mono (by omega)) (by rfl) D1.g D1.F.kp D1.b .nil (passes_call (takes_of rfl rfl rfl rfl) (fun _ _ _ _ h => h)) (pa_cons (pv 2) (pa_cons pe_int pa_nil))))
      (pss_one (ps_ret (pv 3)))))), ?_⟩
    obtain ⟨a, r, es⟩ := split_ne t 10 (by decide)
    obtain ⟨lw, lx⟩ := split_len t 10 (by decide)
    refine ⟨_, rfl, t, rfl, Nat.le_trans (Nat.add_le_add_right ht 2) (by decide), fun D H1 s1 h1 => ?_⟩
    rw [es] at h1
    refine ⟨_, rfl, D, _, 0, _, rfl, rfl, SqL.of h1, atI_nat (j := 0) rfl, _, rfl, a, 0, d, rfl, Nat.le_trans (lx a (by rw [es]; exact List.mem_cons_self)) ht, s1 _ _ hd, hT.ext s1, fun tr e H2 r2 x2 t2 d2 => ?_, fun q e H2 e2 x2 t2 he => ?_⟩
    · have h2 := x2 _ _ h1 (fun _ z => by cases z)
      refine ⟨_, rfl, D, _, 1, rfl, h2, ?_⟩
      by_cases c : 1 < (Txt.split t (sgn 10)).length
      · refine .inr ⟨by rw [es] at c; simpa using c, fun H3 e3 x3 he => kE 1 0 ?_ H3 e3 (ExtN.trans (.of s1) (ExtN.trans x2 (.of x3))) (t2.ext x3) he⟩
        unfold rdT
        rw [es]
        dsimp only [List.headD]
        rw [e]
        rw [es] at c
        exact if_pos c
      · refine .inl ⟨by rw [es] at c; simpa using c, _, rfl, kQ tr ?_ H2 r2 (ExtN.trans (.of s1) x2) t2 d2⟩
        unfold rdT
        rw [es]
        dsimp only [List.headD]
        rw [e]
        rw [es] at c
        exact if_neg c
    · refine kE 0 q ?_ H2 e2 (ExtN.trans (.of s1) x2) t2 he
      unfold rdT
      rw [es]
      dsimp only [List.headD]
      rw [e]
def spNeedT (K : PySem.W.Frag) (L : Shp) (CT : Addr) : Sp := fun vs H Q E => ∃ v, ∃ t : Pt, vs = [v] ∧ Dp K H v (t.toD L) ∧ t.Wf (kdS L) ∧ t.words ≤ 20 ∧ (t.fl L [] = none → ∀ H', Same H H' → Q v H') ∧ ∀ p, t.fl L [] = some p → ∀ q e H', Same H H' → SqT K H' q (p.map V.int) → H' e = some (.xd [("path", .ref q)]) → E (.ref CT) (some e) H'
abbrev nsNeedTerm : List Str := ["thing", "fault"]
theorem scNeedTerm : FnScope nsNeedTerm ["thing"] (defScope sNeedTerm) := ⟨rfl, rfl, rfl, by decide +kernel, rfl, by decide +kernel, by decide +kernel⟩
theorem ok_need_term {f : Addr} {fd : FuncData} (F : Df K mg "need_term" sNeedTerm ["thing"] f fd)
    {f1 : Addr} {fd1 : FuncData} (D1 : Df K mg "fault_in" sFaultIn ["whole", "shapes"] f1 fd1) (G1 : FnOk P w K mg base CX0 5 f1 fd1 ["whole", "shapes"] (spFaultB K L))
    {aT : Addr} (gT : mg "TERM_SHAPES" = some (.ref aT)) (DT : KD P w K aT (kvS L)) (lg : LGood L) (T : Bt mg) {fI : Addr} {fdI : FuncData} (Y : Xc K mg "BadTerm" "path" CT fI bmV "ValueError.__new__" (inClass sBadTerm 0) "BadTerm.__init__" fdI) : FnOk P w K mg base (L2.CX P w) 6 f fd ["thing"] (spNeedT K L CT) := by
  refine F.F.okX scNeedTerm (fun vs H Q E h => ?_) (fun cdv A outer s H vs Q E hr h => ?_)
  · obtain ⟨v, t, rfl, _⟩ := h
    rfl
  · obtain ⟨v, t, rfl, hv, wf, w20, kN, kS⟩ := h
    refine ⟨_, (pss_cons (ps_set (i := 1) scNeedTerm.nd rfl (Or.inl rfl) (pe_call G1 (hr.mono (by omega)) (by rfl) D1.g D1.F.kp D1.b .nil pass0 (pa_cons (pv 0) (pa_cons (pe_callTy (call_dictK DT) (by rfl) T.dict (by decide +kernel) (pa_cons (pe_glob (v := .ref aT) (by rfl) gT rfl) pa_nil)) pa_nil))))
      (pss_cons (ps_if (pt_cmpR op_notN (pv 1) pe_non (nomark _)) (pss_one (ps_raise rfl (takes_of rfl rfl rfl rfl) (pmk_own1 PySem.F.excBase_ValueError Y.T (bt_iniT Y) Y.b (hr.mono (by omega)) (by rfl) (pa_cons (pv 1) pa_nil)))) pss_nil)
      (pss_one (ps_ret (pv 0))))), ?_⟩
    refine ⟨_, rfl, rfl, fun d nd => ?_⟩
    have s1 := Same.new (o := .dK (kvS L)) nd
    refine ⟨v, d, t, rfl, upd_same, Dp.same s1 hv, lg, wf, w20, fun e H2 s2 => ⟨_, rfl, rfl, _, rfl, iteF ⟨_, rfl, kN e _ (s1.trans s2)⟩⟩, fun p e1 q H2 s2 hq => ⟨_, rfl, rfl, _, rfl, iteT ⟨_, rfl, _, rfl, fun e ne => kS p e1 q e _ (s1.trans (s2.trans (Same.new ne))) ((Same.new ne).tup hq) upd_same⟩⟩⟩
end
end CS
set_option Elab.async false
set_option maxRecDepth 100000
set_option maxHeartbeats 4000000
set_option linter.unusedVariables false
/-! a paper's text -/
namespace CS
open PySem L2
def strI (i : Int) : Str := toString i
theorem strI_nat (n : Nat) : lsS (strI (n : Int)) = TL.numL n := TL.tl_num n
theorem strI_neg (m : Nat) : lsS (strI (Int.negSucc m)) = 45 :: TL.numL (m + 1) := by
  show (Str.ofString ("-" ++ toString (m + 1))).cps.toList = _
  rw [PyProof.Rows.signs_ofString, String.toList_append, List.map_append]
  show 45 :: ((Nat.repr (m + 1)).toList.map Char.toNat) = _
  rw [Nat.toList_repr]
  rfl
theorem numL_head : ∀ n : Nat, (TL.numL n).head? = some 48 → n = 0 := fun n => by
  induction n using Nat.strongRecOn with
  | _ n ih =>
    intro h
    by_cases l : n < 10
    · rw [TL.numL_lt l] at h
      have : 48 + n = 48 := Option.some.inj h
      omega
    · rw [TL.numL_step (by omega)] at h
      have ne := TL.numL_ne (n / 10)
      have h2 : (TL.numL (n / 10)).head? = some 48 := by
        cases e : TL.numL (n / 10) with
        | nil => exact absurd e ne
        | cons a r => rw [e] at h; exact h
      have := ih (n / 10) (by omega) h2
      omega
theorem numL_figs {n : Nat} (h : n < 10 ^ 31) : figs (TL.numL n) = true := by
  unfold figs
  have ne := TL.numL_ne n
  have len := TL.numL_len (by decide) h
  have dg := TL.numL_digits n
  have a1 : (TL.numL n).isEmpty = false := by
    cases e : TL.numL n with
    | nil => exact absurd e ne
    | cons _ _ => rfl
  have a3 : (TL.numL n).all (fun c => decide (48 ≤ c ∧ c ≤ 57)) = true := List.all_eq_true.mpr fun c hc => decide_eq_true (dg c hc)
  rw [a1, decide_eq_true len, a3]
  by_cases z : n = 0
  · rw [z]
    decide +kernel
  · have : (TL.numL n).head? ≠ some 48 := fun e => z (numL_head n e)
    simp [this]
/-- a whole number's text is read as it -/
theorem strI_read {i : Int} (h : i.natAbs < 10 ^ 31) : intW (strI i) = some i := by
  cases i with
  | ofNat n =>
    have e := strI_nat n
    have hd : (lsS (strI (n : Int))).head? ≠ some 45 := by
      rw [e]
      intro z
      have := TL.numL_digits n 45 (List.mem_of_head? z)
      omega
    rw [show Int.ofNat n = (n : Int) from rfl, intW_plain hd, e, if_pos (numL_figs (n := n) h), TL.numL_val]
  | negSucc m =>
    have e := strI_neg m
    have h2 : m + 1 < 10 ^ 31 := h
    have e3 : (figs (TL.numL (m + 1)) && TL.numL (m + 1) != [48]) = true := by
      rw [numL_figs h2, Bool.true_and]
      refine bne_iff_ne.mpr fun z => ?_
      have := numL_head (m + 1) (by rw [z]; rfl)
      omega
    rw [intW_minus e, if_pos e3, TL.numL_val]
    rfl
theorem strI_len {i : Int} {k : Nat} (h0 : 0 < k) (h : i.natAbs < 10 ^ k) : (strI i).length ≤ k + 1 := by
  cases i with
  | ofNat n =>
    rw [len_lsS, show Int.ofNat n = (n : Int) from rfl, strI_nat]
    exact Nat.le_succ_of_le (TL.numL_len h0 h)
  | negSucc m =>
    rw [len_lsS, strI_neg]
    exact Nat.succ_le_succ (TL.numL_len h0 h)
theorem strI_free {i : Int} {c : Nat} (h : c < 45) : c ∉ lsS (strI i) := by
  cases i with
  | ofNat n =>
    rw [show Int.ofNat n = (n : Int) from rfl, strI_nat]
    exact TL.numL_free (.inl (by omega))
  | negSucc m =>
    rw [strI_neg]
    intro z
    rcases List.mem_cons.mp z with rfl | z
    · omega
    · exact TL.numL_free (.inl (by omega)) z
/-- the signs of a paper's text -/
def Pt.ts : Pt → Str
  | .n0 w ns => Txt.join (sgn 32) (w :: ns.map strI)
  | .n1 w ns k => Txt.join (sgn 32) (w :: (ns.map strI ++ [k.ts]))
  | .n2 w ns k l => Txt.join (sgn 32) (w :: (ns.map strI ++ [k.ts, l.ts]))
theorem Pt.ts_eq (t : Pt) : t.ts = Txt.join (sgn 32) (t.w :: (t.ns.map strI ++ t.ks.map Pt.ts)) := by
  cases t with
  | n0 w ns =>
    show Txt.join (sgn 32) (w :: ns.map strI) = Txt.join (sgn 32) (w :: (ns.map strI ++ []))
    rw [List.append_nil]
  | n1 w ns k => rfl
  | n2 w ns k l => rfl
def SmW (w : Str) (ns : List Int) : Prop := w.length ≤ 10 ∧ ns.length ≤ 8 ∧ ∀ n ∈ ns, n.natAbs < 10 ^ 4
def Pt.Sm : Pt → Prop
  | .n0 w ns => SmW w ns
  | .n1 w ns k => SmW w ns ∧ k.Sm
  | .n2 w ns k l => SmW w ns ∧ k.Sm ∧ l.Sm
theorem Pt.Sm.w {t : Pt} (h : t.Sm) : SmW t.w t.ns := by
  cases t with
  | n0 w ns => exact h
  | n1 w ns k => exact h.1
  | n2 w ns k l => exact h.1
theorem Pt.Sm.k {t : Pt} (h : t.Sm) : ∀ k ∈ t.ks, k.Sm := by
  cases t with
  | n0 w ns => exact fun _ z => nomatch z
  | n1 w ns k => exact fun q z => by rw [List.mem_singleton.mp z]; exact h.2
  | n2 w ns k l =>
    intro q z
    rcases List.mem_cons.mp z with rfl | z
    · exact h.2.1
    · rw [List.mem_singleton.mp z]
      exact h.2.2
theorem jnL_len (c : Nat) : ∀ ps : List (List Nat), ps ≠ [] → (jnL c ps).length + 1 = (ps.map fun p => p.length + 1).sum
  | [], h => absurd rfl h
  | [p], _ => by simp [jnL]
  | p :: q :: r, _ => by
    have := jnL_len c (q :: r) (by simp)
    rw [List.map_cons, List.sum_cons, ← this]
    show (p ++ c :: jnL c (q :: r)).length + 1 = _
    rw [List.length_append, List.length_cons]
    omega
theorem join_len (ws : List Str) (h : ws ≠ []) : (Txt.join (sgn 32) ws).length + 1 = (ws.map fun w => w.length + 1).sum := by
  rw [len_lsS, show Txt.join (sgn 32) ws = Str.join (sgn 32) ws from TL.join_eq _ _, ls_join, jnL_len _ _ (by simpa using h), List.map_map]
  congr 1
theorem sum_le {α : Type} (f : α → Nat) (b : Nat) : ∀ {l : List α}, (∀ x ∈ l, f x ≤ b) → (l.map f).sum ≤ l.length * b
  | [], _ => Nat.zero_le _
  | x :: l, h => by
    have h1 := h x List.mem_cons_self
    have h2 := sum_le f b (l := l) fun y hy => h y (List.mem_cons_of_mem _ hy)
    rw [List.map_cons, List.sum_cons, List.length_cons, Nat.succ_mul]
    omega
theorem smw_len {w : Str} {ns : List Int} (h : SmW w ns) : w.length + 1 + ((ns.map strI).map fun w => w.length + 1).sum ≤ 59 := by
  have := sum_le (fun w : Str => w.length + 1) 6 (l := ns.map strI) fun x hx => by
    obtain ⟨n, hn, rfl⟩ := List.mem_map.mp hx
    exact Nat.succ_le_succ (strI_len (by decide) (h.2.2 n hn))
  rw [List.length_map] at this
  have h1 := h.1
  have h2 := h.2.1
  omega
theorem Pt.ts_len : ∀ {t : Pt}, t.Sm → t.ts.length + 1 ≤ 59 * t.words := fun {t} h => by
  induction t with
  | n0 w ns =>
    have := smw_len h
    show (Txt.join (sgn 32) (w :: ns.map strI)).length + 1 ≤ 59 * 1
    rw [join_len _ (by simp), List.map_cons, List.sum_cons]
    omega
  | n1 w ns k i1 =>
    have := smw_len h.1
    have i1 := i1 h.2
    show (Txt.join (sgn 32) (w :: (ns.map strI ++ [k.ts]))).length + 1 ≤ 59 * (k.words + 1)
    rw [join_len _ (by simp), List.map_cons, List.sum_cons, List.map_append, List.sum_append]
    simp only [List.map_cons, List.map_nil, List.sum_cons, List.sum_nil]
    omega
  | n2 w ns k l i1 i2 =>
    have := smw_len h.1
    have i1 := i1 h.2.1
    have i2 := i2 h.2.2
    show (Txt.join (sgn 32) (w :: (ns.map strI ++ [k.ts, l.ts]))).length + 1 ≤ 59 * (k.words + l.words + 1)
    rw [join_len _ (by simp), List.map_cons, List.sum_cons, List.map_append, List.sum_append]
    simp only [List.map_cons, List.map_nil, List.sum_cons, List.sum_nil]
    omega
end CS
set_option Elab.async false
set_option maxRecDepth 100000
set_option maxHeartbeats 8000000
set_option linter.unusedVariables false
set_option pp.maxSteps 5000
/-! a paper's text -/
namespace CS
open PySem L2 RZ LamX
section
variable {P : Program} {w : World} {K : PySem.W.Frag} {mg : Str → Option Value} {base : Heap} {C CB CT : Addr} {TT : List (Addr × Str)} {L : Shp}
theorem Pt.wz_at {L : Shp} {t : Pt} (h1 : t.ns.length = (wpl 0 (shL L t.w)).length) (h : t.ks.length = (kpl 0 (shL L t.w)).length) (k : Nat) (n : Int) (m : (k, n) ∈ (wpl 0 (shL L t.w)).zip t.ns) : (PyData.str t.w :: t.rest L)[k]? = some (.int n) := by
  obtain ⟨i, e1, e2⟩ := fill_get (s := shL L t.w) (a := 0) (xs := t.ns.map PyData.int) (ks := t.ks.map (Pt.toD L)) (by rw [List.length_map]; exact h1) (by rw [List.length_map]; exact h) k (.int n) (List.mem_append_left _ (by
    rw [List.zip_map_right]
    exact List.mem_map.mpr ⟨(k, n), m, rfl⟩))
  rw [e1, Nat.zero_add, List.getElem?_cons_succ]
  exact e2
theorem zip_get {α β : Type} : ∀ {xs : List α} {ys : List β} {i : Nat} {x : α} {y : β}, xs[i]? = some x → ys[i]? = some y → (x, y) ∈ xs.zip ys
  | x :: xs, y :: ys, 0, _, _, h1, h2 => by
    cases h1
    cases h2
    exact List.mem_cons_self
  | x :: xs, y :: ys, i + 1, _, _, h1, h2 => List.mem_cons_of_mem _ (zip_get (i := i) h1 h2)
  | [], _, _, _, _, h1, _ => by cases h1
  | _ :: _, [], _, _, _, _, h2 => by cases h2
theorem log_small {n : Int} (h : n.natAbs < 10 ^ 4) : n.natAbs.log2 < 1920 := by
  by_cases z : n.natAbs = 0
  · rw [z]
    decide
  · exact (Nat.log2_lt z).mpr (Nat.lt_of_lt_of_le h (Nat.le_trans (show 10 ^ 4 ≤ 2 ^ 14 by decide) (Nat.pow_le_pow_right (by decide) (by decide))))
theorem Pt.ks_words {t : Pt} : ∀ k ∈ t.ks, k.words < t.words := by
  cases t with
  | n0 w ns => exact fun _ z => nomatch z
  | n1 w ns k => exact fun q z => by rw [List.mem_singleton.mp z]; exact Nat.lt_succ_self _
  | n2 w ns k l =>
    intro q z
    rcases List.mem_cons.mp z with rfl | z
    · show q.words < q.words + l.words + 1
      omega
    · rw [List.mem_singleton.mp z]
      show l.words < k.words + l.words + 1
      omega
theorem sum_succ {α : Type} (f : α → Nat) : ∀ l : List α, (l.map fun x => f x + 1).sum = (l.map f).sum + l.length
  | [] => rfl
  | x :: l => by
    rw [List.map_cons, List.map_cons, List.sum_cons, List.sum_cons, sum_succ f l, List.length_cons]
    omega
def spTs (K : PySem.W.Frag) (L : Shp) (h : Nat) : Sp := fun vs H Q _ => ∃ v d, ∃ t : Pt, vs = [v, .ref d] ∧ H d = some (.dK (kvS L)) ∧ Dp K H v (t.toD L) ∧ LOk L ∧ t.Wf (kdS L) ∧ t.Sm ∧ t.words ≤ h + 1 ∧ t.words ≤ 20 ∧ ∀ H', Same H H' → Q (.str t.ts) H'
def spTsP (K : PySem.W.Frag) (L : Shp) (h : Nat) : Sp := fun vs H Q E => ∃ m, h = m + 1 ∧ spTs K L m vs H Q E
abbrev nsTreeText : List Str := ["tree", "shapes", "shape", "wholes", "at", "kids"]
theorem scTreeText : FnScope nsTreeText ["tree", "shapes"] (defScope sTreeText) := ⟨rfl, rfl, rfl, by decide +kernel, rfl, by decide +kernel, by decide +kernel⟩
theorem ok_tree_text {f : Addr} {fd : FuncData} (F : Df K mg "tree_text" sTreeText ["tree", "shapes"] f fd)
    {f1 : Addr} {fd1 : FuncData} (D1 : Df K mg "kid_places" sKidPlaces ["shape"] f1 fd1) (G1 : FnOk P w K mg base CX0 1 f1 fd1 ["shape"] (spPlaces K))
    {f2 : Addr} {fd2 : FuncData} (D2 : Df K mg "whole_places" sWholePlaces ["shape"] f2 fd2) (G2 : FnOk P w K mg base CX0 1 f2 fd2 ["shape"] (spWhl K))
    {h : Nat} (mstr : mg "str" = none) {f9 : Addr} {fd9 : FuncData} (D9 : Df K mg "tree_text" sTreeText ["tree", "shapes"] f9 fd9) (G9 : FnOk P w K mg base CX0 (h + 2) f9 fd9 ["tree", "shapes"] (spTsP K L h)) : FnOk P w K mg base CX0 (h+3) f fd ["tree", "shapes"] (spTs K L h) := by
  refine F.F.ok scTreeText (fun vs H Q E h => ?_) (fun cdv A outer s H vs Q E hr h => ?_)
  · obtain ⟨v, d, t, rfl, _⟩ := h
    rfl
  · obtain ⟨v, d, t, rfl, hd, hv, ok, wf, sm, wh, w20, k⟩ := h
    have hu := hu_of hr
    refine ⟨_, (pss_cons (ps_set (i := 2) scTreeText.nd rfl (Or.inl rfl) (pe_dget hu (pv 1) (pe_ix ix_tup (pv 0) pe_int (fun _ _ => rfl)) (fun _ _ => rfl)))
      (pss_cons (ps_setLc (i := 3) (own := [("at", 4)]) (g := gName 4) (tt := tYes) rfl scTreeText.nd rfl rfl (sw_true rfl rfl rfl (by decide +kernel)) (pi_list (pe_call G2 (hr.mono (by omega)) (by rfl) D2.g D2.F.kp D2.b .nil pass0 (pa_cons (pv 2) pa_nil))) (blkOk_by (N := nsTreeText) (sc := defScope sTreeText) (by decide +kernel)) (fun _ _ _ _ _ => pg_name (i := 4) scTreeText.nd rfl (Or.inl rfl)) (fun _ _ _ _ _ => pts_nil) (fun _ _ _ _ _ => (pe_callTy call_str_int (by rfl) mstr (by decide +kernel) (pa_cons (pe_ix (r := rIxT K) ix_tup (pv 0) (pv 4) (fun _ _ => rfl)) pa_nil))))
      (pss_cons (ps_setLc (i := 5) (own := [("at", 4)]) (g := gName 4) (tt := tYes) rfl scTreeText.nd rfl rfl (sw_true rfl rfl rfl (by decide +kernel)) (pi_list (pe_call G1 (hr.mono (by omega)) (by rfl) D1.g D1.F.kp D1.b .nil pass0 (pa_cons (pv 2) pa_nil))) (blkOk_by (N := nsTreeText) (sc := defScope sTreeText) (by decide +kernel)) (fun _ _ _ _ _ => pg_name (i := 4) scTreeText.nd rfl (Or.inl rfl)) (fun _ _ _ _ _ => pts_nil) (fun _ _ _ _ _ => (pe_call G9 (hr.mono (by omega)) (by rfl) D9.g D9.F.kp D9.b .nil pass0 (pa_cons (pe_ix (r := rIxT K) ix_tup (pv 0) (pv 4) (fun _ _ => rfl)) (pa_cons (pv 1) pa_nil)))))
      (pss_one (ps_ret (pe_join pe_str (pe_lst (pa_cons (pe_ix (r := rIxT K) ix_tup (pv 0) pe_int (fun _ _ => rfl)) (StX.pa_star (pv 3) (StX.pa_star (pv 5) pa_nil)))))))))), ?_⟩
    obtain ⟨sh, hsh, esh, ln, lk, kw⟩ := Pt.wf_at ok wf
    have hlk := lk
    have hln := ln
    rw [← esh] at hln hlk
    obtain ⟨a, xs, rfl, hs, hx⟩ := pt_at hv
    obtain ⟨s9, p1, p2, b2⟩ := ok _ _ hsh
    have gd : DGet H d (.str t.w) (some (.str sh)) := by
      have := DGet.k (k := Sum.inr t.w) hd
      rw [valV_kvS, hsh] at this
      exact this
    refine ⟨_, rfl, _, rfl, a, _, 0, _, rfl, rfl, hs, ati0, d, _, rfl, gd, ?_⟩
    have nk := sm.w.2.1
    have hs0 := sm.w
    refine ⟨_, rfl, sh, rfl, s9, fun D H1 s1 hD => ?_⟩
    rw [p1] at hD
    refine ⟨D, rfl, ⟨_, hD⟩, fun Dl nL => lc_it (walk_list (K := K) (a := D) (xs := ((wpl 0 (lsS sh)).map fun k : Nat => (k : Int)).map V.int)) (fun i H' => H' Dl = some (.lst ((t.ns.take i).map fun n => V.str (strI n))) ∧ Same H1 H') ⟨upd_same, Same.new nL⟩ (fun i H' _ ⟨_, s⟩ => s.seq hD) ?_ ?_⟩
    · rintro i x H6 H7 hi ⟨h6, s6⟩ ⟨rfl, hx0⟩
      rw [List.getElem?_map, List.getElem?_map] at hx0
      obtain ⟨z, hz, rfl⟩ := Option.map_eq_some_iff.mp hx0
      obtain ⟨kn, hk, rfl⟩ := Option.map_eq_some_iff.mp hz
      rw [List.length_map, List.length_map] at hi
      have hn : t.ns[i]? = some t.ns[i] := List.getElem?_eq_getElem (by omega)
      generalize t.ns[i] = n at hn
      have mem := zip_get hk hn
      rw [← esh] at mem
      have s16 := s1.trans s6
      obtain ⟨child, hc, dc⟩ := DpAll.at (K := K) (H := H7) (vs := .str t.w :: xs) (ds := .str t.w :: t.rest L) (.cons (.str _) (DpAll.same s16 hx)) (Pt.wz_at hln hlk kn n mem)
      cases dc
      refine ⟨rfl, ?_⟩
      dsimp only [tYes]
      rw [if_pos rfl]
      refine ⟨_, rfl, _, rfl, a, _, (kn : Int), _, rfl, rfl, s16.tup hs, atI_nat hc, n, rfl, log_small (hs0.2.2 n (List.mem_of_getElem? hn)), _, h6, small1000 (by rw [List.length_map, List.length_take]; omega), ?_, same_upd nL s6⟩
      rw [upd_same, take_snoc hn, List.map_append]
      rfl
    rintro H2 ⟨h2, s2⟩
    rw [List.length_map, List.length_map, ← ln, List.take_length] at h2
    have s12 := s1.trans s2
    refine ⟨_, rfl, sh, rfl, s9, fun D2 H3 s3 hD2 => ?_⟩
    rw [p2] at hD2
    have s13 := s12.trans s3
    have lk2 := lk
    refine ⟨D2, rfl, ⟨_, hD2⟩, fun De nE => lc_it (walk_list (K := K) (a := D2) (xs := ((kpl 0 (lsS sh)).map fun k : Nat => (k : Int)).map V.int)) (fun i H' => H' De = some (.lst ((t.ks.take i).map fun n => V.str n.ts)) ∧ Same H3 H') ⟨upd_same, Same.new nE⟩ (fun i H' _ ⟨_, s⟩ => s.seq hD2) ?_ ?_⟩
    · rintro i x H6 H7 hi ⟨h6, s6⟩ ⟨rfl, hx0⟩
      rw [List.getElem?_map, List.getElem?_map] at hx0
      obtain ⟨z, hz, rfl⟩ := Option.map_eq_some_iff.mp hx0
      obtain ⟨kn, hk, rfl⟩ := Option.map_eq_some_iff.mp hz
      rw [List.length_map, List.length_map] at hi
      have hn : t.ks[i]? = some t.ks[i] := List.getElem?_eq_getElem (by omega)
      generalize t.ks[i] = n at hn
      have mem := zip_get hk hn
      rw [← esh] at mem
      have s16 := s13.trans s6
      obtain ⟨child, hc, dc⟩ := DpAll.at (K := K) (H := H7) (vs := .str t.w :: xs) (ds := .str t.w :: t.rest L) (.cons (.str _) (DpAll.same s16 hx)) (Pt.kz_at hln hlk (kn, n) mem)
      have mk := List.mem_of_getElem? hn
      have kwd := Pt.ks_words n mk
      have wp := n.words_pos
      refine ⟨rfl, ?_⟩
      dsimp only [tYes]
      rw [if_pos rfl]
      refine ⟨_, rfl, _, rfl, a, _, (kn : Int), child, rfl, rfl, s16.tup hs, atI_nat hc, _, rfl, h - 1, by omega, child, d, n, rfl, s16 _ _ hd, dc, ok, kw n mk, sm.k n mk, by omega, by omega, fun H8 s8 => ⟨_, s8 _ _ h6, small1000 (by rw [List.length_map, List.length_take]; omega), ?_, same_upd nE (s6.trans s8)⟩⟩
      rw [upd_same, take_snoc hn, List.map_append]
      rfl
    rintro H4 ⟨h4, s4⟩
    rw [List.length_map, List.length_map, ← lk, List.take_length] at h4
    have s14 := s13.trans s4
    have h24 := s4 _ _ (s3 _ _ h2)
    have ec : (V.str t.w :: (t.ns.map fun n => V.str (strI n)) ++ ((t.ks.map fun n => V.str n.ts) ++ [])) = (t.w :: (t.ns.map strI ++ t.ks.map Pt.ts)).map V.str := by simp [List.map_map, Function.comp_def]
    have sz : ((t.w :: (t.ns.map strI ++ t.ks.map Pt.ts)).map (·.length)).sum + (t.w :: (t.ns.map strI ++ t.ks.map Pt.ts)).length * (" " : Str).length ≤ 16777216 := by
      have e1 := join_len (t.w :: (t.ns.map strI ++ t.ks.map Pt.ts)) (by simp)
      rw [← Pt.ts_eq, sum_succ (fun w : Str => w.length)] at e1
      have e2 := Pt.ts_len sm
      have e3 : (" " : Str).length = 1 := by decide +kernel
      rw [e3]
      omega
    have es : (" " : Str) = sgn 32 := by decide +kernel
    refine ⟨⟨_, rfl⟩, _, rfl, a, _, 0, _, rfl, rfl, s14.tup hs, ati0, _, rfl, Dl, _, rfl, .inr (SqL.of h24), _, rfl, De, _, rfl, .inr (SqL.of h4), ?_, fun l nl => ⟨" ", l, t.w :: (t.ns.map strI ++ t.ks.map Pt.ts), rfl, rfl, .inl (SqL.of (by rw [upd_same, ← ec]; rfl)), sz, ?_⟩⟩
    · show (V.str t.w :: ((t.ns.map fun n => V.str (strI n)) ++ ((t.ks.map fun n => V.str n.ts) ++ []))).length ≤ sizeLine
      rw [List.length_cons, List.length_append, List.length_append, List.length_map, List.length_map]
      exact Nat.le_trans (show _ ≤ 100 by simp; omega) (by decide)
    · rw [es, ← Pt.ts_eq]
      exact k _ (s14.trans (Same.new nl))
theorem text_all {f : Addr} {fd : FuncData} (F : Df K mg "tree_text" sTreeText ["tree", "shapes"] f fd)
    {f1 : Addr} {fd1 : FuncData} (D1 : Df K mg "kid_places" sKidPlaces ["shape"] f1 fd1) (G1 : FnOk P w K mg base CX0 1 f1 fd1 ["shape"] (spPlaces K))
    {f2 : Addr} {fd2 : FuncData} (D2 : Df K mg "whole_places" sWholePlaces ["shape"] f2 fd2) (G2 : FnOk P w K mg base CX0 1 f2 fd2 ["shape"] (spWhl K))
    (mstr : mg "str" = none) : ∀ h : Nat, FnOk P w K mg base CX0 (h + 3) f fd ["tree", "shapes"] (spTs K L h)
  | 0 => by
    refine ok_tree_text (h := 0) F D1 G1 D2 G2 mstr F ?_
    refine F.F.ok scTreeText (fun vs H Q E h => ?_) (fun cdv A outer s H vs Q E hr h => ?_)
    · obtain ⟨m, e, _⟩ := h
      cases e
    · obtain ⟨m, e, _⟩ := h
      cases e
  | h + 1 => by
    refine ok_tree_text (h := h + 1) F D1 G1 D2 G2 mstr F ?_
    have e : spTsP K L (h + 1) = spTs K L h := by
      funext vs H Q E
      refine propext ⟨fun ⟨m, e, q⟩ => ?_, fun q => ⟨h, rfl, q⟩⟩
      cases e
      exact q
    rw [e]
    exact text_all F D1 G1 D2 G2 mstr h
theorem ok_tree_text20 {f : Addr} {fd : FuncData} (F : Df K mg "tree_text" sTreeText ["tree", "shapes"] f fd)
    {f1 : Addr} {fd1 : FuncData} (D1 : Df K mg "kid_places" sKidPlaces ["shape"] f1 fd1) (G1 : FnOk P w K mg base CX0 1 f1 fd1 ["shape"] (spPlaces K))
    {f2 : Addr} {fd2 : FuncData} (D2 : Df K mg "whole_places" sWholePlaces ["shape"] f2 fd2) (G2 : FnOk P w K mg base CX0 1 f2 fd2 ["shape"] (spWhl K))
    (mstr : mg "str" = none) : FnOk P w K mg base CX0 22 f fd ["tree", "shapes"] (spTs K L 19) := text_all F D1 G1 D2 G2 mstr 19
def spTermText (K : PySem.W.Frag) (L : Shp) : Sp := fun vs H Q _ => ∃ v, ∃ t : Pt, vs = [v] ∧ Dp K H v (t.toD L) ∧ t.Wf (kdS L) ∧ t.Sm ∧ t.words ≤ 20 ∧ t.fl L [] = none ∧ ∀ H', Same H H' → Q (.str t.ts) H'
abbrev nsTermText : List Str := ["term"]
theorem scTermText : FnScope nsTermText ["term"] (defScope sTermText) := ⟨rfl, rfl, rfl, by decide +kernel, rfl, by decide +kernel, by decide +kernel⟩
theorem ok_term_text {f : Addr} {fd : FuncData} (F : Df K mg "term_text" sTermText ["term"] f fd)
    {f1 : Addr} {fd1 : FuncData} (D1 : Df K mg "tree_text" sTreeText ["tree", "shapes"] f1 fd1) (G1 : FnOk P w K mg base CX0 22 f1 fd1 ["tree", "shapes"] (spTs K L 19))
    {f2 : Addr} {fd2 : FuncData} (D2 : Df K mg "need_term" sNeedTerm ["thing"] f2 fd2) (G2 : FnOk P w K mg base (L2.CX P w) 6 f2 fd2 ["thing"] (spNeedT K L CT))
    {aT : Addr} (gT : mg "TERM_SHAPES" = some (.ref aT)) (DT : KD P w K aT (kvS L)) (lg : LGood L) (T : Bt mg) : FnOk P w K mg base (L2.CX P w) 23 f fd ["term"] (spTermText K L) := by
  refine F.F.okX scTermText (fun vs H Q E h => ?_) (fun cdv A outer s H vs Q E hr h => ?_)
  · obtain ⟨v, t, rfl, _⟩ := h
    rfl
  · obtain ⟨v, t, rfl, hv, wf, sm, w20, e0, k⟩ := h
    refine ⟨_, (pss_one (ps_ret (pe_call G1 (hr.mono (by omega)) (by rfl) D1.g D1.F.kp D1.b .nil pass0 (pa_cons (pe_call G2 (hr.mono (by omega)) (by rfl) D2.g D2.F.kp D2.b .nil (passes_call (takes_of rfl rfl rfl rfl) (fun _ _ _ _ h => h)) (pa_cons (pv 0) pa_nil)) (pa_cons (pe_callTy (call_dictK DT) (by rfl) T.dict (by decide +kernel) (pa_cons (pe_glob (v := .ref aT) (by rfl) gT rfl) pa_nil)) pa_nil))))), ?_⟩
    refine ⟨_, rfl, v, t, rfl, hv, wf, w20, fun _ H1 s1 => ?_, fun p e => by rw [e0] at e; cases e⟩
    refine ⟨rfl, fun d nd => ?_⟩
    have s2 := Same.new (o := .dK (kvS L)) nd
    exact ⟨v, d, t, rfl, upd_same, Dp.same (s1.trans s2) hv, lg.1, wf, sm, by omega, w20, fun H2 s3 => k _ ((s1.trans s2).trans s3)⟩
def spReadTerm (CB CT : Addr) (L : Shp) (K : PySem.W.Frag) (TT : List (Addr × Str)) : Sp := fun vs H Q E => ∃ (t : Str), vs = [.str t] ∧ t.length ≤ 3000 ∧ Tabs TT H ∧
  (∀ tr, rdT L t = .inl tr → tr.fl L [] = none → ∀ H' r, ExtN H H' → Tabs TT H' → Dp K H' (.ref r) (tr.toD L) → Q (.ref r) H') ∧ (∀ tr p, rdT L t = .inl tr → tr.fl L [] = some p → ∀ q e H', ExtN H H' → Tabs TT H' → SqT K H' q (p.map V.int) → H' e = some (.xd [("path", .ref q)]) → E (.ref CT) (some e) H') ∧ (∀ ln q, rdT L t = .inr (ln, q) → refN CB TT ln q H E)
theorem rdT_wf {L : Shp} {x : Str} {t : Pt} (h : rdT L x = .inl t) : t.Wf (kdS L) ∧ t.words ≤ 20 := by
  unfold rdT at h
  cases e : rdL L ((Txt.split x (sgn 10)).headD ⟨#[]⟩) with
  | inr q => rw [e] at h; cases h
  | inl t1 =>
    rw [e] at h
    dsimp only at h
    split at h
    · cases h
    · cases h
      unfold rdL at e
      split at e
      · cases e
      · next e2 =>
        split at e
        · cases e
        · cases e
          have := parse_wf (Nat.zero_le _) e2
          exact ⟨this.1, by omega⟩
abbrev nsReadTerm : List Str := ["text"]
theorem scReadTerm : FnScope nsReadTerm ["text"] (defScope sReadTerm) := ⟨rfl, rfl, rfl, by decide +kernel, rfl, by decide +kernel, by decide +kernel⟩
theorem ok_read_term {f : Addr} {fd : FuncData} (F : Df K mg "read_term" sReadTerm ["text"] f fd)
    {f1 : Addr} {fd1 : FuncData} (D1 : Df K mg "need_term" sNeedTerm ["thing"] f1 fd1) (G1 : FnOk P w K mg base (L2.CX P w) 6 f1 fd1 ["thing"] (spNeedT K L CT))
    {f2 : Addr} {fd2 : FuncData} (D2 : Df K mg "read_tree" sReadTree ["text", "shapes"] f2 fd2) (G2 : FnOk P w K mg base (L2.CX P w) 29 f2 fd2 ["text", "shapes"] (spReadTree CB L K TT))
    {aT : Addr} (gT : mg "TERM_SHAPES" = some (.ref aT)) (DT : KD P w K aT (kvS L)) (T : Bt mg) : FnOk P w K mg base (L2.CX P w) 30 f fd ["text"] (spReadTerm CB CT L K TT) := by
  refine F.F.okX scReadTerm (fun vs H Q E h => ?_) (fun cdv A outer s H vs Q E hr h => ?_)
  · obtain ⟨t, rfl, _⟩ := h
    rfl
  · obtain ⟨t, rfl, ht, hT, kQ, kT, kE⟩ := h
    refine ⟨_, (pss_one (ps_ret (pe_call G1 (hr.mono (by omega)) (by rfl) D1.g D1.F.kp D1.b .nil (passes_call (takes_of rfl rfl rfl rfl) (fun _ _ _ _ h => h)) (pa_cons (pe_call G2 (hr.mono (by omega)) (by rfl) D2.g D2.F.kp D2.b .nil (passes_call (takes_of rfl rfl rfl rfl) (fun _ _ _ _ h => h)) (pa_cons (pv 0) (pa_cons (pe_callTy (call_dictK DT) (by rfl) T.dict (by decide +kernel) (pa_cons (pe_glob (v := .ref aT) (by rfl) gT rfl) pa_nil)) pa_nil))) pa_nil)))), ?_⟩
    refine ⟨_, rfl, rfl, fun d nd => ?_⟩
    have s1 := Same.new (o := .dK (kvS L)) nd
    refine ⟨t, d, rfl, ht, upd_same, hT.ext s1, fun tr e H2 r x2 t2 d2 => ?_, fun ln q e H2 e2 x2 t2 he => kE ln q e H2 e2 (ExtN.trans (.of s1) x2) t2 he⟩
    obtain ⟨wf, w20⟩ := rdT_wf e
    exact ⟨.ref r, tr, rfl, d2, wf, w20, fun e0 H3 s3 => kQ tr e e0 H3 r (ExtN.trans (.of s1) (ExtN.trans x2 (.of s3))) (t2.ext s3) (Dp.same s3 d2), fun p ep q e3 H3 s3 hq he => kT tr p e ep q e3 H3 (ExtN.trans (.of s1) (ExtN.trans x2 (.of s3))) (t2.ext s3) hq he⟩
end
end CS
set_option Elab.async false
set_option maxRecDepth 100000
set_option maxHeartbeats 4000000
set_option linter.unusedVariables false
/-! d.update(another dict): both with int and text keys -/
namespace CS
open PySem PySem.Spec PyProof.Rows L2
theorem type_dupd : typeOf (.builtin "dict.update") = pure (.type "method_descriptor") := by show builtinType _ = _; rw [builtinType_eq_fast]; kernel_rfl
def rDupd (x : V) (xs : List V) (H : Hp) (Q : VK) : Prop := ∃ (a b : Addr) (kvs more : List (Key × V)), x = .ref a ∧ xs = [.ref b] ∧ H a = some (.dK kvs) ∧ H b = some (.dK more) ∧ a ≠ b ∧ kvs.length + more.length ≤ sizeLine ∧ Q .non (upd H a (.dK (mergeK kvs more)))
theorem mt_dupd {X : Cx} : MtR X "dict.update" rDupd := by
  intro pins s σ H x xs v us Q I rx rxs h
  obtain ⟨a, b, kvs, more, rfl, rfl, ha, hb, ne, sz, q⟩ := h
  cases rx
  obtain ⟨u, rfl, ru⟩ := vals1 rxs
  cases ru
  obtain ⟨z1, hd1, vs1, rel1, dd1⟩ := dk_of I.hok ha
  obtain ⟨z2, hd2, vs2, rel2, dd2⟩ := dk_of I.hok hb
  refine call_meetsIn PySem.F.slot_dict_update dd1.typeIs PySem.F.entry_dict_update (PySem.F.args_dict_update_2 _ _) (meets_dict_update (mixKind X.prog X.w) a b ne hd2)
    ⟨vs1, vs2, dd1, dd2, by rw [← rel1.length, ← rel2.length]; exact sz, fun h' dd' _ hs => ?_⟩
  have he : ∃ q, h'.get? a = some q := let ⟨q, _, _, hq, _⟩ := dd'; ⟨q, hq⟩
  have hz : (mergeK kvs more).length ≤ sizeLine := by
    have h1 := length_mergeK more kvs
    omega
  exact ⟨.non, _, d_write I (by rw [ha]; exact True.intro) hs he (dk_new hz hd1 (rel2.merge rel1) dd'), rfl, q⟩
end CS
set_option Elab.async false
set_option maxRecDepth 100000
set_option maxHeartbeats 4000000
set_option linter.unusedVariables false
/-! a dict of words, each with a pair of whole numbers -/
namespace CS
open PySem L2
abbrev WdP := Str × Int × Int
inductive WAt (K : PySem.W.Frag) (H : Hp) : List (Key × V) → List WdP → Prop where
  | nil : WAt K H [] []
  | cons {w : Str} {a b : Int} {r : Addr} {kvs : List (Key × V)} {l : List WdP} (h : SqT K H r [.int a, .int b]) (t : WAt K H kvs l) : WAt K H ((Sum.inr w, .ref r) :: kvs) ((w, a, b) :: l)
section
variable {K : PySem.W.Frag} {H H' : Hp}
theorem WAt.tk (e : TK K H H') : ∀ {kvs : List (Key × V)} {l : List WdP}, WAt K H kvs l → WAt K H' kvs l
  | _, _, .nil => .nil
  | _, _, .cons h t => .cons (e _ _ h) (t.tk e)
theorem WAt.app : ∀ {kvs k2 : List (Key × V)} {l l2 : List WdP}, WAt K H kvs l → WAt K H k2 l2 → WAt K H (kvs ++ k2) (l ++ l2)
  | _, _, _, _, .nil, b => b
  | _, _, _, _, .cons h t, b => .cons h (t.app b)
theorem WAt.keys : ∀ {kvs : List (Key × V)} {l : List WdP}, WAt K H kvs l → kvs.map (·.1) = l.map fun p => (Sum.inr p.1 : Key)
  | _, _, .nil => rfl
  | _, _, .cons h t => by rw [List.map_cons, List.map_cons, t.keys]
theorem WAt.len : ∀ {kvs : List (Key × V)} {l : List WdP}, WAt K H kvs l → kvs.length = l.length
  | _, _, .nil => rfl
  | _, _, .cons h t => by rw [List.length_cons, List.length_cons, t.len]
def wdOf (l : List WdP) (w : Str) : Option (Int × Int) := (l.find? fun p => decide (p.1 = w)).map (·.2)
theorem WAt.at_ : ∀ {kvs : List (Key × V)} {l : List WdP} (w : Str), WAt K H kvs l → (wdOf l w = none ∧ valV kvs (Sum.inr w) = none) ∨ ∃ a b r, wdOf l w = some (a, b) ∧ valV kvs (Sum.inr w) = some (.ref r) ∧ SqT K H r [.int a, .int b]
  | _, _, w, .nil => .inl ⟨rfl, rfl⟩
  | _, _, w, .cons (w := x) (a := a) (b := b) (r := r) (kvs := kvs) (l := l) h t => by
    unfold wdOf valV
    rw [List.find?_cons, List.find?_cons]
    by_cases e : x = w
    · have e2 : decide ((Sum.inr x : Key) = Sum.inr w) = true := decide_eq_true (by rw [e])
      rw [e2, decide_eq_true e]
      exact .inr ⟨a, b, r, rfl, rfl, h⟩
    · have e2 : decide ((Sum.inr x : Key) = Sum.inr w) = false := decide_eq_false fun z => e (Sum.inr.inj z)
      rw [e2, decide_eq_false e]
      exact t.at_ w
end
theorem mergeK_app : ∀ {more kvs : List (Key × V)}, ((kvs ++ more).map (·.1)).Nodup → mergeK kvs more = kvs ++ more
  | [], kvs, _ => by rw [List.append_nil]; rfl
  | p :: more, kvs, nd => by
    have np : ∀ q ∈ kvs, q.1 ≠ p.1 := fun q hq e => by
      rw [List.map_append, List.nodup_append] at nd
      exact nd.2.2 _ (List.mem_map.mpr ⟨q, hq, rfl⟩) _ (List.mem_map.mpr ⟨p, List.mem_cons_self, rfl⟩) e
    show mergeK (putK kvs p.1 p.2) more = _
    rw [putK_new np, mergeK_app (kvs := kvs ++ [(p.1, p.2)]) (by rw [List.append_assoc]; exact nd), List.append_assoc]
    rfl
def trsW (l : List WdP) : List (TE × TE) := l.map fun p => (tC (.str p.1), tTup (tCons (tC (.int p.2.1)) (tCons (tC (.int p.2.2)) tNil)))
theorem tpairs_w {K : PySem.W.Frag} : ∀ {l : List WdP} {σ : L2.St} {H : Hp} {Q : List (V × V) → Hp → Prop}, (∀ H' kvs, Same H H' → WAt K H' kvs l → Q (kvs.map fun kv => (kV kv.1, kv.2)) H') → tPairs (trsW l) σ H Q
  | [], σ, H, Q, h => h H [] (Same.refl H) .nil
  | (w, a, b) :: l, σ, H, Q, h => by
    refine ⟨(by show 2 ≤ sizeLine; decide), fun r nr => ?_⟩
    refine tpairs_w (K := K) (l := l) fun H' kvs s q => ?_
    exact h H' ((Sum.inr w, .ref r) :: kvs) ((Same.new nr).trans s) (.cons (s.tup (SqT.of upd_same)) q)
/-- such a display: a new dict -/
theorem disp_w {K : PySem.W.Frag} {l : List WdP} {σ : L2.St} {H : Hp} {Q : VK} (few : l.length ≤ 15) (nd : (l.map (·.1)).Nodup) (h : ∀ p H' kvs, Same H H' → WAt K H' kvs l → H p = none → H' p = some (.dK kvs) → Q (.ref p) H') : tDisp (trsW l) σ H Q := by
  intro p np
  refine tpairs_w (K := K) fun H' kvs s q => ⟨s _ _ upd_same, kvs, rfl, by rw [q.len]; exact few, ?_⟩
  have ks := q.keys
  have nd2 : (kvs.map (·.1)).Nodup := by
    rw [ks]
    have h2 : ((l.map (·.1)).map (Sum.inr : Str → Key)).Nodup := List.Pairwise.map _ (fun a b ne e => ne (Sum.inr.inj e)) nd
    rw [List.map_map] at h2
    exact h2
  rw [show mergeK [] kvs = kvs from mergeK_app (kvs := []) nd2]
  refine h p _ kvs (fun b o e => ?_) (q.tk (tk_dict (s _ _ upd_same))) np upd_same
  rw [upd_ne (ne_of_none e np)]
  exact s _ _ (by rw [upd_ne (ne_of_none e np)]; exact e)
end CS
set_option Elab.async false
set_option maxRecDepth 100000
set_option maxHeartbeats 8000000
set_option linter.unusedVariables false
set_option pp.maxSteps 5000
/-! the law's words -/
namespace CS
open PySem L2 RZ LamX
abbrev wd0 : List WdP := [("cash", 1, 0), ("at", 1, 0), ("above", 2, 0), ("below", 2, 0), ("lowest", 1, 0)]
abbrev wd1 : List WdP := [("highest", 1, 0), ("both", 0, 2), ("short", 0, 1), ("times", 1, 1)]
abbrev wd2 : List WdP := [("lesser", 0, 2), ("greater", 0, 2), ("if", 2, 2)]
abbrev wdL : List WdP := wd0 ++ wd1 ++ wd2
/-- the law's dict of words -/
def WdAt (K : PySem.W.Frag) (H : Hp) (d : Addr) : Prop := ∃ kvs, H d = some (.dK kvs) ∧ WAt K H kvs wdL
section
variable {P : Program} {w : World} {K : PySem.W.Frag} {mg : Str → Option Value} {base : Heap} {C CB CT : Addr} {TT : List (Addr × Str)} {L : Shp}
def spWds (K : PySem.W.Frag) : Sp := fun vs H Q _ => ∃ u : Unit, vs = [] ∧ ∀ H' d, Same H H' → WdAt K H' d → Q (.ref d) H'
abbrev nsLawPaperWords : List Str := ["kinds"]
theorem scLawPaperWords : FnScope nsLawPaperWords [] (defScope sLawPaperWords) := ⟨rfl, rfl, rfl, by decide +kernel, rfl, by decide +kernel, by decide +kernel⟩
theorem ok_law_paper_words {f : Addr} {fd : FuncData} (F : Df K mg "_law_paper_words" sLawPaperWords [] f fd) : FnOk P w K mg base CX0 1 f fd [] (spWds K) := by
  refine F.F.ok scLawPaperWords (fun vs H Q E h => ?_) (fun cdv A outer s H vs Q E hr h => ?_)
  · obtain ⟨u, rfl, _⟩ := h
    rfl
  · obtain ⟨u, rfl, k⟩ := h
    refine ⟨_, (pss_cons (ps_set (i := 0) scLawPaperWords.nd rfl (Or.inl rfl) (pe_disp (trs := trsW wd0) (pps_cons pe_str (pe_tup (pa_cons pe_int (pa_cons pe_int pa_nil))) (pps_cons pe_str (pe_tup (pa_cons pe_int (pa_cons pe_int pa_nil))) (pps_cons pe_str (pe_tup (pa_cons pe_int (pa_cons pe_int pa_nil))) (pps_cons pe_str (pe_tup (pa_cons pe_int (pa_cons pe_int pa_nil))) (pps_cons pe_str (pe_tup (pa_cons pe_int (pa_cons pe_int pa_nil))) pps_nil))))) (by rfl) (by rfl) (by decide) (by decide)))
      (pss_cons (ps_expr (pe_bm PySem.F.plainAttrs_dict PySem.F.slot_dict_update type_dupd mt_dupd (pv 0) (pa_cons (pe_disp (trs := trsW wd1) (pps_cons pe_str (pe_tup (pa_cons pe_int (pa_cons pe_int pa_nil))) (pps_cons pe_str (pe_tup (pa_cons pe_int (pa_cons pe_int pa_nil))) (pps_cons pe_str (pe_tup (pa_cons pe_int (pa_cons pe_int pa_nil))) (pps_cons pe_str (pe_tup (pa_cons pe_int (pa_cons pe_int pa_nil))) pps_nil)))) (by rfl) (by rfl) (by decide) (by decide)) pa_nil)))
      (pss_cons (ps_expr (pe_bm PySem.F.plainAttrs_dict PySem.F.slot_dict_update type_dupd mt_dupd (pv 0) (pa_cons (pe_disp (trs := trsW wd2) (pps_cons pe_str (pe_tup (pa_cons pe_int (pa_cons pe_int pa_nil))) (pps_cons pe_str (pe_tup (pa_cons pe_int (pa_cons pe_int pa_nil))) (pps_cons pe_str (pe_tup (pa_cons pe_int (pa_cons pe_int pa_nil))) pps_nil))) (by rfl) (by rfl) (by decide) (by decide)) pa_nil)))
      (pss_one (ps_ret (pv 0)))))), ?_⟩
    dsimp only [tSeq, tAsg]
    refine disp_w (K := K) (l := wd0) (by decide) (by decide +kernel) fun p H1 k1 s1 q1 n1 e1 => ?_
    refine ⟨_, rfl, .inr (.inr (.inl ⟨rfl, .inl ⟨_, e1⟩⟩)), ?_⟩
    dsimp only [tSeq, tDrop, tBM, tCons, tNil]
    refine disp_w (K := K) (l := wd1) (by decide) (by decide +kernel) fun p2 H2 k2 s2 q2 n2 e2 => ?_
    have e12 := s2 _ _ e1
    have ne2 : p ≠ p2 := fun z => by rw [z, n2] at e1; cases e1
    have q12 := (q1.tk (tk_same s2)).app q2
    have l1 := q1.len
    have l2 := q2.len
    have nd12 : ((k1 ++ k2).map (·.1)).Nodup := by
      rw [q12.keys]
      decide +kernel
    refine ⟨p, p2, k1, k2, rfl, rfl, e12, e2, ne2, Nat.le_trans (show _ ≤ 100 by rw [l1, l2]; decide) (by decide), ?_⟩
    rw [mergeK_app nd12]
    have q12b := q12.tk (tk_dict (kvs2 := k1 ++ k2) e12)
    have f1 : (upd H2 p (.dK (k1 ++ k2))) p = some (.dK (k1 ++ k2)) := upd_same
    have sa : Same H (upd H2 p (.dK (k1 ++ k2))) := fun b o e => by
      rw [upd_ne (ne_of_none e n1)]
      exact s2 _ _ (s1 _ _ e)
    generalize upd H2 p (.dK (k1 ++ k2)) = H3 at *
    refine ⟨_, rfl, .inr (.inr (.inl ⟨rfl, .inl ⟨_, f1⟩⟩)), ?_⟩
    refine disp_w (K := K) (l := wd2) (by decide) (by decide +kernel) fun p3 H4 k3 s4 q3 n3 e3 => ?_
    have f2 := s4 _ _ f1
    have ne3 : p ≠ p3 := fun z => by rw [z, n3] at f1; cases f1
    have q123 := (q12b.tk (tk_same s4)).app q3
    have l3 := q3.len
    have nd3 : ((k1 ++ k2 ++ k3).map (·.1)).Nodup := by
      rw [q123.keys]
      decide +kernel
    refine ⟨p, p3, k1 ++ k2, k3, rfl, rfl, f2, e3, ne3, Nat.le_trans (show _ ≤ 100 by rw [List.length_append, l1, l2, l3]; decide) (by decide), ?_⟩
    rw [mergeK_app nd3]
    refine ⟨_, rfl, k _ p (fun b o e => ?_) ⟨_, upd_same, q123.tk (tk_dict f2)⟩⟩
    rw [upd_ne (ne_of_none e n1)]
    exact s4 _ _ (sa _ _ e)
end
end CS
set_option Elab.async false
set_option maxRecDepth 100000
set_option maxHeartbeats 4000000
set_option linter.unusedVariables false
/-! what stands behind a word: whole numbers, parts -/
namespace CS
open PySem L2
theorem tyx_tup {K : PySem.W.Frag} {H : Hp} {a : Addr} {xs : List V} (h : SqT K H a xs) : TyX K H (.ref a) (.type "tuple") := by
  rcases h with (h | ⟨o, h⟩) | ⟨o, its, n, h1, h2, _⟩
  · exact .base (.tup h)
  · exact .fTuple h
  · exact .kTuple h1 h2
def isI : PyData → Option Int
  | .int n => some n
  | _ => none
def isTp : PyData → Bool
  | .tuple _ => true
  | _ => false
theorem fill_ints : ∀ {s : List Nat} {a : Nat} {ns : List Int} {ks : List PyData}, ns.length = (wpl a s).length → ks.length = (kpl a s).length → (∀ k ∈ ks, isTp k = true) → (fill s (ns.map PyData.int) ks).filterMap isI = ns ∧ (fill s (ns.map PyData.int) ks).filter isTp = ks
  | [], a, ns, ks, h1, h2, _ => by
    rw [List.length_eq_zero_iff.mp h1, List.length_eq_zero_iff.mp h2]
    exact ⟨rfl, rfl⟩
  | c :: s, a, ns, ks, h1, h2, h3 => by
    unfold wpl at h1
    unfold kpl at h2
    unfold fill
    by_cases e : c = 83
    · rw [if_pos e] at h1 h2
      rw [if_pos e]
      cases ks with
      | nil => cases h2
      | cons k ks =>
        have hk := h3 k List.mem_cons_self
        obtain ⟨a1, a2⟩ := fill_ints (ks := ks) h1 (Nat.succ.inj h2) fun q hq => h3 q (List.mem_cons_of_mem _ hq)
        have hn : isI k = none := by
          cases k <;> first | rfl | cases hk
        refine ⟨?_, ?_⟩
        · show List.filterMap isI (k :: _) = ns
          rw [List.filterMap_cons, hn]
          exact a1
        · show List.filter isTp (k :: _) = _
          rw [List.filter_cons, if_pos hk, a2]
    · rw [if_neg e] at h1 h2
      rw [if_neg e]
      cases ns with
      | nil => cases h1
      | cons n ns =>
        obtain ⟨a1, a2⟩ := fill_ints (ks := ks) (Nat.succ.inj h1) h2 h3
        refine ⟨?_, ?_⟩
        · show List.filterMap isI (PyData.int n :: _) = _
          rw [List.filterMap_cons]
          show n :: _ = _
          rw [a1]
        · show List.filter isTp (PyData.int n :: _) = ks
          exact a2
theorem fill_mem {α : Type} : ∀ {s : List Nat} {xs ks : List α} {d : α}, d ∈ fill s xs ks → d ∈ xs ∨ d ∈ ks
  | [], _, _, _, h => by cases h
  | c :: s, xs, ks, d, h => by
    unfold fill at h
    split at h
    · cases ks with
      | nil => cases h
      | cons k ks =>
        rcases List.mem_cons.mp h with rfl | h
        · exact .inr List.mem_cons_self
        · exact (fill_mem h).imp id (List.mem_cons_of_mem _)
    · cases xs with
      | nil => cases h
      | cons x xs =>
        rcases List.mem_cons.mp h with rfl | h
        · exact .inl List.mem_cons_self
        · exact (fill_mem h).imp (List.mem_cons_of_mem _) id
theorem Pt.toD_tp (L : Shp) (t : Pt) : isTp (t.toD L) = true := by cases t <;> rfl
theorem Pt.rest_ints {L : Shp} {t : Pt} (h1 : t.ns.length = (wpl 0 (shL L t.w)).length) (h2 : t.ks.length = (kpl 0 (shL L t.w)).length) : (t.rest L).filterMap isI = t.ns ∧ (t.rest L).filter isTp = t.ks.map (Pt.toD L) :=
  fill_ints (a := 0) h1 (by rw [List.length_map]; exact h2) fun k hk => by
    obtain ⟨q, _, rfl⟩ := List.mem_map.mp hk
    exact Pt.toD_tp L q
theorem Pt.rest_mem {L : Shp} {t : Pt} {d : PyData} (h : d ∈ t.rest L) : (∃ n, d = .int n) ∨ ∃ k ∈ t.ks, d = k.toD L := by
  rcases fill_mem h with h | h
  · obtain ⟨n, _, rfl⟩ := List.mem_map.mp h
    exact .inl ⟨n, rfl⟩
  · obtain ⟨k, hk, rfl⟩ := List.mem_map.mp h
    exact .inr ⟨k, hk, rfl⟩
end CS
set_option Elab.async false
set_option maxRecDepth 100000
set_option maxHeartbeats 8000000
set_option linter.unusedVariables false
set_option pp.maxSteps 5000
/-! the law's own whole numbers, parts -/
namespace CS
open PySem L2 RZ LamX
section
variable {P : Program} {w : World} {K : PySem.W.Frag} {mg : Str → Option Value} {base : Heap} {C CB CT : Addr} {TT : List (Addr × Str)} {L : Shp}
def spInts (K : PySem.W.Frag) (L : Shp) : Sp := fun vs H Q _ => ∃ v, ∃ t : Pt, vs = [v] ∧ Dp K H v (t.toD L) ∧ LOk L ∧ t.Wf (kdS L) ∧ ∀ H' D, Same H H' → H' D = some (.lst (t.ns.map V.int)) → Q (.ref D) H'
abbrev nsLawIntegers : List Str := ["thing", "one"]
theorem scLawIntegers : FnScope nsLawIntegers ["thing"] (defScope sLawIntegers) := ⟨rfl, rfl, rfl, by decide +kernel, rfl, by decide +kernel, by decide +kernel⟩
theorem ok_law_integers {f : Addr} {fd : FuncData} (F : Df K mg "_law_integers" sLawIntegers ["thing"] f fd)
    (T : Bt mg) : FnOk P w K mg base CX0 1 f fd ["thing"] (spInts K L) := by
  refine F.F.ok scLawIntegers (fun vs H Q E h => ?_) (fun cdv A outer s H vs Q E hr h => ?_)
  · obtain ⟨v, t, rfl, _⟩ := h
    rfl
  · obtain ⟨v, t, rfl, hv, ok, wf, k⟩ := h
    refine ⟨_, (pss_one (ps_ret (pe_lc (own := [("one", 1)]) (g := gName 1) (tt := _) rfl scLawIntegers.nd (pi_tup (pe_slice sl_any (pv 0) (po_some pe_int) po_none)) (blkOk_by (N := nsLawIntegers) (sc := defScope sLawIntegers) (by decide +kernel)) (fun _ _ _ _ _ => pg_name (i := 1) scLawIntegers.nd rfl (Or.inl rfl)) (fun _ _ _ _ _ => pts_one (pt_val (pe_callB (id := "isinstance") (r := rIsi K) call_isi (by rfl) T.isinstance (by decide +kernel) (pa_cons (pv 1) (pa_cons (pe_bltn (v := .ty "int") (by rfl) T.int (by decide +kernel) rfl) pa_nil))))) (fun _ _ _ _ _ => (pv 1))))), ?_⟩
    obtain ⟨sh, hsh, esh, ln, lk, kw⟩ := Pt.wf_at ok wf
    rw [← esh] at ln lk
    obtain ⟨a, xs, rfl, hs, hx⟩ := pt_at hv
    have ri := (Pt.rest_ints ln lk).1
    have few : xs.length ≤ 9 := by
      have := hx.len
      rw [show (t.rest L).length = (shL L t.w).length from (fill_at (a := 0) (by rw [List.length_map]; exact ln) (by rw [List.length_map]; exact lk)).1, esh, lsS_len] at this
      rw [this]
      exact (ok _ _ hsh).1
    refine ⟨_, rfl, 1, rfl, a, _, rfl, hs, fun H1 b s1 hB => ?_⟩
    rw [show (1 : Int) = ((1 : Nat) : Int) from rfl, cutT_from] at hB
    have hB2 : SqT K H1 b xs := hB
    refine ⟨b, rfl, ⟨_, hB2⟩, fun D nD => lc_tup (K := K) (a := b) (xs := xs) (fun i H' => H' D = some (.lst ((((t.rest L).take i).filterMap isI).map V.int)) ∧ Same H1 H') ⟨upd_same, Same.new nD⟩ (fun i H' _ ⟨_, s⟩ => s.tup hB2) ?_ ?_⟩
    · rintro i x H2 hxi ⟨h2, s2⟩
      obtain ⟨d, hd, dv⟩ := DpAll.get (DpAll.same (s1.trans s2) hx) hxi
      have lt : (((t.rest L).take i).filterMap isI).length ≤ 9 := by
        refine Nat.le_trans (List.length_filterMap_le _ _) ?_
        have := hx.len
        rw [List.length_take]
        omega
      rcases Pt.rest_mem (List.mem_of_getElem? hd) with ⟨n, rfl⟩ | ⟨kk, _, rfl⟩
      · cases dv
        refine ⟨rfl, _, rfl, _, .ty "int", .type "int", .type "int", true, rfl, .ty _, .base (.int n), kit_ty (by decide +kernel), true, rfl, ?_⟩
        dsimp only
        rw [if_pos rfl]
        refine ⟨_, rfl, _, h2, small1000 (by rw [List.length_map]; omega), ?_, same_upd nD s2⟩
        rw [upd_same, take_snoc hd, List.filterMap_append, List.map_append]
        rfl
      · obtain ⟨b2, xs2, rfl, hs2, _⟩ := pt_at dv
        refine ⟨rfl, _, rfl, _, .ty "int", .type "tuple", .type "int", false, rfl, .ty _, tyx_tup hs2, kit_ty (by decide +kernel), false, rfl, ?_⟩
        dsimp only
        rw [if_neg (show ¬ false = true by decide)]
        refine ⟨?_, s2⟩
        rw [take_snoc hd, List.filterMap_append, List.filterMap_cons, List.filterMap_nil]
        have : isI (kk.toD L) = none := by cases kk <;> rfl
        rw [this, List.append_nil]
        exact h2
    · rintro H2 ⟨h2, s2⟩
      rw [List.take_of_length_le (by rw [hx.len]; exact Nat.le_refl _), ri] at h2
      exact k _ D (s1.trans s2) h2
def spKidsP (K : PySem.W.Frag) (L : Shp) : Sp := fun vs H Q _ => ∃ v, ∃ t : Pt, vs = [v] ∧ Dp K H v (t.toD L) ∧ LOk L ∧ t.Wf (kdS L) ∧ ∀ H' D us, Same H H' → H' D = some (.lst us) → DpAll K H' us (t.ks.map (Pt.toD L)) → Q (.ref D) H'
theorem flat_part : ∀ {ds : List PyData}, (∀ d ∈ ds, flatD d = true) → flatDs ds = true
  | [], _ => rfl
  | d :: ds, h => by
    unfold flatDs
    rw [h d List.mem_cons_self, flat_part fun q hq => h q (List.mem_cons_of_mem _ hq)]
    rfl
theorem flat_mem : ∀ {ds : List PyData}, flatDs ds = true → ∀ d ∈ ds, flatD d = true
  | d :: ds, h, q, hq => by
    unfold flatDs at h
    rw [Bool.and_eq_true] at h
    rcases List.mem_cons.mp hq with rfl | hq
    · exact h.1
    · exact flat_mem h.2 q hq
abbrev nsLawKids : List Str := ["thing", "one"]
theorem scLawKids : FnScope nsLawKids ["thing"] (defScope sLawKids) := ⟨rfl, rfl, rfl, by decide +kernel, rfl, by decide +kernel, by decide +kernel⟩
theorem ok_law_kids {f : Addr} {fd : FuncData} (F : Df K mg "_law_kids" sLawKids ["thing"] f fd)
    (T : Bt mg) : FnOk P w K mg base CX0 1 f fd ["thing"] (spKidsP K L) := by
  refine F.F.ok scLawKids (fun vs H Q E h => ?_) (fun cdv A outer s H vs Q E hr h => ?_)
  · obtain ⟨v, t, rfl, _⟩ := h
    rfl
  · obtain ⟨v, t, rfl, hv, ok, wf, k⟩ := h
    refine ⟨_, (pss_one (ps_ret (pe_lc (own := [("one", 1)]) (g := gName 1) (tt := _) rfl scLawKids.nd (pi_tup (pe_slice sl_any (pv 0) (po_some pe_int) po_none)) (blkOk_by (N := nsLawKids) (sc := defScope sLawKids) (by decide +kernel)) (fun _ _ _ _ _ => pg_name (i := 1) scLawKids.nd rfl (Or.inl rfl)) (fun _ _ _ _ _ => pts_one (pt_val (pe_callB (id := "isinstance") (r := rIsi K) call_isi (by rfl) T.isinstance (by decide +kernel) (pa_cons (pv 1) (pa_cons (pe_bltn (v := .ty "tuple") (by rfl) T.tuple (by decide +kernel) rfl) pa_nil))))) (fun _ _ _ _ _ => (pv 1))))), ?_⟩
    obtain ⟨sh, hsh, esh, ln, lk, kw⟩ := Pt.wf_at ok wf
    rw [← esh] at ln lk
    obtain ⟨a, xs, rfl, hs, hx⟩ := pt_at hv
    have few : xs.length ≤ 9 := by
      have := hx.len
      rw [show (t.rest L).length = (shL L t.w).length from (fill_at (a := 0) (by rw [List.length_map]; exact ln) (by rw [List.length_map]; exact lk)).1, esh, lsS_len] at this
      rw [this]
      exact (ok _ _ hsh).1
    refine ⟨_, rfl, 1, rfl, a, _, rfl, hs, fun H1 b s1 hB => ?_⟩
    rw [show (1 : Int) = ((1 : Nat) : Int) from rfl, cutT_from] at hB
    have hB2 : SqT K H1 b xs := hB
    refine ⟨b, rfl, ⟨_, hB2⟩, fun D nD => lc_tup (K := K) (a := b) (xs := xs) (fun i H' => ∃ us, H' D = some (.lst us) ∧ us.length ≤ i ∧ DpAll K H' us (((t.rest L).take i).filter isTp) ∧ Same H1 H') ⟨[], upd_same, Nat.le_refl _, .nil, Same.new nD⟩ (fun i H' _ ⟨_, _, _, _, s⟩ => s.tup hB2) ?_ ?_⟩
    · rintro i x H2 hxi ⟨us, h2, lu, du, s2⟩
      obtain ⟨d, hd, dv⟩ := DpAll.get (DpAll.same (s1.trans s2) hx) hxi
      have li := (List.getElem?_eq_some_iff.mp hxi).1
      rcases Pt.rest_mem (List.mem_of_getElem? hd) with ⟨n, rfl⟩ | ⟨kk, _, rfl⟩
      · cases dv
        refine ⟨rfl, _, rfl, _, .ty "tuple", .type "int", .type "tuple", false, rfl, .ty _, .base (.int n), kit_ty (by decide +kernel), false, rfl, ?_⟩
        dsimp only
        rw [if_neg (show ¬ false = true by decide)]
        refine ⟨us, h2, by omega, ?_, s2⟩
        rw [take_snoc hd, List.filter_append]
        show DpAll K H2 us (List.filter isTp (List.take i (Pt.rest L t)) ++ [])
        rw [List.append_nil]
        exact du
      · obtain ⟨b2, xs2, rfl, hs2, _⟩ := pt_at dv
        refine ⟨rfl, _, rfl, _, .ty "tuple", .type "tuple", .type "tuple", true, rfl, .ty _, tyx_tup hs2, kit_ty (by decide +kernel), true, rfl, ?_⟩
        dsimp only
        rw [if_pos rfl]
        have fl : flatDs (((t.rest L).take i).filter isTp ++ [kk.toD L]) = true := flat_part fun q hq => by
          rcases List.mem_append.mp hq with hq | hq
          · exact flat_mem (Pt.rest_flat L t) q (List.mem_of_mem_take (List.mem_filter.mp hq).1)
          · rw [List.mem_singleton.mp hq]
            exact Pt.flat L kk
        refine ⟨_, rfl, us, h2, small1000 (by omega), us ++ [.ref b2], upd_same, by rw [List.length_append]; show us.length + 1 ≤ i + 1; omega, ?_, same_upd nD s2⟩
        rw [take_snoc hd, List.filter_append, show List.filter isTp [kk.toD L] = [kk.toD L] from by rw [List.filter_cons, if_pos (Pt.toD_tp L kk)]; rfl]
        exact DpAll.tk (tk_lst h2) fl (DpAll.app du (.cons dv .nil))
    · rintro H2 ⟨us, h2, lu, du, s2⟩
      rw [List.take_of_length_le (by rw [hx.len]; exact Nat.le_refl _), (Pt.rest_ints ln lk).2] at du
      exact k _ D us (s1.trans s2) h2 du
def spLineOf (K : PySem.W.Frag) (L : Shp) (h : Nat) : Sp := fun vs H Q _ => ∃ v, ∃ t : Pt, vs = [v] ∧ Dp K H v (t.toD L) ∧ LOk L ∧ t.Wf (kdS L) ∧ t.Sm ∧ t.words ≤ h + 1 ∧ t.words ≤ 20 ∧ ∀ H', Same H H' → Q (.str t.ts) H'
def spLineP (K : PySem.W.Frag) (L : Shp) (h : Nat) : Sp := fun vs H Q E => ∃ m, h = m + 1 ∧ spLineOf K L m vs H Q E
abbrev nsLawLineOf : List Str := ["thing", "words", "one", "kid"]
theorem scLawLineOf : FnScope nsLawLineOf ["thing"] (defScope sLawLineOf) := ⟨rfl, rfl, rfl, by decide +kernel, rfl, by decide +kernel, by decide +kernel⟩
theorem ok_law_line_of {f : Addr} {fd : FuncData} (F : Df K mg "_law_line_of" sLawLineOf ["thing"] f fd)
    {f1 : Addr} {fd1 : FuncData} (D1 : Df K mg "_law_kids" sLawKids ["thing"] f1 fd1) (G1 : FnOk P w K mg base CX0 1 f1 fd1 ["thing"] (spKidsP K L))
    {f2 : Addr} {fd2 : FuncData} (D2 : Df K mg "_law_integers" sLawIntegers ["thing"] f2 fd2) (G2 : FnOk P w K mg base CX0 1 f2 fd2 ["thing"] (spInts K L))
    {h : Nat} (mstr : mg "str" = none) {f9 : Addr} {fd9 : FuncData} (D9 : Df K mg "_law_line_of" sLawLineOf ["thing"] f9 fd9) (G9 : FnOk P w K mg base CX0 (h + 2) f9 fd9 ["thing"] (spLineP K L h)) : FnOk P w K mg base CX0 (h+3) f fd ["thing"] (spLineOf K L h) := by
  refine F.F.ok scLawLineOf (fun vs H Q E h => ?_) (fun cdv A outer s H vs Q E hr h => ?_)
  · obtain ⟨v, t, rfl, _⟩ := h
    rfl
  · obtain ⟨v, t, rfl, hv, ok, wf, sm, wh, w20, k⟩ := h
    refine ⟨_, (pss_cons (ps_set (i := 1) scLawLineOf.nd rfl (Or.inl rfl) (pe_op op_cat (pe_lst (pa_cons (pe_ix (r := rIxT K) ix_tup (pv 0) pe_int (fun _ _ => rfl)) pa_nil)) (pe_lc (own := [("one", 2)]) (g := gName 2) (tt := tYes) rfl scLawLineOf.nd (pi_list (pe_call G2 (hr.mono (by omega)) (by rfl) D2.g D2.F.kp D2.b .nil pass0 (pa_cons (pv 0) pa_nil))) (blkOk_by (N := nsLawLineOf) (sc := defScope sLawLineOf) (by decide +kernel)) (fun _ _ _ _ _ => pg_name (i := 2) scLawLineOf.nd rfl (Or.inl rfl)) (fun _ _ _ _ _ => pts_nil) (fun _ _ _ _ _ => (pe_callTy call_str_int (by rfl) mstr (by decide +kernel) (pa_cons (pv 2) pa_nil))))))
      (pss_one (ps_ret (pe_join pe_str (pe_op op_cat (pv 1) (pe_lc (own := [("kid", 3)]) (g := gName 3) (tt := tYes) rfl scLawLineOf.nd (pi_list (pe_call G1 (hr.mono (by omega)) (by rfl) D1.g D1.F.kp D1.b .nil pass0 (pa_cons (pv 0) pa_nil))) (blkOk_by (N := nsLawLineOf) (sc := defScope sLawLineOf) (by decide +kernel)) (fun _ _ _ _ _ => pg_name (i := 3) scLawLineOf.nd rfl (Or.inl rfl)) (fun _ _ _ _ _ => pts_nil) (fun _ _ _ _ _ => (pe_call G9 (hr.mono (by omega)) (by rfl) D9.g D9.F.kp D9.b .nil pass0 (pa_cons (pv 3) pa_nil))))))))), ?_⟩
    obtain ⟨sh, hsh, esh, ln, lk, kw⟩ := Pt.wf_at ok wf
    obtain ⟨a, xs, rfl, hs, hx⟩ := pt_at hv
    have hs0 := sm.w
    obtain ⟨s9, p1, p2, b2⟩ := ok _ _ hsh
    refine ⟨_, rfl, a, _, 0, _, rfl, rfl, hs, ati0, (by show 1 ≤ sizeLine; decide), fun l1 n1 => ?_⟩
    have s1 := Same.new (o := .lst [V.str t.w]) n1
    have h1 : (upd H l1 (.lst [V.str t.w])) l1 = some (.lst [V.str t.w]) := upd_same
    generalize upd H l1 (.lst [V.str t.w]) = H1 at *
    refine ⟨_, rfl, _, t, rfl, Dp.same s1 hv, ok, wf, fun H2 D s2 hD => ⟨D, rfl, ⟨_, SqL.of hD⟩, fun Dl nL => lc_it (walk_list (K := K) (a := D) (xs := t.ns.map V.int)) (fun i H' => H' Dl = some (.lst ((t.ns.take i).map fun n => V.str (strI n))) ∧ Same H2 H') ⟨upd_same, Same.new nL⟩ (fun i H' _ ⟨_, s⟩ => s.seq (SqL.of hD)) ?_ ?_⟩⟩
    · rintro i x H6 H7 hi ⟨h6, s6⟩ ⟨rfl, hx0⟩
      rw [List.getElem?_map] at hx0
      obtain ⟨n, hn, rfl⟩ := Option.map_eq_some_iff.mp hx0
      refine ⟨rfl, ?_⟩
      dsimp only [tYes]
      rw [if_pos rfl]
      refine ⟨_, rfl, n, rfl, log_small (hs0.2.2 n (List.mem_of_getElem? hn)), _, h6, small1000 (by rw [List.length_map, List.length_take]; have := hs0.2.1; omega), ?_, same_upd nL s6⟩
      rw [upd_same, take_snoc hn, List.map_append]
      rfl
    rintro H3 ⟨h3, s3⟩
    rw [List.length_map, List.take_length] at h3
    have h13 := s3 _ _ (s2 _ _ h1)
    have s03 := (s1.trans s2).trans s3
    have l8 := hs0.2.1
    refine ⟨l1, Dl, _, _, rfl, rfl, h13, h3, Nat.le_trans (show _ ≤ 100 by rw [List.length_map]; show 1 + t.ns.length ≤ 100; omega) (by decide), fun p np => ?_⟩
    have s04 := s03.trans (Same.new (o := .lst ([V.str t.w] ++ t.ns.map fun n => V.str (strI n))) np)
    have h4 : (upd H3 p (.lst ([V.str t.w] ++ t.ns.map fun n => V.str (strI n)))) p = some (.lst ([V.str t.w] ++ t.ns.map fun n => V.str (strI n))) := upd_same
    generalize upd H3 p (.lst ([V.str t.w] ++ t.ns.map fun n => V.str (strI n))) = H4 at *
    refine ⟨⟨_, rfl⟩, _, rfl, _, rfl, _, t, rfl, Dp.same s04 hv, ok, wf, fun H5 D5 us s5 h5 d5 => ⟨D5, rfl, ⟨_, SqL.of h5⟩, fun De nE => lc_it (walk_list (K := K) (a := D5) (xs := us)) (fun i H' => H' De = some (.lst ((t.ks.take i).map fun n => V.str n.ts)) ∧ Same H5 H') ⟨upd_same, Same.new nE⟩ (fun i H' _ ⟨_, s⟩ => s.seq (SqL.of h5)) ?_ ?_⟩⟩
    · rintro i x H6 H7 hi ⟨h6, s6⟩ ⟨rfl, hx0⟩
      obtain ⟨dd, hd, dv⟩ := DpAll.get (DpAll.same s6 d5) hx0
      obtain ⟨n, hn, rfl⟩ := Option.map_eq_some_iff.mp (by rw [List.getElem?_map] at hd; exact hd)
      have mk := List.mem_of_getElem? hn
      have kwd := Pt.ks_words n mk
      have wp := n.words_pos
      have lk2 : t.ks.length ≤ 2 := by omega
      refine ⟨rfl, ?_⟩
      dsimp only [tYes]
      rw [if_pos rfl]
      refine ⟨_, rfl, h - 1, by omega, x, n, rfl, dv, ok, kw n mk, sm.k n mk, by omega, by omega, fun H8 s8 => ⟨_, s8 _ _ h6, small1000 (by rw [List.length_map, List.length_take]; omega), ?_, same_upd nE (s6.trans s8)⟩⟩
      rw [upd_same, take_snoc hn, List.map_append]
      rfl
    rintro H6 ⟨h6, s6⟩
    have lu := d5.len
    rw [List.length_map] at lu
    rw [lu, List.take_length] at h6
    have h46 := s6 _ _ (s5 _ _ h4)
    have s06 := (s04.trans s5).trans s6
    have ec : ([V.str t.w] ++ t.ns.map fun n => V.str (strI n)) ++ (t.ks.map fun n => V.str n.ts) = (t.w :: (t.ns.map strI ++ t.ks.map Pt.ts)).map V.str := by simp [List.map_map, Function.comp_def]
    have sz : ((t.w :: (t.ns.map strI ++ t.ks.map Pt.ts)).map (·.length)).sum + (t.w :: (t.ns.map strI ++ t.ks.map Pt.ts)).length * (" " : Str).length ≤ 16777216 := by
      have e1 := join_len (t.w :: (t.ns.map strI ++ t.ks.map Pt.ts)) (by simp)
      rw [← Pt.ts_eq, sum_succ (fun w : Str => w.length)] at e1
      have e2 := Pt.ts_len sm
      have e3 : (" " : Str).length = 1 := by decide +kernel
      rw [e3]
      omega
    have es : (" " : Str) = sgn 32 := by decide +kernel
    refine ⟨p, De, _, _, rfl, rfl, h46, h6, Nat.le_trans (show _ ≤ 100 by rw [List.length_append, List.length_map, List.length_map]; show 1 + t.ns.length + t.ks.length ≤ 100; omega) (by decide), fun p5 n5 => ⟨" ", p5, t.w :: (t.ns.map strI ++ t.ks.map Pt.ts), rfl, rfl, .inl (SqL.of (by rw [upd_same, ec])), sz, ?_⟩⟩
    rw [es, ← Pt.ts_eq]
    exact k _ (s06.trans (Same.new n5))
end
end CS
set_option Elab.async false
set_option maxRecDepth 100000
set_option maxHeartbeats 4000000
set_option linter.unusedVariables false
/-! words whose whole numbers stand together -/
namespace CS
open PySem L2
theorem fill_ck {α : Type} {c : Nat} {s : List Nat} {xs ks : List α} {k : α} (h : c = 83) : fill (c :: s) xs (k :: ks) = k :: fill s xs ks := by
  exact if_pos h
theorem fill_cx {α : Type} {c : Nat} {s : List Nat} {xs ks : List α} {x : α} (h : c ≠ 83) : fill (c :: s) (x :: xs) ks = x :: fill s xs ks := by
  exact if_neg h
theorem fill_k {α : Type} : ∀ {A B : List Nat} {xs ks k2 : List α}, (∀ c ∈ A, c = 83) → ks.length = A.length → fill (A ++ B) xs (ks ++ k2) = ks ++ fill B xs k2
  | [], B, xs, ks, k2, _, h => by rw [List.length_eq_zero_iff.mp h]; rfl
  | c :: A, B, xs, [], k2, _, h => by cases h
  | c :: A, B, xs, k :: ks, k2, hc, h => by
    rw [List.cons_append, List.cons_append, List.cons_append]
    rw [fill_ck (hc c List.mem_cons_self), fill_k (fun q hq => hc q (List.mem_cons_of_mem _ hq)) (Nat.succ.inj h)]
theorem fill_x {α : Type} : ∀ {A B : List Nat} {xs ks x2 : List α}, (∀ c ∈ A, c ≠ 83) → xs.length = A.length → fill (A ++ B) (xs ++ x2) ks = xs ++ fill B x2 ks
  | [], B, xs, ks, k2, _, h => by rw [List.length_eq_zero_iff.mp h]; rfl
  | c :: A, B, [], ks, k2, _, h => by cases h
  | c :: A, B, x :: xs, ks, k2, hc, h => by
    rw [List.cons_append, List.cons_append, List.cons_append]
    rw [fill_cx (hc c List.mem_cons_self), fill_x (fun q hq => hc q (List.mem_cons_of_mem _ hq)) (Nat.succ.inj h)]
theorem wpl_len (s : List Nat) : ∀ a, (wpl a s).length = (s.filter fun c => decide (c ≠ 83)).length ∧ (kpl a s).length = (s.filter fun c => decide (c = 83)).length := by
  induction s with
  | nil => exact fun a => ⟨rfl, rfl⟩
  | cons c s ih =>
    intro a
    unfold wpl kpl
    by_cases e : c = 83
    · rw [if_pos e, if_pos e, List.filter_cons, List.filter_cons, if_neg (by simp [e]), if_pos (by simp [e]), List.length_cons, List.length_cons, (ih (a + 1)).1, (ih (a + 1)).2]
      exact ⟨rfl, rfl⟩
    · rw [if_neg e, if_neg e, List.filter_cons, List.filter_cons, if_pos (by simp [e]), if_neg (by simp [e]), List.length_cons, List.length_cons, (ih (a + 1)).1, (ih (a + 1)).2]
      exact ⟨rfl, rfl⟩
/-- 'if' has its whole numbers first, every other word its parts first -/
def jokB (L : Shp) : Bool := L.all fun p => if p.1 = "if" then decide (lsS p.2 = ((lsS p.2).filter fun c => decide (c ≠ 83)) ++ (lsS p.2).filter fun c => decide (c = 83)) else decide (lsS p.2 = ((lsS p.2).filter fun c => decide (c = 83)) ++ (lsS p.2).filter fun c => decide (c ≠ 83))
def JOk (L : Shp) : Prop := ∀ w s, shpOf L w = some s → (w = "if" → lsS s = ((lsS s).filter fun c => decide (c ≠ 83)) ++ (lsS s).filter fun c => decide (c = 83)) ∧ (w ≠ "if" → lsS s = ((lsS s).filter fun c => decide (c = 83)) ++ (lsS s).filter fun c => decide (c ≠ 83))
theorem jok_of {L : Shp} (h : jokB L = true) : JOk L := fun w s e => by
  have := List.all_eq_true.mp h _ (shpOf_mem e)
  refine ⟨fun z => ?_, fun z => ?_⟩
  · dsimp only at this
    rw [if_pos z] at this
    exact of_decide_eq_true this
  · dsimp only at this
    rw [if_neg z] at this
    exact of_decide_eq_true this
theorem fill_join {α : Type} {L : Shp} (j : JOk L) {w : Str} {xs ks : List α} (h : kdS L w = some (xs.length, ks.length)) : fill (shL L w) xs ks = if w = "if" then xs ++ ks else ks ++ xs := by
  unfold kdS at h
  obtain ⟨s, hs, es⟩ := Option.map_eq_some_iff.mp h
  have e1 : (wpl 0 (lsS s)).length = xs.length := congrArg Prod.fst es
  have e2 : (kpl 0 (lsS s)).length = ks.length := congrArg Prod.snd es
  rw [(wpl_len _ 0).1] at e1
  rw [(wpl_len _ 0).2] at e2
  have esh : shL L w = lsS s := by unfold shL; rw [hs]; rfl
  obtain ⟨j1, j2⟩ := j w s hs
  have hx : ∀ c ∈ (lsS s).filter (fun c => decide (c ≠ 83)), c ≠ 83 := fun c hc => of_decide_eq_true (List.mem_filter.mp hc).2
  have hk : ∀ c ∈ (lsS s).filter (fun c => decide (c = 83)), c = 83 := fun c hc => of_decide_eq_true (List.mem_filter.mp hc).2
  have nx : ∀ {B : List Nat} {ks : List α}, (∀ c ∈ B, c = 83) → ks.length = B.length → fill B [] ks = ks := fun {B ks} a b => by
    have := fill_k (B := []) (xs := ([] : List α)) (k2 := []) a b
    rw [List.append_nil, List.append_nil] at this
    rw [this]
    exact List.append_nil _
  have nk : ∀ {B : List Nat} {xs : List α}, (∀ c ∈ B, c ≠ 83) → xs.length = B.length → fill B xs [] = xs := fun {B xs} a b => by
    have := fill_x (B := []) (ks := ([] : List α)) (x2 := []) a b
    rw [List.append_nil, List.append_nil] at this
    rw [this]
    exact List.append_nil _
  rw [esh]
  by_cases c : w = "if"
  · rw [if_pos c, j1 c]
    have := fill_x (B := (lsS s).filter fun c => decide (c = 83)) (ks := ks) (x2 := []) hx e1.symm
    rw [List.append_nil] at this
    rw [this, nx hk e2.symm]
  · rw [if_neg c, j2 c]
    have := fill_k (B := (lsS s).filter fun c => decide (c ≠ 83)) (xs := xs) (k2 := []) hk e2.symm
    rw [List.append_nil] at this
    rw [this, nk hx e1.symm]
end CS
set_option Elab.async false
set_option maxRecDepth 100000
set_option maxHeartbeats 8000000
set_option linter.unusedVariables false
set_option pp.maxSteps 5000
/-! the law's paper, put together -/
namespace CS
open PySem L2 RZ LamX
section
variable {P : Program} {w : World} {K : PySem.W.Frag} {mg : Str → Option Value} {base : Heap} {C CB CT : Addr} {TT : List (Addr × Str)} {L : Shp}
theorem line_all {f : Addr} {fd : FuncData} (F : Df K mg "_law_line_of" sLawLineOf ["thing"] f fd)
    {f1 : Addr} {fd1 : FuncData} (D1 : Df K mg "_law_kids" sLawKids ["thing"] f1 fd1) (G1 : FnOk P w K mg base CX0 1 f1 fd1 ["thing"] (spKidsP K L))
    {f2 : Addr} {fd2 : FuncData} (D2 : Df K mg "_law_integers" sLawIntegers ["thing"] f2 fd2) (G2 : FnOk P w K mg base CX0 1 f2 fd2 ["thing"] (spInts K L))
    (mstr : mg "str" = none) : ∀ h : Nat, FnOk P w K mg base CX0 (h + 3) f fd ["thing"] (spLineOf K L h)
  | 0 => by
    refine ok_law_line_of (h := 0) F D1 G1 D2 G2 mstr F ?_
    refine F.F.ok scLawLineOf (fun vs H Q E h => ?_) (fun cdv A outer s H vs Q E hr h => ?_)
    · obtain ⟨m, e, _⟩ := h
      cases e
    · obtain ⟨m, e, _⟩ := h
      cases e
  | h + 1 => by
    refine ok_law_line_of (h := h + 1) F D1 G1 D2 G2 mstr F ?_
    have e : spLineP K L (h + 1) = spLineOf K L h := by
      funext vs H Q E
      refine propext ⟨fun ⟨m, e, q⟩ => ?_, fun q => ⟨h, rfl, q⟩⟩
      cases e
      exact q
    rw [e]
    exact line_all F D1 G1 D2 G2 mstr h
theorem ok_law_line_of20 {f : Addr} {fd : FuncData} (F : Df K mg "_law_line_of" sLawLineOf ["thing"] f fd)
    {f1 : Addr} {fd1 : FuncData} (D1 : Df K mg "_law_kids" sLawKids ["thing"] f1 fd1) (G1 : FnOk P w K mg base CX0 1 f1 fd1 ["thing"] (spKidsP K L))
    {f2 : Addr} {fd2 : FuncData} (D2 : Df K mg "_law_integers" sLawIntegers ["thing"] f2 fd2) (G2 : FnOk P w K mg base CX0 1 f2 fd2 ["thing"] (spInts K L))
    (mstr : mg "str" = none) : FnOk P w K mg base CX0 22 f fd ["thing"] (spLineOf K L 19) := line_all F D1 G1 D2 G2 mstr 19
theorem few1 {n : Nat} (m : Nat) (h : n ≤ 100) : n ≤ sizeLine := Nat.le_trans h (by decide)
theorem catA_use {a b : Addr} {xs ys : List V} {H : Hp} {Q : VK} (ne : xs ≠ []) (ha : SqT K H a xs) (hb : SqT K H b ys) (hz : xs.length + ys.length ≤ sizeLine) (k : ∀ r H', Same H H' → SqT K H' r (xs ++ ys) → Q (.ref r) H') : rCatA K (.ref a) (.ref b) H Q :=
  ⟨a, b, xs, ys, rfl, rfl, ha, hb, hz, fun e => absurd e ne, fun _ e => k a H (Same.refl H) (by rw [e, List.append_nil]; exact ha), fun _ _ p np => k p _ (Same.new np) (SqT.of upd_same)⟩
def spJoined (K : PySem.W.Frag) (L : Shp) : Sp := fun vs H Q _ => ∃ (x : Str) (S T : Addr) (ns : List Int) (us : List V) (ks : List Pt), vs = [.str x, .ref S, .ref T] ∧ H S = some (.lst (ns.map V.int)) ∧ H T = some (.lst us) ∧ DpAll K H us (ks.map (Pt.toD L)) ∧ JOk L ∧ kdS L x = some (ns.length, ks.length) ∧ ks.length ≤ 2 ∧ ns.length ≤ 9 ∧ ∀ H' r, Same H H' → Dp K H' (.ref r) ((Pt.mk x ns ks).toD L) → Q (.ref r) H'
abbrev nsLawJoined : List Str := ["word", "some", "kids"]
theorem scLawJoined : FnScope nsLawJoined ["word", "some", "kids"] (defScope sLawJoined) := ⟨rfl, rfl, rfl, by decide +kernel, rfl, by decide +kernel, by decide +kernel⟩
theorem ok_law_joined {f : Addr} {fd : FuncData} (F : Df K mg "_law_joined" sLawJoined ["word", "some", "kids"] f fd)
    (T : Bt mg) : FnOk P w K mg base CX0 1 f fd ["word", "some", "kids"] (spJoined K L) := by
  refine F.F.ok scLawJoined (fun vs H Q E h => ?_) (fun cdv A outer s H vs Q E hr h => ?_)
  · obtain ⟨x, S, T2, ns, us, ks, rfl, _⟩ := h
    rfl
  · obtain ⟨x, S, T2, ns, us, ks, rfl, hS, hT, hu, j, hk, k2, n9, k⟩ := h
    refine ⟨_, (pss_cons (ps_if (pt_cmpR op_eq (pv 0) pe_str (nomark _)) (pss_one (ps_ret (pe_op op_catA (pe_op op_catA (pe_tup (pa_cons (pv 0) pa_nil)) (pe_callTy call_tuple_of (by rfl) T.tuple (by decide +kernel) (pa_cons (pv 1) pa_nil))) (pe_callTy call_tuple_of (by rfl) T.tuple (by decide +kernel) (pa_cons (pv 2) pa_nil))))) pss_nil)
      (pss_one (ps_ret (pe_op op_catA (pe_op op_catA (pe_tup (pa_cons (pv 0) pa_nil)) (pe_callTy call_tuple_of (by rfl) T.tuple (by decide +kernel) (pa_cons (pv 2) pa_nil))) (pe_callTy call_tuple_of (by rfl) T.tuple (by decide +kernel) (pa_cons (pv 1) pa_nil)))))), ?_⟩
    have lu := hu.len
    rw [List.length_map] at lu
    have fj := fill_join (xs := ns.map PyData.int) (ks := ks.map (Pt.toD L)) j (w := x) (by rw [List.length_map, List.length_map]; exact hk)
    have du : ∀ {H' : Hp}, Same H H' → DpAll K H' us (ks.map (Pt.toD L)) := fun s => DpAll.same s hu
    refine ⟨_, rfl, rfl, _, rfl, ?_⟩
    by_cases c : x = "if"
    · refine iteTe (decide_eq_true (by rw [c])) ⟨_, rfl, (by show 1 ≤ sizeLine; decide), fun a0 n0 => ⟨_, rfl, S, _, rfl, .inl ⟨SqL.of ((Same.new n0) _ _ hS), fun b0 m0 => catA_use (by simp) ((Same.new m0).tup (SqT.of upd_same)) (SqT.of upd_same) (few1 0 (by simp; omega)) fun r1 H1 s1 h1 => ⟨_, rfl, T2, _, rfl, .inl ⟨SqL.of (s1 _ _ ((Same.new m0) _ _ ((Same.new n0) _ _ hT))), fun b1 m1 => catA_use (by simp) ((Same.new m1).tup h1) (SqT.of upd_same) (few1 0 (by simp; omega)) fun r2 H2 s2 h2 => ?_⟩⟩⟩⟩⟩
      have s := ((Same.new (o := .tup [V.str x]) n0).trans ((Same.new (o := .tup (ns.map V.int)) m0).trans s1)).trans ((Same.new (o := .tup us) m1).trans s2)
      refine k _ r2 s ?_
      rw [Pt.mk_toD k2, fj, if_pos c]
      refine .tup h2 ?_
      exact .cons (.str _) (DpAll.app (DpAll.ints _) (du s))
    · refine iteFe (decide_eq_false fun z => c (V.str.inj z)) ⟨_, rfl, (by show 1 ≤ sizeLine; decide), fun a0 n0 => ⟨_, rfl, T2, _, rfl, .inl ⟨SqL.of ((Same.new n0) _ _ hT), fun b0 m0 => catA_use (by simp) ((Same.new m0).tup (SqT.of upd_same)) (SqT.of upd_same) (few1 0 (by simp; omega)) fun r1 H1 s1 h1 => ⟨_, rfl, S, _, rfl, .inl ⟨SqL.of (s1 _ _ ((Same.new m0) _ _ ((Same.new n0) _ _ hS))), fun b1 m1 => catA_use (by simp) ((Same.new m1).tup h1) (SqT.of upd_same) (few1 0 (by simp; omega)) fun r2 H2 s2 h2 => ?_⟩⟩⟩⟩⟩
      have s := ((Same.new (o := .tup [V.str x]) n0).trans ((Same.new (o := .tup us) m0).trans s1)).trans ((Same.new (o := .tup (ns.map V.int)) m1).trans s2)
      refine k _ r2 s ?_
      rw [Pt.mk_toD k2, fj, if_neg c]
      refine .tup h2 ?_
      exact .cons (.str _) (DpAll.app (du s) (DpAll.ints _))
end
end CS
set_option Elab.async false
set_option maxRecDepth 100000
set_option maxHeartbeats 8000000
set_option linter.unusedVariables false
set_option pp.maxSteps 5000
/-! a word read as a whole number: the law's way -/
namespace CS
open PySem L2 RZ LamX
section
variable {P : Program} {w : World} {K : PySem.W.Frag} {mg : Str → Option Value} {base : Heap}
theorem cutS0 (x : Str) : lsS (cutS x none (some 1)) = (lsS x).take 1 := by
  unfold cutS HT.sIx
  obtain ⟨⟨l⟩⟩ := x
  cases l <;> simp [lsS, Str.length]
theorem fig_if {σ : L2.St} {H : Hp} {Q : VK} {x : Str} (h0 : σ[0]? = some (some (.str x))) (hx : x.length ≤ 3000) (k : ∀ fig : Str, lsS fig = (if (lsS x).head? = some 45 then (lsS x).drop 1 else lsS x) → fig.length ≤ 3000 → Q (.str fig) H) :
    tIf (tTest (tOp rEq (tSl rSlS (tVar 0) tNoPart (tPart (tC (V.int 1)))) (tC (V.str "-")))) (tSl rSlS (tVar 0) (tPart (tC (V.int 1))) tNoPart) (tVar 0) σ H Q := by
  have hs : x.length ≤ sizeLine := Nat.le_trans hx (by decide)
  refine ⟨_, h0, 1, rfl, x, rfl, hs, rfl, _, rfl, ?_⟩
  rw [str_eq, cutS0, show lsS "-" = [45] by decide +kernel]
  by_cases c : (lsS x).head? = some 45
  · have e : (lsS x).take 1 = [45] := by
      cases el : lsS x with
      | nil => rw [el] at c; cases c
      | cons a r => rw [el] at c; cases c; rfl
    refine iteTe (decide_eq_true e) ⟨_, h0, 1, rfl, x, rfl, hs, k _ ?_ ?_⟩
    · rw [if_pos c, cutS1]
    · rw [len_lsS, cutS1, List.length_drop, ← len_lsS]
      omega
  · have e : (lsS x).take 1 ≠ [45] := by
      cases el : lsS x with
      | nil => intro z; cases z
      | cons a r =>
        rw [el] at c
        intro z
        cases z
        exact c rfl
    exact iteFe (decide_eq_false e) ⟨_, h0, k x (by rw [if_neg c]) hx⟩
theorem intW_fig {x : Str} {l : List Nat} (e : l = if (lsS x).head? = some 45 then (lsS x).drop 1 else lsS x) : intW x = if (lsS x).head? = some 45 then (if (figs l && l != [48]) = true then some (-(NumText.digitsVal l : Int)) else none) else if figs l = true then some (NumText.digitsVal l : Int) else none := by
  by_cases c : (lsS x).head? = some 45
  · rw [if_pos c] at e ⊢
    cases el : lsS x with
    | nil => rw [el] at c; cases c
    | cons a r =>
      rw [el] at c
      cases c
      rw [el] at e
      rw [e]
      exact intW_minus el
  · rw [if_neg c] at e ⊢
    rw [e]
    exact intW_plain c
theorem digs_occ {c : Nat} (h : 48 ≤ c ∧ c ≤ 57) : ∃ rest, Builtin.Str.occurrences ("0123456789" : Str) ⟨#[c]⟩ 0 ("0123456789" : Str).length 1 = (c - 48) :: rest := by
  have : c = 48 ∨ c = 49 ∨ c = 50 ∨ c = 51 ∨ c = 52 ∨ c = 53 ∨ c = 54 ∨ c = 55 ∨ c = 56 ∨ c = 57 := by omega
  rcases this with rfl | rfl | rfl | rfl | rfl | rfl | rfl | rfl | rfl | rfl <;> exact ⟨[], by decide +kernel⟩
def bads (l : List Nat) : List Int := (l.filter fun c => !isDg c).map fun _ => 1
theorem bads_all (l : List Nat) : (bads l).isEmpty = l.all isDg := by
  induction l with
  | nil => rfl
  | cons c l ih =>
    unfold bads at ih ⊢
    rw [List.filter_cons, List.all_cons]
    cases isDg c with
    | true => exact ih
    | false => rfl
theorem iD_lay : ∀ bs : List Int, PyData.canLayAll0 (bs.map PyData.int) = true ∧ PyData.depthAll (bs.map PyData.int) = 0
  | [] => ⟨rfl, rfl⟩
  | b :: bs => ⟨by simp only [List.map_cons, PyData.canLayAll0, PyData.canLay0, (iD_lay bs).1, Bool.and_true], by simp only [List.map_cons, PyData.depthAll, PyData.depth, (iD_lay bs).2, Nat.max_self]⟩
theorem iD_shaped (bs : List Int) : SeqAt.shaped (.list (bs.map PyData.int)) = true := by
  unfold SeqAt.shaped
  rw [Bool.and_eq_true, decide_eq_true_eq]
  refine ⟨?_, ?_⟩
  · rw [PyData.canLay0]
    exact (iD_lay bs).1
  · rw [PyData.depth, (iD_lay bs).2]
    decide
theorem and_roadZ {c : Bool} {T R N : Prop} (h1 : c = true → N → T) (h : N) : if c = true then T else (if false = true then R else N) := by
  cases c with
  | true => exact iteT (h1 rfl h)
  | false => exact iteF (iteF h)
def spLInt : Sp := fun vs H Q _ => ∃ x : Str, vs = [.str x] ∧ x.length ≤ 3000 ∧ ∀ H' D, Same H H' → H' D = some (.lst ((intW x).toList.map V.int)) → Q (.ref D) H'
abbrev nsLawInteger : List Str := ["word", "figures", "sign", "number"]
theorem scLawInteger : FnScope nsLawInteger ["word"] (defScope sLawInteger) := ⟨rfl, rfl, rfl, by decide +kernel, rfl, by decide +kernel, by decide +kernel⟩
theorem ok_law_integer {f : Addr} {fd : FuncData} (F : Df K mg "_law_integer" sLawInteger ["word"] f fd)
    (T : Bt mg) : FnOk P w K mg base CX0 1 f fd ["word"] (spLInt) := by
  refine F.F.ok scLawInteger (fun vs H Q E h => ?_) (fun cdv A outer s H vs Q E hr h => ?_)
  · obtain ⟨x, rfl, _⟩ := h
    rfl
  · obtain ⟨x, rfl, hx, k⟩ := h
    refine ⟨_, (pss_cons (ps_set (i := 1) scLawInteger.nd rfl (Or.inl rfl) (pe_ifExp (pt_cmpR op_eq (pe_slice sl_str (pv 0) po_none (po_some pe_int)) pe_str (nomark _)) (pe_slice sl_str (pv 0) (po_some pe_int) po_none) (pv 0)))
      (pss_cons (ps_if (PW.pt (pw_or (pt_cmpR op_eq (pv 1) pe_str (nomark _)) (pw_or (pt_cmpR op_gt (pe_callB call_len_str (by rfl) T.len PySem.boot_len (pa_cons (pv 1) pa_nil)) pe_int (nomark _)) (pw_or1 (pt_cmpR (op_neD hr.units) (pe_lc (own := [("sign", 2)]) (g := gName 2) (tt := _) rfl scLawInteger.nd (pi_str (pv 1)) (blkOk_by (N := nsLawInteger) (sc := defScope sLawInteger) (by decide +kernel)) (fun _ _ _ _ _ => pg_name (i := 2) scLawInteger.nd rfl (Or.inl rfl)) (fun _ _ _ _ _ => pts_one (pt_cmpR op_notIn_sign (pv 2) pe_str (by rfl))) (fun _ _ _ _ _ => pe_int)) (pe_lst pa_nil) (nomark _)))))) (pss_one (ps_ret (pe_lst pa_nil))) pss_nil)
      (pss_cons (ps_if (PW.pt (pw_and (pt_cmpR op_eq (pe_ix ix_str (pv 1) pe_int (fun _ _ => rfl)) pe_str (nomark _)) (pw_and1 (pt_cmpR op_ne (pv 0) pe_str (nomark _))))) (pss_one (ps_ret (pe_lst pa_nil))) pss_nil)
      (pss_cons (ps_set (i := 3) scLawInteger.nd rfl (Or.inl rfl) pe_int)
      (pss_cons (ps_for PassesOwn.never rfl (pi_str (pv 1)) (pg_name (i := 2) scLawInteger.nd rfl (Or.inl rfl)) (pss_one (ps_set (i := 3) scLawInteger.nd rfl (Or.inl rfl) (pe_op op_add (pe_op op_mul (pv 3) pe_int) (pe_bm PySem.F.plainAttrs_str PySem.F.slot_str_index PySem.F.type_str_index mt_sindex pe_str (pa_cons (pv 2) pa_nil))))))
      (pss_one (ps_ret (pe_lst (pa_cons (pe_ifExp (pt_cmpR op_eq (pe_ix ix_str (pv 0) pe_int (fun _ _ => rfl)) pe_str (nomark _)) (pe_op op_sub pe_int (pv 3)) (pv 3)) pa_nil))))))))), ?_⟩
    dsimp only [tSeq, tAsg]
    refine fig_if rfl hx fun fig ef lf => ?_
    have ei := intW_fig ef
    have hl := len_lsS fig
    refine ⟨_, rfl, rfl, _, rfl, ?_⟩
    rw [str_eq, show lsS "" = [] by decide +kernel]
    have bad : figs (lsS fig) = false → intW x = none := fun hf => by
      rw [ei, hf]
      simp
    have out : ∀ H', Same H H' → intW x = none → ∀ D, H' D = none → Q (.ref D) (upd H' D (.lst [])) := fun H' s e D nD => k _ D (s.trans (Same.new nD)) (by rw [e, upd_same]; rfl)
    by_cases c1 : lsS fig = []
    · refine iteTe (decide_eq_true c1) (iteT ⟨(by show 0 ≤ sizeLine; decide), out H (Same.refl H) (bad (by rw [c1]; rfl))⟩)
    refine iteFe (decide_eq_false c1) ⟨_, rfl, fig, rfl, Nat.le_trans lf (by decide), _, _, rfl, rfl, _, rfl, ?_⟩
    by_cases c2 : (lsS fig).length ≤ 31
    case neg =>
      refine iteTe (decide_eq_true (by omega)) (iteT ⟨(by show 0 ≤ sizeLine; decide), out H (Same.refl H) (bad ?_)⟩)
      rw [figs_eq, decide_eq_false c2]
      simp
    refine iteFe (decide_eq_false (by omega)) ?_
    refine ⟨_, rfl, fig, rfl, fun D nD => lc_it (walk_str (z := fig)) (fun i H' => Same H H' ∧ H' D = some (.lst ((bads ((lsS fig).take i)).map V.int))) ⟨Same.new nD, upd_same⟩ (fun _ _ _ _ => trivial) ?_ ?_⟩
    · rintro i v H1 H2 hi ⟨s1, h1⟩ ⟨rfl, c, hc, rfl⟩
      have hc2 : (lsS fig)[i]? = some c := by rw [lsS_get]; exact hc
      refine ⟨rfl, _, rfl, c, "0123456789", rfl, rfl, _, rfl, ?_⟩
      rw [show decide (c ∈ ("0123456789" : Str).cps.toList) = isDg c from dig_mem c]
      have es : bads ((lsS fig).take (i + 1)) = bads ((lsS fig).take i) ++ bads [c] := by
        unfold bads
        rw [take_snoc hc2, List.filter_append, List.map_append]
      cases hd : isDg c with
      | true =>
        refine iteF ⟨s1, ?_⟩
        rw [es, h1]
        unfold bads
        rw [List.filter_cons, hd]
        simp
      | false =>
        have lb : (bads ((lsS fig).take i)).length ≤ 31 := by
          unfold bads
          rw [List.length_map]
          refine Nat.le_trans (List.length_filter_le _ _) ?_
          rw [List.length_take]
          omega
        refine iteT ⟨_, h1, small1000 (by rw [List.length_map]; omega), same_upd nD s1, ?_⟩
        rw [upd_same, es, List.map_append]
        unfold bads
        rw [List.filter_cons, hd]
        rfl
    rintro H1 ⟨s1, h1⟩
    rw [List.take_of_length_le (by rw [lsS_len]; exact Nat.le_refl _)] at h1
    refine ⟨(by show 0 ≤ sizeLine; decide), fun e0 n0 => ?_⟩
    have s01 := s1.trans (Same.new (o := .lst []) n0)
    have h2 := (Same.new (o := .lst []) n0) _ _ h1
    have f2 : (upd H1 e0 (.lst [])) e0 = some (.lst []) := upd_same
    generalize upd H1 e0 (.lst []) = H2 at *
    refine ⟨.list ((bads (lsS fig)).map .int), .list [], .lst (SqL.of h2) (DpAll.ints _), .lst (SqL.of f2) .nil, iD_shaped _, rfl, _, rfl, ?_⟩
    have eqv_ : PyData.eqv (.list ((bads (lsS fig)).map .int)) (.list []) = (lsS fig).all isDg := by
      rw [← bads_all]
      cases bads (lsS fig) <;> rfl
    rw [eqv_]
    cases c3 : (lsS fig).all isDg with
    | false =>
      refine iteT ⟨(by show 0 ≤ sizeLine; decide), out H2 s01 (bad ?_)⟩
      rw [figs_eq, c3]
      simp
    | true => ?_
    refine iteF ?_
    obtain ⟨c0, l0, el0⟩ : ∃ c0 l0, lsS fig = c0 :: l0 := by
      cases e : lsS fig with
      | nil => exact absurd e c1
      | cons a b => exact ⟨a, b, rfl⟩
    have a0 : atI fig.cps.toList 0 = some c0 := by
      show atI (lsS fig) 0 = _
      rw [el0]
      exact atI_nat (j := 0) rfl
    refine ⟨_, rfl, fig, 0, c0, rfl, rfl, Nat.le_trans lf (by decide), a0, rfl, _, rfl, ?_⟩
    rw [str_eq, show lsS "0" = [48] by decide +kernel, show lsS (⟨#[c0]⟩ : Str) = [c0] from rfl]
    dsimp only
    obtain ⟨d0, hd0⟩ : ∃ d0, (lsS x).head? = some d0 := by
      by_cases c : (lsS x).head? = some 45
      · exact ⟨45, c⟩
      · rw [if_neg c] at ef
        rw [← ef, el0]
        exact ⟨c0, rfl⟩
    have ad : atI x.cps.toList 0 = some d0 := by
      show atI (lsS x) 0 = _
      cases e : lsS x with
      | nil => rw [e] at hd0; cases hd0
      | cons a b => rw [e] at hd0; cases hd0; exact atI_nat (j := 0) rfl
    by_cases cz : c0 = 48 ∧ lsS x ≠ [48]
    · refine iteTe (decide_eq_true (by rw [cz.1])) ⟨_, rfl, rfl, _, rfl, iteTe (by rw [str_eq, show lsS "0" = [48] by decide +kernel, decide_eq_false cz.2]; rfl) ⟨(by show 0 ≤ sizeLine; decide), out H2 s01 ?_⟩⟩
      by_cases hn : (lsS x).head? = some 45
      · rw [ei, if_pos hn]
        have : (figs (lsS fig) && lsS fig != [48]) = false := by
          rw [figs_eq, el0, cz.1]
          by_cases l00 : l0 = []
          · rw [l00]
            simp
          · simp [l00]
        rw [this]
        rfl
      · refine bad ?_
        rw [if_neg hn] at ef
        rw [← ef] at cz
        rw [figs_eq]
        have h1 : (lsS fig == [48]) = false := beq_eq_false_iff_ne.mpr cz.2
        have h2 : ((lsS fig).head? != some 48) = false := by rw [el0, cz.1]; rfl
        rw [h1, h2]
        simp
    have good : figs (lsS fig) = true ∧ ((lsS x).head? = some 45 → (lsS fig != [48]) = true) := by
      by_cases h48 : c0 = 48
      · have ex : lsS x = [48] := Classical.not_not.mp fun z => cz ⟨h48, z⟩
        have hn : ¬ (lsS x).head? = some 45 := by rw [ex]; decide
        rw [if_neg hn] at ef
        refine ⟨?_, fun z => absurd z hn⟩
        rw [ef, ex]
        decide +kernel
      · have hh : ((lsS fig).head? != some 48) = true := by
          rw [el0]
          exact bne_iff_ne.mpr fun z => h48 (Option.some.inj z)
        refine ⟨?_, fun _ => bne_iff_ne.mpr fun z => h48 (by rw [el0] at z; exact (List.cons.inj z).1)⟩
        rw [figs_eq, c3, hh, decide_eq_true c2, el0]
        simp
    refine and_roadZ (fun hc n => ⟨_, rfl, rfl, _, rfl, iteFe ?_ n⟩) ?_
    · have h48 : c0 = 48 := by
        have := of_decide_eq_true hc
        exact (List.cons.inj this).1
      have ex : lsS x = [48] := Classical.not_not.mp fun z => cz ⟨h48, z⟩
      rw [str_eq, show lsS "0" = [48] by decide +kernel, decide_eq_true ex]
      rfl
    refine ⟨_, rfl, fig, rfl, for_it (walk_str (z := fig)) (fun i σ H' => ∃ v2, σ = [some (.str x), some (.str fig), v2, some (.int (NumText.digitsVal ((lsS fig).take i) : Int))] ∧ Same H2 H') ⟨none, rfl, Same.refl H2⟩ (fun _ _ _ _ _ => trivial) ?_ ?_⟩
    · rintro i v σ H3 H4 hi ⟨v2, rfl, s3⟩ ⟨rfl, c, hc, rfl⟩
      have hc2 : (lsS fig)[i]? = some c := by rw [lsS_get]; exact hc
      have dg : 48 ≤ c ∧ c ≤ 57 := of_decide_eq_true (List.all_eq_true.mp c3 c (List.mem_of_getElem? hc2))
      obtain ⟨rest, occ⟩ := digs_occ dg
      refine ⟨_, rfl, _, _, rfl, rfl, .inr ⟨by decide, by decide⟩, rfl, _, rfl, "0123456789", ⟨#[c]⟩, c - 48, rest, rfl, rfl, occ, _, _, rfl, rfl, some (.str ⟨#[c]⟩), ?_, s3⟩
      have e : (NumText.digitsVal ((lsS fig).take (i + 1)) : Int) = (NumText.digitsVal ((lsS fig).take i) : Int) * 10 + ((c - 48 : Nat) : Int) := by
        rw [take_snoc hc2, NumText.digitsVal_snoc]
        omega
      rw [e]
      rfl
    rintro σ H3 ⟨v2, rfl, s3⟩
    rw [List.take_of_length_le (by rw [lsS_len]; exact Nat.le_refl _)]
    refine ⟨_, rfl, x, 0, d0, rfl, rfl, Nat.le_trans hx (by decide), ad, rfl, _, rfl, ?_⟩
    rw [str_eq, show lsS "-" = [45] by decide +kernel, show lsS (⟨#[d0]⟩ : Str) = [d0] from rfl]
    by_cases hn : d0 = 45
    · subst hn
      refine iteTe (decide_eq_true rfl) ⟨_, rfl, _, _, rfl, rfl, (by show 1 ≤ sizeLine; decide), fun D5 n5 => k _ D5 ((s01.trans s3).trans (Same.new n5)) ?_⟩
      rw [upd_same, ei, if_pos hd0, good.1, good.2 hd0]
      simp
    · refine iteFe (decide_eq_false fun z => hn (List.cons.inj z).1) ⟨_, rfl, (by show 1 ≤ sizeLine; decide), fun D5 n5 => k _ D5 ((s01.trans s3).trans (Same.new n5)) ?_⟩
      rw [upd_same, ei, if_neg (by rw [hd0]; exact fun z => hn (Option.some.inj z)), good.1]
      rfl
end
end CS
set_option Elab.async false
set_option maxRecDepth 100000
set_option maxHeartbeats 8000000
set_option linter.unusedVariables false
set_option pp.maxSteps 400
/-! enumerate(t), t a tuple -/
namespace PySem
open Sem (wp)
open AutoSeq1 (wpAny_loadPart')
/-- the iterator of the tuple at t, as it starts -/
abbrev tupIt (t : Addr) : Obj := { cls := .type "tuple_iterator", data := .fields #[.ref t, .int 0 0] }
abbrev enumObj (it : Addr) : Obj := { cls := .type "enumerate", data := .fields #[.none, .bool false, .ref it, rawInt 0, .none, .none] }
theorem enumT_new (t : Addr) (its : Array Value) (n : Nat) (dc : Option Addr) (sl : Array (Option Value)) :
    Meets (Builtin.«enumerate.__new__» ⟨[.type "enumerate", .ref t], []⟩) (fun _ R s => s.heap.get? t = some { cls := .type "tuple", dict := dc, data := .seq its n, slots := sl } ∧
      R (.ok (.ret (.ref (s.heap.push (tupIt t)).objs.size))) { s with heap := (s.heap.push (tupIt t)).push (enumObj s.heap.objs.size) }) :=
  .of_wp fun prog w A R s both => by
    obtain ⟨heap, gens, drawn, toks, os⟩ := s
    obtain ⟨at_t, fin⟩ := both
    have sub := sub_enumerate
    have isT : Heap.IsTuple (Shared.heap ⟨heap, gens, drawn, toks, os⟩) t its := ⟨_, at_t, rfl, n, rfl⟩
    wp_walk using wpAny_loadPart' at_t
    refine wpAny_stack_any fun frames => wpAny_pure ?_
    split
    · rename_i cl _ _ _ _ _
      cases (cl == Value.type "enumerate") <;> (wp_walk using wpAny_loadPart' at_t, wpAny_pyIter_tuple isT; exact ⟨_, rfl, fin⟩)
    · wp_walk using wpAny_loadPart' at_t, wpAny_pyIter_tuple isT
      exact ⟨_, rfl, fin⟩
section
variable {prog : Program} {w : World} {A : Around} {E : Value → Shared → Prop} {s : Shared}
theorem call_enumT {t : Addr} {its : Array Value} {Q : Value → Shared → Prop} (isT : s.heap.IsTuple t its)
    (fin : ∀ h', IsEnum h' (s.heap.objs.size + 1) s.heap.objs.size 0 .none → h'.IsTupleIter s.heap.objs.size t 0 → (∀ b o, s.heap.get? b = some o → h'.get? b = some o) → Q (.ref (s.heap.objs.size + 1)) { s with heap := h' }) :
    wpAny (model prog w) A (call (.type "enumerate") [.ref t]) Q E s := by
  obtain ⟨⟨c, dc, dt, sl⟩, at_t, ec, n, ed⟩ := isT
  replace ec : c = .type "tuple" := ec
  replace ed : dt = .seq its n := ed
  subst ec ed
  have one : (s.heap.push (tupIt t)).objs.size = s.heap.objs.size + 1 := Heap.size_push ..
  have two : IsEnum ((s.heap.push (tupIt t)).push (enumObj s.heap.objs.size)) (s.heap.objs.size + 1) s.heap.objs.size 0 .none := by
    rw [← one]
    exact Heap.get?_push_size _ rfl
  refine callType_new F.called_enumerate (by decide) (F.typeCall_enumerate_1 _) (F.newCall_enumerate_1 _) (fun obj => F.args_object_init_2 obj _) F.entry_enumerate_new (enumT_new t its n dc sl) ⟨at_t, ?_⟩
  show _ ∧ _
  rw [one]
  exact ⟨⟨_, two, rfl⟩, fin _ two ⟨_, Heap.get?_push_of_some _ (Heap.get?_push_size _ rfl), rfl, rfl⟩ fun b o e => Heap.get?_push_of_some _ (Heap.get?_push_of_some _ e)⟩
end
end PySem
namespace CS
open PySem PySem.Spec PyProof.Rows L2
def IteT (K : PySem.W.Frag) (a : Addr) : It where
  go i H := ∃ (xs : List V) (x : V), SqT K H a xs ∧ xs[i]? = some x
  yld i H v H' := ∃ T x, v = .ref T ∧ H T = none ∧ H' = upd H T (.tup [.int (i : Nat), x]) ∧ ∀ xs, SqT K H a xs → xs[i]? = some x
  stop i H := ∃ xs : List V, SqT K H a xs ∧ xs.length ≤ i
/-- how the heap stands ahead of turn i -/
def EnAt (a e it : Addr) (i : Nat) (h : Heap) : Prop := (∃ old, IsEnum h e it ((i : Nat) : Int) old) ∧ h.IsTupleIter it a i ∧ e ≠ it
theorem EnAt.lt {a e it : Addr} {i : Nat} {h : Heap} (st : EnAt a e it i h) : e < h.objs.size ∧ it < h.objs.size := by
  obtain ⟨⟨_, he⟩, ⟨_, hi, _⟩, _⟩ := st
  exact ⟨Heap.lt_size he, Heap.lt_size hi⟩
theorem EnAt.keep {a e it : Addr} {i : Nat} {h h' : Heap} (st : EnAt a e it i h) (k : ∀ b ∈ [e, it], ∀ o, h.get? b = some o → h'.get? b = some o) : EnAt a e it i h' := by
  obtain ⟨⟨old, he⟩, hi, ne⟩ := st
  exact ⟨⟨old, k e (by simp) _ he⟩, hi.at fun o q => k it (by simp) o q, ne⟩
theorem enumT_turn {P : Program} {w : World} {K : PySem.W.Frag} {elts : List Expr} {kk : Nat} {tpos : PySem.Pos} (a e it : Addr) : Turn P w K (.Tuple elts kk tpos) (IteT K a) [e, it] e (EnAt a e it) where
  mem := List.mem_cons_self
  obj i h st b hb := by
    obtain ⟨⟨_, he⟩, ⟨o, hi, _, hd⟩, _⟩ := st
    rcases List.mem_cons.mp hb with rfl | hb
    · exact ⟨_, he, fun v q => nomatch q⟩
    · rw [List.mem_singleton.mp hb]
      exact ⟨o, hi, fun v q => by rw [hd] at q; cases q⟩
  keep i h h' st k := st.keep k
  item := by
    intro X e1 e2 e3 calm i pins s σ H E I fok st ⟨xs, x, hx, at_i⟩
    subst e1 e2 e3
    obtain ⟨its, rv, isT, _⟩ := I.tuple hx
    obtain ⟨u, hu, ru⟩ := rv.get at_i
    have lt := st.lt
    obtain ⟨⟨old, he⟩, hi, ne⟩ := st
    obtain ⟨ot, gt, ct, _⟩ := id isT
    have nt : a ≠ it := fun z => by
      obtain ⟨o, g, c, _⟩ := id hi
      rw [← z, gt] at g
      cases g
      rw [ct] at c
      exact absurd (Value.type.inj c) (by decide)
    have net : e ≠ a := fun z => by
      have ge : s.heap.get? e = some _ := he
      rw [z, gt] at ge
      cases ge
      exact absurd (Value.type.inj ct) (by decide)
    have ltn : i < its.toArray.size := by
      rw [List.size_toArray]
      exact (List.getElem?_eq_some_iff.mp hu).1
    refine wpAny_pyNext_enum_itemD (Draws.tuple (A := X.A.in1) (I.ok.hd calm) it a nt its.toArray) he ⟨hi, isT⟩ ltn ne (by simp [ne, net]) fun v h1 tk hv he1 hi1 hT1 sz k1 => ?_
    have ev : v = u := by
      rw [List.getElem?_toArray, hu] at hv
      exact (Option.some.inj hv).symm
    subst ev
    refine ⟨_, rfl, wpAny_letOwnedTupleGo_enum (s := { s with heap := h1, toks := tk + 1 }) he1 fun h2 he2 sb => ?_⟩
    have apart : s.heap.objs.size ≠ e := Nat.ne_of_gt lt.1
    have there : h2.get? s.heap.objs.size = some { cls := .type "tuple", data := .seq #[.int i tk, v] } := (sb.2 _ apart).trans hT1
    have kept : ∀ b ob, b ∉ [e, it] → s.heap.get? b = some ob → h2.get? b = some ob := fun b ob nb q => (sb.2 b fun z => nb (by simp [z])).trans (k1 b ob (fun z => nb (by simp [z])) (fun z => nb (by simp [z])) q)
    have I2 := I.turnedNew (t' := tk + 1) (ch := [e, it]) (T := s.heap.objs.size) (ob := .tup [.int (i : Nat), x]) kept fok (Nat.le_refl _) ⟨by show 2 ≤ sizeLine; decide, [.int i tk, v], .cons ⟨_, rfl⟩ (.cons ru .nil), ⟨_, there, rfl, _, rfl⟩⟩
    refine ⟨.ref s.heap.objs.size, _, I2, rfl, ⟨_, x, rfl, I.hok.fresh (Nat.le_refl _), rfl, fun ys hy => by rw [I.tuple_inj hy hx]; exact at_i⟩, ⟨⟨v, ?_⟩, hi1.1.at fun o q => (sb.2 it (Ne.symm ne)).trans q, ne⟩, fun b hb => ?_⟩
    · rw [show ((i + 1 : Nat) : Int) = (i : Int) + 1 by omega]
      exact he2
    · have lb : b < s.heap.objs.size := by
        rcases List.mem_cons.mp hb with rfl | hb
        · exact lt.1
        · rw [List.mem_singleton.mp hb]; exact lt.2
      rw [upd_ne (Nat.ne_of_lt lb)]
      exact (fok b hb).1
  done := by
    intro X e1 e2 e3 calm i pins s σ H E I fok st ⟨xs, hx, past⟩
    subst e1 e2 e3
    obtain ⟨its, rv, isT, _⟩ := I.tuple hx
    have lt := st.lt
    obtain ⟨⟨old, he⟩, hi, ne⟩ := st
    obtain ⟨ot, gt, ct, _⟩ := id isT
    have nt : a ≠ it := fun z => by
      obtain ⟨o, g, c, _⟩ := id hi
      rw [← z, gt] at g
      cases g
      rw [ct] at c
      exact absurd (Value.type.inj c) (by decide)
    have D := Draws.tuple (prog := X.prog) (w := X.w) (A := X.A.in1) (I.ok.hd calm) it a nt its.toArray
    have D2 : Draws X.prog X.w X.A.in1 it [it, a] i (fun j v => its.toArray[j]? = some v) (fun j h => j = i ∧ h.IsTupleIter it a i ∧ h.IsTuple a its.toArray) :=
      ⟨fun _ h z => D.live i h z.2, fun _ h h' z k => ⟨z.1, D.frame i h h' z.2 k⟩, fun j s Q E lj z hQ => absurd z.1 (Nat.ne_of_lt lj), fun s Q E z hE => wpAny_nextOf_tuple_end (I.ok.hd calm) z.2.1 z.2.2 (by have := rv.length; simp; omega) hE⟩
    obtain ⟨f0, f1, f2, f3, f4, f5⟩ := fok it (by simp)
    exact wpAny_pyNext_enum_endD D2 he ⟨rfl, hi, isT⟩ fun h1 eb => ⟨rfl, I.turned (t' := s.toks) (fun b o nb q => eb b o nb q) f0 f1 f3 f4 f5⟩
  self A i s Q E st h := by
    obtain ⟨⟨_, he⟩, _⟩ := st
    exact wpAny_pyIter_enum he h
def iEnT (K : PySem.W.Frag) (ta : TA) : TI := fun σ H R => ta σ H fun vs H1 => ∃ a xs, vs = [.ref a] ∧ SqT K H1 a xs ∧ R (IteT K a) H1
theorem pi_enumT {X : Cx} {e : Expr} {ta : TA} {p pos tpos : PySem.Pos} {elts : List Expr} {kk : Nat} (gl : Gl X "enumerate") (mn : X.mg "enumerate" = none) (ha : PA X [e] ta) (hs : starEach [e] X.env = [(false, eval e X.env)] := by rfl) : PI X (.Tuple elts kk tpos) (.Call (.Name "enumerate" p) [e] [] pos) (iEnT X.K ta) := by
  refine ⟨fun pins s σ H R I h => Call_ (ld_blt I gl mn boot_enumerate (PyProof.Rows.callWith_type1 (thn (ha.run pos pins s σ H _ I h) fun us s1 ⟨vs, G, I1, rv, a, xs, ev, hx, q⟩ => ?_) hs rfl))⟩
  subst ev
  obtain ⟨u, rfl, ru⟩ := vals1 rv
  obtain rfl : u = Value.ref a := ru
  obtain ⟨its, _, isT, _⟩ := I1.tuple hx
  refine call_enumT (its := its.toArray) isT fun h' he hi k => wpAny_pyIter_enum he ⟨_, [s1.heap.objs.size + 1, s1.heap.objs.size], _, _, G, rfl, I1.kept (t' := s1.toks) k, enumT_turn a _ _, ⟨⟨_, he⟩, hi, Nat.succ_ne_self _⟩, fun b hb => ?_, q⟩
  have young : s1.heap.objs.size ≤ b := by
    rcases List.mem_cons.mp hb with z | z
    · rw [z]
      exact Nat.le_add_right _ _
    · rw [List.mem_singleton.mp z]
      exact Nat.le_refl _
  exact I1.fpOk young (I1.hok.fresh young)
theorem walk_enT {K : PySem.W.Frag} {a : Addr} {xs : List V} : Walk (IteT K a) xs.length (fun H => SqT K H a xs) (YPair (fun i => some (.int (i : Nat))) (fun i => xs[i]?)) :=
  ⟨fun i H lt q => ⟨xs, xs[i], q, List.getElem?_eq_getElem lt⟩, fun H q => ⟨xs, q, Nat.le_refl _⟩, fun i H v H' _ q ⟨T, x, e1, e2, e3, e4⟩ => ⟨T, _, x, e1, e2, e3, rfl, e4 xs q⟩⟩
/-- a dict comprehension over what is walked -/
theorem dc_walk {J : It} {n : Nat} {G : Hp → Prop} {Y : Nat → Hp → V → Hp → Prop} (W : Walk J n G Y) {g : TG} {tt : TT} {tk tv : TE} {vs : List Nat} {σ : L2.St} {H1 : Hp} {D : Addr} {Z : Hp → Prop} (Pv : Nat → Hp → Prop) (first : Pv 0 (upd H1 D (.dK []))) (there : ∀ i H, i ≤ n → Pv i H → G H)
    (step : ∀ i x H H', i < n → Pv i H → Y i H x H' → g x (wipe σ vs) H' fun σ2 H2 => wipe σ2 vs = wipe σ vs ∧ tt σ2 H2 fun b H3 =>
      if b = true then tk σ2 H3 fun y H4 => tv σ2 H4 fun z H5 => ∃ kvs k, y = kV k ∧ H5 D = some (.dK kvs) ∧ kvs.length < sizeLine ∧ Pv (i + 1) (upd H5 D (.dK (putK kvs k z))) else Pv (i + 1) H3) (last : ∀ H, Pv n H → Z H) :
    ∃ W' : Nat → Nat → Hp → Prop, (∃ m, W' 0 m (upd H1 D (.dK []))) ∧ ∀ i m H, W' i m H → (J.stop i H ∧ Z H) ∨ (J.go i H ∧ ∃ N : Hp → Prop, (∀ H', N H' → ∃ m', m' < m ∧ W' (i + 1) m' H') ∧
      ∀ x H', J.yld i H x H' → g x (wipe σ vs) H' fun σ2 H2 => wipe σ2 vs = wipe σ vs ∧ tt σ2 H2 fun b H3 =>
        if b = true then tk σ2 H3 fun y H4 => tv σ2 H4 fun z H5 => ∃ kvs k, y = kV k ∧ H5 D = some (.dK kvs) ∧ kvs.length < sizeLine ∧ N (upd H5 D (.dK (putK kvs k z))) else N H3) := by
  refine ⟨fun i m H => i + m = n ∧ Pv i H, ⟨n, Nat.zero_add n, first⟩, fun i m H ⟨em, p⟩ => ?_⟩
  have gH := there i H (by omega) p
  cases m with
  | zero =>
    have ei : i = n := em
    exact .inl ⟨ei ▸ W.stops H gH, last H (ei ▸ p)⟩
  | succ m =>
    have lt : i < n := by omega
    exact .inr ⟨W.goes i H lt gH, Pv (i + 1), fun H' q => ⟨m, Nat.lt_succ_self m, by omega, q⟩, fun x H' y => step i x H H' lt p (W.yields i H x H' lt gH y)⟩
end CS
set_option Elab.async false
set_option maxRecDepth 100000
set_option maxHeartbeats 8000000
set_option linter.unusedVariables false
set_option pp.maxSteps 5000
/-! the law's own places of a paper's parts -/
namespace CS
open PySem L2 RZ LamX
/-- where the rows stand -/
def tpl : Nat → List PyData → List Nat
  | _, [] => []
  | a, d :: ds => if isTp d then a :: tpl (a + 1) ds else tpl (a + 1) ds
theorem tpl_snoc : ∀ {l : List PyData} {a : Nat} {d : PyData}, tpl a (l ++ [d]) = tpl a l ++ if isTp d then [a + l.length] else []
  | [], a, d => by
    show (if isTp d then a :: [] else []) = [] ++ _
    rw [List.nil_append]
    rfl
  | e :: l, a, d => by
    have ih := tpl_snoc (l := l) (a := a + 1) (d := d)
    show (if isTp e then a :: tpl (a + 1) (l ++ [d]) else tpl (a + 1) (l ++ [d])) = (if isTp e then a :: tpl (a + 1) l else tpl (a + 1) l) ++ _
    rw [ih, List.length_cons, show a + (l.length + 1) = a + 1 + l.length by omega]
    cases isTp e <;> rfl
theorem tpl_fill : ∀ {s : List Nat} {a : Nat} {ns : List Int} {ks : List PyData}, ns.length = (wpl a s).length → ks.length = (kpl a s).length → (∀ k ∈ ks, isTp k = true) → tpl (a + 1) (fill s (ns.map PyData.int) ks) = kpl a s
  | [], a, ns, ks, h1, h2, _ => rfl
  | c :: s, a, ns, ks, h1, h2, h3 => by
    unfold wpl at h1
    unfold kpl at h2 ⊢
    by_cases e : c = 83
    · rw [if_pos e] at h1 h2
      rw [if_pos e]
      cases ks with
      | nil => cases h2
      | cons k ks =>
        rw [fill_ck e]
        have hk := h3 k List.mem_cons_self
        show (if isTp k then (a + 1) :: _ else _) = _
        rw [if_pos hk, tpl_fill h1 (Nat.succ.inj h2) fun q hq => h3 q (List.mem_cons_of_mem _ hq)]
    · rw [if_neg e] at h1 h2
      rw [if_neg e]
      cases ns with
      | nil => cases h1
      | cons n ns =>
        rw [List.map_cons, fill_cx e]
        exact tpl_fill (Nat.succ.inj h1) h2 h3
theorem tpl_len : ∀ (l : List PyData) (a : Nat), (tpl a l).length ≤ l.length
  | [], _ => Nat.le_refl _
  | d :: l, a => by
    have := tpl_len l (a + 1)
    unfold tpl
    split <;> simp only [List.length_cons] <;> omega
section
variable {P : Program} {w : World} {K : PySem.W.Frag} {mg : Str → Option Value} {base : Heap} {L : Shp}
def spLPlaces (K : PySem.W.Frag) (L : Shp) : Sp := fun vs H Q _ => ∃ v, ∃ t : Pt, vs = [v] ∧ Dp K H v (t.toD L) ∧ LOk L ∧ t.Wf (kdS L) ∧ ∀ H' D, Same H H' → H' D = some (.lst ((kpl 0 (shL L t.w)).map fun k : Nat => V.int (k : Int))) → Q (.ref D) H'
abbrev nsLawPlaces : List Str := ["thing", "at", "one"]
theorem scLawPlaces : FnScope nsLawPlaces ["thing"] (defScope sLawPlaces) := ⟨rfl, rfl, rfl, by decide +kernel, rfl, by decide +kernel, by decide +kernel⟩
theorem ok_law_places {f : Addr} {fd : FuncData} (F : Df K mg "_law_places" sLawPlaces ["thing"] f fd)
    (T : Bt mg) (menumerate : mg "enumerate" = none) : FnOk P w K mg base CX0 1 f fd ["thing"] (spLPlaces K L) := by
  refine F.F.ok scLawPlaces (fun vs H Q E h => ?_) (fun cdv A outer s H vs Q E hr h => ?_)
  · obtain ⟨v, t, rfl, _⟩ := h
    rfl
  · obtain ⟨v, t, rfl, hv, ok, wf, k⟩ := h
    refine ⟨_, (pss_one (ps_ret (pe_lc (own := [("at", 1), ("one", 2)]) (g := gTup K 2 (gCons (gName 1) (gCons (gName 2) gNil))) (tt := _) rfl scLawPlaces.nd (pi_enumT (by rfl) menumerate (pa_cons (pv 0) pa_nil)) (blkOk_by (N := nsLawPlaces) (sc := defScope sLawPlaces) (by decide +kernel)) (fun _ _ _ _ _ => pg_tup rfl (pgs_cons (pg_name (i := 1) scLawPlaces.nd rfl (Or.inl rfl)) (pgs_cons (pg_name (i := 2) scLawPlaces.nd rfl (Or.inl rfl)) pgs_nil))) (fun _ _ _ _ _ => pts_one (pt_val (pe_callB (id := "isinstance") (r := rIsi K) call_isi (by rfl) T.isinstance (by decide +kernel) (pa_cons (pv 2) (pa_cons (pe_bltn (v := .ty "tuple") (by rfl) T.tuple (by decide +kernel) rfl) pa_nil))))) (fun _ _ _ _ _ => (pv 1))))), ?_⟩
    obtain ⟨sh, hsh, esh, ln, lk, kw⟩ := Pt.wf_at ok wf
    rw [← esh] at ln lk
    obtain ⟨a, xs, rfl, hs, hx⟩ := pt_at hv
    have tf : tpl 0 (.str t.w :: t.rest L) = kpl 0 (shL L t.w) := tpl_fill (a := 0) ln (by rw [List.length_map]; exact lk) fun q hq => by
      obtain ⟨z, _, rfl⟩ := List.mem_map.mp hq
      exact Pt.toD_tp L z
    have few : xs.length ≤ 9 := by
      have := hx.len
      rw [show (t.rest L).length = (shL L t.w).length from (fill_at (a := 0) (by rw [List.length_map]; exact ln) (by rw [List.length_map]; exact lk)).1, esh, lsS_len] at this
      rw [this]
      exact (ok _ _ hsh).1
    have lr := hx.len
    refine ⟨_, rfl, a, _, rfl, hs, fun D nD => lc_it (walk_enT (K := K) (a := a) (xs := .str t.w :: xs)) (fun i H' => H' D = some (.lst ((tpl 0 ((.str t.w :: t.rest L).take i)).map fun k : Nat => V.int (k : Int))) ∧ Same H H') ⟨upd_same, Same.new nD⟩ (fun i H' _ ⟨_, s⟩ => s.tup hs) ?_ ?_⟩
    · rintro i v H2 H3 hi ⟨h2, s2⟩ ⟨t', x, y, rfl, ht, rfl, hx1, hy⟩
      have k2 := Same.new (o := .tup [V.int (i : Nat), y]) ht
      have i9 : i < xs.length + 1 := hi
      obtain rfl := Option.some.inj hx1
      refine ⟨t', _, rfl, SqT.of upd_same, rfl, _, _, rfl, _, _, rfl, rfl, rfl, ?_⟩
      obtain ⟨d, hd, dv⟩ := DpAll.get (.cons (.str t.w) (DpAll.same (s2.trans k2) hx)) hy
      have sn : tpl 0 ((.str t.w :: t.rest L).take (i + 1)) = tpl 0 ((.str t.w :: t.rest L).take i) ++ if isTp d then [i] else [] := by
        rw [take_snoc hd, tpl_snoc, List.length_take, Nat.zero_add, Nat.min_eq_left (by rw [List.length_cons, ← lr]; omega)]
      have lt : (tpl 0 ((.str t.w :: t.rest L).take i)).length ≤ 100 := by
        refine Nat.le_trans (tpl_len _ _) ?_
        rw [List.length_take]
        omega
      have dd : d = .str t.w ∨ (∃ n, d = .int n) ∨ ∃ kk : Pt, d = kk.toD L := by
        rcases List.mem_cons.mp (List.mem_of_getElem? hd) with rfl | m
        · exact .inl rfl
        · rcases Pt.rest_mem m with ⟨n, rfl⟩ | ⟨kk, _, rfl⟩
          · exact .inr (.inl ⟨n, rfl⟩)
          · exact .inr (.inr ⟨kk, rfl⟩)
      rcases dd with rfl | ⟨n, rfl⟩ | ⟨kk, rfl⟩
      · cases dv
        refine ⟨_, rfl, _, .ty "tuple", .type "str", .type "tuple", false, rfl, .ty _, .base (.str _), kit_ty (by decide +kernel), false, rfl, ?_⟩
        refine iteF ⟨?_, s2.trans k2⟩
        rw [sn, if_neg (by intro z; cases z), List.append_nil]
        exact k2 _ _ h2
      · cases dv
        refine ⟨_, rfl, _, .ty "tuple", .type "int", .type "tuple", false, rfl, .ty _, .base (.int _), kit_ty (by decide +kernel), false, rfl, ?_⟩
        refine iteF ⟨?_, s2.trans k2⟩
        rw [sn, if_neg (by intro z; cases z), List.append_nil]
        exact k2 _ _ h2
      · obtain ⟨b2, xs2, rfl, hs2, _⟩ := pt_at dv
        refine ⟨_, rfl, _, .ty "tuple", .type "tuple", .type "tuple", true, rfl, .ty _, tyx_tup hs2, kit_ty (by decide +kernel), true, rfl, ?_⟩
        refine iteT ⟨_, rfl, _, k2 _ _ h2, small1000 (by rw [List.length_map]; omega), ?_, same_upd nD (s2.trans k2)⟩
        rw [upd_same, sn, if_pos (Pt.toD_tp L kk), List.map_append]
        rfl
    · rintro H2 ⟨h2, s2⟩
      rw [List.take_of_length_le (by rw [List.length_cons, List.length_cons, lr]; exact Nat.le_refl _), tf] at h2
      exact k _ D s2 h2
end
end CS
set_option Elab.async false
set_option maxRecDepth 100000
set_option maxHeartbeats 8000000
set_option linter.unusedVariables false
set_option pp.maxSteps 5000
/-! the law's bounds -/
namespace CS
open PySem L2 RZ LamX
def bndL (w : Str) : List (Int × Int) := if w ∈ (["at", "lowest", "highest"] : List Str) then [(0, 3)] else if w ∈ (["above", "below", "if"] : List Str) then [(0, 3), (-1000, 1000)] else if w ∈ (["cash", "times"] : List Str) then [(-1000, 1000)] else []
theorem inV_str {x : Str} : ∀ {ws : List Str}, inV (.str x) (ws.map V.str) = decide (x ∈ ws)
  | [] => by
    show false = _
    rw [decide_eq_false (by simp)]
  | a :: ws => by
    have ih := inV_str (x := x) (ws := ws)
    unfold inV at ih ⊢
    rw [List.map_cons, List.any_cons, ih]
    show (decide (a = x) || decide (x ∈ ws)) = decide (x ∈ a :: ws)
    by_cases e : a = x
    · rw [decide_eq_true e, Bool.true_or, decide_eq_true (by rw [e]; exact List.mem_cons_self)]
    · rw [decide_eq_false e, Bool.false_or, decide_eq_decide, List.mem_cons]
      exact ⟨.inr, fun h => h.resolve_left fun z => e z.symm⟩
inductive PrAt (K : PySem.W.Frag) (H : Hp) : List V → List (Int × Int) → Prop where
  | nil : PrAt K H [] []
  | cons {a b : Int} {r : Addr} {vs : List V} {l : List (Int × Int)} (h : SqT K H r [.int a, .int b]) (t : PrAt K H vs l) : PrAt K H (.ref r :: vs) ((a, b) :: l)
section
variable {P : Program} {w : World} {K : PySem.W.Frag} {mg : Str → Option Value} {base : Heap} {L : Shp}
abbrev kvSD : List (Key × V) := [(Sum.inr "spread", .int 3), (Sum.inr "drawn", .int 2)]
def spBnds (K : PySem.W.Frag) : Sp := fun vs H Q _ => ∃ x : Str, vs = [.str x] ∧ x ≠ "point" ∧ x ≠ "scaled" ∧ x ≠ "moved" ∧ x ≠ "spread" ∧ x ≠ "drawn" ∧ ∀ H' D us, Same H H' → H' D = some (.lst us) → PrAt K H' us (bndL x) → Q (.ref D) H'
abbrev nsLawBoundsOf : List Str := ["word"]
theorem scLawBoundsOf : FnScope nsLawBoundsOf ["word"] (defScope sLawBoundsOf) := ⟨rfl, rfl, rfl, by decide +kernel, rfl, by decide +kernel, by decide +kernel⟩
theorem ok_law_bounds_of {f : Addr} {fd : FuncData} (F : Df K mg "_law_bounds_of" sLawBoundsOf ["word"] f fd)
    (T : Bt mg) : FnOk P w K mg base CX0 1 f fd ["word"] (spBnds K) := by
  refine F.F.ok scLawBoundsOf (fun vs H Q E h => ?_) (fun cdv A outer s H vs Q E hr h => ?_)
  · obtain ⟨x, rfl, _⟩ := h
    rfl
  · obtain ⟨x, rfl, n1, n2, n3, n4, n5_, k⟩ := h
    have hu := hu_of hr
    refine ⟨_, (pss_cons (ps_if (pt_cmpR op_in_seq (pv 0) (pe_tup (pa_cons pe_str (pa_cons pe_str (pa_cons pe_str pa_nil)))) (by rfl)) (pss_one (ps_ret (pe_lst (pa_cons (pe_tup (pa_cons pe_int (pa_cons pe_int pa_nil))) pa_nil)))) pss_nil)
      (pss_cons (ps_if (pt_cmpR op_in_seq (pv 0) (pe_tup (pa_cons pe_str (pa_cons pe_str (pa_cons pe_str pa_nil)))) (by rfl)) (pss_one (ps_ret (pe_lst (pa_cons (pe_tup (pa_cons pe_int (pa_cons pe_int pa_nil))) (pa_cons (pe_tup (pa_cons (pe_un un_neg pe_int) (pa_cons pe_int pa_nil))) pa_nil))))) pss_nil)
      (pss_cons (ps_if (pt_cmpR op_in_seq (pv 0) (pe_tup (pa_cons pe_str (pa_cons pe_str pa_nil))) (by rfl)) (pss_one (ps_ret (pe_lst (pa_cons (pe_tup (pa_cons (pe_un un_neg pe_int) (pa_cons pe_int pa_nil))) pa_nil)))) pss_nil)
      (pss_cons (ps_if (pt_cmpR op_in_seq (pv 0) (pe_tup (pa_cons pe_str (pa_cons pe_str pa_nil))) (by rfl)) (pss_one ps_never) pss_nil)
      (pss_one (ps_ret (pe_ifExp (pt_cmpR op_eq (pv 0) pe_str (nomark _)) (pe_lst (pa_cons (pe_tup (pa_cons (pe_un un_neg pe_int) (pa_cons pe_int pa_nil))) pa_nil)) (pe_op op_rep (pe_lst (pa_cons (pe_tup (pa_cons (pe_un un_neg pe_int) (pa_cons pe_int pa_nil))) pa_nil)) (pe_callTy call_int1 (by rfl) T.int (by decide +kernel) (pa_cons (pe_dget2 hu (pe_disp (pps_cons pe_str pe_int (pps_cons pe_str pe_int pps_nil)) (by rfl) (by rfl) (by decide) (by decide)) (pv 0) pe_int ⟨rfl, rfl, rfl, rfl⟩) pa_nil)))))))))), ?_⟩
    refine ⟨_, rfl, (by show 3 ≤ sizeLine; decide), fun e1 n1_ => ?_⟩
    have s1 := Same.new (o := .tup [V.str "at", V.str "lowest", V.str "highest"]) n1_
    have f1 : (upd H e1 (.tup [V.str "at", V.str "lowest", V.str "highest"])) e1 = some (.tup [V.str "at", V.str "lowest", V.str "highest"]) := upd_same
    generalize upd H e1 (.tup [V.str "at", V.str "lowest", V.str "highest"]) = H1 at *
    refine ⟨e1, _, rfl, .inr (SqT.of f1), rfl, rfl, _, rfl, ?_⟩
    rw [if_neg (show ¬ false = true by decide), show inV (V.str x) [V.str "at", V.str "lowest", V.str "highest"] = decide (x ∈ (["at", "lowest", "highest"] : List Str)) from inV_str (ws := ["at", "lowest", "highest"])]
    by_cases c1 : x ∈ (["at", "lowest", "highest"] : List Str)
    · refine iteTe (decide_eq_true c1) ⟨(by show 2 ≤ sizeLine; decide), fun r1 m1 => ⟨(by show 1 ≤ sizeLine; decide), fun D nD => k _ D [.ref r1] ((s1.trans (Same.new m1)).trans (Same.new nD)) upd_same ?_⟩⟩
      unfold bndL
      rw [if_pos c1]
      exact .cons ((Same.new nD).tup (SqT.of upd_same)) .nil
    refine iteFe (decide_eq_false c1) ?_
    refine ⟨_, rfl, (by show 3 ≤ sizeLine; decide), fun e2 n2_ => ?_⟩
    have s2 := (Same.new (o := .tup [V.str "above", V.str "below", V.str "if"]) n2_)
    have f2 : (upd H1 e2 (.tup [V.str "above", V.str "below", V.str "if"])) e2 = some (.tup [V.str "above", V.str "below", V.str "if"]) := upd_same
    generalize upd H1 e2 (.tup [V.str "above", V.str "below", V.str "if"]) = H2 at *
    refine ⟨e2, _, rfl, .inr (SqT.of f2), rfl, rfl, _, rfl, ?_⟩
    rw [if_neg (show ¬ false = true by decide), show inV (V.str x) [V.str "above", V.str "below", V.str "if"] = decide (x ∈ (["above", "below", "if"] : List Str)) from inV_str (ws := ["above", "below", "if"])]
    by_cases c2 : x ∈ (["above", "below", "if"] : List Str)
    · refine iteTe (decide_eq_true c2) ⟨(by show 2 ≤ sizeLine; decide), fun r1 m1 => ⟨_, rfl, (by show 2 ≤ sizeLine; decide), fun r2 m2 => ⟨(by show 2 ≤ sizeLine; decide), fun D nD => k _ D [.ref r1, .ref r2] ((((s1.trans s2).trans (Same.new m1)).trans (Same.new m2)).trans (Same.new nD)) upd_same ?_⟩⟩⟩
      unfold bndL
      rw [if_neg c1, if_pos c2]
      exact .cons ((Same.new nD).tup ((Same.new m2).tup (SqT.of upd_same))) (.cons ((Same.new nD).tup (SqT.of upd_same)) .nil)
    refine iteFe (decide_eq_false c2) ?_
    refine ⟨_, rfl, (by show 2 ≤ sizeLine; decide), fun e3 n3_ => ?_⟩
    have s3 := (Same.new (o := .tup [V.str "cash", V.str "times"]) n3_)
    have f3 : (upd H2 e3 (.tup [V.str "cash", V.str "times"])) e3 = some (.tup [V.str "cash", V.str "times"]) := upd_same
    generalize upd H2 e3 (.tup [V.str "cash", V.str "times"]) = H3 at *
    refine ⟨e3, _, rfl, .inr (SqT.of f3), rfl, rfl, _, rfl, ?_⟩
    rw [if_neg (show ¬ false = true by decide), show inV (V.str x) [V.str "cash", V.str "times"] = decide (x ∈ (["cash", "times"] : List Str)) from inV_str (ws := ["cash", "times"])]
    by_cases c3 : x ∈ (["cash", "times"] : List Str)
    · refine iteTe (decide_eq_true c3) ⟨_, rfl, (by show 2 ≤ sizeLine; decide), fun r1 m1 => ⟨(by show 1 ≤ sizeLine; decide), fun D nD => k _ D [.ref r1] ((((s1.trans s2).trans s3).trans (Same.new m1)).trans (Same.new nD)) upd_same ?_⟩⟩
      unfold bndL
      rw [if_neg c1, if_neg c2, if_pos c3]
      exact .cons ((Same.new nD).tup (SqT.of upd_same)) .nil
    refine iteFe (decide_eq_false c3) ?_
    refine ⟨_, rfl, (by show 2 ≤ sizeLine; decide), fun e4 n4_ => ?_⟩
    have s4 := (Same.new (o := .tup [V.str "point", V.str "scaled"]) n4_)
    have f4 : (upd H3 e4 (.tup [V.str "point", V.str "scaled"])) e4 = some (.tup [V.str "point", V.str "scaled"]) := upd_same
    generalize upd H3 e4 (.tup [V.str "point", V.str "scaled"]) = H4 at *
    refine ⟨e4, _, rfl, .inr (SqT.of f4), rfl, rfl, _, rfl, ?_⟩
    rw [if_neg (show ¬ false = true by decide), show inV (V.str x) [V.str "point", V.str "scaled"] = decide (x ∈ (["point", "scaled"] : List Str)) from inV_str (ws := ["point", "scaled"])]
    have c4 : x ∉ (["point", "scaled"] : List Str) := fun z => by
      rcases List.mem_cons.mp z with z | z
      · exact n1 z
      · exact n2 (List.mem_singleton.mp z)
    refine iteFe (decide_eq_false c4) ?_
    refine ⟨_, rfl, rfl, _, rfl, iteFe (decide_eq_false fun z => n3 (V.str.inj z)) ?_⟩
    refine ⟨_, rfl, (by show 2 ≤ sizeLine; decide), fun r1 m1 => ⟨(by show 1 ≤ sizeLine; decide), fun l2 m2 => ?_⟩⟩
    have s6 := ((((s1.trans s2).trans s3).trans s4).trans (Same.new (o := .tup [V.int (-100), V.int 100]) m1)).trans (Same.new (o := .lst [V.ref r1]) m2)
    have f6 : (upd (upd H4 r1 (.tup [V.int (-100), V.int 100])) l2 (.lst [V.ref r1])) l2 = some (.lst [V.ref r1]) := upd_same
    generalize upd (upd H4 r1 (.tup [V.int (-100), V.int 100])) l2 (.lst [V.ref r1]) = H6 at *
    intro p np
    have f7 := (Same.new (o := .dK []) np) _ _ f6
    have nlp : l2 ≠ p := fun z => by rw [z, np] at f6; cases f6
    refine ⟨upd_same, [(Sum.inr "spread", .int 3), (Sum.inr "drawn", .int 2)], rfl, (by decide), p, rfl, .inl ⟨_, .inl upd_same⟩, _, rfl, none, ?_, .inl ⟨0, rfl, l2, 0, [V.ref r1], rfl, rfl, by rw [upd_ne nlp]; exact f7, by decide, by decide, (by show 0 ≤ sizeLine; decide), fun p5 m5 => k _ p5 [] (fun b o e => ?_) upd_same ?_⟩⟩
    · have hm : mergeK [] kvSD = kvSD := mergeK_app (kvs := []) (more := kvSD) (by decide +kernel)
      have d1 : decide ((Sum.inr "spread" : Key) = Sum.inr x) = false := decide_eq_false fun z => n4 (Sum.inr.inj z).symm
      have d2 : decide ((Sum.inr "drawn" : Key) = Sum.inr x) = false := decide_eq_false fun z => n5_ (Sum.inr.inj z).symm
      have hv : valV kvSD (Sum.inr x) = none := by
        unfold valV kvSD
        rw [List.find?_cons, d1]
        dsimp only
        rw [List.find?_cons, d2]
        rfl
      have := DGet.k (k := Sum.inr x) (H := upd (upd H6 p (.dK [])) p (.dK (mergeK [] kvSD))) (a := p) upd_same
      rw [hm, hv] at this
      rw [show mergeK [] [((Sum.inr "spread" : Key), V.int 3), (Sum.inr "drawn", V.int 2)] = kvSD from hm]
      exact this
    · have np5 : p5 ≠ p := fun z => by rw [z, upd_same] at m5; cases m5
      have n5b : H6 p5 = none := by
        rw [upd_ne np5, upd_ne np5] at m5
        exact m5
      rw [upd_ne (ne_of_none (s6 _ _ e) n5b), upd_ne (ne_of_none (s6 _ _ e) np), upd_ne (ne_of_none (s6 _ _ e) np)]
      exact s6 _ _ e
    · unfold bndL
      rw [if_neg c1, if_neg c2, if_neg c3]
      exact .nil
end
end CS
set_option Elab.async false
set_option maxRecDepth 100000
set_option maxHeartbeats 8000000
set_option linter.unusedVariables false
set_option pp.maxSteps 5000
/-! the law's good papers -/
namespace CS
open PySem L2 RZ LamX
/-- the shapes' bounds are the law's -/
def BOk (L : Shp) : Prop := ∀ w s, shpOf L w = some s → ((lsS s).filter fun c => decide (c ≠ 83)).map bndG = (bndL w).map some ∧ w ≠ "point" ∧ w ≠ "scaled" ∧ w ≠ "moved" ∧ w ≠ "spread" ∧ w ≠ "drawn"
def bokB (L : Shp) : Bool := L.all fun p => decide (((lsS p.2).filter fun c => decide (c ≠ 83)).map bndG = (bndL p.1).map some) && decide (p.1 ≠ "point") && decide (p.1 ≠ "scaled") && decide (p.1 ≠ "moved") && decide (p.1 ≠ "spread") && decide (p.1 ≠ "drawn")
theorem bok_of {L : Shp} (h : bokB L = true) : BOk L := fun w s e => by
  have := List.all_eq_true.mp h _ (shpOf_mem e)
  simp only [Bool.and_eq_true, decide_eq_true_eq] at this
  obtain ⟨⟨⟨⟨⟨a, b⟩, c⟩, d⟩, e⟩, f⟩ := this
  exact ⟨a, b, c, d, e, f⟩
def inB (b : Int × Int) (n : Int) : Bool := decide (b.1 ≤ n) && decide (n ≤ b.2)
def goodL : List Int → List (Int × Int) → Bool
  | n :: ns, b :: bs => inB b n && goodL ns bs
  | _, _ => true
theorem good_bool : ∀ {s : List Nat} {ns : List Int} {bs : List (Int × Int)}, (s.filter fun c => decide (c ≠ 83)).map bndG = bs.map some → (boolF s ns).all id = goodL ns bs
  | [], ns, bs, h => by
    have : bs = [] := by
      cases bs with
      | nil => rfl
      | cons a r => cases h
    rw [this]
    cases ns <;> rfl
  | c :: s, ns, bs, h => by
    unfold boolF
    by_cases e : c = 83
    · rw [if_pos e, List.all_cons]
      rw [List.filter_cons, if_neg (by simp [e])] at h
      rw [good_bool h]
      rfl
    · rw [if_neg e]
      rw [List.filter_cons, if_pos (by simp [e])] at h
      cases bs with
      | nil => cases h
      | cons b bs =>
        rw [List.map_cons, List.map_cons] at h
        obtain ⟨h1, h2⟩ := List.cons.inj h
        cases ns with
        | nil => rfl
        | cons n ns =>
          rw [List.all_cons, good_bool h2]
          show (mayB c n && goodL ns bs) = (inB b n && goodL ns bs)
          have : mayB c n = inB b n := by
            unfold mayB inB
            rw [h1]
            show decide (b.1 ≤ n ∧ n ≤ b.2) = _
            rw [Bool.decide_and]
          rw [this]
theorem good_eq {L : Shp} (bk : BOk L) {t : Pt} {s : Str} (h : shpOf L t.w = some s) (esh : shL L t.w = lsS s) : t.good L = goodL t.ns (bndL t.w) := by
  obtain ⟨h1, _, _, _, h5, h6⟩ := bk _ _ h
  unfold Pt.good
  rw [esh, good_bool h1]
  unfold ordB
  rw [if_neg h5, if_neg h6, Bool.and_true]
section
variable {P : Program} {w : World} {K : PySem.W.Frag} {mg : Str → Option Value} {base : Heap} {L : Shp}
theorem PrAt.len {K : PySem.W.Frag} {H : Hp} : ∀ {vs : List V} {l : List (Int × Int)}, PrAt K H vs l → vs.length = l.length
  | _, _, .nil => rfl
  | _, _, .cons _ t => by rw [List.length_cons, List.length_cons, t.len]
theorem PrAt.same {K : PySem.W.Frag} {H H' : Hp} (s : Same H H') : ∀ {vs : List V} {l : List (Int × Int)}, PrAt K H vs l → PrAt K H' vs l
  | _, _, .nil => .nil
  | _, _, .cons h t => .cons (s.tup h) (t.same s)
theorem PrAt.get {K : PySem.W.Frag} {H : Hp} : ∀ {vs : List V} {l : List (Int × Int)} {i : Nat} {v : V}, PrAt K H vs l → vs[i]? = some v → ∃ r a b, v = .ref r ∧ l[i]? = some (a, b) ∧ SqT K H r [.int a, .int b]
  | _, _, 0, _, .cons h _, e => by
    cases e
    exact ⟨_, _, _, rfl, rfl, h⟩
  | _, _, i + 1, _, .cons _ t, e => t.get (i := i) e
theorem goodL_drop {ns : List Int} {bs : List (Int × Int)} {i : Nat} {n : Int} {b : Int × Int} (h1 : ns[i]? = some n) (h2 : bs[i]? = some b) : goodL (ns.drop i) (bs.drop i) = (inB b n && goodL (ns.drop (i + 1)) (bs.drop (i + 1))) := by
  obtain ⟨l1, e1⟩ := List.getElem?_eq_some_iff.mp h1
  obtain ⟨l2, e2⟩ := List.getElem?_eq_some_iff.mp h2
  rw [List.drop_eq_getElem_cons l1, List.drop_eq_getElem_cons l2, e1, e2]
  rfl
theorem goodL_end {ns : List Int} {bs : List (Int × Int)} {i : Nat} (h : i = min ns.length bs.length) : goodL (ns.drop i) (bs.drop i) = true := by
  by_cases c : ns.length ≤ i
  · rw [List.drop_of_length_le c]
    rfl
  · rw [List.drop_of_length_le (l := bs) (by omega)]
    cases ns.drop i <;> rfl
def spGoodL (K : PySem.W.Frag) (L : Shp) : Sp := fun vs H Q _ => ∃ v, ∃ t : Pt, vs = [v] ∧ Dp K H v (t.toD L) ∧ LOk L ∧ BOk L ∧ t.Wf (kdS L) ∧ ∀ H', Same H H' → Q (.bl (t.good L)) H'
abbrev nsLawAreGood : List Str := ["thing", "some", "one", "low", "high"]
theorem scLawAreGood : FnScope nsLawAreGood ["thing"] (defScope sLawAreGood) := ⟨rfl, rfl, rfl, by decide +kernel, rfl, by decide +kernel, by decide +kernel⟩
theorem ok_law_are_good {f : Addr} {fd : FuncData} (F : Df K mg "_law_are_good" sLawAreGood ["thing"] f fd)
    {f1 : Addr} {fd1 : FuncData} (D1 : Df K mg "_law_bounds_of" sLawBoundsOf ["word"] f1 fd1) (G1 : FnOk P w K mg base CX0 1 f1 fd1 ["word"] (spBnds K))
    {f2 : Addr} {fd2 : FuncData} (D2 : Df K mg "_law_integers" sLawIntegers ["thing"] f2 fd2) (G2 : FnOk P w K mg base CX0 1 f2 fd2 ["thing"] (spInts K L))
    (T : Bt mg) : FnOk P w K mg base CX0 2 f fd ["thing"] (spGoodL K L) := by
  refine F.F.ok scLawAreGood (fun vs H Q E h => ?_) (fun cdv A outer s H vs Q E hr h => ?_)
  · obtain ⟨v, t, rfl, _⟩ := h
    rfl
  · obtain ⟨v, t, rfl, hv, ok, bk, wf, k⟩ := h
    refine ⟨_, (pss_cons (ps_set (i := 1) scLawAreGood.nd rfl (Or.inl rfl) (pe_call G2 (hr.mono (by decide)) (by rfl) D2.g D2.F.kp D2.b .nil pass0 (pa_cons (pv 0) pa_nil)))
      (pss_cons (ps_for PassesOwn.never rfl (pi_zip (by rfl) T.zip (pa_cons (pv 1) (pa_cons (pe_call G1 (hr.mono (by decide)) (by rfl) D1.g D1.F.kp D1.b .nil pass0 (pa_cons (pe_ix (r := rIxT K) ix_tup (pv 0) pe_int (fun _ _ => rfl)) pa_nil)) pa_nil))) (pg_tup rfl (pgs_cons (pg_name (i := 2) scLawAreGood.nd rfl (Or.inl rfl)) (pgs_cons (pg_tup rfl (pgs_cons (pg_name (i := 3) scLawAreGood.nd rfl (Or.inl rfl)) (pgs_cons (pg_name (i := 4) scLawAreGood.nd rfl (Or.inl rfl)) pgs_nil))) pgs_nil))) (pss_one (ps_if (pt_not (pt_chain op_le op_le (pv 3) (pv 2) (pv 4))) (pss_one (ps_ret pe_bl)) pss_nil)))
      (pss_cons (ps_if (pt_cmpR op_eq (pe_ix (r := rIxT K) ix_tup (pv 0) pe_int (fun _ _ => rfl)) pe_str (nomark _)) (pss_one (ps_ret (pe_chain op_lt op_lt (pe_ix ix_list (pv 1) pe_int (fun _ _ => rfl)) (pe_ix ix_list (pv 1) pe_int (fun _ _ => rfl)) (pe_ix ix_list (pv 1) pe_int (fun _ _ => rfl))))) pss_nil)
      (pss_one (ps_ret (pe_or (pe_cmpR op_ne (pe_ix (r := rIxT K) ix_tup (pv 0) pe_int (fun _ _ => rfl)) pe_str (nomark _)) (pe_one (pe_cmpR op_le (pe_ix ix_list (pv 1) pe_int (fun _ _ => rfl)) (pe_ix ix_list (pv 1) pe_int (fun _ _ => rfl)) (nomark _))))))))), ?_⟩
    obtain ⟨sh, hsh, esh, ln, lk, kw⟩ := Pt.wf_at ok wf
    obtain ⟨a, xs, rfl, hs, hx⟩ := pt_at hv
    obtain ⟨b1, b2, b3, b4, b5, b6⟩ := bk _ _ hsh
    rw [good_eq bk hsh esh] at k
    have bl3 : (bndL t.w).length ≤ 2 := by
      unfold bndL
      split
      · decide
      · split
        · decide
        · split <;> decide
    refine ⟨_, rfl, _, t, rfl, hv, ok, wf, fun H1 S s1 h1 => ?_⟩
    refine ⟨_, rfl, _, rfl, a, _, 0, _, rfl, rfl, s1.tup hs, ati0, t.w, rfl, b2, b3, b4, b5, b6, fun H2 D us s2 h2 pu => ?_⟩
    have lu := pu.len
    refine ⟨S, D, _, _, rfl, SqL.of (s2 _ _ h1), SqL.of h2, for_it (walk_zip (K := K) (a := S) (b := D) (xs := t.ns.map V.int) (ys := us) rfl) (fun i σ H' => ∃ v2 v3 v4, σ = [some (.ref a), some (.ref S), v2, v3, v4] ∧ Same H2 H' ∧ goodL t.ns (bndL t.w) = goodL (t.ns.drop i) ((bndL t.w).drop i)) ⟨none, none, none, rfl, Same.refl H2, rfl⟩ (fun i σ H' _ ⟨_, _, _, _, s, _⟩ => ⟨s.seq (SqL.of (s2 _ _ h1)), s.seq (SqL.of h2)⟩) ?_ ?_⟩
    · rintro i v σ H3 H4 hi ⟨v2, v3, v4, rfl, s3, eg⟩ ⟨t', x, y, rfl, ht, rfl, hx1, hy⟩
      dsimp only at hx1 hy
      rw [List.getElem?_map] at hx1
      obtain ⟨n, hn, rfl⟩ := Option.map_eq_some_iff.mp hx1
      have k4 := Same.new (o := .tup [V.int n, y]) ht
      obtain ⟨r, lo, hh, rfl, hb, hr⟩ := (pu.same (s3.trans k4)).get hy
      rw [goodL_drop hn hb] at eg
      refine ⟨t', _, rfl, SqT.of upd_same, rfl, _, _, rfl, _, _, rfl, ⟨r, _, rfl, hr, rfl, _, _, rfl, _, _, rfl, rfl, ?_⟩⟩
      refine ⟨rfl, _, rfl, _, rfl, _, _, rfl, rfl, _, rfl, ?_⟩
      have s5 := ((s1.trans s2).trans s3).trans k4
      have kk := k _ s5
      rw [eg] at kk
      unfold inB at eg kk
      dsimp only at eg kk
      by_cases c1 : lo ≤ n
      · rw [decide_eq_true c1] at eg kk
        refine iteTe (decide_eq_true c1) ⟨_, rfl, _, _, rfl, rfl, _, rfl, ?_⟩
        by_cases c2 : n ≤ hh
        · rw [decide_eq_true c2] at eg
          refine iteFe (by rw [decide_eq_true c2]; rfl) ⟨_, _, _, rfl, s3.trans k4, eg⟩
        · rw [decide_eq_false c2] at kk
          exact iteTe (by rw [decide_eq_false c2]; rfl) kk
      · rw [decide_eq_false c1] at kk
        exact iteFe (decide_eq_false c1) ⟨_, rfl, iteTe rfl kk⟩
    rintro σ H3 ⟨v2, v3, v4, rfl, s3, eg⟩
    rw [goodL_end (by rw [List.length_map, lu])] at eg
    rw [eg] at k
    have s03 := (s1.trans s2).trans s3
    refine ⟨_, rfl, a, _, 0, _, rfl, rfl, s03.tup hs, ati0, rfl, _, rfl, iteFe (decide_eq_false fun z => b5 (V.str.inj z)) ?_⟩
    refine ⟨_, rfl, a, _, 0, _, rfl, rfl, s03.tup hs, ati0, rfl, true, by rw [decide_eq_false fun z => b6 (V.str.inj z)]; rfl, iteT (k _ s03)⟩
end
end CS
set_option Elab.async false
set_option maxRecDepth 100000
set_option maxHeartbeats 4000000
set_option linter.unusedVariables false
/-! papers can be laid, and are not deep -/
namespace CS
open PySem L2
theorem lay_all : ∀ {ds : List PyData} {n : Nat}, (∀ d ∈ ds, d.canLay0 = true ∧ d.depth ≤ n) → PyData.canLayAll0 ds = true ∧ PyData.depthAll ds ≤ n
  | [], n, _ => ⟨rfl, Nat.zero_le _⟩
  | d :: ds, n, h => by
    obtain ⟨a, b⟩ := h d List.mem_cons_self
    obtain ⟨c, e⟩ := lay_all (ds := ds) (n := n) fun q hq => h q (List.mem_cons_of_mem _ hq)
    refine ⟨by simp only [PyData.canLayAll0, a, c, Bool.and_true], ?_⟩
    simp only [PyData.depthAll]
    exact Nat.max_le.mpr ⟨b, e⟩
theorem lay_int (n : Int) : (PyData.int n).canLay0 = true ∧ (PyData.int n).depth ≤ 0 := ⟨by simp only [PyData.canLay0], by simp [PyData.depth]⟩
theorem lay_str {x : Str} (h : PyData.strOk x = true) : (PyData.str x).canLay0 = true ∧ (PyData.str x).depth ≤ 0 := ⟨by simp only [PyData.canLay0, h], by simp [PyData.depth]⟩
theorem lay_tup {ds : List PyData} {n : Nat} (h : ∀ d ∈ ds, d.canLay0 = true ∧ d.depth ≤ n) : (PyData.tuple ds).canLay0 = true ∧ (PyData.tuple ds).depth ≤ n + 1 := by
  obtain ⟨a, b⟩ := lay_all h
  refine ⟨by rw [PyData.canLay0]; exact a, ?_⟩
  rw [PyData.depth]
  omega
theorem lay_list {ds : List PyData} {n : Nat} (h : ∀ d ∈ ds, d.canLay0 = true ∧ d.depth ≤ n) : (PyData.list ds).canLay0 = true ∧ (PyData.list ds).depth ≤ n + 1 := by
  obtain ⟨a, b⟩ := lay_all h
  refine ⟨by rw [PyData.canLay0]; exact a, ?_⟩
  rw [PyData.depth]
  omega
theorem lay_shaped {d : PyData} {n : Nat} (h : d.canLay0 = true ∧ d.depth ≤ n) (hn : n ≤ 64) : SeqAt.shaped d = true := by
  unfold SeqAt.shaped
  rw [Bool.and_eq_true, decide_eq_true_eq]
  exact ⟨h.1, Nat.le_trans h.2 hn⟩
/-- the words can be laid -/
def SOk (L : Shp) : Prop := ∀ w s, shpOf L w = some s → PyData.strOk w = true
theorem sok_of {L : Shp} (h : (L.all fun p => PyData.strOk p.1) = true) : SOk L := fun w s e => List.all_eq_true.mp h _ (shpOf_mem e)
theorem sok_kd {L : Shp} (so : SOk L) {w : Str} {q : Nat × Nat} (h : kdS L w = some q) : PyData.strOk w = true := by
  unfold kdS at h
  obtain ⟨s, hs, _⟩ := Option.map_eq_some_iff.mp h
  exact so w s hs
theorem Pt.lay {L : Shp} (so : SOk L) : ∀ {t : Pt}, t.Wf (kdS L) → (t.toD L).canLay0 = true ∧ (t.toD L).depth ≤ t.words := fun {t} wf => by
  have key : ∀ (w : Str) (s : List Nat) (ns : List Int) (ks : List PyData) (n : Nat), PyData.strOk w = true → (∀ d ∈ ks, d.canLay0 = true ∧ d.depth ≤ n) → (PyData.tuple (.str w :: fill s (ns.map .int) ks)).canLay0 = true ∧ (PyData.tuple (.str w :: fill s (ns.map .int) ks)).depth ≤ n + 1 := fun w s ns ks n hw h => by
    refine lay_tup fun d hd => ?_
    rcases List.mem_cons.mp hd with rfl | hd
    · exact ⟨(lay_str hw).1, Nat.le_trans (lay_str hw).2 (Nat.zero_le _)⟩
    · rcases fill_mem hd with m | m
      · obtain ⟨z, _, rfl⟩ := List.mem_map.mp m
        exact ⟨(lay_int z).1, Nat.le_trans (lay_int z).2 (Nat.zero_le _)⟩
      · exact h d m
  induction t with
  | n0 w ns => exact key w _ ns [] 0 (sok_kd so wf) fun d hd => nomatch hd
  | n1 w ns k i1 => exact key w _ ns [_] k.words (sok_kd so wf.1) fun d hd => by rw [List.mem_singleton.mp hd]; exact i1 wf.2
  | n2 w ns k l i1 i2 =>
    have e1 := i1 wf.2.1
    have e2 := i2 wf.2.2
    obtain ⟨b, hb⟩ := wf.1
    exact key w _ ns [_, _] (k.words + l.words) (sok_kd so hb) fun d hd => by
      rcases List.mem_cons.mp hd with rfl | hd
      · exact ⟨e1.1, by omega⟩
      · rw [List.mem_singleton.mp hd]
        exact ⟨e2.1, by omega⟩
theorem items_shaped {L : Shp} (so : SOk L) {its : List ItmP} (h : ∀ it ∈ its, it.2.Wf (kdS L) ∧ it.2.words ≤ 20) : SeqAt.shaped (.list (its.map (itemP L))) = true := by
  refine lay_shaped (n := 23) (lay_list (n := 22) fun d hd => ?_) (by decide)
  obtain ⟨it, hi, rfl⟩ := List.mem_map.mp hd
  refine lay_tup (n := 21) fun d hd => ?_
  rcases List.mem_cons.mp hd with rfl | hd
  · refine ⟨(lay_tup (ds := it.1.map .int) (n := 0) fun d hd => ?_).1, Nat.le_trans (lay_tup (ds := it.1.map .int) (n := 0) fun d hd => ?_).2 (by decide)⟩
    all_goals
      obtain ⟨z, _, rfl⟩ := List.mem_map.mp hd
      exact lay_int z
  · rw [List.mem_singleton.mp hd]
    exact ⟨(Pt.lay so (h it hi).1).1, Nat.le_trans (Pt.lay so (h it hi).1).2 (Nat.le_trans (h it hi).2 (by decide))⟩
theorem eqv_nil {ds : List PyData} : PyData.eqv (.list ds) (.list []) = ds.isEmpty := by cases ds <;> rfl
end CS
set_option Elab.async false
set_option maxRecDepth 100000
set_option maxHeartbeats 8000000
set_option linter.unusedVariables false
set_option pp.maxSteps 5000
/-! the law's fault -/
namespace CS
open PySem L2 RZ LamX
section
variable {P : Program} {w : World} {K : PySem.W.Frag} {mg : Str → Option Value} {base : Heap} {L : Shp}
theorem wsum_mem : ∀ {l : List ItmP} {it : ItmP}, it ∈ l → it.2.words ≤ wsumP l
  | p :: l, it, h => by
    have e : wsumP (p :: l) = p.2.words + wsumP l := by simp [wsumP]
    rcases List.mem_cons.mp h with rfl | h
    · omega
    · have := wsum_mem h
      omega
theorem catA_any {a b : Addr} {xs ys : List V} {H : Hp} {Q : VK} (ha : SqT K H a xs) (hb : SqT K H b ys) (hz : xs.length + ys.length ≤ sizeLine) (k : ∀ r H', Same H H' → SqT K H' r (xs ++ ys) → Q (.ref r) H') : rCatA K (.ref a) (.ref b) H Q := by
  by_cases e : xs = []
  · refine ⟨a, b, xs, ys, rfl, rfl, ha, hb, hz, fun _ => k b H (Same.refl H) (by rw [e, List.nil_append]; exact hb), fun n => absurd e n, fun n => absurd e n⟩
  · exact catA_use e ha hb hz k
/-- a fault in a list, or an empty list -/
def FltAt (K : PySem.W.Frag) (H : Hp) (D : Addr) : Option (List Int) → Prop
  | none => H D = some (.lst [])
  | some p => ∃ q, H D = some (.lst [.ref q]) ∧ SqT K H q (p.map V.int)
def spLFaultB (K : PySem.W.Frag) (L : Shp) : Sp := fun vs H Q _ => ∃ v, ∃ t : Pt, vs = [v] ∧ Dp K H v (t.toD L) ∧ LGood L ∧ BOk L ∧ SOk L ∧ t.Wf (kdS L) ∧ t.words ≤ 20 ∧ ∀ H' D, Same H H' → FltAt K H' D (t.fl L []) → Q (.ref D) H'
abbrev nsLawFault : List Str := ["thing", "waiting", "path", "here", "at"]
theorem scLawFault : FnScope nsLawFault ["thing"] (defScope sLawFault) := ⟨rfl, rfl, rfl, by decide +kernel, rfl, by decide +kernel, by decide +kernel⟩
theorem ok_law_fault {f : Addr} {fd : FuncData} (F : Df K mg "_law_fault" sLawFault ["thing"] f fd)
    {f1 : Addr} {fd1 : FuncData} (D1 : Df K mg "_law_places" sLawPlaces ["thing"] f1 fd1) (G1 : FnOk P w K mg base CX0 1 f1 fd1 ["thing"] (spLPlaces K L))
    {f2 : Addr} {fd2 : FuncData} (D2 : Df K mg "_law_are_good" sLawAreGood ["thing"] f2 fd2) (G2 : FnOk P w K mg base CX0 2 f2 fd2 ["thing"] (spGoodL K L))
    (T : Bt mg) : FnOk P w K mg base CX0 3 f fd ["thing"] (spLFaultB K L) := by
  refine F.F.ok scLawFault (fun vs H Q E h => ?_) (fun cdv A outer s H vs Q E hr h => ?_)
  · obtain ⟨v, t, rfl, _⟩ := h
    rfl
  · obtain ⟨v, t, rfl, hv, lg, bk, so, wf, w20, k⟩ := h
    refine ⟨_, (pss_cons (ps_set (i := 1) scLawFault.nd rfl (Or.inl rfl) (pe_lst (pa_cons (pe_tup (pa_cons (pe_tup pa_nil) (pa_cons (pv 0) pa_nil))) pa_nil)))
      (pss_cons (ps_while PassesOwn.never (pt_cmpR (op_neD hr.units) (pv 1) (pe_lst pa_nil) (nomark _)) (pss_cons (ps_asg (pe_bm0 PySem.F.plainAttrs_list PySem.F.slot_list_pop PySem.F.type_list_pop mt_pop (pv 1)) (pg_tup rfl (pgs_cons (pg_name (i := 2) scLawFault.nd rfl (Or.inr rfl)) (pgs_cons (pg_name (i := 3) scLawFault.nd rfl (Or.inr rfl)) pgs_nil))))
      (pss_cons (ps_if (pt_cmpR op_ge (pe_callB call_len_seq (by rfl) T.len PySem.boot_len (pa_cons (pv 2) pa_nil)) pe_int (nomark _)) (pss_one (ps_ret (pe_lst (pa_cons (pe_tup pa_nil) pa_nil)))) pss_nil)
      (pss_cons (ps_if (pt_not (pt_val (pe_call G2 (hr.mono (by decide)) (by rfl) D2.g D2.F.kp D2.b .nil pass0 (pa_cons (pv 3) pa_nil)))) (pss_one (ps_ret (pe_lst (pa_cons (pv 2) pa_nil)))) pss_nil)
      (pss_one (ps_set (i := 1) scLawFault.nd rfl (Or.inl rfl) (pe_op op_cat (pv 1) (pe_lc (own := [("at", 4)]) (g := gName 4) (tt := tYes) rfl scLawFault.nd (pi_list (pe_revL (pe_call G1 (hr.mono (by decide)) (by rfl) D1.g D1.F.kp D1.b .nil pass0 (pa_cons (pv 3) pa_nil)))) (blkOk_by (N := nsLawFault) (sc := defScope sLawFault) (by decide +kernel)) (fun _ _ _ _ _ => pg_name (i := 4) scLawFault.nd rfl (Or.inl rfl)) (fun _ _ _ _ _ => pts_nil) (fun _ _ _ _ _ => (pe_tup (pa_cons (pe_op (r := rCatA K) op_catA (pv 2) (pe_tup (pa_cons (pv 4) pa_nil))) (pa_cons (pe_ix (r := rIxT K) ix_tup (pv 3) (pv 4) (fun _ _ => rfl)) pa_nil))))))))))))
      (pss_one (ps_ret (pe_lst pa_nil))))), ?_⟩
    refine ⟨(by show 0 ≤ sizeLine; decide), fun e1 n1 => ⟨_, rfl, (by show 2 ≤ sizeLine; decide), fun e2 n2 => ⟨(by show 1 ≤ sizeLine; decide), fun l1 m1 => ?_⟩⟩⟩
    have g1 := Same.new (o := .tup []) n1
    have g2 := Same.new (o := .tup [V.ref e1, v]) n2
    have g3 := Same.new (o := .lst [V.ref e2]) m1
    have s0 := (g1.trans g2).trans g3
    have nl : H l1 = none := by
      cases e : H l1 with
      | none => rfl
      | some o =>
        have := (g1.trans g2) _ _ e
        rw [m1] at this
        cases this
    have i0 : DpAll K (upd (upd (upd H e1 (.tup [])) e2 (.tup [V.ref e1, v])) l1 (.lst [V.ref e2])) [V.ref e2] (List.map (itemP L) [([], t)]) := .cons (.tup (g3.tup (SqT.of upd_same)) (.cons (.tup ((g2.trans g3).tup (SqT.of upd_same)) .nil) (.cons (Dp.same s0 hv) .nil))) .nil
    have h0 : (upd (upd (upd H e1 (.tup [])) e2 (.tup [V.ref e1, v])) l1 (.lst [V.ref e2])) l1 = some (.lst [V.ref e2]) := upd_same
    generalize upd (upd (upd H e1 (.tup [])) e2 (.tup [V.ref e1, v])) l1 (.lst [V.ref e2]) = H0 at *
    refine ⟨fun m σ H' => ∃ v2 v3 v4 l ws its, σ = [some v, some (.ref l), v2, v3, v4] ∧ Same H H' ∧ H l = none ∧ H' l = some (.lst ws) ∧ DpAll K H' ws (its.map (itemP L)) ∧ wsumP its ≤ 20 ∧ (∀ it ∈ its, it.2.Wf (kdS L) ∧ it.1.length ≤ 8) ∧ flS L its = t.fl L [] ∧ m = wsumP its,
      ⟨_, none, none, none, l1, [V.ref e2], [([], t)], rfl, s0, nl, h0, i0, by simpa [wsumP] using w20, fun it hit => by
        rw [List.mem_singleton.mp hit]
        exact ⟨wf, Nat.zero_le _⟩, find_one _ _, rfl⟩, ?_⟩
    rintro m σ H1 ⟨v2, v3, v4, l, ws, its, rfl, s1, nl1, hl, hw, wd, each, ef, rfl⟩
    have lw := hw.len
    rw [List.length_map] at lw
    have w1 : ∀ it ∈ its, it.2.Wf (kdS L) ∧ it.2.words ≤ 20 := fun it hi => by
      refine ⟨(each it hi).1, Nat.le_trans ?_ wd⟩
      exact wsum_mem hi
    refine ⟨_, rfl, (by show 0 ≤ sizeLine; decide), fun en nn => ?_⟩
    have kn := Same.new (o := .lst []) nn
    refine ⟨.list (its.map (itemP L)), .list [], .lst (SqL.of (kn _ _ hl)) (DpAll.same kn hw), .lst (SqL.of upd_same) .nil, items_shaped so w1, rfl, _, rfl, ?_⟩
    rw [eqv_nil]
    have hl2_ := kn _ _ hl
    have hw2_ := DpAll.same kn hw
    have s1_ := s1.trans kn
    generalize upd H1 en (.lst []) = H1b at *
    rcases List.eq_nil_or_concat its with rfl | ⟨its', ⟨p, t1⟩, rfl⟩
    · have e0 : t.fl L [] = none := ef.symm
      refine iteFe rfl ⟨(by show 0 ≤ sizeLine; decide), fun D nD => k _ D (s1_.trans (Same.new nD)) ?_⟩
      rw [e0]
      exact upd_same
    rw [List.concat_eq_append] at *
    rcases List.eq_nil_or_concat ws with rfl | ⟨ws', y, rfl⟩
    · rw [List.length_append] at lw
      cases lw
    rw [List.concat_eq_append] at *
    refine iteTe (by simp) ?_
    obtain ⟨hw', dy⟩ := dp_unsnocG (K := K) (H := H1b) (ds := its'.map (itemP L)) (by simpa using lw) (by simpa using hw2_)
    obtain ⟨pa, xp, rfl, hpa, hxp⟩ := dy.tup_inv
    obtain ⟨x1, u, rfl, d1, d2⟩ : ∃ x1 u, xp = [x1, u] ∧ Dp K H1b x1 (rowD_ p) ∧ Dp K H1b u (t1.toD L) := by
      cases hxp with
      | cons a b =>
        cases b with
        | cons a2 b2 =>
          cases b2
          exact ⟨_, _, rfl, a, a2⟩
    obtain ⟨q, xq, rfl, hq, hxq⟩ := d1.tup_inv
    obtain rfl := DpAll.of_ints hxq
    obtain ⟨a1, x5, rfl, ha1, hx5⟩ := pt_at d2
    obtain ⟨ok1, h81⟩ := each (p, t1) (by simp)
    have wp1 := Pt.words_pos t1
    dsimp only at ok1 h81
    obtain ⟨sh1, hsh1, esh1, ln1, lk1, kw1⟩ := Pt.wf_at lg.1 ok1
    rw [← esh1] at ln1 lk1
    rw [flS_snoc] at ef
    dsimp only at ef
    have ws1 : wsumP (its' ++ [(p, t1)]) = wsumP its' + t1.words := by simp [wsumP]
    refine ⟨_, fun σ' H' h => h, ?_⟩
    refine ⟨_, rfl, .inl ⟨rfl, _, SqL.of hl2_⟩, l, _, .ref pa, rfl, rfl, hl2_, by simp, ?_⟩
    rw [List.dropLast_concat]
    have k2 : TK K H1b (upd H1b l (.lst ws')) := tk_lst hl2_
    have s2 : Same H (upd H1b l (.lst ws')) := same_upd nl1 s1_
    have hl2 : (upd H1b l (.lst ws')) l = some (.lst ws') := upd_same
    have hpa2 := k2 _ _ hpa
    have hq2 := k2 _ _ hq
    have ha2 := k2 _ _ ha1
    have d22 := Dp.tk k2 (Pt.flat L t1) d2
    have hw2 := DpAll.tk k2 (flatItemsP L its') hw'
    have hx52 := DpAll.tk k2 (Pt.rest_flat L t1) hx5
    generalize upd H1b l (.lst ws') = H2 at *
    refine ⟨pa, _, rfl, hpa2, rfl, _, _, rfl, _, _, rfl, rfl, ?_⟩
    refine ⟨_, rfl, q, _, rfl, .inr hq2, _, _, rfl, rfl, _, rfl, ?_⟩
    by_cases c8 : p.length = 8
    · rw [Pt.fl_deep c8] at ef
      have e0 : t.fl L [] = some [] := ef.symm
      refine iteTe (decide_eq_true (by rw [List.length_map]; omega)) ⟨(by show 0 ≤ sizeLine; decide), fun e0_ n0 => ⟨(by show 1 ≤ sizeLine; decide), fun D nD => k _ D ((s2.trans (Same.new n0)).trans (Same.new nD)) ?_⟩⟩
      rw [e0]
      exact ⟨e0_, upd_same, (Same.new nD).tup (SqT.of upd_same)⟩
    refine iteFe (decide_eq_false (by rw [List.length_map]; omega)) ?_
    refine ⟨_, rfl, .ref a1, t1, rfl, d22, lg.1, bk, ok1, fun H3 s3 => ⟨_, rfl, ?_⟩⟩
    cases hg : t1.good L with
    | false =>
      rw [Pt.fl_bad c8 hg] at ef
      have e0 : t.fl L [] = some p := ef.symm
      refine iteT ⟨_, rfl, (by show 1 ≤ sizeLine; decide), fun D nD => k _ D ((s2.trans s3).trans (Same.new nD)) ?_⟩
      rw [e0]
      exact ⟨q, upd_same, (Same.new nD).tup (s3.tup hq2)⟩
    | true => ?_
    refine iteF ?_
    refine ⟨_, rfl, _, rfl, .ref a1, t1, rfl, Dp.same s3 d22, lg.1, ok1, fun H4 D s4 hD => ?_⟩
    have hD1 : H4 D = some (.lst ((t1.kz L).map fun k => V.int (k.1 : Int))) := by
      rw [hD, ← Pt.kz_fst lk1, List.map_map]
      rfl
    refine ⟨D, _, rfl, SqL.of hD1, fun D2 n2 => ⟨D2, rfl, ⟨_, SqL.of upd_same⟩, fun Dl nL => ?_⟩⟩
    have s5 := (s3.trans s4).trans (Same.new (o := .lst ((t1.kz L).map fun k => V.int (k.1 : Int)).reverse) n2)
    have hD2 : (upd H4 D2 (.lst ((t1.kz L).map fun k => V.int (k.1 : Int)).reverse)) D2 = some (.lst ((t1.kz L).reverse.map fun k => V.int (k.1 : Int))) := by
      rw [upd_same, List.map_reverse]
    generalize upd H4 D2 (.lst ((t1.kz L).map fun k => V.int (k.1 : Int)).reverse) = H5 at *
    have hlen : (t1.kr L p).length = (t1.kz L).length := by simp [Pt.kr, Pt.kp]
    have few : (t1.kz L).length ≤ 20 := by
      have := wsumP_len (t1.kr L p)
      have := Pt.kr_sum p lk1
      omega
    refine lc_it (walk_list (K := K) (a := D2) (xs := (t1.kz L).reverse.map fun k => V.int (k.1 : Int))) (fun i H' => ∃ us, H' Dl = some (.lst us) ∧ Same H5 H' ∧ DpAll K H' us (((t1.kr L p).take i).map (itemP L))) ⟨[], upd_same, Same.new nL, .nil⟩ (fun i H' _ ⟨_, _, s, _⟩ => s.seq (SqL.of hD2)) ?_ ?_
    · rintro i x H6 H7 hi ⟨us, h6, s6, c6⟩ ⟨rfl, hx⟩
      rw [List.getElem?_map] at hx
      obtain ⟨kd, hk, rfl⟩ := Option.map_eq_some_iff.mp hx
      have mem : kd ∈ (t1.kz L) := List.mem_reverse.mp (List.mem_of_getElem? hk)
      have hk2 : (t1.kr L p)[i]? = some (p ++ [(kd.1 : Int)], kd.2) := by
        unfold Pt.kr Pt.kp
        rw [← List.map_reverse, List.getElem?_map, hk]
        rfl
      have s26 := s5.trans s6
      have hx56 := DpAll.same s26 hx52
      obtain ⟨child, hc, dc⟩ := DpAll.at (K := K) (H := H7) (vs := .str t1.w :: x5) (ds := .str t1.w :: t1.rest L) (.cons (.str _) hx56) (Pt.kz_at ln1 lk1 kd mem)
      have lu := c6.len
      rw [List.length_map, List.length_take] at lu
      refine ⟨rfl, ?_⟩
      dsimp only [tYes]
      rw [if_pos rfl]
      refine ⟨_, rfl, _, rfl, (by show 1 ≤ sizeLine; decide), fun b nb => catA_any ((Same.new nb).tup (s26.tup hq2)) (SqT.of upd_same) (few1 0 (by rw [List.length_map]; show p.length + 1 ≤ 100; omega)) fun r1 H8 s8 h8 => ?_⟩
      have k8 := (Same.new (o := .tup [V.int (kd.1 : Int)]) nb).trans s8
      refine ⟨_, rfl, _, rfl, a1, _, (kd.1 : Int), child, rfl, rfl, (s26.trans k8).tup ha2, atI_nat hc, (by show 2 ≤ sizeLine; decide), fun c nc => ?_⟩
      have k9 := k8.trans (Same.new (o := .tup [V.ref r1, child]) nc)
      refine ⟨us, k9 _ _ h6, small1000 (by omega), us ++ [.ref c], upd_same, same_upd nL (s6.trans k9), ?_⟩
      rw [take_snoc hk2, List.map_append]
      refine DpAll.tk (tk_lst (k9 _ _ h6)) ?_ (DpAll.app (DpAll.same k9 c6) (.cons (.tup (SqT.of upd_same) (.cons (.tup ((Same.new nc).tup h8) ?_) (.cons (Dp.same k9 dc) .nil))) .nil))
      · rw [← List.map_append]
        exact flatItemsP L _
      · have := DpAll.ints (K := K) (H := upd H8 c (.tup [V.ref r1, child])) (p ++ [(kd.1 : Int)])
        rw [List.map_append] at this
        exact this
    · rintro H6 ⟨us, h6, s6, c6⟩
      rw [List.length_map, List.length_reverse, ← hlen, List.take_length] at c6
      have lu := c6.len
      rw [List.length_map, hlen] at lu
      have lw2 := hw2.len
      rw [List.length_map] at lw2
      have li := wsumP_len its'
      have ks := Pt.kr_sum p lk1
      have s26 := s5.trans s6
      have hl6 := s26 _ _ hl2
      refine ⟨l, Dl, ws', us, rfl, rfl, hl6, h6, few1 0 (by omega), fun p5 n5 => ?_⟩
      have s7 := Same.new (o := .lst (ws' ++ us)) n5
      have s07 := (s2.trans s26).trans s7
      have np5 : H p5 = none := by
        cases e : H p5 with
        | none => rfl
        | some o =>
          have := (s2.trans s26) _ _ e
          rw [n5] at this
          cases this
      refine ⟨wsumP (its' ++ t1.kr L p), by rw [wsumP_app, ws1]; omega, _, _, _, p5, ws' ++ us, its' ++ t1.kr L p, rfl, s07, np5, upd_same, ?_, by rw [wsumP_app]; omega, fun it hit => ?_, ?_, rfl⟩
      · rw [List.map_append]
        exact DpAll.app (DpAll.same (s26.trans s7) hw2) (DpAll.same s7 c6)
      · rcases List.mem_append.mp hit with h | h
        · exact each it (List.mem_append.mpr (.inl h))
        · obtain ⟨kd, mem, rfl⟩ := List.mem_map.mp (List.mem_reverse.mp h)
          refine ⟨kw1 _ (Pt.kz_mem mem), ?_⟩
          rw [List.length_append]
          show p.length + 1 ≤ 8
          omega
      · rw [flS_kids _ lk1 c8 hg, flS_snoc]
        exact ef
end
end CS
set_option Elab.async false
set_option maxRecDepth 100000
set_option maxHeartbeats 8000000
set_option linter.unusedVariables false
set_option pp.maxSteps 5000
/-! the law's reader -/
namespace CS
open PySem L2 RZ LamX
/-- where the law's reader stands -/
abbrev kvH (p m : Nat) : List (Key × V) := [(Sum.inr "at", .int (p : Int)), (Sum.inr "many", .int (m : Int))]
theorem at_ne_many : (Sum.inr ("at" : Str) : Key) ≠ Sum.inr ("many" : Str) := by decide +kernel
theorem putH_at (p m q : Nat) : putK (kvH p m) (Sum.inr "at") (.int (q : Int)) = kvH q m := putK_c1 fun x hx => by
  rw [List.mem_singleton.mp hx]
  exact at_ne_many.symm
theorem putH_many (p m q : Nat) : putK (kvH p m) (Sum.inr "many") (.int (q : Int)) = kvH p q := by
  rw [kvH, putK_c2 at_ne_many, putK_c1 (kvs := []) (by simp)]
theorem valH_at (p m : Nat) : valV (kvH p m) (Sum.inr "at") = some (.int (p : Int)) := valV_pos rfl
theorem valH_many (p m : Nat) : valV (kvH p m) (Sum.inr "many") = some (.int (m : Int)) := by
  rw [kvH, valV_neg at_ne_many]
  exact valV_pos rfl
/-- a dict of words -/
def WdG (K : PySem.W.Frag) (H : Hp) (d : Addr) (W : List WdP) : Prop := ∃ kvs, H d = some (.dK kvs) ∧ WAt K H kvs W
/-- the words and their shapes go together -/
def KOk (L : Shp) (W : List WdP) : Prop := wdOf W "" = none ∧ ∀ w, (wdOf W w = none ∧ kdS L w = none) ∨ ∃ a b : Nat, wdOf W w = some ((a : Int), (b : Int)) ∧ kdS L w = some (a, b) ∧ a ≤ 9 ∧ b ≤ 2
theorem tk_chgD {K : PySem.W.Frag} {H H' : Hp} {p : Addr} {ks : List (Key × V)} (hp : H p = some (.dK ks)) (e : Chg H p H') : TK K H H' := fun a xs h => by
  rcases h with (h | ⟨o, h⟩) | h
  · exact .inl (.inl (e _ _ h fun z => by rw [z, hp] at h; cases h))
  · exact .inl (.inr ⟨o, e _ _ h fun z => by rw [z, hp] at h; cases h⟩)
  · exact .inr h
theorem WdG.get {K : PySem.W.Frag} {H : Hp} {d : Addr} {W : List WdP} (h : WdG K H d W) (w : Str) : (wdOf W w = none ∧ DGet H d (.str w) none) ∨ ∃ a b r, wdOf W w = some (a, b) ∧ DGet H d (.str w) (some (.ref r)) ∧ SqT K H r [.int a, .int b] := by
  obtain ⟨kvs, e, q⟩ := h
  have g := DGet.k (k := Sum.inr w) e
  rcases q.at_ w with ⟨h1, h2⟩ | ⟨a, b, r, h1, h2, h3⟩
  · rw [h2] at g
    exact .inl ⟨h1, g⟩
  · rw [h2] at g
    exact .inr ⟨a, b, r, h1, g, h3⟩
structure TkS (K : PySem.W.Frag) (W : List WdP) (ws : List Str) (kd wl hr : Addr) (H H' : Hp) (p m : Nat) : Prop where
  x : Chg H hr H'
  n : kd ≠ hr
  k : WdG K H' kd W
  w : H' wl = some (.lst (ws.map V.str))
  h : H' hr = some (.dK (kvH p m))
section
variable {K : PySem.W.Frag} {W : List WdP} {ws : List Str} {kd wl hr : Addr} {H H1 H2 : Hp} {p m q m2 : Nat}
theorem WdG.tk (h : WdG K H kd W) (e : TK K H H1) (k : ∀ kvs, H kd = some (.dK kvs) → H1 kd = some (.dK kvs)) : WdG K H1 kd W := let ⟨kvs, a, b⟩ := h; ⟨kvs, k _ a, b.tk e⟩
theorem TkS.chg (S : TkS K W ws kd wl hr H H1 p m) (e : Chg H1 hr H2) (h : H2 hr = some (.dK (kvH q m2))) : TkS K W ws kd wl hr H H2 q m2 :=
  ⟨S.x.trans e, S.n, S.k.tk (tk_chgD S.h e) fun kvs z => e _ _ z S.n, e _ _ S.w (fun z => by have := S.w; rw [z, S.h] at this; cases this), h⟩
theorem TkS.same (S : TkS K W ws kd wl hr H H1 p m) (e : Same H1 H2) : TkS K W ws kd wl hr H H2 p m := S.chg (.of e) (e _ _ S.h)
theorem TkS.put (S : TkS K W ws kd wl hr H H1 p m) : TkS K W ws kd wl hr H (upd H1 hr (.dK (kvH q m2))) q m2 := S.chg (fun b o e n => by rw [upd_ne n]; exact e) upd_same
theorem TkS.at_ (S : TkS K W ws kd wl hr H H1 p m) : DGet H1 hr (.str "at") (some (.int (p : Int))) := by
  have := DGet.k (k := Sum.inr "at") S.h
  rw [valH_at] at this
  exact this
theorem TkS.many (S : TkS K W ws kd wl hr H H1 p m) : DGet H1 hr (.str "many") (some (.int (m : Int))) := by
  have := DGet.k (k := Sum.inr "many") S.h
  rw [valH_many] at this
  exact this
theorem TkS.putA (S : TkS K W ws kd wl hr H H1 p m) (q : Nat) : DPut H1 hr (.str "at") (.int (q : Int)) (upd H1 hr (.dK (kvH q m))) := by
  have := DPut.k (k := Sum.inr "at") (v := .int (q : Int)) S.h (show 2 < sizeLine by decide)
  rw [putH_at] at this
  exact this
theorem TkS.putM (S : TkS K W ws kd wl hr H H1 p m) (q : Nat) : DPut H1 hr (.str "many") (.int (q : Int)) (upd H1 hr (.dK (kvH p q))) := by
  have := DPut.k (k := Sum.inr "many") (v := .int (q : Int)) S.h (show 2 < sizeLine by decide)
  rw [putH_many] at this
  exact this
end
theorem cut_te {F : VK → Prop} {Q : VK} (R : Addr → Hp → Prop) (h1 : ∀ Q' : VK, (∀ D H', R D H' → Q' (.ref D) H') → F Q') (h2 : ∀ D H', R D H' → Q (.ref D) H') : F Q := h1 Q h2
section
variable {P : Program} {w : World} {K : PySem.W.Frag} {mg : Str → Option Value} {base : Heap} {L : Shp} {W : List WdP}
def spTake (K : PySem.W.Frag) (L : Shp) (W : List WdP) (h : Nat) : Sp := fun vs H Q _ => ∃ (kd wl hr : Addr) (ws : List Str) (p m : Nat), vs = [.ref kd, .ref wl, .ref hr] ∧ kd ≠ hr ∧ WdG K H kd W ∧ H wl = some (.lst (ws.map V.str)) ∧ H hr = some (.dK (kvH p m)) ∧ LOk L ∧ JOk L ∧ KOk L W ∧ SOk L ∧ ws.length ≤ 4000 ∧ (∀ x ∈ ws, x.length ≤ 3000) ∧ m ≤ 20 ∧ 20 ≤ m + h ∧
 (∀ t j m2, parse (kdS L) ws (h + 1) p m = .inl (t, j, m2) → ∀ H' D v, Chg H hr H' → H' hr = some (.dK (kvH j m2)) → H' D = some (.lst [v]) → Dp K H' v (t.toD L) → Q (.ref D) H') ∧
 (∀ q, parse (kdS L) ws (h + 1) p m = .inr q → ∀ H' D m2, Chg H hr H' → H' hr = some (.dK (kvH q m2)) → H' D = some (.lst []) → Q (.ref D) H')
def spTakeP (K : PySem.W.Frag) (L : Shp) (W : List WdP) (h : Nat) : Sp := fun vs H Q E => ∃ m, h = m + 1 ∧ spTake K L W m vs H Q E
abbrev nsLawTake : List Str := ["kinds", "words", "here", "word", "some", "kids", "k", "found"]
theorem scLawTake : FnScope nsLawTake ["kinds", "words", "here"] (defScope sLawTake) := ⟨rfl, rfl, rfl, by decide +kernel, rfl, by decide +kernel, by decide +kernel⟩
theorem ok_law_take {f : Addr} {fd : FuncData} (F : Df K mg "_law_take" sLawTake ["kinds", "words", "here"] f fd)
    {f1 : Addr} {fd1 : FuncData} (D1 : Df K mg "_law_joined" sLawJoined ["word", "some", "kids"] f1 fd1) (G1 : FnOk P w K mg base CX0 1 f1 fd1 ["word", "some", "kids"] (spJoined K L))
    {f2 : Addr} {fd2 : FuncData} (D2 : Df K mg "_law_integer" sLawInteger ["word"] f2 fd2) (G2 : FnOk P w K mg base CX0 1 f2 fd2 ["word"] (spLInt))
    {h : Nat} (T : Bt mg) {f9 : Addr} {fd9 : FuncData} (D9 : Df K mg "_law_take" sLawTake ["kinds", "words", "here"] f9 fd9) (G9 : FnOk P w K mg base CX0 (h + 2) f9 fd9 ["kinds", "words", "here"] (spTakeP K L W h)) : FnOk P w K mg base CX0 (h+3) f fd ["kinds", "words", "here"] (spTake K L W h) := by
  refine F.F.ok scLawTake (fun vs H Q E h => ?_) (fun cdv A outer s H vs Q E hr h => ?_)
  · obtain ⟨kd, wl, ad, ws, p, m, rfl, _⟩ := h
    rfl
  · obtain ⟨kd, wl, ad, ws, p, m, rfl, ne, hk, hw, hh, lo, jo, ko, so, lw, lx, m20, mh, kQ, kE⟩ := h
    have hu := hu_of hr
    refine ⟨_, (pss_cons (ps_set (i := 3) scLawTake.nd rfl (Or.inl rfl) (pe_ifExp (pt_cmpR op_lt (pe_dget hu (pv 2) pe_str (fun _ _ => rfl)) (pe_callB call_len_seq (by rfl) T.len PySem.boot_len (pa_cons (pv 1) pa_nil)) (nomark _)) (pe_ix ix_list (pv 1) (pe_dget hu (pv 2) pe_str (fun _ _ => rfl)) (fun _ _ => rfl)) pe_str))
      (pss_cons (ps_if (PW.pt (pw_or (pt_cmp (pc_dnotin hu (pv 3) (pv 0))) (pw_or1 (pt_cmpR op_eq (pe_dget hu (pv 2) pe_str (fun _ _ => rfl)) pe_int (nomark _))))) (pss_one (ps_ret (pe_lst pa_nil))) pss_nil)
      (pss_cons (ps_asg (pe_tup (pa_cons (pe_op op_add (pe_dget hu (pv 2) pe_str (fun _ _ => rfl)) pe_int) (pa_cons (pe_op op_add (pe_dget hu (pv 2) pe_str (fun _ _ => rfl)) pe_int) (pa_cons (pe_lst pa_nil) (pa_cons (pe_lst pa_nil) pa_nil))))) (pg_tup rfl (pgs_cons (pg_sub (pv 2) pe_str (set_dict hu)) (pgs_cons (pg_sub (pv 2) pe_str (set_dict hu)) (pgs_cons (pg_name (i := 4) scLawTake.nd rfl (Or.inl rfl)) (pgs_cons (pg_name (i := 5) scLawTake.nd rfl (Or.inl rfl)) pgs_nil))))))
      (pss_cons (ps_for PassesOwn.never rfl (pi_range1 (by rfl) T.range (pa_cons (pe_ix (r := rIxT K) ix_tup (pe_dget hu (pv 0) (pv 3) (fun _ _ => rfl)) pe_int (fun _ _ => rfl)) pa_nil)) (pg_name (i := 6) scLawTake.nd rfl (Or.inl rfl)) (pss_cons (ps_set (i := 7) scLawTake.nd rfl (Or.inl rfl) (pe_ifExp (pt_cmpR op_lt (pe_dget hu (pv 2) pe_str (fun _ _ => rfl)) (pe_callB call_len_seq (by rfl) T.len PySem.boot_len (pa_cons (pv 1) pa_nil)) (nomark _)) (pe_call G2 (hr.mono (by omega)) (by rfl) D2.g D2.F.kp D2.b .nil pass0 (pa_cons (pe_ix ix_list (pv 1) (pe_dget hu (pv 2) pe_str (fun _ _ => rfl)) (fun _ _ => rfl)) pa_nil)) (pe_lst pa_nil)))
      (pss_cons (ps_if (pt_cmpR (op_eqD hr.units) (pv 7) (pe_lst pa_nil) (nomark _)) (pss_one (ps_ret (pe_lst pa_nil))) pss_nil)
      (pss_one (ps_asg (pe_tup (pa_cons (pe_op op_cat (pv 4) (pv 7)) (pa_cons (pe_op op_add (pe_dget hu (pv 2) pe_str (fun _ _ => rfl)) pe_int) pa_nil))) (pg_tup rfl (pgs_cons (pg_name (i := 4) scLawTake.nd rfl (Or.inl rfl)) (pgs_cons (pg_sub (pv 2) pe_str (set_dict hu)) pgs_nil))))))))
      (pss_cons (ps_for PassesOwn.never rfl (pi_range1 (by rfl) T.range (pa_cons (pe_ix (r := rIxT K) ix_tup (pe_dget hu (pv 0) (pv 3) (fun _ _ => rfl)) pe_int (fun _ _ => rfl)) pa_nil)) (pg_name (i := 6) scLawTake.nd rfl (Or.inl rfl)) (pss_cons (ps_set (i := 7) scLawTake.nd rfl (Or.inl rfl) (pe_call G9 (hr.mono (by omega)) (by rfl) D9.g D9.F.kp D9.b .nil pass0 (pa_cons (pv 0) (pa_cons (pv 1) (pa_cons (pv 2) pa_nil)))))
      (pss_cons (ps_if (pt_cmpR (op_eqD hr.units) (pv 7) (pe_lst pa_nil) (nomark _)) (pss_one (ps_ret (pe_lst pa_nil))) pss_nil)
      (pss_one (ps_set (i := 5) scLawTake.nd rfl (Or.inl rfl) (pe_op op_cat (pv 5) (pv 7)))))))
      (pss_one (ps_ret (pe_lst (pa_cons (pe_call G1 (hr.mono (by omega)) (by rfl) D1.g D1.F.kp D1.b .nil pass0 (pa_cons (pv 3) (pa_cons (pv 4) (pa_cons (pv 5) pa_nil)))) pa_nil))))))))), ?_⟩
    have S0 : TkS K W ws kd wl ad H H p m := ⟨fun b o e _ => e, ne, hk, hw, hh⟩
    dsimp only [tSeq, tAsg]
    refine ⟨_, rfl, ad, _, rfl, S0.at_, _, rfl, wl, _, rfl, .inl (SqL.of hw), _, _, rfl, rfl, _, rfl, ?_⟩
    rw [List.length_map]
    have end0 : ∀ {H1 : Hp} {q m2 : Nat}, TkS K W ws kd wl ad H H1 q m2 → parse (kdS L) ws (h + 1) p m = .inr q → ∀ D, H1 D = none → Q (.ref D) (upd H1 D (.lst [])) := fun S e D nD => kE _ e _ D _ (S.same (Same.new nD)).x (S.same (Same.new nD)).h upd_same
    cases hx : ws[p]? with
    | none =>
      have lp : ¬ p < ws.length := fun z => by
        rw [List.getElem?_eq_getElem z] at hx
        cases hx
      obtain ⟨_, g⟩ : wdOf W "" = none ∧ DGet H kd (.str "") none := by
        rcases hk.get "" with z | ⟨a, b, r, h1, _⟩
        · exact z
        · rw [ko.1] at h1
          cases h1
      refine iteFe (decide_eq_false (by omega)) ?_
      exact ⟨_, rfl, _, rfl, kd, _, rfl, g, _, rfl, iteTe rfl (iteT ⟨(by show 0 ≤ sizeLine; decide), end0 S0 (parse_no1 hx)⟩)⟩
    | some x => 
      have lp := (List.getElem?_eq_some_iff.mp hx).1
      refine iteTe (decide_eq_true (by omega)) ⟨_, rfl, _, rfl, ad, _, rfl, S0.at_, wl, _, _, _, rfl, rfl, SqL.of hw, atI_nat (j := p) (by rw [List.getElem?_map, hx]; rfl), ?_⟩
      rcases hk.get x with ⟨h1, g⟩ | ⟨a', b', r, h1, g, _⟩
      · have ek : kdS L x = none := by
          rcases ko.2 x with z | ⟨a, b, z, _⟩
          · exact z.2
          · rw [h1] at z
            cases z
        exact ⟨_, rfl, _, rfl, kd, _, rfl, g, _, rfl, iteTe rfl (iteT ⟨(by show 0 ≤ sizeLine; decide), end0 S0 (parse_no2 hx ek)⟩)⟩
      obtain ⟨a, b, ew, ek, a9, b2⟩ : ∃ a b : Nat, wdOf W x = some ((a : Int), (b : Int)) ∧ kdS L x = some (a, b) ∧ a ≤ 9 ∧ b ≤ 2 := by
        rcases ko.2 x with z | z
        · rw [h1] at z
          cases z.1
        · exact z
      have getx : ∀ {H1 : Hp}, WdG K H1 kd W → ∃ r, DGet H1 kd (.str x) (some (.ref r)) ∧ SqT K H1 r [.int (a : Int), .int (b : Int)] := fun hq => by
        rcases hq.get x with z | ⟨a2, b2, r2, z, g2, t2⟩
        · rw [ew] at z
          cases z.1
        · rw [ew] at z
          cases z
          exact ⟨r2, g2, t2⟩
      clear h1
      refine ⟨_, rfl, _, rfl, kd, _, rfl, g, _, rfl, iteFe rfl ?_⟩
      refine ⟨_, rfl, ad, _, rfl, S0.many, rfl, _, rfl, ?_⟩
      by_cases c20 : m = 20
      · refine iteTe (decide_eq_true (by rw [c20]; rfl)) ⟨(by show 0 ≤ sizeLine; decide), end0 S0 (by rw [parse, if_pos c20])⟩
      refine iteFe (decide_eq_false fun z => c20 (by have : (m : Int) = 20 := V.int.inj z; omega)) ?_
      have pe := parse_eq (h := h) c20 hx ek b2
      obtain ⟨h', rfl⟩ : ∃ h', h = h' + 1 := ⟨h - 1, by omega⟩
      refine ⟨_, rfl, ad, _, rfl, S0.at_, _, _, rfl, rfl, _, rfl, ad, _, rfl, S0.many, _, _, rfl, rfl, (by show 0 ≤ sizeLine; decide), fun l1 n1 => ⟨(by show 0 ≤ sizeLine; decide), fun l2 n2 => ⟨(by show 4 ≤ sizeLine; decide), fun t0 n0 => ?_⟩⟩⟩
      dsimp only
      rw [show ((p : Int) + 1) = ((p + 1 : Nat) : Int) by omega, show ((m : Int) + 1) = ((m + 1 : Nat) : Int) by omega]
      have q1 := Same.new (o := .lst []) n1
      have q2 := Same.new (o := .lst []) n2
      have q3 := Same.new (o := .tup [V.int ((p + 1 : Nat) : Int), V.int ((m + 1 : Nat) : Int), .ref l1, .ref l2]) n0
      have S1 := ((S0.same q1).same q2).same q3
      have f1 := q3 _ _ (q2 _ _ (upd_same (H := H) (a := l1) (o := .lst [])))
      have f2 := q3 _ _ (upd_same (H := upd H l1 (.lst [])) (a := l2) (o := .lst []))
      have f3 := upd_same (H := upd (upd H l1 (.lst [])) l2 (.lst [])) (a := t0) (o := .tup [V.int ((p + 1 : Nat) : Int), V.int ((m + 1 : Nat) : Int), .ref l1, .ref l2])
      generalize upd (upd (upd H l1 (.lst [])) l2 (.lst [])) t0 (.tup [V.int ((p + 1 : Nat) : Int), V.int ((m + 1 : Nat) : Int), .ref l1, .ref l2]) = H1 at *
      clear q1 q2 q3 n0 n1 n2
      have S2 : TkS K W ws kd wl ad H _ (p + 1) m := S1.put
      refine ⟨t0, _, rfl, SqT.of f3, rfl, _, _, rfl, _, rfl, ad, _, rfl, S1.putA (p + 1), _, _, rfl, _, rfl, ad, _, rfl, S2.putM (m + 1), _, _, rfl, _, _, rfl, rfl, ?_⟩
      have S3 : TkS K W ws kd wl ad H _ (p + 1) (m + 1) := S2.put
      have na : ∀ {y : Addr} {vs : List V}, H1 y = some (.lst vs) → y ≠ ad := fun e z => by
        rw [z, S1.h] at e
        cases e
      have g1 : (upd (upd H1 ad (.dK (kvH (p + 1) m))) ad (.dK (kvH (p + 1) (m + 1)))) l1 = some (.lst []) := by
        rw [upd_ne (na f1), upd_ne (na f1)]
        exact f1
      have g2 : (upd (upd H1 ad (.dK (kvH (p + 1) m))) ad (.dK (kvH (p + 1) (m + 1)))) l2 = some (.lst []) := by
        rw [upd_ne (na f2), upd_ne (na f2)]
        exact f2
      generalize upd (upd H1 ad (.dK (kvH (p + 1) m))) ad (.dK (kvH (p + 1) (m + 1))) = H3 at *
      clear f1 f2 f3 na S1 S2
      obtain ⟨r3, gx3, tx3⟩ := getx S3.k
      refine ⟨_, rfl, _, rfl, kd, _, rfl, gx3, r3, _, 0, _, rfl, rfl, tx3, ati0, _, rfl, by omega, by omega, for_range (lo := 0) (n := a) (fun i σ H' => ∃ v6 v7 ns sL, σ = [some (.ref kd), some (.ref wl), some (.ref ad), some (.str x), some (.ref sL), some (.ref l2), v6, v7] ∧ ns.length = i ∧ PreI ws (p + 1) ns ∧ TkS K W ws kd wl ad H H' (p + 1 + i) (m + 1) ∧ H' sL = some (.lst (ns.map V.int)) ∧ H' l2 = some (.lst [])) ⟨none, none, [], l1, rfl, rfl, (fun _ _ z => by cases z), S3, g1, g2⟩ ?_ ?_⟩
      · rintro i σ H4 hi ⟨v6, v7, ns, sL, rfl, en, pr, S4, hs4, hk4⟩
        dsimp only [gName, tSeq, tAsg]
        refine cut_te (F := tIf _ _ _ _ _) (fun D H5 => Same H4 H5 ∧ H5 D = some (.lst ((intAt ws (p + 1 + i)).toList.map V.int))) (fun Q' hq => ?_) (fun D H5 hD => ?_)
        · refine ⟨_, rfl, ad, _, rfl, S4.at_, _, rfl, wl, _, rfl, .inl (SqL.of S4.w), _, _, rfl, rfl, _, rfl, ?_⟩
          rw [List.length_map]
          cases hy : ws[p + 1 + i]? with
          | none =>
            have lp : ¬ p + 1 + i < ws.length := fun z => by
              rw [List.getElem?_eq_getElem z] at hy
              cases hy
            refine iteFe (decide_eq_false (by omega)) ⟨(by show 0 ≤ sizeLine; decide), fun D nD => hq D _ ⟨Same.new nD, ?_⟩⟩
            rw [upd_same]
            unfold intAt
            rw [hy]
            rfl
          | some y =>
            have lp := (List.getElem?_eq_some_iff.mp hy).1
            refine iteTe (decide_eq_true (by omega)) ⟨_, rfl, _, rfl, ad, _, rfl, S4.at_, wl, _, _, _, rfl, rfl, SqL.of S4.w, atI_nat (j := p + 1 + i) (by rw [List.getElem?_map, hy]; rfl), y, rfl, lx y (List.mem_of_getElem? hy), fun H5 D s5 hD => hq D _ ⟨s5, ?_⟩⟩
            rw [hD]
            unfold intAt
            rw [hy]
            rfl
        · obtain ⟨s5, hD⟩ := hD
          have S5 := S4.same s5
          have hs5 := s5 _ _ hs4
          have hk5 := s5 _ _ hk4
          clear s5 S4 hs4 hk4
          refine ⟨_, rfl, (by show 0 ≤ sizeLine; decide), fun en_ nn => ?_⟩
          have kn := Same.new (o := .lst []) nn
          have S6 := S5.same kn
          refine ⟨.list ((intAt ws (p + 1 + i)).toList.map .int), .list [], .lst (SqL.of (kn _ _ hD)) (DpAll.ints _), .lst (SqL.of upd_same) .nil, iD_shaped _, rfl, _, rfl, ?_⟩
          have hs6 := kn _ _ hs5
          have hk6 := kn _ _ hk5
          have hD6 := kn _ _ hD
          rw [eqv_nil]
          generalize upd H5 en_ (.lst []) = H6 at *
          cases ei : intAt ws (p + 1 + i) with
          | none =>
            refine iteTe rfl ⟨(by show 0 ≤ sizeLine; decide), end0 S6 ?_⟩
            rw [pe, ints_no pr (by omega) (by rw [en]; exact ei), en]
          | some z =>
            rw [ei] at hD6
            refine iteFe rfl ?_
            refine ⟨_, rfl, _, rfl, sL, D, _, _, rfl, rfl, hs6, hD6, few1 0 (by rw [List.length_map]; show ns.length + 1 ≤ 100; omega), fun p5 n5 => ?_⟩
            have k5 := Same.new (o := .lst (ns.map V.int ++ [V.int z])) n5
            have S7 := S6.same k5
            refine ⟨_, rfl, ad, _, rfl, S7.at_, _, _, rfl, rfl, (by show 2 ≤ sizeLine; decide), fun t1 m1 => ?_⟩
            dsimp only
            rw [show ((p + 1 + i : Nat) : Int) + 1 = ((p + 1 + (i + 1) : Nat) : Int) by omega]
            have k6 := Same.new (o := .tup [V.ref p5, V.int ((p + 1 + (i + 1) : Nat) : Int)]) m1
            have S8 := S7.same k6
            have h5 := k6 _ _ (upd_same (H := H6) (a := p5) (o := .lst (ns.map V.int ++ [V.int z])))
            have hk8 := k6 _ _ (k5 _ _ hk6)
            refine ⟨t1, _, rfl, SqT.of upd_same, rfl, _, _, rfl, _, _, rfl, _, rfl, ad, _, rfl, S8.putA (p + 1 + (i + 1)), rfl, ?_⟩
            have nad : ∀ {y : Addr} {vs : List V}, (upd (upd H6 p5 (.lst (ns.map V.int ++ [V.int z]))) t1 (.tup [V.ref p5, V.int ((p + 1 + (i + 1) : Nat) : Int)])) y = some (.lst vs) → y ≠ ad := fun e z => by
              rw [z] at e
              have e2 := e.symm.trans S8.h
              cases e2
            refine ⟨_, _, ns ++ [z], p5, rfl, by rw [List.length_append, en]; rfl, fun j n hj => ?_, S8.put, ?_, ?_⟩
            · by_cases c : j < ns.length
              · rw [List.getElem?_append_left c] at hj
                exact pr j n hj
              · rw [List.getElem?_append_right (by omega)] at hj
                have e0 : j - ns.length = 0 := by
                  have := (List.getElem?_eq_some_iff.mp hj).1
                  simp at this
                  omega
                rw [e0] at hj
                cases hj
                rw [show p + 1 + j = p + 1 + i by omega]
                exact ei
            · rw [upd_ne (nad h5), h5, List.map_append]
              rfl
            · rw [upd_ne (nad hk8)]
              exact hk8
      rintro σ H4 ⟨v6, v7, ns, sL, rfl, en, pr, S4, hs4, hk4⟩
      rw [ints_yes pr en] at pe
      dsimp only at pe
      obtain ⟨r4, gx4, tx4⟩ := getx S4.k
      refine ⟨_, rfl, _, rfl, kd, _, rfl, gx4, r4, _, 1, _, rfl, rfl, tx4, atI_nat (j := 1) rfl, _, rfl, by omega, by omega, for_range (lo := 0) (n := b) (fun j σ H' => ∃ v6 v7 ks us kL q2 m2, σ = [some (.ref kd), some (.ref wl), some (.ref ad), some (.str x), some (.ref sL), some (.ref kL), v6, v7] ∧ parseK (kdS L) ws (h' + 1) j (p + 1 + a) (m + 1) = .inl (ks, q2, m2) ∧ us.length = j ∧ DpAll K H' us (ks.map (Pt.toD L)) ∧ TkS K W ws kd wl ad H H' q2 m2 ∧ H' sL = some (.lst (ns.map V.int)) ∧ H' kL = some (.lst us)) ⟨v6, v7, [], [], l2, p + 1 + a, m + 1, rfl, rfl, rfl, .nil, S4, hs4, hk4⟩ ?_ ?_⟩
      · rintro j σ H5 hj ⟨v6, v7, ks, us, kL, q2, m2, rfl, pk, eu, du, S5, hs5, hk5⟩
        have mm := parseK_m (show m + 1 ≤ 20 by omega) pk
        have lks := parseK_len pk
        have snoc := parseK_snoc (kd := kdS L) (ws := ws) (h := h' + 1) (j := j) (q := p + 1 + a) (m := m + 1)
        rw [pk] at snoc
        dsimp only at snoc
        have na5 : ∀ {y : Addr} {vs : List V}, H5 y = some (.lst vs) → y ≠ ad := fun e z => by
          rw [z, S5.h] at e
          cases e
        refine ⟨_, rfl, _, rfl, _, rfl, h', rfl, kd, wl, ad, ws, q2, m2, rfl, ne, S5.k, S5.w, S5.h, lo, jo, ko, so, lw, lx, mm.2, by omega, fun t j3 m3 e3 H6 D v c6 h6 hD dD => ?_, fun q e3 H6 D m3 c6 h6 hD => ?_⟩
        · rw [e3] at snoc
          have S6 := S5.chg c6 h6
          have hs6 := c6 _ _ hs5 (na5 hs5)
          have hk6 := c6 _ _ hk5 (na5 hk5)
          have fl : flatDs (ks.map (Pt.toD L)) = true := flat_part fun d hd => by
            obtain ⟨t, _, rfl⟩ := List.mem_map.mp hd
            exact Pt.flat L t
          have du6 := DpAll.tk (tk_chgD S5.h c6) fl du
          have wf3 := parse_wf mm.2 e3
          refine ⟨_, rfl, (by show 0 ≤ sizeLine; decide), fun en_ nn => ?_⟩
          have kn := Same.new (o := .lst []) nn
          have S7 := S6.same kn
          refine ⟨.list [t.toD L], .list [], .lst (SqL.of (kn _ _ hD)) (.cons (Dp.same kn dD) .nil), .lst (SqL.of upd_same) .nil, lay_shaped (n := 21) (lay_list (n := 20) fun d hd => ?_) (by decide), rfl, _, rfl, ?_⟩
          · rw [List.mem_singleton.mp hd]
            have := Pt.lay so wf3.1
            exact ⟨this.1, by omega⟩
          have hs7 := kn _ _ hs6
          have hk7 := kn _ _ hk6
          have hD7 := kn _ _ hD
          have du7 := DpAll.same kn du6
          have dD7 := Dp.same kn dD
          rw [eqv_nil]
          generalize upd H6 en_ (.lst []) = H7 at *
          refine iteFe rfl ?_
          refine ⟨_, rfl, _, rfl, kL, D, _, _, rfl, rfl, hk7, hD7, few1 0 (by show us.length + 1 ≤ 100; omega), fun p5 n5 => ?_⟩
          have k5 := Same.new (o := .lst (us ++ [v])) n5
          refine ⟨_, _, ks ++ [t], us ++ [v], p5, j3, m3, rfl, snoc, by rw [List.length_append, eu]; rfl, ?_, S7.same k5, k5 _ _ hs7, upd_same⟩
          rw [List.map_append]
          exact DpAll.app (DpAll.same k5 du7) (.cons (Dp.same k5 dD7) .nil)
        · rw [e3] at snoc
          have S6 := S5.chg c6 h6
          refine ⟨_, rfl, (by show 0 ≤ sizeLine; decide), fun en_ nn => ?_⟩
          have kn := Same.new (o := .lst []) nn
          have S7 := S6.same kn
          refine ⟨.list [], .list [], .lst (SqL.of (kn _ _ hD)) .nil, .lst (SqL.of upd_same) .nil, rfl, rfl, _, rfl, iteTe rfl ⟨(by show 0 ≤ sizeLine; decide), end0 S7 ?_⟩⟩
          rw [pe, parseK_bad snoc (by omega)]
      rintro σ H5 ⟨v6, v7, ks, us, kL, q2, m2, rfl, pk, eu, du, S5, hs5, hk5⟩
      rw [pk] at pe
      dsimp only at pe
      have lks := parseK_len pk
      refine ⟨_, rfl, _, rfl, _, rfl, x, sL, kL, ns, us, ks, rfl, hs5, hk5, du, jo, by rw [en, lks]; exact ek, by omega, by omega, fun H6 r s6 d6 => ⟨(by show 1 ≤ sizeLine; decide), fun D nD => ?_⟩⟩
      have kn := Same.new (o := .lst [V.ref r]) nD
      have S7 := (S5.same s6).same kn
      exact kQ _ _ _ pe _ D (.ref r) S7.x S7.h upd_same (Dp.same kn d6)
end
end CS
set_option Elab.async false
set_option maxRecDepth 100000
set_option maxHeartbeats 8000000
set_option linter.unusedVariables false
set_option pp.maxSteps 5000
/-! the law's line read; what is due of a text -/
namespace CS
open PySem L2 RZ LamX
theorem ints_le {ws : List Str} : ∀ {n p q : Nat} {ns : List Int}, p ≤ ws.length → readI n ws p = .inl (ns, q) → q ≤ ws.length
  | 0, p, q, ns, l, h => by cases h; exact l
  | n + 1, p, q, ns, l, h => by
    rw [readI] at h
    split at h
    · cases h
    · next z hz =>
      split at h
      · cases h
      · next e =>
        cases h
        refine ints_le (p := p + 1) ?_ e
        unfold intAt at hz
        cases hw : ws[p]? with
        | none => rw [hw] at hz; cases hz
        | some x => exact (List.getElem?_eq_some_iff.mp hw).1
theorem parse_le {kd : Kinds} {ws : List Str} : ∀ {h p m q m2 : Nat} {t : Pt}, parse kd ws h p m = .inl (t, q, m2) → q ≤ ws.length
  | 0, p, m, q, m2, t, e => by cases e
  | h + 1, p, m, q, m2, t, e => by
    rw [parse] at e
    split at e
    · cases e
    · cases hw : ws[p]? with
      | none => rw [hw] at e; cases e
      | some x =>
        have lp := (List.getElem?_eq_some_iff.mp hw).1
        rw [hw] at e
        dsimp only at e
        cases hk : kd x with
        | none => rw [hk] at e; cases e
        | some ab =>
          obtain ⟨a, b⟩ := ab
          rw [hk] at e
          dsimp only at e
          cases hi : readI a ws (p + 1) with
          | inr q => rw [hi] at e; cases e
          | inl y =>
            obtain ⟨ns, q1⟩ := y
            rw [hi] at e
            dsimp only at e
            split at e
            · cases e
              exact ints_le (by omega) hi
            · split at e
              · cases e
              · next e1 =>
                cases e
                exact parse_le e1
            · split at e
              · cases e
              · split at e
                · cases e
                · next e2 =>
                  cases e
                  exact parse_le e2
theorem same_chg {H H1 H2 : Hp} {p : Addr} (s : Same H H1) (n : H p = none) (c : Chg H1 p H2) : Same H H2 := fun b o e => c b o (s b o e) (ne_of_none e n)
section
variable {P : Program} {w : World} {K : PySem.W.Frag} {mg : Str → Option Value} {base : Heap} {L : Shp} {W : List WdP}
theorem take_all {f : Addr} {fd : FuncData} (F : Df K mg "_law_take" sLawTake ["kinds", "words", "here"] f fd)
    {f1 : Addr} {fd1 : FuncData} (D1 : Df K mg "_law_joined" sLawJoined ["word", "some", "kids"] f1 fd1) (G1 : FnOk P w K mg base CX0 1 f1 fd1 ["word", "some", "kids"] (spJoined K L))
    {f2 : Addr} {fd2 : FuncData} (D2 : Df K mg "_law_integer" sLawInteger ["word"] f2 fd2) (G2 : FnOk P w K mg base CX0 1 f2 fd2 ["word"] (spLInt)) (T : Bt mg) : ∀ h : Nat, FnOk P w K mg base CX0 (h + 3) f fd ["kinds", "words", "here"] (spTake K L W h)
  | 0 => by
    refine ok_law_take (h := 0) F D1 G1 D2 G2 T F ?_
    refine F.F.ok scLawTake (fun vs H Q E h => ?_) (fun cdv A outer s H vs Q E hr h => ?_)
    · obtain ⟨m, e, _⟩ := h
      cases e
    · obtain ⟨m, e, _⟩ := h
      cases e
  | h + 1 => by
    refine ok_law_take (h := h + 1) F D1 G1 D2 G2 T F ?_
    have e : spTakeP K L W (h + 1) = spTake K L W h := by
      funext vs H Q E
      refine propext ⟨fun ⟨m, e, q⟩ => ?_, fun q => ⟨h, rfl, q⟩⟩
      cases e
      exact q
    rw [e]
    exact take_all F D1 G1 D2 G2 T h
theorem ok_law_take20 {f : Addr} {fd : FuncData} (F : Df K mg "_law_take" sLawTake ["kinds", "words", "here"] f fd)
    {f1 : Addr} {fd1 : FuncData} (D1 : Df K mg "_law_joined" sLawJoined ["word", "some", "kids"] f1 fd1) (G1 : FnOk P w K mg base CX0 1 f1 fd1 ["word", "some", "kids"] (spJoined K L))
    {f2 : Addr} {fd2 : FuncData} (D2 : Df K mg "_law_integer" sLawInteger ["word"] f2 fd2) (G2 : FnOk P w K mg base CX0 1 f2 fd2 ["word"] (spLInt)) (T : Bt mg) : FnOk P w K mg base CX0 23 f fd ["kinds", "words", "here"] (spTake K L W 20) := take_all F D1 G1 D2 G2 T 20
def spReadL (K : PySem.W.Frag) (L : Shp) (W : List WdP) : Sp := fun vs H Q _ => ∃ (kd : Addr) (x : Str), vs = [.ref kd, .str x] ∧ WdG K H kd W ∧ LOk L ∧ JOk L ∧ KOk L W ∧ SOk L ∧ x.length ≤ 3000 ∧
 (∀ t, rdL L x = .inl t → ∀ H' D v, Same H H' → H' D = some (.lst [v]) → Dp K H' v (t.toD L) → Q (.ref D) H') ∧ (∀ q, rdL L x = .inr q → ∀ H', Same H H' → Q (.int (q : Int)) H')
abbrev nsLawReadLine : List Str := ["kinds", "line", "here", "words", "found"]
theorem scLawReadLine : FnScope nsLawReadLine ["kinds", "line"] (defScope sLawReadLine) := ⟨rfl, rfl, rfl, by decide +kernel, rfl, by decide +kernel, by decide +kernel⟩
theorem ok_law_read_line {f : Addr} {fd : FuncData} (F : Df K mg "_law_read_line" sLawReadLine ["kinds", "line"] f fd)
    {f1 : Addr} {fd1 : FuncData} (D1 : Df K mg "_law_take" sLawTake ["kinds", "words", "here"] f1 fd1) (G1 : FnOk P w K mg base CX0 23 f1 fd1 ["kinds", "words", "here"] (spTake K L W 20))
    (T : Bt mg) : FnOk P w K mg base CX0 24 f fd ["kinds", "line"] (spReadL K L W) := by
  refine F.F.ok scLawReadLine (fun vs H Q E h => ?_) (fun cdv A outer s H vs Q E hr h => ?_)
  · obtain ⟨kd, x, rfl, _⟩ := h
    rfl
  · obtain ⟨kd, x, rfl, hk, lo, jo, ko, so, hx, kQ, kE⟩ := h
    have hu := hu_of hr
    refine ⟨_, (pss_cons (ps_par (i := 2) (j := 3) (by rfl) scLawReadLine.nd rfl rfl (by decide) rfl rfl (pa_cons (pe_disp (pps_cons pe_str pe_int (pps_cons pe_str pe_int pps_nil)) (by rfl) (by rfl) (by decide) (by decide)) (pa_cons (pe_split (pv 1) pe_str) pa_nil)) (by rfl))
      (pss_cons (ps_set (i := 4) scLawReadLine.nd rfl (Or.inl rfl) (pe_call G1 (hr.mono (by omega)) (by rfl) D1.g D1.F.kp D1.b .nil pass0 (pa_cons (pv 0) (pa_cons (pv 3) (pa_cons (pv 2) pa_nil)))))
      (pss_one (ps_ret (pe_ifExp (PW.pt (pw_and (pt_cmpR (op_neD hr.units) (pv 4) (pe_lst pa_nil) (nomark _)) (pw_and1 (pt_cmpR op_eq (pe_dget hu (pv 2) pe_str (fun _ _ => rfl)) (pe_callB call_len_seq (by rfl) T.len PySem.boot_len (pa_cons (pv 3) pa_nil)) (nomark _))))) (pv 4) (pe_dget hu (pv 2) pe_str (fun _ _ => rfl))))))), ?_⟩
    obtain ⟨lw, lx⟩ := split_len x 32 (by decide)
    have hm : mergeK [] (kvH 0 0) = kvH 0 0 := mergeK_app (kvs := []) (more := kvH 0 0) (by decide +kernel)
    refine fun p np => ⟨upd_same, kvH 0 0, rfl, by decide, _, rfl, ⟨_, rfl⟩, x, sgn 32, rfl, rfl, rfl, Nat.le_trans (Nat.add_le_add_right hx 2) (by decide), fun wl nw => ⟨_, _, rfl, ?_⟩⟩
    rw [hm] at nw ⊢
    have npw : p ≠ wl := ne_of_none upd_same nw
    have s0 : Same H (upd (upd (upd H p (.dK [])) p (.dK (kvH 0 0))) wl (.lst ((Txt.split x (sgn 32)).map V.str))) := fun b o e => by
      rw [upd_ne (ne_of_none _ nw), upd_ne (ne_of_none e np), upd_ne (ne_of_none e np)]
      · exact e
      · exact o
      · rw [upd_ne (ne_of_none e np), upd_ne (ne_of_none e np)]
        exact e
    have hp1 : (upd (upd (upd H p (.dK [])) p (.dK (kvH 0 0))) wl (.lst ((Txt.split x (sgn 32)).map V.str))) p = some (.dK (kvH 0 0)) := by
      rw [upd_ne npw]
      exact upd_same
    have hw1 : (upd (upd (upd H p (.dK [])) p (.dK (kvH 0 0))) wl (.lst ((Txt.split x (sgn 32)).map V.str))) wl = some (.lst ((Txt.split x (sgn 32)).map V.str)) := upd_same
    generalize upd (upd (upd H p (.dK [])) p (.dK (kvH 0 0))) wl (.lst ((Txt.split x (sgn 32)).map V.str)) = H1 at *
    have nk : kd ≠ p := fun z => by
      obtain ⟨kvs, a, _⟩ := hk
      rw [z, np] at a
      cases a
    have hk1 : WdG K H1 kd W := hk.tk (tk_same s0) fun kvs e => s0 _ _ e
    refine ⟨_, rfl, _, rfl, _, rfl, kd, wl, p, _, 0, 0, rfl, nk, hk1, hw1, hp1, lo, jo, ko, so, Nat.le_trans lw (Nat.le_trans (Nat.succ_le_succ hx) (by decide)), fun y hy => Nat.le_trans (lx y hy) hx, by omega, by omega, fun t j m2 e H2 D v c2 h2 hD dD => ?_, fun q e H2 D m2 c2 h2 hD => ?_⟩
    · have s2 := same_chg s0 np c2
      have pw := parse_wf (by omega) e
      have pl := parse_le e
      have hw2 := c2 _ _ hw1 npw.symm
      have rd : rdL L x = if j < (Txt.split x (sgn 32)).length then .inr j else .inl t := by
        unfold rdL
        rw [e]
      refine ⟨_, rfl, (by show 0 ≤ sizeLine; decide), fun en_ nn => ?_⟩
      have kn := Same.new (o := .lst []) nn
      refine ⟨.list [t.toD L], .list [], .lst (SqL.of (kn _ _ hD)) (.cons (Dp.same kn dD) .nil), .lst (SqL.of upd_same) .nil, lay_shaped (n := 21) (lay_list (n := 20) fun d hd => ?_) (by decide), rfl, _, rfl, ?_⟩
      · rw [List.mem_singleton.mp hd]
        have := Pt.lay so pw.1
        exact ⟨this.1, by omega⟩
      have h3 := kn _ _ h2
      have hw3 := kn _ _ hw2
      have hD3 := kn _ _ hD
      have d3 := Dp.same kn dD
      have s3 := s2.trans kn
      rw [eqv_nil]
      generalize upd H2 en_ (.lst []) = H3 at *
      have g3 : DGet H3 p (.str "at") (some (.int (j : Int))) := by
        have := DGet.k (k := Sum.inr "at") h3
        rw [valH_at] at this
        exact this
      refine iteTe rfl ⟨_, rfl, p, _, rfl, g3, _, rfl, wl, _, rfl, .inl (SqL.of hw3), rfl, _, rfl, ?_⟩
      rw [List.length_map]
      by_cases c : j < (Txt.split x (sgn 32)).length
      · rw [if_pos c] at rd
        exact iteFe (decide_eq_false fun z => by have : (j : Int) = _ := V.int.inj z; omega) ⟨_, rfl, p, _, rfl, g3, kE j rd _ s3⟩
      · rw [if_neg c] at rd
        exact iteTe (decide_eq_true (by rw [show j = (Txt.split x (sgn 32)).length by omega])) ⟨_, rfl, kQ t rd _ D v s3 hD3 d3⟩
    · have s2 := same_chg s0 np c2
      have rd : rdL L x = .inr q := by
        unfold rdL
        rw [e]
      refine ⟨_, rfl, (by show 0 ≤ sizeLine; decide), fun en_ nn => ?_⟩
      have kn := Same.new (o := .lst []) nn
      refine ⟨.list [], .list [], .lst (SqL.of (kn _ _ hD)) .nil, .lst (SqL.of upd_same) .nil, rfl, rfl, _, rfl, ?_⟩
      have h3 := kn _ _ h2
      have s3 := s2.trans kn
      generalize upd H2 en_ (.lst []) = H3 at *
      have g3 : DGet H3 p (.str "at") (some (.int (q : Int))) := by
        have := DGet.k (k := Sum.inr "at") h3
        rw [valH_at] at this
        exact this
      exact iteFe rfl (iteFe rfl ⟨_, rfl, p, _, rfl, g3, kE q rd _ s3⟩)
/-- what is due of a text -/
def dueT (L : Shp) (x : Str) : PyData := match rdT L x with
  | .inr (ln, q) => .tuple [.str "text", .int (ln : Int), .int (q : Int)]
  | .inl t => match t.fl L [] with
    | none => .list [t.toD L]
    | some p => .tuple [.str "term", rowD_ p]
def spDue (K : PySem.W.Frag) (L : Shp) : Sp := fun vs H Q _ => ∃ x : Str, vs = [.str x] ∧ x.length ≤ 3000 ∧ LGood L ∧ JOk L ∧ KOk L wdL ∧ SOk L ∧ BOk L ∧ ∀ H' v, Same H H' → Dp K H' v (dueT L x) → Q v H'
abbrev nsLawTermDue : List Str := ["sheet", "lines", "found", "wrong"]
theorem scLawTermDue : FnScope nsLawTermDue ["sheet"] (defScope sLawTermDue) := ⟨rfl, rfl, rfl, by decide +kernel, rfl, by decide +kernel, by decide +kernel⟩
theorem ok_law_term_due {f : Addr} {fd : FuncData} (F : Df K mg "_law_term_due" sLawTermDue ["sheet"] f fd)
    {f1 : Addr} {fd1 : FuncData} (D1 : Df K mg "_law_fault" sLawFault ["thing"] f1 fd1) (G1 : FnOk P w K mg base CX0 3 f1 fd1 ["thing"] (spLFaultB K L))
    {f2 : Addr} {fd2 : FuncData} (D2 : Df K mg "_law_read_line" sLawReadLine ["kinds", "line"] f2 fd2) (G2 : FnOk P w K mg base CX0 24 f2 fd2 ["kinds", "line"] (spReadL K L wdL))
    {f3 : Addr} {fd3 : FuncData} (D3 : Df K mg "_law_paper_words" sLawPaperWords [] f3 fd3) (G3 : FnOk P w K mg base CX0 1 f3 fd3 [] (spWds K))
    (T : Bt mg) : FnOk P w K mg base CX0 25 f fd ["sheet"] (spDue K L) := by
  refine F.F.ok scLawTermDue (fun vs H Q E h => ?_) (fun cdv A outer s H vs Q E hr h => ?_)
  · obtain ⟨x, rfl, _⟩ := h
    rfl
  · obtain ⟨x, rfl, hx, lg, jo, ko, so, bk, k⟩ := h
    refine ⟨_, (pss_cons (ps_set (i := 1) scLawTermDue.nd rfl (Or.inl rfl) (pe_split (pv 0) pe_str))
      (pss_cons (ps_set (i := 2) scLawTermDue.nd rfl (Or.inl rfl) (pe_call G2 (hr.mono (by omega)) (by rfl) D2.g D2.F.kp D2.b .nil pass0 (pa_cons (pe_call0 G3 (hr.mono (by omega)) (by rfl) D3.g D3.F.kp D3.b .nil pass0) (pa_cons (pe_ix ix_list (pv 1) pe_int (fun _ _ => rfl)) pa_nil))))
      (pss_cons (ps_if (pt_not (pt_val (pe_callB (id := "isinstance") (r := rIsi K) call_isi (by rfl) T.isinstance (by decide +kernel) (pa_cons (pv 2) (pa_cons (pe_bltn (v := .ty "list") (by rfl) T.list (by decide +kernel) rfl) pa_nil))))) (pss_one (ps_ret (pe_tup (pa_cons pe_str (pa_cons pe_int (pa_cons (pv 2) pa_nil)))))) pss_nil)
      (pss_cons (ps_if (pt_cmpR op_gt (pe_callB call_len_seq (by rfl) T.len PySem.boot_len (pa_cons (pv 1) pa_nil)) pe_int (nomark _)) (pss_one (ps_ret (pe_tup (pa_cons pe_str (pa_cons pe_int (pa_cons pe_int pa_nil)))))) pss_nil)
      (pss_cons (ps_set (i := 3) scLawTermDue.nd rfl (Or.inl rfl) (pe_call G1 (hr.mono (by omega)) (by rfl) D1.g D1.F.kp D1.b .nil pass0 (pa_cons (pe_ix ix_list (pv 2) pe_int (fun _ _ => rfl)) pa_nil)))
      (pss_one (ps_ret (pe_ifExp (pt_cmpR (op_eqD hr.units) (pv 3) (pe_lst pa_nil) (nomark _)) (pv 2) (pe_tup (pa_cons pe_str (pa_cons (pe_ix ix_list (pv 3) pe_int (fun _ _ => rfl)) pa_nil))))))))))), ?_⟩
    obtain ⟨a, r, es⟩ := split_ne x 10 (by decide)
    obtain ⟨lw, lx⟩ := split_len x 10 (by decide)
    refine ⟨_, rfl, ⟨_, rfl⟩, x, sgn 10, rfl, rfl, rfl, Nat.le_trans (Nat.add_le_add_right hx 2) (by decide), fun ls nl => ?_⟩
    have s0 := Same.new (o := .lst ((Txt.split x (sgn 10)).map V.str)) nl
    have h0 : (upd H ls (.lst ((Txt.split x (sgn 10)).map V.str))) ls = some (.lst ((Txt.split x (sgn 10)).map V.str)) := upd_same
    generalize upd H ls (.lst ((Txt.split x (sgn 10)).map V.str)) = H0 at *
    refine ⟨(), rfl, fun H1 d s1 wd => ?_⟩
    have h1 := s1 _ _ h0
    rw [es] at h1
    refine ⟨_, rfl, ls, _, 0, _, rfl, rfl, SqL.of h1, atI_nat (j := 0) rfl, d, a, rfl, wd, lg.1, jo, ko, so, Nat.le_trans (lx a (by rw [es]; exact List.mem_cons_self)) hx, fun t e H2 D v s2 hD dD => ?_, fun q e H2 s2 => ?_⟩
    · have s02 := (s0.trans s1).trans s2
      refine ⟨_, rfl, _, .ty "list", .type "list", .type "list", true, rfl, .ty _, .base (.lst hD), kit_ty (by decide +kernel), true, rfl, ?_⟩
      refine iteFe rfl ?_
      have h2 := s2 _ _ h1
      refine ⟨_, rfl, ls, _, rfl, .inl (SqL.of h2), _, _, rfl, rfl, _, rfl, ?_⟩
      have ed : rdT L x = if 1 < (Txt.split x (sgn 10)).length then .inr (1, 0) else .inl t := by
        unfold rdT
        rw [es]
        dsimp only [List.headD]
        rw [e]
      rw [List.length_map]
      by_cases c : 1 < (Txt.split x (sgn 10)).length
      · rw [if_pos c] at ed
        rw [es] at c
        refine iteTe (decide_eq_true (by show (1 : Int) < _; omega)) ⟨(by show 3 ≤ sizeLine; decide), fun b nb => k _ _ (s02.trans (Same.new nb)) ?_⟩
        unfold dueT
        rw [ed]
        exact .tup (SqT.of upd_same) (.cons (.str _) (.cons (.int _) (.cons (.int _) .nil)))
      · rw [if_neg c] at ed
        rw [es] at c
        refine iteFe (decide_eq_false (by show ¬ (1 : Int) < _; omega)) ?_
        obtain ⟨wf, w20⟩ := rdT_wf ed
        refine ⟨_, rfl, D, _, 0, _, rfl, rfl, SqL.of hD, atI_nat (j := 0) rfl, v, t, rfl, dD, lg, bk, so, wf, w20, fun H3 D3 s3 fl3 => ?_⟩
        have hD3 := s3 _ _ hD
        have d3 := Dp.same s3 dD
        have s03 := s02.trans s3
        refine ⟨_, rfl, (by show 0 ≤ sizeLine; decide), fun en_ nn => ?_⟩
        have kn := Same.new (o := .lst []) nn
        cases ef : t.fl L [] with
        | none =>
          rw [ef] at fl3
          refine ⟨.list [], .list [], .lst (SqL.of (kn _ _ fl3)) .nil, .lst (SqL.of upd_same) .nil, rfl, rfl, _, rfl, iteTe rfl ⟨_, rfl, k _ _ (s03.trans kn) ?_⟩⟩
          unfold dueT
          rw [ed]
          dsimp only
          rw [ef]
          exact .lst (SqL.of (kn _ _ hD3)) (.cons (Dp.same kn d3) .nil)
        | some p =>
          rw [ef] at fl3
          obtain ⟨q, hq1, hq2⟩ := fl3
          refine ⟨.list [rowD_ p], .list [], .lst (SqL.of (kn _ _ hq1)) (.cons (.tup (kn.tup hq2) (DpAll.ints _)) .nil), .lst (SqL.of upd_same) .nil, lay_shaped (n := 2) (lay_list (n := 1) fun d hd => ?_) (by decide), rfl, _, rfl, ?_⟩
          · rw [List.mem_singleton.mp hd]
            refine lay_tup (n := 0) fun d hd => ?_
            obtain ⟨z, _, rfl⟩ := List.mem_map.mp hd
            exact lay_int z
          rw [eqv_nil]
          refine iteFe rfl ⟨_, rfl, D3, _, 0, _, rfl, rfl, SqL.of (kn _ _ hq1), atI_nat (j := 0) rfl, (by show 2 ≤ sizeLine; decide), fun b nb => k _ _ ((s03.trans kn).trans (Same.new nb)) ?_⟩
          unfold dueT
          rw [ed]
          dsimp only
          rw [ef]
          exact .tup (SqT.of upd_same) (.cons (.str _) (.cons (.tup ((Same.new nb).tup (kn.tup hq2)) (DpAll.ints _)) .nil))
    · have ed : rdT L x = .inr (0, q) := by
        unfold rdT
        rw [es]
        dsimp only [List.headD]
        rw [e]
      refine ⟨_, rfl, _, .ty "list", .type "int", .type "list", false, rfl, .ty _, .base (.int _), kit_ty (by decide +kernel), false, rfl, ?_⟩
      refine iteTe rfl ⟨_, rfl, (by show 3 ≤ sizeLine; decide), fun b nb => k _ _ (((s0.trans s1).trans s2).trans (Same.new nb)) ?_⟩
      unfold dueT
      rw [ed]
      exact .tup (SqT.of upd_same) (.cons (.str _) (.cons (.int _) (.cons (.int _) .nil)))
end
end CS
set_option Elab.async false
set_option maxRecDepth 100000
set_option maxHeartbeats 4000000
set_option linter.unusedVariables false
/-! a paper's text is read as that paper -/
namespace CS
open PySem L2
def Pt.wl : Pt → List Str
  | .n0 w ns => w :: ns.map strI
  | .n1 w ns k => w :: (ns.map strI ++ k.wl)
  | .n2 w ns k l => w :: (ns.map strI ++ (k.wl ++ l.wl))
theorem Pt.wl_ne (t : Pt) : t.wl ≠ [] := by cases t <;> simp [Pt.wl]
theorem jnL_app (c : Nat) : ∀ {ps qs : List (List Nat)}, ps ≠ [] → qs ≠ [] → jnL c (ps ++ qs) = jnL c ps ++ c :: jnL c qs
  | [], _, h, _ => absurd rfl h
  | [p], [], _, h => absurd rfl h
  | [p], q :: r, _, _ => rfl
  | p :: p2 :: ps, qs, _, h => by
    have := jnL_app c (ps := p2 :: ps) (qs := qs) (by simp) h
    show p ++ c :: jnL c (p2 :: ps ++ qs) = (p ++ c :: jnL c (p2 :: ps)) ++ c :: jnL c qs
    rw [this]
    simp
theorem ls_joinT (ws : List Str) : lsS (Txt.join (sgn 32) ws) = jnL 32 (ws.map lsS) := by
  rw [show Txt.join (sgn 32) ws = Str.join (sgn 32) ws from TL.join_eq _ _, ls_join]
theorem Pt.ts_wl : ∀ t : Pt, lsS t.ts = jnL 32 (t.wl.map lsS) := fun t => by
  induction t with
  | n0 w ns => exact ls_joinT _
  | n1 w ns k i1 =>
    show lsS (Txt.join (sgn 32) (w :: (ns.map strI ++ [k.ts]))) = jnL 32 ((w :: (ns.map strI ++ k.wl)).map lsS)
    have nk : k.wl.map lsS ≠ [] := by simpa using k.wl_ne
    rw [ls_joinT, ← List.cons_append, ← List.cons_append, List.map_append, List.map_append, jnL_app 32 (by simp) (by simp), jnL_app 32 (by simp) nk]
    show _ ++ 32 :: lsS k.ts = _
    rw [i1]
  | n2 w ns k l i1 i2 =>
    show lsS (Txt.join (sgn 32) (w :: (ns.map strI ++ [k.ts, l.ts]))) = jnL 32 ((w :: (ns.map strI ++ (k.wl ++ l.wl))).map lsS)
    have nk : k.wl.map lsS ≠ [] := by simpa using k.wl_ne
    have nl : l.wl.map lsS ≠ [] := by simpa using l.wl_ne
    rw [ls_joinT, ← List.cons_append, ← List.cons_append, List.map_append, List.map_append, jnL_app 32 (by simp) (by simp), List.map_append, jnL_app 32 (by simp) (by simp [Pt.wl_ne]), jnL_app 32 nk nl]
    show _ ++ 32 :: (lsS k.ts ++ 32 :: lsS l.ts) = _
    rw [i1, i2]
/-- the words are free of a sign -/
def WFree (L : Shp) (c : Nat) : Prop := ∀ w s, shpOf L w = some s → c ∉ lsS w
theorem wfree_of {L : Shp} {c : Nat} (h : (L.all fun p => decide (c ∉ lsS p.1)) = true) : WFree L c := fun w s e => of_decide_eq_true (List.all_eq_true.mp h _ (shpOf_mem e))
theorem wfree_kd {L : Shp} {c : Nat} (f : WFree L c) {w : Str} {q : Nat × Nat} (h : kdS L w = some q) : c ∉ lsS w := by
  unfold kdS at h
  obtain ⟨s, hs, _⟩ := Option.map_eq_some_iff.mp h
  exact f w s hs
theorem Pt.wl_free {L : Shp} {c : Nat} (f : WFree L c) (hc : c < 45) : ∀ {t : Pt}, t.Wf (kdS L) → ∀ x ∈ t.wl, c ∉ lsS x := fun {t} wf => by
  have hI : ∀ (ns : List Int), ∀ x ∈ ns.map strI, c ∉ lsS x := fun ns x hx => by
    obtain ⟨n, _, rfl⟩ := List.mem_map.mp hx
    exact strI_free hc
  induction t with
  | n0 w ns =>
    intro x hx
    rcases List.mem_cons.mp hx with rfl | hx
    · exact wfree_kd f wf
    · exact hI ns x hx
  | n1 w ns k i1 =>
    intro x hx
    rcases List.mem_cons.mp hx with rfl | hx
    · exact wfree_kd f wf.1
    · rcases List.mem_append.mp hx with hx | hx
      · exact hI ns x hx
      · exact i1 wf.2 x hx
  | n2 w ns k l i1 i2 =>
    intro x hx
    obtain ⟨b, hb⟩ := wf.1
    rcases List.mem_cons.mp hx with rfl | hx
    · exact wfree_kd f hb
    · rcases List.mem_append.mp hx with hx | hx
      · exact hI ns x hx
      · rcases List.mem_append.mp hx with hx | hx
        · exact i1 wf.2.1 x hx
        · exact i2 wf.2.2 x hx
theorem Pt.split_ts {L : Shp} (f : WFree L 32) {t : Pt} (wf : t.Wf (kdS L)) : Txt.split t.ts (sgn 32) = t.wl := by
  rw [split_eq _ 32 (by decide), Pt.ts_wl, spl_jn 32 (by simpa using t.wl_ne) (fun p hp => ?_), List.map_map]
  · refine (List.map_congr_left fun x _ => ?_).trans (List.map_id _)
    exact ofL_lsS x
  · obtain ⟨x, hx, rfl⟩ := List.mem_map.mp hp
    exact Pt.wl_free f (by decide) wf x hx
theorem preI_of {ws : List Str} {p : Nat} {ns : List Int} {r a : List Str} (h : ws = a ++ (ns.map strI ++ r)) (ha : a.length = p) (sm : ∀ n ∈ ns, n.natAbs < 10 ^ 4) : PreI ws p ns := fun i n hn => by
  have li := (List.getElem?_eq_some_iff.mp hn).1
  unfold intAt
  have : ws[p + i]? = some (strI n) := by
    rw [h, List.getElem?_append_right (by omega), List.getElem?_append_left (by rw [List.length_map]; omega), List.getElem?_map, show p + i - a.length = i by omega, hn]
    rfl
  rw [this]
  exact strI_read (Nat.lt_of_lt_of_le (sm n (List.mem_of_getElem? hn)) (by decide))
theorem parse_wl {L : Shp} : ∀ {t : Pt}, t.Wf (kdS L) → t.Sm → ∀ {ws a r : List Str} {h q m : Nat}, ws = a ++ (t.wl ++ r) → a.length = q → t.words ≤ h → m + t.words ≤ 20 → parse (kdS L) ws h q m = .inl (t, q + t.wl.length, m + t.words) := fun {t} => by
  induction t with
  | n0 w ns =>
    intro wf sm ws a r h q m e ea hh hm
    obtain ⟨h, rfl⟩ : ∃ h', h = h' + 1 := ⟨h - 1, by simp [Pt.words] at hh; omega⟩
    have hw : ws[q]? = some w := by rw [e, List.getElem?_append_right (by omega), show q - a.length = 0 by omega]; rfl
    have wf : kdS L w = some (ns.length, 0) := wf
    have hp : PreI ws (q + 1) ns := preI_of (a := a ++ [w]) (r := r) (by rw [e]; simp [Pt.wl]) (by simp [ea]) sm.2.2
    have hm : m + 1 ≤ 20 := hm
    rw [parse_eq (by omega) hw wf (by decide), ints_yes hp rfl]
    dsimp only
    rw [parseK]
    dsimp only [Pt.mk]
    show Sum.inl (Pt.n0 w ns, q + 1 + ns.length, m + 1) = Sum.inl (Pt.n0 w ns, q + (w :: ns.map strI).length, m + 1)
    rw [List.length_cons, List.length_map, show q + 1 + ns.length = q + (ns.length + 1) by omega]
  | n1 w ns k i1 =>
    intro wf sm ws a r h q m e ea hh hm
    have hh2 : k.words + 1 ≤ h := hh
    have hm2 : m + (k.words + 1) ≤ 20 := hm
    obtain ⟨h, rfl⟩ : ∃ h', h = h' + 1 := ⟨h - 1, by omega⟩
    have hw : ws[q]? = some w := by rw [e, List.getElem?_append_right (by omega), show q - a.length = 0 by omega]; rfl
    have hp : PreI ws (q + 1) ns := preI_of (a := a ++ [w]) (r := k.wl ++ r) (by rw [e]; simp [Pt.wl]) (by simp [ea]) sm.1.2.2
    have e1 := i1 wf.2 sm.2 (ws := ws) (a := a ++ (w :: ns.map strI)) (r := r) (h := h) (q := q + 1 + ns.length) (m := m + 1) (by rw [e]; simp [Pt.wl]) (by simp [ea]; omega) (by omega) (by omega)
    rw [parse_eq (by omega) hw wf.1 (by decide), ints_yes hp rfl]
    dsimp only
    rw [parseK, e1]
    dsimp only
    rw [parseK]
    dsimp only [Pt.mk]
    show Sum.inl (Pt.n1 w ns k, q + 1 + ns.length + k.wl.length, m + 1 + k.words) = Sum.inl (Pt.n1 w ns k, q + (w :: (ns.map strI ++ k.wl)).length, m + (k.words + 1))
    rw [List.length_cons, List.length_append, List.length_map, show q + 1 + ns.length + k.wl.length = q + (ns.length + k.wl.length + 1) by omega, show m + 1 + k.words = m + (k.words + 1) by omega]
  | n2 w ns k l i1 i2 =>
    intro wf sm ws a r h q m e ea hh hm
    have hh2 : k.words + l.words + 1 ≤ h := hh
    have hm2 : m + (k.words + l.words + 1) ≤ 20 := hm
    obtain ⟨h, rfl⟩ : ∃ h', h = h' + 1 := ⟨h - 1, by omega⟩
    obtain ⟨b, hb⟩ := wf.1
    have hw : ws[q]? = some w := by rw [e, List.getElem?_append_right (by omega), show q - a.length = 0 by omega]; rfl
    have hp : PreI ws (q + 1) ns := preI_of (a := a ++ [w]) (r := k.wl ++ l.wl ++ r) (by rw [e]; simp [Pt.wl]) (by simp [ea]) sm.1.2.2
    have e1 := i1 wf.2.1 sm.2.1 (ws := ws) (a := a ++ (w :: ns.map strI)) (r := l.wl ++ r) (h := h) (q := q + 1 + ns.length) (m := m + 1) (by rw [e]; simp [Pt.wl]) (by simp [ea]; omega) (by omega) (by omega)
    have e2 := i2 wf.2.2 sm.2.2 (ws := ws) (a := a ++ (w :: (ns.map strI ++ k.wl))) (r := r) (h := h) (q := q + 1 + ns.length + k.wl.length) (m := m + 1 + k.words) (by rw [e]; simp [Pt.wl]) (by simp [ea]; omega) (by omega) (by omega)
    rw [parse, if_neg (by omega), hw]
    dsimp only
    rw [hb]
    dsimp only
    rw [ints_yes hp rfl]
    dsimp only
    rw [e1]
    dsimp only
    rw [e2]
    dsimp only
    show Sum.inl (Pt.n2 w ns k l, q + 1 + ns.length + k.wl.length + l.wl.length, m + 1 + k.words + l.words) = Sum.inl (Pt.n2 w ns k l, q + (w :: (ns.map strI ++ (k.wl ++ l.wl))).length, m + (k.words + l.words + 1))
    rw [List.length_cons, List.length_append, List.length_append, List.length_map, show q + 1 + ns.length + k.wl.length + l.wl.length = q + (ns.length + (k.wl.length + l.wl.length) + 1) by omega, show m + 1 + k.words + l.words = m + (k.words + l.words + 1) by omega]
theorem jnL_free {c d : Nat} (h : d ≠ c) : ∀ {ps : List (List Nat)}, (∀ p ∈ ps, d ∉ p) → d ∉ jnL c ps
  | [], _ => by simp [jnL]
  | [p], f => f p List.mem_cons_self
  | p :: q :: r, f => by
    show d ∉ p ++ c :: jnL c (q :: r)
    intro z
    rcases List.mem_append.mp z with z | z
    · exact f p List.mem_cons_self z
    · rcases List.mem_cons.mp z with z | z
      · exact h z
      · exact jnL_free h (fun x hx => f x (List.mem_cons_of_mem _ hx)) z
theorem Pt.rd_ts {L : Shp} (f32 : WFree L 32) (f10 : WFree L 10) {t : Pt} (wf : t.Wf (kdS L)) (sm : t.Sm) (w20 : t.words ≤ 20) : rdT L t.ts = .inl t := by
  have s10 : Txt.split t.ts (sgn 10) = [t.ts] := by
    rw [split_eq _ 10 (by decide), spl_one 10]
    · show [ofL (lsS t.ts)] = _
      rw [ofL_lsS]
    · rw [Pt.ts_wl]
      refine jnL_free (by decide) fun p hp => ?_
      obtain ⟨x, hx, rfl⟩ := List.mem_map.mp hp
      exact Pt.wl_free f10 (by decide) wf x hx
  have e := parse_wl wf sm (ws := t.wl) (a := []) (r := []) (h := 21) (q := 0) (m := 0) (by simp) rfl (by omega) (by omega)
  have e1 : rdL L t.ts = .inl t := by
    unfold rdL
    rw [Pt.split_ts f32 wf, e]
    exact if_neg (by omega)
  unfold rdT
  rw [s10]
  dsimp only [List.headD]
  rw [e1]
  exact if_neg (show ¬ 1 < 1 by decide)
end CS
set_option Elab.async false
set_option maxRecDepth 100000
set_option maxHeartbeats 4000000
set_option linter.unusedVariables false
/-! the terms' words -/
namespace CS
open PySem L2
abbrev tsL : Shp := [("cash", "N"), ("at", "D"), ("above", "DN"), ("below", "DN"), ("lowest", "D"), ("highest", "D"), ("both", "SS"), ("short", "S"), ("times", "SN"), ("lesser", "SS"), ("greater", "SS"), ("if", "DNSS")]
theorem ts_good : LGood tsL := lgood_of (by decide +kernel)
theorem ts_jok : JOk tsL := jok_of (by decide +kernel)
theorem ts_bok : BOk tsL := bok_of (by decide +kernel)
theorem ts_sok : SOk tsL := sok_of (by decide +kernel)
theorem ts_f32 : WFree tsL 32 := wfree_of (by decide +kernel)
theorem ts_f10 : WFree tsL 10 := wfree_of (by decide +kernel)
theorem ts_kinds (w : Str) : kdS tsL w = (wdOf wdL w).map fun p => (p.1.toNat, p.2.toNat) := by
  have e : wdL = tsL.map fun p => (p.1, ((wpl 0 (lsS p.2)).length : Int), ((kpl 0 (lsS p.2)).length : Int)) := by decide +kernel
  unfold kdS shpOf wdOf
  rw [e, List.find?_map, Option.map_map, Option.map_map, Option.map_map]
  rfl
end CS
set_option Elab.async false
set_option maxRecDepth 100000
set_option maxHeartbeats 8000000
set_option linter.unusedVariables false
set_option pp.maxSteps 5000
/-! drawn papers -/
namespace CS
open PySem L2 RZ LamX
theorem cut_tt {F : (Bool → Hp → Prop) → Prop} {Q : Bool → Hp → Prop} (R : Bool → Hp → Prop) (h1 : ∀ Q' : Bool → Hp → Prop, (∀ c H', R c H' → Q' c H') → F Q') (h2 : ∀ c H', R c H' → Q c H') : F Q := h1 Q h2
/-- good all through, and not deep -/
def Pt.gd (L : Shp) : Pt → Nat → Prop
  | .n0 w ns, n => 1 ≤ n ∧ Pt.good L (.n0 w ns) = true
  | .n1 w ns k, n => 1 ≤ n ∧ Pt.good L (.n1 w ns k) = true ∧ k.gd L (n - 1)
  | .n2 w ns k l, n => 1 ≤ n ∧ Pt.good L (.n2 w ns k l) = true ∧ k.gd L (n - 1) ∧ l.gd L (n - 1)
theorem Pt.gd_fl {L : Shp} : ∀ {t : Pt} {n : Nat} {p : List Int}, t.gd L n → p.length + n ≤ 8 → t.fl L p = none := fun {t} => by
  induction t with
  | n0 w ns =>
    intro n p h hp
    have h1 := h.1
    rw [fl_n0, if_neg (by omega), if_pos h.2]
  | n1 w ns k i1 =>
    intro n p h hp
    have h1 := h.1
    rw [fl_n1, if_neg (by omega), if_pos h.2.1]
    exact i1 h.2.2 (by rw [List.length_append]; show p.length + 1 + (n - 1) ≤ 8; omega)
  | n2 w ns k l i1 i2 =>
    intro n p h hp
    have h1 := h.1
    rw [fl_n2, if_neg (by omega), if_pos h.2.1, i1 h.2.2.1 (by rw [List.length_append]; show p.length + 1 + (n - 1) ≤ 8; omega), i2 h.2.2.2 (by rw [List.length_append]; show p.length + 1 + (n - 1) ≤ 8; omega)]
    rfl
/-- a drawn paper -/
structure PpOk (t : Pt) (n : Nat) : Prop where
  wf : t.Wf (kdS tsL)
  sm : t.Sm
  wd : t.words ≤ 2 ^ (n + 1) - 1
  gd : t.gd tsL (n + 1)
theorem ts_goodL {t : Pt} (wf : t.Wf (kdS tsL)) : t.good tsL = goodL t.ns (bndL t.w) := by
  obtain ⟨s, h1, h2, _⟩ := Pt.wf_at ts_good.1 wf
  exact good_eq ts_bok h1 h2
theorem two_pos (n : Nat) : 1 ≤ 2 ^ n := Nat.pow_pos (by decide)
theorem two_succ (n : Nat) : 2 ^ (n + 1) = 2 * 2 ^ n := by rw [Nat.pow_succ]; omega
theorem PpOk.n0 {w : Str} {ns : List Int} {n : Nat} (h : kdS tsL w = some (ns.length, 0)) (sm : SmW w ns) (g : goodL ns (bndL w) = true) : PpOk (.n0 w ns) n :=
  ⟨h, sm, by have := two_pos n; have := two_succ n; show 1 ≤ _; omega, by omega, by rw [ts_goodL (t := .n0 w ns) h]; exact g⟩
theorem PpOk.n1 {w : Str} {ns : List Int} {k : Pt} {n : Nat} (h : kdS tsL w = some (ns.length, 1)) (sm : SmW w ns) (g : goodL ns (bndL w) = true) (o : PpOk k n) : PpOk (.n1 w ns k) (n + 1) :=
  ⟨⟨h, o.wf⟩, ⟨sm, o.sm⟩, by have := two_succ (n + 1); have := two_pos (n + 1); have := o.wd; show k.words + 1 ≤ _; omega, by omega, by rw [ts_goodL (t := .n1 w ns k) ⟨h, o.wf⟩]; exact g, o.gd⟩
theorem PpOk.n2 {w : Str} {ns : List Int} {k l : Pt} {n : Nat} (h : kdS tsL w = some (ns.length, 2)) (sm : SmW w ns) (g : goodL ns (bndL w) = true) (o : PpOk k n) (o2 : PpOk l n) : PpOk (.n2 w ns k l) (n + 1) :=
  ⟨⟨⟨0, h⟩, o.wf, o2.wf⟩, ⟨sm, o.sm, o2.sm⟩, by have := two_succ (n + 1); have := two_pos (n + 1); have := o.wd; have := o2.wd; show k.words + l.words + 1 ≤ _; omega, by omega, by rw [ts_goodL (t := .n2 w ns k l) ⟨⟨0, h⟩, o.wf, o2.wf⟩]; exact g, o.gd, o2.gd⟩
theorem toD_n0 {w : Str} {ns : List Int} (h : kdS tsL w = some (ns.length, 0)) : (Pt.n0 w ns).toD tsL = .tuple (.str w :: ns.map .int) := by
  have := fill_join (xs := ns.map PyData.int) (ks := []) ts_jok (w := w) (by rw [List.length_map]; exact h)
  show PyData.tuple (.str w :: fill (shL tsL w) (ns.map .int) []) = _
  rw [this]
  split
  · rw [List.append_nil]
  · rfl
theorem toD_n1 {w : Str} {ns : List Int} {k : Pt} (h : kdS tsL w = some (ns.length, 1)) (ni : w ≠ "if") : (Pt.n1 w ns k).toD tsL = .tuple (.str w :: k.toD tsL :: ns.map .int) := by
  have := fill_join (xs := ns.map PyData.int) (ks := [k.toD tsL]) ts_jok (w := w) (by rw [List.length_map]; exact h)
  show PyData.tuple (.str w :: fill (shL tsL w) (ns.map .int) [k.toD tsL]) = _
  rw [this, if_neg ni]
  rfl
theorem toD_n2 {w : Str} {ns : List Int} {k l : Pt} (h : kdS tsL w = some (ns.length, 2)) : (Pt.n2 w ns k l).toD tsL = .tuple (.str w :: (if w = "if" then ns.map .int ++ [k.toD tsL, l.toD tsL] else k.toD tsL :: l.toD tsL :: ns.map .int)) := by
  have := fill_join (xs := ns.map PyData.int) (ks := [k.toD tsL, l.toD tsL]) ts_jok (w := w) (by rw [List.length_map]; exact h)
  show PyData.tuple (.str w :: fill (shL tsL w) (ns.map .int) [k.toD tsL, l.toD tsL]) = _
  rw [this]
  rfl
/-- how many draws at most -/
def drwP (n : Nat) : Nat := 5 * (2 ^ (n + 1) - 1)
theorem drwP_succ (m : Nat) : drwP (m + 1) = 5 + 2 * drwP m := by
  have h1 := two_succ (m + 1)
  have h2 := two_pos (m + 1)
  unfold drwP
  omega
theorem drwP_five (n : Nat) : 5 ≤ drwP n := by
  have h1 := two_succ n
  have h2 := two_pos n
  unfold drwP
  omega
section
variable {P : Program} {w : World} {K : PySem.W.Frag} {mg : Str → Option Value} {base : Heap} {L : Shp} {W : List WdP}
/-- one of some things -/
def spOneAny (K : PySem.W.Frag) : Sp := fun vs H Q _ => ∃ (d c l a : Addr) (k : Nat) (xs : List V), vs = [.ref d, .ref a] ∧ StAt H d c l k ∧ k ≤ 90000 ∧ H a = some (.lst xs) ∧ a ≠ d ∧ a ≠ l ∧ 0 < xs.length ∧ xs.length ≤ 9000 ∧
  ∀ x H', x ∈ xs → StAt H' d c l (k + 1) → Fm d l H H' → Q x H'
abbrev nsLawOf : List Str := ["state", "some"]
theorem scLawOf : FnScope nsLawOf ["state", "some"] (defScope sLawOf) := ⟨rfl, rfl, rfl, by decide +kernel, rfl, by decide +kernel, by decide +kernel⟩
theorem ok_law_ofA {f : Addr} {fd : FuncData} (F : Df K mg "_law_of" sLawOf ["state", "some"] f fd)
    {f1 : Addr} {fd1 : FuncData} (D1 : Df K mg "_law_draw" sDraw ["state", "many"] f1 fd1) (G1 : FnOk P w K mg base CX0 2 f1 fd1 ["state", "many"] (spDraw))
    (T : Bt mg) : FnOk P w K mg base CX0 3 f fd ["state", "some"] (spOneAny K) := by
  refine F.F.ok scLawOf (fun vs H Q E h => ?_) (fun cdv A outer s H vs Q E hr h => ?_)
  · obtain ⟨d, c, l, a, k, xs, rfl, _⟩ := h
    rfl
  · obtain ⟨d, c, l, a, k, xs, rfl, S, hk, ha, nd, nl, l0, l9, q⟩ := h
    refine ⟨_, (pss_one (ps_ret (pe_ix ix_list (pv 1) (pe_call G1 (hr.mono (by decide)) (by rfl) D1.g D1.F.kp D1.b .nil pass0 (pa_cons (pv 0) (pa_cons (pe_callB call_len_seq (by rfl) T.len PySem.boot_len (pa_cons (pv 1) pa_nil)) pa_nil))) (fun _ _ => rfl)))), ?_⟩
    refine ⟨_, rfl, _, rfl, _, rfl, a, _, rfl, .inl (SqL.of ha), d, c, l, k, _, rfl, S, ?_, ?_, by omega, fun r H' r0 r1 S' fm => ?_⟩
    · omega
    · have : (2 : Nat) ^ 200 > 9000 := by decide
      omega
    · obtain ⟨j, rfl⟩ : ∃ j : Nat, r = (j : Int) := ⟨r.toNat, by omega⟩
      have lj : j < xs.length := by omega
      have hj : xs[j]? = some xs[j] := List.getElem?_eq_getElem lj
      exact ⟨a, _, _, _, rfl, rfl, SqL.of (fm _ _ ha nd nl), atI_nat (j := j) hj, q _ _ (List.getElem_mem lj) S' fm⟩
def spPaper (K : PySem.W.Frag) (n : Nat) : Sp := fun vs H Q _ => ∃ (d c l : Addr) (k : Nat), vs = [.ref d, .int ((n + 1 : Nat) : Int)] ∧ StAt H d c l k ∧ k + drwP n ≤ 80000 ∧
  ∀ H' u t k', PpOk t n → k' ≤ k + drwP n → StAt H' d c l k' → Fm d l H H' → Dp K H' u (t.toD tsL) → Q u H'
def spPaperP (K : PySem.W.Frag) (n : Nat) : Sp := fun vs H Q E => ∃ m, n = m + 1 ∧ spPaper K m vs H Q E
theorem strs_mem {x : V} {ws : List Str} (h : x ∈ ws.map V.str) : ∃ w ∈ ws, x = .str w := by
  obtain ⟨w, a, b⟩ := List.mem_map.mp h
  exact ⟨w, a, b.symm⟩
abbrev nsLawPaper : List Str := ["state", "deep", "word", "far", "near"]
theorem scLawPaper : FnScope nsLawPaper ["state", "deep"] (defScope sLawPaper) := ⟨rfl, rfl, rfl, by decide +kernel, rfl, by decide +kernel, by decide +kernel⟩
theorem ok_law_paper {f : Addr} {fd : FuncData} (F : Df K mg "_law_paper" sLawPaper ["state", "deep"] f fd)
    {f1 : Addr} {fd1 : FuncData} (D1 : Df K mg "_law_draw" sDraw ["state", "many"] f1 fd1) (G1 : FnOk P w K mg base CX0 2 f1 fd1 ["state", "many"] (spDraw))
    {f2 : Addr} {fd2 : FuncData} (D2 : Df K mg "_law_of" sLawOf ["state", "some"] f2 fd2) (G2 : FnOk P w K mg base CX0 3 f2 fd2 ["state", "some"] (spOneAny K))
    {n : Nat} (T : Bt mg) {f9 : Addr} {fd9 : FuncData} (D9 : Df K mg "_law_paper" sLawPaper ["state", "deep"] f9 fd9) (G9 : FnOk P w K mg base CX0 (n + 3) f9 fd9 ["state", "deep"] (spPaperP K n)) (n3 : n ≤ 3) : FnOk P w K mg base CX0 (n+4) f fd ["state", "deep"] (spPaper K n) := by
  refine F.F.ok scLawPaper (fun vs H Q E h => ?_) (fun cdv A outer s H vs Q E hr h => ?_)
  · obtain ⟨d, c, l, k, rfl, _⟩ := h
    rfl
  · obtain ⟨d, c, l, k, rfl, S, hk, kk⟩ := h
    refine ⟨_, (pss_cons (ps_if (PW.pt (pw_or (pt_cmpR op_lt (pv 1) pe_int (nomark _)) (pw_or1 (pt_cmpR op_eq (pe_call G1 (hr.mono (by omega)) (by rfl) D1.g D1.F.kp D1.b .nil pass0 (pa_cons (pv 0) (pa_cons pe_int pa_nil))) pe_int (nomark _))))) (pss_cons (ps_set (i := 2) scLawPaper.nd rfl (Or.inl rfl) (pe_call G2 (hr.mono (by omega)) (by rfl) D2.g D2.F.kp D2.b .nil pass0 (pa_cons (pv 0) (pa_cons (pe_lst (pa_cons pe_str (pa_cons pe_str (pa_cons pe_str (pa_cons pe_str (pa_cons pe_str (pa_cons pe_str pa_nil))))))) pa_nil))))
      (pss_cons (ps_set (i := 3) scLawPaper.nd rfl (Or.inl rfl) (pe_op op_sub (pe_call G1 (hr.mono (by omega)) (by rfl) D1.g D1.F.kp D1.b .nil pass0 (pa_cons (pv 0) (pa_cons pe_int pa_nil))) pe_int))
      (pss_cons (ps_if (pt_cmpR op_eq (pv 2) pe_str (nomark _)) (pss_one (ps_ret (pe_tup (pa_cons pe_str (pa_cons (pe_call G2 (hr.mono (by omega)) (by rfl) D2.g D2.F.kp D2.b .nil pass0 (pa_cons (pv 0) (pa_cons (pe_lst (pa_cons (pv 3) (pa_cons pe_int (pa_cons (pe_un un_neg pe_int) pa_nil)))) pa_nil))) pa_nil))))) pss_nil)
      (pss_one (ps_ret (pe_ifExp (pt_cmpR op_in_seq (pv 2) (pe_tup (pa_cons pe_str (pa_cons pe_str pa_nil))) (by rfl)) (pe_tup (pa_cons (pv 2) (pa_cons (pe_call G1 (hr.mono (by omega)) (by rfl) D1.g D1.F.kp D1.b .nil pass0 (pa_cons (pv 0) (pa_cons pe_int pa_nil))) (pa_cons (pv 3) pa_nil)))) (pe_tup (pa_cons (pv 2) (pa_cons (pe_call G1 (hr.mono (by omega)) (by rfl) D1.g D1.F.kp D1.b .nil pass0 (pa_cons (pv 0) (pa_cons pe_int pa_nil))) pa_nil))))))))) pss_nil)
      (pss_cons (ps_set (i := 2) scLawPaper.nd rfl (Or.inl rfl) (pe_call G2 (hr.mono (by omega)) (by rfl) D2.g D2.F.kp D2.b .nil pass0 (pa_cons (pv 0) (pa_cons (pe_lst (pa_cons pe_str (pa_cons pe_str (pa_cons pe_str (pa_cons pe_str (pa_cons pe_str (pa_cons pe_str pa_nil))))))) pa_nil))))
      (pss_cons (ps_set (i := 4) scLawPaper.nd rfl (Or.inl rfl) (pe_call G9 (hr.mono (by omega)) (by rfl) D9.g D9.F.kp D9.b .nil pass0 (pa_cons (pv 0) (pa_cons (pe_op op_sub (pv 1) pe_int) pa_nil))))
      (pss_cons (ps_if (pt_cmpR op_eq (pv 2) pe_str (nomark _)) (pss_one (ps_ret (pe_tup (pa_cons (pv 2) (pa_cons (pv 4) pa_nil))))) pss_nil)
      (pss_cons (ps_if (pt_cmpR op_eq (pv 2) pe_str (nomark _)) (pss_one (ps_ret (pe_tup (pa_cons (pv 2) (pa_cons (pv 4) (pa_cons (pe_op op_sub (pe_call G1 (hr.mono (by omega)) (by rfl) D1.g D1.F.kp D1.b .nil pass0 (pa_cons (pv 0) (pa_cons pe_int pa_nil))) pe_int) pa_nil)))))) pss_nil)
      (pss_cons (ps_if (pt_cmpR op_eq (pv 2) pe_str (nomark _)) (pss_one (ps_ret (pe_tup (pa_cons (pv 2) (pa_cons (pe_call G1 (hr.mono (by omega)) (by rfl) D1.g D1.F.kp D1.b .nil pass0 (pa_cons (pv 0) (pa_cons pe_int pa_nil))) (pa_cons (pe_op op_sub (pe_call G1 (hr.mono (by omega)) (by rfl) D1.g D1.F.kp D1.b .nil pass0 (pa_cons (pv 0) (pa_cons pe_int pa_nil))) pe_int) (pa_cons (pv 4) (pa_cons (pe_call G9 (hr.mono (by omega)) (by rfl) D9.g D9.F.kp D9.b .nil pass0 (pa_cons (pv 0) (pa_cons (pe_op op_sub (pv 1) pe_int) pa_nil))) pa_nil)))))))) pss_nil)
      (pss_one (ps_ret (pe_tup (pa_cons (pv 2) (pa_cons (pv 4) (pa_cons (pe_call G9 (hr.mono (by omega)) (by rfl) D9.g D9.F.kp D9.b .nil pass0 (pa_cons (pv 0) (pa_cons (pe_op op_sub (pv 1) pe_int) pa_nil))) pa_nil)))))))))))), ?_⟩
    have d5 := drwP_five n
    dsimp only [tSeq, tIfS]
    refine cut_tt (F := tOr _ _ _ _) (fun b H' => ∃ k1, k1 ≤ k + 1 ∧ StAt H' d c l k1 ∧ Fm d l H H' ∧ (b = false → ∃ m, n = m + 1)) (fun Q' hq => ?_) (fun b H1 hR => ?_)
    · refine ⟨_, rfl, _, _, rfl, rfl, _, rfl, ?_⟩
      by_cases c0 : n = 0
      · exact iteTe (decide_eq_true (by omega)) (hq _ _ ⟨k, by omega, S, Fm.refl _ _ _, fun z => nomatch z⟩)
      · refine iteFe (decide_eq_false (by omega)) ⟨_, rfl, d, c, l, k, 5, rfl, S, by decide, by decide, by omega, fun r H1 r0 r1 S1 fm1 => ⟨rfl, _, rfl, hq _ _ ⟨k + 1, by omega, S1, fm1, fun _ => ⟨n - 1, by omega⟩⟩⟩⟩
    obtain ⟨k1, hk1, S1, fm1, hn⟩ := hR
    cases b with
    | true =>
      refine iteT ?_
      refine ⟨_, rfl, (by show 6 ≤ sizeLine; decide), fun a1 n1 => ?_⟩
      have g1 := Same.new (o := .lst [V.str "cash", V.str "at", V.str "above", V.str "below", V.str "lowest", V.str "highest"]) n1
      have N1 := S1.neD n1
      refine ⟨d, c, l, a1, k1, _, rfl, S1.same g1, by omega, upd_same, N1.1, N1.2.2, by show 0 < 6; decide, by show 6 ≤ 9000; decide, fun x H2 hx S2 fm2 => ?_⟩
      obtain ⟨w0, hw0, rfl⟩ := strs_mem (ws := ["cash", "at", "above", "below", "lowest", "highest"]) hx
      refine ⟨_, rfl, d, c, l, k1 + 1, 41, rfl, S2, by decide, by decide, by omega, fun r H3 r0 r1 S3 fm3 => ⟨_, _, rfl, rfl, ?_⟩⟩
      have fm : Fm d l H H3 := ((fm1.same g1).trans fm2).trans fm3
      refine ⟨_, rfl, rfl, _, rfl, ?_⟩
      by_cases cc : w0 = "cash"
      · subst cc
        refine iteTe (decide_eq_true rfl) ⟨_, rfl, _, rfl, _, rfl, (by show 3 ≤ sizeLine; decide), fun a2 n2 => ?_⟩
        have g2 := Same.new (o := .lst [V.int (r - 20), V.int 1000, V.int (-1000)]) n2
        have N2 := S3.neD n2
        refine ⟨d, c, l, a2, k1 + 2, _, rfl, S3.same g2, by omega, upd_same, N2.1, N2.2.2, by show 0 < 3; decide, by show 3 ≤ 9000; decide, fun y H4 hy S4 fm4 => ⟨(by show 2 ≤ sizeLine; decide), fun b nb => ?_⟩⟩
        obtain ⟨z, rfl, z1, z2⟩ : ∃ z : Int, y = .int z ∧ -1000 ≤ z ∧ z ≤ 1000 := by
          simp only [List.mem_cons, List.not_mem_nil, or_false] at hy
          rcases hy with rfl | rfl | rfl
          · exact ⟨_, rfl, by omega, by omega⟩
          · exact ⟨_, rfl, by omega, by omega⟩
          · exact ⟨_, rfl, by omega, by omega⟩
        have hkd : kdS tsL "cash" = some ([z].length, 0) := by show kdS tsL "cash" = some (1, 0); decide +kernel
        have kb := Same.new (o := .tup [V.str "cash", V.int z]) nb
        refine kk _ _ (.n0 "cash" [z]) (k1 + 3) (.n0 hkd ⟨by decide +kernel, by show 1 ≤ 8; decide, fun n hn => by rw [List.mem_singleton.mp hn]; omega⟩ ?_) (by omega) (S4.same kb) (((fm.same g2).trans fm4).same kb) ?_
        · rw [show bndL "cash" = [(-1000, 1000)] by decide +kernel]
          simp [goodL, inB, z1, z2]
        · rw [toD_n0 hkd]
          exact .tup (SqT.of upd_same) (.cons (.str _) (.cons (.int _) .nil))
      · refine iteFe (decide_eq_false fun z => cc (V.str.inj z)) ?_
        refine ⟨_, rfl, (by show 2 ≤ sizeLine; decide), fun e1 m1 => ?_⟩
        have g2 := Same.new (o := .tup [V.str "above", V.str "below"]) m1
        have f2 : (upd H3 e1 (.tup [V.str "above", V.str "below"])) e1 = some (.tup [V.str "above", V.str "below"]) := upd_same
        have S4 := S3.same g2
        have fm4 := fm.same g2
        generalize upd H3 e1 (.tup [V.str "above", V.str "below"]) = H4 at *
        refine ⟨e1, _, rfl, .inr (SqT.of f2), rfl, rfl, _, rfl, ?_⟩
        rw [if_neg (show ¬ false = true by decide), show inV (V.str w0) [V.str "above", V.str "below"] = decide (w0 ∈ (["above", "below"] : List Str)) from inV_str (ws := ["above", "below"])]
        by_cases c2 : w0 ∈ (["above", "below"] : List Str)
        · refine iteTe (decide_eq_true c2) ⟨_, rfl, _, rfl, d, c, l, k1 + 2, 3, rfl, S4, by decide, by decide, by omega, fun q H5 q0 q1 S5 fm5 => ⟨_, rfl, (by show 3 ≤ sizeLine; decide), fun b nb => ?_⟩⟩
          have kb := Same.new (o := .tup [V.str w0, V.int q, V.int (r - 20)]) nb
          have hkd : kdS tsL w0 = some ([q, r - 20].length, 0) := by
            show kdS tsL w0 = some (2, 0)
            simp only [List.mem_cons, List.not_mem_nil, or_false] at c2
            rcases c2 with rfl | rfl <;> decide +kernel
          have lw : w0.length ≤ 10 := by
            simp only [List.mem_cons, List.not_mem_nil, or_false] at c2
            rcases c2 with rfl | rfl <;> decide +kernel
          have bn : bndL w0 = [(0, 3), (-1000, 1000)] := by
            simp only [List.mem_cons, List.not_mem_nil, or_false] at c2
            rcases c2 with rfl | rfl <;> decide +kernel
          refine kk _ _ (.n0 w0 [q, r - 20]) (k1 + 3) (.n0 hkd ⟨lw, by show 2 ≤ 8; decide, fun n hn => ?_⟩ ?_) (by omega) (S5.same kb) ((fm4.trans fm5).same kb) ?_
          · simp only [List.mem_cons, List.not_mem_nil, or_false] at hn
            omega
          · rw [bn]
            simp [goodL, inB]
            omega
          · rw [toD_n0 hkd]
            exact .tup (SqT.of upd_same) (.cons (.str _) (.cons (.int _) (.cons (.int _) .nil)))
        · refine iteFe (decide_eq_false c2) ⟨_, rfl, _, rfl, d, c, l, k1 + 2, 3, rfl, S4, by decide, by decide, by omega, fun q H5 q0 q1 S5 fm5 => ⟨(by show 2 ≤ sizeLine; decide), fun b nb => ?_⟩⟩
          have kb := Same.new (o := .tup [V.str w0, V.int q]) nb
          have c3 : w0 = "at" ∨ w0 = "lowest" ∨ w0 = "highest" := by
            simp only [List.mem_cons, List.not_mem_nil, or_false] at c2 hw0
            rcases hw0 with h | h | h | h | h | h
            · exact absurd h cc
            · exact .inl h
            · exact absurd (.inl h) c2
            · exact absurd (.inr h) c2
            · exact .inr (.inl h)
            · exact .inr (.inr h)
          have hkd : kdS tsL w0 = some ([q].length, 0) := by
            show kdS tsL w0 = some (1, 0)
            rcases c3 with rfl | rfl | rfl <;> decide +kernel
          have lw : w0.length ≤ 10 := by
            rcases c3 with rfl | rfl | rfl <;> decide +kernel
          have bn : bndL w0 = [(0, 3)] := by
            rcases c3 with rfl | rfl | rfl <;> decide +kernel
          refine kk _ _ (.n0 w0 [q]) (k1 + 3) (.n0 hkd ⟨lw, by show 1 ≤ 8; decide, fun n hn => ?_⟩ ?_) (by omega) (S5.same kb) ((fm4.trans fm5).same kb) ?_
          · rw [List.mem_singleton.mp hn]
            omega
          · rw [bn]
            simp [goodL, inB]
            omega
          · rw [toD_n0 hkd]
            exact .tup (SqT.of upd_same) (.cons (.str _) (.cons (.int _) .nil))
    | false =>
      obtain ⟨n', rfl⟩ := hn rfl
      have ds := drwP_succ n'
      refine iteF ?_
      refine ⟨_, rfl, (by show 6 ≤ sizeLine; decide), fun a1 m1 => ?_⟩
      have g1 := Same.new (o := .lst [V.str "both", V.str "short", V.str "times", V.str "lesser", V.str "greater", V.str "if"]) m1
      have N1 := S1.neD m1
      refine ⟨d, c, l, a1, k1, _, rfl, S1.same g1, by omega, upd_same, N1.1, N1.2.2, by show 0 < 6; decide, by show 6 ≤ 9000; decide, fun x H2 hx S2 fm2 => ?_⟩
      obtain ⟨w0, hw0, rfl⟩ := strs_mem (ws := ["both", "short", "times", "lesser", "greater", "if"]) hx
      have fm : Fm d l H H2 := (fm1.same g1).trans fm2
      refine ⟨_, rfl, _, rfl, _, _, rfl, rfl, n', rfl, d, c, l, k1 + 1, (by rw [show (V.int ((n' + 1 : Nat) : Int)) = V.int (((n' + 1 + 1 : Nat) : Int) - 1) from congrArg V.int (by omega)]; rfl), S2, by omega, fun H3 u1 t1 k3 ok1 hk3 S3 fm3 d1 => ?_⟩
      have fm13 := fm.trans fm3
      refine ⟨_, rfl, rfl, _, rfl, ?_⟩
      by_cases c1 : w0 = "short"
      · subst c1
        refine iteTe (decide_eq_true rfl) ⟨_, rfl, _, rfl, (by show 2 ≤ sizeLine; decide), fun b nb => ?_⟩
        have kb := Same.new (o := .tup [V.str "short", u1]) nb
        have hkd : kdS tsL "short" = some (([] : List Int).length, 1) := by decide +kernel
        refine kk _ _ (.n1 "short" [] t1) k3 (.n1 hkd ⟨by decide +kernel, by show 0 ≤ 8; decide, fun n hn => nomatch hn⟩ (by decide +kernel) ok1) (by omega) (S3.same kb) (fm13.same kb) ?_
        rw [toD_n1 hkd (by decide +kernel)]
        exact .tup (SqT.of upd_same) (.cons (.str _) (.cons (Dp.same kb d1) .nil))
      refine iteFe (decide_eq_false fun z => c1 (V.str.inj z)) ⟨_, rfl, rfl, _, rfl, ?_⟩
      by_cases c2 : w0 = "times"
      · subst c2
        refine iteTe (decide_eq_true rfl) ⟨_, rfl, _, rfl, _, rfl, d, c, l, k3, 13, rfl, S3, by decide, by decide, by omega, fun r H4 r0 r1 S4 fm4 => ⟨_, _, rfl, rfl, (by show 3 ≤ sizeLine; decide), fun b nb => ?_⟩⟩
        have kb := Same.new (o := .tup [V.str "times", u1, V.int (r - 6)]) nb
        have hkd : kdS tsL "times" = some (([r - 6] : List Int).length, 1) := by show kdS tsL "times" = some (1, 1); decide +kernel
        refine kk _ _ (.n1 "times" [r - 6] t1) (k3 + 1) (.n1 hkd ⟨by decide +kernel, by show 1 ≤ 8; decide, fun n hn => by rw [List.mem_singleton.mp hn]; omega⟩ ?_ ok1) (by omega) (S4.same kb) ((fm13.trans fm4).same kb) ?_
        · rw [show bndL "times" = [(-1000, 1000)] by decide +kernel]
          simp [goodL, inB]
          omega
        · rw [toD_n1 hkd (by decide +kernel)]
          exact .tup (SqT.of upd_same) (.cons (.str _) (.cons (Dp.same kb (Dp.tk (tk_fm fm4 S3) (Pt.flat _ t1) d1)) (.cons (.int _) .nil)))
      refine iteFe (decide_eq_false fun z => c2 (V.str.inj z)) ⟨_, rfl, rfl, _, rfl, ?_⟩
      by_cases c3 : w0 = "if"
      · subst c3
        refine iteTe (decide_eq_true rfl) ⟨_, rfl, _, rfl, d, c, l, k3, 3, rfl, S3, by decide, by decide, by omega, fun q H4 q0 q1 S4 fm4 => ⟨_, rfl, d, c, l, k3 + 1, 21, rfl, S4, by decide, by decide, by omega, fun r H5 r0 r1 S5 fm5 => ⟨_, _, rfl, rfl, _, rfl, ?_⟩⟩⟩
        refine ⟨_, rfl, _, rfl, _, _, rfl, rfl, n', rfl, d, c, l, k3 + 2, (by rw [show (V.int ((n' + 1 : Nat) : Int)) = V.int (((n' + 1 + 1 : Nat) : Int) - 1) from congrArg V.int (by omega)]; rfl), S5, by omega, fun H6 u2 t2 k6 ok2 hk6 S6 fm6 d2 => ⟨(by show 5 ≤ sizeLine; decide), fun b nb => ?_⟩⟩
        have kb := Same.new (o := .tup [V.str "if", V.int q, V.int (r - 10), u1, u2]) nb
        have hkd : kdS tsL "if" = some (([q, r - 10] : List Int).length, 2) := by show kdS tsL "if" = some (2, 2); decide +kernel
        have fmA := (fm4.trans fm5).trans fm6
        refine kk _ _ (.n2 "if" [q, r - 10] t1 t2) k6 (.n2 hkd ⟨by decide +kernel, by show 2 ≤ 8; decide, fun n hn => ?_⟩ ?_ ok1 ok2) (by omega) (S6.same kb) ((fm13.trans fmA).same kb) ?_
        · simp only [List.mem_cons, List.not_mem_nil, or_false] at hn
          omega
        · rw [show bndL "if" = [(0, 3), (-1000, 1000)] by decide +kernel]
          simp [goodL, inB]
          omega
        · rw [toD_n2 hkd, if_pos rfl]
          exact .tup (SqT.of upd_same) (.cons (.str _) (.cons (.int _) (.cons (.int _) (.cons (Dp.same kb (Dp.tk (tk_fm fmA S3) (Pt.flat _ t1) d1)) (.cons (Dp.same kb d2) .nil)))))
      refine iteFe (decide_eq_false fun z => c3 (V.str.inj z)) ⟨_, rfl, _, rfl, ?_⟩
      refine ⟨_, rfl, _, rfl, _, _, rfl, rfl, n', rfl, d, c, l, k3, (by rw [show (V.int ((n' + 1 : Nat) : Int)) = V.int (((n' + 1 + 1 : Nat) : Int) - 1) from congrArg V.int (by omega)]; rfl), S3, by omega, fun H6 u2 t2 k6 ok2 hk6 S6 fm6 d2 => ⟨(by show 3 ≤ sizeLine; decide), fun b nb => ?_⟩⟩
      have kb := Same.new (o := .tup [V.str w0, u1, u2]) nb
      have c4 : w0 = "both" ∨ w0 = "lesser" ∨ w0 = "greater" := by
        simp only [List.mem_cons, List.not_mem_nil, or_false] at hw0
        rcases hw0 with h | h | h | h | h | h
        · exact .inl h
        · exact absurd h c1
        · exact absurd h c2
        · exact .inr (.inl h)
        · exact .inr (.inr h)
        · exact absurd h c3
      have hkd : kdS tsL w0 = some (([] : List Int).length, 2) := by
        rcases c4 with rfl | rfl | rfl <;> decide +kernel
      have lw : w0.length ≤ 10 := by
        rcases c4 with rfl | rfl | rfl <;> decide +kernel
      refine kk _ _ (.n2 w0 [] t1 t2) k6 (.n2 hkd ⟨lw, by show 0 ≤ 8; decide, fun n hn => nomatch hn⟩ (by rcases c4 with rfl | rfl | rfl <;> decide +kernel) ok1 ok2) (by omega) (S6.same kb) ((fm13.trans fm6).same kb) ?_
      rw [toD_n2 hkd, if_neg c3]
      exact .tup (SqT.of upd_same) (.cons (.str _) (.cons (Dp.same kb (Dp.tk (tk_fm fm6 S3) (Pt.flat _ t1) d1)) (.cons (Dp.same kb d2) .nil)))
end
end CS
set_option Elab.async false
set_option maxRecDepth 100000
set_option maxHeartbeats 4000000
set_option linter.unusedVariables false
/-! a text's signs in a list; a text many times over -/
namespace CS
open PySem PySem.Spec PyProof.Rows L2
/-- the signs of a text -/
def sgL (z : Str) : List V := z.cps.toList.map fun c => V.str ⟨#[c]⟩
theorem vals_at : ∀ {xs : List V} {ys : List Value}, xs.length = ys.length → (∀ (i : Nat) (x : V) (y : Value), xs[i]? = some x → ys[i]? = some y → RelV x y) → Vals xs ys
  | [], [], _, _ => .nil
  | [], y :: ys, e, _ => by cases e
  | x :: xs, [], e, _ => by cases e
  | x :: xs, y :: ys, e, h => .cons (h 0 x y rfl rfl) (vals_at (Nat.succ.inj e) fun i a b ha hb => h (i + 1) a b ha hb)
/-- list(a text) -/
theorem call_signs {X : Cx} (hc : X.calm = true) : CallR X (.type "list") (fun xs H Q => ∃ z, xs = [.str z] ∧ z.length ≤ sizeLine ∧ ∀ l, H l = none → Q (.ref l) (upd H l (.lst (sgL z)))) := by
  intro pins s σ H xs us Q I r h
  obtain ⟨z, rfl, hz, q⟩ := h
  obtain ⟨u, rfl, t, rfl⟩ := vals1 r
  refine call_list_str (hn := hz) (I.ok.hd hc) z t fun h' tk acc c kp e its => ?_
  have v : Vals (sgL z) acc.toList := vals_at (by rw [sgL, List.length_map, Array.length_toList, Array.length_toList, its.1]) fun i x y hx hy => by
    obtain ⟨cc, uu, h1, rfl⟩ := its.2 i y (by simpa using hy)
    rw [sgL, List.getElem?_map, Array.getElem?_toList, h1] at hx
    cases hx
    exact ⟨uu, rfl⟩
  exact ⟨.ref s.heap.objs.size, _, I.laid (t' := tk) kp (Nat.le_refl _) (show ObjOk X.prog X.w _ h' _ (.lst (sgL z)) from ⟨by rw [sgL, List.length_map, Array.length_toList]; exact hz, acc.toList, c, v, e⟩), rfl, q _ (I.hok.fresh (Nat.le_refl _))⟩
/-- a text, n times -/
def repS (n : Nat) (z : Str) : Str := ⟨(List.replicate n z.cps).foldl (· ++ ·) #[]⟩
theorem repS_len (n : Nat) (z : Str) : (repS n z).length = n * z.length := by
  have key : ∀ (n : Nat) (a : Array Nat), ((List.replicate n z.cps).foldl (· ++ ·) a).size = a.size + n * z.cps.size := fun n => by
    induction n with
    | zero => intro a; simp
    | succ n ih =>
      intro a
      rw [List.replicate_succ, List.foldl_cons, ih, Array.size_append, Nat.succ_mul]
      omega
  have := key n #[]
  rw [Array.size_empty, Nat.zero_add] at this
  exact this
/-- a text by a number from 2 on -/
theorem op_mulS {X : Cx} : OpR X (binaryOp .Mult) (fun x y H Q => ∃ (z : Str) (n : Nat), x = .str z ∧ y = .int (n : Int) ∧ 2 ≤ n ∧ n ≤ 1000 ∧ 1 ≤ z.length ∧ z.length ≤ 1000 ∧ Q (.str (repS n z)) H) := by
  intro pins s σ H x y v u Q I rx ry h
  obtain ⟨z, n, rfl, rfl, n2, n9, z1, z9, q⟩ := h
  obtain ⟨t, rfl⟩ := rx
  obtain ⟨t', rfl⟩ := ry
  have lz : z.length * n ≤ 1000000 := Nat.mul_le_mul z9 n9
  have ls : (1000000 : Nat) ≤ sizeLine := by decide
  refine P.mul_str ?_ (fun _ _ => ?_) (fun _ _ => ?_) ?_
  · rw [decide_eq_false (by omega), decide_eq_false (by omega)]
    rfl
  · have h1 : (1 : Int) ≤ n := by omega
    have h2 : (2 ^ 63 - 1) / (n : Int) ≥ 1000 := by
      refine (Int.le_ediv_iff_mul_le (by omega)).mpr ?_
      omega
    omega
  · unfold Builtin.Str.tooLong
    rw [Int.toNat_natCast]
    exact decide_eq_false (by omega)
  · rw [if_neg (by omega), if_neg (by
      rw [Bool.or_eq_true, beq_iff_eq, beq_iff_eq]
      omega)]
    refine ⟨?_, .str (repS n z), H, I.tok _, ⟨_, rfl⟩, q⟩
    show (repS n z).length ≤ sizeLine
    rw [repS_len, Nat.mul_comm]
    omega
end CS
set_option Elab.async false
set_option maxRecDepth 100000
set_option maxHeartbeats 8000000
set_option linter.unusedVariables false
set_option pp.maxSteps 5000
/-! a text with something otherwise -/
namespace CS
open PySem L2 RZ LamX
theorem cutS_le (z : Str) (lo hi : Option Int) : (cutS z lo hi).length ≤ z.length := by
  unfold cutS Str.length
  simp only [List.size_toArray, List.length_take, List.length_drop, Array.length_toList]
  omega
theorem cutV_map (ws : List Str) (lo hi : Option Int) : ∃ w2 : List Str, cutV (ws.map V.str) lo hi = w2.map V.str ∧ w2.Sublist ws := by
  unfold cutV
  refine ⟨(ws.drop (HT.sIx (ws.map V.str).length 0 lo)).take (HT.sIx (ws.map V.str).length (ws.map V.str).length hi - HT.sIx (ws.map V.str).length 0 lo), ?_, (List.take_sublist _ _).trans (List.drop_sublist _ _)⟩
  rw [List.map_take, List.map_drop]
theorem sub_sum {w2 ws : List Str} (h : w2.Sublist ws) : (w2.map fun w => w.length + 1).sum ≤ (ws.map fun w => w.length + 1).sum := by
  induction h with
  | slnil => exact Nat.le_refl _
  | cons a h ih => rw [List.map_cons, List.sum_cons]; omega
  | cons_cons a h ih => rw [List.map_cons, List.map_cons, List.sum_cons, List.sum_cons]; omega
theorem split_sum (x : Str) : ((Txt.split x (sgn 32)).map fun w => w.length + 1).sum = x.length + 1 := by
  obtain ⟨a, r, e⟩ := split_ne x 32 (by decide)
  rw [← join_len _ (by rw [e]; simp)]
  congr 1
  rw [len_lsS, ls_joinT, split_eq x 32 (by decide), List.map_map, show (lsS ∘ ofL) = id from funext lsS_ofL, List.map_id, jn_spl, ← len_lsS]
theorem join_le (ws : List Str) : (Txt.join (sgn 32) ws).length ≤ (ws.map fun w => w.length + 1).sum := by
  cases ws with
  | nil => decide +kernel
  | cons a r =>
    have := join_len (a :: r) (by simp)
    omega
theorem add_len (x y : Str) : (x ++ y).length = x.length + y.length := by
  show (x.cps ++ y.cps).size = _
  rw [Array.size_append]
  rfl
section
variable {P : Program} {w : World} {K : PySem.W.Frag} {mg : Str → Option Value} {base : Heap} {L : Shp} {W : List WdP}
theorem paper_all {f : Addr} {fd : FuncData} (F : Df K mg "_law_paper" sLawPaper ["state", "deep"] f fd)
    {f1 : Addr} {fd1 : FuncData} (D1 : Df K mg "_law_draw" sDraw ["state", "many"] f1 fd1) (G1 : FnOk P w K mg base CX0 2 f1 fd1 ["state", "many"] (spDraw))
    {f2 : Addr} {fd2 : FuncData} (D2 : Df K mg "_law_of" sLawOf ["state", "some"] f2 fd2) (G2 : FnOk P w K mg base CX0 3 f2 fd2 ["state", "some"] (spOneAny K)) (T : Bt mg) : ∀ n : Nat, n ≤ 3 → FnOk P w K mg base CX0 (n + 4) f fd ["state", "deep"] (spPaper K n)
  | 0, le => by
    refine ok_law_paper (n := 0) F D1 G1 D2 G2 T F ?_ le
    refine F.F.ok scLawPaper (fun vs H Q E h => ?_) (fun cdv A outer s H vs Q E hr h => ?_)
    · obtain ⟨m, e, _⟩ := h
      cases e
    · obtain ⟨m, e, _⟩ := h
      cases e
  | n + 1, le => by
    refine ok_law_paper (n := n + 1) F D1 G1 D2 G2 T F ?_ le
    have e : spPaperP K (n + 1) = spPaper K n := by
      funext vs H Q E
      refine propext ⟨fun ⟨m, e, q⟩ => ?_, fun q => ⟨n, rfl, q⟩⟩
      cases e
      exact q
    rw [e]
    exact paper_all F D1 G1 D2 G2 T n (by omega)
theorem ok_law_paper3 {f : Addr} {fd : FuncData} (F : Df K mg "_law_paper" sLawPaper ["state", "deep"] f fd)
    {f1 : Addr} {fd1 : FuncData} (D1 : Df K mg "_law_draw" sDraw ["state", "many"] f1 fd1) (G1 : FnOk P w K mg base CX0 2 f1 fd1 ["state", "many"] (spDraw))
    {f2 : Addr} {fd2 : FuncData} (D2 : Df K mg "_law_of" sLawOf ["state", "some"] f2 fd2) (G2 : FnOk P w K mg base CX0 3 f2 fd2 ["state", "some"] (spOneAny K)) (T : Bt mg) : FnOk P w K mg base CX0 7 f fd ["state", "deep"] (spPaper K 3) := paper_all F D1 G1 D2 G2 T 3 (by omega)
def spBent (K : PySem.W.Frag) : Sp := fun vs H Q _ => ∃ (d c l : Addr) (k : Nat) (x : Str), vs = [.ref d, .str x] ∧ StAt H d c l k ∧ k + 6 ≤ 80000 ∧ x.length ≤ 900 ∧
  ∀ H' y k', y.length ≤ 2950 → k' ≤ k + 5 → StAt H' d c l k' → Fm d l H H' → Q (.str y) H'
abbrev nsLawBentText : List Str := ["state", "sheet", "at", "sign", "choice", "words", "spot"]
theorem scLawBentText : FnScope nsLawBentText ["state", "sheet"] (defScope sLawBentText) := ⟨rfl, rfl, rfl, by decide +kernel, rfl, by decide +kernel, by decide +kernel⟩
theorem ok_law_bent_text {f : Addr} {fd : FuncData} (F : Df K mg "_law_bent_text" sLawBentText ["state", "sheet"] f fd)
    {f1 : Addr} {fd1 : FuncData} (D1 : Df K mg "_law_of" sLawOf ["state", "some"] f1 fd1) (G1 : FnOk P w K mg base CX0 3 f1 fd1 ["state", "some"] (spOneAny K))
    {f2 : Addr} {fd2 : FuncData} (D2 : Df K mg "_law_draw" sDraw ["state", "many"] f2 fd2) (G2 : FnOk P w K mg base CX0 2 f2 fd2 ["state", "many"] (spDraw))
    (T : Bt mg) : FnOk P w K mg base CX0 4 f fd ["state", "sheet"] (spBent K) := by
  refine F.F.ok scLawBentText (fun vs H Q E h => ?_) (fun cdv A outer s H vs Q E hr h => ?_)
  · obtain ⟨d, c, l, k, x, rfl, _⟩ := h
    rfl
  · obtain ⟨d, c, l, k, x, rfl, S, hk, hx, kk⟩ := h
    refine ⟨_, (pss_cons (ps_par (i := 2) (j := 3) (by rfl) scLawBentText.nd rfl rfl (by decide) rfl rfl (pa_cons (pe_call G2 (hr.mono (by omega)) (by rfl) D2.g D2.F.kp D2.b .nil pass0 (pa_cons (pv 0) (pa_cons (pe_op op_add (pe_callB call_len_str (by rfl) T.len PySem.boot_len (pa_cons (pv 1) pa_nil)) pe_int) pa_nil))) (pa_cons (pe_call G1 (hr.mono (by omega)) (by rfl) D1.g D1.F.kp D1.b .nil pass0 (pa_cons (pv 0) (pa_cons (pe_callTy (call_signs rfl) (by rfl) T.list (by decide +kernel) (pa_cons pe_str pa_nil)) pa_nil))) pa_nil)) (by rfl))
      (pss_cons (ps_set (i := 4) scLawBentText.nd rfl (Or.inl rfl) (pe_call G2 (hr.mono (by omega)) (by rfl) D2.g D2.F.kp D2.b .nil pass0 (pa_cons (pv 0) (pa_cons pe_int pa_nil))))
      (pss_cons (ps_if (pt_cmpR op_eq (pv 4) pe_int (nomark _)) (pss_one (ps_ret (pe_op op_add_str (pe_slice sl_str (pv 1) po_none (po_some (pv 2))) (pe_slice sl_str (pv 1) (po_some (pe_op op_add (pv 2) pe_int)) po_none)))) pss_nil)
      (pss_cons (ps_if (pt_cmpR op_eq (pv 4) pe_int (nomark _)) (pss_one (ps_ret (pe_op op_add_str (pe_op op_add_str (pe_slice sl_str (pv 1) po_none (po_some (pv 2))) (pv 3)) (pe_slice sl_str (pv 1) (po_some (pv 2)) po_none)))) pss_nil)
      (pss_cons (ps_if (pt_cmpR op_eq (pv 4) pe_int (nomark _)) (pss_one (ps_ret (pe_op op_add_str (pe_op op_add_str (pe_slice sl_str (pv 1) po_none (po_some (pv 2))) (pv 3)) (pe_slice sl_str (pv 1) (po_some (pe_op op_add (pv 2) pe_int)) po_none)))) pss_nil)
      (pss_cons (ps_set (i := 5) scLawBentText.nd rfl (Or.inl rfl) (pe_split (pv 1) pe_str))
      (pss_cons (ps_set (i := 6) scLawBentText.nd rfl (Or.inl rfl) (pe_call G2 (hr.mono (by omega)) (by rfl) D2.g D2.F.kp D2.b .nil pass0 (pa_cons (pv 0) (pa_cons (pe_callB call_len_seq (by rfl) T.len PySem.boot_len (pa_cons (pv 5) pa_nil)) pa_nil))))
      (pss_cons (ps_if (pt_cmpR op_eq (pv 4) pe_int (nomark _)) (pss_one (ps_ret (pe_join pe_str (pe_op op_cat (pe_slice sl_list (pv 5) po_none (po_some (pv 6))) (pe_slice sl_list (pv 5) (po_some (pe_op op_add (pv 6) pe_int)) po_none))))) pss_nil)
      (pss_one (ps_ret (pe_join pe_str (pe_op op_cat (pe_op op_cat (pe_slice sl_list (pv 5) po_none (po_some (pv 6))) (pe_lst (pa_cons (pe_call G1 (hr.mono (by omega)) (by rfl) D1.g D1.F.kp D1.b .nil pass0 (pa_cons (pv 0) (pa_cons (pe_op op_cat (pv 5) (pe_lst (pa_cons pe_str (pa_cons pe_str (pa_cons pe_str (pa_cons pe_str (pa_cons pe_str pa_nil))))))) pa_nil))) pa_nil))) (pe_slice sl_list (pv 5) (po_some (pv 6)) po_none))))))))))))), ?_⟩
    have hx1 : x.length ≤ sizeLine := Nat.le_trans hx (by decide)
    have p200 : (2 : Nat) ^ 200 > 9000 := by decide
    have szL : ∀ {n : Nat}, n ≤ 9000 → n ≤ sizeLine := fun h => Nat.le_trans h (by decide)
    refine ⟨_, rfl, _, rfl, x, rfl, hx1, _, _, rfl, rfl, d, c, l, k, _, rfl, S, by omega, by omega, by omega, fun r H1 r0 r1 S1 fm1 => ?_⟩
    refine ⟨_, rfl, _, rfl, (by decide +kernel), fun a1 n1 => ?_⟩
    have g1 := Same.new (o := .lst (sgL "0129 \n-/natepsmbo")) n1
    have N1 := S1.neD n1
    refine ⟨d, c, l, a1, k + 1, _, rfl, S1.same g1, by omega, upd_same, N1.1, N1.2.2, by decide +kernel, by decide +kernel, fun y H2 hy S2 fm2 => ⟨_, _, rfl, ?_⟩⟩
    obtain ⟨sg, rfl⟩ : ∃ sg : Nat, y = .str ⟨#[sg]⟩ := by
      obtain ⟨sg, _, e⟩ := List.mem_map.mp hy
      exact ⟨sg, e.symm⟩
    have l1 : (⟨#[sg]⟩ : Str).length = 1 := rfl
    have fmA := (fm1.same g1).trans fm2
    clear fm1 fm2 g1 N1 n1 S1 hy
    refine ⟨_, rfl, d, c, l, k + 2, 5, rfl, S2, by decide, by decide, by omega, fun ch H3 c0 c1 S3 fm3 => ?_⟩
    have fm := fmA.trans fm3
    have e1 := cutS_le x none (some r)
    have e2 := cutS_le x (some (r + 1)) none
    have e3 := cutS_le x (some r) none
    refine ⟨_, rfl, rfl, _, rfl, ?_⟩
    by_cases q0 : ch = 0
    · refine iteTe (decide_eq_true (by rw [q0])) ⟨_, rfl, _, rfl, r, rfl, x, rfl, hx1, _, rfl, _, rfl, _, _, rfl, rfl, _, rfl, x, rfl, hx1, _, _, rfl, rfl, szL (by omega), kk _ _ (k + 3) ?_ (by omega) S3 fm⟩
      rw [add_len]
      omega
    refine iteFe (decide_eq_false fun z => q0 (V.int.inj z)) ⟨_, rfl, rfl, _, rfl, ?_⟩
    by_cases q1 : ch = 1
    · refine iteTe (decide_eq_true (by rw [q1])) ⟨_, rfl, _, rfl, r, rfl, x, rfl, hx1, _, rfl, _, _, rfl, rfl, szL (by omega), _, rfl, _, rfl, r, rfl, x, rfl, hx1, _, _, rfl, rfl, szL (by rw [add_len]; omega), kk _ _ (k + 3) ?_ (by omega) S3 fm⟩
      rw [add_len, add_len]
      omega
    refine iteFe (decide_eq_false fun z => q1 (V.int.inj z)) ⟨_, rfl, rfl, _, rfl, ?_⟩
    by_cases q2 : ch = 2
    · refine iteTe (decide_eq_true (by rw [q2])) ⟨_, rfl, _, rfl, r, rfl, x, rfl, hx1, _, rfl, _, _, rfl, rfl, szL (by omega), _, rfl, _, rfl, _, _, rfl, rfl, _, rfl, x, rfl, hx1, _, _, rfl, rfl, szL (by rw [add_len]; omega), kk _ _ (k + 3) ?_ (by omega) S3 fm⟩
      rw [add_len, add_len]
      omega
    refine iteFe (decide_eq_false fun z => q2 (V.int.inj z)) ?_
    obtain ⟨lw, lx⟩ := split_len x 32 (by decide)
    obtain ⟨a, rr, es⟩ := split_ne x 32 (by decide)
    have ss := split_sum x
    have lws : 0 < (Txt.split x (sgn 32)).length := by rw [es]; exact Nat.succ_pos _
    refine ⟨_, rfl, ⟨_, rfl⟩, x, sgn 32, rfl, rfl, rfl, szL (by omega), fun wl nw => ?_⟩
    have g4 := Same.new (o := .lst ((Txt.split x (sgn 32)).map V.str)) nw
    have S4 := S3.same g4
    have fm4 := fm.same g4
    have N4 := S3.neD nw
    have h4 : (upd H3 wl (.lst ((Txt.split x (sgn 32)).map V.str))) wl = some (.lst ((Txt.split x (sgn 32)).map V.str)) := upd_same
    generalize upd H3 wl (.lst ((Txt.split x (sgn 32)).map V.str)) = H4 at *
    generalize Txt.split x (sgn 32) = ws at *
    refine ⟨_, rfl, _, rfl, wl, _, rfl, .inl (SqL.of h4), d, c, l, k + 3, _, rfl, S4, by rw [List.length_map]; omega, by rw [List.length_map]; omega, by omega, fun sp H5 p0 p1 S5 fm5 => ?_⟩
    have h5 := fm5 _ _ h4 N4.1 N4.2.2
    have fmB := fm4.trans fm5
    obtain ⟨w1, ew1, sw1⟩ := cutV_map ws none (some sp)
    obtain ⟨w2, ew2, sw2⟩ := cutV_map ws (some (sp + 1)) none
    obtain ⟨w3, ew3, sw3⟩ := cutV_map ws (some sp) none
    have u1 := sub_sum sw1
    have u2 := sub_sum sw2
    have u3 := sub_sum sw3
    have v1 := sw1.length_le
    have v2 := sw2.length_le
    have v3 := sw3.length_le
    have es32 : (" " : Str) = sgn 32 := by decide +kernel
    have sz1 : ∀ vs : List Str, (vs.map fun w => w.length + 1).sum ≤ 9000 → (vs.map (·.length)).sum + vs.length * (sgn 32).length ≤ 16777216 := fun vs h => by
      rw [sum_succ (fun w : Str => w.length)] at h
      have : (sgn 32).length = 1 := rfl
      rw [this]
      omega
    refine ⟨_, rfl, rfl, _, rfl, ?_⟩
    by_cases q3 : ch = 3
    · refine iteTe (decide_eq_true (by rw [q3])) ⟨⟨_, rfl⟩, _, rfl, _, rfl, sp, rfl, wl, _, rfl, SqL.of h5, fun b1 m1 => ?_⟩
      rw [ew1]
      have s1 := Same.new (o := .lst (w1.map V.str)) m1
      refine ⟨_, rfl, _, rfl, _, _, rfl, rfl, _, rfl, wl, _, rfl, SqL.of (s1 _ _ h5), fun b2 m2 => ?_⟩
      rw [ew2]
      have s2 := Same.new (o := .lst (w2.map V.str)) m2
      refine ⟨b1, b2, _, _, rfl, rfl, s2 _ _ upd_same, upd_same, szL (by rw [List.length_map, List.length_map]; omega), fun b3 m3 => ?_⟩
      have s3 := Same.new (o := .lst (w1.map V.str ++ w2.map V.str)) m3
      have sum12 : ((w1 ++ w2).map fun w => w.length + 1).sum ≤ 2000 := by
        rw [List.map_append, List.sum_append]
        omega
      refine ⟨sgn 32, b3, w1 ++ w2, rfl, rfl, .inl (SqL.of (by rw [upd_same, List.map_append])), sz1 _ (by omega), kk _ _ (k + 4) ?_ (by omega) (((S5.same s1).same s2).same s3) (((fmB.same s1).same s2).same s3)⟩
      have := join_le (w1 ++ w2)
      omega
    refine iteFe (decide_eq_false fun z => q3 (V.int.inj z)) ⟨⟨_, rfl⟩, _, rfl, _, rfl, sp, rfl, wl, _, rfl, SqL.of h5, fun b1 m1 => ?_⟩
    rw [ew1]
    have s1 := Same.new (o := .lst (w1.map V.str)) m1
    have N5 := S5.neD m1
    have S6 := S5.same s1
    refine ⟨_, rfl, _, rfl, (by show 5 ≤ sizeLine; decide), fun b2 m2 => ?_⟩
    have s2 := Same.new (o := .lst [V.str "none", V.str "7", V.str "-2", V.str "1/2", V.str "4/2"]) m2
    have S7 := S6.same s2
    refine ⟨wl, b2, _, _, rfl, rfl, s2 _ _ (s1 _ _ h5), upd_same, szL (by rw [List.length_map]; show ws.length + 5 ≤ 9000; omega), fun b3 m3 => ?_⟩
    have s3 := Same.new (o := .lst (ws.map V.str ++ [V.str "none", V.str "7", V.str "-2", V.str "1/2", V.str "4/2"])) m3
    have N7 := S7.neD m3
    have S8 := S7.same s3
    refine ⟨d, c, l, b3, k + 4, _, rfl, S8, by omega, upd_same, N7.1, N7.2.2, by simp, by rw [List.length_append, List.length_map]; show ws.length + 5 ≤ 9000; omega, fun y H6 hy S9 fm9 => ?_⟩
    obtain ⟨yw, rfl, ly⟩ : ∃ yw : Str, y = .str yw ∧ yw.length ≤ 901 := by
      rcases List.mem_append.mp hy with hy | hy
      · obtain ⟨z, hz, rfl⟩ := List.mem_map.mp hy
        exact ⟨z, rfl, by have := lx z hz; omega⟩
      · obtain ⟨z, hz, rfl⟩ := strs_mem (ws := ["none", "7", "-2", "1/2", "4/2"]) hy
        refine ⟨z, rfl, ?_⟩
        simp only [List.mem_cons, List.not_mem_nil, or_false] at hz
        rcases hz with rfl | rfl | rfl | rfl | rfl <;> decide +kernel
    have h1_6 := fm9 _ _ (s3 _ _ (s2 _ _ (upd_same (H := H5) (a := b1) (o := .lst (w1.map V.str))))) N5.1 N5.2.2
    have h5_6 := fm9 _ _ (s3 _ _ (s2 _ _ (s1 _ _ h5))) N4.1 N4.2.2
    have fmC := (((fmB.same s1).same s2).same s3).trans fm9
    refine ⟨(by show 1 ≤ sizeLine; decide), fun b4 m4 => ?_⟩
    have s4 := Same.new (o := .lst [V.str yw]) m4
    refine ⟨b1, b4, _, _, rfl, rfl, s4 _ _ h1_6, upd_same, szL (by rw [List.length_map]; show w1.length + 1 ≤ 9000; omega), fun b5 m5 => ?_⟩
    have s5 := Same.new (o := .lst (w1.map V.str ++ [V.str yw])) m5
    refine ⟨_, rfl, _, rfl, sp, rfl, wl, _, rfl, SqL.of (s5 _ _ (s4 _ _ h5_6)), fun b6 m6 => ?_⟩
    rw [ew3]
    have s6 := Same.new (o := .lst (w3.map V.str)) m6
    refine ⟨b5, b6, _, _, rfl, rfl, s6 _ _ upd_same, upd_same, szL (by rw [List.length_append, List.length_map, List.length_map]; show w1.length + 1 + w3.length ≤ 9000; omega), fun b7 m7 => ?_⟩
    have s7 := Same.new (o := .lst (w1.map V.str ++ [V.str yw] ++ w3.map V.str)) m7
    have sumA : ((w1 ++ [yw] ++ w3).map fun w => w.length + 1).sum ≤ 2902 := by
      rw [List.map_append, List.map_append, List.sum_append, List.sum_append]
      show _ + (yw.length + 1 + 0) + _ ≤ _
      omega
    refine ⟨sgn 32, b7, w1 ++ [yw] ++ w3, rfl, rfl, .inl (SqL.of (by rw [upd_same, List.map_append, List.map_append]; rfl)), sz1 _ (by omega), kk _ _ (k + 5) ?_ (by omega) ((((S9.same s4).same s5).same s6).same s7) ((((fmC.same s4).same s5).same s6).same s7)⟩
    have := join_le (w1 ++ [yw] ++ w3)
    omega
end
end CS
set_option Elab.async false
set_option maxRecDepth 100000
set_option maxHeartbeats 8000000
set_option linter.unusedVariables false
set_option pp.maxSteps 2000
/-! data that may be shown -/
namespace CS
open PySem PySem.Spec PyProof.Rows L2
structure Shows (d : PyData) : Prop where
  ok : d.showable = true
  nd : d.hasDict = false
  dp : d.depth ≤ 60
  sz : d.shown.length + 64 ≤ sizeLine
/-- a datum of some depth and weight -/
structure Sh (dp wt : Nat) (d : PyData) : Prop where
  ok : d.showable = true
  nd : d.hasDict = false
  lv : d.leavesShort 100 = true
  dp : d.depth ≤ dp
  wt : d.weight ≤ wt
structure ShL (dp wt : Nat) (ds : List PyData) : Prop where
  ok : PyData.showableAll ds = true
  nd : PyData.hasDictAll ds = false
  lv : PyData.leavesShortAll 100 ds = true
  dp : PyData.depthAll ds ≤ dp
  wt : PyData.weightAll ds ≤ wt
theorem Sh.up {a b c e : Nat} {d : PyData} (h : Sh a b d) (h1 : a ≤ c) (h2 : b ≤ e) : Sh c e d := ⟨h.ok, h.nd, h.lv, Nat.le_trans h.dp h1, Nat.le_trans h.wt h2⟩
theorem Sh.shows {a b : Nat} {d : PyData} (h : Sh a b d) (h1 : a ≤ 60) (h2 : b ≤ 100000) : Shows d := by
  refine ⟨h.ok, h.nd, Nat.le_trans h.dp h1, ?_⟩
  have h3 := PyData.shown_le 100 (by decide) d h.lv
  have h4 : (100 + 2) * d.weight + 100 ≤ 102 * 100000 + 100 := Nat.add_le_add_right (Nat.mul_le_mul_left 102 (Nat.le_trans h.wt h2)) 100
  have h5 : 102 * 100000 + 100 + 64 ≤ sizeLine := by decide
  omega
theorem ShL.nil (dp : Nat) : ShL dp 0 [] := ⟨rfl, rfl, rfl, Nat.zero_le _, Nat.le_refl _⟩
theorem ShL.cons {dp a b : Nat} {d : PyData} {ds : List PyData} (h : Sh dp a d) (g : ShL dp b ds) : ShL dp (a + 1 + b) (d :: ds) := by
  refine ⟨?_, ?_, ?_, ?_, ?_⟩
  · simp only [PyData.showableAll, h.ok, g.ok, Bool.and_self]
  · simp only [PyData.hasDictAll, h.nd, g.nd, Bool.or_self]
  · simp only [PyData.leavesShortAll, h.lv, g.lv, Bool.and_self]
  · simp only [PyData.depthAll]
    exact Nat.max_le.mpr ⟨h.dp, g.dp⟩
  · simp only [PyData.weightAll]
    have := h.wt
    have := g.wt
    omega
theorem Sh.tup {dp b : Nat} {ds : List PyData} (g : ShL dp b ds) : Sh (dp + 1) b (.tuple ds) := by
  refine ⟨?_, ?_, ?_, ?_, ?_⟩
  · simp only [PyData.showable, g.ok]
  · simp only [PyData.hasDict, g.nd]
  · simp only [PyData.leavesShort, g.lv]
  · simp only [PyData.depth]
    have := g.dp
    omega
  · simp only [PyData.weight]
    exact g.wt
theorem Sh.lst {dp b : Nat} {ds : List PyData} (g : ShL dp b ds) : Sh (dp + 1) b (.list ds) := by
  refine ⟨?_, ?_, ?_, ?_, ?_⟩
  · simp only [PyData.showable, g.ok]
  · simp only [PyData.hasDict, g.nd]
  · simp only [PyData.leavesShort, g.lv]
  · simp only [PyData.depth]
    have := g.dp
    omega
  · simp only [PyData.weight]
    exact g.wt
theorem Sh.int {i : Int} (h : i.natAbs ≤ 1000000) : Sh 0 20 (.int i) := by
  have h1 : i.natAbs.log2 < 20 := PySem.Flt.log2_lt_of (by decide) (by omega)
  have h2 := PyData.shown_int_le (i := i) (by omega)
  refine ⟨?_, rfl, ?_, by simp [PyData.depth], ?_⟩
  · simp only [PyData.showable]
    exact decide_eq_true (by omega)
  · simp only [PyData.leavesShort]
    exact decide_eq_true (by omega)
  · simp only [PyData.weight]
    split <;> omega
theorem ShL.ints {dp : Nat} : ∀ {ns : List Int}, (∀ n ∈ ns, n.natAbs ≤ 1000000) → ShL dp (ns.length * 21) (ns.map .int)
  | [], _ => .nil dp
  | n :: ns, h => by
    have a := ShL.ints (dp := dp) fun m hm => h m (List.mem_cons_of_mem _ hm)
    have b := ShL.cons ((Sh.int (h n List.mem_cons_self)).up (Nat.zero_le dp) (Nat.le_refl _)) a
    rw [List.length_cons, Nat.succ_mul]
    rw [show ns.length * 21 + 21 = 20 + 1 + ns.length * 21 by omega]
    exact b
theorem ShL.all {dp w : Nat} : ∀ {ds : List PyData}, (∀ d ∈ ds, Sh dp w d) → ShL dp (ds.length * (w + 1)) ds
  | [], _ => by rw [List.length_nil, Nat.zero_mul]; exact .nil dp
  | d :: ds, h => by
    have a := ShL.all fun m hm => h m (List.mem_cons_of_mem _ hm)
    have b := ShL.cons (h d List.mem_cons_self) a
    rw [List.length_cons, Nat.succ_mul]
    rw [show ds.length * (w + 1) + (w + 1) = w + 1 + ds.length * (w + 1) by omega]
    exact b
theorem Sh.consL {dp a b : Nat} {d : PyData} {ds : List PyData} (h : Sh dp a d) (g : ShL dp b ds) : ShL dp (a + 1 + b) (d :: ds) := ShL.cons h g
theorem Sh.intW {i : Int} (h : i.natAbs < 10 ^ 32) : Sh 0 110 (.int i) := by
  have h1 : i.natAbs.log2 < 107 := PySem.Flt.log2_lt_of (by decide) (Nat.lt_of_lt_of_le h (by decide))
  have h2 : (PyData.shown (.int i)).length ≤ 33 := by
    have e := int_text_length_le10 (a := i) (k := 32) (by decide) h
    show (Str.ofString (toString i)).length ≤ 33
    rw [PySem.ofString_length]
    exact e
  refine ⟨?_, rfl, ?_, by simp [PyData.depth], ?_⟩
  · simp only [PyData.showable]
    exact decide_eq_true (by omega)
  · simp only [PyData.leavesShort]
    exact decide_eq_true (by omega)
  · simp only [PyData.weight]
    split <;> omega
end CS
set_option Elab.async false
set_option maxRecDepth 100000
set_option maxHeartbeats 8000000
set_option linter.unusedVariables false
/-! what is due of a text may be shown -/
namespace CS
open PySem L2
theorem digits_lt : ∀ l : List Nat, l.all (fun c => decide (48 ≤ c ∧ c ≤ 57)) = true → NumText.digitsVal l < 10 ^ l.length := fun l => by
  suffices h : ∀ m : List Nat, m.reverse.all (fun c => decide (48 ≤ c ∧ c ≤ 57)) = true → NumText.digitsVal m.reverse < 10 ^ m.length by
    intro a
    have := h l.reverse (by rw [List.reverse_reverse]; exact a)
    rw [List.reverse_reverse, List.length_reverse] at this
    exact this
  intro m
  induction m with
  | nil => intro _; decide +kernel
  | cons c m ih =>
    intro a
    rw [List.reverse_cons, List.all_append, Bool.and_eq_true] at a
    have i1 := ih a.1
    have c1 : 48 ≤ c ∧ c ≤ 57 := by
      have := a.2
      rw [List.all_cons, List.all_nil, Bool.and_true] at this
      exact of_decide_eq_true this
    rw [List.reverse_cons, NumText.digitsVal_snoc, List.length_cons, Nat.pow_succ]
    omega
theorem figs_lt {l : List Nat} (h : figs l = true) : NumText.digitsVal l < 10 ^ 31 := by
  unfold figs at h
  simp only [Bool.and_eq_true, decide_eq_true_eq] at h
  exact Nat.lt_of_lt_of_le (digits_lt l h.1.2) (Nat.pow_le_pow_right (by decide) h.1.1.2)
theorem intW_lt {x : Str} {n : Int} (h : intW x = some n) : n.natAbs < 10 ^ 32 := by
  have p : (10 : Nat) ^ 31 ≤ 10 ^ 32 := by decide
  unfold intW at h
  split at h
  · split at h
    · next e =>
      cases h
      rw [Bool.and_eq_true] at e
      have := figs_lt e.1
      omega
    · cases h
  · split at h
    · next e =>
      cases h
      have := figs_lt e
      omega
    · cases h
/-- no whole number is too long -/
def Pt.Bg : Pt → Prop
  | .n0 _ ns => ∀ n ∈ ns, n.natAbs < 10 ^ 32
  | .n1 _ ns k => (∀ n ∈ ns, n.natAbs < 10 ^ 32) ∧ k.Bg
  | .n2 _ ns k l => (∀ n ∈ ns, n.natAbs < 10 ^ 32) ∧ k.Bg ∧ l.Bg
theorem ints_bg {ws : List Str} : ∀ {n p q : Nat} {ns : List Int}, readI n ws p = .inl (ns, q) → ∀ n ∈ ns, n.natAbs < 10 ^ 32
  | 0, p, q, ns, h => by cases h; exact fun _ z => nomatch z
  | n + 1, p, q, ns, h => by
    rw [readI] at h
    split at h
    · cases h
    · next z hz =>
      split at h
      · cases h
      · next e =>
        cases h
        intro m hm
        rcases List.mem_cons.mp hm with rfl | hm
        · unfold intAt at hz
          obtain ⟨x, _, hx⟩ := Option.bind_eq_some_iff.mp hz
          exact intW_lt hx
        · exact ints_bg e m hm
theorem ints_err {ws : List Str} : ∀ {n p q : Nat}, p ≤ ws.length → readI n ws p = .inr q → q ≤ ws.length
  | 0, p, q, l, h => by cases h
  | n + 1, p, q, l, h => by
    rw [readI] at h
    split at h
    · cases h; exact l
    · next z hz =>
      split at h
      · next e =>
        cases h
        refine ints_err (p := p + 1) ?_ e
        unfold intAt at hz
        cases hw : ws[p]? with
        | none => rw [hw] at hz; cases hz
        | some x => exact (List.getElem?_eq_some_iff.mp hw).1
      · cases h
theorem parse_bg {kd : Kinds} {ws : List Str} : ∀ {h p m q m2 : Nat} {t : Pt}, parse kd ws h p m = .inl (t, q, m2) → t.Bg
  | 0, p, m, q, m2, t, e => by cases e
  | h + 1, p, m, q, m2, t, e => by
    rw [parse] at e
    split at e
    · cases e
    · cases hw : ws[p]? with
      | none => rw [hw] at e; cases e
      | some x =>
        rw [hw] at e
        dsimp only at e
        cases hk : kd x with
        | none => rw [hk] at e; cases e
        | some ab =>
          obtain ⟨a, b⟩ := ab
          rw [hk] at e
          dsimp only at e
          cases hi : readI a ws (p + 1) with
          | inr q => rw [hi] at e; cases e
          | inl y =>
            obtain ⟨ns, q1⟩ := y
            rw [hi] at e
            dsimp only at e
            have bi := ints_bg hi
            split at e
            · cases e
              exact bi
            · split at e
              · cases e
              · next e1 =>
                cases e
                exact ⟨bi, parse_bg e1⟩
            · split at e
              · cases e
              · next e1 =>
                split at e
                · cases e
                · next e2 =>
                  cases e
                  exact ⟨bi, parse_bg e1, parse_bg e2⟩
theorem parse_err {kd : Kinds} {ws : List Str} : ∀ {h p m q : Nat}, p ≤ ws.length → parse kd ws h p m = .inr q → q ≤ ws.length
  | 0, p, m, q, l, e => by cases e; exact l
  | h + 1, p, m, q, l, e => by
    rw [parse] at e
    split at e
    · cases e; exact l
    · cases hw : ws[p]? with
      | none => rw [hw] at e; cases e; exact l
      | some x =>
        have lp := (List.getElem?_eq_some_iff.mp hw).1
        rw [hw] at e
        dsimp only at e
        cases hk : kd x with
        | none => rw [hk] at e; cases e; exact l
        | some ab =>
          obtain ⟨a, b⟩ := ab
          rw [hk] at e
          dsimp only at e
          cases hi : readI a ws (p + 1) with
          | inr q1 => rw [hi] at e; cases e; exact ints_err (by omega) hi
          | inl y =>
            obtain ⟨ns, q1⟩ := y
            rw [hi] at e
            dsimp only at e
            have q1l := ints_le (by omega) hi
            split at e
            · cases e
            · split at e
              · next e1 => cases e; exact parse_err q1l e1
              · cases e
            · split at e
              · next e1 => cases e; exact parse_err q1l e1
              · next e1 =>
                split at e
                · next e2 => cases e; exact parse_err (parse_le e1) e2
                · cases e
theorem rdT_bg {L : Shp} {x : Str} {t : Pt} (h : rdT L x = .inl t) : t.Bg := by
  unfold rdT at h
  cases e : rdL L ((Txt.split x (sgn 10)).headD ⟨#[]⟩) with
  | inr q => rw [e] at h; cases h
  | inl t1 =>
    rw [e] at h
    dsimp only at h
    split at h
    · cases h
    · cases h
      unfold rdL at e
      split at e
      · cases e
      · next e2 =>
        split at e
        · cases e
        · cases e
          exact parse_bg e2
theorem rdT_err {L : Shp} {x : Str} {ln q : Nat} (hx : x.length ≤ 3000) (h : rdT L x = .inr (ln, q)) : ln ≤ 1 ∧ q ≤ 4000 := by
  obtain ⟨a, r, es⟩ := split_ne x 10 (by decide)
  obtain ⟨_, lx⟩ := split_len x 10 (by decide)
  have la := lx a (by rw [es]; exact List.mem_cons_self)
  obtain ⟨lw, _⟩ := split_len a 32 (by decide)
  unfold rdT at h
  rw [es] at h
  dsimp only [List.headD] at h
  cases e : rdL L a with
  | inr q1 =>
    rw [e] at h
    cases h
    refine ⟨Nat.zero_le _, ?_⟩
    unfold rdL at e
    split at e
    · next e1 =>
      cases e
      have := parse_err (Nat.zero_le _) e1
      omega
    · next e1 =>
      split at e
      · cases e
        have := parse_le e1
        omega
      · cases e
  | inl t1 =>
    rw [e] at h
    dsimp only at h
    split at h
    · cases h
      exact ⟨Nat.le_refl _, Nat.zero_le _⟩
    · cases h
theorem kpl_getD {L : Shp} (ok : LOk L) (w : Str) (i : Nat) : (kpl 0 (shL L w)).getD i 0 ≤ 9 := by
  unfold shL
  cases e : shpOf L w with
  | none =>
    have : kpl 0 (lsS ((none : Option Str).getD ⟨#[]⟩)) = [] := rfl
    rw [this]
    simp
  | some s =>
    show (kpl 0 (lsS s)).getD i 0 ≤ 9
    cases ek : (kpl 0 (lsS s))[i]? with
    | none => rw [List.getD_eq_getElem?_getD, ek]; exact Nat.zero_le _
    | some n =>
      rw [List.getD_eq_getElem?_getD, ek]
      have m := (pl_perm (lsS s) 0).mem_iff.mp (List.mem_append_right _ (List.mem_of_getElem? ek))
      have := List.mem_range'_1.mp m
      have s9 := (ok w s e).1
      have s9 : s.length ≤ 9 := s9
      rw [len_lsS] at s9
      show n ≤ 9
      omega
/-- a fault's path is short -/
theorem Pt.fl_path {L : Shp} (ok : LOk L) : ∀ {t : Pt} {p q : List Int}, t.fl L p = some q → p.length ≤ 8 → (∀ n ∈ p, n.natAbs ≤ 9) → q.length ≤ 8 ∧ ∀ n ∈ q, n.natAbs ≤ 9 := by
  have up : ∀ {p : List Int} {n : Nat}, n ≤ 9 → (∀ n ∈ p, n.natAbs ≤ 9) → ∀ m ∈ p ++ [(n : Int)], m.natAbs ≤ 9 := fun h a m hm => by
    rcases List.mem_append.mp hm with hm | hm
    · exact a m hm
    · rw [List.mem_singleton.mp hm]
      omega
  intro t
  induction t with
  | n0 w ns =>
    intro p q h l a
    rw [fl_n0] at h
    split at h
    · cases h; exact ⟨Nat.zero_le _, fun _ z => nomatch z⟩
    · split at h
      · cases h
      · cases h; exact ⟨l, a⟩
  | n1 w ns k i1 =>
    intro p q h l a
    rw [fl_n1] at h
    split at h
    · cases h; exact ⟨Nat.zero_le _, fun _ z => nomatch z⟩
    · next n8 =>
      split at h
      · exact i1 h (by rw [List.length_append]; show p.length + 1 ≤ 8; omega) (up (kpl_getD ok w 0) a)
      · cases h; exact ⟨l, a⟩
  | n2 w ns k m i1 i2 =>
    intro p q h l a
    rw [fl_n2] at h
    split at h
    · cases h; exact ⟨Nat.zero_le _, fun _ z => nomatch z⟩
    · next n8 =>
      split at h
      · cases e : k.fl L (p ++ [((kpl 0 (shL L w)).getD 0 0 : Int)]) with
        | some z =>
          rw [e] at h
          cases h
          exact i1 e (by rw [List.length_append]; show p.length + 1 ≤ 8; omega) (up (kpl_getD ok w 0) a)
        | none =>
          rw [e] at h
          exact i2 (show m.fl L _ = some q from h) (by rw [List.length_append]; show p.length + 1 ≤ 8; omega) (up (kpl_getD ok w 1) a)
      · cases h; exact ⟨l, a⟩
/-- the words may be shown -/
def ShW (L : Shp) : Prop := ∀ w s, shpOf L w = some s → Sh 0 20 (.str w)
theorem shw_of {L : Shp} (h : (L.all fun p => (PyData.str p.1).showable && (PyData.str p.1).leavesShort 100 && decide ((PyData.str p.1).weight ≤ 20)) = true) : ShW L := fun w s e => by
  have := List.all_eq_true.mp h _ (shpOf_mem e)
  simp only [Bool.and_eq_true, decide_eq_true_eq] at this
  exact ⟨this.1.1, rfl, this.1.2, by simp [PyData.depth], this.2⟩
theorem ts_shw : ShW tsL := shw_of (by decide +kernel)
theorem Pt.shows {L : Shp} (ok : LOk L) (sw : ShW L) : ∀ {t : Pt}, t.Wf (kdS L) → t.Bg → Sh t.words (t.words * 1300) (t.toD L) := fun {t} => by
  have wd : ∀ {w : Str} {q : Nat × Nat}, kdS L w = some q → Sh 0 20 (.str w) ∧ q.1 ≤ 9 := fun {w q} h => by
    unfold kdS at h
    obtain ⟨s, hs, e⟩ := Option.map_eq_some_iff.mp h
    refine ⟨sw w s hs, ?_⟩
    rw [← e]
    have := (pl_perm (lsS s) 0).length_eq
    rw [List.length_append, List.length_range', ← len_lsS] at this
    have s9 := (ok w s hs).1
    show (wpl 0 (lsS s)).length ≤ 9
    have : s.length ≤ 9 := s9
    omega
  have key : ∀ {dp : Nat} {w : Str} {s : List Nat} {ns : List Int} {ks : List PyData}, Sh 0 20 (.str w) → ns.length ≤ 9 → (∀ m ∈ ns, m.natAbs < 10 ^ 32) → ∀ {wt : Nat}, ShL dp wt ks → ShL dp (20 + 1 + (wt + ns.length * 111)) (.str w :: fill s (ns.map .int) ks) := fun {dp w s ns ks} hw l9 hb wt hl => by
    refine ((hw.up (Nat.zero_le _) (Nat.le_refl _)).consL ?_)
    clear l9 hw
    induction s generalizing ns ks wt with
    | nil => exact ⟨rfl, rfl, rfl, Nat.zero_le _, by have : PyData.weightAll ([] : List PyData) ≤ 0 := Nat.le_refl _; show PyData.weightAll ([] : List PyData) ≤ _; omega⟩
    | cons c s ih =>
      unfold fill
      split
      · cases ks with
        | nil => exact ⟨rfl, rfl, rfl, Nat.zero_le _, by have : PyData.weightAll ([] : List PyData) ≤ 0 := Nat.le_refl _; show PyData.weightAll ([] : List PyData) ≤ _; omega⟩
        | cons k ks =>
          obtain ⟨a1, a2, a3, a4, a5⟩ := hl
          simp only [PyData.showableAll, PyData.hasDictAll, PyData.leavesShortAll, PyData.depthAll, PyData.weightAll, Bool.and_eq_true, Bool.or_eq_false_iff] at a1 a2 a3 a4 a5
          have hk : Sh dp k.weight k := ⟨a1.1, a2.1, a3.1, Nat.le_trans (Nat.le_max_left _ _) a4, Nat.le_refl _⟩
          have hks : ShL dp (PyData.weightAll ks) ks := ⟨a1.2, a2.2, a3.2, Nat.le_trans (Nat.le_max_right _ _) a4, Nat.le_refl _⟩
          have r := hk.consL (ih hb _ hks)
          exact ⟨r.ok, r.nd, r.lv, r.dp, Nat.le_trans r.wt (by omega)⟩
      · cases ns with
        | nil => exact ⟨rfl, rfl, rfl, Nat.zero_le _, by have : PyData.weightAll ([] : List PyData) ≤ 0 := Nat.le_refl _; show PyData.weightAll ([] : List PyData) ≤ _; omega⟩
        | cons n ns =>
          have r := ((Sh.intW (hb n List.mem_cons_self)).up (Nat.zero_le dp) (Nat.le_refl _)).consL (ih (ns := ns) (fun m hm => hb m (List.mem_cons_of_mem _ hm)) _ hl)
          exact ⟨r.ok, r.nd, r.lv, r.dp, Nat.le_trans r.wt (by rw [List.length_cons]; omega)⟩
  induction t with
  | n0 w ns =>
    intro wf bg
    obtain ⟨h1, h9⟩ := wd wf
    have h9 : ns.length ≤ 9 := h9
    exact (Sh.tup (key (dp := 0) (s := shL L w) (ks := []) h1 h9 bg (.nil 0))).up (Nat.le_refl _) (by show _ ≤ 1 * 1300; omega)
  | n1 w ns k i1 =>
    intro wf bg
    obtain ⟨h1, h9⟩ := wd wf.1
    have h9 : ns.length ≤ 9 := h9
    have s1 := i1 wf.2 bg.2
    have hl := s1.consL (.nil _)
    exact (Sh.tup (key (s := shL L w) (ks := [k.toD L]) h1 h9 bg.1 hl)).up (Nat.le_refl _) (by show _ ≤ (k.words + 1) * 1300; omega)
  | n2 w ns k l i1 i2 =>
    intro wf bg
    obtain ⟨b, hb⟩ := wf.1
    obtain ⟨h1, h9⟩ := wd hb
    have h9 : ns.length ≤ 9 := h9
    have s1 := (i1 wf.2.1 bg.2.1).up (c := k.words + l.words) (Nat.le_add_right _ _) (Nat.le_refl _)
    have s2 := (i2 wf.2.2 bg.2.2).up (c := k.words + l.words) (Nat.le_add_left _ _) (Nat.le_refl _)
    have hl := s1.consL (s2.consL (.nil _))
    exact (Sh.tup (key (s := shL L w) (ks := [k.toD L, l.toD L]) h1 h9 bg.1 hl)).up (Nat.le_refl _) (by show _ ≤ (k.words + l.words + 1) * 1300; omega)
end CS
set_option Elab.async false
set_option maxRecDepth 100000
set_option maxHeartbeats 8000000
set_option linter.unusedVariables false
set_option pp.maxSteps 6000
/-! what is heard -/
namespace CS
open PySem L2 RZ LamX
theorem Sh.wrdS {w : Str} (h : ((PyData.str w).showable && (PyData.str w).leavesShort 100 && decide ((PyData.str w).weight ≤ 20)) = true) : Sh 0 20 (.str w) := by
  simp only [Bool.and_eq_true, decide_eq_true_eq] at h
  exact ⟨h.1.1, rfl, h.1.2, by simp [PyData.depth], h.2⟩
theorem due_shows {x : Str} (hx : x.length ≤ 3000) : Sh 21 30000 (dueT tsL x) := by
  unfold dueT
  cases e : rdT tsL x with
  | inr lq =>
    obtain ⟨ln, q⟩ := lq
    obtain ⟨h1, h2⟩ := rdT_err hx e
    exact (Sh.tup (dp := 0) ((Sh.wrdS (w := "text") (by decide +kernel)).consL ((Sh.int (by omega)).consL ((Sh.int (by omega)).consL (.nil 0))))).up (by decide) (by omega)
  | inl t =>
    obtain ⟨wf, w20⟩ := rdT_wf e
    have sh := Pt.shows ts_good.1 ts_shw wf (rdT_bg e)
    dsimp only
    cases ef : t.fl tsL [] with
    | none => exact (Sh.lst (sh.consL (.nil _))).up (by omega) (by omega)
    | some p =>
      obtain ⟨l8, a9⟩ := Pt.fl_path ts_good.1 ef (by decide) (fun _ z => nomatch z)
      exact (Sh.tup (dp := 1) (((Sh.wrdS (w := "term") (by decide +kernel)).up (Nat.zero_le _) (Nat.le_refl _)).consL ((Sh.tup (dp := 0) (ShL.ints (ns := p) fun n hn => by have := a9 n hn; omega)).consL (.nil 1)))).up (by decide) (by omega)
theorem lk_line (u v : V) : List.lookup ("line" : Str) [("word", v), ("line", u)] = some u := by
  have h : (("line" : Str) == "word") = false := by decide +kernel
  have h2 : (("line" : Str) == "line") = true := by decide +kernel
  simp only [List.lookup, h, h2]
theorem lk_word (u v : V) : List.lookup ("word" : Str) [("word", v), ("line", u)] = some v := by
  have h2 : (("word" : Str) == "word") = true := by decide +kernel
  simp only [List.lookup, h2]
/-- what _law_heard makes of a refused text, of a refused term -/
def wxT (CB CT : Addr) : Value → Option Addr → Hp → VK → Prop := fun cls d H Q => (cls = .ref CB ∧ ∃ dd u v, d = some dd ∧ H dd = some (.xd [("word", V.int v), ("line", V.int u)]) ∧ ∀ p, H p = none → Q (.ref p) (upd H p (.tup [.str "text", .int u, .int v]))) ∨
  (cls = .ref CT ∧ ∃ dd q, d = some dd ∧ H dd = some (.xd [("path", .ref q)]) ∧ ∀ p, H p = none → Q (.ref p) (upd H p (.tup [.str "term", .ref q])))
theorem natT (CB CT : Addr) : Nat1 (wxT CB CT) := fun l cls d H Q F h => by
  rcases h with ⟨e, dd, u, v, e2, hdd, k⟩ | ⟨e, dd, q, e2, hdd, k⟩
  · exact .inl ⟨e, dd, u, v, e2, by rw [addC_out (F.out hdd)]; exact hdd, fun p n => addC_new (Q := fun H2 => Q (.ref p) H2) F n (k p (addC_none n))⟩
  · exact .inr ⟨e, dd, q, e2, by rw [addC_out (F.out hdd)]; exact hdd, fun p n => addC_new (Q := fun H2 => Q (.ref p) H2) F n (k p (addC_none n))⟩
section
variable {P : Program} {w : World} {K : PySem.W.Frag} {mg : Str → Option Value} {base : Heap}
theorem scLawHeardT : FnScope ["call", "error"] ["call"] (defScope sLawHeard) := ⟨rfl, rfl, rfl, by decide +kernel, rfl, by decide +kernel, by decide +kernel⟩
theorem ok_law_heardT {k : Nat} {f CB CT fI fJ : Addr} {fd fdI fdJ : FuncData} (F : Df K mg "_law_heard" sLawHeard ["call"] f fd) (Z : Xc2 K mg "BadText" "line" "word" CB fI bmV "ValueError.__new__" (inClass sBadText 0) "BadText.__init__" fdI) (Y : Xc K mg "BadTerm" "path" CT fJ bmV "ValueError.__new__" (inClass sBadTerm 0) "BadTerm.__init__" fdJ)
    (xBB : PySem.W.exmOne K (.ref CB) (.ref CB) = some true) (xTB : PySem.W.exmOne K (.ref CT) (.ref CB) = some false) (xTT : PySem.W.exmOne K (.ref CT) (.ref CT) = some true) (act : Act) (ha : ActOk P w K mg base k act) : FnOk P w K mg base CX0 (k + 1) f fd ["call"] (spGiveL (wxT CB CT) act) := by
  refine F.F.ok scLawHeardT (fun vs H Q E h => ?_) (fun cdv A outer s H vs Q E hr h => ?_)
  · obtain ⟨g, rfl, _⟩ := h
    rfl
  · obtain ⟨g, rfl, h⟩ := h
    refine ⟨_, pss_one (ps_tryx rfl rfl scLawHeardT.nd L2.takes0 (.named (i := 1) ⟨rfl, by decide, .inl Z.T.gC⟩ rfl rfl (fun a oe cls d pn hz hf => pss_one (ps_ret (pe_tup (pa_cons pe_str (pa_cons (pe_xf Z.T.xf Z.T.noF hz hf (pv 1)) (pa_cons (pe_xf Z.T.xf Z.no2 hz hf (pv 1)) pa_nil)))))) (.named (i := 1) ⟨rfl, by decide, .inl Y.T.gC⟩ rfl rfl (fun a oe cls d pn hz hf => pss_one (ps_ret (pe_tup (pa_cons pe_str (pa_cons (pe_xf Y.T.xf Y.T.noF hz hf (pv 1)) pa_nil))))) .nil))
        (fun W pn xe tk _ => pss_one (ps_ret (pe_lst (pa_cons (pe_act0 ha.closD hr (fun σ => passAt tk σ) (i := 0) rfl (Or.inl rfl)) pa_nil))))), ?_⟩
    refine ⟨g, rfl, putL Q, _, h, fun v H' q => ⟨(by show 1 ≤ sizeLine; decide), fun p hp => q p hp⟩, fun cls d H' q => ?_⟩
    rcases q with ⟨rfl, dd, u, v, rfl, hdd, kq⟩ | ⟨rfl, dd, q0, rfl, hdd, kq⟩
    · exact ⟨true, xBB, fun _ a na => ⟨_, rfl, rfl, rfl, dd, _, _, rfl, hdd, lk_line _ _, _, rfl, rfl, rfl, dd, _, _, rfl, hdd, lk_word _ _, (by show 3 ≤ sizeLine; decide), fun p hp => kq p hp⟩, fun z => Bool.noConfusion z⟩
    · exact ⟨false, xTB, fun z => Bool.noConfusion z, fun _ => ⟨true, xTT, fun _ a na => ⟨_, rfl, rfl, rfl, dd, _, _, rfl, hdd, rfl, (by show 2 ≤ sizeLine; decide), fun p hp => kq p hp⟩, fun z => Bool.noConfusion z⟩⟩
end
section
variable {K : PySem.W.Frag} {TT : List (Addr × Str)} {CB CT : Addr} {σ : L2.St} {H : Hp} {Q : VK} {i : Nat} {x : Str}
/-- a text read, as it is heard -/
theorem rd_cut (hT : Tabs TT H) (hi : σ[i]? = some (some (.str x))) (hx : x.length ≤ 3000) (k : ∀ y H', ExtN H H' → Tabs TT H' → Dp K H' (.ref y) (dueT tsL x) → Q (.ref y) H') :
    Tabs TT H ∧ ∀ H1, ExtN H H1 → Tabs TT H1 → tCall (spReadTerm CB CT tsL K TT) [] (fun cls d H2 => wxT CB CT cls d H2 Q) (tCons (tVar i) tNil) σ H1 (putL Q) := by
  refine ⟨hT, fun H1 e1 t1 => ⟨_, hi, x, rfl, hx, t1, fun tr er ef H2 r e2 t2 d2 p np => ?_, fun tr f er ef q e H2 e2 t2 hq he => .inr ⟨rfl, e, q, rfl, he, fun p np => ?_⟩, fun ln q er H2 e e2 t2 he => .inl ⟨rfl, e, _, _, rfl, he, fun p np => ?_⟩⟩⟩
  · have b := Same.new (o := .lst [V.ref r]) np
    refine k p _ ((e1.trans e2).trans (.of b)) (t2.ext b) ?_
    unfold dueT
    rw [er]
    dsimp only
    rw [ef]
    exact .lst (SqL.of upd_same) (.cons (Dp.same b d2) .nil)
  · have b := Same.new (o := .tup [V.str "term", V.ref q]) np
    refine k p _ ((e1.trans e2).trans (.of b)) (t2.ext b) ?_
    unfold dueT
    rw [er]
    dsimp only
    rw [ef]
    exact .tup (SqT.of upd_same) (.cons (.str _) (.cons (.tup (b.tup hq) (DpAll.ints _)) .nil))
  · have b := Same.new (o := .tup [V.str "text", V.int (ln : Int), V.int (q : Int)]) np
    refine k p _ ((e1.trans e2).trans (.of b)) (t2.ext b) ?_
    unfold dueT
    rw [er]
    exact .tup (SqT.of upd_same) (.cons (.str _) (.cons (.int _) (.cons (.int _) .nil)))
end
end CS
set_option Elab.async false
set_option maxRecDepth 100000
set_option maxHeartbeats 8000000
set_option linter.unusedVariables false
set_option pp.maxSteps 6000
/-! the law on one drawn paper -/
namespace CS
open PySem L2 RZ LamX
theorem neT_str {s : Str} {H : Hp} {Q : VK} (h : Q (.bl false) H) : rNe (.str s) (.str s) H Q := ⟨rfl, by rw [decide_eq_true rfl]; exact h⟩
theorem jnL_mem {c a : Nat} : ∀ {ps : List (List Nat)}, a ∈ jnL c ps → a = c ∨ ∃ p ∈ ps, a ∈ p
  | [], h => by cases h
  | [p], h => .inr ⟨p, List.mem_cons_self, h⟩
  | p :: q :: r, h => by
    rcases List.mem_append.mp (show a ∈ p ++ c :: jnL c (q :: r) from h) with h | h
    · exact .inr ⟨p, List.mem_cons_self, h⟩
    · rcases List.mem_cons.mp h with h | h
      · exact .inl h
      · rcases jnL_mem h with h | ⟨x, hx, h⟩
        · exact .inl h
        · exact .inr ⟨x, List.mem_cons_of_mem _ hx, h⟩
/-- the words' signs are plain -/
def WPl (L : Shp) : Prop := ∀ w s, shpOf L w = some s → ∀ c ∈ lsS w, c < 256
theorem wpl_of {L : Shp} (h : (L.all fun p => (lsS p.1).all fun c => decide (c < 256)) = true) : WPl L := fun w s e c hc => of_decide_eq_true (List.all_eq_true.mp (List.all_eq_true.mp h _ (shpOf_mem e)) c hc)
theorem ts_wpl : WPl tsL := wpl_of (by decide +kernel)
theorem strI_plain (i : Int) : ∀ c ∈ lsS (strI i), c < 256 := fun c hc => by
  cases i with
  | ofNat n =>
    rw [show Int.ofNat n = (n : Int) from rfl, strI_nat] at hc
    have := TL.numL_digits n c hc
    omega
  | negSucc m =>
    rw [strI_neg] at hc
    rcases List.mem_cons.mp hc with rfl | hc
    · decide
    · have := TL.numL_digits (m + 1) c hc
      omega
theorem Pt.wl_plain {L : Shp} (f : WPl L) : ∀ {t : Pt}, t.Wf (kdS L) → ∀ x ∈ t.wl, ∀ c ∈ lsS x, c < 256 := fun {t} wf => by
  have hI : ∀ (ns : List Int), ∀ x ∈ ns.map strI, ∀ c ∈ lsS x, c < 256 := fun ns x hx => by
    obtain ⟨n, _, rfl⟩ := List.mem_map.mp hx
    exact strI_plain n
  have wd : ∀ {w : Str} {q : Nat × Nat}, kdS L w = some q → ∀ c ∈ lsS w, c < 256 := fun {w q} h => by
    unfold kdS at h
    obtain ⟨s, hs, _⟩ := Option.map_eq_some_iff.mp h
    exact f w s hs
  induction t with
  | n0 w ns =>
    intro x hx
    rcases List.mem_cons.mp hx with rfl | hx
    · exact wd wf
    · exact hI ns x hx
  | n1 w ns k i1 =>
    intro x hx
    rcases List.mem_cons.mp hx with rfl | hx
    · exact wd wf.1
    · rcases List.mem_append.mp hx with hx | hx
      · exact hI ns x hx
      · exact i1 wf.2 x hx
  | n2 w ns k l i1 i2 =>
    intro x hx
    obtain ⟨b, hb⟩ := wf.1
    rcases List.mem_cons.mp hx with rfl | hx
    · exact wd hb
    · rcases List.mem_append.mp hx with hx | hx
      · exact hI ns x hx
      · rcases List.mem_append.mp hx with hx | hx
        · exact i1 wf.2.1 x hx
        · exact i2 wf.2.2 x hx
theorem Sh.strP {x : Str} {n : Nat} (h : ∀ c ∈ lsS x, c < 256) (l : x.length ≤ n) : Sh 0 n (.str x) := by
  refine ⟨rfl, rfl, ?_, by simp [PyData.depth], l⟩
  simp only [PyData.leavesShort]
  exact List.all_eq_true.mpr fun c hc => decide_eq_true (Nat.lt_of_lt_of_le (h c hc) (by decide))
theorem Pt.ts_sh {L : Shp} (f : WPl L) {t : Pt} (wf : t.Wf (kdS L)) {n : Nat} (l : t.ts.length ≤ n) : Sh 0 n (.str t.ts) := by
  refine Sh.strP (fun c hc => ?_) l
  rw [Pt.ts_wl] at hc
  rcases jnL_mem hc with rfl | ⟨p, hp, hc⟩
  · decide
  · obtain ⟨x, hx, rfl⟩ := List.mem_map.mp hp
    exact Pt.wl_plain f wf x hx c hc
theorem Pt.sm_bg : ∀ {t : Pt}, t.Sm → t.Bg := fun {t} h => by
  have p : (10 : Nat) ^ 4 ≤ 10 ^ 32 := by decide
  induction t with
  | n0 w ns => exact fun n hn => Nat.lt_of_lt_of_le (h.2.2 n hn) p
  | n1 w ns k i1 => exact ⟨fun n hn => Nat.lt_of_lt_of_le (h.1.2.2 n hn) p, i1 h.2⟩
  | n2 w ns k l i1 i2 => exact ⟨fun n hn => Nat.lt_of_lt_of_le (h.1.2.2 n hn) p, i1 h.2.1, i2 h.2.2⟩
theorem ts_kok : KOk tsL wdL := by
  refine ⟨by decide +kernel, fun w => ?_⟩
  have e : wdL = tsL.map fun p => (p.1, ((wpl 0 (lsS p.2)).length : Int), ((kpl 0 (lsS p.2)).length : Int)) := by decide +kernel
  unfold kdS shpOf wdOf
  rw [e, List.find?_map, Option.map_map, Option.map_map]
  cases h : tsL.find? fun p => decide (p.1 = w) with
  | none =>
    left
    have h2 : List.find? ((fun p : WdP => decide (p.1 = w)) ∘ fun p : Str × Str => (p.1, ((wpl 0 (lsS p.2)).length : Int), ((kpl 0 (lsS p.2)).length : Int))) tsL = none := h
    rw [h2]
    exact ⟨rfl, rfl⟩
  | some q =>
    right
    have h2 : List.find? ((fun p : WdP => decide (p.1 = w)) ∘ fun p : Str × Str => (p.1, ((wpl 0 (lsS p.2)).length : Int), ((kpl 0 (lsS p.2)).length : Int))) tsL = some q := h
    rw [h2]
    have m := List.mem_of_find?_eq_some h
    have al : (tsL.all fun p => decide ((wpl 0 (lsS p.2)).length ≤ 9) && decide ((kpl 0 (lsS p.2)).length ≤ 2)) = true := by decide +kernel
    have := List.all_eq_true.mp al q m
    simp only [Bool.and_eq_true, decide_eq_true_eq] at this
    exact ⟨_, _, rfl, rfl, this.1, this.2⟩
section
variable {P : Program} {w : World} {K : PySem.W.Frag} {mg : Str → Option Value} {base : Heap} {CB CT : Addr} {TT : List (Addr × Str)}
theorem tabs_lstT {H : Hp} (h : Tabs TT H) {q : Addr} {xs ys : List V} (e : H q = some (.lst xs)) : Tabs TT (upd H q (.lst ys)) := fun p hp => by
  obtain ⟨ps, b1, b2, b3⟩ := h p hp
  refine ⟨ps, ?_, b2, fun pos cv z => ?_⟩
  · rw [upd_ne]
    · exact b1
    · intro w
      rw [w, e] at b1
      cases b1
  · obtain ⟨c0, rfl, y⟩ := b3 pos cv z
    refine ⟨c0, rfl, ?_⟩
    unfold CodeO at y ⊢
    rw [upd_ne]
    · exact y
    · intro w
      rw [w, e] at y
      cases y
def spRight31 (K : PySem.W.Frag) (TT : List (Addr × Str)) : Sp := fun vs H Q _ => ∃ (d c l : Addr) (k : Nat), vs = [.ref d] ∧ StAt H d c l k ∧ k + 200 ≤ 80000 ∧ Tabs TT H ∧ ∀ H' k', k' ≤ k + 110 → StAt H' d c l k' → Tabs TT H' → Q (.bl true) H'
abbrev nsLawRight : List Str := ["state", "term", "line", "sheets", "k", "sheet", "heard"]
theorem scLawRight : FnScope nsLawRight ["state"] (defScope sLawRight) := ⟨rfl, rfl, rfl, by decide +kernel, rfl, by decide +kernel, by decide +kernel⟩
theorem ok_law_right {f : Addr} {fd : FuncData} {c0 p0 : Addr} {TT : List (Addr × Str)} (F : FunC K "_law_right" "_law_right" sLawRight f fd c0) (TB : LamX.TabB base mg c0 p0) (hm : (p0, (("_law_right" : Str) ++ ".<locals>.") ++ "<lambda>") ∈ TT) (hut : ∀ p ∈ TT, p.1 = p0 → p.2 = (("_law_right" : Str) ++ ".<locals>.") ++ "<lambda>")
    {f1 : Addr} {fd1 : FuncData} (D1 : Df K mg "_law_term_due" sLawTermDue ["sheet"] f1 fd1) (G1 : FnOk P w K mg base CX0 25 f1 fd1 ["sheet"] (spDue K tsL))
    {f2 : Addr} {fd2 : FuncData} (D2 : Df K mg "_law_bent_text" sLawBentText ["state", "sheet"] f2 fd2) (G2 : FnOk P w K mg base CX0 4 f2 fd2 ["state", "sheet"] (spBent K))
    {f3 : Addr} {fd3 : FuncData} (D3 : Df K mg "term_text" sTermText ["term"] f3 fd3) (G3 : FnOk P w K mg base (L2.CX P w) 23 f3 fd3 ["term"] (spTermText K tsL))
    {f4 : Addr} {fd4 : FuncData} (D4 : Df K mg "_law_line_of" sLawLineOf ["thing"] f4 fd4) (G4 : FnOk P w K mg base CX0 22 f4 fd4 ["thing"] (spLineOf K tsL 19))
    {f5 : Addr} {fd5 : FuncData} (D5 : Df K mg "_law_paper" sLawPaper ["state", "deep"] f5 fd5) (G5 : FnOk P w K mg base CX0 7 f5 fd5 ["state", "deep"] (spPaper K 3))
    {fread fheard : Addr} {fdread fdheard : FuncData} (T : Bt mg) (mrepr : mg "repr" = none) (Dread : Df K mg "read_term" sReadTerm ["text"] fread fdread) (Gread : FnOk P w K mg base (L2.CX P w) 30 fread fdread ["text"] (spReadTerm CB CT tsL K TT)) (Dheard : Df K mg "_law_heard" sLawHeard ["call"] fheard fdheard) (Gheard : ∀ act, ActOk P w K mg base 31 act → FnOk P w K mg base CX0 32 fheard fdheard ["call"] (spGiveL (wxT CB CT) act)) : FnG P w K mg base CX0 33 f fd ["state"] (spRight31 K TT) := by
  refine F.okG scLawRight (fun vs H Q E h => ?_) (fun A outer s H vs Q E hq hr h => ?_)
  · obtain ⟨d, c, l, k, rfl, _⟩ := h
    rfl
  · obtain ⟨d, c, l, k, rfl, S, hk, hT, kk⟩ := h
    have hq2 : (A.deeper (PyProof.Rows.envOfC "_law_right" (defScope sLawRight) s.heap.objs.size f (.ref c0))).guards = some [] := hq
    refine ⟨_, PSs.nox (pss_cons (ps_set (i := 1) scLawRight.nd rfl (Or.inl rfl) (pe_call G5 (hr.mono (by omega)) (by rfl) D5.g D5.F.kp D5.b .nil pass0 (pa_cons (pv 0) (pa_cons pe_int pa_nil))))
      (pss_cons (ps_set (i := 2) scLawRight.nd rfl (Or.inl rfl) (pe_call G4 (hr.mono (by omega)) (by rfl) D4.g D4.F.kp D4.b .nil pass0 (pa_cons (pv 1) pa_nil)))
      (pss_cons (ps_if (pt_cmpR op_ne (pe_callB (call_show hq2 hr.units) (by rfl) mrepr (by decide +kernel) (pa_cons (pe_lst (pa_cons (pe_call G3 (hr.mono (by omega)) (by rfl) D3.g D3.F.kp D3.b .nil passL (pa_cons (pv 1) pa_nil)) (pa_cons (pe_call Gread (hr.mono (by omega)) (by rfl) Dread.g Dread.F.kp Dread.b .nil passL (pa_cons (pv 2) pa_nil)) (pa_cons (pe_call G3 (hr.mono (by omega)) (by rfl) D3.g D3.F.kp D3.b .nil passL (pa_cons (pv 1) pa_nil)) pa_nil)))) pa_nil)) (pe_callB (call_show hq2 hr.units) (by rfl) mrepr (by decide +kernel) (pa_cons (pe_lst (pa_cons (pv 2) (pa_cons (pv 1) (pa_cons (pv 2) pa_nil)))) pa_nil)) (nomark _)) (pss_one (ps_ret pe_bl)) pss_nil)
      (pss_cons (ps_set (i := 3) scLawRight.nd rfl (Or.inl rfl) (pe_lst (pa_cons (pv 2) (pa_cons (pe_op op_add_str (pv 2) pe_str) (pa_cons (pe_op op_add_str (pv 2) pe_str) (pa_cons (pe_op op_add_str pe_str (pv 2)) (pa_cons (pe_op op_add_str (pe_op op_mulS pe_str pe_int) (pv 2)) (pa_cons (pe_op op_add_str (pe_op op_mulS pe_str pe_int) pe_str) pa_nil))))))))
      (pss_cons (ps_expr (pe_bm PySem.F.plainAttrs_list PySem.F.slot_list_append PySem.F.type_list_append mt_append (pv 3) (pa_cons (pe_op op_add_str (pe_op op_mulS pe_str pe_int) pe_str) pa_nil)))
      (pss_cons (ps_for PassesOwn.never rfl (pi_range1 (by rfl) T.range (pa_cons pe_int pa_nil)) (pg_name (i := 4) scLawRight.nd rfl (Or.inl rfl)) (pss_one (ps_expr (pe_bm PySem.F.plainAttrs_list PySem.F.slot_list_append PySem.F.type_list_append mt_append (pv 3) (pa_cons (pe_call G2 (hr.mono (by omega)) (by rfl) D2.g D2.F.kp D2.b .nil pass0 (pa_cons (pv 0) (pa_cons (pv 2) pa_nil))) pa_nil)))))
      (pss_cons (ps_for PassesOwn.never rfl (pi_list (pv 3)) (pg_name (i := 5) scLawRight.nd rfl (Or.inr rfl)) (pss_cons (ps_set (i := 6) scLawRight.nd rfl (Or.inl rfl) (pe_lst (pa_cons (pe_giveL (k := 30) (Wx := wxT CB CT) (T := TT) (natT CB CT) Gheard (hr.mono (by omega)) (by rfl) Dheard.g Dheard.F.kp Dheard.b (fun _ => rfl) (lsc_by (by show lscB (defScope sLawRight) _ nsLawRight = true; decide +kernel)) (pe_lam0 TB rfl hm hut (lsc_by (by show lscB (defScope sLawRight) _ nsLawRight = true; decide +kernel)) rfl) (fun A outer s H E f c' hr2 => pe_call Gread hr2 (by rfl) Dread.g Dread.F.kp Dread.b .nil (passes_call (takes_of rfl rfl rfl rfl) (fun _ _ _ _ h => h)) (pa_cons (pv 5) pa_nil))) (pa_cons (pe_giveL (k := 30) (Wx := wxT CB CT) (T := TT) (natT CB CT) Gheard (hr.mono (by omega)) (by rfl) Dheard.g Dheard.F.kp Dheard.b (fun _ => rfl) (lsc_by (by show lscB (defScope sLawRight) _ nsLawRight = true; decide +kernel)) (pe_lam1 TB rfl hm hut (lsc_by (by show lscB (defScope sLawRight) _ nsLawRight = true; decide +kernel)) (by decide +kernel) rfl) (fun A outer s H E f c' hr2 => pe_call Gread hr2 (by rfl) Dread.g Dread.F.kp Dread.b .nil (passes_call (takes_of rfl rfl rfl rfl) (fun _ _ _ _ h => h)) (pa_cons (pv 5) pa_nil))) pa_nil))))
      (pss_one (ps_if (pt_cmpR op_ne (pe_callB (call_show hq2 hr.units) (by rfl) mrepr (by decide +kernel) (pa_cons (pv 6) pa_nil)) (pe_callB (call_show hq2 hr.units) (by rfl) mrepr (by decide +kernel) (pa_cons (pe_op op_rep (pe_lst (pa_cons (pe_call G1 (hr.mono (by omega)) (by rfl) D1.g D1.F.kp D1.b .nil pass0 (pa_cons (pv 5) pa_nil)) pa_nil)) pe_int) pa_nil)) (nomark _)) (pss_one (ps_ret pe_bl)) pss_nil))))
      (pss_one (ps_ret pe_bl))))))))), ?_⟩
    have szL : ∀ {n : Nat}, n ≤ 9000 → n ≤ sizeLine := fun h => Nat.le_trans h (by decide)
    have d3 : drwP 3 = 75 := by decide
    dsimp only [tSeq, tAsg]
    refine ⟨_, rfl, d, c, l, k, rfl, S, by omega, fun H1 u t k1 ok hk1 S1 fm1 d1 => ?_⟩
    have w15 : t.words ≤ 15 := ok.wd
    have fl := Pt.gd_fl ok.gd (p := []) (by decide)
    have rd := Pt.rd_ts ts_f32 ts_f10 ok.wf ok.sm (by omega)
    have lts := Pt.ts_len ok.sm
    have lt9 : t.ts.length ≤ 900 := by omega
    have t1 := tabs_fm hT fm1 S
    refine ⟨_, rfl, u, t, rfl, d1, ts_good.1, ok.wf, ok.sm, by omega, by omega, fun H2 s2 => ?_⟩
    have l6 : ("short " : Str).length = 6 := by decide +kernel
    have lc : ("cash 1" : Str).length = 6 := by decide +kernel
    have ls1 : (" " : Str).length = 1 := by decide +kernel
    have ln1 : ("\n" : Str).length = 1 := by decide +kernel
    have r8 : (repS 8 ("short " : Str)).length = 48 := by rw [repS_len, l6]
    have r19 : (repS 19 ("short " : Str)).length = 114 := by rw [repS_len, l6]
    have r20 : (repS 20 ("short " : Str)).length = 120 := by rw [repS_len, l6]
    have d2 := Dp.same s2 d1
    have t2 := t1.ext s2
    have S2 := S1.same s2
    refine ⟨_, rfl, u, t, rfl, d2, ok.wf, ok.sm, by omega, fl, fun H3 s3 => ?_⟩
    have d3' := Dp.same s3 d2
    refine ⟨_, rfl, t.ts, rfl, by omega, t2.ext s3, fun tr er ef H4 r e4 t4 d4 => ?_, fun tr p er ef => ?_, fun ln q er => ?_⟩
    case refine_2 =>
      rw [rd] at er
      cases er
      rw [fl] at ef
      cases ef
    case refine_3 =>
      rw [rd] at er
      cases er
    rw [rd] at er
    cases er
    have d4u := dp_ext d3' e4
    refine ⟨_, rfl, u, t, rfl, d4u, ok.wf, ok.sm, by omega, fl, fun H5 s5 => ⟨(by show 3 ≤ sizeLine; decide), fun l5 n5 => ?_⟩⟩
    have k5 := Same.new (o := .lst [V.str t.ts, V.ref r, V.str t.ts]) n5
    have sT := Pt.shows ts_good.1 ts_shw ok.wf (Pt.sm_bg ok.sm)
    have sS := (Pt.ts_sh ts_wpl ok.wf lt9).up (c := t.words) (Nat.zero_le _) (Nat.le_refl _)
    have sh := (Sh.lst (sS.consL (sT.consL (sS.consL (.nil _))))).shows (by omega) (by omega)
    refine ⟨.ref l5, .list [.str t.ts, t.toD tsL, .str t.ts], rfl, .lst (SqL.of upd_same) (.cons (.str _) (.cons (Dp.same (s5.trans k5) d4) (.cons (.str _) .nil))), sh.ok, sh.nd, sh.dp, sh.sz, ?_⟩
    have e5 := e4.trans (.of (s5.trans k5))
    have t5 := t4.ext (s5.trans k5)
    have d5u := Dp.same (s5.trans k5) d4u
    have S5 := (S2.same s3).ext e5
    generalize upd H5 l5 (.lst [V.str t.ts, V.ref r, V.str t.ts]) = H6 at *
    refine ⟨_, rfl, _, rfl, _, rfl, (by show 3 ≤ sizeLine; decide), fun l6' n6 => ?_⟩
    have k6 := Same.new (o := .lst [V.str t.ts, u, V.str t.ts]) n6
    refine ⟨.ref l6', .list [.str t.ts, t.toD tsL, .str t.ts], rfl, .lst (SqL.of upd_same) (.cons (.str _) (.cons (Dp.same k6 d5u) (.cons (.str _) .nil))), sh.ok, sh.nd, sh.dp, sh.sz, ?_⟩
    have t6 := t5.ext k6
    have S6 := S5.same k6
    generalize upd H6 l6' (.lst [V.str t.ts, u, V.str t.ts]) = H7 at *
    refine neT_str ⟨_, rfl, iteF ?_⟩
    clear d2 d3' d4 d4u d5u e4 e5 k5 k6 s3 s5 t4 t5 sh
    -- the texts
    have szA : ∀ {a b : Nat}, a ≤ 3000 → b ≤ 3000 → a + b ≤ sizeLine := fun h1 h2 => szL (by omega)
    refine ⟨_, rfl, _, rfl, _, _, rfl, rfl, szA (by omega) (by omega), _, rfl, _, _, rfl, rfl, szA (by omega) (by omega), _, rfl, _, _, rfl, rfl, szA (by omega) (by omega), "short ", 8, rfl, rfl, by omega, by omega, by omega, by omega, _, rfl, _, _, rfl, rfl, szA (by omega) (by omega), "short ", 19, rfl, rfl, by omega, by omega, by omega, by omega, _, _, rfl, rfl, szA (by omega) (by omega), (by show 6 ≤ sizeLine; decide), fun sl nsl => ?_⟩
    have Ns := S6.neD nsl
    have k7 := Same.new (o := .lst [V.str t.ts, V.str (t.ts ++ " "), V.str (t.ts ++ "\n"), V.str (" " ++ t.ts), V.str (repS 8 "short " ++ t.ts), V.str (repS 19 "short " ++ "cash 1")]) nsl
    have S7 := S6.same k7
    have t7 := t6.ext k7
    have h7 : (upd H7 sl (.lst [V.str t.ts, V.str (t.ts ++ " "), V.str (t.ts ++ "\n"), V.str (" " ++ t.ts), V.str (repS 8 "short " ++ t.ts), V.str (repS 19 "short " ++ "cash 1")])) sl = some (.lst (([t.ts, t.ts ++ " ", t.ts ++ "\n", " " ++ t.ts, repS 8 "short " ++ t.ts, repS 19 "short " ++ "cash 1"] : List Str).map V.str)) := upd_same
    have z7 : ∀ z ∈ ([t.ts, t.ts ++ " ", t.ts ++ "\n", " " ++ t.ts, repS 8 "short " ++ t.ts, repS 19 "short " ++ "cash 1"] : List Str), z.length ≤ 3000 := fun z hz => by
      simp only [List.mem_cons, List.not_mem_nil, or_false] at hz
      rcases hz with rfl | rfl | rfl | rfl | rfl | rfl
      · omega
      · rw [add_len]; omega
      · rw [add_len]; omega
      · rw [add_len]; omega
      · rw [add_len]; omega
      · rw [add_len]; omega
    have n7 : ([t.ts, t.ts ++ " ", t.ts ++ "\n", " " ++ t.ts, repS 8 "short " ++ t.ts, repS 19 "short " ++ "cash 1"] : List Str).length = 6 := rfl
    generalize upd H7 sl (.lst [V.str t.ts, V.str (t.ts ++ " "), V.str (t.ts ++ "\n"), V.str (" " ++ t.ts), V.str (repS 8 "short " ++ t.ts), V.str (repS 19 "short " ++ "cash 1")]) = H8 at *
    generalize ([t.ts, t.ts ++ " ", t.ts ++ "\n", " " ++ t.ts, repS 8 "short " ++ t.ts, repS 19 "short " ++ "cash 1"] : List Str) = zs7 at *
    refine ⟨_, rfl, .inl ⟨rfl, _, SqL.of h7⟩, "short ", 20, rfl, rfl, by omega, by omega, by omega, by omega, _, _, rfl, rfl, szA (by omega) (by omega), sl, _, _, rfl, rfl, h7, szL (by rw [List.length_map]; omega), ?_⟩
    have t8 := tabs_lstT (ys := zs7.map V.str ++ [V.str (repS 20 "short " ++ "cash 1")]) t7 h7
    have S8 := S7.upd (o := .lst (zs7.map V.str ++ [V.str (repS 20 "short " ++ "cash 1")])) Ns.1 Ns.2.1 Ns.2.2
    have h8 : (upd H8 sl (.lst (zs7.map V.str ++ [V.str (repS 20 "short " ++ "cash 1")]))) sl = some (.lst ((zs7 ++ [repS 20 "short " ++ "cash 1"]).map V.str)) := by
      rw [upd_same, List.map_append]
      rfl
    have z8 : ∀ z ∈ zs7 ++ [repS 20 "short " ++ "cash 1"], z.length ≤ 3000 := fun z hz => by
      rcases List.mem_append.mp hz with hz | hz
      · exact z7 z hz
      · rw [List.mem_singleton.mp hz, add_len]
        omega
    have n8 : (zs7 ++ [repS 20 "short " ++ "cash 1"]).length = 7 := by rw [List.length_append, n7]; rfl
    generalize upd H8 sl (.lst (zs7.map V.str ++ [V.str (repS 20 "short " ++ "cash 1")])) = H9 at *
    generalize zs7 ++ [repS 20 "short " ++ "cash 1"] = zs8 at *
    refine ⟨6, rfl, by decide, by decide, for_range (lo := 0) (n := 6) (fun i σ H' => ∃ v4 zs kk, σ = [some (.ref d), some u, some (.str t.ts), some (.ref sl), v4, none, none] ∧ H' sl = some (.lst (zs.map V.str)) ∧ zs.length = 7 + i ∧ (∀ z ∈ zs, z.length ≤ 3000) ∧ StAt H' d c l kk ∧ kk ≤ k1 + 5 * i ∧ Tabs TT H') ⟨none, zs8, k1, rfl, h8, n8, z8, S8, by omega, t8⟩ ?_ ?_⟩
    · rintro i σ Ha hi ⟨v4, zs, kk', rfl, ha, na, za, Sa, hka, ta⟩
      refine ⟨_, rfl, .inl ⟨rfl, _, SqL.of ha⟩, _, rfl, _, rfl, d, c, l, kk', t.ts, rfl, Sa, by omega, lt9, fun Hb y kb ly hkb Sb fmb => ⟨sl, _, _, rfl, rfl, fmb _ _ ha Ns.1 Ns.2.2, szL (by rw [List.length_map]; omega), ?_⟩⟩
      have hb := fmb _ _ ha Ns.1 Ns.2.2
      refine ⟨_, zs ++ [y], kb, rfl, ?_, by rw [List.length_append, na]; rfl, fun z hz => ?_, Sb.upd Ns.1 Ns.2.1 Ns.2.2, by omega, tabs_lstT (tabs_fm ta fmb Sa) hb⟩
      · rw [upd_same, List.map_append]
        rfl
      · rcases List.mem_append.mp hz with hz | hz
        · exact za z hz
        · rw [List.mem_singleton.mp hz]
          omega
    rintro σ Ha ⟨v4, zs, kk', rfl, ha, na, za, Sa, hka, ta⟩
    refine ⟨_, rfl, sl, rfl, ⟨_, SqL.of ha⟩, for_list (K := K) (a := sl) (xs := zs.map V.str) (fun i σ H' => ∃ v4 v5 v6, σ = [some (.ref d), some u, some (.str t.ts), some (.ref sl), v4, v5, v6] ∧ H' sl = some (.lst (zs.map V.str)) ∧ StAt H' d c l kk' ∧ Tabs TT H') ⟨v4, none, none, rfl, ha, Sa, ta⟩ (fun i σ H' _ ⟨_, _, _, _, h, _⟩ => SqL.of h) ?_ ?_⟩
    · rintro i x σ Hb hxi ⟨v4, v5, v6, rfl, hb, Sb, tb⟩
      rw [List.getElem?_map] at hxi
      obtain ⟨z, hz, rfl⟩ := Option.map_eq_some_iff.mp hxi
      have lz := za z (List.mem_of_getElem? hz)
      have sD := due_shows lz
      have sL := (Sh.lst (sD.consL (sD.consL (.nil _)))).shows (by decide) (by decide)
      refine rd_cut tb rfl lz fun y1 Hc e1 tc dc => ?_
      refine rd_cut tc rfl lz fun y2 Hd e2 td dd => ⟨(by show 2 ≤ sizeLine; decide), fun lh nh => ?_⟩
      have kh := Same.new (o := .lst [V.ref y1, V.ref y2]) nh
      refine ⟨_, rfl, .ref lh, .list [dueT tsL z, dueT tsL z], rfl, .lst (SqL.of upd_same) (.cons (dp_same (dp_ext dc e2) kh) (.cons (dp_same dd kh) .nil)), sL.ok, sL.nd, sL.dp, sL.sz, ?_⟩
      have eh := (e1.trans e2).trans (.of kh)
      have th := td.ext kh
      generalize upd Hd lh (.lst [V.ref y1, V.ref y2]) = He at *
      refine ⟨_, rfl, z, rfl, lz, ts_good, ts_jok, ts_kok, ts_sok, ts_bok, fun Hf v sf df => ⟨(by show 1 ≤ sizeLine; decide), fun l1 n1 => ⟨l1, 2, [v], rfl, rfl, upd_same, by decide, by decide, (by show 1 * 2 ≤ sizeLine; decide), fun l2 n2 => ?_⟩⟩⟩
      have q1 := Same.new (o := .lst [v]) n1
      have q2 := Same.new (o := .lst (List.replicate (2 : Int).toNat [v]).flatten) n2
      refine ⟨.ref l2, .list [dueT tsL z, dueT tsL z], rfl, .lst (SqL.of upd_same) (.cons (Dp.same (q1.trans q2) df) (.cons (Dp.same (q1.trans q2) df) .nil)), sL.ok, sL.nd, sL.dp, sL.sz, ?_⟩
      have ef := eh.trans (.of ((sf.trans q1).trans q2))
      exact neT_str ⟨_, rfl, iteF ⟨_, _, _, rfl, ef _ _ hb (fun _ w => by cases w), Sb.ext ef, (th.ext sf).ext (q1.trans q2)⟩⟩
    rintro σ Hb ⟨v4, v5, v6, rfl, hb, Sb, tb⟩
    exact kk _ kk' (by omega) Sb tb
end
end CS
set_option Elab.async false
set_option maxRecDepth 100000
set_option maxHeartbeats 8000000
set_option linter.unusedVariables false
set_option pp.maxSteps 6000
/-! the law -/
namespace CS
open PySem L2 RZ LamX
section
variable {P : Program} {w : World} {K : PySem.W.Frag} {mg : Str → Option Value} {base : Heap} {CB CT : Addr} {TT : List (Addr × Str)}
def handT : Pt := .n2 "if" [1, -3] (.n1 "times" [-4] (.n0 "at" [2])) (.n2 "both" [] (.n0 "cash" [0]) (.n0 "above" [0, 5]))
theorem handT_ok : PpOk handT 2 := by
  refine .n2 (by decide +kernel) ⟨by decide +kernel, by decide, by decide⟩ (by decide +kernel) (.n1 (by decide +kernel) ⟨by decide +kernel, by decide, by decide⟩ (by decide +kernel) (.n0 (by decide +kernel) ⟨by decide +kernel, by decide, by decide⟩ (by decide +kernel))) (.n2 (by decide +kernel) ⟨by decide +kernel, by decide, by decide⟩ (by decide +kernel) (.n0 (by decide +kernel) ⟨by decide +kernel, by decide, by decide⟩ (by decide +kernel)) (.n0 (by decide +kernel) ⟨by decide +kernel, by decide, by decide⟩ (by decide +kernel)))
theorem handT_ts : handT.ts = "if 1 -3 times -4 at 2 both cash 0 above 0 5" := by decide +kernel
abbrev handD : PyData := .tuple [.str "if", .int 1, .int (-3), .tuple [.str "times", .tuple [.str "at", .int 2], .int (-4)], .tuple [.str "both", .tuple [.str "cash", .int 0], .tuple [.str "above", .int 0, .int 5]]]
theorem handT_toD : handT.toD tsL = handD := by
  unfold handT
  rw [toD_n2 (by decide +kernel), if_pos rfl, toD_n1 (by decide +kernel) (by decide +kernel), toD_n0 (by decide +kernel), toD_n2 (by decide +kernel), if_neg (by decide +kernel), toD_n0 (by decide +kernel), toD_n0 (by decide +kernel)]
  rfl
theorem due_a : PyData.eqv (dueT tsL "cash 01") (.tuple [.str "text", .int 0, .int 1]) = true ∧ SeqAt.shaped (dueT tsL "cash 01") = true := by
  decide +kernel
theorem due_b : PyData.eqv (dueT tsL (repS 8 "short " ++ "cash 1")) (.tuple [.str "term", .tuple []]) = true ∧ SeqAt.shaped (dueT tsL (repS 8 "short " ++ "cash 1")) = true := by
  decide +kernel
theorem len_b : (repS 8 "short " ++ "cash 1").length ≤ 3000 := by decide +kernel
def spLaw31 (K : PySem.W.Frag) (TT : List (Addr × Str)) : Sp := fun vs H Q _ => ∃ (a : Addr) (ns : List Int), vs = [.ref a] ∧ SqL K H a (ns.map V.int) ∧ ns.length ≤ 63 ∧ Tabs TT H ∧ ∀ H', Q (.bl true) H'
abbrev nsLaw : List Str := ["script", "state", "turn", "line", "due", "term"]
theorem scLaw : FnScope nsLaw ["script"] (defScope sLaw) := ⟨rfl, rfl, rfl, by decide +kernel, rfl, by decide +kernel, by decide +kernel⟩
theorem ok_law {f : Addr} {fd : FuncData} {c0 p0 : Addr} {TT : List (Addr × Str)} (F : FunC K "law" "law" sLaw f fd c0) (TB : LamX.TabB base mg c0 p0) (hm : (p0, (("law" : Str) ++ ".<locals>.") ++ "<lambda>") ∈ TT) (hut : ∀ p ∈ TT, p.1 = p0 → p.2 = (("law" : Str) ++ ".<locals>.") ++ "<lambda>")
    {f1 : Addr} {fd1 : FuncData} (D1 : Df K mg "term_text" sTermText ["term"] f1 fd1) (G1 : FnOk P w K mg base (L2.CX P w) 23 f1 fd1 ["term"] (spTermText K tsL))
    {f2 : Addr} {fd2 : FuncData} (D2 : Df K mg "_law_right" sLawRight ["state"] f2 fd2) (G2 : FnG P w K mg base CX0 33 f2 fd2 ["state"] (spRight31 K TT))
    {f3 : Addr} {fd3 : FuncData} (D3 : Df K mg "_law_begin" sBegin ["script"] f3 fd3) (G3 : FnOk P w K mg base CX0 1 f3 fd3 ["script"] (spBegin K))
    {fread fheard : Addr} {fdread fdheard : FuncData} (T : Bt mg) (mmin : mg "min" = none) (Dread : Df K mg "read_term" sReadTerm ["text"] fread fdread) (Gread : FnOk P w K mg base (L2.CX P w) 30 fread fdread ["text"] (spReadTerm CB CT tsL K TT)) (Dheard : Df K mg "_law_heard" sLawHeard ["call"] fheard fdheard) (Gheard : ∀ act, ActOk P w K mg base 31 act → FnOk P w K mg base CX0 32 fheard fdheard ["call"] (spGiveL (wxT CB CT) act)) : FnG P w K mg base CX0 34 f fd ["script"] (spLaw31 K TT) := by
  refine F.okG scLaw (fun vs H Q E h => ?_) (fun A outer s H vs Q E hq hr h => ?_)
  · obtain ⟨a, ns, rfl, _⟩ := h
    rfl
  · obtain ⟨a, ns, rfl, hS, hlen, hT, k⟩ := h
    have hq2 : (A.deeper (PyProof.Rows.envOfC "law" (defScope sLaw) s.heap.objs.size f (.ref c0))).guards = some [] := hq
    refine ⟨_, PSs.nox (pss_cons (ps_set (i := 1) scLaw.nd rfl (Or.inl rfl) (pe_call G3 (hr.mono (by omega)) (by rfl) D3.g D3.F.kp D3.b .nil pass0 (pa_cons (pv 0) pa_nil)))
      (pss_cons (ps_for PassesOwn.never rfl (pi_range1 (by rfl) T.range (pa_cons (pe_op op_add pe_int (pe_callB (call_min2 rfl) (by rfl) mmin (by decide +kernel) (pa_cons (pe_callB call_len_seq (by rfl) T.len PySem.boot_len (pa_cons (pv 0) pa_nil)) (pa_cons pe_int pa_nil)))) pa_nil)) (pg_name (i := 2) scLaw.nd rfl (Or.inl rfl)) (pss_one (ps_if (pt_not (pt_val (pe_callG G2 hq2 (hr.mono (by omega)) (by rfl) D2.g D2.F.kp D2.b pass0 (pa_cons (pv 1) pa_nil)))) (pss_one (ps_ret pe_bl)) pss_nil)))
      (pss_cons (ps_for PassesOwn.never rfl (pi_tup (pe_tup (pa_cons (pe_tup (pa_cons pe_str (pa_cons (pe_tup (pa_cons pe_str (pa_cons pe_int (pa_cons pe_int pa_nil)))) pa_nil))) (pa_cons (pe_tup (pa_cons (pe_op op_add_str (pe_op op_mulS pe_str pe_int) pe_str) (pa_cons (pe_tup (pa_cons pe_str (pa_cons (pe_tup pa_nil) pa_nil))) pa_nil))) pa_nil)))) (pg_tup rfl (pgs_cons (pg_name (i := 3) scLaw.nd rfl (Or.inr rfl)) (pgs_cons (pg_name (i := 4) scLaw.nd rfl (Or.inl rfl)) pgs_nil))) (pss_one (ps_if (pt_cmpR (op_neD hr.units) (pe_giveL (k := 30) (Wx := wxT CB CT) (T := TT) (natT CB CT) Gheard (hr.mono (by omega)) (by rfl) Dheard.g Dheard.F.kp Dheard.b (fun _ => rfl) (lsc_by (by show lscB (defScope sLaw) _ nsLaw = true; decide +kernel)) (pe_lam0 TB rfl hm hut (lsc_by (by show lscB (defScope sLaw) _ nsLaw = true; decide +kernel)) rfl) (fun A outer s H E f c' hr2 => pe_call Gread hr2 (by rfl) Dread.g Dread.F.kp Dread.b .nil (passes_call (takes_of rfl rfl rfl rfl) (fun _ _ _ _ h => h)) (pa_cons (pv 3) pa_nil))) (pv 4) (nomark _)) (pss_one (ps_ret pe_bl)) pss_nil)))
      (pss_cons (ps_set (i := 5) scLaw.nd rfl (Or.inl rfl) (pe_tup (pa_cons pe_str (pa_cons pe_int (pa_cons (pe_un un_neg pe_int) (pa_cons (pe_tup (pa_cons pe_str (pa_cons (pe_tup (pa_cons pe_str (pa_cons pe_int pa_nil))) (pa_cons (pe_un un_neg pe_int) pa_nil)))) (pa_cons (pe_tup (pa_cons pe_str (pa_cons (pe_tup (pa_cons pe_str (pa_cons pe_int pa_nil))) (pa_cons (pe_tup (pa_cons pe_str (pa_cons pe_int (pa_cons pe_int pa_nil)))) pa_nil)))) pa_nil)))))))
      (pss_cons (ps_set (i := 3) scLaw.nd rfl (Or.inr rfl) pe_str)
      (pss_one (ps_ret (pe_and (pe_cmpR op_eq (pe_call G1 (hr.mono (by omega)) (by rfl) D1.g D1.F.kp D1.b .nil passL (pa_cons (pv 5) pa_nil)) (pv 3) (nomark _)) (pe_one (pe_cmpR (op_eqD hr.units) (pe_call Gread (hr.mono (by omega)) (by rfl) Dread.g Dread.F.kp Dread.b .nil passL (pa_cons (pv 3) pa_nil)) (pv 5) (nomark _))))))))))), ?_⟩
    refine ⟨_, rfl, a, ns, rfl, hS, hlen, fun d c l H1 nd s1 S1 => ?_⟩
    refine ⟨_, rfl, a, _, rfl, .inl (s1.seq hS), _, 7, rfl, _, _, rfl, rfl, _, rfl, ?_, ?_, for_range (lo := 0) (fun i σ H' => ∃ v2 kk, σ = [some (.ref a), some (.ref d), v2, none, none, none] ∧ StAt H' d c l kk ∧ kk ≤ 110 * i ∧ Tabs TT H') ⟨none, 0, rfl, S1, by omega, hT.ext s1⟩ ?_ ?_⟩
    · rw [List.length_map]
      split <;> omega
    · rw [List.length_map]
      split <;> omega
    · rintro i σ H2 hi ⟨v2, kk, rfl, S2, hk, t2⟩
      rw [List.length_map] at hi
      have hi2 : i < 10 := by
        split at hi <;> omega
      exact ⟨_, rfl, d, c, l, kk, rfl, S2, by omega, t2, fun H3 k3 hk3 S3 t3 => ⟨_, rfl, iteF ⟨_, k3, rfl, S3, by omega, t3⟩⟩⟩
    rintro σ H2 ⟨v2, kk, rfl, S2, hk, t2⟩
    clear S1 s1 nd hk S2
    have szL : ∀ {n : Nat}, n ≤ 9000 → n ≤ sizeLine := fun h => Nat.le_trans h (by decide)
    refine ⟨(by show 3 ≤ sizeLine; decide), fun e1 n1 => ⟨(by show 2 ≤ sizeLine; decide), fun e2 n2 => ?_⟩⟩
    have k1 := Same.new (o := .tup [V.str "text", V.int 0, V.int 1]) n1
    have k2 := Same.new (o := .tup [V.str "cash 01", V.ref e1]) n2
    refine ⟨"short ", 8, rfl, rfl, by omega, by omega, by decide +kernel, by decide +kernel, _, _, rfl, rfl, szL (by decide +kernel), (by show 0 ≤ sizeLine; decide), fun e3 n3 => ⟨(by show 2 ≤ sizeLine; decide), fun e4 n4 => ⟨(by show 2 ≤ sizeLine; decide), fun e5 n5 => ⟨(by show 2 ≤ sizeLine; decide), fun e6 n6 => ?_⟩⟩⟩⟩
    have k3 := Same.new (o := .tup []) n3
    have k4 := Same.new (o := .tup [V.str "term", V.ref e3]) n4
    have k5 := Same.new (o := .tup [V.str (repS 8 "short " ++ "cash 1"), V.ref e4]) n5
    have k6 := Same.new (o := .tup [V.ref e2, V.ref e5]) n6
    have p1 := (((k2.trans k3).trans k4).trans k5).trans k6
    have p2 := ((k3.trans k4).trans k5).trans k6
    have p3 := (k4.trans k5).trans k6
    have p4 := k5.trans k6
    have g1 := p1 _ _ (upd_same (H := H2) (a := e1) (o := .tup [V.str "text", V.int 0, V.int 1]))
    have g2 := p2 _ _ (upd_same (H := upd H2 e1 (.tup [V.str "text", V.int 0, V.int 1])) (a := e2) (o := .tup [V.str "cash 01", V.ref e1]))
    have g3 := p3 e3 (.tup []) upd_same
    have g4 := p4 e4 (.tup [V.str "term", V.ref e3]) upd_same
    have g5 := k6 e5 (.tup [V.str (repS 8 "short " ++ "cash 1"), V.ref e4]) upd_same
    have t6 := t2.ext (k1.trans p1)
    have g6 : (upd (upd (upd (upd (upd (upd H2 e1 (.tup [V.str "text", V.int 0, V.int 1])) e2 (.tup [V.str "cash 01", V.ref e1])) e3 (.tup [])) e4 (.tup [V.str "term", V.ref e3])) e5 (.tup [V.str (repS 8 "short " ++ "cash 1"), V.ref e4])) e6 (.tup [V.ref e2, V.ref e5])) e6 = some (.tup [V.ref e2, V.ref e5]) := upd_same
    generalize upd (upd (upd (upd (upd (upd H2 e1 (.tup [V.str "text", V.int 0, V.int 1])) e2 (.tup [V.str "cash 01", V.ref e1])) e3 (.tup [])) e4 (.tup [V.str "term", V.ref e3])) e5 (.tup [V.str (repS 8 "short " ++ "cash 1"), V.ref e4])) e6 (.tup [V.ref e2, V.ref e5]) = H3 at *
    clear k1 k2 k3 k4 k5 k6 p1 p2 p3 p4 n1 n2 n3 n4 n5 n6 t2
    generalize eb : repS 8 "short " ++ "cash 1" = xb at *
    have db := due_b
    have lb := len_b
    rw [eb] at db lb
    have dd1 : ∀ {H' : Hp}, ExtN H3 H' → Dp K H' (.ref e1) (.tuple [.str "text", .int 0, .int 1]) := fun e => dp_ext (.tup (SqT.of g1) (.cons (.str _) (.cons (.int _) (.cons (.int _) .nil)))) e
    have dd2 : ∀ {H' : Hp}, ExtN H3 H' → Dp K H' (.ref e4) (.tuple [.str "term", .tuple []]) := fun e => dp_ext (.tup (SqT.of g4) (.cons (.str _) (.cons (.tup (SqT.of g3) .nil) .nil))) e
    refine ⟨e6, rfl, ⟨_, SqT.of g6⟩, for_tup (K := K) (a := e6) (xs := [V.ref e2, V.ref e5]) (fun i σ H' => ∃ v3 v4, σ = [some (.ref a), some (.ref d), v2, v3, v4, none] ∧ ExtN H3 H' ∧ Tabs TT H') ⟨none, none, rfl, ExtN.of (Same.refl _), t6⟩ (fun i σ H' _ ⟨_, _, _, e, _⟩ => SqT.of (e _ _ g6 (fun _ z => by cases z))) ?_ ?_⟩
    · rintro i x σ H4 hx ⟨v3, v4, rfl, e4', t4⟩
      obtain ⟨e, z, q, D, rfl, he, lz, hD, hq, hs, hc⟩ : ∃ e z q D, x = V.ref e ∧ H3 e = some (.tup [V.str z, V.ref q]) ∧ z.length ≤ 3000 ∧ (∀ {H' : Hp}, ExtN H3 H' → Dp K H' (.ref q) D) ∧ PyData.eqv (dueT tsL z) D = true ∧ SeqAt.shaped (dueT tsL z) = true ∧ SeqAt.shaped D = true := by
        match i, hx with
        | 0, hx =>
          cases hx
          exact ⟨e2, _, e1, _, rfl, g2, by decide +kernel, dd1, due_a.1, due_a.2, by decide +kernel⟩
        | 1, hx =>
          cases hx
          exact ⟨e5, _, e4, _, rfl, g5, lb, dd2, db.1, db.2, by decide +kernel⟩
        | _ + 2, hx => cases hx
      refine ⟨e, _, rfl, SqT.of (e4' _ _ he (fun _ z => by cases z)), rfl, _, _, rfl, _, _, rfl, rfl, ?_⟩
      refine rd_cut t4 rfl lz fun y H5 e5 t5 d5 => ⟨_, rfl, _, D, d5, hD (e4'.trans e5), hs, hc, _, rfl, ?_⟩
      rw [hq]
      exact iteF ⟨_, _, rfl, e4'.trans e5, t5⟩
    rintro σ H4 ⟨v3, v4, rfl, e4', t4⟩
    refine ⟨_, rfl, (by show 2 ≤ sizeLine; decide), fun b1 m1 => ⟨_, rfl, (by show 3 ≤ sizeLine; decide), fun b2 m2 => ⟨(by show 2 ≤ sizeLine; decide), fun b3 m3 => ⟨(by show 3 ≤ sizeLine; decide), fun b4 m4 => ⟨(by show 3 ≤ sizeLine; decide), fun b5 m5 => ⟨(by show 5 ≤ sizeLine; decide), fun b6 m6 => ?_⟩⟩⟩⟩⟩⟩
    have k1 := Same.new (o := .tup [V.str "at", V.int 2]) m1
    have k2 := Same.new (o := .tup [V.str "times", V.ref b1, V.int (-4)]) m2
    have k3 := Same.new (o := .tup [V.str "cash", V.int 0]) m3
    have k4 := Same.new (o := .tup [V.str "above", V.int 0, V.int 5]) m4
    have k5 := Same.new (o := .tup [V.str "both", V.ref b3, V.ref b4]) m5
    have k6 := Same.new (o := .tup [V.str "if", V.int 1, V.int (-3), V.ref b2, V.ref b5]) m6
    have hand : Dp K (upd (upd (upd (upd (upd (upd H4 b1 (.tup [V.str "at", V.int 2])) b2 (.tup [V.str "times", V.ref b1, V.int (-4)])) b3 (.tup [V.str "cash", V.int 0])) b4 (.tup [V.str "above", V.int 0, V.int 5])) b5 (.tup [V.str "both", V.ref b3, V.ref b4])) b6 (.tup [V.str "if", V.int 1, V.int (-3), V.ref b2, V.ref b5])) (.ref b6) (handT.toD tsL) := by
      rw [handT_toD]
      refine .tup (SqT.of upd_same) (.cons (.str _) (.cons (.int _) (.cons (.int _) (.cons (.tup ((((k3.trans k4).trans k5).trans k6).tup (SqT.of upd_same)) (.cons (.str _) (.cons (.tup (((((k2.trans k3).trans k4).trans k5).trans k6).tup (SqT.of upd_same)) (.cons (.str _) (.cons (.int _) .nil))) (.cons (.int _) .nil)))) (.cons (.tup (k6.tup (SqT.of upd_same)) (.cons (.str _) (.cons (.tup (((k4.trans k5).trans k6).tup (SqT.of upd_same)) (.cons (.str _) (.cons (.int _) .nil))) (.cons (.tup ((k5.trans k6).tup (SqT.of upd_same)) (.cons (.str _) (.cons (.int _) (.cons (.int _) .nil)))) .nil)))) .nil)))))
    have t5 := t4.ext (((((k1.trans k2).trans k3).trans k4).trans k5).trans k6)
    generalize upd (upd (upd (upd (upd (upd H4 b1 (.tup [V.str "at", V.int 2])) b2 (.tup [V.str "times", V.ref b1, V.int (-4)])) b3 (.tup [V.str "cash", V.int 0])) b4 (.tup [V.str "above", V.int 0, V.int 5])) b5 (.tup [V.str "both", V.ref b3, V.ref b4])) b6 (.tup [V.str "if", V.int 1, V.int (-3), V.ref b2, V.ref b5]) = H5 at *
    clear k1 k2 k3 k4 k5 k6
    have ok := handT_ok
    have fl := Pt.gd_fl ok.gd (p := []) (by decide)
    have rd := Pt.rd_ts ts_f32 ts_f10 ok.wf ok.sm (by decide)
    have lts := Pt.ts_len ok.sm
    have w7 : handT.words = 6 := rfl
    rw [handT_ts] at rd
    refine ⟨_, rfl, .ref b6, handT, rfl, hand, ok.wf, ok.sm, by decide, fl, fun H6 s6 => ⟨_, rfl, rfl, ?_⟩⟩
    rw [handT_ts]
    refine ⟨_, rfl, iteTe (decide_eq_true rfl) ⟨_, rfl, "if 1 -3 times -4 at 2 both cash 0 above 0 5", rfl, by decide +kernel, t5.ext s6, fun tr er ef H7 r e7 t7 d7 => ?_, fun tr p er ef => ?_, fun ln q er => ?_⟩⟩
    · rw [rd] at er
      cases er
      refine ⟨_, rfl, _, _, d7, dp_ext (Dp.same s6 hand) e7, by decide +kernel, by decide +kernel, ?_⟩
      rw [show PyData.eqv (handT.toD tsL) (handT.toD tsL) = true by decide +kernel]
      exact k _
    · rw [rd] at er
      cases er
      rw [fl] at ef
      cases ef
    · rw [rd] at er
      cases er
end
end CS
set_option Elab.async false
set_option maxRecDepth 100000
set_option linter.unusedVariables false
namespace CS
open PySem L2 LamX
set_option maxHeartbeats 16000000 in
theorem all_mk {l : PySem.W.OpenLaw} {w : World} {K : PySem.W.Frag} {h : Heap} {mg : Str → Option Value} {fa fKidPlaces fWholePlaces fTreeText fIsInOrder fIsWholeWithin fIsWhole fMayStand fIsWord fIsRow fIsFormed fFaultIn fNeedTerm fTermText fLawPlaces fLawBoundsOf fLawIntegers fLawAreGood fLawFault fLawJoined fLawInteger fLawTake fLawReadLine fLawPaperWords fLawTermDue fDraw fMixed fLawOf fLawBentText fLawKids fLawLineOf fLawPaper fNeedNoMore fIsFigures fIsInteger fTreeIn fTreeOf fLinesOf fReadTree fReadTerm fLawRight fLawHeard fBegin fLaw aB bN bD bX bA bM aT : Addr} (X : K.In h) (G : h.Ns mainGlobals mg) (hfa : mg "law" = some (.ref fa))
    {odKidPlaces anKidPlaces : Option Addr} {slKidPlaces : Array (Option Value)} {ocKidPlaces kVKidPlaces dcKidPlaces pmKidPlaces ctKidPlaces : Value} {cdKidPlaces : Value} (aKidPlaces : PySem.W.nsIn K mainGlobals "kid_places" = some (some (.ref fKidPlaces))) (lKidPlaces : K.lookup fKidPlaces = some ⟨ocKidPlaces, odKidPlaces, .func (PySem.W.fnOf "kid_places" "kid_places" (defArgs sKidPlaces) (defBody sKidPlaces) (defScope sKidPlaces) .none kVKidPlaces dcKidPlaces pmKidPlaces anKidPlaces cdKidPlaces ctKidPlaces), slKidPlaces⟩) (cKidPlaces : PySem.W.codeIn K cdKidPlaces "kid_places" = true) (kKidPlaces : PySem.W.keepIn K (.ref fKidPlaces) = true)
    {odWholePlaces anWholePlaces : Option Addr} {slWholePlaces : Array (Option Value)} {ocWholePlaces kVWholePlaces dcWholePlaces pmWholePlaces ctWholePlaces : Value} {cdWholePlaces : Value} (aWholePlaces : PySem.W.nsIn K mainGlobals "whole_places" = some (some (.ref fWholePlaces))) (lWholePlaces : K.lookup fWholePlaces = some ⟨ocWholePlaces, odWholePlaces, .func (PySem.W.fnOf "whole_places" "whole_places" (defArgs sWholePlaces) (defBody sWholePlaces) (defScope sWholePlaces) .none kVWholePlaces dcWholePlaces pmWholePlaces anWholePlaces cdWholePlaces ctWholePlaces), slWholePlaces⟩) (cWholePlaces : PySem.W.codeIn K cdWholePlaces "whole_places" = true) (kWholePlaces : PySem.W.keepIn K (.ref fWholePlaces) = true)
    {odTreeText anTreeText : Option Addr} {slTreeText : Array (Option Value)} {ocTreeText kVTreeText dcTreeText pmTreeText ctTreeText : Value} {cdTreeText : Value} (aTreeText : PySem.W.nsIn K mainGlobals "tree_text" = some (some (.ref fTreeText))) (lTreeText : K.lookup fTreeText = some ⟨ocTreeText, odTreeText, .func (PySem.W.fnOf "tree_text" "tree_text" (defArgs sTreeText) (defBody sTreeText) (defScope sTreeText) .none kVTreeText dcTreeText pmTreeText anTreeText cdTreeText ctTreeText), slTreeText⟩) (cTreeText : PySem.W.codeIn K cdTreeText "tree_text" = true) (kTreeText : PySem.W.keepIn K (.ref fTreeText) = true)
    {odIsInOrder anIsInOrder : Option Addr} {slIsInOrder : Array (Option Value)} {ocIsInOrder kVIsInOrder dcIsInOrder pmIsInOrder ctIsInOrder : Value} {cdIsInOrder : Value} (aIsInOrder : PySem.W.nsIn K mainGlobals "is_in_order" = some (some (.ref fIsInOrder))) (lIsInOrder : K.lookup fIsInOrder = some ⟨ocIsInOrder, odIsInOrder, .func (PySem.W.fnOf "is_in_order" "is_in_order" (defArgs sIsInOrder) (defBody sIsInOrder) (defScope sIsInOrder) .none kVIsInOrder dcIsInOrder pmIsInOrder anIsInOrder cdIsInOrder ctIsInOrder), slIsInOrder⟩) (cIsInOrder : PySem.W.codeIn K cdIsInOrder "is_in_order" = true) (kIsInOrder : PySem.W.keepIn K (.ref fIsInOrder) = true)
    {odIsWholeWithin anIsWholeWithin : Option Addr} {slIsWholeWithin : Array (Option Value)} {ocIsWholeWithin kVIsWholeWithin dcIsWholeWithin pmIsWholeWithin ctIsWholeWithin : Value} {cdIsWholeWithin : Value} (aIsWholeWithin : PySem.W.nsIn K mainGlobals "is_whole_within" = some (some (.ref fIsWholeWithin))) (lIsWholeWithin : K.lookup fIsWholeWithin = some ⟨ocIsWholeWithin, odIsWholeWithin, .func (PySem.W.fnOf "is_whole_within" "is_whole_within" (defArgs sIsWholeWithin) (defBody sIsWholeWithin) (defScope sIsWholeWithin) .none kVIsWholeWithin dcIsWholeWithin pmIsWholeWithin anIsWholeWithin cdIsWholeWithin ctIsWholeWithin), slIsWholeWithin⟩) (cIsWholeWithin : PySem.W.codeIn K cdIsWholeWithin "is_whole_within" = true) (kIsWholeWithin : PySem.W.keepIn K (.ref fIsWholeWithin) = true)
    {odIsWhole anIsWhole : Option Addr} {slIsWhole : Array (Option Value)} {ocIsWhole kVIsWhole dcIsWhole pmIsWhole ctIsWhole : Value} {cdIsWhole : Value} (aIsWhole : PySem.W.nsIn K mainGlobals "is_whole" = some (some (.ref fIsWhole))) (lIsWhole : K.lookup fIsWhole = some ⟨ocIsWhole, odIsWhole, .func (PySem.W.fnOf "is_whole" "is_whole" (defArgs sIsWhole) (defBody sIsWhole) (defScope sIsWhole) .none kVIsWhole dcIsWhole pmIsWhole anIsWhole cdIsWhole ctIsWhole), slIsWhole⟩) (cIsWhole : PySem.W.codeIn K cdIsWhole "is_whole" = true) (kIsWhole : PySem.W.keepIn K (.ref fIsWhole) = true)
    {odMayStand anMayStand : Option Addr} {slMayStand : Array (Option Value)} {ocMayStand kVMayStand dcMayStand pmMayStand ctMayStand : Value} {cdMayStand : Value} (aMayStand : PySem.W.nsIn K mainGlobals "may_stand" = some (some (.ref fMayStand))) (lMayStand : K.lookup fMayStand = some ⟨ocMayStand, odMayStand, .func (PySem.W.fnOf "may_stand" "may_stand" (defArgs sMayStand) (defBody sMayStand) (defScope sMayStand) .none kVMayStand dcMayStand pmMayStand anMayStand cdMayStand ctMayStand), slMayStand⟩) (cMayStand : PySem.W.codeIn K cdMayStand "may_stand" = true) (kMayStand : PySem.W.keepIn K (.ref fMayStand) = true)
    {odIsWord anIsWord : Option Addr} {slIsWord : Array (Option Value)} {ocIsWord kVIsWord dcIsWord pmIsWord ctIsWord : Value} {cdIsWord : Value} (aIsWord : PySem.W.nsIn K mainGlobals "is_word" = some (some (.ref fIsWord))) (lIsWord : K.lookup fIsWord = some ⟨ocIsWord, odIsWord, .func (PySem.W.fnOf "is_word" "is_word" (defArgs sIsWord) (defBody sIsWord) (defScope sIsWord) .none kVIsWord dcIsWord pmIsWord anIsWord cdIsWord ctIsWord), slIsWord⟩) (cIsWord : PySem.W.codeIn K cdIsWord "is_word" = true) (kIsWord : PySem.W.keepIn K (.ref fIsWord) = true)
    {odIsRow anIsRow : Option Addr} {slIsRow : Array (Option Value)} {ocIsRow kVIsRow dcIsRow pmIsRow ctIsRow : Value} {cdIsRow : Value} (aIsRow : PySem.W.nsIn K mainGlobals "is_row" = some (some (.ref fIsRow))) (lIsRow : K.lookup fIsRow = some ⟨ocIsRow, odIsRow, .func (PySem.W.fnOf "is_row" "is_row" (defArgs sIsRow) (defBody sIsRow) (defScope sIsRow) .none kVIsRow dcIsRow pmIsRow anIsRow cdIsRow ctIsRow), slIsRow⟩) (cIsRow : PySem.W.codeIn K cdIsRow "is_row" = true) (kIsRow : PySem.W.keepIn K (.ref fIsRow) = true)
    {odIsFormed anIsFormed : Option Addr} {slIsFormed : Array (Option Value)} {ocIsFormed kVIsFormed dcIsFormed pmIsFormed ctIsFormed : Value} {cdIsFormed : Value} (aIsFormed : PySem.W.nsIn K mainGlobals "is_formed" = some (some (.ref fIsFormed))) (lIsFormed : K.lookup fIsFormed = some ⟨ocIsFormed, odIsFormed, .func (PySem.W.fnOf "is_formed" "is_formed" (defArgs sIsFormed) (defBody sIsFormed) (defScope sIsFormed) .none kVIsFormed dcIsFormed pmIsFormed anIsFormed cdIsFormed ctIsFormed), slIsFormed⟩) (cIsFormed : PySem.W.codeIn K cdIsFormed "is_formed" = true) (kIsFormed : PySem.W.keepIn K (.ref fIsFormed) = true)
    {odFaultIn anFaultIn : Option Addr} {slFaultIn : Array (Option Value)} {ocFaultIn kVFaultIn dcFaultIn pmFaultIn ctFaultIn : Value} {cdFaultIn : Value} (aFaultIn : PySem.W.nsIn K mainGlobals "fault_in" = some (some (.ref fFaultIn))) (lFaultIn : K.lookup fFaultIn = some ⟨ocFaultIn, odFaultIn, .func (PySem.W.fnOf "fault_in" "fault_in" (defArgs sFaultIn) (defBody sFaultIn) (defScope sFaultIn) .none kVFaultIn dcFaultIn pmFaultIn anFaultIn cdFaultIn ctFaultIn), slFaultIn⟩) (cFaultIn : PySem.W.codeIn K cdFaultIn "fault_in" = true) (kFaultIn : PySem.W.keepIn K (.ref fFaultIn) = true)
    {odNeedTerm anNeedTerm : Option Addr} {slNeedTerm : Array (Option Value)} {ocNeedTerm kVNeedTerm dcNeedTerm pmNeedTerm ctNeedTerm : Value} {cdNeedTerm : Value} (aNeedTerm : PySem.W.nsIn K mainGlobals "need_term" = some (some (.ref fNeedTerm))) (lNeedTerm : K.lookup fNeedTerm = some ⟨ocNeedTerm, odNeedTerm, .func (PySem.W.fnOf "need_term" "need_term" (defArgs sNeedTerm) (defBody sNeedTerm) (defScope sNeedTerm) .none kVNeedTerm dcNeedTerm pmNeedTerm anNeedTerm cdNeedTerm ctNeedTerm), slNeedTerm⟩) (cNeedTerm : PySem.W.codeIn K cdNeedTerm "need_term" = true) (kNeedTerm : PySem.W.keepIn K (.ref fNeedTerm) = true)
    {odTermText anTermText : Option Addr} {slTermText : Array (Option Value)} {ocTermText kVTermText dcTermText pmTermText ctTermText : Value} {cdTermText : Value} (aTermText : PySem.W.nsIn K mainGlobals "term_text" = some (some (.ref fTermText))) (lTermText : K.lookup fTermText = some ⟨ocTermText, odTermText, .func (PySem.W.fnOf "term_text" "term_text" (defArgs sTermText) (defBody sTermText) (defScope sTermText) .none kVTermText dcTermText pmTermText anTermText cdTermText ctTermText), slTermText⟩) (cTermText : PySem.W.codeIn K cdTermText "term_text" = true) (kTermText : PySem.W.keepIn K (.ref fTermText) = true)
    {odLawPlaces anLawPlaces : Option Addr} {slLawPlaces : Array (Option Value)} {ocLawPlaces kVLawPlaces dcLawPlaces pmLawPlaces ctLawPlaces : Value} {cdLawPlaces : Value} (aLawPlaces : PySem.W.nsIn K mainGlobals "_law_places" = some (some (.ref fLawPlaces))) (lLawPlaces : K.lookup fLawPlaces = some ⟨ocLawPlaces, odLawPlaces, .func (PySem.W.fnOf "_law_places" "_law_places" (defArgs sLawPlaces) (defBody sLawPlaces) (defScope sLawPlaces) .none kVLawPlaces dcLawPlaces pmLawPlaces anLawPlaces cdLawPlaces ctLawPlaces), slLawPlaces⟩) (cLawPlaces : PySem.W.codeIn K cdLawPlaces "_law_places" = true) (kLawPlaces : PySem.W.keepIn K (.ref fLawPlaces) = true)
    {odLawBoundsOf anLawBoundsOf : Option Addr} {slLawBoundsOf : Array (Option Value)} {ocLawBoundsOf kVLawBoundsOf dcLawBoundsOf pmLawBoundsOf ctLawBoundsOf : Value} {cdLawBoundsOf : Value} (aLawBoundsOf : PySem.W.nsIn K mainGlobals "_law_bounds_of" = some (some (.ref fLawBoundsOf))) (lLawBoundsOf : K.lookup fLawBoundsOf = some ⟨ocLawBoundsOf, odLawBoundsOf, .func (PySem.W.fnOf "_law_bounds_of" "_law_bounds_of" (defArgs sLawBoundsOf) (defBody sLawBoundsOf) (defScope sLawBoundsOf) .none kVLawBoundsOf dcLawBoundsOf pmLawBoundsOf anLawBoundsOf cdLawBoundsOf ctLawBoundsOf), slLawBoundsOf⟩) (cLawBoundsOf : PySem.W.codeIn K cdLawBoundsOf "_law_bounds_of" = true) (kLawBoundsOf : PySem.W.keepIn K (.ref fLawBoundsOf) = true)
    {odLawIntegers anLawIntegers : Option Addr} {slLawIntegers : Array (Option Value)} {ocLawIntegers kVLawIntegers dcLawIntegers pmLawIntegers ctLawIntegers : Value} {cdLawIntegers : Value} (aLawIntegers : PySem.W.nsIn K mainGlobals "_law_integers" = some (some (.ref fLawIntegers))) (lLawIntegers : K.lookup fLawIntegers = some ⟨ocLawIntegers, odLawIntegers, .func (PySem.W.fnOf "_law_integers" "_law_integers" (defArgs sLawIntegers) (defBody sLawIntegers) (defScope sLawIntegers) .none kVLawIntegers dcLawIntegers pmLawIntegers anLawIntegers cdLawIntegers ctLawIntegers), slLawIntegers⟩) (cLawIntegers : PySem.W.codeIn K cdLawIntegers "_law_integers" = true) (kLawIntegers : PySem.W.keepIn K (.ref fLawIntegers) = true)
    {odLawAreGood anLawAreGood : Option Addr} {slLawAreGood : Array (Option Value)} {ocLawAreGood kVLawAreGood dcLawAreGood pmLawAreGood ctLawAreGood : Value} {cdLawAreGood : Value} (aLawAreGood : PySem.W.nsIn K mainGlobals "_law_are_good" = some (some (.ref fLawAreGood))) (lLawAreGood : K.lookup fLawAreGood = some ⟨ocLawAreGood, odLawAreGood, .func (PySem.W.fnOf "_law_are_good" "_law_are_good" (defArgs sLawAreGood) (defBody sLawAreGood) (defScope sLawAreGood) .none kVLawAreGood dcLawAreGood pmLawAreGood anLawAreGood cdLawAreGood ctLawAreGood), slLawAreGood⟩) (cLawAreGood : PySem.W.codeIn K cdLawAreGood "_law_are_good" = true) (kLawAreGood : PySem.W.keepIn K (.ref fLawAreGood) = true)
    {odLawFault anLawFault : Option Addr} {slLawFault : Array (Option Value)} {ocLawFault kVLawFault dcLawFault pmLawFault ctLawFault : Value} {cdLawFault : Value} (aLawFault : PySem.W.nsIn K mainGlobals "_law_fault" = some (some (.ref fLawFault))) (lLawFault : K.lookup fLawFault = some ⟨ocLawFault, odLawFault, .func (PySem.W.fnOf "_law_fault" "_law_fault" (defArgs sLawFault) (defBody sLawFault) (defScope sLawFault) .none kVLawFault dcLawFault pmLawFault anLawFault cdLawFault ctLawFault), slLawFault⟩) (cLawFault : PySem.W.codeIn K cdLawFault "_law_fault" = true) (kLawFault : PySem.W.keepIn K (.ref fLawFault) = true)
    {odLawJoined anLawJoined : Option Addr} {slLawJoined : Array (Option Value)} {ocLawJoined kVLawJoined dcLawJoined pmLawJoined ctLawJoined : Value} {cdLawJoined : Value} (aLawJoined : PySem.W.nsIn K mainGlobals "_law_joined" = some (some (.ref fLawJoined))) (lLawJoined : K.lookup fLawJoined = some ⟨ocLawJoined, odLawJoined, .func (PySem.W.fnOf "_law_joined" "_law_joined" (defArgs sLawJoined) (defBody sLawJoined) (defScope sLawJoined) .none kVLawJoined dcLawJoined pmLawJoined anLawJoined cdLawJoined ctLawJoined), slLawJoined⟩) (cLawJoined : PySem.W.codeIn K cdLawJoined "_law_joined" = true) (kLawJoined : PySem.W.keepIn K (.ref fLawJoined) = true)
    {odLawInteger anLawInteger : Option Addr} {slLawInteger : Array (Option Value)} {ocLawInteger kVLawInteger dcLawInteger pmLawInteger ctLawInteger : Value} {cdLawInteger : Value} (aLawInteger : PySem.W.nsIn K mainGlobals "_law_integer" = some (some (.ref fLawInteger))) (lLawInteger : K.lookup fLawInteger = some ⟨ocLawInteger, odLawInteger, .func (PySem.W.fnOf "_law_integer" "_law_integer" (defArgs sLawInteger) (defBody sLawInteger) (defScope sLawInteger) .none kVLawInteger dcLawInteger pmLawInteger anLawInteger cdLawInteger ctLawInteger), slLawInteger⟩) (cLawInteger : PySem.W.codeIn K cdLawInteger "_law_integer" = true) (kLawInteger : PySem.W.keepIn K (.ref fLawInteger) = true)
    {odLawTake anLawTake : Option Addr} {slLawTake : Array (Option Value)} {ocLawTake kVLawTake dcLawTake pmLawTake ctLawTake : Value} {cdLawTake : Value} (aLawTake : PySem.W.nsIn K mainGlobals "_law_take" = some (some (.ref fLawTake))) (lLawTake : K.lookup fLawTake = some ⟨ocLawTake, odLawTake, .func (PySem.W.fnOf "_law_take" "_law_take" (defArgs sLawTake) (defBody sLawTake) (defScope sLawTake) .none kVLawTake dcLawTake pmLawTake anLawTake cdLawTake ctLawTake), slLawTake⟩) (cLawTake : PySem.W.codeIn K cdLawTake "_law_take" = true) (kLawTake : PySem.W.keepIn K (.ref fLawTake) = true)
    {odLawReadLine anLawReadLine : Option Addr} {slLawReadLine : Array (Option Value)} {ocLawReadLine kVLawReadLine dcLawReadLine pmLawReadLine ctLawReadLine : Value} {cdLawReadLine : Value} (aLawReadLine : PySem.W.nsIn K mainGlobals "_law_read_line" = some (some (.ref fLawReadLine))) (lLawReadLine : K.lookup fLawReadLine = some ⟨ocLawReadLine, odLawReadLine, .func (PySem.W.fnOf "_law_read_line" "_law_read_line" (defArgs sLawReadLine) (defBody sLawReadLine) (defScope sLawReadLine) .none kVLawReadLine dcLawReadLine pmLawReadLine anLawReadLine cdLawReadLine ctLawReadLine), slLawReadLine⟩) (cLawReadLine : PySem.W.codeIn K cdLawReadLine "_law_read_line" = true) (kLawReadLine : PySem.W.keepIn K (.ref fLawReadLine) = true)
    {odLawPaperWords anLawPaperWords : Option Addr} {slLawPaperWords : Array (Option Value)} {ocLawPaperWords kVLawPaperWords dcLawPaperWords pmLawPaperWords ctLawPaperWords : Value} {cdLawPaperWords : Value} (aLawPaperWords : PySem.W.nsIn K mainGlobals "_law_paper_words" = some (some (.ref fLawPaperWords))) (lLawPaperWords : K.lookup fLawPaperWords = some ⟨ocLawPaperWords, odLawPaperWords, .func (PySem.W.fnOf "_law_paper_words" "_law_paper_words" (defArgs sLawPaperWords) (defBody sLawPaperWords) (defScope sLawPaperWords) .none kVLawPaperWords dcLawPaperWords pmLawPaperWords anLawPaperWords cdLawPaperWords ctLawPaperWords), slLawPaperWords⟩) (cLawPaperWords : PySem.W.codeIn K cdLawPaperWords "_law_paper_words" = true) (kLawPaperWords : PySem.W.keepIn K (.ref fLawPaperWords) = true)
    {odLawTermDue anLawTermDue : Option Addr} {slLawTermDue : Array (Option Value)} {ocLawTermDue kVLawTermDue dcLawTermDue pmLawTermDue ctLawTermDue : Value} {cdLawTermDue : Value} (aLawTermDue : PySem.W.nsIn K mainGlobals "_law_term_due" = some (some (.ref fLawTermDue))) (lLawTermDue : K.lookup fLawTermDue = some ⟨ocLawTermDue, odLawTermDue, .func (PySem.W.fnOf "_law_term_due" "_law_term_due" (defArgs sLawTermDue) (defBody sLawTermDue) (defScope sLawTermDue) .none kVLawTermDue dcLawTermDue pmLawTermDue anLawTermDue cdLawTermDue ctLawTermDue), slLawTermDue⟩) (cLawTermDue : PySem.W.codeIn K cdLawTermDue "_law_term_due" = true) (kLawTermDue : PySem.W.keepIn K (.ref fLawTermDue) = true)
    {odDraw anDraw : Option Addr} {slDraw : Array (Option Value)} {ocDraw kVDraw dcDraw pmDraw ctDraw : Value} {cdDraw : Value} (aDraw : PySem.W.nsIn K mainGlobals "_law_draw" = some (some (.ref fDraw))) (lDraw : K.lookup fDraw = some ⟨ocDraw, odDraw, .func (PySem.W.fnOf "_law_draw" "_law_draw" (defArgs sDraw) (defBody sDraw) (defScope sDraw) .none kVDraw dcDraw pmDraw anDraw cdDraw ctDraw), slDraw⟩) (cDraw : PySem.W.codeIn K cdDraw "_law_draw" = true) (kDraw : PySem.W.keepIn K (.ref fDraw) = true)
    {odMixed anMixed : Option Addr} {slMixed : Array (Option Value)} {ocMixed kVMixed dcMixed pmMixed ctMixed : Value} {cdMixed : Value} (aMixed : PySem.W.nsIn K mainGlobals "_law_mixed" = some (some (.ref fMixed))) (lMixed : K.lookup fMixed = some ⟨ocMixed, odMixed, .func (PySem.W.fnOf "_law_mixed" "_law_mixed" (defArgs sMixed) (defBody sMixed) (defScope sMixed) .none kVMixed dcMixed pmMixed anMixed cdMixed ctMixed), slMixed⟩) (cMixed : PySem.W.codeIn K cdMixed "_law_mixed" = true) (kMixed : PySem.W.keepIn K (.ref fMixed) = true)
    {odLawOf anLawOf : Option Addr} {slLawOf : Array (Option Value)} {ocLawOf kVLawOf dcLawOf pmLawOf ctLawOf : Value} {cdLawOf : Value} (aLawOf : PySem.W.nsIn K mainGlobals "_law_of" = some (some (.ref fLawOf))) (lLawOf : K.lookup fLawOf = some ⟨ocLawOf, odLawOf, .func (PySem.W.fnOf "_law_of" "_law_of" (defArgs sLawOf) (defBody sLawOf) (defScope sLawOf) .none kVLawOf dcLawOf pmLawOf anLawOf cdLawOf ctLawOf), slLawOf⟩) (cLawOf : PySem.W.codeIn K cdLawOf "_law_of" = true) (kLawOf : PySem.W.keepIn K (.ref fLawOf) = true)
    {odLawBentText anLawBentText : Option Addr} {slLawBentText : Array (Option Value)} {ocLawBentText kVLawBentText dcLawBentText pmLawBentText ctLawBentText : Value} {cdLawBentText : Value} (aLawBentText : PySem.W.nsIn K mainGlobals "_law_bent_text" = some (some (.ref fLawBentText))) (lLawBentText : K.lookup fLawBentText = some ⟨ocLawBentText, odLawBentText, .func (PySem.W.fnOf "_law_bent_text" "_law_bent_text" (defArgs sLawBentText) (defBody sLawBentText) (defScope sLawBentText) .none kVLawBentText dcLawBentText pmLawBentText anLawBentText cdLawBentText ctLawBentText), slLawBentText⟩) (cLawBentText : PySem.W.codeIn K cdLawBentText "_law_bent_text" = true) (kLawBentText : PySem.W.keepIn K (.ref fLawBentText) = true)
    {odLawKids anLawKids : Option Addr} {slLawKids : Array (Option Value)} {ocLawKids kVLawKids dcLawKids pmLawKids ctLawKids : Value} {cdLawKids : Value} (aLawKids : PySem.W.nsIn K mainGlobals "_law_kids" = some (some (.ref fLawKids))) (lLawKids : K.lookup fLawKids = some ⟨ocLawKids, odLawKids, .func (PySem.W.fnOf "_law_kids" "_law_kids" (defArgs sLawKids) (defBody sLawKids) (defScope sLawKids) .none kVLawKids dcLawKids pmLawKids anLawKids cdLawKids ctLawKids), slLawKids⟩) (cLawKids : PySem.W.codeIn K cdLawKids "_law_kids" = true) (kLawKids : PySem.W.keepIn K (.ref fLawKids) = true)
    {odLawLineOf anLawLineOf : Option Addr} {slLawLineOf : Array (Option Value)} {ocLawLineOf kVLawLineOf dcLawLineOf pmLawLineOf ctLawLineOf : Value} {cdLawLineOf : Value} (aLawLineOf : PySem.W.nsIn K mainGlobals "_law_line_of" = some (some (.ref fLawLineOf))) (lLawLineOf : K.lookup fLawLineOf = some ⟨ocLawLineOf, odLawLineOf, .func (PySem.W.fnOf "_law_line_of" "_law_line_of" (defArgs sLawLineOf) (defBody sLawLineOf) (defScope sLawLineOf) .none kVLawLineOf dcLawLineOf pmLawLineOf anLawLineOf cdLawLineOf ctLawLineOf), slLawLineOf⟩) (cLawLineOf : PySem.W.codeIn K cdLawLineOf "_law_line_of" = true) (kLawLineOf : PySem.W.keepIn K (.ref fLawLineOf) = true)
    {odLawPaper anLawPaper : Option Addr} {slLawPaper : Array (Option Value)} {ocLawPaper kVLawPaper dcLawPaper pmLawPaper ctLawPaper : Value} {cdLawPaper : Value} (aLawPaper : PySem.W.nsIn K mainGlobals "_law_paper" = some (some (.ref fLawPaper))) (lLawPaper : K.lookup fLawPaper = some ⟨ocLawPaper, odLawPaper, .func (PySem.W.fnOf "_law_paper" "_law_paper" (defArgs sLawPaper) (defBody sLawPaper) (defScope sLawPaper) .none kVLawPaper dcLawPaper pmLawPaper anLawPaper cdLawPaper ctLawPaper), slLawPaper⟩) (cLawPaper : PySem.W.codeIn K cdLawPaper "_law_paper" = true) (kLawPaper : PySem.W.keepIn K (.ref fLawPaper) = true)
    {odNeedNoMore anNeedNoMore : Option Addr} {slNeedNoMore : Array (Option Value)} {ocNeedNoMore kVNeedNoMore dcNeedNoMore pmNeedNoMore ctNeedNoMore : Value} {cdNeedNoMore : Value} (aNeedNoMore : PySem.W.nsIn K mainGlobals "need_no_more" = some (some (.ref fNeedNoMore))) (lNeedNoMore : K.lookup fNeedNoMore = some ⟨ocNeedNoMore, odNeedNoMore, .func (PySem.W.fnOf "need_no_more" "need_no_more" (defArgs sNeedNoMore) (defBody sNeedNoMore) (defScope sNeedNoMore) .none kVNeedNoMore dcNeedNoMore pmNeedNoMore anNeedNoMore cdNeedNoMore ctNeedNoMore), slNeedNoMore⟩) (cNeedNoMore : PySem.W.codeIn K cdNeedNoMore "need_no_more" = true) (kNeedNoMore : PySem.W.keepIn K (.ref fNeedNoMore) = true)
    {odIsFigures anIsFigures : Option Addr} {slIsFigures : Array (Option Value)} {ocIsFigures kVIsFigures dcIsFigures pmIsFigures ctIsFigures : Value} {cdIsFigures : Value} (aIsFigures : PySem.W.nsIn K mainGlobals "is_figures" = some (some (.ref fIsFigures))) (lIsFigures : K.lookup fIsFigures = some ⟨ocIsFigures, odIsFigures, .func (PySem.W.fnOf "is_figures" "is_figures" (defArgs sIsFigures) (defBody sIsFigures) (defScope sIsFigures) .none kVIsFigures dcIsFigures pmIsFigures anIsFigures cdIsFigures ctIsFigures), slIsFigures⟩) (cIsFigures : PySem.W.codeIn K cdIsFigures "is_figures" = true) (kIsFigures : PySem.W.keepIn K (.ref fIsFigures) = true)
    {odIsInteger anIsInteger : Option Addr} {slIsInteger : Array (Option Value)} {ocIsInteger kVIsInteger dcIsInteger pmIsInteger ctIsInteger : Value} {cdIsInteger : Value} (aIsInteger : PySem.W.nsIn K mainGlobals "is_integer" = some (some (.ref fIsInteger))) (lIsInteger : K.lookup fIsInteger = some ⟨ocIsInteger, odIsInteger, .func (PySem.W.fnOf "is_integer" "is_integer" (defArgs sIsInteger) (defBody sIsInteger) (defScope sIsInteger) .none kVIsInteger dcIsInteger pmIsInteger anIsInteger cdIsInteger ctIsInteger), slIsInteger⟩) (cIsInteger : PySem.W.codeIn K cdIsInteger "is_integer" = true) (kIsInteger : PySem.W.keepIn K (.ref fIsInteger) = true)
    {odTreeIn anTreeIn : Option Addr} {slTreeIn : Array (Option Value)} {ocTreeIn kVTreeIn dcTreeIn pmTreeIn ctTreeIn : Value} {c0TreeIn p0TreeIn : Addr} (aTreeIn : PySem.W.nsIn K mainGlobals "tree_in" = some (some (.ref fTreeIn))) (lTreeIn : K.lookup fTreeIn = some ⟨ocTreeIn, odTreeIn, .func (PySem.W.fnOf "tree_in" "tree_in" (defArgs sTreeIn) (defBody sTreeIn) (defScope sTreeIn) .none kVTreeIn dcTreeIn pmTreeIn anTreeIn (.ref c0TreeIn) ctTreeIn), slTreeIn⟩) (cTreeIn : PySem.W.codeIn K (.ref c0TreeIn) "tree_in" = true) (kTreeIn : PySem.W.keepIn K (.ref fTreeIn) = true)
    {odTreeOf anTreeOf : Option Addr} {slTreeOf : Array (Option Value)} {ocTreeOf kVTreeOf dcTreeOf pmTreeOf ctTreeOf : Value} {cdTreeOf : Value} (aTreeOf : PySem.W.nsIn K mainGlobals "tree_of" = some (some (.ref fTreeOf))) (lTreeOf : K.lookup fTreeOf = some ⟨ocTreeOf, odTreeOf, .func (PySem.W.fnOf "tree_of" "tree_of" (defArgs sTreeOf) (defBody sTreeOf) (defScope sTreeOf) .none kVTreeOf dcTreeOf pmTreeOf anTreeOf cdTreeOf ctTreeOf), slTreeOf⟩) (cTreeOf : PySem.W.codeIn K cdTreeOf "tree_of" = true) (kTreeOf : PySem.W.keepIn K (.ref fTreeOf) = true)
    {odLinesOf anLinesOf : Option Addr} {slLinesOf : Array (Option Value)} {ocLinesOf kVLinesOf dcLinesOf pmLinesOf ctLinesOf : Value} {cdLinesOf : Value} (aLinesOf : PySem.W.nsIn K mainGlobals "lines_of" = some (some (.ref fLinesOf))) (lLinesOf : K.lookup fLinesOf = some ⟨ocLinesOf, odLinesOf, .func (PySem.W.fnOf "lines_of" "lines_of" (defArgs sLinesOf) (defBody sLinesOf) (defScope sLinesOf) .none kVLinesOf dcLinesOf pmLinesOf anLinesOf cdLinesOf ctLinesOf), slLinesOf⟩) (cLinesOf : PySem.W.codeIn K cdLinesOf "lines_of" = true) (kLinesOf : PySem.W.keepIn K (.ref fLinesOf) = true)
    {odReadTree anReadTree : Option Addr} {slReadTree : Array (Option Value)} {ocReadTree kVReadTree dcReadTree pmReadTree ctReadTree : Value} {cdReadTree : Value} (aReadTree : PySem.W.nsIn K mainGlobals "read_tree" = some (some (.ref fReadTree))) (lReadTree : K.lookup fReadTree = some ⟨ocReadTree, odReadTree, .func (PySem.W.fnOf "read_tree" "read_tree" (defArgs sReadTree) (defBody sReadTree) (defScope sReadTree) .none kVReadTree dcReadTree pmReadTree anReadTree cdReadTree ctReadTree), slReadTree⟩) (cReadTree : PySem.W.codeIn K cdReadTree "read_tree" = true) (kReadTree : PySem.W.keepIn K (.ref fReadTree) = true)
    {odReadTerm anReadTerm : Option Addr} {slReadTerm : Array (Option Value)} {ocReadTerm kVReadTerm dcReadTerm pmReadTerm ctReadTerm : Value} {cdReadTerm : Value} (aReadTerm : PySem.W.nsIn K mainGlobals "read_term" = some (some (.ref fReadTerm))) (lReadTerm : K.lookup fReadTerm = some ⟨ocReadTerm, odReadTerm, .func (PySem.W.fnOf "read_term" "read_term" (defArgs sReadTerm) (defBody sReadTerm) (defScope sReadTerm) .none kVReadTerm dcReadTerm pmReadTerm anReadTerm cdReadTerm ctReadTerm), slReadTerm⟩) (cReadTerm : PySem.W.codeIn K cdReadTerm "read_term" = true) (kReadTerm : PySem.W.keepIn K (.ref fReadTerm) = true)
    {odLawRight anLawRight : Option Addr} {slLawRight : Array (Option Value)} {ocLawRight kVLawRight dcLawRight pmLawRight ctLawRight : Value} {c0LawRight p0LawRight : Addr} (aLawRight : PySem.W.nsIn K mainGlobals "_law_right" = some (some (.ref fLawRight))) (lLawRight : K.lookup fLawRight = some ⟨ocLawRight, odLawRight, .func (PySem.W.fnOf "_law_right" "_law_right" (defArgs sLawRight) (defBody sLawRight) (defScope sLawRight) .none kVLawRight dcLawRight pmLawRight anLawRight (.ref c0LawRight) ctLawRight), slLawRight⟩) (cLawRight : PySem.W.codeIn K (.ref c0LawRight) "_law_right" = true) (kLawRight : PySem.W.keepIn K (.ref fLawRight) = true)
    {odLawHeard anLawHeard : Option Addr} {slLawHeard : Array (Option Value)} {ocLawHeard kVLawHeard dcLawHeard pmLawHeard ctLawHeard : Value} {cdLawHeard : Value} (aLawHeard : PySem.W.nsIn K mainGlobals "_law_heard" = some (some (.ref fLawHeard))) (lLawHeard : K.lookup fLawHeard = some ⟨ocLawHeard, odLawHeard, .func (PySem.W.fnOf "_law_heard" "_law_heard" (defArgs sLawHeard) (defBody sLawHeard) (defScope sLawHeard) .none kVLawHeard dcLawHeard pmLawHeard anLawHeard cdLawHeard ctLawHeard), slLawHeard⟩) (cLawHeard : PySem.W.codeIn K cdLawHeard "_law_heard" = true) (kLawHeard : PySem.W.keepIn K (.ref fLawHeard) = true)
    {odBegin anBegin : Option Addr} {slBegin : Array (Option Value)} {ocBegin kVBegin dcBegin pmBegin ctBegin : Value} {cdBegin : Value} (aBegin : PySem.W.nsIn K mainGlobals "_law_begin" = some (some (.ref fBegin))) (lBegin : K.lookup fBegin = some ⟨ocBegin, odBegin, .func (PySem.W.fnOf "_law_begin" "_law_begin" (defArgs sBegin) (defBody sBegin) (defScope sBegin) .none kVBegin dcBegin pmBegin anBegin cdBegin ctBegin), slBegin⟩) (cBegin : PySem.W.codeIn K cdBegin "_law_begin" = true) (kBegin : PySem.W.keepIn K (.ref fBegin) = true)
    {odLaw anLaw : Option Addr} {slLaw : Array (Option Value)} {ocLaw kVLaw dcLaw pmLaw ctLaw : Value} {c0Law p0Law : Addr} (aLaw : PySem.W.nsIn K mainGlobals "law" = some (some (.ref fLaw))) (lLaw : K.lookup fLaw = some ⟨ocLaw, odLaw, .func (PySem.W.fnOf "law" "law" (defArgs sLaw) (defBody sLaw) (defScope sLaw) .none kVLaw dcLaw pmLaw anLaw (.ref c0Law) ctLaw), slLaw⟩) (cLaw : PySem.W.codeIn K (.ref c0Law) "law" = true) (kLaw : PySem.W.keepIn K (.ref fLaw) = true)
    {oqTreeIn : Option Addr} {sqTreeIn : Array (Option Value)} {vsTreeIn : Array Value} (tTreeIn : K.lookup c0TreeIn = some ⟨.type "code", oqTreeIn, .fields vsTreeIn, sqTreeIn⟩) (uTreeIn : vsTreeIn[11]? = some (.ref p0TreeIn)) (hTreeIn : PySem.W.codeHdIn K c0TreeIn p0TreeIn = true) (nTreeIn : K.lookup p0TreeIn = none) (mTreeIn : h.get? p0TreeIn = some { cls := .none, data := .fields #[] })
    {oqLawRight : Option Addr} {sqLawRight : Array (Option Value)} {vsLawRight : Array Value} (tLawRight : K.lookup c0LawRight = some ⟨.type "code", oqLawRight, .fields vsLawRight, sqLawRight⟩) (uLawRight : vsLawRight[11]? = some (.ref p0LawRight)) (hLawRight : PySem.W.codeHdIn K c0LawRight p0LawRight = true) (nLawRight : K.lookup p0LawRight = none) (mLawRight : h.get? p0LawRight = some { cls := .none, data := .fields #[] })
    {oqLaw : Option Addr} {sqLaw : Array (Option Value)} {vsLaw : Array Value} (tLaw : K.lookup c0Law = some ⟨.type "code", oqLaw, .fields vsLaw, sqLaw⟩) (uLaw : vsLaw[11]? = some (.ref p0Law)) (hLaw : PySem.W.codeHdIn K c0Law p0Law = true) (nLaw : K.lookup p0Law = none) (mLaw : h.get? p0Law = some { cls := .none, data := .fields #[] })
    (pne0_1 : p0TreeIn ≠ p0LawRight)
    (pne0_2 : p0TreeIn ≠ p0Law)
    (pne1_2 : p0LawRight ≠ p0Law)
    (z_isinstance : PySem.W.nsIn K mainGlobals "isinstance" = some none) (z_int : PySem.W.nsIn K mainGlobals "int" = some none) (z_tuple : PySem.W.nsIn K mainGlobals "tuple" = some none) (z_len : PySem.W.nsIn K mainGlobals "len" = some none) (z_abs : PySem.W.nsIn K mainGlobals "abs" = some none) (z_range : PySem.W.nsIn K mainGlobals "range" = some none) (z_list : PySem.W.nsIn K mainGlobals "list" = some none) (z_sorted : PySem.W.nsIn K mainGlobals "sorted" = some none) (z_zip : PySem.W.nsIn K mainGlobals "zip" = some none) (z_all : PySem.W.nsIn K mainGlobals "all" = some none) (z_dict : PySem.W.nsIn K mainGlobals "dict" = some none) (z_enumerate : PySem.W.nsIn K mainGlobals "enumerate" = some none) (z_str : PySem.W.nsIn K mainGlobals "str" = some none) (z_repr : PySem.W.nsIn K mainGlobals "repr" = some none) (z_min : PySem.W.nsIn K mainGlobals "min" = some none)
    {tK_MOST_WORDS : Tok} (aK_MOST_WORDS : PySem.W.nsIn K mainGlobals "MOST_WORDS" = some (some (.int 20 tK_MOST_WORDS)))
    {tK_MOST_WITHIN : Tok} (aK_MOST_WITHIN : PySem.W.nsIn K mainGlobals "MOST_WITHIN" = some (some (.int 8 tK_MOST_WITHIN)))
    {tK_MOST_FIGURES : Tok} (aK_MOST_FIGURES : PySem.W.nsIn K mainGlobals "MOST_FIGURES" = some (some (.int 31 tK_MOST_FIGURES)))
    {tS_KID : Tok} (aZ_KID : PySem.W.nsIn K mainGlobals "KID" = some (some (.str "S" tS_KID)))
    {tS_DIGITS : Tok} (aZ_DIGITS : PySem.W.nsIn K mainGlobals "DIGITS" = some (some (.str "0123456789" tS_DIGITS)))
    {esaB : Array DictEntry} {naB : Nat} {uaB0 uaB1 uaB2 uaB3 uaB4 : Value} (gaB : PySem.W.nsIn K mainGlobals "BOUNDS" = some (some (.ref aB))) (laB : K.lookup aB = some ⟨.type "dict", none, .dict esaB naB, #[]⟩) (eaB : Ents w esaB.toList [("N", .ref bN), ("D", .ref bD), ("X", .ref bX), ("A", .ref bA), ("M", .ref bM)] [(Sum.inr "N", uaB0), (Sum.inr "D", uaB1), (Sum.inr "X", uaB2), (Sum.inr "A", uaB3), (Sum.inr "M", uaB4)]) (waB : (aB == sysModules) = false)
    {odbN : Option Addr} {nbN : Nat} {slbN : Array (Option Value)} {tbN0 tbN1 : Tok} (lbN : K.lookup bN = some ⟨.type "tuple", odbN, .seq #[.int (-1000) tbN0, .int 1000 tbN1] nbN, slbN⟩)
    {odbD : Option Addr} {nbD : Nat} {slbD : Array (Option Value)} {tbD0 tbD1 : Tok} (lbD : K.lookup bD = some ⟨.type "tuple", odbD, .seq #[.int 0 tbD0, .int 3 tbD1] nbD, slbD⟩)
    {odbX : Option Addr} {nbX : Nat} {slbX : Array (Option Value)} {tbX0 tbX1 : Tok} (lbX : K.lookup bX = some ⟨.type "tuple", odbX, .seq #[.int (-100) tbX0, .int 100 tbX1] nbX, slbX⟩)
    {odbA : Option Addr} {nbA : Nat} {slbA : Array (Option Value)} {tbA0 tbA1 : Tok} (lbA : K.lookup bA = some ⟨.type "tuple", odbA, .seq #[.int 1 tbA0, .int 1000 tbA1] nbA, slbA⟩)
    {odbM : Option Addr} {nbM : Nat} {slbM : Array (Option Value)} {tbM0 tbM1 : Tok} (lbM : K.lookup bM = some ⟨.type "tuple", odbM, .seq #[.int (-200) tbM0, .int 200 tbM1] nbM, slbM⟩)
    {esaT : Array DictEntry} {naT : Nat} {uaT0 uaT1 uaT2 uaT3 uaT4 uaT5 uaT6 uaT7 uaT8 uaT9 uaT10 uaT11 : Value} (gaT : PySem.W.nsIn K mainGlobals "TERM_SHAPES" = some (some (.ref aT))) (laT : K.lookup aT = some ⟨.type "dict", none, .dict esaT naT, #[]⟩) (eaT : Ents w esaT.toList [("cash", .str "N"), ("at", .str "D"), ("above", .str "DN"), ("below", .str "DN"), ("lowest", .str "D"), ("highest", .str "D"), ("both", .str "SS"), ("short", .str "S"), ("times", .str "SN"), ("lesser", .str "SS"), ("greater", .str "SS"), ("if", .str "DNSS")] [(Sum.inr "cash", uaT0), (Sum.inr "at", uaT1), (Sum.inr "above", uaT2), (Sum.inr "below", uaT3), (Sum.inr "lowest", uaT4), (Sum.inr "highest", uaT5), (Sum.inr "both", uaT6), (Sum.inr "short", uaT7), (Sum.inr "times", uaT8), (Sum.inr "lesser", uaT9), (Sum.inr "greater", uaT10), (Sum.inr "if", uaT11)]) (waT : (aT == sysModules) = false)
    {CL : Addr} (aL : PySem.W.nsIn K mainGlobals "Line" = some (some (.ref CL))) (pL : PySem.W.plainGet K CL Str.empty = true) (hL : PySem.W.hasDictIn K CL = true) (oL : PySem.W.plainOver K CL = true) (sL : PySem.W.findIn K (.ref CL) "__setattr__" = some (some (.builtin "object.__setattr__"))) (nL_number : PySem.W.findIn K (.ref CL) "number" = some none) (nL_words : PySem.W.findIn K (.ref CL) "words" = some none) (nL_at : PySem.W.findIn K (.ref CL) "at" = some none) (nL_named : PySem.W.findIn K (.ref CL) "named" = some none) (mL : PySem.W.makesIn K CL = true) (kL : PySem.W.keepIn K (.ref CL) = true)
    {fLI : Addr} {odLI anLI : Option Addr} {slLI : Array (Option Value)} {ocLI kVLI dcLI pmLI cdLI ctLI : Value} (bLI : PySem.W.findIn K (.ref CL) "__init__" = some (some (.ref fLI))) (iLI : PySem.W.isFn K (.ref fLI) = true) (lLI : K.lookup fLI = some ⟨ocLI, odLI, .func (PySem.W.fnOf "__init__" "Line.__init__" (defArgs (inClass sLine 0)) (defBody (inClass sLine 0)) (defScope (inClass sLine 0)) .none kVLI dcLI pmLI anLI cdLI ctLI), slLI⟩) (cLI : PySem.W.codeIn K cdLI "Line.__init__" = true) (kLI : PySem.W.keepIn K (.ref fLI) = true)
    {fLR : Addr} {odLR anLR : Option Addr} {slLR : Array (Option Value)} {ocLR kVLR dcLR pmLR cdLR ctLR : Value} (bLR : PySem.W.findIn K (.ref CL) "refuse" = some (some (.ref fLR))) (iLR : PySem.W.isFn K (.ref fLR) = true) (lLR : K.lookup fLR = some ⟨ocLR, odLR, .func (PySem.W.fnOf "refuse" "Line.refuse" (defArgs (inClass sLine 1)) (defBody (inClass sLine 1)) (defScope (inClass sLine 1)) .none kVLR dcLR pmLR anLR cdLR ctLR), slLR⟩) (cLR : PySem.W.codeIn K cdLR "Line.refuse" = true) (kLR : PySem.W.keepIn K (.ref fLR) = true)
    {fLM : Addr} {odLM anLM : Option Addr} {slLM : Array (Option Value)} {ocLM kVLM dcLM pmLM cdLM ctLM : Value} (bLM : PySem.W.findIn K (.ref CL) "has_more" = some (some (.ref fLM))) (iLM : PySem.W.isFn K (.ref fLM) = true) (lLM : K.lookup fLM = some ⟨ocLM, odLM, .func (PySem.W.fnOf "has_more" "Line.has_more" (defArgs (inClass sLine 2)) (defBody (inClass sLine 2)) (defScope (inClass sLine 2)) .none kVLM dcLM pmLM anLM cdLM ctLM), slLM⟩) (cLM : PySem.W.codeIn K cdLM "Line.has_more" = true) (kLM : PySem.W.keepIn K (.ref fLM) = true)
    {fLT : Addr} {odLT anLT : Option Addr} {slLT : Array (Option Value)} {ocLT kVLT dcLT pmLT cdLT ctLT : Value} (bLT : PySem.W.findIn K (.ref CL) "taken" = some (some (.ref fLT))) (iLT : PySem.W.isFn K (.ref fLT) = true) (lLT : K.lookup fLT = some ⟨ocLT, odLT, .func (PySem.W.fnOf "taken" "Line.taken" (defArgs (inClass sLine 3)) (defBody (inClass sLine 3)) (defScope (inClass sLine 3)) .none kVLT dcLT pmLT anLT cdLT ctLT), slLT⟩) (cLT : PySem.W.codeIn K cdLT "Line.taken" = true) (kLT : PySem.W.keepIn K (.ref fLT) = true)
    {fLG : Addr} {odLG anLG : Option Addr} {slLG : Array (Option Value)} {ocLG kVLG dcLG pmLG cdLG ctLG : Value} (bLG : PySem.W.findIn K (.ref CL) "integer" = some (some (.ref fLG))) (iLG : PySem.W.isFn K (.ref fLG) = true) (lLG : K.lookup fLG = some ⟨ocLG, odLG, .func (PySem.W.fnOf "integer" "Line.integer" (defArgs (inClass sLine 4)) (defBody (inClass sLine 4)) (defScope (inClass sLine 4)) .none kVLG dcLG pmLG anLG cdLG ctLG), slLG⟩) (cLG : PySem.W.codeIn K cdLG "Line.integer" = true) (kLG : PySem.W.keepIn K (.ref fLG) = true)
    {fLE : Addr} {odLE anLE : Option Addr} {slLE : Array (Option Value)} {ocLE kVLE dcLE pmLE cdLE ctLE : Value} (bLE : PySem.W.findIn K (.ref CL) "end" = some (some (.ref fLE))) (iLE : PySem.W.isFn K (.ref fLE) = true) (lLE : K.lookup fLE = some ⟨ocLE, odLE, .func (PySem.W.fnOf "end" "Line.end" (defArgs (inClass sLine 6)) (defBody (inClass sLine 6)) (defScope (inClass sLine 6)) .none kVLE dcLE pmLE anLE cdLE ctLE), slLE⟩) (cLE : PySem.W.codeIn K cdLE "Line.end" = true) (kLE : PySem.W.keepIn K (.ref fLE) = true)
    {CXe0 gXe0 : Addr} {odXe0 anXe0 : Option Addr} {slXe0 : Array (Option Value)} {ocXe0 kVXe0 dcXe0 pmXe0 cdXe0 ctXe0 : Value} (aXe0 : PySem.W.nsIn K mainGlobals "BadText" = some (some (.ref CXe0))) (iXe0 : PySem.W.excInitIn K CXe0 bmV "ValueError.__new__" = true) (oXe0 : PySem.W.excOver K CXe0 bmV = true) (sXe0 : PySem.W.findIn K (.ref CXe0) "__setattr__" = some (some (.builtin "object.__setattr__"))) (tXe0 : PySem.W.takerIn K CXe0 "line" = some none)
    (xXe0 : xfB K CXe0 = true) (nXe0 : PySem.W.findIn K (.ref CXe0) "line" = some none) (jXe0 : PySem.W.findIn K (.ref CXe0) "__init__" = some (some (.ref gXe0))) (vXe0 : PySem.W.typeIn K (.ref gXe0) = some (.type "function")) (qXe0 : PySem.W.keepIn K (.ref CXe0) = true) (yXe0 : PySem.W.typeIn K (.ref CXe0) = some (.type "type"))
    (lXe0 : K.lookup gXe0 = some ⟨ocXe0, odXe0, .func (PySem.W.fnOf "__init__" "BadText.__init__" (defArgs (inClass sBadText 0)) (defBody (inClass sBadText 0)) (defScope (inClass sBadText 0)) .none kVXe0 dcXe0 pmXe0 anXe0 cdXe0 ctXe0), slXe0⟩) (cXe0 : PySem.W.codeIn K cdXe0 "BadText.__init__" = true) (kXe0 : PySem.W.keepIn K (.ref gXe0) = true) (twXe0 : PySem.W.takerIn K CXe0 "word" = some none) (nwXe0 : PySem.W.findIn K (.ref CXe0) "word" = some none)
    {CXe1 gXe1 : Addr} {odXe1 anXe1 : Option Addr} {slXe1 : Array (Option Value)} {ocXe1 kVXe1 dcXe1 pmXe1 cdXe1 ctXe1 : Value} (aXe1 : PySem.W.nsIn K mainGlobals "BadTerm" = some (some (.ref CXe1))) (iXe1 : PySem.W.excInitIn K CXe1 bmV "ValueError.__new__" = true) (oXe1 : PySem.W.excOver K CXe1 bmV = true) (sXe1 : PySem.W.findIn K (.ref CXe1) "__setattr__" = some (some (.builtin "object.__setattr__"))) (tXe1 : PySem.W.takerIn K CXe1 "path" = some none)
    (xXe1 : xfB K CXe1 = true) (nXe1 : PySem.W.findIn K (.ref CXe1) "path" = some none) (jXe1 : PySem.W.findIn K (.ref CXe1) "__init__" = some (some (.ref gXe1))) (vXe1 : PySem.W.typeIn K (.ref gXe1) = some (.type "function")) (qXe1 : PySem.W.keepIn K (.ref CXe1) = true) (yXe1 : PySem.W.typeIn K (.ref CXe1) = some (.type "type"))
    (lXe1 : K.lookup gXe1 = some ⟨ocXe1, odXe1, .func (PySem.W.fnOf "__init__" "BadTerm.__init__" (defArgs (inClass sBadTerm 0)) (defBody (inClass sBadTerm 0)) (defScope (inClass sBadTerm 0)) .none kVXe1 dcXe1 pmXe1 anXe1 cdXe1 ctXe1), slXe1⟩) (cXe1 : PySem.W.codeIn K cdXe1 "BadTerm.__init__" = true) (kXe1 : PySem.W.keepIn K (.ref gXe1) = true)
    (e0_0 : PySem.W.exmOne K (.ref CXe0) (.ref CXe0) = some true)
    (e0_1 : PySem.W.exmOne K (.ref CXe0) (.ref CXe1) = some false)
    (e1_0 : PySem.W.exmOne K (.ref CXe1) (.ref CXe0) = some false)
    (e1_1 : PySem.W.exmOne K (.ref CXe1) (.ref CXe1) = some true) :
    LawAtG l w K 34 63 "script" mg fa h := by
  have e := hfa.symm.trans (PySem.W.mg_of X G aLaw)
  cases e
  have T : Bt mg := ⟨PySem.W.mg_none_of X G z_isinstance, PySem.W.mg_none_of X G z_int, PySem.W.mg_none_of X G z_tuple, PySem.W.mg_none_of X G z_len, PySem.W.mg_none_of X G z_abs, PySem.W.mg_none_of X G z_range, PySem.W.mg_none_of X G z_list, PySem.W.mg_none_of X G z_sorted, PySem.W.mg_none_of X G z_zip, PySem.W.mg_none_of X G z_all, PySem.W.mg_none_of X G z_dict⟩
  have gK_MOST_WORDS := PySem.W.mg_of X G aK_MOST_WORDS
  have gK_MOST_WITHIN := PySem.W.mg_of X G aK_MOST_WITHIN
  have gK_MOST_FIGURES := PySem.W.mg_of X G aK_MOST_FIGURES
  have gZ_KID := PySem.W.mg_of X G aZ_KID
  have gZ_DIGITS := PySem.W.mg_of X G aZ_DIGITS
  have g2aB := PySem.W.mg_of X G gaB
  have kdaB : KD l.prog w K aB (bndKV bN bD bX bA bM) := kd_of waB laB eaB (show (["N", "D", "X", "A", "M"] : List Str).Nodup by decide +kernel) (show 5 ≤ 1000 by decide)
  have sqbN : ∀ H, SqT K H bN [.int (-1000), .int 1000] := fun H => .inr ⟨_, _, _, lbN, rfl, rfl, (by show 2 ≤ sizeLine; decide), .cons ⟨tbN0, rfl⟩ (.cons ⟨tbN1, rfl⟩ (.nil))⟩
  have sqbD : ∀ H, SqT K H bD [.int 0, .int 3] := fun H => .inr ⟨_, _, _, lbD, rfl, rfl, (by show 2 ≤ sizeLine; decide), .cons ⟨tbD0, rfl⟩ (.cons ⟨tbD1, rfl⟩ (.nil))⟩
  have sqbX : ∀ H, SqT K H bX [.int (-100), .int 100] := fun H => .inr ⟨_, _, _, lbX, rfl, rfl, (by show 2 ≤ sizeLine; decide), .cons ⟨tbX0, rfl⟩ (.cons ⟨tbX1, rfl⟩ (.nil))⟩
  have sqbA : ∀ H, SqT K H bA [.int 1, .int 1000] := fun H => .inr ⟨_, _, _, lbA, rfl, rfl, (by show 2 ≤ sizeLine; decide), .cons ⟨tbA0, rfl⟩ (.cons ⟨tbA1, rfl⟩ (.nil))⟩
  have sqbM : ∀ H, SqT K H bM [.int (-200), .int 200] := fun H => .inr ⟨_, _, _, lbM, rfl, rfl, (by show 2 ≤ sizeLine; decide), .cons ⟨tbM0, rfl⟩ (.cons ⟨tbM1, rfl⟩ (.nil))⟩
  have g2aT := PySem.W.mg_of X G gaT
  have kdaT : KD l.prog w K aT (kvS tsL) := kd_of waT laT eaT (show (["cash", "at", "above", "below", "lowest", "highest", "both", "short", "times", "lesser", "greater", "if"] : List Str).Nodup by decide +kernel) (show 12 ≤ 1000 by decide)
  have FXe0 := fun_mk (st := inClass sBadText 0) lXe0 cXe0 kXe0
  have ZXe0 : Xc2 K mg "BadText" "line" "word" CXe0 gXe0 bmV "ValueError.__new__" (inClass sBadText 0) "BadText.__init__" _ := ⟨⟨PySem.W.mg_of X G aXe0, iXe0, oXe0, sXe0, tXe0, xfB_ok xXe0, nXe0, jXe0, vXe0, qXe0, yXe0⟩, FXe0, FXe0.binds (ps := ["self", "line", "word"]) fun _ _ _ _ _ _ us hl => match us, hl with | [_, _, _], _ => rfl, twXe0, nwXe0⟩
  have FXe1 := fun_mk (st := inClass sBadTerm 0) lXe1 cXe1 kXe1
  have ZXe1 : Xc K mg "BadTerm" "path" CXe1 gXe1 bmV "ValueError.__new__" (inClass sBadTerm 0) "BadTerm.__init__" _ := ⟨⟨PySem.W.mg_of X G aXe1, iXe1, oXe1, sXe1, tXe1, xfB_ok xXe1, nXe1, jXe1, vXe1, qXe1, yXe1⟩, FXe1, FXe1.binds (ps := ["self", "path"]) fun _ _ _ _ _ _ us hl => match us, hl with | [_, _], _ => rfl⟩
  have FKidPlaces := fun_mk (st := sKidPlaces) lKidPlaces cKidPlaces kKidPlaces
  have DKidPlaces : Df K mg "kid_places" sKidPlaces ["shape"] fKidPlaces _ := ⟨FKidPlaces, FKidPlaces.binds (ps := ["shape"]) fun _ _ _ _ _ _ us hl => match us, hl with | [_], _ => rfl, PySem.W.mg_of X G aKidPlaces⟩
  have FWholePlaces := fun_mk (st := sWholePlaces) lWholePlaces cWholePlaces kWholePlaces
  have DWholePlaces : Df K mg "whole_places" sWholePlaces ["shape"] fWholePlaces _ := ⟨FWholePlaces, FWholePlaces.binds (ps := ["shape"]) fun _ _ _ _ _ _ us hl => match us, hl with | [_], _ => rfl, PySem.W.mg_of X G aWholePlaces⟩
  have FTreeText := fun_mk (st := sTreeText) lTreeText cTreeText kTreeText
  have DTreeText : Df K mg "tree_text" sTreeText ["tree", "shapes"] fTreeText _ := ⟨FTreeText, FTreeText.binds (ps := ["tree", "shapes"]) fun _ _ _ _ _ _ us hl => match us, hl with | [_, _], _ => rfl, PySem.W.mg_of X G aTreeText⟩
  have FIsInOrder := fun_mk (st := sIsInOrder) lIsInOrder cIsInOrder kIsInOrder
  have DIsInOrder : Df K mg "is_in_order" sIsInOrder ["thing"] fIsInOrder _ := ⟨FIsInOrder, FIsInOrder.binds (ps := ["thing"]) fun _ _ _ _ _ _ us hl => match us, hl with | [_], _ => rfl, PySem.W.mg_of X G aIsInOrder⟩
  have FIsWholeWithin := fun_mk (st := sIsWholeWithin) lIsWholeWithin cIsWholeWithin kIsWholeWithin
  have DIsWholeWithin : Df K mg "is_whole_within" sIsWholeWithin ["thing", "least", "most"] fIsWholeWithin _ := ⟨FIsWholeWithin, FIsWholeWithin.binds (ps := ["thing", "least", "most"]) fun _ _ _ _ _ _ us hl => match us, hl with | [_, _, _], _ => rfl, PySem.W.mg_of X G aIsWholeWithin⟩
  have FIsWhole := fun_mk (st := sIsWhole) lIsWhole cIsWhole kIsWhole
  have DIsWhole : Df K mg "is_whole" sIsWhole ["thing"] fIsWhole _ := ⟨FIsWhole, FIsWhole.binds (ps := ["thing"]) fun _ _ _ _ _ _ us hl => match us, hl with | [_], _ => rfl, PySem.W.mg_of X G aIsWhole⟩
  have FMayStand := fun_mk (st := sMayStand) lMayStand cMayStand kMayStand
  have DMayStand : Df K mg "may_stand" sMayStand ["kind", "thing"] fMayStand _ := ⟨FMayStand, FMayStand.binds (ps := ["kind", "thing"]) fun _ _ _ _ _ _ us hl => match us, hl with | [_, _], _ => rfl, PySem.W.mg_of X G aMayStand⟩
  have FIsWord := fun_mk (st := sIsWord) lIsWord cIsWord kIsWord
  have DIsWord : Df K mg "is_word" sIsWord ["thing"] fIsWord _ := ⟨FIsWord, FIsWord.binds (ps := ["thing"]) fun _ _ _ _ _ _ us hl => match us, hl with | [_], _ => rfl, PySem.W.mg_of X G aIsWord⟩
  have FIsRow := fun_mk (st := sIsRow) lIsRow cIsRow kIsRow
  have DIsRow : Df K mg "is_row" sIsRow ["thing"] fIsRow _ := ⟨FIsRow, FIsRow.binds (ps := ["thing"]) fun _ _ _ _ _ _ us hl => match us, hl with | [_], _ => rfl, PySem.W.mg_of X G aIsRow⟩
  have FIsFormed := fun_mk (st := sIsFormed) lIsFormed cIsFormed kIsFormed
  have DIsFormed : Df K mg "is_formed" sIsFormed ["thing", "shapes"] fIsFormed _ := ⟨FIsFormed, FIsFormed.binds (ps := ["thing", "shapes"]) fun _ _ _ _ _ _ us hl => match us, hl with | [_, _], _ => rfl, PySem.W.mg_of X G aIsFormed⟩
  have FFaultIn := fun_mk (st := sFaultIn) lFaultIn cFaultIn kFaultIn
  have DFaultIn : Df K mg "fault_in" sFaultIn ["whole", "shapes"] fFaultIn _ := ⟨FFaultIn, FFaultIn.binds (ps := ["whole", "shapes"]) fun _ _ _ _ _ _ us hl => match us, hl with | [_, _], _ => rfl, PySem.W.mg_of X G aFaultIn⟩
  have FNeedTerm := fun_mk (st := sNeedTerm) lNeedTerm cNeedTerm kNeedTerm
  have DNeedTerm : Df K mg "need_term" sNeedTerm ["thing"] fNeedTerm _ := ⟨FNeedTerm, FNeedTerm.binds (ps := ["thing"]) fun _ _ _ _ _ _ us hl => match us, hl with | [_], _ => rfl, PySem.W.mg_of X G aNeedTerm⟩
  have FTermText := fun_mk (st := sTermText) lTermText cTermText kTermText
  have DTermText : Df K mg "term_text" sTermText ["term"] fTermText _ := ⟨FTermText, FTermText.binds (ps := ["term"]) fun _ _ _ _ _ _ us hl => match us, hl with | [_], _ => rfl, PySem.W.mg_of X G aTermText⟩
  have FLawPlaces := fun_mk (st := sLawPlaces) lLawPlaces cLawPlaces kLawPlaces
  have DLawPlaces : Df K mg "_law_places" sLawPlaces ["thing"] fLawPlaces _ := ⟨FLawPlaces, FLawPlaces.binds (ps := ["thing"]) fun _ _ _ _ _ _ us hl => match us, hl with | [_], _ => rfl, PySem.W.mg_of X G aLawPlaces⟩
  have FLawBoundsOf := fun_mk (st := sLawBoundsOf) lLawBoundsOf cLawBoundsOf kLawBoundsOf
  have DLawBoundsOf : Df K mg "_law_bounds_of" sLawBoundsOf ["word"] fLawBoundsOf _ := ⟨FLawBoundsOf, FLawBoundsOf.binds (ps := ["word"]) fun _ _ _ _ _ _ us hl => match us, hl with | [_], _ => rfl, PySem.W.mg_of X G aLawBoundsOf⟩
  have FLawIntegers := fun_mk (st := sLawIntegers) lLawIntegers cLawIntegers kLawIntegers
  have DLawIntegers : Df K mg "_law_integers" sLawIntegers ["thing"] fLawIntegers _ := ⟨FLawIntegers, FLawIntegers.binds (ps := ["thing"]) fun _ _ _ _ _ _ us hl => match us, hl with | [_], _ => rfl, PySem.W.mg_of X G aLawIntegers⟩
  have FLawAreGood := fun_mk (st := sLawAreGood) lLawAreGood cLawAreGood kLawAreGood
  have DLawAreGood : Df K mg "_law_are_good" sLawAreGood ["thing"] fLawAreGood _ := ⟨FLawAreGood, FLawAreGood.binds (ps := ["thing"]) fun _ _ _ _ _ _ us hl => match us, hl with | [_], _ => rfl, PySem.W.mg_of X G aLawAreGood⟩
  have FLawFault := fun_mk (st := sLawFault) lLawFault cLawFault kLawFault
  have DLawFault : Df K mg "_law_fault" sLawFault ["thing"] fLawFault _ := ⟨FLawFault, FLawFault.binds (ps := ["thing"]) fun _ _ _ _ _ _ us hl => match us, hl with | [_], _ => rfl, PySem.W.mg_of X G aLawFault⟩
  have FLawJoined := fun_mk (st := sLawJoined) lLawJoined cLawJoined kLawJoined
  have DLawJoined : Df K mg "_law_joined" sLawJoined ["word", "some", "kids"] fLawJoined _ := ⟨FLawJoined, FLawJoined.binds (ps := ["word", "some", "kids"]) fun _ _ _ _ _ _ us hl => match us, hl with | [_, _, _], _ => rfl, PySem.W.mg_of X G aLawJoined⟩
  have FLawInteger := fun_mk (st := sLawInteger) lLawInteger cLawInteger kLawInteger
  have DLawInteger : Df K mg "_law_integer" sLawInteger ["word"] fLawInteger _ := ⟨FLawInteger, FLawInteger.binds (ps := ["word"]) fun _ _ _ _ _ _ us hl => match us, hl with | [_], _ => rfl, PySem.W.mg_of X G aLawInteger⟩
  have FLawTake := fun_mk (st := sLawTake) lLawTake cLawTake kLawTake
  have DLawTake : Df K mg "_law_take" sLawTake ["kinds", "words", "here"] fLawTake _ := ⟨FLawTake, FLawTake.binds (ps := ["kinds", "words", "here"]) fun _ _ _ _ _ _ us hl => match us, hl with | [_, _, _], _ => rfl, PySem.W.mg_of X G aLawTake⟩
  have FLawReadLine := fun_mk (st := sLawReadLine) lLawReadLine cLawReadLine kLawReadLine
  have DLawReadLine : Df K mg "_law_read_line" sLawReadLine ["kinds", "line"] fLawReadLine _ := ⟨FLawReadLine, FLawReadLine.binds (ps := ["kinds", "line"]) fun _ _ _ _ _ _ us hl => match us, hl with | [_, _], _ => rfl, PySem.W.mg_of X G aLawReadLine⟩
  have FLawPaperWords := fun_mk (st := sLawPaperWords) lLawPaperWords cLawPaperWords kLawPaperWords
  have DLawPaperWords : Df K mg "_law_paper_words" sLawPaperWords [] fLawPaperWords _ := ⟨FLawPaperWords, FLawPaperWords.binds (ps := []) fun _ _ _ _ _ _ us hl => match us, hl with | [], _ => rfl, PySem.W.mg_of X G aLawPaperWords⟩
  have FLawTermDue := fun_mk (st := sLawTermDue) lLawTermDue cLawTermDue kLawTermDue
  have DLawTermDue : Df K mg "_law_term_due" sLawTermDue ["sheet"] fLawTermDue _ := ⟨FLawTermDue, FLawTermDue.binds (ps := ["sheet"]) fun _ _ _ _ _ _ us hl => match us, hl with | [_], _ => rfl, PySem.W.mg_of X G aLawTermDue⟩
  have FDraw := fun_mk (st := sDraw) lDraw cDraw kDraw
  have DDraw : Df K mg "_law_draw" sDraw ["state", "many"] fDraw _ := ⟨FDraw, FDraw.binds (ps := ["state", "many"]) fun _ _ _ _ _ _ us hl => match us, hl with | [_, _], _ => rfl, PySem.W.mg_of X G aDraw⟩
  have FMixed := fun_mk (st := sMixed) lMixed cMixed kMixed
  have DMixed : Df K mg "_law_mixed" sMixed ["cell", "k"] fMixed _ := ⟨FMixed, FMixed.binds (ps := ["cell", "k"]) fun _ _ _ _ _ _ us hl => match us, hl with | [_, _], _ => rfl, PySem.W.mg_of X G aMixed⟩
  have FLawOf := fun_mk (st := sLawOf) lLawOf cLawOf kLawOf
  have DLawOf : Df K mg "_law_of" sLawOf ["state", "some"] fLawOf _ := ⟨FLawOf, FLawOf.binds (ps := ["state", "some"]) fun _ _ _ _ _ _ us hl => match us, hl with | [_, _], _ => rfl, PySem.W.mg_of X G aLawOf⟩
  have FLawBentText := fun_mk (st := sLawBentText) lLawBentText cLawBentText kLawBentText
  have DLawBentText : Df K mg "_law_bent_text" sLawBentText ["state", "sheet"] fLawBentText _ := ⟨FLawBentText, FLawBentText.binds (ps := ["state", "sheet"]) fun _ _ _ _ _ _ us hl => match us, hl with | [_, _], _ => rfl, PySem.W.mg_of X G aLawBentText⟩
  have FLawKids := fun_mk (st := sLawKids) lLawKids cLawKids kLawKids
  have DLawKids : Df K mg "_law_kids" sLawKids ["thing"] fLawKids _ := ⟨FLawKids, FLawKids.binds (ps := ["thing"]) fun _ _ _ _ _ _ us hl => match us, hl with | [_], _ => rfl, PySem.W.mg_of X G aLawKids⟩
  have FLawLineOf := fun_mk (st := sLawLineOf) lLawLineOf cLawLineOf kLawLineOf
  have DLawLineOf : Df K mg "_law_line_of" sLawLineOf ["thing"] fLawLineOf _ := ⟨FLawLineOf, FLawLineOf.binds (ps := ["thing"]) fun _ _ _ _ _ _ us hl => match us, hl with | [_], _ => rfl, PySem.W.mg_of X G aLawLineOf⟩
  have FLawPaper := fun_mk (st := sLawPaper) lLawPaper cLawPaper kLawPaper
  have DLawPaper : Df K mg "_law_paper" sLawPaper ["state", "deep"] fLawPaper _ := ⟨FLawPaper, FLawPaper.binds (ps := ["state", "deep"]) fun _ _ _ _ _ _ us hl => match us, hl with | [_, _], _ => rfl, PySem.W.mg_of X G aLawPaper⟩
  have FNeedNoMore := fun_mk (st := sNeedNoMore) lNeedNoMore cNeedNoMore kNeedNoMore
  have DNeedNoMore : Df K mg "need_no_more" sNeedNoMore ["lines", "most"] fNeedNoMore _ := ⟨FNeedNoMore, FNeedNoMore.binds (ps := ["lines", "most"]) fun _ _ _ _ _ _ us hl => match us, hl with | [_, _], _ => rfl, PySem.W.mg_of X G aNeedNoMore⟩
  have FIsFigures := fun_mk (st := sIsFigures) lIsFigures cIsFigures kIsFigures
  have DIsFigures : Df K mg "is_figures" sIsFigures ["word"] fIsFigures _ := ⟨FIsFigures, FIsFigures.binds (ps := ["word"]) fun _ _ _ _ _ _ us hl => match us, hl with | [_], _ => rfl, PySem.W.mg_of X G aIsFigures⟩
  have FIsInteger := fun_mk (st := sIsInteger) lIsInteger cIsInteger kIsInteger
  have DIsInteger : Df K mg "is_integer" sIsInteger ["word"] fIsInteger _ := ⟨FIsInteger, FIsInteger.binds (ps := ["word"]) fun _ _ _ _ _ _ us hl => match us, hl with | [_], _ => rfl, PySem.W.mg_of X G aIsInteger⟩
  have ETreeIn : FunC K "tree_in" "tree_in" sTreeIn fTreeIn _ c0TreeIn := ⟨⟨_, _, _, _, _, _, _, _, rfl, lTreeIn, cTreeIn⟩, kTreeIn⟩
  have FTreeIn := ETreeIn.fun_
  have DTreeIn : Df K mg "tree_in" sTreeIn ["line", "shapes"] fTreeIn _ := ⟨FTreeIn, FTreeIn.binds (ps := ["line", "shapes"]) fun _ _ _ _ _ _ us hl => match us, hl with | [_, _], _ => rfl, PySem.W.mg_of X G aTreeIn⟩
  have FTreeOf := fun_mk (st := sTreeOf) lTreeOf cTreeOf kTreeOf
  have DTreeOf : Df K mg "tree_of" sTreeOf ["text", "number", "shapes"] fTreeOf _ := ⟨FTreeOf, FTreeOf.binds (ps := ["text", "number", "shapes"]) fun _ _ _ _ _ _ us hl => match us, hl with | [_, _, _], _ => rfl, PySem.W.mg_of X G aTreeOf⟩
  have FLinesOf := fun_mk (st := sLinesOf) lLinesOf cLinesOf kLinesOf
  have DLinesOf : Df K mg "lines_of" sLinesOf ["text"] fLinesOf _ := ⟨FLinesOf, FLinesOf.binds (ps := ["text"]) fun _ _ _ _ _ _ us hl => match us, hl with | [_], _ => rfl, PySem.W.mg_of X G aLinesOf⟩
  have FReadTree := fun_mk (st := sReadTree) lReadTree cReadTree kReadTree
  have DReadTree : Df K mg "read_tree" sReadTree ["text", "shapes"] fReadTree _ := ⟨FReadTree, FReadTree.binds (ps := ["text", "shapes"]) fun _ _ _ _ _ _ us hl => match us, hl with | [_, _], _ => rfl, PySem.W.mg_of X G aReadTree⟩
  have FReadTerm := fun_mk (st := sReadTerm) lReadTerm cReadTerm kReadTerm
  have DReadTerm : Df K mg "read_term" sReadTerm ["text"] fReadTerm _ := ⟨FReadTerm, FReadTerm.binds (ps := ["text"]) fun _ _ _ _ _ _ us hl => match us, hl with | [_], _ => rfl, PySem.W.mg_of X G aReadTerm⟩
  have ELawRight : FunC K "_law_right" "_law_right" sLawRight fLawRight _ c0LawRight := ⟨⟨_, _, _, _, _, _, _, _, rfl, lLawRight, cLawRight⟩, kLawRight⟩
  have FLawRight := ELawRight.fun_
  have DLawRight : Df K mg "_law_right" sLawRight ["state"] fLawRight _ := ⟨FLawRight, FLawRight.binds (ps := ["state"]) fun _ _ _ _ _ _ us hl => match us, hl with | [_], _ => rfl, PySem.W.mg_of X G aLawRight⟩
  have FLawHeard := fun_mk (st := sLawHeard) lLawHeard cLawHeard kLawHeard
  have DLawHeard : Df K mg "_law_heard" sLawHeard ["call"] fLawHeard _ := ⟨FLawHeard, FLawHeard.binds (ps := ["call"]) fun _ _ _ _ _ _ us hl => match us, hl with | [_], _ => rfl, PySem.W.mg_of X G aLawHeard⟩
  have FBegin := fun_mk (st := sBegin) lBegin cBegin kBegin
  have DBegin : Df K mg "_law_begin" sBegin ["script"] fBegin _ := ⟨FBegin, FBegin.binds (ps := ["script"]) fun _ _ _ _ _ _ us hl => match us, hl with | [_], _ => rfl, PySem.W.mg_of X G aBegin⟩
  have Lk : LnK K mg CL := ⟨⟨pL, hL, oL, sL⟩, nL_number, nL_words, nL_at, nL_named, PySem.W.mg_of X G aL⟩
  have FLI := fun_mk (st := inClass sLine 0) lLI cLI kLI
  have BLI := FLI.binds (ps := ["self", "text", "number"]) fun _ _ _ _ _ _ us hl => match us, hl with | [_, _, _], _ => rfl
  have FLR := fun_mk (st := inClass sLine 1) lLR cLR kLR
  have BLR := FLR.binds (ps := ["self"]) fun _ _ _ _ _ _ us hl => match us, hl with | [_], _ => rfl
  have MLR : Meth K CL "refuse" fLR := ⟨bLR, iLR, kLR⟩
  have FLM := fun_mk (st := inClass sLine 2) lLM cLM kLM
  have BLM := FLM.binds (ps := ["self"]) fun _ _ _ _ _ _ us hl => match us, hl with | [_], _ => rfl
  have MLM : Meth K CL "has_more" fLM := ⟨bLM, iLM, kLM⟩
  have FLT := fun_mk (st := inClass sLine 3) lLT cLT kLT
  have BLT := FLT.binds (ps := ["self", "may_stand"]) fun _ _ _ _ _ _ us hl => match us, hl with | [_, _], _ => rfl
  have MLT : Meth K CL "taken" fLT := ⟨bLT, iLT, kLT⟩
  have FLG := fun_mk (st := inClass sLine 4) lLG cLG kLG
  have BLG := FLG.binds (ps := ["self"]) fun _ _ _ _ _ _ us hl => match us, hl with | [_], _ => rfl
  have MLG : Meth K CL "integer" fLG := ⟨bLG, iLG, kLG⟩
  have FLE := fun_mk (st := inClass sLine 6) lLE cLE kLE
  have BLE := FLE.binds (ps := ["self"]) fun _ _ _ _ _ _ us hl => match us, hl with | [_], _ => rfl
  have MLE : Meth K CL "end" fLE := ⟨bLE, iLE, kLE⟩
  have MLI : Mk K CL fLI := ⟨mL, bLI, iLI, kL⟩
  have ELaw : FunC K "law" "law" sLaw _ _ c0Law := ⟨⟨_, _, _, _, _, _, _, _, rfl, lLaw, cLaw⟩, kLaw⟩
  refine ⟨PySem.W.fnOf "law" "law" (defArgs sLaw) (defBody sLaw) (defScope sLaw) .none kVLaw dcLaw pmLaw anLaw (.ref c0Law) ctLaw, [(c0TreeIn, p0TreeIn), (c0LawRight, p0LawRight), (c0Law, p0Law)], spLaw31 K [(p0TreeIn, ((("tree_in" : Str) ++ ".<locals>.") ++ "<lambda>" : Str)), (p0LawRight, ((("_law_right" : Str) ++ ".<locals>.") ++ "<lambda>" : Str)), (p0Law, ((("law" : Str) ++ ".<locals>.") ++ "<lambda>" : Str))], ?_, ?_, ?_, fun s v => ?_, ?_, fun base _ _ TB => ?_⟩
  · exact List.forall_mem_cons.mpr ⟨mTreeIn, List.forall_mem_cons.mpr ⟨mLawRight, List.forall_mem_cons.mpr ⟨mLaw, fun _ z => nomatch z⟩⟩⟩
  · exact List.forall_mem_cons.mpr ⟨nTreeIn, List.forall_mem_cons.mpr ⟨nLawRight, List.forall_mem_cons.mpr ⟨nLaw, fun _ z => nomatch z⟩⟩⟩
  · exact List.forall_mem_cons.mpr ⟨PySem.W.codeHd_of_K X hTreeIn, List.forall_mem_cons.mpr ⟨PySem.W.codeHd_of_K X hLawRight, List.forall_mem_cons.mpr ⟨PySem.W.codeHd_of_K X hLaw, fun _ z => nomatch z⟩⟩⟩
  · exact .of_eq rfl
  · exact fun H a ns hl hT hS => ⟨a, ns, rfl, hS, hl, List.forall_mem_cons.mpr ⟨.nil (hT _ (.head _)), List.forall_mem_cons.mpr ⟨.nil (hT _ (.tail _ (.head _))), List.forall_mem_cons.mpr ⟨.nil (hT _ (.tail _ (.tail _ (.head _)))), fun _ z => nomatch z⟩⟩⟩, fun _ => rfl⟩
  have TB0 := TB _ (.head _)
  have TB1 := TB _ (.tail _ (.head _))
  have TB2 := TB _ (.tail _ (.tail _ (.head _)))
  have Gh31 := ok_law_heardT (P := l.prog) (w := w) (base := base) (k := 31) DLawHeard ZXe0 ZXe1 e0_0 e1_0 e1_1
  have g0_ := ok_kid_places (P := l.prog) (w := w) (base := base) DKidPlaces gZ_KID T (PySem.W.mg_none_of X G z_enumerate)
  have g1_ := ok_whole_places (P := l.prog) (w := w) (base := base) DWholePlaces gZ_KID T (PySem.W.mg_none_of X G z_enumerate)
  have g2_ := ok_tree_text20 (P := l.prog) (w := w) (base := base) (L := tsL) DTreeText DKidPlaces g0_ DWholePlaces g1_ (PySem.W.mg_none_of X G z_str)
  have g3_ := ok_is_in_orderB (P := l.prog) (w := w) (base := base) DIsInOrder
  have g4_ := ok_is_whole_within (P := l.prog) (w := w) (base := base) DIsWholeWithin DIsWhole T
  have g5_ := ok_may_standB (P := l.prog) (w := w) (base := base) DMayStand DIsWholeWithin g4_ gZ_KID g2aB kdaB sqbN sqbD sqbX sqbA sqbM T
  have g6_ := ok_wordD (P := l.prog) (w := w) (base := base) DIsWord T (PySem.W.mg_none_of X G z_str)
  have g7_ := ok_rowD (P := l.prog) (w := w) (base := base) DIsRow T
  have g8_ := ok_is_formedB (P := l.prog) (w := w) (base := base) (L := tsL) DIsFormed DIsInOrder g3_ DMayStand g5_ DIsWord g6_ DIsRow g7_ T
  have g9_ := ok_fault_inB (P := l.prog) (w := w) (base := base) (L := tsL) DFaultIn DKidPlaces g0_ DIsFormed g8_ gK_MOST_WORDS gK_MOST_WITHIN T
  have g10_ := ok_need_term (P := l.prog) (w := w) (base := base) (L := tsL) DNeedTerm DFaultIn g9_ g2aT kdaT ts_good T ZXe1
  have g11_ := ok_term_text (P := l.prog) (w := w) (base := base) (L := tsL) DTermText DTreeText g2_ DNeedTerm g10_ g2aT kdaT ts_good T
  have g12_ := ok_law_places (P := l.prog) (w := w) (base := base) (L := tsL) DLawPlaces T (PySem.W.mg_none_of X G z_enumerate)
  have g13_ := ok_law_bounds_of (P := l.prog) (w := w) (base := base) DLawBoundsOf T
  have g14_ := ok_law_integers (P := l.prog) (w := w) (base := base) (L := tsL) DLawIntegers T
  have g15_ := ok_law_are_good (P := l.prog) (w := w) (base := base) (L := tsL) DLawAreGood DLawBoundsOf g13_ DLawIntegers g14_ T
  have g16_ := ok_law_fault (P := l.prog) (w := w) (base := base) (L := tsL) DLawFault DLawPlaces g12_ DLawAreGood g15_ T
  have g17_ := ok_law_joined (P := l.prog) (w := w) (base := base) (L := tsL) DLawJoined T
  have g18_ := ok_law_integer (P := l.prog) (w := w) (base := base) DLawInteger T
  have g19_ := ok_law_take20 (P := l.prog) (w := w) (base := base) (L := tsL) (W := wdL) DLawTake DLawJoined g17_ DLawInteger g18_ T
  have g20_ := ok_law_read_line (P := l.prog) (w := w) (base := base) (L := tsL) (W := wdL) DLawReadLine DLawTake g19_ T
  have g21_ := ok_law_paper_words (P := l.prog) (w := w) (base := base) DLawPaperWords
  have g22_ := ok_law_term_due (P := l.prog) (w := w) (base := base) (L := tsL) DLawTermDue DLawFault g16_ DLawReadLine g20_ DLawPaperWords g21_ T
  have g23_ := ok_draw (P := l.prog) (w := w) (base := base) DDraw DMixed T
  have g24_ := ok_law_ofA (P := l.prog) (w := w) (base := base) DLawOf DDraw g23_ T
  have g25_ := ok_law_bent_text (P := l.prog) (w := w) (base := base) DLawBentText DLawOf g24_ DDraw g23_ T
  have g26_ := ok_law_kids (P := l.prog) (w := w) (base := base) (L := tsL) DLawKids T
  have g27_ := ok_law_line_of20 (P := l.prog) (w := w) (base := base) (L := tsL) DLawLineOf DLawKids g26_ DLawIntegers g14_ (PySem.W.mg_none_of X G z_str)
  have g28_ := ok_law_paper3 (P := l.prog) (w := w) (base := base) DLawPaper DDraw g23_ DLawOf g24_ T
  have g29_ := ok_need_no_more (P := l.prog) (w := w) (base := base) DNeedNoMore T ZXe0
  have g30_ := ok_is_figures (P := l.prog) (w := w) (base := base) DIsFigures T gK_MOST_FIGURES gZ_DIGITS
  have g31_ := ok_is_integer (P := l.prog) (w := w) (base := base) DIsInteger DIsFigures g30_
  have gLI := ok_lnInit (P := l.prog) (w := w) (base := base) FLI Lk
  have gLR := ok_lnRefuse (P := l.prog) (w := w) (base := base) FLR Lk ZXe0
  have gLM := ok_lnMore (P := l.prog) (w := w) (base := base) FLM Lk T
  have gLT := fun act (ha : ActOk1 l.prog w K mg base 3 act) => ok_lnTaken (act := act) FLT Lk MLM BLM gLM MLR BLR gLR ha
  have gLG := ok_lnInt FLG Lk T MLT BLT gLT DIsInteger g31_
  have gLE := ok_lnEnd (P := l.prog) (w := w) (base := base) FLE Lk MLM BLM gLM MLR BLR gLR
  have g32_ := ok_tree_in20 (P := l.prog) (w := w) (base := base) (TT := [(p0TreeIn, ((("tree_in" : Str) ++ ".<locals>.") ++ "<lambda>" : Str)), (p0LawRight, ((("_law_right" : Str) ++ ".<locals>.") ++ "<lambda>" : Str)), (p0Law, ((("law" : Str) ++ ".<locals>.") ++ "<lambda>" : Str))]) (L := tsL) ETreeIn TB0 (.head _) (List.forall_mem_cons.mpr ⟨fun _ => rfl, List.forall_mem_cons.mpr ⟨fun z => absurd z.symm pne0_1, List.forall_mem_cons.mpr ⟨fun z => absurd z.symm pne0_2, fun _ z => nomatch z⟩⟩⟩) DKidPlaces g0_ DWholePlaces g1_ ts_good.1 Lk T gK_MOST_WORDS MLR BLR gLR MLT BLT gLT MLG BLG gLG DTreeIn
  have g33_ := ok_tree_of (P := l.prog) (w := w) (base := base) (TT := [(p0TreeIn, ((("tree_in" : Str) ++ ".<locals>.") ++ "<lambda>" : Str)), (p0LawRight, ((("_law_right" : Str) ++ ".<locals>.") ++ "<lambda>" : Str)), (p0Law, ((("law" : Str) ++ ".<locals>.") ++ "<lambda>" : Str))]) (L := tsL) DTreeOf DTreeIn g32_ Lk MLI BLI gLI MLE BLE gLE
  have g34_ := ok_lines_of (P := l.prog) (w := w) (base := base) DLinesOf DIsWord g6_
  have g35_ := ok_read_tree (P := l.prog) (w := w) (base := base) (TT := [(p0TreeIn, ((("tree_in" : Str) ++ ".<locals>.") ++ "<lambda>" : Str)), (p0LawRight, ((("_law_right" : Str) ++ ".<locals>.") ++ "<lambda>" : Str)), (p0Law, ((("law" : Str) ++ ".<locals>.") ++ "<lambda>" : Str))]) (L := tsL) DReadTree DNeedNoMore g29_ DTreeOf g33_ DLinesOf g34_
  have g36_ := ok_read_term (P := l.prog) (w := w) (base := base) (TT := [(p0TreeIn, ((("tree_in" : Str) ++ ".<locals>.") ++ "<lambda>" : Str)), (p0LawRight, ((("_law_right" : Str) ++ ".<locals>.") ++ "<lambda>" : Str)), (p0Law, ((("law" : Str) ++ ".<locals>.") ++ "<lambda>" : Str))]) (L := tsL) DReadTerm DNeedTerm g10_ DReadTree g35_ g2aT kdaT T
  have g37_ := ok_law_right (P := l.prog) (w := w) (base := base) (TT := [(p0TreeIn, ((("tree_in" : Str) ++ ".<locals>.") ++ "<lambda>" : Str)), (p0LawRight, ((("_law_right" : Str) ++ ".<locals>.") ++ "<lambda>" : Str)), (p0Law, ((("law" : Str) ++ ".<locals>.") ++ "<lambda>" : Str))]) ELawRight TB1 (.tail _ (.head _)) (List.forall_mem_cons.mpr ⟨fun z => absurd z pne0_1, List.forall_mem_cons.mpr ⟨fun _ => rfl, List.forall_mem_cons.mpr ⟨fun z => absurd z.symm pne1_2, fun _ z => nomatch z⟩⟩⟩) DLawTermDue g22_ DLawBentText g25_ DTermText g11_ DLawLineOf g27_ DLawPaper g28_ T (PySem.W.mg_none_of X G z_repr) DReadTerm g36_ DLawHeard Gh31
  have g38_ := ok_begin (P := l.prog) (w := w) (base := base) DBegin T
  exact ok_law ELaw TB2 (.tail _ (.tail _ (.head _))) (List.forall_mem_cons.mpr ⟨fun z => absurd z pne0_2, List.forall_mem_cons.mpr ⟨fun z => absurd z pne1_2, List.forall_mem_cons.mpr ⟨fun _ => rfl, fun _ z => nomatch z⟩⟩⟩) DTermText g11_ DLawRight g37_ DBegin g38_ T (PySem.W.mg_none_of X G z_min) DReadTerm g36_ DLawHeard Gh31
end CS
open PySem PySem.W PyProof.Rows
set_option maxRecDepth 100000 in
set_option maxHeartbeats 0 in
theorem PySem.Challenge.cw_curtainsteps_k31_whole_texts_of_terms_holds : PySem.Challenge.rw_curtainsteps_k31_whole_texts_of_terms.Holds := by
  w_on; o_law; k_head; (case hw => w_witness2)
  k_fill
  refine CS.walk_stillTs (n := 63) (k := 34) (x := "script") (l := PySem.Challenge.rw_curtainsteps_k31_whole_texts_of_terms) rfl (by decide) rfl ⟨rfl, by decide, by decide⟩ (fun w h Y => PySem.W.km_in_of Y) ?F
  case F =>
    intro w mg fa h Y KX G hmg
    refine' CS.all_mk KX G hmg ?aKidPlaces ?lKidPlaces ?cKidPlaces ?kKidPlaces ?aWholePlaces ?lWholePlaces ?cWholePlaces ?kWholePlaces ?aTreeText ?lTreeText ?cTreeText ?kTreeText ?aIsInOrder ?lIsInOrder ?cIsInOrder ?kIsInOrder ?aIsWholeWithin ?lIsWholeWithin ?cIsWholeWithin ?kIsWholeWithin ?aIsWhole ?lIsWhole ?cIsWhole ?kIsWhole ?aMayStand ?lMayStand ?cMayStand ?kMayStand ?aIsWord ?lIsWord ?cIsWord ?kIsWord ?aIsRow ?lIsRow ?cIsRow ?kIsRow ?aIsFormed ?lIsFormed ?cIsFormed ?kIsFormed ?aFaultIn ?lFaultIn ?cFaultIn ?kFaultIn ?aNeedTerm ?lNeedTerm ?cNeedTerm ?kNeedTerm ?aTermText ?lTermText ?cTermText ?kTermText ?aLawPlaces ?lLawPlaces ?cLawPlaces ?kLawPlaces ?aLawBoundsOf ?lLawBoundsOf ?cLawBoundsOf ?kLawBoundsOf ?aLawIntegers ?lLawIntegers ?cLawIntegers ?kLawIntegers ?aLawAreGood ?lLawAreGood ?cLawAreGood ?kLawAreGood ?aLawFault ?lLawFault ?cLawFault ?kLawFault ?aLawJoined ?lLawJoined ?cLawJoined ?kLawJoined ?aLawInteger ?lLawInteger ?cLawInteger ?kLawInteger ?aLawTake ?lLawTake ?cLawTake ?kLawTake ?aLawReadLine ?lLawReadLine ?cLawReadLine ?kLawReadLine ?aLawPaperWords ?lLawPaperWords ?cLawPaperWords ?kLawPaperWords ?aLawTermDue ?lLawTermDue ?cLawTermDue ?kLawTermDue ?aDraw ?lDraw ?cDraw ?kDraw ?aMixed ?lMixed ?cMixed ?kMixed ?aLawOf ?lLawOf ?cLawOf ?kLawOf ?aLawBentText ?lLawBentText ?cLawBentText ?kLawBentText ?aLawKids ?lLawKids ?cLawKids ?kLawKids ?aLawLineOf ?lLawLineOf ?cLawLineOf ?kLawLineOf ?aLawPaper ?lLawPaper ?cLawPaper ?kLawPaper ?aNeedNoMore ?lNeedNoMore ?cNeedNoMore ?kNeedNoMore ?aIsFigures ?lIsFigures ?cIsFigures ?kIsFigures ?aIsInteger ?lIsInteger ?cIsInteger ?kIsInteger ?aTreeIn ?lTreeIn ?cTreeIn ?kTreeIn ?aTreeOf ?lTreeOf ?cTreeOf ?kTreeOf ?aLinesOf ?lLinesOf ?cLinesOf ?kLinesOf ?aReadTree ?lReadTree ?cReadTree ?kReadTree ?aReadTerm ?lReadTerm ?cReadTerm ?kReadTerm ?aLawRight ?lLawRight ?cLawRight ?kLawRight ?aLawHeard ?lLawHeard ?cLawHeard ?kLawHeard ?aBegin ?lBegin ?cBegin ?kBegin ?aLaw ?lLaw ?cLaw ?kLaw ?tTreeIn ?uTreeIn ?hTreeIn ?nTreeIn ?mTreeIn ?tLawRight ?uLawRight ?hLawRight ?nLawRight ?mLawRight ?tLaw ?uLaw ?hLaw ?nLaw ?mLaw ?pne0_1 ?pne0_2 ?pne1_2 ?z_isinstance ?z_int ?z_tuple ?z_len ?z_abs ?z_range ?z_list ?z_sorted ?z_zip ?z_all ?z_dict ?z_enumerate ?z_str ?z_repr ?z_min ?aK_MOST_WORDS ?aK_MOST_WITHIN ?aK_MOST_FIGURES ?aZ_KID ?aZ_DIGITS ?gaB ?laB ?eaB ?waB ?lbN ?lbD ?lbX ?lbA ?lbM ?gaT ?laT ?eaT ?waT ?aL ?pL ?hL ?oL ?sL ?nL_number ?nL_words ?nL_at ?nL_named ?mL ?kL ?bLI ?iLI ?lLI ?cLI ?kLI ?bLR ?iLR ?lLR ?cLR ?kLR ?bLM ?iLM ?lLM ?cLM ?kLM ?bLT ?iLT ?lLT ?cLT ?kLT ?bLG ?iLG ?lLG ?cLG ?kLG ?bLE ?iLE ?lLE ?cLE ?kLE ?aXe0 ?iXe0 ?oXe0 ?sXe0 ?tXe0 ?xXe0 ?nXe0 ?jXe0 ?vXe0 ?qXe0 ?yXe0 ?lXe0 ?cXe0 ?kXe0 ?twXe0 ?nwXe0 ?aXe1 ?iXe1 ?oXe1 ?sXe1 ?tXe1 ?xXe1 ?nXe1 ?jXe1 ?vXe1 ?qXe1 ?yXe1 ?lXe1 ?cXe1 ?kXe1 ?e0_0 ?e0_1 ?e1_0 ?e1_1
    (case aKidPlaces => k_is)
    (case lKidPlaces => k_is)
    (case cKidPlaces => k_is)
    (case kKidPlaces => k_is)
    (case aWholePlaces => k_is)
    (case lWholePlaces => k_is)
    (case cWholePlaces => k_is)
    (case kWholePlaces => k_is)
    (case aTreeText => k_is)
    (case lTreeText => k_is)
    (case cTreeText => k_is)
    (case kTreeText => k_is)
    (case aIsInOrder => k_is)
    (case lIsInOrder => k_is)
    (case cIsInOrder => k_is)
    (case kIsInOrder => k_is)
    (case aIsWholeWithin => k_is)
    (case lIsWholeWithin => k_is)
    (case cIsWholeWithin => k_is)
    (case kIsWholeWithin => k_is)
    (case aIsWhole => k_is)
    (case lIsWhole => k_is)
    (case cIsWhole => k_is)
    (case kIsWhole => k_is)
    (case aMayStand => k_is)
    (case lMayStand => k_is)
    (case cMayStand => k_is)
    (case kMayStand => k_is)
    (case aIsWord => k_is)
    (case lIsWord => k_is)
    (case cIsWord => k_is)
    (case kIsWord => k_is)
    (case aIsRow => k_is)
    (case lIsRow => k_is)
    (case cIsRow => k_is)
    (case kIsRow => k_is)
    (case aIsFormed => k_is)
    (case lIsFormed => k_is)
    (case cIsFormed => k_is)
    (case kIsFormed => k_is)
    (case aFaultIn => k_is)
    (case lFaultIn => k_is)
    (case cFaultIn => k_is)
    (case kFaultIn => k_is)
    (case aNeedTerm => k_is)
    (case lNeedTerm => k_is)
    (case cNeedTerm => k_is)
    (case kNeedTerm => k_is)
    (case aTermText => k_is)
    (case lTermText => k_is)
    (case cTermText => k_is)
    (case kTermText => k_is)
    (case aLawPlaces => k_is)
    (case lLawPlaces => k_is)
    (case cLawPlaces => k_is)
    (case kLawPlaces => k_is)
    (case aLawBoundsOf => k_is)
    (case lLawBoundsOf => k_is)
    (case cLawBoundsOf => k_is)
    (case kLawBoundsOf => k_is)
    (case aLawIntegers => k_is)
    (case lLawIntegers => k_is)
    (case cLawIntegers => k_is)
    (case kLawIntegers => k_is)
    (case aLawAreGood => k_is)
    (case lLawAreGood => k_is)
    (case cLawAreGood => k_is)
    (case kLawAreGood => k_is)
    (case aLawFault => k_is)
    (case lLawFault => k_is)
    (case cLawFault => k_is)
    (case kLawFault => k_is)
    (case aLawJoined => k_is)
    (case lLawJoined => k_is)
    (case cLawJoined => k_is)
    (case kLawJoined => k_is)
    (case aLawInteger => k_is)
    (case lLawInteger => k_is)
    (case cLawInteger => k_is)
    (case kLawInteger => k_is)
    (case aLawTake => k_is)
    (case lLawTake => k_is)
    (case cLawTake => k_is)
    (case kLawTake => k_is)
    (case aLawReadLine => k_is)
    (case lLawReadLine => k_is)
    (case cLawReadLine => k_is)
    (case kLawReadLine => k_is)
    (case aLawPaperWords => k_is)
    (case lLawPaperWords => k_is)
    (case cLawPaperWords => k_is)
    (case kLawPaperWords => k_is)
    (case aLawTermDue => k_is)
    (case lLawTermDue => k_is)
    (case cLawTermDue => k_is)
    (case kLawTermDue => k_is)
    (case aDraw => k_is)
    (case lDraw => k_is)
    (case cDraw => k_is)
    (case kDraw => k_is)
    (case aMixed => k_is)
    (case lMixed => k_is)
    (case cMixed => k_is)
    (case kMixed => k_is)
    (case aLawOf => k_is)
    (case lLawOf => k_is)
    (case cLawOf => k_is)
    (case kLawOf => k_is)
    (case aLawBentText => k_is)
    (case lLawBentText => k_is)
    (case cLawBentText => k_is)
    (case kLawBentText => k_is)
    (case aLawKids => k_is)
    (case lLawKids => k_is)
    (case cLawKids => k_is)
    (case kLawKids => k_is)
    (case aLawLineOf => k_is)
    (case lLawLineOf => k_is)
    (case cLawLineOf => k_is)
    (case kLawLineOf => k_is)
    (case aLawPaper => k_is)
    (case lLawPaper => k_is)
    (case cLawPaper => k_is)
    (case kLawPaper => k_is)
    (case aNeedNoMore => k_is)
    (case lNeedNoMore => k_is)
    (case cNeedNoMore => k_is)
    (case kNeedNoMore => k_is)
    (case aIsFigures => k_is)
    (case lIsFigures => k_is)
    (case cIsFigures => k_is)
    (case kIsFigures => k_is)
    (case aIsInteger => k_is)
    (case lIsInteger => k_is)
    (case cIsInteger => k_is)
    (case kIsInteger => k_is)
    (case aTreeIn => k_is)
    (case lTreeIn => k_is)
    (case cTreeIn => k_is)
    (case kTreeIn => k_is)
    (case aTreeOf => k_is)
    (case lTreeOf => k_is)
    (case cTreeOf => k_is)
    (case kTreeOf => k_is)
    (case aLinesOf => k_is)
    (case lLinesOf => k_is)
    (case cLinesOf => k_is)
    (case kLinesOf => k_is)
    (case aReadTree => k_is)
    (case lReadTree => k_is)
    (case cReadTree => k_is)
    (case kReadTree => k_is)
    (case aReadTerm => k_is)
    (case lReadTerm => k_is)
    (case cReadTerm => k_is)
    (case kReadTerm => k_is)
    (case aLawRight => k_is)
    (case lLawRight => k_is)
    (case cLawRight => k_is)
    (case kLawRight => k_is)
    (case aLawHeard => k_is)
    (case lLawHeard => k_is)
    (case cLawHeard => k_is)
    (case kLawHeard => k_is)
    (case aBegin => k_is)
    (case lBegin => k_is)
    (case cBegin => k_is)
    (case kBegin => k_is)
    (case aLaw => k_is)
    (case lLaw => k_is)
    (case cLaw => k_is)
    (case kLaw => k_is)
    (case tTreeIn => k_is)
    (case uTreeIn => exact rfl)
    (case hTreeIn => kernel_rfl)
    (case nTreeIn => kernel_rfl)
    (case mTreeIn => exact PySem.W.km_tabs_of Y _ (by decide))
    (case tLawRight => k_is)
    (case uLawRight => exact rfl)
    (case hLawRight => kernel_rfl)
    (case nLawRight => kernel_rfl)
    (case mLawRight => exact PySem.W.km_tabs_of Y _ (by decide))
    (case tLaw => k_is)
    (case uLaw => exact rfl)
    (case hLaw => kernel_rfl)
    (case nLaw => kernel_rfl)
    (case mLaw => exact PySem.W.km_tabs_of Y _ (by decide))
    (case pne0_1 => decide)
    (case pne0_2 => decide)
    (case pne1_2 => decide)
    (case z_isinstance => k_is)
    (case z_int => k_is)
    (case z_tuple => k_is)
    (case z_len => k_is)
    (case z_abs => k_is)
    (case z_range => k_is)
    (case z_list => k_is)
    (case z_sorted => k_is)
    (case z_zip => k_is)
    (case z_all => k_is)
    (case z_dict => k_is)
    (case z_enumerate => k_is)
    (case z_str => k_is)
    (case z_repr => k_is)
    (case z_min => k_is)
    (case aK_MOST_WORDS => k_is)
    (case aK_MOST_WITHIN => k_is)
    (case aK_MOST_FIGURES => k_is)
    (case aZ_KID => k_is)
    (case aZ_DIGITS => k_is)
    (case gaB => k_is)
    (case laB => k_is)
    (case eaB => exact ⟨⟨_, rfl⟩, rfl, rfl, rfl, rfl, ⟨_, rfl⟩, rfl, rfl, rfl, rfl, ⟨_, rfl⟩, rfl, rfl, rfl, rfl, ⟨_, rfl⟩, rfl, rfl, rfl, rfl, ⟨_, rfl⟩, rfl, rfl, rfl, rfl, trivial⟩)
    (case waB => decide +kernel)
    (case lbN => k_is)
    (case lbD => k_is)
    (case lbX => k_is)
    (case lbA => k_is)
    (case lbM => k_is)
    (case gaT => k_is)
    (case laT => k_is)
    (case eaT => exact ⟨⟨_, rfl⟩, rfl, rfl, rfl, ⟨_, rfl⟩, ⟨_, rfl⟩, rfl, rfl, rfl, ⟨_, rfl⟩, ⟨_, rfl⟩, rfl, rfl, rfl, ⟨_, rfl⟩, ⟨_, rfl⟩, rfl, rfl, rfl, ⟨_, rfl⟩, ⟨_, rfl⟩, rfl, rfl, rfl, ⟨_, rfl⟩, ⟨_, rfl⟩, rfl, rfl, rfl, ⟨_, rfl⟩, ⟨_, rfl⟩, rfl, rfl, rfl, ⟨_, rfl⟩, ⟨_, rfl⟩, rfl, rfl, rfl, ⟨_, rfl⟩, ⟨_, rfl⟩, rfl, rfl, rfl, ⟨_, rfl⟩, ⟨_, rfl⟩, rfl, rfl, rfl, ⟨_, rfl⟩, ⟨_, rfl⟩, rfl, rfl, rfl, ⟨_, rfl⟩, ⟨_, rfl⟩, rfl, rfl, rfl, ⟨_, rfl⟩, trivial⟩)
    (case waT => decide +kernel)
    (case aL => k_is)
    (case pL => kernel_rfl)
    (case hL => kernel_rfl)
    (case oL => kernel_rfl)
    (case sL => k_is)
    (case nL_number => k_is)
    (case nL_words => k_is)
    (case nL_at => k_is)
    (case nL_named => k_is)
    (case mL => kernel_rfl)
    (case kL => k_is)
    (case bLI => k_is)
    (case iLI => kernel_rfl)
    (case lLI => k_is)
    (case cLI => k_is)
    (case kLI => k_is)
    (case bLR => k_is)
    (case iLR => kernel_rfl)
    (case lLR => k_is)
    (case cLR => k_is)
    (case kLR => k_is)
    (case bLM => k_is)
    (case iLM => kernel_rfl)
    (case lLM => k_is)
    (case cLM => k_is)
    (case kLM => k_is)
    (case bLT => k_is)
    (case iLT => kernel_rfl)
    (case lLT => k_is)
    (case cLT => k_is)
    (case kLT => k_is)
    (case bLG => k_is)
    (case iLG => kernel_rfl)
    (case lLG => k_is)
    (case cLG => k_is)
    (case kLG => k_is)
    (case bLE => k_is)
    (case iLE => kernel_rfl)
    (case lLE => k_is)
    (case cLE => k_is)
    (case kLE => k_is)
    (case aXe0 => k_is)
    (case iXe0 => kernel_rfl)
    (case oXe0 => kernel_rfl)
    (case sXe0 => k_is)
    (case tXe0 => k_is)
    (case xXe0 => kernel_rfl)
    (case nXe0 => k_is)
    (case jXe0 => k_is)
    (case vXe0 => k_is)
    (case qXe0 => k_is)
    (case yXe0 => k_is)
    (case lXe0 => k_is)
    (case cXe0 => k_is)
    (case kXe0 => k_is)
    (case twXe0 => k_is)
    (case nwXe0 => k_is)
    (case aXe1 => k_is)
    (case iXe1 => kernel_rfl)
    (case oXe1 => kernel_rfl)
    (case sXe1 => k_is)
    (case tXe1 => k_is)
    (case xXe1 => kernel_rfl)
    (case nXe1 => k_is)
    (case jXe1 => k_is)
    (case vXe1 => k_is)
    (case qXe1 => k_is)
    (case yXe1 => k_is)
    (case lXe1 => k_is)
    (case cXe1 => k_is)
    (case kXe1 => k_is)
    (case e0_0 => kernel_rfl)
    (case e0_1 => kernel_rfl)
    (case e1_0 => kernel_rfl)
    (case e1_1 => kernel_rfl)
