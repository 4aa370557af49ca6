import PyProof.Rows.All
import Wide.All
import OpenK.AllK
import Wide.FinOn
import HandS.ForMost
import HandS.Gcd
import HandS.Wide
import HandS.IsInst
import KE.KTypeName
import PyProof.IsiStr
import HandS.Flow
import HandS.Style
import HandS.Evl
import HandS.Conv
import HandS.Zip
import HandS.TupAny
import HandS.Star
import HandS.Walk
import HandS.More
import HandS.Ends
import HandS.Words
import HandS.WordsExc
import PyProof.ReprRoads
import PyProof.ReprLen
import HandS.Deep
import HandS.TryOnly
import HandS.Lambda
import HandS.Nested
import HandS.CallSlots
import KE.KDflt
import HandS.ExcInit
import HandS.ExcField
import HandS.ExcOwn
import KE.KExcInit
import HandS.TryMany
import HandS.Dict
import KE.KDictPairs
import HandS.Exc
import HandS.Comp
import HandS.Iter
import PyProof.Draws
import PyProof.Rows.CallKwBuiltin
import KE.GoesMore
import KE.GoesEnum
import KE.GoesEnumKw
import KE.GoesZip
import PyProof.ZipIter
import KE.KDictOf
import HandS.WordsDict
import HandS.TupMul
import HandS.List
import HandS.EndTab
import KE.KNestM
import PySem.Challenge.RW_curtainsteps_k27_whole_mixes
set_option Elab.async false
set_option maxRecDepth 100000
set_option maxHeartbeats 4000000
/-! x.__class__.__name__ of whole numbers, truth values and tuples; // by any divisor that is not too great. -/
namespace CS
open PySem
section
variable {P : Program} {w : World} {A : Around} {E : Value → Shared → Prop} {hp : Heap} {gs : Array GenState} {dr : Drawn} {tk : Nat} {os : OsState}
theorem cls_of_int {i : Int} {u : Tok} {Q : Value → Shared → Prop} (q : Q (.type "int") ⟨hp, gs, dr, tk + 1, os⟩) : wpAny (model P w) A (getAttr (.int i u) "__class__" true) Q E ⟨hp, gs, dr, tk, os⟩ := by
  have ty : Shared.TypeIs ⟨hp, gs, dr, tk, os⟩ (.int i u) "int" := rfl
  have lo := F.slot_int_getattribute.lookup
  have bi := F.slot_int_getattribute.bind (.int i u)
  unfold getAttr
  all_goals (repeat' first | assumption | wp_step)
  refine class_call_int ?_
  all_goals (repeat' first | assumption | wp_step)
theorem cls_of_bool {b : Bool} {Q : Value → Shared → Prop} (q : Q (.type "bool") ⟨hp, gs, dr, tk + 1, os⟩) : wpAny (model P w) A (getAttr (.bool b) "__class__" true) Q E ⟨hp, gs, dr, tk, os⟩ := by
  have ty : Shared.TypeIs ⟨hp, gs, dr, tk, os⟩ (.bool b) "bool" := rfl
  have lo := F.slot_bool_getattribute.lookup
  have bi := F.slot_bool_getattribute.bind (.bool b)
  unfold getAttr
  all_goals (repeat' first | assumption | wp_step)
  refine class_call_bool ?_
  all_goals (repeat' first | assumption | wp_step)
theorem cls_of_tuple {a : Addr} {od : Option Addr} {dt : Data} {sl : Array (Option Value)} {Q : Value → Shared → Prop} (ha : hp.get? a = some ⟨.type "tuple", od, dt, sl⟩) (q : Q (.type "tuple") ⟨hp, gs, dr, tk + 1, os⟩) :
    wpAny (model P w) A (getAttr (.ref a) "__class__" true) Q E ⟨hp, gs, dr, tk, os⟩ := by
  have ty : Shared.TypeIs ⟨hp, gs, dr, tk, os⟩ (.ref a) "tuple" := ⟨_, ha, rfl⟩
  have lo := F.slot_tuple_getattribute.lookup
  have bi := F.slot_tuple_getattribute.bind (.ref a)
  unfold getAttr
  all_goals (repeat' first | assumption | wp_step)
  refine class_call_tuple ha rfl ?_
  all_goals (repeat' first | assumption | wp_step)
theorem cls_of_str {x : Str} {u : Tok} {Q : Value → Shared → Prop} (q : Q (.type "str") ⟨hp, gs, dr, tk + 1, os⟩) : wpAny (model P w) A (getAttr (.str x u) "__class__" true) Q E ⟨hp, gs, dr, tk, os⟩ := by
  have ty : Shared.TypeIs ⟨hp, gs, dr, tk, os⟩ (.str x u) "str" := rfl
  have lo := F.slot_str_getattribute.lookup
  have bi := F.slot_str_getattribute.bind (.str x u)
  unfold getAttr
  all_goals (repeat' first | assumption | wp_step)
  refine class_call_str ?_
  all_goals (repeat' first | assumption | wp_step)
end
end CS
set_option Elab.async false
set_option maxRecDepth 100000
set_option maxHeartbeats 4000000
namespace CS
open PySem L2
/-- the name of a plain value's class -/
inductive CN (K : PySem.W.Frag) (H : Hp) : V → Str → Prop where
  | int (i : Int) : CN K H (.int i) "int"
  | bl (b : Bool) : CN K H (.bl b) "bool"
  | str (x : Str) : CN K H (.str x) "str"
  | tup {a : Addr} {xs : List V} (h : SqT K H a xs) : CN K H (.ref a) "tuple"
def tCN (K : PySem.W.Frag) (te : TE) : TE := fun σ H Q => te σ H fun x H1 => ∃ nm, CN K H1 x nm ∧ Q (.str nm) H1
section
variable {X : Cx} {pins : List (Addr × Obj)} {σ : St} {H : Hp} {s : Shared}
/-- a built-in class's __name__ -/
theorem name_ok {T q : String} {Q : VK} (I : Inv X pins σ H s) (ht : PySem.W.kitMeta T = true) (hs : Manifest.isStub T = false)
    (e : PySem.W.findCls X.K (.type T) (.type "type") "__name__" = some (.get (.builtin "getset_descriptor.__get__") (.builtin "type.__name__") (.type T) (.type "type"))) (hq : PySem.W.ktynFast T = q) (hz : (Str.ofString q).length ≤ sizeLine)
    (h : Q (.str (Str.ofString q)) H) : wpAny (model X.prog X.w) X.A (getAttr (.type T) "__name__" true) (EP X pins σ Q) X.xe s := by
  obtain ⟨m, Fm⟩ := I.fr
  exact PySem.W.ktyn_attr Fm I.ok.mod.kin ht hs e hq hz fun tk u => ⟨.str _, H, I.tok u, ⟨tk, rfl⟩, h⟩
theorem cn_ok {x : V} {u : Value} {nm : Str} {Q : VK} (I : Inv X pins σ H s) (r : RelV x u) (c : CN X.K H x nm) (h : Q (.str nm) H) :
    wpAny (model X.prog X.w) X.A (getAttr u "__class__" true) (fun v s1 => wpAny (model X.prog X.w) X.A (getAttr v "__name__" true) (EP X pins σ Q) X.xe s1) X.xe s := by
  cases c with
  | int i =>
    obtain ⟨t, rfl⟩ := r
    obtain ⟨hh, g, d, tt, os⟩ := s
    exact cls_of_int (name_ok (I.tok (tt + 1)) (by decide +kernel) (by decide +kernel) (by first | kernel_rfl | rfl) (by decide +kernel) (by decide +kernel) h)
  | bl b =>
    cases (show u = Value.bool b from r)
    obtain ⟨hh, g, d, tt, os⟩ := s
    exact cls_of_bool (name_ok (I.tok (tt + 1)) (by decide +kernel) (by decide +kernel) (by first | kernel_rfl | rfl) (by decide +kernel) (by decide +kernel) h)
  | str x =>
    obtain ⟨t, rfl⟩ := r
    obtain ⟨hh, g, d, tt, os⟩ := s
    exact cls_of_str (name_ok (I.tok (tt + 1)) (by decide +kernel) (by decide +kernel) (by first | kernel_rfl | rfl) (by decide +kernel) (by decide +kernel) h)
  | @tup a xs hT =>
    cases (show u = Value.ref a from r)
    obtain ⟨its, _, ⟨o, h1, h2, _⟩, _⟩ := I.tuple hT
    obtain ⟨oc, od, dt, sl⟩ := o
    simp only at h2
    subst h2
    obtain ⟨hh, g, d, tt, os⟩ := s
    exact cls_of_tuple h1 (name_ok (I.tok (tt + 1)) (by decide +kernel) (by decide +kernel) (by first | kernel_rfl | rfl) (by decide +kernel) (by decide +kernel) h)
/-- e.__class__.__name__ -/
theorem pe_cn {e : Expr} {te : TE} {p1 p2 : PySem.Pos} (he : PE X e te) (hb1 : attributeBase e "__class__" X.env (eval e X.env) = eval e X.env := by rfl)
    (hb2 : attributeBase (.Attribute e "__class__" p1) "__name__" X.env (eval (.Attribute e "__class__" p1) X.env) = eval (.Attribute e "__class__" p1) X.env := by rfl) :
    PE X (.Attribute (.Attribute e "__class__" p1) "__name__" p2) (tCN X.K te) :=
  ⟨fun pins s σ H Q I h => attr_of hb2 (attr_of hb1 (thn (he.run pins s σ H _ I h) fun u s1 ⟨x, H1, I1, rx, nm, c, q⟩ => cn_ok I1 rx c q))⟩
/-- // by any divisor below 2 ^ 9000 in size -/
def CDivX (_ j : Int) : Prop := j ≠ 0 ∧ j.natAbs.log2 < 9000
theorem op_fdivX : OpR X (binaryOp .FloorDiv) (rI CDivX fun i j => .int (i.fdiv j)) := opI fun _ _ _ _ _ _ _ hc q =>
  PyProof.Rows.floordiv_int hc.1 q (.inl (PyProof.noPylong_of_log2 hc.2))
end
end CS
set_option maxHeartbeats 1000000
namespace CS
/-- in least terms, the lower one positive -/
def Fr (x : Int × Int) : Prop := 1 ≤ x.2 ∧ Int.gcd x.1 x.2 = 1
instance (x : Int × Int) : Decidable (Fr x) := by unfold Fr; infer_instance
def Sz (n : Nat) (x : Int × Int) : Prop := x.1.natAbs < 2 ^ n ∧ x.2.natAbs < 2 ^ n
def cm (t b : Int) : Int := if b < 0 then -(Int.gcd t b : Int) else (Int.gcd t b : Int)
def low (t b : Int) : Int × Int := (t.fdiv (cm t b), b.fdiv (cm t b))
theorem gcd_pos {t b : Int} (hb : b ≠ 0) : 0 < Int.gcd t b := Int.gcd_pos_of_ne_zero_right t hb
theorem cm_ne {t b : Int} (hb : b ≠ 0) : cm t b ≠ 0 := by
  have := gcd_pos (t := t) hb
  unfold cm
  split <;> omega
theorem cm_dvd (t b : Int) : cm t b ∣ t ∧ cm t b ∣ b := by
  unfold cm
  split
  · exact ⟨Int.neg_dvd.mpr (Int.gcd_dvd_left t b), Int.neg_dvd.mpr (Int.gcd_dvd_right t b)⟩
  · exact ⟨Int.gcd_dvd_left t b, Int.gcd_dvd_right t b⟩
theorem cm_abs (t b : Int) : (cm t b).natAbs = Int.gcd t b := by
  unfold cm
  split <;> omega
theorem low_parts {t b : Int} (hb : b ≠ 0) : t = cm t b * (low t b).1 ∧ b = cm t b * (low t b).2 := by
  obtain ⟨⟨t', ht⟩, ⟨b', hb'⟩⟩ := cm_dvd t b
  have hg := cm_ne (t := t) hb
  have e1 : t.fdiv (cm t b) = t' := by
    conv => lhs; lhs; rw [ht]
    exact Int.mul_fdiv_cancel_left t' hg
  have e2 : b.fdiv (cm t b) = b' := by
    conv => lhs; lhs; rw [hb']
    exact Int.mul_fdiv_cancel_left b' hg
  unfold low
  simp only [e1, e2]
  exact ⟨ht, hb'⟩
theorem low_fr {t b : Int} (hb : b ≠ 0) : Fr (low t b) := by
  obtain ⟨h1, h2⟩ := low_parts (t := t) hb
  have hp := gcd_pos (t := t) hb
  have hs : (b < 0 → cm t b < 0) ∧ (0 < b → 0 < cm t b) := by
    unfold cm
    split <;> constructor <;> intro h <;> omega
  have e : Int.gcd t b = (cm t b).natAbs * Int.gcd (low t b).1 (low t b).2 := by
    have z : ∀ g a c : Int, t = g * a → b = g * c → Int.gcd t b = g.natAbs * Int.gcd a c := by
      intro g a c e1 e2
      rw [e1, e2, Int.gcd_mul_left]
    exact z _ _ _ h1 h2
  rw [cm_abs] at e
  constructor
  · rcases Int.lt_or_gt_of_ne hb with h | h
    · have hc := hs.1 h
      rcases Int.lt_or_le 0 (low t b).2 with q | q
      · omega
      · have : 0 ≤ cm t b * (low t b).2 := Int.mul_nonneg_of_nonpos_of_nonpos (by omega) q
        omega
    · have hc := hs.2 h
      rcases Int.lt_or_le 0 (low t b).2 with q | q
      · omega
      · have : cm t b * (low t b).2 ≤ 0 := Int.mul_nonpos_of_nonneg_of_nonpos (by omega) q
        omega
  · have e' : Int.gcd t b * 1 = Int.gcd t b * Int.gcd (low t b).1 (low t b).2 := by omega
    exact (Nat.eq_of_mul_eq_mul_left hp e').symm
theorem low_cross {t b : Int} (hb : b ≠ 0) : (low t b).1 * b = t * (low t b).2 := by
  obtain ⟨h1, h2⟩ := low_parts (t := t) hb
  generalize low t b = y at *
  generalize cm t b = g at *
  subst h1
  subst h2
  grind
theorem low_le {t b : Int} (hb : b ≠ 0) : (low t b).1.natAbs ≤ t.natAbs ∧ (low t b).2.natAbs ≤ b.natAbs := by
  obtain ⟨h1, h2⟩ := low_parts (t := t) hb
  have hg : 0 < (cm t b).natAbs := by have := cm_ne (t := t) hb; omega
  constructor
  · conv => rhs; rw [h1, Int.natAbs_mul]
    exact Nat.le_mul_of_pos_left _ hg
  · conv => rhs; rw [h2, Int.natAbs_mul]
    exact Nat.le_mul_of_pos_left _ hg
theorem cop_dvd {k m n : Int} (h : k ∣ m * n) (c : Int.gcd k m = 1) : k ∣ n := by
  have h2 : k.natAbs ∣ m.natAbs * n.natAbs := by
    rw [← Int.natAbs_mul]
    exact Int.natAbs_dvd_natAbs.mpr h
  exact Int.natAbs_dvd_natAbs.mp (Nat.Coprime.dvd_of_dvd_mul_left (show Nat.Coprime k.natAbs m.natAbs from c) h2)
theorem Fr.uniq {x y : Int × Int} (hx : Fr x) (hy : Fr y) (h : x.1 * y.2 = y.1 * x.2) : x = y := by
  obtain ⟨a, b⟩ := x
  obtain ⟨c, d⟩ := y
  obtain ⟨hb, hab⟩ := hx
  obtain ⟨hd, hcd⟩ := hy
  simp only at *
  have d1 : b ∣ d := by
    have : b ∣ a * d := ⟨c, by grind⟩
    exact cop_dvd this (by rw [Int.gcd_comm]; exact hab)
  have d2 : d ∣ b := by
    have : d ∣ c * b := ⟨a, by grind⟩
    exact cop_dvd this (by rw [Int.gcd_comm]; exact hcd)
  have e : b = d := Int.dvd_antisymm (by omega) (by omega) d1 d2
  subst e
  have : a = c := Int.eq_of_mul_eq_mul_right (by omega) h
  rw [this]
theorem low_uniq {t b : Int} {x : Int × Int} (hb : b ≠ 0) (hx : Fr x) (h : x.1 * b = t * x.2) : low t b = x := by
  refine (low_fr hb).uniq hx ?_
  have c := low_cross (t := t) hb
  have : b * ((low t b).1 * x.2) = b * (x.1 * (low t b).2) := by
    generalize low t b = y at *
    grind
  exact Int.eq_of_mul_eq_mul_left hb this
def fadd (x y : Int × Int) : Int × Int := low (x.1 * y.2 + y.1 * x.2) (x.2 * y.2)
def fsub (x y : Int × Int) : Int × Int := low (x.1 * y.2 - y.1 * x.2) (x.2 * y.2)
def fmul (x y : Int × Int) : Int × Int := low (x.1 * y.1) (x.2 * y.2)
def fdiv (x y : Int × Int) : Int × Int := low (x.1 * y.2) (x.2 * y.1)
def flt (x y : Int × Int) : Bool := decide (x.1 * y.2 < y.1 * x.2)
theorem Fr.pos {x : Int × Int} (h : Fr x) : 0 < x.2 := by have := h.1; omega
theorem Fr.ne {x : Int × Int} (h : Fr x) : x.2 ≠ 0 := by have := h.1; omega
theorem dd {x y : Int × Int} (hx : Fr x) (hy : Fr y) : x.2 * y.2 ≠ 0 := Int.mul_ne_zero hx.ne hy.ne
theorem dd0 {x y : Int × Int} (hx : Fr x) (hy : Fr y) : 0 < x.2 * y.2 := Int.mul_pos hx.pos hy.pos
theorem fadd_fr {x y : Int × Int} (hx : Fr x) (hy : Fr y) : Fr (fadd x y) := low_fr (dd hx hy)
theorem fsub_fr {x y : Int × Int} (hx : Fr x) (hy : Fr y) : Fr (fsub x y) := low_fr (dd hx hy)
theorem fmul_fr {x y : Int × Int} (hx : Fr x) (hy : Fr y) : Fr (fmul x y) := low_fr (dd hx hy)
theorem fdiv_fr {x y : Int × Int} (hx : Fr x) (h : y.1 ≠ 0) : Fr (fdiv x y) := low_fr (Int.mul_ne_zero hx.ne h)
theorem fadd_comm (x y : Int × Int) : fadd x y = fadd y x := by
  unfold fadd
  rw [Int.add_comm, Int.mul_comm x.2 y.2]
theorem fsub_fadd {x y : Int × Int} (hx : Fr x) (hy : Fr y) : fsub (fadd x y) y = x := by
  have hp := fadd_fr hx hy
  have c : (fadd x y).1 * (x.2 * y.2) = (x.1 * y.2 + y.1 * x.2) * (fadd x y).2 := low_cross (dd hx hy)
  refine low_uniq (dd hp hy) hx ?_
  generalize fadd x y = p at *
  grind
theorem fmul_fdiv {x y : Int × Int} (hx : Fr x) (hy : Fr y) (h : y.1 ≠ 0) : fmul (fdiv x y) y = x := by
  have hp := fdiv_fr hx h
  have c : (fdiv x y).1 * (x.2 * y.1) = (x.1 * y.2) * (fdiv x y).2 := low_cross (Int.mul_ne_zero hx.ne h)
  refine low_uniq (dd hp hy) hx ?_
  generalize fdiv x y = p at *
  grind
theorem low_neg {t b : Int} (hb : b ≠ 0) : low (-t) (-b) = low t b := by
  refine low_uniq (by omega) (low_fr hb) ?_
  have c := low_cross (t := t) hb
  grind
theorem due_eq {x y : Int × Int} (h : y.1 ≠ 0) (hx : Fr x) : low (x.1 * y.2 * (if 0 < y.1 then 1 else -1)) (x.2 * (y.1.natAbs : Int)) = fdiv x y := by
  unfold fdiv
  split
  · next q =>
    rw [show ((y.1.natAbs : Nat) : Int) = y.1 by omega]
    congr 1
    omega
  · next q =>
    rw [show ((y.1.natAbs : Nat) : Int) = -y.1 by omega]
    have := low_neg (t := x.1 * y.2) (b := x.2 * y.1) (Int.mul_ne_zero hx.ne h)
    rw [← this]
    congr 1
    · omega
    · grind
theorem flt_sub {x y : Int × Int} (hx : Fr x) (hy : Fr y) : flt x y = flt (fsub x y) (0, 1) := by
  have hp := fsub_fr hx hy
  have c : (fsub x y).1 * (x.2 * y.2) = (x.1 * y.2 - y.1 * x.2) * (fsub x y).2 := low_cross (dd hx hy)
  have k := dd0 hx hy
  have m := hp.pos
  unfold flt
  simp only [Int.mul_one, Int.zero_mul]
  generalize fsub x y = p at *
  generalize hk : x.2 * y.2 = kk at *
  generalize hd : x.1 * y.2 - y.1 * x.2 = dl at *
  rw [decide_eq_decide]
  constructor
  · intro q
    have q2 : dl < 0 := by omega
    have : dl * p.2 < 0 := Int.mul_neg_of_neg_of_pos q2 m
    rcases Int.lt_or_le p.1 0 with z | z
    · exact z
    · have := Int.mul_nonneg z (Int.le_of_lt k)
      omega
  · intro q
    have : p.1 * kk < 0 := Int.mul_neg_of_neg_of_pos q k
    rcases Int.lt_or_le dl 0 with z | z
    · omega
    · have := Int.mul_nonneg z (Int.le_of_lt m)
      omega
theorem fadd_zero {x : Int × Int} (hx : Fr x) : fadd x (0, 1) = x := by
  unfold fadd
  refine low_uniq ?_ hx ?_
  · have := hx.ne
    simp only [Int.mul_one]
    exact this
  · grind
/-! sizes -/
theorem abs_mul_lt {a b : Int} {m n : Nat} (ha : a.natAbs < 2 ^ m) (hb : b.natAbs < 2 ^ n) : (a * b).natAbs < 2 ^ (m + n) := by
  rw [Int.natAbs_mul, Nat.pow_add]
  exact Nat.mul_lt_mul'' ha hb
theorem abs_add_lt {a b : Int} {m : Nat} (ha : a.natAbs < 2 ^ m) (hb : b.natAbs < 2 ^ m) : (a + b).natAbs < 2 ^ (m + 1) := by
  rw [Nat.pow_succ]
  omega
theorem abs_sub_lt {a b : Int} {m : Nat} (ha : a.natAbs < 2 ^ m) (hb : b.natAbs < 2 ^ m) : (a - b).natAbs < 2 ^ (m + 1) := by
  rw [Nat.pow_succ]
  omega
theorem lt_up {a : Nat} {m n : Nat} (ha : a < 2 ^ m) (h : m ≤ n) : a < 2 ^ n := Nat.lt_of_lt_of_le ha (Nat.pow_le_pow_right (by decide) h)
theorem Sz.up {x : Int × Int} {m n : Nat} (h : Sz m x) (q : m ≤ n) : Sz n x := ⟨lt_up h.1 q, lt_up h.2 q⟩
theorem low_sz {t b : Int} {n : Nat} (hb : b ≠ 0) (h1 : t.natAbs < 2 ^ n) (h2 : b.natAbs < 2 ^ n) : Sz n (low t b) :=
  ⟨Nat.lt_of_le_of_lt (low_le hb).1 h1, Nat.lt_of_le_of_lt (low_le hb).2 h2⟩
theorem fadd_sz {x y : Int × Int} {m n : Nat} (hx : Fr x) (hy : Fr y) (sx : Sz m x) (sy : Sz n y) : Sz (m + n + 1) (fadd x y) := by
  refine low_sz (dd hx hy) ?_ ?_
  · refine abs_add_lt (abs_mul_lt sx.1 sy.2) ?_
    rw [Int.mul_comm]
    exact abs_mul_lt sx.2 sy.1
  · exact lt_up (abs_mul_lt sx.2 sy.2) (by omega)
theorem fsub_sz {x y : Int × Int} {m n : Nat} (hx : Fr x) (hy : Fr y) (sx : Sz m x) (sy : Sz n y) : Sz (m + n + 1) (fsub x y) := by
  refine low_sz (dd hx hy) ?_ ?_
  · refine abs_sub_lt (abs_mul_lt sx.1 sy.2) ?_
    rw [Int.mul_comm]
    exact abs_mul_lt sx.2 sy.1
  · exact lt_up (abs_mul_lt sx.2 sy.2) (by omega)
theorem fmul_sz {x y : Int × Int} {m n : Nat} (hx : Fr x) (hy : Fr y) (sx : Sz m x) (sy : Sz n y) : Sz (m + n) (fmul x y) :=
  low_sz (dd hx hy) (abs_mul_lt sx.1 sy.1) (abs_mul_lt sx.2 sy.2)
theorem fdiv_sz {x y : Int × Int} {m n : Nat} (hx : Fr x) (h : y.1 ≠ 0) (sx : Sz m x) (sy : Sz n y) : Sz (m + n) (fdiv x y) :=
  low_sz (Int.mul_ne_zero hx.ne h) (abs_mul_lt sx.1 sy.2) (abs_mul_lt sx.2 sy.1)
/-! Euclid's loop -/
theorem euclid_step {a b : Int} (h : 0 ≤ a) (hb : 0 < b) : Int.gcd b (a % b) = Int.gcd a b := by
  obtain ⟨m, rfl⟩ := Int.eq_ofNat_of_zero_le h
  obtain ⟨n, rfl⟩ := Int.eq_ofNat_of_zero_le (Int.le_of_lt hb)
  show Nat.gcd n ((m : Int) % (n : Int)).natAbs = Nat.gcd m n
  rw [← Int.natCast_emod, Int.natAbs_natCast, Nat.gcd_comm m n, Nat.gcd_rec n m, Nat.gcd_comm]
end CS
set_option Elab.async false
set_option maxRecDepth 100000
set_option maxHeartbeats 4000000
set_option linter.unusedVariables false
namespace CS
open PySem L2
theorem PE.imp {X : Cx} {e : Expr} {t t1 : TE} (h : PE X e t) (k : ∀ σ H Q, t1 σ H Q → t σ H Q) : PE X e t1 := ⟨fun pins s σ H Q I q => h.run pins s σ H Q I (k σ H Q q)⟩
/-- a fraction's tuple stands at p -/
abbrev FT (K : PySem.W.Frag) (H : Hp) (p : Addr) (x : Int × Int) : Prop := SqT K H p [.int x.1, .int x.2]
/-- slot i holds a fraction's tuple: its item 0, its item 1 -/
def tFst (K : PySem.W.Frag) (i : Nat) : TE := fun σ H Q => ∃ p x, σ[i]? = some (some (.ref p)) ∧ FT K H p x ∧ Q (.int x.1) H
def tSnd (K : PySem.W.Frag) (i : Nat) : TE := fun σ H Q => ∃ p x, σ[i]? = some (some (.ref p)) ∧ FT K H p x ∧ Q (.int x.2) H
section
variable {X : Cx}
theorem pe_fst (i : Nat) {x : Str} {pos p2 pos' : PySem.Pos} {j : Nat} (hN : X.N[i]? = some x := by rfl) (hv : Vis X.env.scope x := by first | exact Or.inl rfl | exact Or.inr (Or.inl rfl) | exact Or.inr (Or.inr rfl)) (hd : (x == ("__debug__" : Str)) = false := by decide)
    (hcd : (x == ("__classdict__" : Str)) = false := by decide) : PE X (.Subscript (.Name x pos) (.Constant (.int 0) j p2) pos') (tFst X.K i) :=
  PE.imp (pe_ix ix_tup (pe_var hN hv hd hcd) pe_int (fun _ _ => rfl)) fun σ H Q ⟨p, x, e, h, q⟩ => ⟨_, e, p, _, 0, .int x.1, rfl, rfl, h, atI_nat (j := 0) rfl, q⟩
theorem pe_snd (i : Nat) {x : Str} {pos p2 pos' : PySem.Pos} {j : Nat} (hN : X.N[i]? = some x := by rfl) (hv : Vis X.env.scope x := by first | exact Or.inl rfl | exact Or.inr (Or.inl rfl) | exact Or.inr (Or.inr rfl)) (hd : (x == ("__debug__" : Str)) = false := by decide)
    (hcd : (x == ("__classdict__" : Str)) = false := by decide) : PE X (.Subscript (.Name x pos) (.Constant (.int 1) j p2) pos') (tSnd X.K i) :=
  PE.imp (pe_ix ix_tup (pe_var hN hv hd hcd) pe_int (fun _ _ => rfl)) fun σ H Q ⟨p, x, e, h, q⟩ => ⟨_, e, p, _, 1, .int x.2, rfl, rfl, h, atI_nat (j := 1) rfl, q⟩
end
theorem cmw {a b : Int} (ha : a.natAbs < 2 ^ 1900) (hb : b.natAbs < 2 ^ 1900) : CMulW a b := wide_mul ha hb (by decide) (by decide) (by decide)
end CS
set_option maxHeartbeats 1000000
set_option linter.unusedVariables false
namespace CS
abbrev Fx := Int × Int
def lk (f : List (Int × Fx)) (k : Int) : Fx := (f.lookup k).getD (0, 1)
def ups : List (Int × Fx) → Int → Fx → List (Int × Fx)
  | [], k, x => [(k, x)]
  | (j, y) :: f, k, x => if j = k then (j, x) :: f else (j, y) :: ups f k x
def gat (f : List (Int × Fx)) (xs : List (Int × Fx)) : List (Int × Fx) := xs.foldl (fun f kx => ups f kx.1 (fadd (lk f kx.1) kx.2)) f
theorem lk_cons (j : Int) (y : Fx) (f : List (Int × Fx)) (k : Int) : lk ((j, y) :: f) k = if k = j then y else lk f k := by
  unfold lk
  rw [List.lookup_cons]
  by_cases h : k = j
  · subst h
    simp
  · have : (k == j) = false := by simpa using h
    simp [this, h]
theorem lk_ups : ∀ (f : List (Int × Fx)) (k : Int) (x : Fx) (j : Int), lk (ups f k x) j = if j = k then x else lk f j
  | [], k, x, j => by
    show lk [(k, x)] j = _
    rw [lk_cons]
  | (i, y) :: f, k, x, j => by
    show lk (if i = k then (i, x) :: f else (i, y) :: ups f k x) j = _
    by_cases h : i = k
    · subst h
      rw [if_pos rfl, lk_cons, lk_cons]
      by_cases q : j = i <;> simp [q]
    · rw [if_neg h, lk_cons, lk_cons, lk_ups f k x j]
      by_cases q : j = i
      · subst q
        simp [h]
      · simp [q]
theorem ups_keys (f : List (Int × Fx)) (k : Int) (x : Fx) : ∀ j, j ∈ (ups f k x).map (·.1) ↔ j = k ∨ j ∈ f.map (·.1) := by
  induction f with
  | nil =>
    intro j
    simp [ups]
  | cons a f ih =>
    obtain ⟨i, y⟩ := a
    intro j
    by_cases h : i = k
    · subst h
      simp [ups]
    · have := ih j
      simp [ups, h] at *
      grind
theorem ups_nodup (f : List (Int × Fx)) (k : Int) (x : Fx) (h : (f.map (·.1)).Nodup) : ((ups f k x).map (·.1)).Nodup := by
  induction f with
  | nil => simp [ups]
  | cons a f ih =>
    obtain ⟨i, y⟩ := a
    by_cases q : i = k
    · subst q
      simpa [ups] using h
    · rw [List.map_cons, List.nodup_cons] at h
      have e : ups ((i, y) :: f) k x = (i, y) :: ups f k x := by simp [ups, q]
      rw [e, List.map_cons, List.nodup_cons]
      refine ⟨fun m => ?_, ih h.2⟩
      rcases (ups_keys f k x i).mp m with z | z
      · exact q z
      · exact h.1 z
theorem ups_len (f : List (Int × Fx)) (k : Int) (x : Fx) : (ups f k x).length ≤ f.length + 1 := by
  induction f with
  | nil => simp [ups]
  | cons a f ih =>
    obtain ⟨i, y⟩ := a
    by_cases q : i = k
    · simp [ups, q]
    · simp [ups, q]; omega
/-- the strictly ascending list of what is not nought in a table -/
def IsS (f r : List (Int × Fx)) : Prop := (r.map (·.1)).Pairwise (· < ·) ∧ ∀ k x, (k, x) ∈ r ↔ (lk f k = x ∧ x ≠ (0, 1))
theorem asc_same : ∀ {r q : List (Int × Fx)}, (r.map (·.1)).Pairwise (· < ·) → (q.map (·.1)).Pairwise (· < ·) → (∀ a, a ∈ r ↔ a ∈ q) → r = q
  | [], [], _, _, _ => rfl
  | [], b :: q, _, _, h => absurd ((h b).mpr List.mem_cons_self) (by simp)
  | a :: r, [], _, _, h => absurd ((h a).mp List.mem_cons_self) (by simp)
  | a :: r, b :: q, h1, h2, h => by
    rw [List.map_cons, List.pairwise_cons] at h1 h2
    have low1 : ∀ c ∈ r, a.1 < c.1 := fun c hc => h1.1 _ (List.mem_map.mpr ⟨c, hc, rfl⟩)
    have low2 : ∀ c ∈ q, b.1 < c.1 := fun c hc => h2.1 _ (List.mem_map.mpr ⟨c, hc, rfl⟩)
    have e : a = b := by
      rcases List.mem_cons.mp ((h a).mp List.mem_cons_self) with z | z
      · exact z
      · rcases List.mem_cons.mp ((h b).mpr List.mem_cons_self) with y | y
        · exact y.symm
        · have := low1 b y
          have := low2 a z
          omega
    subst e
    have : r = q := asc_same h1.2 h2.2 fun c => by
      constructor
      · intro hc
        rcases List.mem_cons.mp ((h c).mp (List.mem_cons_of_mem _ hc)) with z | z
        · subst z
          have := low1 c hc
          omega
        · exact z
      · intro hc
        rcases List.mem_cons.mp ((h c).mpr (List.mem_cons_of_mem _ hc)) with z | z
        · subst z
          have := low2 c hc
          omega
        · exact z
    rw [this]
theorem IsS.uniq {f g r q : List (Int × Fx)} (h1 : IsS f r) (h2 : IsS g q) (h : ∀ k, lk f k = lk g k) : r = q := by
  refine asc_same h1.1 h2.1 fun ⟨k, x⟩ => ?_
  rw [h1.2 k x, h2.2 k x, h k]
theorem lk_mem {f : List (Int × Fx)} {k : Int} (h : lk f k ≠ (0, 1)) : k ∈ f.map (·.1) := by
  induction f with
  | nil => exact absurd rfl h
  | cons a f ih =>
    obtain ⟨j, y⟩ := a
    rw [lk_cons] at h
    by_cases q : k = j
    · simp [q]
    · rw [if_neg q] at h
      have := ih h
      simp at *
      grind
theorem isS_of {f : List (Int × Fx)} {ys : List Int} (hp : ys.Perm (f.map (·.1))) (hn : (f.map (·.1)).Nodup) (hs : ys.Pairwise (· ≤ ·)) : IsS f ((ys.filter fun k => decide (lk f k ≠ (0, 1))).map fun k => (k, lk f k)) := by
  have hn2 : ys.Nodup := hp.nodup_iff.mpr hn
  have hlt : ys.Pairwise (· < ·) := by
    have := List.Pairwise.and hs hn2
    refine this.imp ?_
    rintro a b ⟨h1, h2⟩
    omega
  constructor
  · rw [List.map_map]
    have : ((fun x : Int × Fx => x.1) ∘ fun k => (k, lk f k)) = id := rfl
    rw [this, List.map_id]
    exact hlt.filter _
  · intro k x
    rw [List.mem_map]
    constructor
    · rintro ⟨j, hj, e⟩
      injection e with e1 e2
      subst e1
      rw [List.mem_filter] at hj
      exact ⟨e2, by rw [← e2]; exact of_decide_eq_true hj.2⟩
    · rintro ⟨e, hx⟩
      subst e
      exact ⟨k, List.mem_filter.mpr ⟨hp.mem_iff.mpr (lk_mem hx), decide_eq_true hx⟩, rfl⟩
/-- a share's parts -/
def AllF (n : Nat) (xs : List (Int × Fx)) : Prop := ∀ a ∈ xs, Fr a.2 ∧ Sz n a.2
theorem fr01 : Fr ((0, 1) : Fx) := by decide
theorem sz01 {n : Nat} (h : 0 < n) : Sz n ((0, 1) : Fx) := ⟨Nat.two_pow_pos _, Nat.one_lt_two_pow (by omega)⟩
theorem zero_fadd {x : Fx} (hx : Fr x) : fadd (0, 1) x = x := by rw [fadd_comm, fadd_zero hx]
theorem lk_fr {n : Nat} {f : List (Int × Fx)} (h : AllF n f) (h0 : 0 < n) (k : Int) : Fr (lk f k) ∧ Sz n (lk f k) := by
  induction f with
  | nil => exact ⟨fr01, sz01 h0⟩
  | cons a f ih =>
    obtain ⟨j, y⟩ := a
    rw [lk_cons]
    by_cases q : k = j
    · rw [if_pos q]
      exact h _ List.mem_cons_self
    · rw [if_neg q]
      exact ih fun b hb => h b (List.mem_cons_of_mem _ hb)
theorem lk_gat : ∀ (xs f : List (Int × Fx)) (j : Int), lk (gat f xs) j = xs.foldl (fun a kx => if j = kx.1 then fadd a kx.2 else a) (lk f j)
  | [], f, j => rfl
  | (k, x) :: xs, f, j => by
    show lk (gat (ups f k (fadd (lk f k) x)) xs) j = xs.foldl _ _
    rw [lk_gat xs, lk_ups]
    by_cases h : j = k
    · subst h
      simp
    · simp [h]
theorem gat_nodup : ∀ (xs f : List (Int × Fx)), (f.map (·.1)).Nodup → ((gat f xs).map (·.1)).Nodup
  | [], _, h => h
  | (k, x) :: xs, f, h => gat_nodup xs _ (ups_nodup f k _ h)
theorem gat_len : ∀ (xs f : List (Int × Fx)), (gat f xs).length ≤ f.length + xs.length
  | [], _ => Nat.le_refl _
  | (k, x) :: xs, f => by
    have h1 := gat_len xs (ups f k (fadd (lk f k) x))
    have h2 := ups_len f k (fadd (lk f k) x)
    show (gat (ups f k (fadd (lk f k) x)) xs).length ≤ _
    rw [List.length_cons]
    omega
theorem fold_none : ∀ (xs : List (Int × Fx)) (j : Int) (a : Fx), j ∉ xs.map (·.1) → xs.foldl (fun a kx => if j = kx.1 then fadd a kx.2 else a) a = a
  | [], _, _, _ => rfl
  | (k, x) :: xs, j, a, h => by
    simp only [List.map_cons, List.mem_cons, not_or] at h
    show xs.foldl _ (if j = k then fadd a x else a) = a
    rw [if_neg h.1]
    exact fold_none xs j a h.2
theorem lk_none {xs : List (Int × Fx)} {j : Int} (h : j ∉ xs.map (·.1)) : lk xs j = (0, 1) := by
  by_cases q : lk xs j = (0, 1)
  · exact q
  · exact absurd (lk_mem q) h
/-- one more share gathered: each key's sum -/
theorem fold_nodup : ∀ (xs : List (Int × Fx)) (j : Int) (a : Fx), Fr a → (xs.map (·.1)).Nodup → xs.foldl (fun a kx => if j = kx.1 then fadd a kx.2 else a) a = fadd a (lk xs j)
  | [], j, a, ha, _ => (fadd_zero ha).symm
  | (k, x) :: xs, j, a, ha, hn => by
    simp only [List.map_cons, List.nodup_cons] at hn
    show xs.foldl _ (if j = k then fadd a x else a) = _
    rw [lk_cons]
    by_cases h : j = k
    · subst h
      rw [if_pos rfl, if_pos rfl]
      exact fold_none xs j _ hn.1
    · rw [if_neg h, if_neg h]
      exact fold_nodup xs j a ha hn.2
theorem lk_gat_nodup {xs f : List (Int × Fx)} {n : Nat} (hf : AllF n f) (h0 : 0 < n) (hn : (xs.map (·.1)).Nodup) (j : Int) : lk (gat f xs) j = fadd (lk f j) (lk xs j) := by
  rw [lk_gat, fold_nodup xs j _ (lk_fr hf h0 j).1 hn]
/-! sums -/
def fsum (l : List Fx) : Fx := l.foldl fadd (0, 1)
def scl (x : Fx) (k : Int) : Fx := low (x.1 * k) x.2
theorem scl_fr {x : Fx} (h : Fr x) (k : Int) : Fr (scl x k) := low_fr h.ne
theorem scl_sz {x : Fx} {n m : Nat} {k : Int} (h : Fr x) (z : Sz n x) (hk : k.natAbs < 2 ^ m) : Sz (n + m) (scl x k) :=
  low_sz h.ne (abs_mul_lt z.1 hk) (lt_up z.2 (by omega))
theorem scl_mul (x : Fx) (k : Int) : fmul x (k, 1) = scl x k := by
  unfold fmul scl
  simp only [Int.mul_one]
theorem fold_fr : ∀ (l : List Fx) (a : Fx), Fr a → (∀ x ∈ l, Fr x) → Fr (l.foldl fadd a)
  | [], _, h, _ => h
  | x :: l, a, h, g => fold_fr l _ (fadd_fr h (g x List.mem_cons_self)) fun y hy => g y (List.mem_cons_of_mem _ hy)
theorem fold_sz (n : Nat) : ∀ (l : List Fx) (a : Fx) (m : Nat), Fr a → Sz m a → (∀ x ∈ l, Fr x ∧ Sz n x) → Sz (m + l.length * (n + 1)) (l.foldl fadd a)
  | [], a, m, _, z, _ => z.up (by simp)
  | x :: l, a, m, h, z, g => by
    have hx := g x List.mem_cons_self
    have := fold_sz n l (fadd a x) (m + n + 1) (fadd_fr h hx.1) (fadd_sz h hx.1 z hx.2) fun y hy => g y (List.mem_cons_of_mem _ hy)
    refine this.up ?_
    rw [List.length_cons, Nat.succ_mul]
    omega
end CS
namespace CS
def ftot (xs : List (Int × Fx)) : Fx := fsum (xs.map (·.2))
def fmom (xs : List (Int × Fx)) : Fx := fsum (xs.map fun a => scl a.2 a.1)
def frest (xs : List (Int × Fx)) (k : Int) : Fx := fsum ((xs.filter fun a => decide (k < a.1)).map fun a => scl a.2 (a.1 - k))
end CS
namespace CS
theorem cfold_fr (j : Int) : ∀ (xs : List (Int × Fx)) (a : Fx), Fr a → (∀ x ∈ xs, Fr x.2) → Fr (xs.foldl (fun a kx => if j = kx.1 then fadd a kx.2 else a) a)
  | [], a, h, _ => h
  | x :: l, a, h, g => by
    refine cfold_fr j l _ ?_ fun y hy => g y (List.mem_cons_of_mem _ hy)
    show Fr (if j = x.1 then fadd a x.2 else a)
    split
    · exact fadd_fr h (g x List.mem_cons_self)
    · exact h
theorem cfold_sz (n : Nat) (j : Int) : ∀ (xs : List (Int × Fx)) (a : Fx) (m : Nat), Fr a → Sz m a → (∀ x ∈ xs, Fr x.2 ∧ Sz n x.2) → Sz (m + xs.length * (n + 1)) (xs.foldl (fun a kx => if j = kx.1 then fadd a kx.2 else a) a)
  | [], a, m, _, z, _ => z.up (by simp)
  | x :: l, a, m, h, z, g => by
    have hx := g x List.mem_cons_self
    have h2 : Fr (if j = x.1 then fadd a x.2 else a) ∧ Sz (m + n + 1) (if j = x.1 then fadd a x.2 else a) := by
      split
      · exact ⟨fadd_fr h hx.1, fadd_sz h hx.1 z hx.2⟩
      · exact ⟨h, z.up (by omega)⟩
    have := cfold_sz n j l _ (m + n + 1) h2.1 h2.2 fun y hy => g y (List.mem_cons_of_mem _ hy)
    refine this.up ?_
    rw [List.length_cons, Nat.succ_mul]
    omega
theorem gat_fr {n : Nat} {xs : List (Int × Fx)} (h : AllF n xs) (j : Int) : Fr (lk (gat [] xs) j) := by
  rw [lk_gat]
  exact cfold_fr j xs _ fr01 fun x hx => (h x hx).1
theorem gat_sz {n : Nat} {xs : List (Int × Fx)} (h : AllF n xs) (j : Int) : Sz (1 + xs.length * (n + 1)) (lk (gat [] xs) j) := by
  rw [lk_gat]
  exact cfold_sz n j xs _ 1 fr01 (sz01 (by decide)) h
theorem gat_snoc (xs : List (Int × Fx)) (f : List (Int × Fx)) (a : Int × Fx) : gat f (xs ++ [a]) = ups (gat f xs) a.1 (fadd (lk (gat f xs) a.1) a.2) := by
  unfold gat
  rw [List.foldl_append]
  rfl
theorem AllF.take {n i : Nat} {xs : List (Int × Fx)} (h : AllF n xs) : AllF n (xs.take i) := fun a ha => h a (List.mem_of_mem_take ha)
/-- what a share is -/
def Shr (xs : List (Int × Fx)) : Prop := xs.length ≤ 8 ∧ (∀ a ∈ xs, -100 ≤ a.1 ∧ a.1 ≤ 100 ∧ Fr a.2 ∧ 0 < a.2.1) ∧ (xs.map (·.1)).Pairwise (· < ·)
instance (xs : List (Int × Fx)) : Decidable (Shr xs) := by unfold Shr; infer_instance
theorem asc_zip : ∀ (ns : List Int), (List.zipWith (fun a b => decide (a < b)) ns (ns.drop 1)).all id = decide (ns.Pairwise (· < ·))
  | [] => by simp
  | [a] => by simp
  | a :: b :: ns => by
    have ih := asc_zip (b :: ns)
    simp only [List.drop_succ_cons, List.drop_zero] at *
    rw [List.zipWith_cons_cons, List.all_cons, ih, Bool.eq_iff_iff]
    simp only [id, Bool.and_eq_true, decide_eq_true_eq, List.pairwise_cons]
    constructor
    · rintro ⟨h1, h2, h3⟩
      refine ⟨?_, h2, h3⟩
      intro c hc
      rcases List.mem_cons.mp hc with q | q
      · omega
      · have := h2 c q
        omega
    · rintro ⟨h1, h2⟩
      exact ⟨h1 b List.mem_cons_self, h2⟩
end CS
set_option Elab.async false
set_option maxRecDepth 100000
set_option maxHeartbeats 4000000
set_option linter.unusedVariables false
namespace CS
open PySem L2
/-- a def of the text, how its arguments bind, where its name leads -/
structure Df (K : PySem.W.Frag) (mg : Str → Option Value) (x : Str) (st : Stmt) (ps : List Str) (f : Addr) (fd : FuncData) : Prop where
  F : Fun K x x st f fd
  b : Binds K fd ps []
  g : mg x = some (.ref f)
/-- what the walk asks of the module's names -/
structure Bt (mg : Str → Option Value) : Prop where
  gcd : mg "gcd" = some (.builtin "math.gcd")
  isinstance : mg "isinstance" = none
  int : mg "int" = none
  tuple : mg "tuple" = none
  len : mg "len" = none
  abs : mg "abs" = none
  range : mg "range" = none
  list : mg "list" = none
  sorted : mg "sorted" = none
  zip : mg "zip" = none
  all : mg "all" = none
  dict : mg "dict" = none
end CS
namespace L2
open PySem
theorem Same.tup {K : PySem.W.Frag} {H H' : Hp} {a : Addr} {xs : List V} (e : Same H H') (h : SqT K H a xs) : SqT K H' a xs := by
  rcases h with (h | ⟨o, h⟩) | h
  · exact .inl (.inl (e _ _ h))
  · exact .inl (.inr ⟨o, e _ _ h⟩)
  · exact .inr h
theorem Same.new {H : Hp} {p : Addr} {o : HO} (h : H p = none) : Same H (upd H p o) := fun b u e => by
  rw [upd_ne (ne_of_none e h)]
  exact e
end L2
namespace CS
open PySem L2
/-! promises -/
def spLow : Sp := fun vs H Q _ => ∃ t b : Int, vs = [.int t, .int b] ∧ b ≠ 0 ∧ t.natAbs < 2 ^ 4000 ∧ b.natAbs < 2 ^ 4000 ∧
  ∀ p, H p = none → Q (.ref p) (upd H p (.tup [.int (low t b).1, .int (low t b).2]))
/-- two fractions in, a new one out -/
def spF2 (K : PySem.W.Frag) (ok : Int × Int → Int × Int → Prop) (f : Int × Int → Int × Int → Int × Int) : Sp := fun vs H Q _ => ∃ p q x y, vs = [.ref p, .ref q] ∧ FT K H p x ∧ FT K H q y ∧ Fr x ∧ Fr y ∧ Sz 1900 x ∧ Sz 1900 y ∧ ok x y ∧
  ∀ r, H r = none → Q (.ref r) (upd H r (.tup [.int (f x y).1, .int (f x y).2]))
def spB2 (K : PySem.W.Frag) (f : Int × Int → Int × Int → Bool) : Sp := fun vs H Q _ => ∃ p q x y, vs = [.ref p, .ref q] ∧ FT K H p x ∧ FT K H q y ∧ Fr x ∧ Fr y ∧ Sz 1900 x ∧ Sz 1900 y ∧ Q (.bl (f x y)) H
def spWhole (K : PySem.W.Frag) : Sp := fun vs H Q _ => ∃ i : Int, vs = [.int i] ∧ Q (.bl true) H
def spRow (K : PySem.W.Frag) : Sp := fun vs H Q _ => ∃ p xs, vs = [.ref p] ∧ SqT K H p xs ∧ Q (.bl true) H
def spRowOf (K : PySem.W.Frag) : Sp := fun vs H Q _ => ∃ p xs n, vs = [.ref p, .int n] ∧ SqT K H p xs ∧ Q (.bl (decide ((xs.length : Int) = n))) H
def spIsFr (K : PySem.W.Frag) : Sp := fun vs H Q _ => ∃ p x, vs = [.ref p] ∧ FT K H p x ∧ Q (.bl (decide (Fr x))) H
def spNeedFr (K : PySem.W.Frag) : Sp := fun vs H Q _ => ∃ p x, vs = [.ref p] ∧ FT K H p x ∧ Fr x ∧ Q (.ref p) H

end CS
namespace CS
open PySem L2
/-- the pairs of a state of draws -/
def stD (c l : Addr) (k : Int) : List (Key × V) := [(Sum.inr "cells", .ref c), (Sum.inr "lefts", .ref l), (Sum.inr "at", .int k), (Sum.inr "room", .int 0)]
theorem kn1 : ¬ (("cells" : Str) = "lefts") := by decide +kernel
theorem kn2 : ¬ (("cells" : Str) = "at") := by decide +kernel
theorem kn3 : ¬ (("cells" : Str) = "room") := by decide +kernel
theorem kn4 : ¬ (("lefts" : Str) = "at") := by decide +kernel
theorem kn5 : ¬ (("lefts" : Str) = "room") := by decide +kernel
theorem kn6 : ¬ (("at" : Str) = "room") := by decide +kernel
theorem kn7 : ¬ (("room" : Str) = "at") := by decide +kernel
theorem stD_cells (c l : Addr) (k : Int) : valV (stD c l k) (Sum.inr ("cells" : Str)) = some (.ref c) := valV_pos rfl
theorem stD_lefts (c l : Addr) (k : Int) : valV (stD c l k) (Sum.inr ("lefts" : Str)) = some (.ref l) := by
  simp [stD, valV, List.find?_cons, kn1]
theorem stD_at (c l : Addr) (k : Int) : valV (stD c l k) (Sum.inr ("at" : Str)) = some (.int k) := by
  simp [stD, valV, List.find?_cons, kn2, kn4]
theorem stD_put (c l : Addr) (k k' : Int) : putK (stD c l k) (Sum.inr ("at" : Str)) (.int k') = stD c l k' := by
  simp [stD, putK, kn2, kn4, kn7]
theorem stD_make (c l : Addr) : mergeK [] [((Sum.inr ("cells" : Str) : Key), V.ref c), (Sum.inr ("lefts" : Str), .ref l), (Sum.inr ("at" : Str), .int 0), (Sum.inr ("room" : Str), .int 0)] = stD c l 0 := by
  simp [mergeK, putK, stD, kn1, kn2, kn3, kn4, kn5, kn6]
/-- a state of draws, k of them done -/
structure StAt (H : Hp) (d c l : Addr) (k : Nat) : Prop where
  hd : H d = some (.dK (stD c l k))
  ne : c ≠ l
  ex : ∃ cs ls : List Int, H c = some (.lst (cs.map V.int)) ∧ H l = some (.lst (ls.map V.int)) ∧ cs.length = ls.length ∧ 0 < cs.length ∧ cs.length ≤ 64 ∧ ∀ v ∈ ls, 0 ≤ v
/-- what does not belong to the state is as it was -/
def Fm (d l : Addr) (H H' : Hp) : Prop := ∀ b o, H b = some o → b ≠ d → b ≠ l → H' b = some o
theorem Fm.refl (d l : Addr) (H : Hp) : Fm d l H H := fun _ _ e _ _ => e
theorem Fm.trans {d l : Addr} {H H1 H2 : Hp} (a : Fm d l H H1) (b : Fm d l H1 H2) : Fm d l H H2 := fun c o h n m => b c o (a c o h n m) n m
theorem Fm.same {d l : Addr} {H H1 H2 : Hp} (a : Fm d l H H1) (b : Same H1 H2) : Fm d l H H2 := fun c o h n m => b c o (a c o h n m)
theorem same_fm {d l : Addr} {H H1 : Hp} (a : Same H H1) : Fm d l H H1 := fun c o h _ _ => a c o h
theorem StAt.same {H H' : Hp} {d c l : Addr} {k : Nat} (S : StAt H d c l k) (e : Same H H') : StAt H' d c l k := by
  obtain ⟨hd, ne, cs, ls, h1, h2, r⟩ := S
  exact ⟨e _ _ hd, ne, cs, ls, e _ _ h1, e _ _ h2, r⟩
/-- a tuple that stood stands -/
theorem Fm.tup {K : PySem.W.Frag} {H H' : Hp} {d c l p : Addr} {k : Nat} {xs : List V} (e : Fm d l H H') (S : StAt H d c l k) (h : SqT K H p xs) : SqT K H' p xs := by
  obtain ⟨hd, ne, cs, ls, h1, h2, r⟩ := S
  rcases h with (h | ⟨o, h⟩) | h
  · exact .inl (.inl (e _ _ h (fun q => by subst q; rw [hd] at h; cases h) (fun q => by subst q; rw [h2] at h; cases h)))
  · exact .inl (.inr ⟨o, e _ _ h (fun q => by subst q; rw [hd] at h; cases h) (fun q => by subst q; rw [h2] at h; cases h)⟩)
  · exact .inr h
def spMixed : Sp := fun vs H Q _ => ∃ c k : Int, vs = [.int c, .int k] ∧ 0 ≤ k ∧ k ≤ 1000000 ∧ ∀ r : Int, 0 ≤ r → r < 2147483629 → Q (.int r) H
def spBegin (K : PySem.W.Frag) : Sp := fun vs H Q _ => ∃ (a : Addr) (ns : List Int), vs = [.ref a] ∧ SqL K H a (ns.map V.int) ∧ ns.length ≤ 63 ∧ ∀ d c l H', H d = none → Same H H' → StAt H' d c l 0 → Q (.ref d) H'
def spDraw : Sp := fun vs H Q _ => ∃ (d c l : Addr) (k : Nat) (m : Int), vs = [.ref d, .int m] ∧ StAt H d c l k ∧ 0 < m ∧ m.natAbs < 2 ^ 200 ∧ k ≤ 100000 ∧ ∀ r H', 0 ≤ r → r < m → StAt H' d c l (k + 1) → Fm d l H H' → Q (.int r) H'

end CS
namespace CS
open PySem L2
def spLowP : Sp := fun vs H Q _ => ∃ t b : Int, vs = [.int t, .int b] ∧ 0 < b ∧ t.natAbs < 2 ^ 4000 ∧ b.natAbs < 2 ^ 4000 ∧
  ∀ p, H p = none → Q (.ref p) (upd H p (.tup [.int (low t b).1, .int (low t b).2]))
def spDrawn (K : PySem.W.Frag) : Sp := fun vs H Q _ => ∃ (d c l : Addr) (k : Nat), vs = [.ref d] ∧ StAt H d c l k ∧ k ≤ 90000 ∧
  ∀ p H' x, Fr x → Sz 70 x → StAt H' d c l (k + 3) → Fm d l H H' → FT K H' p x → Q (.ref p) H'

end CS
namespace CS
open PySem L2
section
variable {K : PySem.W.Frag}
theorem eqv2 (x : Int × Int) : PyData.eqv (.tuple [.int x.1, .int x.2]) (.tuple [.int x.1, .int x.2]) = true := by
  simp [PyData.eqv, PyData.eqvAll]
theorem ne_same {H : Hp} {p q : Addr} {x y : Int × Int} {Q : VK} (hp : FT K H p x) (hq : FT K H q y) (e : x = y) (h : Q (.bl false) H) : rNeD K (.ref p) (.ref q) H Q := by
  subst e
  refine ⟨.tuple [.int x.1, .int x.2], .tuple [.int x.1, .int x.2], .tup hp (.cons (.int _) (.cons (.int _) .nil)), .tup hq (.cons (.int _) (.cons (.int _) .nil)), rfl, rfl, ?_⟩
  rw [eqv2]
  exact h
theorem eq_same {H : Hp} {p q : Addr} {x y : Int × Int} {Q : VK} (hp : FT K H p x) (hq : FT K H q y) (e : x = y) (h : Q (.bl true) H) : rEqD K (.ref p) (.ref q) H Q := by
  subst e
  refine ⟨.tuple [.int x.1, .int x.2], .tuple [.int x.1, .int x.2], .tup hp (.cons (.int _) (.cons (.int _) .nil)), .tup hq (.cons (.int _) (.cons (.int _) .nil)), rfl, rfl, ?_⟩
  rw [eqv2]
  exact h
theorem FT.new {H : Hp} {r : Addr} {x : Int × Int} : FT K (upd H r (.tup [.int x.1, .int x.2])) r x := SqT.of upd_same
theorem abs_if (z : Int) : (if z < 0 then -z else z) = ((z.natAbs : Nat) : Int) := by split <;> omega
end
/-! shares in the heap -/
/-- refs to pairs of a number and a fraction -/
inductive PrsAt (K : PySem.W.Frag) (H : Hp) : List V → List (Int × Fx) → Prop where
  | nil : PrsAt K H [] []
  | cons {q r : Addr} {m : Int} {x : Fx} {vs : List V} {xs : List (Int × Fx)} (h1 : SqT K H q [.int m, .ref r]) (h2 : FT K H r x) (h3 : PrsAt K H vs xs) : PrsAt K H (.ref q :: vs) ((m, x) :: xs)
def ShAt (K : PySem.W.Frag) (H : Hp) (p : Addr) (xs : List (Int × Fx)) : Prop := ∃ vs, SqT K H p vs ∧ PrsAt K H vs xs
/-- refs to fractions -/
inductive FsAt (K : PySem.W.Frag) (H : Hp) : List V → List Fx → Prop where
  | nil : FsAt K H [] []
  | cons {r : Addr} {x : Fx} {vs : List V} {xs : List Fx} (h2 : FT K H r x) (h3 : FsAt K H vs xs) : FsAt K H (.ref r :: vs) (x :: xs)
section
variable {K : PySem.W.Frag} {H H' : Hp}
/-- what keeps tuples -/
def TK (K : PySem.W.Frag) (H H' : Hp) : Prop := ∀ (p : Addr) (xs : List V), SqT K H p xs → SqT K H' p xs
theorem tk_same (e : Same H H') : TK K H H' := fun _ _ h => e.tup h
theorem tk_fm {d c l : Addr} {k : Nat} (e : Fm d l H H') (S : StAt H d c l k) : TK K H H' := fun _ _ h => e.tup S h
theorem TK.trans {H1 : Hp} (a : TK K H H1) (b : TK K H1 H') : TK K H H' := fun p xs h => b p xs (a p xs h)
theorem PrsAt.tk (e : TK K H H') : ∀ {vs : List V} {xs : List (Int × Fx)}, PrsAt K H vs xs → PrsAt K H' vs xs
  | _, _, .nil => .nil
  | _, _, .cons a b c => .cons (e _ _ a) (e _ _ b) (PrsAt.tk e c)
theorem ShAt.tk {p : Addr} {xs : List (Int × Fx)} (e : TK K H H') (h : ShAt K H p xs) : ShAt K H' p xs := by
  obtain ⟨vs, a, b⟩ := h
  exact ⟨vs, e _ _ a, b.tk e⟩
theorem FsAt.tk (e : TK K H H') : ∀ {vs : List V} {xs : List Fx}, FsAt K H vs xs → FsAt K H' vs xs
  | _, _, .nil => .nil
  | _, _, .cons a b => .cons (e _ _ a) (FsAt.tk e b)
theorem PrsAt.len : ∀ {vs : List V} {xs : List (Int × Fx)}, PrsAt K H vs xs → vs.length = xs.length
  | _, _, .nil => rfl
  | _, _, .cons _ _ c => by simp [c.len]
theorem FsAt.len : ∀ {vs : List V} {xs : List Fx}, FsAt K H vs xs → vs.length = xs.length
  | _, _, .nil => rfl
  | _, _, .cons _ c => by simp [c.len]
theorem PrsAt.get : ∀ {vs : List V} {xs : List (Int × Fx)} {i : Nat} {v : V}, PrsAt K H vs xs → vs[i]? = some v → ∃ q r m x, v = .ref q ∧ xs[i]? = some (m, x) ∧ SqT K H q [.int m, .ref r] ∧ FT K H r x
  | _, _, 0, _, .cons a b c, e => by
    cases e
    exact ⟨_, _, _, _, rfl, rfl, a, b⟩
  | _, _, i + 1, _, .cons a b c, e => by
    obtain ⟨q, r, m, x, h1, h2, h3, h4⟩ := PrsAt.get c (by simpa using e)
    exact ⟨q, r, m, x, h1, by simpa using h2, h3, h4⟩
theorem FsAt.get : ∀ {vs : List V} {xs : List Fx} {i : Nat} {v : V}, FsAt K H vs xs → vs[i]? = some v → ∃ r x, v = .ref r ∧ xs[i]? = some x ∧ FT K H r x
  | _, _, 0, _, .cons a b, e => by
    cases e
    exact ⟨_, _, rfl, rfl, a⟩
  | _, _, i + 1, _, .cons a c, e => by
    obtain ⟨r, x, h1, h2, h4⟩ := FsAt.get c (by simpa using e)
    exact ⟨r, x, h1, by simpa using h2, h4⟩
theorem PrsAt.app {vs ws : List V} {xs ys : List (Int × Fx)} (a : PrsAt K H vs xs) (b : PrsAt K H ws ys) : PrsAt K H (vs ++ ws) (xs ++ ys) := by
  induction a with
  | nil => exact b
  | cons h1 h2 h3 ih => exact .cons h1 h2 ih
theorem FsAt.app {vs ws : List V} {xs ys : List Fx} (a : FsAt K H vs xs) (b : FsAt K H ws ys) : FsAt K H (vs ++ ws) (xs ++ ys) := by
  induction a with
  | nil => exact b
  | cons h1 h3 ih => exact .cons h1 ih
/-! shares as data -/
def prD (a : Int × Fx) : PyData := .tuple [.int a.1, .tuple [.int a.2.1, .int a.2.2]]
def shD (xs : List (Int × Fx)) : PyData := .tuple (xs.map prD)
theorem PrsAt.dp : ∀ {vs : List V} {xs : List (Int × Fx)}, PrsAt K H vs xs → DpAll K H vs (xs.map prD)
  | _, _, .nil => .nil
  | _, _, .cons a b c => .cons (.tup a (.cons (.int _) (.cons (.tup b (.cons (.int _) (.cons (.int _) .nil))) .nil))) c.dp
theorem ShAt.dp {p : Addr} {xs : List (Int × Fx)} (h : ShAt K H p xs) : Dp K H (.ref p) (shD xs) := by
  obtain ⟨vs, a, b⟩ := h
  exact .tup a b.dp
theorem cl1 : ∀ xs : List (Int × Fx), PyData.canLayAll0 (xs.map prD) = true
  | [] => rfl
  | n :: ns => by
    show (PyData.canLay0 (prD n) && PyData.canLayAll0 (ns.map prD)) = true
    rw [cl1 ns]
    rfl
theorem dp1 : ∀ xs : List (Int × Fx), PyData.depthAll (xs.map prD) ≤ 2
  | [] => by decide
  | n :: ns => by
    have := dp1 ns
    simp [PyData.depthAll, PyData.depth, prD] at *
    omega
theorem shShaped (xs : List (Int × Fx)) : SeqAt.shaped (shD xs) = true := by
  have h1 := cl1 xs
  have h2 := dp1 xs
  simp [SeqAt.shaped, PyData.canLay0, PyData.depth, h1, shD]
  omega
theorem eqvPr (a b : Int × Fx) : PyData.eqv (prD a) (prD b) = decide (a = b) := by
  obtain ⟨m, x, y⟩ := a
  obtain ⟨n, z, w⟩ := b
  simp only [prD, PyData.eqv, PyData.eqvAll, Bool.and_true]
  by_cases h1 : m = n <;> by_cases h2 : x = z <;> by_cases h3 : y = w <;> simp [h1, h2, h3]
theorem eqvPrs : ∀ xs ys : List (Int × Fx), PyData.eqvAll (xs.map prD) (ys.map prD) = decide (xs = ys)
  | [], [] => by simp [PyData.eqvAll]
  | [], _ :: _ => by simp [PyData.eqvAll]
  | _ :: _, [] => by simp [PyData.eqvAll]
  | a :: xs, b :: ys => by
    simp only [List.map_cons, PyData.eqvAll, eqvPr, eqvPrs xs ys]
    by_cases h1 : a = b <;> by_cases h2 : xs = ys <;> simp [h1, h2]
theorem eqvSh (xs ys : List (Int × Fx)) : PyData.eqv (shD xs) (shD ys) = decide (xs = ys) := eqvPrs xs ys
theorem shNe {p q : Addr} {xs ys : List (Int × Fx)} {Q : VK} (hp : ShAt K H p xs) (hq : ShAt K H q ys) (h : Q (.bl (!decide (xs = ys))) H) : rNeD K (.ref p) (.ref q) H Q :=
  ⟨shD xs, shD ys, hp.dp, hq.dp, shShaped _, shShaped _, by rw [eqvSh]; exact h⟩
theorem shEq {p q : Addr} {xs ys : List (Int × Fx)} {Q : VK} (hp : ShAt K H p xs) (hq : ShAt K H q ys) (h : Q (.bl (decide (xs = ys))) H) : rEqD K (.ref p) (.ref q) H Q :=
  ⟨shD xs, shD ys, hp.dp, hq.dp, shShaped _, shShaped _, by rw [eqvSh]; exact h⟩
theorem eqvF (x y : Fx) : PyData.eqv (.tuple [.int x.1, .int x.2]) (.tuple [.int y.1, .int y.2]) = decide (x = y) := by
  obtain ⟨a, b⟩ := x
  obtain ⟨c, d⟩ := y
  simp only [PyData.eqv, PyData.eqvAll, Bool.and_true]
  by_cases h1 : a = c <;> by_cases h2 : b = d <;> simp [h1, h2]
def frD (x : Fx) : PyData := .tuple [.int x.1, .int x.2]
theorem ftDp {p : Addr} {x : Fx} (h : FT K H p x) : Dp K H (.ref p) (frD x) := .tup h (.cons (.int _) (.cons (.int _) .nil))
theorem eqvFr (x y : Fx) : PyData.eqv (frD x) (frD y) = decide (x = y) := eqvF x y
theorem ftNe {p q : Addr} {x y : Fx} {Q : VK} (hp : FT K H p x) (hq : FT K H q y) (h : Q (.bl (!decide (x = y))) H) : rNeD K (.ref p) (.ref q) H Q :=
  ⟨.tuple [.int x.1, .int x.2], .tuple [.int y.1, .int y.2], .tup hp (.cons (.int _) (.cons (.int _) .nil)), .tup hq (.cons (.int _) (.cons (.int _) .nil)), rfl, rfl, by rw [eqvF]; exact h⟩
/-! tables from numbers to fractions -/
inductive DPr (K : PySem.W.Frag) (H : Hp) : List (Key × V) → List (Int × Fx) → Prop where
  | nil : DPr K H [] []
  | cons {k : Int} {r : Addr} {x : Fx} {kvs : List (Key × V)} {f : List (Int × Fx)} (h : FT K H r x) (t : DPr K H kvs f) : DPr K H ((Sum.inl k, .ref r) :: kvs) ((k, x) :: f)
theorem DPr.tk (e : TK K H H') : ∀ {kvs : List (Key × V)} {f : List (Int × Fx)}, DPr K H kvs f → DPr K H' kvs f
  | _, _, .nil => .nil
  | _, _, .cons a b => .cons (e _ _ a) (DPr.tk e b)
theorem DPr.keys : ∀ {kvs : List (Key × V)} {f : List (Int × Fx)}, DPr K H kvs f → kvs.map (·.1) = (f.map (·.1)).map Sum.inl
  | _, _, .nil => rfl
  | _, _, .cons _ b => by simp [b.keys]
theorem DPr.len {kvs : List (Key × V)} {f : List (Int × Fx)} (h : DPr K H kvs f) : kvs.length = f.length := by
  have := congrArg List.length h.keys
  simpa using this
theorem DPr.val : ∀ {kvs : List (Key × V)} {f : List (Int × Fx)}, DPr K H kvs f → ∀ k : Int, k ∈ f.map (·.1) → ∃ r, valV kvs (Sum.inl k : Key) = some (.ref r) ∧ FT K H r (lk f k)
  | _, _, .nil, k, hm => by cases hm
  | _, _, @DPr.cons _ _ j r x kvs f a b, k, hm => by
    by_cases h : k = j
    · subst h
      refine ⟨r, valV_pos rfl, ?_⟩
      rw [lk_cons, if_pos rfl]
      exact a
    · have hm2 : k ∈ f.map (·.1) := by
        simp only [List.map_cons, List.mem_cons] at hm
        rcases hm with q | q
        · exact absurd q h
        · exact q
      obtain ⟨r', h1, h2⟩ := b.val k hm2
      refine ⟨r', ?_, ?_⟩
      · rw [valV_neg (by intro z; exact h (Sum.inl.inj z).symm)]
        exact h1
      · rw [lk_cons, if_neg h]
        exact h2
theorem DPr.non : ∀ {kvs : List (Key × V)} {f : List (Int × Fx)}, DPr K H kvs f → ∀ k : Int, k ∉ f.map (·.1) → valV kvs (Sum.inl k : Key) = none
  | _, _, .nil, k, hm => rfl
  | _, _, @DPr.cons _ _ j r x kvs f a b, k, hm => by
    simp only [List.map_cons, List.mem_cons, not_or] at hm
    rw [valV_neg (by intro z; exact hm.1 (Sum.inl.inj z).symm)]
    exact b.non k hm.2
theorem putK_c1 {k : Key} {u v : V} {kvs : List (Key × V)} (hn : ∀ p ∈ kvs, p.1 ≠ k) : putK ((k, u) :: kvs) k v = (k, v) :: kvs := by
  unfold putK
  have : (((k, u) :: kvs).any fun kv => decide (kv.1 = k)) = true := by simp
  rw [if_pos this]
  simp only [List.map_cons, if_pos]
  congr 1
  conv => rhs; rw [← List.map_id kvs]
  apply List.map_congr_left
  intro p hp
  simp [hn p hp]
theorem putK_c2 {j k : Key} {u v : V} {kvs : List (Key × V)} (h : j ≠ k) : putK ((j, u) :: kvs) k v = (j, u) :: putK kvs k v := by
  unfold putK
  by_cases q : (kvs.any fun kv => decide (kv.1 = k)) = true
  · have : (((j, u) :: kvs).any fun kv => decide (kv.1 = k)) = true := by simp only [List.any_cons, q, Bool.or_true]
    rw [if_pos this, if_pos q]
    simp [h]
  · have : ¬ (((j, u) :: kvs).any fun kv => decide (kv.1 = k)) = true := by
      simp only [List.any_cons, Bool.or_eq_true, not_or]
      exact ⟨by simp [h], q⟩
    rw [if_neg this, if_neg q]
    rfl
theorem DPr.put {kvs : List (Key × V)} {f : List (Int × Fx)} (h : DPr K H kvs f) (hn : (f.map (·.1)).Nodup) {k : Int} {r : Addr} {x : Fx} (hr : FT K H r x) : DPr K H (putK kvs (Sum.inl k : Key) (.ref r)) (ups f k x) := by
  induction h with
  | nil =>
    show DPr K H [(Sum.inl k, .ref r)] [(k, x)]
    exact .cons hr .nil
  | @cons j r' y kvs f a b ih =>
    rw [List.map_cons, List.nodup_cons] at hn
    by_cases q : j = k
    · subst q
      rw [putK_c1 (by
        intro p hp e
        have : p.1 ∈ kvs.map (·.1) := List.mem_map.mpr ⟨p, hp, rfl⟩
        rw [b.keys, e] at this
        obtain ⟨z, hz, ez⟩ := List.mem_map.mp this
        exact hn.1 ((Sum.inl.inj ez) ▸ hz))]
      have : ups ((j, y) :: f) j x = (j, x) :: f := by simp [ups]
      rw [this]
      exact .cons hr b
    · rw [putK_c2 (by intro z; exact q (Sum.inl.inj z))]
      have : ups ((j, y) :: f) k x = (j, y) :: ups f k x := by simp [ups, q]
      rw [this]
      exact .cons a (ih hn.2)
end
section
variable {K : PySem.W.Frag} {H H4 : Hp} {D : Addr}
theorem tk_lst {xs ys : List V} (h : H D = some (.lst xs)) : TK K H (upd H D (.lst ys)) := fun p zs hp => by
  rcases hp with (hp | ⟨o, hp⟩) | hp
  · exact .inl (.inl (by rw [upd_ne (fun z => by rw [z, h] at hp; cases hp)]; exact hp))
  · exact .inl (.inr ⟨o, by rw [upd_ne (fun z => by rw [z, h] at hp; cases hp)]; exact hp⟩)
  · exact .inr hp
theorem tk_dk {xs ys : List (Key × V)} (h : H D = some (.dK xs)) : TK K H (upd H D (.dK ys)) := fun p zs hp => by
  rcases hp with (hp | ⟨o, hp⟩) | hp
  · exact .inl (.inl (by rw [upd_ne (fun z => by rw [z, h] at hp; cases hp)]; exact hp))
  · exact .inl (.inr ⟨o, by rw [upd_ne (fun z => by rw [z, h] at hp; cases hp)]; exact hp⟩)
  · exact .inr hp
theorem same_upd {H0 : Hp} {o : HO} (h0 : H0 D = none) (s : Same H0 H4) : Same H0 (upd H4 D o) := fun b u e => by
  rw [upd_ne (ne_of_none e h0)]
  exact s b u e
/-- a list of fractions that is being made at D -/
def LcF (K : PySem.W.Frag) (H : Hp) (D : Addr) (zs : List Fx) (H' : Hp) : Prop := ∃ ws, H' D = some (.lst ws) ∧ Same H H' ∧ FsAt K H' ws zs
theorem LcF.start (h : H D = none) : LcF K H D [] (upd H D (.lst [])) := ⟨[], upd_same, Same.new h, .nil⟩
theorem LcF.step {zs : List Fx} {ws : List V} {y : Addr} {x : Fx} (h0 : H D = none) (h1 : H4 D = some (.lst ws)) (s : Same H H4) (f : FsAt K H4 ws zs) (hx : FT K H4 y x) : LcF K H D (zs ++ [x]) (upd H4 D (.lst (ws ++ [.ref y]))) :=
  ⟨_, upd_same, same_upd h0 s, (f.app (.cons hx .nil)).tk (tk_lst h1)⟩
/-- a list of pairs that is being made at D -/
def LcP (K : PySem.W.Frag) (H : Hp) (D : Addr) (zs : List (Int × Fx)) (H' : Hp) : Prop := ∃ ws, H' D = some (.lst ws) ∧ Same H H' ∧ PrsAt K H' ws zs
theorem LcP.start (h : H D = none) : LcP K H D [] (upd H D (.lst [])) := ⟨[], upd_same, Same.new h, .nil⟩
theorem LcP.step {zs : List (Int × Fx)} {ws : List V} {q r : Addr} {m : Int} {x : Fx} (h0 : H D = none) (h1 : H4 D = some (.lst ws)) (s : Same H H4) (f : PrsAt K H4 ws zs) (hq : SqT K H4 q [.int m, .ref r]) (hx : FT K H4 r x) :
    LcP K H D (zs ++ [(m, x)]) (upd H4 D (.lst (ws ++ [.ref q]))) :=
  ⟨_, upd_same, same_upd h0 s, (f.app (.cons hq hx .nil)).tk (tk_lst h1)⟩
theorem take_snoc {α : Type} {l : List α} {i : Nat} {a : α} (h : l[i]? = some a) : l.take (i + 1) = l.take i ++ [a] := by
  rw [List.take_add_one, h]
  rfl
theorem small {n : Nat} (h : n ≤ 1000) : n ≤ sizeLine := Nat.le_of_lt (small1000 h)
end
/-! promises -/
def spScaled (K : PySem.W.Frag) : Sp := fun vs H Q _ => ∃ p x k, vs = [.ref p, .int k] ∧ FT K H p x ∧ Fr x ∧ Sz 1900 x ∧ k.natAbs < 2 ^ 20 ∧ ∀ r, H r = none → Q (.ref r) (upd H r (.tup [.int (scl x k).1, .int (scl x k).2]))
def spSum (K : PySem.W.Frag) : Sp := fun vs H Q _ => ∃ a ws xs, vs = [.ref a] ∧ SqL K H a ws ∧ FsAt K H ws xs ∧ (∀ x ∈ xs, Fr x ∧ Sz 100 x) ∧ xs.length ≤ 16 ∧ ∀ H' p, Same H H' → FT K H' p (fsum xs) → Q (.ref p) H'
/-- of a share: a fraction -/
def spShF (K : PySem.W.Frag) (f : List (Int × Fx) → Fx) : Sp := fun vs H Q _ => ∃ p xs, vs = [.ref p] ∧ ShAt K H p xs ∧ AllF 90 xs ∧ (∀ a ∈ xs, a.1.natAbs ≤ 200) ∧ xs.length ≤ 16 ∧ ∀ H' r, Same H H' → FT K H' r (f xs) → Q (.ref r) H'
def spShFk (K : PySem.W.Frag) (f : List (Int × Fx) → Int → Fx) : Sp := fun vs H Q _ => ∃ p xs k, vs = [.ref p, .int k] ∧ ShAt K H p xs ∧ AllF 90 xs ∧ (∀ a ∈ xs, a.1.natAbs ≤ 200) ∧ k.natAbs ≤ 200 ∧ xs.length ≤ 16 ∧ ∀ H' r, Same H H' → FT K H' r (f xs k) → Q (.ref r) H'
end CS
set_option Elab.async false
set_option maxRecDepth 100000
set_option maxHeartbeats 4000000
set_option linter.unusedVariables false
namespace CS
open PySem L2
def top (i : Nat) : Stmt := PySem.Challenge.pw_curtainsteps_k27_whole_mixes.main.body.getD i (.Pass ⟨0, 0, 0, 0⟩)
abbrev sLowered : Stmt := top 3
abbrev sAdded : Stmt := top 4
abbrev sMultiplied : Stmt := top 5
abbrev sDivided : Stmt := top 6
abbrev sScaled : Stmt := top 7
abbrev sSumOf : Stmt := top 8
abbrev sGathered : Stmt := top 10
abbrev sTotalOf : Stmt := top 11
abbrev sMomentOf : Stmt := top 12
abbrev sSteperror : Stmt := top 14
abbrev sBadMix : Stmt := top 15
abbrev sIsWhole : Stmt := top 18
abbrev sIsWord : Stmt := top 19
abbrev sIsRow : Stmt := top 20
abbrev sIsRowOf : Stmt := top 21
abbrev sIsWholeWithin : Stmt := top 22
abbrev sIsNumber : Stmt := top 23
abbrev sIsFraction : Stmt := top 24
abbrev sIsWeight : Stmt := top 25
abbrev sAscends : Stmt := top 26
abbrev sIsSharePair : Stmt := top 27
abbrev sIsShare : Stmt := top 28
abbrev sKidPlaces : Stmt := top 35
abbrev sMayStand : Stmt := top 36
abbrev sIsInOrder : Stmt := top 37
abbrev sIsFormed : Stmt := top 38
abbrev sFaultIn : Stmt := top 39
abbrev sMoved : Stmt := top 41
abbrev sMultipliedAll : Stmt := top 42
abbrev sSpread : Stmt := top 43
abbrev sDrawn : Stmt := top 44
abbrev sMade : Stmt := top 45
abbrev sShareAt : Stmt := top 46
abbrev sShareOf : Stmt := top 47
abbrev sNeedMix : Stmt := top 48
abbrev sPartsOf : Stmt := top 49
abbrev sMixed : Stmt := top 51
abbrev sBegin : Stmt := top 52
abbrev sDraw : Stmt := top 53
abbrev sLawOf : Stmt := top 54
abbrev sLawRatio : Stmt := top 55
abbrev sLawPlus : Stmt := top 56
abbrev sLawLess : Stmt := top 57
abbrev sLawTimes : Stmt := top 58
abbrev sLawOver : Stmt := top 59
abbrev sLawUnder : Stmt := top 60
abbrev sLawSum : Stmt := top 61
abbrev sLawTotal : Stmt := top 62
abbrev sLawMoment : Stmt := top 63
abbrev sLawRest : Stmt := top 64
abbrev sLawLacks : Stmt := top 65
abbrev sLawShareOf : Stmt := top 66
abbrev sLawJoined : Stmt := top 67
abbrev sLawSpread : Stmt := top 68
abbrev sLawDrawn : Stmt := top 69
abbrev sLawInner : Stmt := top 70
abbrev sLawOneOf : Stmt := top 71
abbrev sLawShared : Stmt := top 72
abbrev sLawMix : Stmt := top 73
abbrev sLawHeard : Stmt := top 74
abbrev sLawIsRight : Stmt := top 75
abbrev sLawHandRight : Stmt := top 76
abbrev sLaw : Stmt := top 77
section
variable {P : Program} {w : World} {K : PySem.W.Frag} {mg : Str → Option Value} {base : Heap}
theorem scLowered : FnScope ["top", "bottom", "common"] ["top", "bottom"] (defScope sLowered) := ⟨rfl, rfl, rfl, by decide +kernel, rfl, by decide +kernel, by decide +kernel⟩
theorem ok_lowered {f : Addr} {fd : FuncData} (F : Df K mg "lowered" sLowered ["top", "bottom"] f fd) (T : Bt mg) : FnOk P w K mg base CX0 1 f fd ["top", "bottom"] spLow := by
  refine F.F.ok scLowered (fun vs H Q E h => ?_) (fun cdv A outer s H vs Q E hr h => ?_)
  · obtain ⟨t, b, rfl, _⟩ := h
    rfl
  · obtain ⟨t, b, rfl, hb, h1, h2, k⟩ := h
    refine ⟨_, pss_cons (ps_set (i := 2) scLowered.nd rfl (Or.inl rfl) (pe_callBfun cr_gcd (by rfl) T.gcd (pa_cons (pv 0) (pa_cons (pv 1) pa_nil))))
      (pss_cons (ps_if (pt_cmpR op_lt (pv 1) pe_int (nomark _)) (pss_one (ps_set (i := 2) scLowered.nd rfl (Or.inl rfl) (pe_un un_neg (pv 2)))) pss_nil)
      (pss_one (ps_ret (pe_tup (pa_cons (pe_op op_fdivX (pv 0) (pv 2)) (pa_cons (pe_op op_fdivX (pv 1) (pv 2)) pa_nil)))))), ?_⟩
    have hc := cm_ne (t := t) hb
    have hz : (cm t b).natAbs.log2 < 9000 := by
      rw [cm_abs]
      have : Int.gcd t b ≤ b.natAbs := Nat.le_of_dvd (by omega) (Nat.gcd_dvd_right _ _)
      exact Nat.lt_of_lt_of_le (PySem.Flt.log2_lt_of (by decide) (Nat.lt_of_le_of_lt this h2)) (by decide)
    refine ⟨_, rfl, _, rfl, t, b, rfl, _, rfl, _, _, rfl, rfl, _, rfl, ?_⟩
    by_cases hlt : b < 0
    · have e : cm t b = -(Int.gcd t b : Int) := if_pos hlt
      rw [decide_eq_true hlt]
      refine iteT ?_
      refine ⟨_, rfl, _, rfl, ?_⟩
      refine ⟨_, rfl, _, rfl, t, _, rfl, rfl, ⟨e ▸ hc, e ▸ hz⟩, _, rfl, _, rfl, b, _, rfl, rfl, ⟨e ▸ hc, e ▸ hz⟩, (by show 2 ≤ sizeLine; decide), fun p hp => ?_⟩
      have := k p hp
      unfold low at this
      rw [e] at this
      exact this
    · have e : cm t b = (Int.gcd t b : Int) := if_neg hlt
      rw [decide_eq_false hlt]
      refine iteF ?_
      refine ⟨_, rfl, _, rfl, t, _, rfl, rfl, ⟨e ▸ hc, e ▸ hz⟩, _, rfl, _, rfl, b, _, rfl, rfl, ⟨e ▸ hc, e ▸ hz⟩, (by show 2 ≤ sizeLine; decide), fun p hp => ?_⟩
      have := k p hp
      unfold low at this
      rw [e] at this
      exact this
theorem scAdded : FnScope ["one", "other"] ["one", "other"] (defScope sAdded) := ⟨rfl, rfl, rfl, by decide +kernel, rfl, by decide +kernel, by decide +kernel⟩
theorem ok_added {f fl : Addr} {fd fdl : FuncData} (F : Df K mg "added" sAdded ["one", "other"] f fd) (L : Df K mg "lowered" sLowered ["top", "bottom"] fl fdl) (T : Bt mg) : FnOk P w K mg base CX0 2 f fd ["one", "other"] (spF2 K (fun _ _ => True) fadd) := by
  have G : FnOk P w K mg base CX0 1 fl fdl ["top", "bottom"] spLow := ok_lowered L T
  refine F.F.ok scAdded (fun vs H Q E h => ?_) (fun cdv A outer s H vs Q E hr h => ?_)
  · obtain ⟨p, q, x, y, rfl, _⟩ := h
    rfl
  · obtain ⟨p, q, x, y, rfl, hp, hq, hx, hy, zx, zy, ok, k⟩ := h
    refine ⟨_, pss_one (ps_ret (pe_call G hr (by rfl) L.g L.F.kp L.b .nil pass0 (pa_cons (pe_op op_add (pe_op op_mulW (pe_fst 0) (pe_snd 1)) (pe_op op_mulW (pe_fst 1) (pe_snd 0))) (pa_cons (pe_op op_mulW (pe_snd 0) (pe_snd 1)) pa_nil)))), ?_⟩
    refine ⟨p, x, rfl, hp, q, y, rfl, hq, _, _, rfl, rfl, cmw zx.1 zy.2, q, y, rfl, hq, p, x, rfl, hp, _, _, rfl, rfl, cmw zy.1 zx.2, _, _, rfl, rfl, p, x, rfl, hp, q, y, rfl, hq, _, _, rfl, rfl, cmw zx.2 zy.2, _, _, rfl, dd hx hy, lt_up (abs_add_lt (abs_mul_lt zx.1 zy.2) (abs_mul_lt zy.1 zx.2)) (by decide), lt_up (abs_mul_lt zx.2 zy.2) (by decide), k⟩
theorem scIsWhole : FnScope ["thing"] ["thing"] (defScope sIsWhole) := ⟨rfl, rfl, rfl, by decide +kernel, rfl, by decide +kernel, by decide +kernel⟩
theorem ok_is_whole {f : Addr} {fd : FuncData} (F : Df K mg "is_whole" sIsWhole ["thing"] f fd) (T : Bt mg) : FnOk P w K mg base CX0 1 f fd ["thing"] (spWhole K) := by
  refine F.F.ok scIsWhole (fun vs H Q E h => ?_) (fun cdv A outer s H vs Q E hr h => ?_)
  · obtain ⟨i, rfl, _⟩ := h
    rfl
  · obtain ⟨i, rfl, k⟩ := h
    refine ⟨_, pss_one (ps_ret (pe_and (pe_callB call_isi (by rfl) T.isinstance (by decide +kernel) (pa_cons (pv 0) (pa_cons (pe_bltn (v := .ty "int") (by rfl) T.int (by decide +kernel) rfl) pa_nil))) (pe_one (pe_cmpR op_eq (pe_cn (pv 0)) pe_str (nomark _))))), ?_⟩
    refine ⟨_, rfl, _, _, _, _, true, rfl, .ty _, .base (.int i), kit_ty (a := "int") (b := "int") (by decide +kernel), _, rfl, iteT ?_⟩
    refine ⟨_, rfl, _, .int i, rfl, ?_⟩
    exact k
theorem scIsRow : FnScope ["thing"] ["thing"] (defScope sIsRow) := ⟨rfl, rfl, rfl, by decide +kernel, rfl, by decide +kernel, by decide +kernel⟩
theorem TyX.of_tup {K : PySem.W.Frag} {H : Hp} {p : Addr} {xs : List V} (h : SqT K H p xs) : TyX K H (.ref p) (.type "tuple") := by
  rcases h with (h | ⟨o, h⟩) | ⟨o, its, n, h, c, _⟩
  · exact .base (.tup h)
  · exact .fTuple h
  · exact .kTuple h c
theorem ok_is_row {f : Addr} {fd : FuncData} (F : Df K mg "is_row" sIsRow ["thing"] f fd) (T : Bt mg) : FnOk P w K mg base CX0 1 f fd ["thing"] (spRow K) := by
  refine F.F.ok scIsRow (fun vs H Q E h => ?_) (fun cdv A outer s H vs Q E hr h => ?_)
  · obtain ⟨i, xs, rfl, _⟩ := h
    rfl
  · obtain ⟨i, xs, rfl, hp, k⟩ := h
    refine ⟨_, pss_one (ps_ret (pe_and (pe_callB call_isi (by rfl) T.isinstance (by decide +kernel) (pa_cons (pv 0) (pa_cons (pe_bltn (v := .ty "tuple") (by rfl) T.tuple (by decide +kernel) rfl) pa_nil))) (pe_one (pe_cmpR op_eq (pe_cn (pv 0)) pe_str (nomark _))))), ?_⟩
    refine ⟨_, rfl, _, _, _, _, true, rfl, .ty _, TyX.of_tup hp, kit_ty (a := "tuple") (b := "tuple") (by decide +kernel), _, rfl, iteT ?_⟩
    refine ⟨_, rfl, _, .tup hp, rfl, ?_⟩
    exact k
theorem scIsRowOf : FnScope ["thing", "many"] ["thing", "many"] (defScope sIsRowOf) := ⟨rfl, rfl, rfl, by decide +kernel, rfl, by decide +kernel, by decide +kernel⟩
theorem ok_is_row_of {f f1 : Addr} {fd fd1 : FuncData} (F : Df K mg "is_row_of" sIsRowOf ["thing", "many"] f fd) (F1 : Df K mg "is_row" sIsRow ["thing"] f1 fd1) (T : Bt mg) : FnOk P w K mg base CX0 2 f fd ["thing", "many"] (spRowOf K) := by
  have G1 : FnOk P w K mg base CX0 1 f1 fd1 ["thing"] (spRow K) := ok_is_row F1 T
  refine F.F.ok scIsRowOf (fun vs H Q E h => ?_) (fun cdv A outer s H vs Q E hr h => ?_)
  · obtain ⟨i, xs, n, rfl, _⟩ := h
    rfl
  · obtain ⟨i, xs, n, rfl, hp, k⟩ := h
    refine ⟨_, pss_one (ps_ret (pe_and (pe_call G1 hr (by rfl) F1.g F1.F.kp F1.b .nil pass0 (pa_cons (pv 0) pa_nil)) (pe_one (pe_cmpR op_eq (pe_callB call_len_seq (by rfl) T.len PySem.boot_len (pa_cons (pv 0) pa_nil)) (pv 1) (nomark _))))), ?_⟩
    refine ⟨_, rfl, _, _, rfl, hp, _, rfl, iteT ?_⟩
    refine ⟨_, rfl, _, _, rfl, .inr hp, _, rfl, rfl, ?_⟩
    have e : decide (V.int (xs.length : Int) = V.int n) = decide ((xs.length : Int) = n) := by
      rw [decide_eq_decide]
      constructor
      · intro h; injection h
      · intro h; rw [h]
    rw [e]
    exact k
theorem scIsFraction : FnScope ["thing"] ["thing"] (defScope sIsFraction) := ⟨rfl, rfl, rfl, by decide +kernel, rfl, by decide +kernel, by decide +kernel⟩
theorem ok_is_fraction {f f1 f2 f3 : Addr} {fd fd1 fd2 fd3 : FuncData} (F : Df K mg "is_fraction" sIsFraction ["thing"] f fd) (F1 : Df K mg "is_row_of" sIsRowOf ["thing", "many"] f1 fd1) (F2 : Df K mg "is_row" sIsRow ["thing"] f2 fd2)
    (F3 : Df K mg "is_whole" sIsWhole ["thing"] f3 fd3) (T : Bt mg) : FnOk P w K mg base CX0 3 f fd ["thing"] (spIsFr K) := by
  have G1 : FnOk P w K mg base CX0 2 f1 fd1 ["thing", "many"] (spRowOf K) := ok_is_row_of F1 F2 T
  have G3 : FnOk P w K mg base CX0 1 f3 fd3 ["thing"] (spWhole K) := ok_is_whole F3 T
  refine F.F.ok scIsFraction (fun vs H Q E h => ?_) (fun cdv A outer s H vs Q E hr h => ?_)
  · obtain ⟨p, x, rfl, _⟩ := h
    rfl
  · obtain ⟨p, x, rfl, hp, k⟩ := h
    have hr1 : Room 1 _ := hr.mono (by decide)
    refine ⟨_, pss_cons (ps_if (PW.pt (pw_or (pt_not (pt_val (pe_call G1 hr (by rfl) F1.g F1.F.kp F1.b .nil pass0 (pa_cons (pv 0) (pa_cons pe_int pa_nil))))) (pw_or (pt_not (pt_val (pe_call G3 hr1 (by rfl) F3.g F3.F.kp F3.b .nil pass0 (pa_cons (pe_fst 0) pa_nil)))) (pw_or1 (pt_not (pt_val (pe_call G3 hr1 (by rfl) F3.g F3.F.kp F3.b .nil pass0 (pa_cons (pe_snd 0) pa_nil))))))))
        (pss_one (ps_ret pe_bl)) pss_nil)
      (pss_one (ps_ret (pe_and (pe_cmpR op_ge (pe_snd 0) pe_int (nomark _)) (pe_one (pe_cmpR op_eq (pe_callBfun cr_gcd (by rfl) T.gcd (pa_cons (pe_fst 0) (pa_cons (pe_snd 0) pa_nil))) pe_int (nomark _)))))), ?_⟩
    refine ⟨_, rfl, _, _, _, rfl, hp, _, rfl, iteF ?_⟩
    refine ⟨p, x, rfl, hp, _, rfl, _, rfl, iteF ?_⟩
    refine ⟨p, x, rfl, hp, _, rfl, _, rfl, iteF ?_⟩
    refine ⟨p, x, rfl, hp, _, _, rfl, rfl, _, rfl, ?_⟩
    by_cases h1 : 1 ≤ x.2
    · rw [decide_eq_true h1]
      refine iteT ?_
      refine ⟨p, x, rfl, hp, p, x, rfl, hp, _, _, rfl, rfl, ?_⟩
      have e : decide (V.int ((Nat.gcd x.1.natAbs x.2.natAbs : Nat) : Int) = V.int 1) = decide (Fr x) := by
        rw [decide_eq_decide]
        constructor
        · intro h
          injection h with h
          refine ⟨h1, ?_⟩
          show Nat.gcd x.1.natAbs x.2.natAbs = 1
          omega
        · intro h
          have := h.2
          show V.int ((Int.gcd x.1 x.2 : Nat) : Int) = V.int 1
          rw [this]
          rfl
      rw [e]
      exact k
    · rw [decide_eq_false h1]
      refine iteF ?_
      rw [decide_eq_false (fun h : Fr x => h1 h.1)] at k
      exact k
theorem scMixed : FnScope ["cell", "k"] ["cell", "k"] (defScope sMixed) := ⟨rfl, rfl, rfl, by decide +kernel, rfl, by decide +kernel, by decide +kernel⟩
theorem ok_mixed {f : Addr} {fd : FuncData} (F : Df K mg "_law_mixed" sMixed ["cell", "k"] f fd) (T : Bt mg) : FnOk P w K mg base CX0 1 f fd ["cell", "k"] spMixed := by
  refine F.F.ok scMixed (fun vs H Q E h => ?_) (fun cdv A outer s H vs Q E hr h => ?_)
  · obtain ⟨c, k, rfl, _⟩ := h
    rfl
  · obtain ⟨c, k, rfl, k0, k1, q⟩ := h
    refine ⟨_, pss_cons (ps_set (i := 0) scMixed.nd rfl (Or.inl rfl) (pe_op op_mod (pe_callTy call_int1 (by rfl) T.int (by decide +kernel) (pa_cons (pv 0) pa_nil)) pe_int))
      (pss_one (ps_ret (pe_op op_mod (pe_op op_mul (pe_op op_mod (pe_op op_add (pe_op op_add
        (pe_op op_mul (pv 0) (pe_op op_add pe_int (pe_op op_mul (pe_op op_mul pe_int (pv 1)) (pv 1))))
        (pe_op op_mul pe_int (pv 1))) pe_int) pe_int) pe_int) pe_int))), ?_⟩
    have hc0 : 0 ≤ c % 2147483647 := Int.emod_nonneg _ (by decide)
    have hc1 : c % 2147483647 < 2147483647 := Int.emod_lt_of_pos _ (by decide)
    refine ⟨_, rfl, .inl ⟨c, rfl, _, _, rfl, rfl, (by show (0 : Int) < 2147483647; decide), ?_⟩⟩
    generalize hcc : c % 2147483647 = cc at *
    refine ⟨_, rfl, _, rfl, _, _, rfl, rfl, .inl ⟨by decide, by decide⟩, _, rfl, _, _, rfl, rfl, .inr ⟨by omega, by omega⟩, _, _, rfl, rfl, ?_⟩
    generalize 48271 + 2 * k * k = z
    refine ⟨_, _, rfl, rfl, .inl ⟨by omega, by omega⟩, _, rfl, _, _, rfl, rfl, .inl ⟨by decide, by decide⟩, _, _, rfl, rfl, _, _, rfl, rfl, _, _, rfl, rfl, (by show (0 : Int) < 2147483647; decide), ?_⟩
    generalize hy : (cc * z + 69621 * k + 11) = y
    have hy0 : 0 ≤ y % 2147483647 := Int.emod_nonneg _ (by decide)
    have hy1 : y % 2147483647 < 2147483647 := Int.emod_lt_of_pos _ (by decide)
    refine ⟨_, _, rfl, rfl, .inl ⟨by omega, by omega⟩, _, _, rfl, rfl, (by show (0 : Int) < 2147483629; decide), ?_⟩
    exact q _ (Int.emod_nonneg _ (by decide)) (Int.emod_lt_of_pos _ (by decide))
theorem dpInts (K : PySem.W.Frag) (H : Hp) : ∀ ns : List Int, DpAll K H (ns.map V.int) (ns.map PyData.int)
  | [] => .nil
  | n :: ns => .cons (.int n) (dpInts K H ns)
theorem cl0 : ∀ ns : List Int, PyData.canLayAll0 (ns.map PyData.int) = true
  | [] => rfl
  | n :: ns => by
    show (PyData.canLay0 (.int n) && PyData.canLayAll0 (ns.map PyData.int)) = true
    rw [cl0 ns]
    rfl
theorem dp0 : ∀ ns : List Int, PyData.depthAll (ns.map PyData.int) ≤ 1
  | [] => by decide
  | n :: ns => by
    have := dp0 ns
    simp [PyData.depthAll, PyData.depth] at *
    omega
theorem shInts (ns : List Int) : SeqAt.shaped (.list (ns.map PyData.int)) = true := by
  have h1 := cl0 ns
  have h2 := dp0 ns
  simp [SeqAt.shaped, PyData.canLay0, PyData.depth, h1]
  omega
theorem scBegin : FnScope ["script", "cells", "cell"] ["script"] (defScope sBegin) := ⟨rfl, rfl, rfl, by decide +kernel, rfl, by decide +kernel, by decide +kernel⟩
theorem ok_begin {f : Addr} {fd : FuncData} (F : Df K mg "_law_begin" sBegin ["script"] f fd) (T : Bt mg) : FnOk P w K mg base CX0 1 f fd ["script"] (spBegin K) := by
  refine F.F.ok scBegin (fun vs H Q E h => ?_) (fun cdv A outer s H vs Q E hr h => ?_)
  · obtain ⟨a, ns, rfl, _⟩ := h
    rfl
  · obtain ⟨a, ns, rfl, hS, hlen, k⟩ := h
    refine ⟨_, Evl.pss_cut (ps_set (i := 1) scBegin.nd rfl (Or.inl rfl) (pe_ifExp (pt_cmpR (op_neD hr.units) (pv 0) (pe_lst pa_nil) (nomark _)) (pe_callTy call_list_of (by rfl) T.list (by decide +kernel) (pa_cons (pv 0) pa_nil)) (pe_lst (pa_cons pe_int pa_nil))))
      (pss_one (ps_ret (pe_disp (pps_cons pe_str (pv 1) (pps_cons pe_str
        (pe_lc (own := [("cell", 2)]) (g := gName 2) (tt := tYes) rfl scBegin.nd (pi_list (pv 1)) (blkOk_by (N := ["script", "cells", "cell"]) (sc := defScope sBegin) (by decide +kernel)) (fun _ _ _ _ _ => pg_name (i := 2) scBegin.nd rfl (Or.inl rfl)) (fun _ _ _ _ _ => pts_nil)
          (fun _ _ _ _ _ => pe_ifExp (pt_cmpR op_ge (pv 2) (pe_op op_pow pe_int pe_int) (nomark _)) (pv 2) pe_int))
        (pps_cons pe_str pe_int (pps_cons pe_str pe_int pps_nil)))) (by rfl) (by rfl) (fun z => by cases z) (by decide)))), ?_⟩
    refine ⟨fun σ' H' => ∃ (c : Addr) (cs : List Int), σ' = [some (.ref a), some (.ref c), none] ∧ Same H H' ∧ H c = none ∧ H' c = some (.lst (cs.map V.int)) ∧ 0 < cs.length ∧ cs.length ≤ 64, ?_, ?_⟩
    · refine ⟨_, rfl, (by show 0 ≤ sizeLine; decide), fun q0 hq0 => ?_⟩
      refine ⟨.list (ns.map PyData.int), .list [], .lst ((Same.new hq0).seq hS) (dpInts _ _ ns), .lst (SqL.of upd_same) .nil, shInts ns, rfl, _, rfl, ?_⟩
      cases ns with
      | nil =>
        refine iteF ?_
        refine ⟨(by show 1 ≤ sizeLine; decide), fun c hc => ?_⟩
        exact ⟨c, [0], rfl, (Same.new hq0).trans (Same.new hc), (Same.new hq0).free hc, upd_same, by decide, by decide⟩
      | cons n ns =>
        refine iteT ?_
        refine ⟨_, rfl, a, _, rfl, .inl ((Same.new hq0).seq hS), fun c hc => ?_⟩
        exact ⟨c, n :: ns, rfl, (Same.new hq0).trans (Same.new hc), (Same.new hq0).free hc, upd_same, by simp, by omega⟩
    · rintro σ' H1 ⟨c, cs, rfl, s1, nc, hc, c0, c64⟩
      intro p hp
      have ncp : c ≠ p := ne_of_none hc hp
      have hcp : (upd H1 p (.dK [])) c = some (.lst (cs.map V.int)) := by rw [upd_ne ncp]; exact hc
      refine ⟨_, rfl, _, rfl, c, rfl, ⟨_, SqL.of hcp⟩, fun D hD => ?_⟩
      have ncD : c ≠ D := ne_of_none hcp hD
      have npD : p ≠ D := ne_of_none upd_same hD
      refine lc_list (K := K) (a := c) (xs := cs.map V.int) (fun i H' => ∃ acc : List Int, H' = upd (upd H1 p (.dK [])) D (.lst (acc.map V.int)) ∧ acc.length = i ∧ ∀ v ∈ acc, 0 ≤ v) ⟨[], rfl, rfl, fun v hv => by cases hv⟩ ?_ ?_ ?_
      · rintro i H' hi ⟨acc, rfl, _, _⟩
        exact SqL.of (by rw [upd_ne ncD]; exact hcp)
      · rintro i x H' hx ⟨acc, rfl, hl, h0⟩
        have hil : i < (cs.map V.int).length := (List.getElem?_eq_some_iff.mp hx).1
        rw [List.length_map] at hil
        obtain ⟨z, rfl⟩ : ∃ z, x = V.int z := by
          rw [List.getElem?_map] at hx
          cases e : cs[i]? with
          | none =>
            rw [e] at hx
            cases hx
          | some z =>
            rw [e] at hx
            exact ⟨z, (Option.some.inj hx).symm⟩
        refine ⟨rfl, ?_⟩
        dsimp only [tYes]
        rw [if_pos rfl]
        refine ⟨_, rfl, 10, 18, rfl, rfl, ⟨by decide, by decide, by decide⟩, _, _, rfl, rfl, _, rfl, ?_⟩
        by_cases hz : (10 : Int) ^ (18 : Int).toNat ≤ z
        · rw [decide_eq_true hz]
          refine iteT ⟨_, rfl, _, upd_same, ?_, acc ++ [z], ?_, ?_, ?_⟩
          · rw [List.length_map]; exact small1000 (by omega)
          · rw [upd_upd, List.map_append]; rfl
          · rw [List.length_append]; simp [hl]
          · intro v hv
            rcases List.mem_append.mp hv with q | q
            · exact h0 v q
            · have := List.mem_singleton.mp q
              have h18 : (0 : Int) ≤ (10 : Int) ^ (18 : Int).toNat := by decide
              omega
        · rw [decide_eq_false hz]
          refine iteF ⟨_, upd_same, ?_, acc ++ [0], ?_, ?_, ?_⟩
          · rw [List.length_map]; exact small1000 (by omega)
          · rw [upd_upd, List.map_append]; rfl
          · rw [List.length_append]; simp [hl]
          · intro v hv
            rcases List.mem_append.mp hv with q | q
            · exact h0 v q
            · have := List.mem_singleton.mp q
              omega
      · rintro H' ⟨acc, rfl, hl, h0⟩
        refine ⟨by rw [upd_ne npD]; exact upd_same, [(Sum.inr ("cells" : Str), V.ref c), (Sum.inr ("lefts" : Str), .ref D), (Sum.inr ("at" : Str), .int 0), (Sum.inr ("room" : Str), .int 0)], rfl, (by show 4 ≤ 15; decide), ?_⟩
        rw [stD_make]
        have hD1 : H1 D = none := (Same.new hp).free hD
        refine k p c D _ (s1.free hp) (s1.trans ?_) ?_
        · intro b o e
          rw [upd_ne (ne_of_none e hp), upd_ne (ne_of_none e hD1), upd_ne (ne_of_none e hp)]
          exact e
        · refine ⟨upd_same, ncD, cs, acc, ?_, ?_, ?_, c0, c64, h0⟩
          · rw [upd_ne ncp, upd_ne ncD]; exact hcp
          · rw [upd_ne npD.symm, upd_same]
          · rw [hl, List.length_map]
theorem scDraw : FnScope ["state", "many", "at", "place", "left", "number"] ["state", "many"] (defScope sDraw) := ⟨rfl, rfl, rfl, by decide +kernel, rfl, by decide +kernel, by decide +kernel⟩
theorem ok_draw {f f1 : Addr} {fd fd1 : FuncData} (F : Df K mg "_law_draw" sDraw ["state", "many"] f fd) (F1 : Df K mg "_law_mixed" sMixed ["cell", "k"] f1 fd1) (T : Bt mg) : FnOk P w K mg base CX0 2 f fd ["state", "many"] spDraw := by
  have G1 : FnOk P w K mg base CX0 1 f1 fd1 ["cell", "k"] spMixed := ok_mixed F1 T
  refine F.F.ok scDraw (fun vs H Q E h => ?_) (fun cdv A outer s H vs Q E hr h => ?_)
  · obtain ⟨d, c, l, k, m, rfl, _⟩ := h
    rfl
  · obtain ⟨d, c, l, n, m, rfl, S, m0, m1, n1, k⟩ := h
    have hu := hu_of hr
    refine ⟨_, pss_cons (ps_set (i := 2) scDraw.nd rfl (Or.inl rfl) (pe_dget hu (pv 0) pe_str (fun _ _ => rfl)))
      (pss_cons (ps_dput hu (pv 0) pe_str (pe_op op_add (pv 2) pe_int) rfl)
      (pss_cons (ps_set (i := 3) scDraw.nd rfl (Or.inl rfl) (pe_op op_mod (pe_callTy call_int1 (by rfl) T.int (by decide +kernel) (pa_cons (pv 2) pa_nil)) (pe_callB call_len_seq (by rfl) T.len PySem.boot_len (pa_cons (pe_dget hu (pv 0) pe_str (fun _ _ => rfl)) pa_nil))))
      (pss_cons (ps_set (i := 4) scDraw.nd rfl (Or.inl rfl) (pe_ix ix_list (pe_dget hu (pv 0) pe_str (fun _ _ => rfl)) (pv 3) (fun _ _ => rfl)))
      (pss_cons (ps_if (pt_cmpR op_gt (pv 4) pe_int (nomark _))
        (pss_cons (ps_asg (pe_op op_fdivW (pv 4) (pv 1)) (pg_sub (pe_dget hu (pv 0) pe_str (fun _ _ => rfl)) (pv 3) set_list))
        (pss_one (ps_ret (pe_op op_mod (pe_callTy call_int1 (by rfl) T.int (by decide +kernel) (pa_cons (pv 4) pa_nil)) (pv 1))))) pss_nil)
      (pss_cons (ps_set (i := 5) scDraw.nd rfl (Or.inl rfl) (pe_call G1 hr (by rfl) F1.g F1.F.kp F1.b .nil pass0 (pa_cons (pe_call G1 hr (by rfl) F1.g F1.F.kp F1.b .nil pass0 (pa_cons (pe_ix ix_list (pe_dget hu (pv 0) pe_str (fun _ _ => rfl)) (pv 3) (fun _ _ => rfl)) (pa_cons (pv 2) pa_nil))) (pa_cons (pe_op op_add pe_int (pv 2)) pa_nil))))
      (pss_one (ps_ret (pe_op op_mod (pe_op op_fdiv (pe_callTy call_int1 (by rfl) T.int (by decide +kernel) (pa_cons (pe_op op_add (pe_op op_mul (pv 5) pe_int) (pe_call G1 hr (by rfl) F1.g F1.F.kp F1.b .nil pass0 (pa_cons (pv 5) (pa_cons (pe_op op_add pe_int (pv 2)) pa_nil)))) pa_nil)) pe_int) (pv 1))))))))), ?_⟩
    obtain ⟨hd, ncl, cs, ls, hc, hl, hcl, c0, c64, hls⟩ := S
    have ndc : d ≠ c := ne_of hd hc (by intro z; cases z)
    have ndl : d ≠ l := ne_of hd hl (by intro z; cases z)
    refine ⟨_, rfl, d, _, rfl, (stD_at c l n) ▸ DGet.k (k := Sum.inr ("at" : Str)) hd, ?_⟩
    refine ⟨_, rfl, _, _, rfl, rfl, _, rfl, d, _, rfl, DPut.k (k := Sum.inr ("at" : Str)) hd (by show 4 < sizeLine; decide), ?_⟩
    rw [stD_put]
    have hd2 : (upd H d (.dK (stD c l ((n : Int) + 1)))) d = some (.dK (stD c l ((n + 1 : Nat) : Int))) := upd_same
    have hc2 : (upd H d (.dK (stD c l ((n : Int) + 1)))) c = some (.lst (cs.map V.int)) := by rw [upd_ne ndc.symm]; exact hc
    have hl2 : (upd H d (.dK (stD c l ((n : Int) + 1)))) l = some (.lst (ls.map V.int)) := by rw [upd_ne ndl.symm]; exact hl
    have fm2 : Fm d l H (upd H d (.dK (stD c l ((n : Int) + 1)))) := fun b o e nb _ => by rw [upd_ne nb]; exact e
    generalize upd H d (.dK (stD c l ((n : Int) + 1))) = H2 at *
    have el : ((n : Int) % ((cs.map V.int).length : Int)) = ((n % cs.length : Nat) : Int) := by
      rw [List.length_map]
      omega
    refine ⟨_, rfl, .inl ⟨_, rfl, _, rfl, d, _, rfl, (stD_cells c l _) ▸ DGet.k (k := Sum.inr ("cells" : Str)) hd2, c, _, rfl, .inl (SqL.of hc2), _, _, rfl, rfl, (by show (0 : Int) < ((cs.map V.int).length : Int); rw [List.length_map]; omega), ?_⟩⟩
    simp only [el]
    have hj : n % cs.length < cs.length := Nat.mod_lt _ c0
    generalize n % cs.length = j at *
    obtain ⟨y, hy⟩ : ∃ y, ls[j]? = some y := ⟨ls[j]'(by omega), by simp⟩
    obtain ⟨x, hx⟩ : ∃ x, cs[j]? = some x := ⟨cs[j]'(by omega), by simp⟩
    have y0 : 0 ≤ y := hls y (List.mem_of_getElem? hy)
    have hyv : atI (ls.map V.int) ((j : Nat) : Int) = some (.int y) := atI_nat (by rw [List.getElem?_map, hy]; rfl)
    have hxv : atI (cs.map V.int) ((j : Nat) : Int) = some (.int x) := atI_nat (by rw [List.getElem?_map, hx]; rfl)
    refine ⟨_, rfl, d, _, rfl, (stD_lefts c l _) ▸ DGet.k (k := Sum.inr ("lefts" : Str)) hd2, _, rfl, l, _, _, _, rfl, rfl, SqL.of hl2, hyv, ?_⟩
    refine ⟨_, rfl, _, _, rfl, rfl, _, rfl, ?_⟩
    by_cases hy1 : 0 < y
    · rw [decide_eq_true hy1]
      refine iteT ?_
      refine ⟨_, rfl, _, rfl, _, _, rfl, rfl, wide_div m0 m1 (by decide) (by decide), ?_⟩
      refine ⟨_, rfl, d, _, rfl, (stD_lefts c l _) ▸ DGet.k (k := Sum.inr ("lefts" : Str)) hd2, _, rfl, l, _, _, j, rfl, rfl, hl2, ?_, ?_⟩
      · rw [List.length_map]
        unfold ixN
        rw [if_pos (by omega), if_pos (by omega)]
        simp
      refine ⟨_, rfl, .inl ⟨_, rfl, _, rfl, _, _, rfl, rfl, m0, ?_⟩⟩
      refine k _ _ (Int.emod_nonneg _ (by omega)) (Int.emod_lt_of_pos _ m0) ⟨by rw [upd_ne ndl]; exact hd2, ncl, cs, ls.set j (y / m), by rw [upd_ne ncl]; exact hc2, ?_, by rw [List.length_set]; exact hcl, c0, c64, ?_⟩ ?_
      · rw [upd_same, List.map_set]
      · intro v hv
        rcases List.mem_or_eq_of_mem_set hv with q | q
        · exact hls v q
        · rw [q]; exact Int.ediv_nonneg y0 (by omega)
      · intro b o e n1 n2
        rw [upd_ne n2]
        exact fm2 b o e n1 n2
    · rw [decide_eq_false hy1]
      refine iteF ?_
      refine ⟨_, rfl, d, _, rfl, (stD_cells c l _) ▸ DGet.k (k := Sum.inr ("cells" : Str)) hd2, _, rfl, c, _, _, _, rfl, rfl, SqL.of hc2, hxv, _, rfl, x, n, rfl, by omega, by omega, fun r1 a0 a1 => ?_⟩
      refine ⟨_, rfl, _, _, rfl, rfl, _, _, rfl, by omega, by omega, fun r2 b0 b1 => ?_⟩
      refine ⟨_, rfl, _, _, rfl, rfl, .inl ⟨by omega, by omega⟩, _, rfl, _, rfl, _, _, rfl, rfl, _, _, rfl, by omega, by omega, fun r3 e0 e1 => ?_⟩
      refine ⟨_, _, rfl, rfl, .inl ⟨_, rfl, _, _, rfl, rfl, ⟨by decide, by decide⟩, _, rfl, _, _, rfl, rfl, m0, ?_⟩⟩
      exact k _ _ (Int.emod_nonneg _ (by omega)) (Int.emod_lt_of_pos _ m0) ⟨hd2, ncl, cs, ls, hc2, hl2, hcl, c0, c64, hls⟩ fm2
theorem scLawRatio : FnScope ["top", "bottom", "one", "other"] ["top", "bottom"] (defScope sLawRatio) := ⟨rfl, rfl, rfl, by decide +kernel, rfl, by decide +kernel, by decide +kernel⟩
theorem ok_law_ratio {f : Addr} {fd : FuncData} (F : Df K mg "_law_ratio" sLawRatio ["top", "bottom"] f fd) (T : Bt mg) : FnOk P w K mg base CX0 1 f fd ["top", "bottom"] spLowP := by
  refine F.F.ok scLawRatio (fun vs H Q E h => ?_) (fun cdv A outer s H vs Q E hr h => ?_)
  · obtain ⟨t, b, rfl, _⟩ := h
    rfl
  · obtain ⟨t, b, rfl, hb, h1, h2, k⟩ := h
    refine ⟨_, pss_cons (ps_par (i := 2) (j := 3) (by rfl) scLawRatio.nd rfl rfl (by decide) rfl rfl (pa_cons (pe_callB call_abs (by rfl) T.abs (by decide +kernel) (pa_cons (pv 0) pa_nil)) (pa_cons (pv 1) pa_nil)) (by rfl))
      (pss_cons (ps_while PassesOwn.never (pt_cmpR op_ne (pv 3) pe_int (nomark _)) (pss_one (ps_par (i := 2) (j := 3) (by rfl) scLawRatio.nd rfl rfl (by decide) rfl rfl (pa_cons (pv 3) (pa_cons (pe_op op_mod (pe_callTy call_int1 (by rfl) T.int (by decide +kernel) (pa_cons (pv 2) pa_nil)) (pv 3)) pa_nil)) (by rfl))))
      (pss_one (ps_ret (pe_tup (pa_cons (pe_op op_fdivX (pv 0) (pv 2)) (pa_cons (pe_op op_fdivX (pv 1) (pv 2)) pa_nil)))))), ?_⟩
    refine ⟨_, rfl, t, rfl, _, rfl, _, _, rfl, ?_⟩
    have ha : (if t < 0 then -t else t) = ((t.natAbs : Nat) : Int) := by split <;> omega
    refine while_by (fun σ H' => H' = H ∧ ∃ a c : Int, σ = [some (.int t), some (.int b), some (.int a), some (.int c)] ∧ 0 ≤ a ∧ 0 ≤ c ∧ Int.gcd a c = Int.gcd t b) (fun σ _ => match σ with | [_, _, _, some (.int c)] => c.natAbs | _ => 0) ?_ ?_ ?_
    · refine ⟨rfl, _, b, rfl, ?_, Int.le_of_lt hb, ?_⟩
      · rw [ha]; omega
      · rw [ha]
        show Nat.gcd ((t.natAbs : Nat) : Int).natAbs b.natAbs = Nat.gcd t.natAbs b.natAbs
        rw [Int.natAbs_natCast]
    · rintro σ H' ⟨rfl, a, c, rfl, a0, c0, e⟩
      refine ⟨_, rfl, rfl, _, rfl, ?_⟩
      by_cases hc : c = 0
      · subst hc
        refine iteNS rfl ?_
        have hg : a = cm t b := by
          have e2 : cm t b = (Int.gcd t b : Int) := if_neg (by omega)
          rw [e2, ← e, Int.gcd_zero_right]
          omega
        subst hg
        have hcn := cm_ne (t := t) (b := b) (by omega)
        have hz : (cm t b).natAbs.log2 < 9000 := by
          rw [cm_abs]
          have : Int.gcd t b ≤ b.natAbs := Nat.le_of_dvd (by omega) (Nat.gcd_dvd_right _ _)
          exact Nat.lt_of_lt_of_le (PySem.Flt.log2_lt_of (by decide) (Nat.lt_of_le_of_lt this h2)) (by decide)
        exact ⟨_, rfl, _, rfl, _, _, rfl, rfl, ⟨hcn, hz⟩, _, rfl, _, rfl, _, _, rfl, rfl, ⟨hcn, hz⟩, (by show 2 ≤ sizeLine; decide), fun p hp => k p hp⟩
      · rw [decide_eq_false (fun h => hc (by injection h))]
        refine iteT ?_
        have c1 : 0 < c := by omega
        refine ⟨_, rfl, _, rfl, .inl ⟨_, rfl, _, rfl, _, _, rfl, rfl, c1, _, _, rfl, ?_⟩⟩
        have m0 := Int.emod_nonneg a (by omega : c ≠ 0)
        have m1 := Int.emod_lt_of_pos a c1
        refine ⟨⟨rfl, c, a % c, rfl, c0, m0, ?_⟩, ?_⟩
        · rw [euclid_step a0 c1]; exact e
        · show (a % c).natAbs < c.natAbs
          omega
    · exact fun σ H' Q Q' i ⟨v, e, sc, kk, ek, q⟩ => ⟨v, e, sc, kk, ek, i _ _ q⟩
theorem scLawPlus : FnScope ["one", "other"] ["one", "other"] (defScope sLawPlus) := ⟨rfl, rfl, rfl, by decide +kernel, rfl, by decide +kernel, by decide +kernel⟩
theorem ok_law_plus {f fl : Addr} {fd fdl : FuncData} (F : Df K mg "_law_plus" sLawPlus ["one", "other"] f fd) (L : Df K mg "_law_ratio" sLawRatio ["top", "bottom"] fl fdl) (T : Bt mg) : FnOk P w K mg base CX0 2 f fd ["one", "other"] (spF2 K (fun _ _ => True) fadd) := by
  have G : FnOk P w K mg base CX0 1 fl fdl ["top", "bottom"] spLowP := ok_law_ratio L T
  refine F.F.ok scLawPlus (fun vs H Q E h => ?_) (fun cdv A outer s H vs Q E hr h => ?_)
  · obtain ⟨p, q, x, y, rfl, _⟩ := h
    rfl
  · obtain ⟨p, q, x, y, rfl, hp, hq, hx, hy, zx, zy, ok, k⟩ := h
    refine ⟨_, pss_one (ps_ret (pe_call G hr (by rfl) L.g L.F.kp L.b .nil pass0 (pa_cons (pe_op op_add (pe_op op_mulW (pe_fst 0) (pe_snd 1)) (pe_op op_mulW (pe_fst 1) (pe_snd 0))) (pa_cons (pe_op op_mulW (pe_snd 0) (pe_snd 1)) pa_nil)))), ?_⟩
    refine ⟨p, x, rfl, hp, q, y, rfl, hq, _, _, rfl, rfl, cmw zx.1 zy.2, q, y, rfl, hq, p, x, rfl, hp, _, _, rfl, rfl, cmw zy.1 zx.2, _, _, rfl, rfl, p, x, rfl, hp, q, y, rfl, hq, _, _, rfl, rfl, cmw zx.2 zy.2, _, _, rfl, dd0 hx hy, lt_up (abs_add_lt (abs_mul_lt zx.1 zy.2) (abs_mul_lt zy.1 zx.2)) (by decide), lt_up (abs_mul_lt zx.2 zy.2) (by decide), k⟩
theorem scLawLess : FnScope ["one", "other"] ["one", "other"] (defScope sLawLess) := ⟨rfl, rfl, rfl, by decide +kernel, rfl, by decide +kernel, by decide +kernel⟩
theorem ok_law_less {f fl : Addr} {fd fdl : FuncData} (F : Df K mg "_law_less" sLawLess ["one", "other"] f fd) (L : Df K mg "_law_ratio" sLawRatio ["top", "bottom"] fl fdl) (T : Bt mg) : FnOk P w K mg base CX0 2 f fd ["one", "other"] (spF2 K (fun _ _ => True) fsub) := by
  have G : FnOk P w K mg base CX0 1 fl fdl ["top", "bottom"] spLowP := ok_law_ratio L T
  refine F.F.ok scLawLess (fun vs H Q E h => ?_) (fun cdv A outer s H vs Q E hr h => ?_)
  · obtain ⟨p, q, x, y, rfl, _⟩ := h
    rfl
  · obtain ⟨p, q, x, y, rfl, hp, hq, hx, hy, zx, zy, ok, k⟩ := h
    refine ⟨_, pss_one (ps_ret (pe_call G hr (by rfl) L.g L.F.kp L.b .nil pass0 (pa_cons (pe_op op_sub (pe_op op_mulW (pe_fst 0) (pe_snd 1)) (pe_op op_mulW (pe_fst 1) (pe_snd 0))) (pa_cons (pe_op op_mulW (pe_snd 0) (pe_snd 1)) pa_nil)))), ?_⟩
    refine ⟨p, x, rfl, hp, q, y, rfl, hq, _, _, rfl, rfl, cmw zx.1 zy.2, q, y, rfl, hq, p, x, rfl, hp, _, _, rfl, rfl, cmw zy.1 zx.2, _, _, rfl, rfl, p, x, rfl, hp, q, y, rfl, hq, _, _, rfl, rfl, cmw zx.2 zy.2, _, _, rfl, dd0 hx hy, lt_up (abs_sub_lt (abs_mul_lt zx.1 zy.2) (abs_mul_lt zy.1 zx.2)) (by decide), lt_up (abs_mul_lt zx.2 zy.2) (by decide), k⟩
theorem scLawTimes : FnScope ["one", "other"] ["one", "other"] (defScope sLawTimes) := ⟨rfl, rfl, rfl, by decide +kernel, rfl, by decide +kernel, by decide +kernel⟩
theorem ok_law_times {f fl : Addr} {fd fdl : FuncData} (F : Df K mg "_law_times" sLawTimes ["one", "other"] f fd) (L : Df K mg "_law_ratio" sLawRatio ["top", "bottom"] fl fdl) (T : Bt mg) : FnOk P w K mg base CX0 2 f fd ["one", "other"] (spF2 K (fun _ _ => True) fmul) := by
  have G : FnOk P w K mg base CX0 1 fl fdl ["top", "bottom"] spLowP := ok_law_ratio L T
  refine F.F.ok scLawTimes (fun vs H Q E h => ?_) (fun cdv A outer s H vs Q E hr h => ?_)
  · obtain ⟨p, q, x, y, rfl, _⟩ := h
    rfl
  · obtain ⟨p, q, x, y, rfl, hp, hq, hx, hy, zx, zy, ok, k⟩ := h
    refine ⟨_, pss_one (ps_ret (pe_call G hr (by rfl) L.g L.F.kp L.b .nil pass0 (pa_cons (pe_op op_mulW (pe_fst 0) (pe_fst 1)) (pa_cons (pe_op op_mulW (pe_snd 0) (pe_snd 1)) pa_nil)))), ?_⟩
    refine ⟨p, x, rfl, hp, q, y, rfl, hq, _, _, rfl, rfl, cmw zx.1 zy.1, p, x, rfl, hp, q, y, rfl, hq, _, _, rfl, rfl, cmw zx.2 zy.2, _, _, rfl, dd0 hx hy, lt_up (abs_mul_lt zx.1 zy.1) (by decide), lt_up (abs_mul_lt zx.2 zy.2) (by decide), k⟩
theorem scLawUnder : FnScope ["one", "other"] ["one", "other"] (defScope sLawUnder) := ⟨rfl, rfl, rfl, by decide +kernel, rfl, by decide +kernel, by decide +kernel⟩
theorem ok_law_under {f : Addr} {fd : FuncData} (F : Df K mg "_law_under" sLawUnder ["one", "other"] f fd) (T : Bt mg) : FnOk P w K mg base CX0 1 f fd ["one", "other"] (spB2 K flt) := by
  refine F.F.ok scLawUnder (fun vs H Q E h => ?_) (fun cdv A outer s H vs Q E hr h => ?_)
  · obtain ⟨p, q, x, y, rfl, _⟩ := h
    rfl
  · obtain ⟨p, q, x, y, rfl, hp, hq, hx, hy, zx, zy, k⟩ := h
    refine ⟨_, pss_one (ps_ret (pe_cmpR op_lt (pe_op op_mulW (pe_fst 0) (pe_snd 1)) (pe_op op_mulW (pe_fst 1) (pe_snd 0)) (nomark _))), ?_⟩
    refine ⟨p, x, rfl, hp, q, y, rfl, hq, _, _, rfl, rfl, cmw zx.1 zy.2, q, y, rfl, hq, p, x, rfl, hp, _, _, rfl, rfl, cmw zy.1 zx.2, _, _, rfl, rfl, k⟩
end
end CS
set_option Elab.async false
set_option maxRecDepth 100000
set_option maxHeartbeats 8000000
set_option linter.unusedVariables false
namespace CS
open PySem L2
section
variable {P : Program} {w : World} {K : PySem.W.Frag} {mg : Str → Option Value} {base : Heap}
theorem scScaled : FnScope ["fraction", "by"] ["fraction", "by"] (defScope sScaled) := ⟨rfl, rfl, rfl, by decide +kernel, rfl, by decide +kernel, by decide +kernel⟩
theorem ok_scaled {f fl : Addr} {fd fdl : FuncData} (F : Df K mg "scaled" sScaled ["fraction", "by"] f fd) (L : Df K mg "lowered" sLowered ["top", "bottom"] fl fdl) (T : Bt mg) : FnOk P w K mg base CX0 2 f fd ["fraction", "by"] (spScaled K) := by
  have G : FnOk P w K mg base CX0 1 fl fdl ["top", "bottom"] spLow := ok_lowered L T
  refine F.F.ok scScaled (fun vs H Q E h => ?_) (fun cdv A outer s H vs Q E hr h => ?_)
  · obtain ⟨p, x, k, rfl, _⟩ := h
    rfl
  · obtain ⟨p, x, k, rfl, hp, hx, zx, hk, q⟩ := h
    have hk2 : k.natAbs < 2 ^ 1900 := lt_up hk (by decide)
    refine ⟨_, pss_one (ps_ret (pe_call G hr (by rfl) L.g L.F.kp L.b .nil pass0 (pa_cons (pe_op op_mulW (pe_fst 0) (pv 1)) (pa_cons (pe_snd 0) pa_nil)))), ?_⟩
    exact ⟨p, x, rfl, hp, _, rfl, _, _, rfl, rfl, cmw zx.1 hk2, p, x, rfl, hp, _, _, rfl, hx.ne, lt_up (abs_mul_lt zx.1 hk2) (by decide), lt_up zx.2 (by decide), q⟩
theorem scSumOf : FnScope ["fractions", "whole", "fraction"] ["fractions"] (defScope sSumOf) := ⟨rfl, rfl, rfl, by decide +kernel, rfl, by decide +kernel, by decide +kernel⟩
theorem ok_sum_of {f f1 aN : Addr} {fd fd1 : FuncData} (F : Df K mg "sum_of" sSumOf ["fractions"] f fd) (D1 : Df K mg "added" sAdded ["one", "other"] f1 fd1) (G1 : FnOk P w K mg base CX0 2 f1 fd1 ["one", "other"] (spF2 K (fun _ _ => True) fadd)) (gN : mg "NOUGHT" = some (.ref aN)) (hN : ∀ H, FT K H aN (0, 1)) : FnOk P w K mg base CX0 3 f fd ["fractions"] (spSum K) := by
  refine F.F.ok scSumOf (fun vs H Q E h => ?_) (fun cdv A outer s H vs Q E hr h => ?_)
  · obtain ⟨a, ws, xs, rfl, _⟩ := h
    rfl
  · obtain ⟨a, ws, xs, rfl, hS, hF, hx, hlen, k⟩ := h
    refine ⟨_, pss_cons (ps_set (i := 1) scSumOf.nd rfl (Or.inl rfl) (pe_glob (v := .ref aN) (by rfl) gN rfl))
      (pss_cons (ps_for PassesOwn.never rfl (pi_list (pv 0)) (pg_name (i := 2) scSumOf.nd rfl (Or.inl rfl)) (pss_one (ps_set (i := 1) scSumOf.nd rfl (Or.inl rfl) (pe_call G1 hr (by rfl) D1.g D1.F.kp D1.b .nil pass0 (pa_cons (pv 1) (pa_cons (pv 2) pa_nil))))))
      (pss_one (ps_ret (pv 1)))), ?_⟩
    refine ⟨_, rfl, a, rfl, ⟨_, hS⟩, for_list (K := K) (a := a) (xs := ws) (fun i σ H' => ∃ p v, σ = [some (.ref a), some (.ref p), v] ∧ Same H H' ∧ FT K H' p ((xs.take i).foldl fadd (0, 1))) ⟨aN, none, rfl, Same.refl H, hN H⟩ (fun i σ H' _ ⟨_, _, _, s, _⟩ => s.seq hS) ?_ ?_⟩
    · rintro i v σ H' hi ⟨p, u, rfl, s1, hp⟩
      obtain ⟨r, x, rfl, hxi, hr'⟩ := hF.get hi
      have hi2 : i < xs.length := (List.getElem?_eq_some_iff.mp hxi).1
      have hxm := hx x (List.mem_of_getElem? hxi)
      have hz : Sz 1900 ((xs.take i).foldl fadd (0, 1)) := by
        refine (fold_sz 100 (xs.take i) (0, 1) 1 fr01 (sz01 (by decide)) fun y hy => hx y (List.mem_of_mem_take hy)).up ?_
        rw [List.length_take]
        omega
      have hf : Fr ((xs.take i).foldl fadd (0, 1)) := fold_fr _ _ fr01 fun y hy => (hx y (List.mem_of_mem_take hy)).1
      refine ⟨_, rfl, _, rfl, p, r, _, x, rfl, hp, s1.tup hr', hf, hxm.1, hz, hxm.2.up (by decide), trivial, fun q hq => ?_⟩
      refine ⟨q, _, rfl, s1.trans (Same.new hq), ?_⟩
      rw [take_snoc hxi, List.foldl_append]
      exact FT.new
    · rintro σ H' ⟨p, u, rfl, s1, hp⟩
      rw [hF.len, List.take_length] at hp
      exact ⟨_, rfl, k _ _ s1 hp⟩
theorem scTotalOf : FnScope ["share", "_", "weight"] ["share"] (defScope sTotalOf) := ⟨rfl, rfl, rfl, by decide +kernel, rfl, by decide +kernel, by decide +kernel⟩
theorem ok_total_of {f f1 : Addr} {fd fd1 : FuncData} (F : Df K mg "total_of" sTotalOf ["share"] f fd) (D1 : Df K mg "sum_of" sSumOf ["fractions"] f1 fd1) (G1 : FnOk P w K mg base CX0 3 f1 fd1 ["fractions"] (spSum K)) : FnOk P w K mg base CX0 4 f fd ["share"] (spShF K ftot) := by
  refine F.F.ok scTotalOf (fun vs H Q E h => ?_) (fun cdv A outer s H vs Q E hr h => ?_)
  · obtain ⟨p, xs, rfl, _⟩ := h
    rfl
  · obtain ⟨p, xs, rfl, ⟨vs, hp, hP⟩, hx, hm, hlen, k⟩ := h
    refine ⟨_, pss_one (ps_ret (pe_call G1 hr (by rfl) D1.g D1.F.kp D1.b .nil pass0 (pa_cons (pe_lc (own := [("_", 1), ("weight", 2)]) (g := gTup K 2 (gCons (gName 1) (gCons (gName 2) gNil))) (tt := tYes) rfl scTotalOf.nd (pi_tup (pv 0)) (blkOk_by (N := ["share", "_", "weight"]) (sc := defScope sTotalOf) (by decide +kernel)) (fun _ _ _ _ _ => pg_tup rfl (pgs_cons (pg_name (i := 1) scTotalOf.nd rfl (Or.inl rfl)) (pgs_cons (pg_name (i := 2) scTotalOf.nd rfl (Or.inl rfl)) pgs_nil))) (fun _ _ _ _ _ => pts_nil) (fun _ _ _ _ _ => pv 2)) pa_nil))), ?_⟩
    refine ⟨_, rfl, p, rfl, ⟨_, hp⟩, fun D hD => lc_tup (K := K) (a := p) (xs := vs) (fun i H' => LcF K H D ((xs.take i).map (·.2)) H') (LcF.start hD) (fun i H' _ ⟨ws, _, s1, _⟩ => s1.tup hp) ?_ ?_⟩
    · rintro i v H' hi ⟨ws, h1, s1, hf⟩
      obtain ⟨q, r, m, x, rfl, hxi, hq, hr'⟩ := hP.get hi
      have hi2 : i < xs.length := (List.getElem?_eq_some_iff.mp hxi).1
      refine ⟨q, _, rfl, s1.tup hq, rfl, _, _, rfl, _, _, rfl, rfl, rfl, ?_⟩
      dsimp only [tYes]
      rw [if_pos rfl]
      refine ⟨_, rfl, ws, h1, small1000 ?_, ?_⟩
      · rw [hf.len, List.length_map, List.length_take]; omega
      · show LcF K H D _ _
        rw [take_snoc hxi, List.map_append]
        exact LcF.step hD h1 s1 hf (s1.tup hr')
    · rintro H' ⟨ws, h1, s1, hf⟩
      rw [hP.len, List.take_length] at hf
      refine ⟨D, ws, _, rfl, SqL.of h1, hf, ?_, by rw [List.length_map]; exact hlen, fun H2 r s2 hr2 => k _ _ (s1.trans s2) hr2⟩
      intro x hxm
      obtain ⟨a, ha, rfl⟩ := List.mem_map.mp hxm
      exact ⟨(hx a ha).1, (hx a ha).2.up (by decide)⟩
theorem scMomentOf : FnScope ["share", "number", "weight"] ["share"] (defScope sMomentOf) := ⟨rfl, rfl, rfl, by decide +kernel, rfl, by decide +kernel, by decide +kernel⟩
theorem ok_moment_of {f f1 f2 : Addr} {fd fd1 fd2 : FuncData} (F : Df K mg "moment_of" sMomentOf ["share"] f fd) (D1 : Df K mg "sum_of" sSumOf ["fractions"] f1 fd1) (G1 : FnOk P w K mg base CX0 3 f1 fd1 ["fractions"] (spSum K)) (D2 : Df K mg "scaled" sScaled ["fraction", "by"] f2 fd2) (G2 : FnOk P w K mg base CX0 2 f2 fd2 ["fraction", "by"] (spScaled K)) : FnOk P w K mg base CX0 4 f fd ["share"] (spShF K fmom) := by
  refine F.F.ok scMomentOf (fun vs H Q E h => ?_) (fun cdv A outer s H vs Q E hr h => ?_)
  · obtain ⟨p, xs, rfl, _⟩ := h
    rfl
  · obtain ⟨p, xs, rfl, ⟨vs, hp, hP⟩, hx, hm, hlen, k⟩ := h
    refine ⟨_, pss_one (ps_ret (pe_call G1 hr (by rfl) D1.g D1.F.kp D1.b .nil pass0 (pa_cons (pe_lc (own := [("number", 1), ("weight", 2)]) (g := gTup K 2 (gCons (gName 1) (gCons (gName 2) gNil))) (tt := tYes) rfl scMomentOf.nd (pi_tup (pv 0)) (blkOk_by (N := ["share", "number", "weight"]) (sc := defScope sMomentOf) (by decide +kernel)) (fun _ _ _ _ _ => pg_tup rfl (pgs_cons (pg_name (i := 1) scMomentOf.nd rfl (Or.inl rfl)) (pgs_cons (pg_name (i := 2) scMomentOf.nd rfl (Or.inl rfl)) pgs_nil))) (fun _ _ _ _ _ => pts_nil) (fun _ _ _ _ _ => pe_call G2 (hr.mono (by decide)) (by rfl) D2.g D2.F.kp D2.b .nil pass0 (pa_cons (pv 2) (pa_cons (pv 1) pa_nil)))) pa_nil))), ?_⟩
    refine ⟨_, rfl, p, rfl, ⟨_, hp⟩, fun D hD => lc_tup (K := K) (a := p) (xs := vs) (fun i H' => LcF K H D ((xs.take i).map fun a => scl a.2 a.1) H') (LcF.start hD) (fun i H' _ ⟨ws, _, s1, _⟩ => s1.tup hp) ?_ ?_⟩
    · rintro i v H' hi ⟨ws, h1, s1, hf⟩
      obtain ⟨q, r, m, x, rfl, hxi, hq, hr'⟩ := hP.get hi
      have hi2 : i < xs.length := (List.getElem?_eq_some_iff.mp hxi).1
      have hxm := hx _ (List.mem_of_getElem? hxi)
      have hmm := hm _ (List.mem_of_getElem? hxi)
      refine ⟨q, _, rfl, s1.tup hq, rfl, _, _, rfl, _, _, rfl, rfl, rfl, ?_⟩
      dsimp only [tYes]
      rw [if_pos rfl]
      refine ⟨_, rfl, _, rfl, r, x, m, rfl, s1.tup hr', hxm.1, hxm.2.up (by decide), by simp only at hmm; omega, fun t ht => ?_⟩
      have k1 := Same.new (o := .tup [.int (scl x m).1, .int (scl x m).2]) ht
      refine ⟨ws, k1 _ _ h1, small1000 ?_, ?_⟩
      · rw [hf.len, List.length_map, List.length_take]; omega
      · show LcF K H D _ _
        rw [take_snoc hxi, List.map_append]
        exact LcF.step hD (k1 _ _ h1) (s1.trans k1) (hf.tk (tk_same k1)) FT.new
    · rintro H' ⟨ws, h1, s1, hf⟩
      rw [hP.len, List.take_length] at hf
      refine ⟨D, ws, _, rfl, SqL.of h1, hf, ?_, by rw [List.length_map]; exact hlen, fun H2 r s2 hr2 => k _ _ (s1.trans s2) hr2⟩
      intro x hxm
      obtain ⟨a, ha, rfl⟩ := List.mem_map.mp hxm
      refine ⟨scl_fr (hx a ha).1 _, (scl_sz (m := 8) (hx a ha).1 (hx a ha).2 ?_).up (by decide)⟩
      have := hm a ha
      omega
end
end CS
set_option Elab.async false
set_option maxRecDepth 100000
set_option maxHeartbeats 8000000
set_option linter.unusedVariables false
namespace CS
open PySem L2
section
variable {P : Program} {w : World} {K : PySem.W.Frag} {mg : Str → Option Value} {base : Heap}
theorem dget_or {H : Hp} {d aN : Addr} {kvs : List (Key × V)} {f : List (Int × Fx)} (hd : H d = some (.dK kvs)) (hD : DPr K H kvs f) (hN : FT K H aN (0, 1)) (k : Int) : ∃ (o : Option V) (r : Addr), DGet H d (.int k) o ∧ o.getD (.ref aN) = .ref r ∧ FT K H r (lk f k) := by
  by_cases hm : k ∈ f.map (·.1)
  · obtain ⟨r, h1, h2⟩ := hD.val k hm
    refine ⟨some (.ref r), r, ?_, rfl, h2⟩
    rw [← h1]
    exact DGet.k (k := Sum.inl k) hd
  · have h1 := hD.non k hm
    refine ⟨none, aN, ?_, rfl, ?_⟩
    · rw [← h1]
      exact DGet.k (k := Sum.inl k) hd
    · rw [lk_none hm]
      exact hN
def spGatT (K : PySem.W.Frag) : Sp := fun vs H Q _ => ∃ p ws xs, vs = [.ref p] ∧ SqT K H p ws ∧ PrsAt K H ws xs ∧ AllF 90 xs ∧ xs.length ≤ 16 ∧ ∀ H' r ys, Same H H' → ShAt K H' r ys → IsS (gat [] xs) ys → Q (.ref r) H'
def spGatL (K : PySem.W.Frag) : Sp := fun vs H Q _ => ∃ p ws xs, vs = [.ref p] ∧ SqL K H p ws ∧ PrsAt K H ws xs ∧ AllF 90 xs ∧ xs.length ≤ 16 ∧ ∀ H' r ys, Same H H' → ShAt K H' r ys → IsS (gat [] xs) ys → Q (.ref r) H'
theorem scGathered : FnScope ["pairs", "sums", "key", "fraction"] ["pairs"] (defScope sGathered) := ⟨rfl, rfl, rfl, by decide +kernel, rfl, by decide +kernel, by decide +kernel⟩
theorem ok_gatheredT {f f1 aN : Addr} {fd fd1 : FuncData} (F : Df K mg "gathered" sGathered ["pairs"] f fd) (D1 : Df K mg "added" sAdded ["one", "other"] f1 fd1) (G1 : FnOk P w K mg base CX0 2 f1 fd1 ["one", "other"] (spF2 K (fun _ _ => True) fadd)) (gN : mg "NOUGHT" = some (.ref aN)) (hN : ∀ H, FT K H aN (0, 1)) (T : Bt mg) : FnOk P w K mg base CX0 3 f fd ["pairs"] (spGatT K) := by
  refine F.F.ok scGathered (fun vs H Q E h => ?_) (fun cdv A outer s H vs Q E hr h => ?_)
  · obtain ⟨p, ws, xs, rfl, _⟩ := h
    rfl
  · obtain ⟨p, ws, xs, rfl, hp, hP, hx, hlen, k⟩ := h
    have hu := hu_of hr
    refine ⟨_, pss_cons (ps_set (i := 1) scGathered.nd rfl (Or.inr rfl) pe_dnewK)
      (pss_cons (ps_for PassesOwn.never rfl (pi_tup (pv 0)) (pg_tup rfl (pgs_cons (pg_name (i := 2) scGathered.nd rfl (Or.inl rfl)) (pgs_cons (pg_name (i := 3) scGathered.nd rfl (Or.inl rfl)) pgs_nil))) (pss_one (ps_dput hu (pv 1) (pv 2) (pe_call G1 hr (by rfl) D1.g D1.F.kp D1.b .nil pass0 (pa_cons (pe_dget2 hu (pv 1) (pv 2) (pe_glob (v := .ref aN) (by rfl) gN rfl) ⟨rfl, rfl, rfl, rfl⟩) (pa_cons (pv 3) pa_nil))) rfl)))
      (pss_one (ps_ret (pe_callTy call_tuple_of (by rfl) T.tuple (by decide +kernel) (pa_cons (pe_lc (own := [("key", 2)]) (g := gName 2) (tt := tTest (tOp (rNeD K) (tDGet (tVar 1) (tVar 2)) (tC (.ref aN)))) rfl scGathered.nd (pi_list (pe_callB (call_sortedDI rfl) (by rfl) T.sorted (by decide +kernel) (pa_cons (pv 1) pa_nil))) (blkOk_by (N := ["pairs", "sums", "key", "fraction"]) (sc := defScope sGathered) (by decide +kernel)) (fun _ _ _ _ _ => pg_name (i := 2) scGathered.nd rfl (Or.inl rfl)) (fun _ _ _ _ _ => pts_one (pt_cmpR (op_neD hr.units) (pe_dget hu (pv 1) (pv 2) (fun _ _ => rfl)) (pe_glob (v := .ref aN) (by rfl) gN rfl) (nomark _))) (fun _ _ _ _ _ => pe_tup (pa_cons (pv 2) (pa_cons (pe_dget hu (pv 1) (pv 2) (fun _ _ => rfl)) pa_nil)))) pa_nil))))), ?_⟩
    intro d hd
    have s0 : Same H (upd H d (.dK [])) := Same.new hd
    refine ⟨_, rfl, p, rfl, ⟨_, (fun s1 : Same H _ => s1.tup hp) s0⟩, for_tup (K := K) (a := p) (xs := ws) (fun i σ H' => ∃ u v kvs, σ = [some (.ref p), some (.ref d), u, v] ∧ Same H H' ∧ H' d = some (.dK kvs) ∧ DPr K H' kvs (gat [] (xs.take i))) ⟨none, none, [], rfl, s0, upd_same, .nil⟩ (fun i σ H' _ ⟨_, _, _, _, s1, _⟩ => s1.tup hp) ?_ ?_⟩
    · rintro i v σ H' hi ⟨u1, u2, kvs, rfl, s1, hdk, hD⟩
      obtain ⟨q, r, m, x, rfl, hxi, hq, hr'⟩ := hP.get hi
      have hi2 : i < xs.length := (List.getElem?_eq_some_iff.mp hxi).1
      have hxm := hx _ (List.mem_of_getElem? hxi)
      refine ⟨q, _, rfl, s1.tup hq, rfl, _, _, rfl, _, _, rfl, rfl, ?_⟩
      obtain ⟨o, a, g1, g2, g3⟩ := dget_or hdk hD (hN H') m
      have hz : Sz 1900 (lk (gat [] (xs.take i)) m) := by
        refine (gat_sz (n := 90) hx.take m).up ?_
        rw [List.length_take]
        omega
      refine ⟨_, rfl, d, rfl, .inl ⟨kvs, .inl hdk⟩, _, rfl, o, g1, ?_⟩
      rw [g2]
      refine ⟨_, rfl, a, r, _, x, rfl, g3, s1.tup hr', gat_fr (n := 90) hx.take m, hxm.1, hz, hxm.2.up (by decide), trivial, fun t ht => ?_⟩
      have k1 := Same.new (o := .tup [.int (fadd (lk (gat [] (xs.take i)) m) x).1, .int (fadd (lk (gat [] (xs.take i)) m) x).2]) ht
      have hl : kvs.length < sizeLine := by
        refine small1000 ?_
        rw [hD.len]
        have := gat_len (xs.take i) []
        rw [List.length_take, List.length_nil] at this
        omega
      refine ⟨_, rfl, _, rfl, d, _, rfl, DPut.k (k := Sum.inl m) (k1 _ _ hdk) hl, ?_⟩
      refine ⟨_, _, _, rfl, same_upd hd (s1.trans k1), upd_same, ?_⟩
      rw [take_snoc hxi, gat_snoc]
      have hn := gat_nodup (xs.take i) [] List.nodup_nil
      exact ((hD.tk (tk_same k1)).put hn FT.new).tk (tk_dk (k1 _ _ hdk))
    · rintro σ H1 ⟨u1, u2, kvs, rfl, s1, hdk, hD⟩
      rw [hP.len, List.take_length] at hD
      have hn := gat_nodup xs [] List.nodup_nil
      have hl : ((gat [] xs).map (·.1)).length < 64 := by
        have := gat_len xs []
        rw [List.length_nil] at this
        rw [List.length_map]
        omega
      refine ⟨_, rfl, d, kvs, (gat [] xs).map (·.1), rfl, .inl hdk, hD.keys, hl, fun ys t perm srt ht => ?_⟩
      have k1 := Same.new (o := .lst (ys.map V.int)) ht
      have hlen2 : ys.length ≤ 16 := by
        rw [perm.length_eq, List.length_map]
        have := gat_len xs []
        rw [List.length_nil] at this
        omega
      have hT : (upd H1 t (.lst (ys.map V.int))) t = some (.lst (ys.map V.int)) := upd_same
      have hD2 := hD.tk (tk_same k1)
      have hdk2 := k1 _ _ hdk
      have s2 := s1.trans k1
      generalize upd H1 t (.lst (ys.map V.int)) = H2 at *
      refine ⟨t, rfl, ⟨_, SqL.of hT⟩, fun D hDn => lc_list (K := K) (a := t) (xs := ys.map V.int) (fun i H' => LcP K H2 D ((((ys.take i).filter fun k => decide (lk (gat [] xs) k ≠ (0, 1))).map fun k => (k, lk (gat [] xs) k))) H') (LcP.start hDn) (fun i H' _ ⟨_, _, s3, _⟩ => SqL.of (s3 _ _ hT)) ?_ ?_⟩
      · rintro i v H' hi ⟨us, h1, s3, hf⟩
        rw [List.getElem?_map] at hi
        obtain ⟨m, hmi, rfl⟩ : ∃ m, ys[i]? = some m ∧ v = V.int m := by
          cases e : ys[i]? with
          | none => rw [e] at hi; cases hi
          | some z => rw [e] at hi; exact ⟨z, rfl, (Option.some.inj hi).symm⟩
        have hmem : m ∈ (gat [] xs).map (·.1) := perm.mem_iff.mp (List.mem_of_getElem? hmi)
        obtain ⟨r, g1, g2⟩ := (hD2.tk (tk_same s3)).val m hmem
        have hg : DGet H' d (.int m) (some (.ref r)) := by
          rw [← g1]
          exact DGet.k (k := Sum.inl m) (s3 _ _ hdk2)
        refine ⟨rfl, ?_⟩
        refine ⟨_, rfl, _, rfl, d, _, rfl, hg, ?_⟩
        refine ⟨frD (lk (gat [] xs) m), frD (0, 1), ftDp g2, ftDp (hN _), rfl, rfl, _, rfl, ?_⟩
        dsimp only
        rw [eqvFr]
        have hsz : us.length ≤ 1000 := by
          rw [hf.len, List.length_map]
          have := List.length_filter_le (fun k => decide (lk (gat [] xs) k ≠ (0, 1))) (ys.take i)
          rw [List.length_take] at this
          omega
        by_cases hc : lk (gat [] xs) m = (0, 1)
        · rw [if_neg (by simp [hc])]
          show LcP K H2 D _ _
          rw [take_snoc hmi, List.filter_append, List.map_append, List.filter_cons_of_neg (by simp [hc])]
          show LcP K H2 D (_ ++ []) _
          rw [List.append_nil]
          exact ⟨us, h1, s3, hf⟩
        · rw [if_pos (by simp [hc])]
          refine ⟨_, rfl, _, rfl, _, rfl, d, _, rfl, hg, (by show 2 ≤ sizeLine; decide), fun t2 ht2 => ?_⟩
          have k2 := Same.new (o := .tup [V.int m, .ref r]) ht2
          refine ⟨us, k2 _ _ h1, small1000 hsz, ?_⟩
          show LcP K H2 D _ _
          rw [take_snoc hmi, List.filter_append, List.map_append, List.filter_cons_of_pos (by simp [hc])]
          exact LcP.step hDn (k2 _ _ h1) (s3.trans k2) (hf.tk (tk_same k2)) (SqT.of upd_same) (k2.tup g2)
      · rintro H' ⟨us, h1, s3, hf⟩
        rw [List.length_map, List.take_length] at hf
        refine ⟨D, us, rfl, .inl ⟨SqL.of h1, fun l hl => ?_⟩⟩
        have k3 := Same.new (o := .tup us) hl
        exact k _ l _ (s2.trans (s3.trans k3)) ⟨us, SqT.of upd_same, hf.tk (tk_same k3)⟩ (isS_of perm hn srt)
theorem ok_gatheredL {f f1 aN : Addr} {fd fd1 : FuncData} (F : Df K mg "gathered" sGathered ["pairs"] f fd) (D1 : Df K mg "added" sAdded ["one", "other"] f1 fd1) (G1 : FnOk P w K mg base CX0 2 f1 fd1 ["one", "other"] (spF2 K (fun _ _ => True) fadd)) (gN : mg "NOUGHT" = some (.ref aN)) (hN : ∀ H, FT K H aN (0, 1)) (T : Bt mg) : FnOk P w K mg base CX0 3 f fd ["pairs"] (spGatL K) := by
  refine F.F.ok scGathered (fun vs H Q E h => ?_) (fun cdv A outer s H vs Q E hr h => ?_)
  · obtain ⟨p, ws, xs, rfl, _⟩ := h
    rfl
  · obtain ⟨p, ws, xs, rfl, hp, hP, hx, hlen, k⟩ := h
    have hu := hu_of hr
    refine ⟨_, pss_cons (ps_set (i := 1) scGathered.nd rfl (Or.inr rfl) pe_dnewK)
      (pss_cons (ps_for PassesOwn.never rfl (pi_list (pv 0)) (pg_tup rfl (pgs_cons (pg_name (i := 2) scGathered.nd rfl (Or.inl rfl)) (pgs_cons (pg_name (i := 3) scGathered.nd rfl (Or.inl rfl)) pgs_nil))) (pss_one (ps_dput hu (pv 1) (pv 2) (pe_call G1 hr (by rfl) D1.g D1.F.kp D1.b .nil pass0 (pa_cons (pe_dget2 hu (pv 1) (pv 2) (pe_glob (v := .ref aN) (by rfl) gN rfl) ⟨rfl, rfl, rfl, rfl⟩) (pa_cons (pv 3) pa_nil))) rfl)))
      (pss_one (ps_ret (pe_callTy call_tuple_of (by rfl) T.tuple (by decide +kernel) (pa_cons (pe_lc (own := [("key", 2)]) (g := gName 2) (tt := tTest (tOp (rNeD K) (tDGet (tVar 1) (tVar 2)) (tC (.ref aN)))) rfl scGathered.nd (pi_list (pe_callB (call_sortedDI rfl) (by rfl) T.sorted (by decide +kernel) (pa_cons (pv 1) pa_nil))) (blkOk_by (N := ["pairs", "sums", "key", "fraction"]) (sc := defScope sGathered) (by decide +kernel)) (fun _ _ _ _ _ => pg_name (i := 2) scGathered.nd rfl (Or.inl rfl)) (fun _ _ _ _ _ => pts_one (pt_cmpR (op_neD hr.units) (pe_dget hu (pv 1) (pv 2) (fun _ _ => rfl)) (pe_glob (v := .ref aN) (by rfl) gN rfl) (nomark _))) (fun _ _ _ _ _ => pe_tup (pa_cons (pv 2) (pa_cons (pe_dget hu (pv 1) (pv 2) (fun _ _ => rfl)) pa_nil)))) pa_nil))))), ?_⟩
    intro d hd
    have s0 : Same H (upd H d (.dK [])) := Same.new hd
    refine ⟨_, rfl, p, rfl, ⟨_, (fun s1 : Same H _ => s1.seq hp) s0⟩, for_list (K := K) (a := p) (xs := ws) (fun i σ H' => ∃ u v kvs, σ = [some (.ref p), some (.ref d), u, v] ∧ Same H H' ∧ H' d = some (.dK kvs) ∧ DPr K H' kvs (gat [] (xs.take i))) ⟨none, none, [], rfl, s0, upd_same, .nil⟩ (fun i σ H' _ ⟨_, _, _, _, s1, _⟩ => s1.seq hp) ?_ ?_⟩
    · rintro i v σ H' hi ⟨u1, u2, kvs, rfl, s1, hdk, hD⟩
      obtain ⟨q, r, m, x, rfl, hxi, hq, hr'⟩ := hP.get hi
      have hi2 : i < xs.length := (List.getElem?_eq_some_iff.mp hxi).1
      have hxm := hx _ (List.mem_of_getElem? hxi)
      refine ⟨q, _, rfl, s1.tup hq, rfl, _, _, rfl, _, _, rfl, rfl, ?_⟩
      obtain ⟨o, a, g1, g2, g3⟩ := dget_or hdk hD (hN H') m
      have hz : Sz 1900 (lk (gat [] (xs.take i)) m) := by
        refine (gat_sz (n := 90) hx.take m).up ?_
        rw [List.length_take]
        omega
      refine ⟨_, rfl, d, rfl, .inl ⟨kvs, .inl hdk⟩, _, rfl, o, g1, ?_⟩
      rw [g2]
      refine ⟨_, rfl, a, r, _, x, rfl, g3, s1.tup hr', gat_fr (n := 90) hx.take m, hxm.1, hz, hxm.2.up (by decide), trivial, fun t ht => ?_⟩
      have k1 := Same.new (o := .tup [.int (fadd (lk (gat [] (xs.take i)) m) x).1, .int (fadd (lk (gat [] (xs.take i)) m) x).2]) ht
      have hl : kvs.length < sizeLine := by
        refine small1000 ?_
        rw [hD.len]
        have := gat_len (xs.take i) []
        rw [List.length_take, List.length_nil] at this
        omega
      refine ⟨_, rfl, _, rfl, d, _, rfl, DPut.k (k := Sum.inl m) (k1 _ _ hdk) hl, ?_⟩
      refine ⟨_, _, _, rfl, same_upd hd (s1.trans k1), upd_same, ?_⟩
      rw [take_snoc hxi, gat_snoc]
      have hn := gat_nodup (xs.take i) [] List.nodup_nil
      exact ((hD.tk (tk_same k1)).put hn FT.new).tk (tk_dk (k1 _ _ hdk))
    · rintro σ H1 ⟨u1, u2, kvs, rfl, s1, hdk, hD⟩
      rw [hP.len, List.take_length] at hD
      have hn := gat_nodup xs [] List.nodup_nil
      have hl : ((gat [] xs).map (·.1)).length < 64 := by
        have := gat_len xs []
        rw [List.length_nil] at this
        rw [List.length_map]
        omega
      refine ⟨_, rfl, d, kvs, (gat [] xs).map (·.1), rfl, .inl hdk, hD.keys, hl, fun ys t perm srt ht => ?_⟩
      have k1 := Same.new (o := .lst (ys.map V.int)) ht
      have hlen2 : ys.length ≤ 16 := by
        rw [perm.length_eq, List.length_map]
        have := gat_len xs []
        rw [List.length_nil] at this
        omega
      have hT : (upd H1 t (.lst (ys.map V.int))) t = some (.lst (ys.map V.int)) := upd_same
      have hD2 := hD.tk (tk_same k1)
      have hdk2 := k1 _ _ hdk
      have s2 := s1.trans k1
      generalize upd H1 t (.lst (ys.map V.int)) = H2 at *
      refine ⟨t, rfl, ⟨_, SqL.of hT⟩, fun D hDn => lc_list (K := K) (a := t) (xs := ys.map V.int) (fun i H' => LcP K H2 D ((((ys.take i).filter fun k => decide (lk (gat [] xs) k ≠ (0, 1))).map fun k => (k, lk (gat [] xs) k))) H') (LcP.start hDn) (fun i H' _ ⟨_, _, s3, _⟩ => SqL.of (s3 _ _ hT)) ?_ ?_⟩
      · rintro i v H' hi ⟨us, h1, s3, hf⟩
        rw [List.getElem?_map] at hi
        obtain ⟨m, hmi, rfl⟩ : ∃ m, ys[i]? = some m ∧ v = V.int m := by
          cases e : ys[i]? with
          | none => rw [e] at hi; cases hi
          | some z => rw [e] at hi; exact ⟨z, rfl, (Option.some.inj hi).symm⟩
        have hmem : m ∈ (gat [] xs).map (·.1) := perm.mem_iff.mp (List.mem_of_getElem? hmi)
        obtain ⟨r, g1, g2⟩ := (hD2.tk (tk_same s3)).val m hmem
        have hg : DGet H' d (.int m) (some (.ref r)) := by
          rw [← g1]
          exact DGet.k (k := Sum.inl m) (s3 _ _ hdk2)
        refine ⟨rfl, ?_⟩
        refine ⟨_, rfl, _, rfl, d, _, rfl, hg, ?_⟩
        refine ⟨frD (lk (gat [] xs) m), frD (0, 1), ftDp g2, ftDp (hN _), rfl, rfl, _, rfl, ?_⟩
        dsimp only
        rw [eqvFr]
        have hsz : us.length ≤ 1000 := by
          rw [hf.len, List.length_map]
          have := List.length_filter_le (fun k => decide (lk (gat [] xs) k ≠ (0, 1))) (ys.take i)
          rw [List.length_take] at this
          omega
        by_cases hc : lk (gat [] xs) m = (0, 1)
        · rw [if_neg (by simp [hc])]
          show LcP K H2 D _ _
          rw [take_snoc hmi, List.filter_append, List.map_append, List.filter_cons_of_neg (by simp [hc])]
          show LcP K H2 D (_ ++ []) _
          rw [List.append_nil]
          exact ⟨us, h1, s3, hf⟩
        · rw [if_pos (by simp [hc])]
          refine ⟨_, rfl, _, rfl, _, rfl, d, _, rfl, hg, (by show 2 ≤ sizeLine; decide), fun t2 ht2 => ?_⟩
          have k2 := Same.new (o := .tup [V.int m, .ref r]) ht2
          refine ⟨us, k2 _ _ h1, small1000 hsz, ?_⟩
          show LcP K H2 D _ _
          rw [take_snoc hmi, List.filter_append, List.map_append, List.filter_cons_of_pos (by simp [hc])]
          exact LcP.step hDn (k2 _ _ h1) (s3.trans k2) (hf.tk (tk_same k2)) (SqT.of upd_same) (k2.tup g2)
      · rintro H' ⟨us, h1, s3, hf⟩
        rw [List.length_map, List.take_length] at hf
        refine ⟨D, us, rfl, .inl ⟨SqL.of h1, fun l hl => ?_⟩⟩
        have k3 := Same.new (o := .tup us) hl
        exact k _ l _ (s2.trans (s3.trans k3)) ⟨us, SqT.of upd_same, hf.tk (tk_same k3)⟩ (isS_of perm hn srt)
end
end CS
set_option Elab.async false
set_option maxRecDepth 100000
set_option maxHeartbeats 8000000
set_option linter.unusedVariables false
namespace CS
open PySem L2
section
variable {P : Program} {w : World} {K : PySem.W.Frag} {mg : Str → Option Value} {base : Heap}
def GoodP (a : Int × Fx) : Prop := -100 ≤ a.1 ∧ a.1 ≤ 100 ∧ Fr a.2 ∧ 0 < a.2.1
instance (a : Int × Fx) : Decidable (GoodP a) := by unfold GoodP; infer_instance
def spWW : Sp := fun vs H Q _ => ∃ i l m : Int, vs = [.int i, .int l, .int m] ∧ Q (.bl (decide (l ≤ i ∧ i ≤ m))) H
def spNum : Sp := fun vs H Q _ => ∃ i : Int, vs = [.int i] ∧ Q (.bl (decide (-100 ≤ i ∧ i ≤ 100))) H
def spWt (K : PySem.W.Frag) : Sp := fun vs H Q _ => ∃ p x, vs = [.ref p] ∧ FT K H p x ∧ Q (.bl (decide (Fr x ∧ 0 < x.1))) H
def spShP (K : PySem.W.Frag) : Sp := fun vs H Q _ => ∃ q r m x, vs = [.ref q] ∧ SqT K H q [.int m, .ref r] ∧ FT K H r x ∧ Q (.bl (decide (GoodP (m, x)))) H
def spAsc (K : PySem.W.Frag) : Sp := fun vs H Q _ => ∃ (a : Addr) (ns : List Int), vs = [.ref a] ∧ SqL K H a (ns.map V.int) ∧ ns.length ≤ 900 ∧ ∀ H', Same H H' → Q (.bl (decide (ns.Pairwise (· < ·)))) H'
def spIsSh (K : PySem.W.Frag) : Sp := fun vs H Q _ => ∃ p xs, vs = [.ref p] ∧ ShAt K H p xs ∧ xs.length ≤ 900 ∧ ∀ H', Same H H' → Q (.bl (decide (Shr xs))) H'
def spNeedSh (K : PySem.W.Frag) : Sp := fun vs H Q _ => ∃ p xs, vs = [.ref p] ∧ ShAt K H p xs ∧ Shr xs ∧ ∀ H', Same H H' → Q (.ref p) H'
def spNeedNum : Sp := fun vs H Q _ => ∃ i : Int, vs = [.int i] ∧ -100 ≤ i ∧ i ≤ 100 ∧ Q (.int i) H
def spTot (K : PySem.W.Frag) (f : List (Int × Fx) → Fx) : Sp := fun vs H Q _ => ∃ p xs, vs = [.ref p] ∧ ShAt K H p xs ∧ Shr xs ∧ AllF 90 xs ∧ ∀ H' r, Same H H' → FT K H' r (f xs) → Q (.ref r) H'
def spRest (K : PySem.W.Frag) : Sp := fun vs H Q _ => ∃ p xs k, vs = [.ref p, .int k] ∧ ShAt K H p xs ∧ Shr xs ∧ AllF 90 xs ∧ -100 ≤ k ∧ k ≤ 100 ∧ ∀ H' r, Same H H' → FT K H' r (frest xs k) → Q (.ref r) H'
theorem Shr.abs {xs : List (Int × Fx)} (h : Shr xs) : ∀ a ∈ xs, a.1.natAbs ≤ 200 := fun a ha => by
  have := h.2.1 a ha
  omega
theorem Shr.len {xs : List (Int × Fx)} (h : Shr xs) : xs.length ≤ 16 := by have := h.1; omega
theorem scIsWholeWithin : FnScope ["thing", "least", "most"] ["thing", "least", "most"] (defScope sIsWholeWithin) := ⟨rfl, rfl, rfl, by decide +kernel, rfl, by decide +kernel, by decide +kernel⟩
theorem ok_is_whole_within {f f1 : Addr} {fd fd1 : FuncData} (F : Df K mg "is_whole_within" sIsWholeWithin ["thing", "least", "most"] f fd) (D1 : Df K mg "is_whole" sIsWhole ["thing"] f1 fd1) (T : Bt mg) : FnOk P w K mg base CX0 2 f fd ["thing", "least", "most"] spWW := by
  have G1 : FnOk P w K mg base CX0 1 f1 fd1 ["thing"] (spWhole K) := ok_is_whole D1 T
  refine F.F.ok scIsWholeWithin (fun vs H Q E h => ?_) (fun cdv A outer s H vs Q E hr h => ?_)
  · obtain ⟨i, l, m, rfl, _⟩ := h
    rfl
  · obtain ⟨i, l, m, rfl, k⟩ := h
    refine ⟨_, pss_one (ps_ret (pe_and (pe_call G1 hr (by rfl) D1.g D1.F.kp D1.b .nil pass0 (pa_cons (pv 0) pa_nil)) (pe_and (pe_cmpR op_le (pv 1) (pv 0) (nomark _)) (pe_one (pe_cmpR op_le (pv 0) (pv 2) (nomark _)))))), ?_⟩
    refine ⟨_, rfl, _, rfl, _, rfl, iteT ?_⟩
    refine ⟨_, rfl, _, rfl, _, _, rfl, rfl, _, rfl, ?_⟩
    by_cases h1 : l ≤ i
    · rw [decide_eq_true h1]
      refine iteT ⟨_, rfl, _, rfl, _, _, rfl, rfl, ?_⟩
      have e : decide (i ≤ m) = decide (l ≤ i ∧ i ≤ m) := by simp [h1]
      rw [← e] at k
      exact k
    · rw [decide_eq_false h1]
      refine iteF ?_
      rw [decide_eq_false (fun h => h1 h.1)] at k
      exact k
theorem scIsNumber : FnScope ["thing"] ["thing"] (defScope sIsNumber) := ⟨rfl, rfl, rfl, by decide +kernel, rfl, by decide +kernel, by decide +kernel⟩
theorem ok_is_number {f f1 : Addr} {fd fd1 : FuncData} (F : Df K mg "is_number" sIsNumber ["thing"] f fd) (D1 : Df K mg "is_whole_within" sIsWholeWithin ["thing", "least", "most"] f1 fd1) (G1 : FnOk P w K mg base CX0 2 f1 fd1 ["thing", "least", "most"] spWW) : FnOk P w K mg base CX0 3 f fd ["thing"] spNum := by
  refine F.F.ok scIsNumber (fun vs H Q E h => ?_) (fun cdv A outer s H vs Q E hr h => ?_)
  · obtain ⟨i, rfl, _⟩ := h
    rfl
  · obtain ⟨i, rfl, k⟩ := h
    refine ⟨_, pss_one (ps_ret (pe_call G1 hr (by rfl) D1.g D1.F.kp D1.b .nil pass0 (pa_cons (pv 0) (pa_cons (pe_un un_neg pe_int) (pa_cons (pe_int) pa_nil))))), ?_⟩
    exact ⟨_, rfl, _, rfl, i, _, _, rfl, k⟩
theorem scIsWeight : FnScope ["thing"] ["thing"] (defScope sIsWeight) := ⟨rfl, rfl, rfl, by decide +kernel, rfl, by decide +kernel, by decide +kernel⟩
theorem ok_is_weight {f f1 : Addr} {fd fd1 : FuncData} (F : Df K mg "is_weight" sIsWeight ["thing"] f fd) (D1 : Df K mg "is_fraction" sIsFraction ["thing"] f1 fd1) (G1 : FnOk P w K mg base CX0 3 f1 fd1 ["thing"] (spIsFr K)) : FnOk P w K mg base CX0 4 f fd ["thing"] (spWt K) := by
  refine F.F.ok scIsWeight (fun vs H Q E h => ?_) (fun cdv A outer s H vs Q E hr h => ?_)
  · obtain ⟨p, x, rfl, _⟩ := h
    rfl
  · obtain ⟨p, x, rfl, hp, k⟩ := h
    refine ⟨_, pss_one (ps_ret (pe_and (pe_call G1 hr (by rfl) D1.g D1.F.kp D1.b .nil pass0 (pa_cons (pv 0) pa_nil)) (pe_one (pe_cmpR op_gt (pe_fst 0) pe_int (nomark _))))), ?_⟩
    refine ⟨_, rfl, p, x, rfl, hp, _, rfl, ?_⟩
    by_cases h1 : Fr x
    · rw [decide_eq_true h1]
      refine iteT ⟨p, x, rfl, hp, _, _, rfl, rfl, ?_⟩
      have e : decide (0 < x.1) = decide (Fr x ∧ 0 < x.1) := by simp [h1]
      rw [← e] at k
      exact k
    · rw [decide_eq_false h1]
      refine iteF ?_
      rw [decide_eq_false (fun h => h1 h.1)] at k
      exact k
theorem scIsSharePair : FnScope ["thing"] ["thing"] (defScope sIsSharePair) := ⟨rfl, rfl, rfl, by decide +kernel, rfl, by decide +kernel, by decide +kernel⟩
theorem ok_is_share_pair {f f1 f2 f3 : Addr} {fd fd1 fd2 fd3 : FuncData} (F : Df K mg "is_share_pair" sIsSharePair ["thing"] f fd) (D1 : Df K mg "is_row_of" sIsRowOf ["thing", "many"] f1 fd1) (G1 : FnOk P w K mg base CX0 2 f1 fd1 ["thing", "many"] (spRowOf K)) (D2 : Df K mg "is_number" sIsNumber ["thing"] f2 fd2) (G2 : FnOk P w K mg base CX0 3 f2 fd2 ["thing"] spNum)
    (D3 : Df K mg "is_weight" sIsWeight ["thing"] f3 fd3) (G3 : FnOk P w K mg base CX0 4 f3 fd3 ["thing"] (spWt K)) : FnOk P w K mg base CX0 5 f fd ["thing"] (spShP K) := by
  refine F.F.ok scIsSharePair (fun vs H Q E h => ?_) (fun cdv A outer s H vs Q E hr h => ?_)
  · obtain ⟨q, r, m, x, rfl, _⟩ := h
    rfl
  · obtain ⟨q, r, m, x, rfl, hq, hr2, k⟩ := h
    refine ⟨_, pss_one (ps_ret (pe_and (pe_call G1 (hr.mono (by decide)) (by rfl) D1.g D1.F.kp D1.b .nil pass0 (pa_cons (pv 0) (pa_cons (pe_int) pa_nil))) (pe_and (pe_call G2 (hr.mono (by decide)) (by rfl) D2.g D2.F.kp D2.b .nil pass0 (pa_cons (pe_ix ix_tup (pv 0) pe_int (fun _ _ => rfl)) pa_nil)) (pe_one (pe_call G3 hr (by rfl) D3.g D3.F.kp D3.b .nil pass0 (pa_cons (pe_ix ix_tup (pv 0) pe_int (fun _ _ => rfl)) pa_nil)))))), ?_⟩
    refine ⟨_, rfl, q, _, 2, rfl, hq, _, rfl, iteT ?_⟩
    refine ⟨_, rfl, q, _, 0, .int m, rfl, rfl, hq, atI_nat (j := 0) rfl, m, rfl, _, rfl, ?_⟩
    by_cases h1 : -100 ≤ m ∧ m ≤ 100
    · rw [decide_eq_true h1]
      refine iteT ⟨_, rfl, q, _, 1, .ref r, rfl, rfl, hq, atI_nat (j := 1) rfl, r, x, rfl, hr2, ?_⟩
      have e : decide (Fr x ∧ 0 < x.1) = decide (GoodP (m, x)) := by simp [GoodP, h1]
      rw [← e] at k
      exact k
    · rw [decide_eq_false h1]
      refine iteF ?_
      rw [decide_eq_false (fun h : GoodP (m, x) => h1 ⟨h.1, h.2.1⟩)] at k
      exact k
theorem cut1 (xs : List V) : cutV xs (some 1) none = xs.drop 1 := by
  unfold cutV
  have e1 : HT.sIx xs.length 0 (some 1) = min 1 xs.length := HT.sIx_nat xs.length 0 1
  rw [e1, HT.sIx_none]
  cases xs with
  | nil => rfl
  | cons a t =>
    have : min 1 (a :: t).length = 1 := by simp
    rw [this]
    simp
theorem scAscends : FnScope ["things", "low", "high"] ["things"] (defScope sAscends) := ⟨rfl, rfl, rfl, by decide +kernel, rfl, by decide +kernel, by decide +kernel⟩
theorem ok_ascends {f : Addr} {fd : FuncData} (F : Df K mg "ascends" sAscends ["things"] f fd) (T : Bt mg) : FnOk P w K mg base CX0 1 f fd ["things"] (spAsc K) := by
  refine F.F.ok scAscends (fun vs H Q E h => ?_) (fun cdv A outer s H vs Q E hr h => ?_)
  · obtain ⟨a, ns, rfl, _⟩ := h
    rfl
  · obtain ⟨a, ns, rfl, hS, hlen, k⟩ := h
    refine ⟨_, pss_one (ps_ret (pe_callB (cr_all rfl) (by rfl) T.all (by decide +kernel) (pa_cons (pe_lc (own := [("low", 1), ("high", 2)]) (g := gTup K 2 (gCons (gName 1) (gCons (gName 2) gNil))) (tt := tYes) rfl scAscends.nd (pi_zip (by rfl) T.zip (pa_cons (pv 0) (pa_cons (pe_slice sl_list (pv 0) (po_some pe_int) po_none) pa_nil))) (blkOk_by (N := ["things", "low", "high"]) (sc := defScope sAscends) (by decide +kernel)) (fun _ _ _ _ _ => pg_tup rfl (pgs_cons (pg_name (i := 1) scAscends.nd rfl (Or.inl rfl)) (pgs_cons (pg_name (i := 2) scAscends.nd rfl (Or.inl rfl)) pgs_nil))) (fun _ _ _ _ _ => pts_nil) (fun _ _ _ _ _ => pe_cmpR op_lt (pv 1) (pv 2) (nomark _))) pa_nil))), ?_⟩
    refine ⟨_, rfl, _, rfl, _, rfl, a, _, rfl, hS, fun b hb => ?_⟩
    rw [cut1]
    have k1 := Same.new (o := .lst ((ns.map V.int).drop 1)) hb
    have hB : (upd H b (.lst ((ns.map V.int).drop 1))) b = some (.lst ((ns.map V.int).drop 1)) := upd_same
    have hS1 := k1.seq hS
    generalize upd H b (.lst ((ns.map V.int).drop 1)) = H1 at *
    refine ⟨a, b, _, _, rfl, hS1, SqL.of hB, fun D hD => lc_it (walk_zip (xs := ns.map V.int) (ys := (ns.map V.int).drop 1) (n := ns.length - 1) (by simp)) (fun i H' => H' D = some (.lst (((List.zipWith (fun a b => decide (a < b)) ns (ns.drop 1)).take i).map V.bl)) ∧ Same H1 H') ⟨upd_same, Same.new hD⟩ (fun i H' _ ⟨_, s1⟩ => ⟨s1.seq hS1, SqL.of (s1 _ _ hB)⟩) ?_ ?_⟩
    · rintro i v H2 H3 hi ⟨h1, s1⟩ ⟨t, x, y, rfl, ht, rfl, hx, hy⟩
      have e1 : ns[i]? = some (ns[i]'(by omega)) := by simp
      have e2 : (ns.drop 1)[i]? = some (ns[i + 1]'(by omega)) := by
        rw [List.getElem?_drop]
        have : 1 + i = i + 1 := by omega
        rw [this]
        simp
      dsimp only at hx hy
      rw [List.getElem?_map, e1] at hx
      rw [← List.map_drop, List.getElem?_map, e2] at hy
      obtain rfl : V.int _ = x := Option.some.inj hx
      obtain rfl : V.int _ = y := Option.some.inj hy
      have k2 := Same.new (o := .tup [V.int (ns[i]'(by omega)), V.int (ns[i + 1]'(by omega))]) ht
      refine ⟨t, _, rfl, SqT.of upd_same, rfl, _, _, rfl, _, _, rfl, rfl, rfl, ?_⟩
      dsimp only [tYes]
      rw [if_pos rfl]
      refine ⟨_, rfl, _, rfl, _, _, rfl, rfl, _, k2 _ _ h1, small1000 ?_, ?_, ?_⟩
      · rw [List.length_map, List.length_take]; omega
      · rw [upd_same]
        have : (List.zipWith (fun a b => decide (a < b)) ns (ns.drop 1))[i]? = some (decide (ns[i]'(by omega) < ns[i + 1]'(by omega))) := by
          rw [List.getElem?_zipWith, e1, e2]
        rw [take_snoc this, List.map_append]
        rfl
      · exact same_upd hD (s1.trans k2)
    · rintro H2 ⟨h1, s1⟩
      rw [List.take_of_length_le (by rw [List.length_zipWith, List.length_drop]; omega)] at h1
      refine ⟨D, _, rfl, SqL.of h1, ?_⟩
      rw [asc_zip]
      exact k _ (k1.trans s1)
theorem scIsShare : FnScope ["thing", "pair", "number", "_"] ["thing"] (defScope sIsShare) := ⟨rfl, rfl, rfl, by decide +kernel, rfl, by decide +kernel, by decide +kernel⟩
theorem ok_is_share {f f1 f2 f3 : Addr} {fd fd1 fd2 fd3 : FuncData} {t8 : Tok} (F : Df K mg "is_share" sIsShare ["thing"] f fd) (D1 : Df K mg "is_row" sIsRow ["thing"] f1 fd1) (G1 : FnOk P w K mg base CX0 1 f1 fd1 ["thing"] (spRow K)) (D2 : Df K mg "is_share_pair" sIsSharePair ["thing"] f2 fd2) (G2 : FnOk P w K mg base CX0 5 f2 fd2 ["thing"] (spShP K))
    (D3 : Df K mg "ascends" sAscends ["things"] f3 fd3) (G3 : FnOk P w K mg base CX0 1 f3 fd3 ["things"] (spAsc K)) (g8 : mg "MOST_PAIRS" = some (.int 8 t8)) (T : Bt mg) : FnOk P w K mg base CX0 6 f fd ["thing"] (spIsSh K) := by
  refine F.F.ok scIsShare (fun vs H Q E h => ?_) (fun cdv A outer s H vs Q E hr h => ?_)
  · obtain ⟨p, xs, rfl, _⟩ := h
    rfl
  · obtain ⟨p, xs, rfl, ⟨vs, hp, hP⟩, hlen, k⟩ := h
    refine ⟨_, pss_cons (ps_if (PW.pt (pw_or (pt_not (pt_val (pe_call G1 (hr.mono (by decide)) (by rfl) D1.g D1.F.kp D1.b .nil pass0 (pa_cons (pv 0) pa_nil)))) (pw_or1 (pt_cmpR op_gt (pe_callB call_len_seq (by rfl) T.len PySem.boot_len (pa_cons (pv 0) pa_nil)) (pe_glob (v := .int 8) (by rfl) g8 ⟨_, rfl⟩) (nomark _))))) (pss_one (ps_ret pe_bl)) pss_nil)
      (pss_cons (ps_if (pt_not (pt_val (pe_callB (cr_all rfl) (by rfl) T.all (by decide +kernel) (pa_cons (pe_lc (own := [("pair", 1)]) (g := gName 1) (tt := tYes) rfl scIsShare.nd (pi_tup (pv 0)) (blkOk_by (N := ["thing", "pair", "number", "_"]) (sc := defScope sIsShare) (by decide +kernel)) (fun _ _ _ _ _ => pg_name (i := 1) scIsShare.nd rfl (Or.inl rfl)) (fun _ _ _ _ _ => pts_nil) (fun _ _ _ _ _ => pe_call G2 hr (by rfl) D2.g D2.F.kp D2.b .nil pass0 (pa_cons (pv 1) pa_nil))) pa_nil)))) (pss_one (ps_ret pe_bl)) pss_nil)
      (pss_one (ps_ret (pe_call G3 (hr.mono (by decide)) (by rfl) D3.g D3.F.kp D3.b .nil pass0 (pa_cons (pe_lc (own := [("number", 2), ("_", 3)]) (g := gTup K 2 (gCons (gName 2) (gCons (gName 3) gNil))) (tt := tYes) rfl scIsShare.nd (pi_tup (pv 0)) (blkOk_by (N := ["thing", "pair", "number", "_"]) (sc := defScope sIsShare) (by decide +kernel)) (fun _ _ _ _ _ => pg_tup rfl (pgs_cons (pg_name (i := 2) scIsShare.nd rfl (Or.inl rfl)) (pgs_cons (pg_name (i := 3) scIsShare.nd rfl (Or.inl rfl)) pgs_nil))) (fun _ _ _ _ _ => pts_nil) (fun _ _ _ _ _ => pv 2)) pa_nil))))), ?_⟩
    refine ⟨_, rfl, p, _, rfl, hp, _, rfl, iteF ?_⟩
    refine ⟨_, rfl, p, _, rfl, .inr hp, _, _, rfl, rfl, _, rfl, ?_⟩
    rw [hP.len]
    by_cases h8 : (8 : Int) < (xs.length : Int)
    · rw [decide_eq_true h8]
      refine iteT ?_
      have := k H (Same.refl H)
      rw [decide_eq_false (fun h : Shr xs => by have := h.1; omega)] at this
      exact this
    rw [decide_eq_false h8]
    refine iteF ?_
    refine ⟨_, rfl, p, rfl, ⟨_, hp⟩, fun D hD => lc_tup (K := K) (a := p) (xs := vs) (fun i H' => H' D = some (.lst (((xs.take i).map fun a => decide (GoodP a)).map V.bl)) ∧ Same H H') ⟨upd_same, Same.new hD⟩ (fun i H' _ ⟨_, s1⟩ => s1.tup hp) ?_ ?_⟩
    · rintro i v H' hi ⟨h1, s1⟩
      obtain ⟨q, r, m, x, rfl, hxi, hq, hr'⟩ := hP.get hi
      have hi2 : i < xs.length := (List.getElem?_eq_some_iff.mp hxi).1
      refine ⟨rfl, ?_⟩
      dsimp only [tYes]
      rw [if_pos rfl]
      refine ⟨_, rfl, q, r, m, x, rfl, s1.tup hq, s1.tup hr', _, h1, small1000 ?_, ?_, same_upd hD s1⟩
      · rw [List.length_map, List.length_map, List.length_take]; omega
      · rw [upd_same, take_snoc hxi, List.map_append, List.map_append]
        rfl
    · rintro H1 ⟨h1, s1⟩
      rw [hP.len, List.take_length] at h1
      refine ⟨D, _, rfl, SqL.of h1, _, rfl, ?_⟩
      by_cases hg : ∀ a ∈ xs, GoodP a
      · have e : ((xs.map fun a => decide (GoodP a)).all id) = true := by
          rw [List.all_map, List.all_eq_true]
          intro a ha
          exact decide_eq_true (hg a ha)
        rw [e]
        refine iteF ?_
        refine ⟨_, rfl, p, rfl, ⟨_, s1.tup hp⟩, fun D2 hD2 => lc_tup (K := K) (a := p) (xs := vs) (fun i H' => H' D2 = some (.lst (((xs.take i).map (·.1)).map V.int)) ∧ Same H1 H') ⟨upd_same, Same.new hD2⟩ (fun i H' _ ⟨_, s2⟩ => s2.tup (s1.tup hp)) ?_ ?_⟩
        · rintro i v H' hi ⟨h2, s2⟩
          obtain ⟨q, r, m, x, rfl, hxi, hq, hr'⟩ := hP.get hi
          have hi2 : i < xs.length := (List.getElem?_eq_some_iff.mp hxi).1
          refine ⟨q, _, rfl, s2.tup (s1.tup hq), rfl, _, _, rfl, _, _, rfl, rfl, rfl, ?_⟩
          dsimp only [tYes]
          rw [if_pos rfl]
          refine ⟨_, rfl, _, h2, small1000 ?_, ?_, same_upd hD2 s2⟩
          · rw [List.length_map, List.length_map, List.length_take]; omega
          · rw [upd_same, take_snoc hxi, List.map_append, List.map_append]
            rfl
        · rintro H2 ⟨h2, s2⟩
          rw [hP.len, List.take_length] at h2
          refine ⟨D2, xs.map (·.1), rfl, SqL.of h2, by rw [List.length_map]; exact hlen, fun H3 s3 => ?_⟩
          have := k H3 (s1.trans (s2.trans s3))
          have e2 : decide (Shr xs) = decide ((xs.map (·.1)).Pairwise (· < ·)) := by
            rw [decide_eq_decide]
            exact ⟨fun h => h.2.2, fun h => ⟨by omega, hg, h⟩⟩
          rw [e2] at this
          exact this
      · have e : ((xs.map fun a => decide (GoodP a)).all id) = false := by
          rw [Bool.eq_false_iff]
          intro h
          rw [List.all_map, List.all_eq_true] at h
          exact hg fun a ha => of_decide_eq_true (h a ha)
        rw [e]
        refine iteT ?_
        have := k H1 s1
        rw [decide_eq_false (fun h : Shr xs => hg h.2.1)] at this
        exact this
end
end CS
set_option Elab.async false
set_option maxRecDepth 100000
set_option maxHeartbeats 4000000
set_option linter.unusedVariables false
/-! Calls while no repr is under way; repr of data of any depth. -/
namespace CS
open PySem PySem.Spec PyProof.Rows L2
/-- a call stands ready, and no repr is under way around it -/
structure Quiet (P : Program) (w : World) (K : PySem.W.Frag) (mg : Str → Option Value) (base : Heap) (k : Nat) (fd : FuncData) (ps : List Str) (A : Around) (outer : List Env) (s : Shared) (H : Hp) (args : Args) (us : List Value) (vs : List V) : Prop where
  still : A.guards = some []
  room : Room k A
  env : Env0 P w K mg base A outer s H
  bound : BindsTo s fd args (ps.zip us)
  vals : Vals vs us
/-- a def's promise for calls while no repr is under way -/
structure FnG (P : Program) (w : World) (K : PySem.W.Frag) (mg : Str → Option Value) (base : Heap) (CX : CXT) (k : Nat) (f : Addr) (fd : FuncData) (ps : List Str) (sp : Sp) : Prop where
  many : ∀ vs H Q E, sp vs H Q E → vs.length = ps.length
  go : ∀ {A outer s H args us vs Q E}, Quiet P w K mg base k fd ps A outer s H args us vs → sp vs H Q E → codeAny (model P w) A (.call (.ref f) args) (CR CX outer P w H s Q E) s
section
variable {P : Program} {w : World} {K : PySem.W.Frag} {mg : Str → Option Value} {base : Heap} {CX : CXT} {k : Nat} {f : Addr} {fd : FuncData} {ps N : List Str} {sp : Sp} {x qual : Str} {st : Stmt}
theorem FnG.of_any (F : FnOk P w K mg base CX k f fd ps sp) : FnG P w K mg base CX k f fd ps sp := ⟨F.len, fun q h => F.run _ _ _ _ _ _ _ _ _ q.room q.env q.bound q.vals h⟩
/-- how a body's end is the call's end -/
theorem end_of_body {scope : Scope} {cdv : Value} {A : Around} {outer : List Env} {s s' : Shared} {H : Hp} {Q : VK} {E : XK} {fl : Flow} (h : SP (cxOf CX P w K mg base N qual scope f cdv A outer s H E) [] { nx := fun _ H' => Q .non H', rt := Q } fl s') :
    ∃ u v, (fl = .ret u ∨ (fl = .next ∧ u = Value.none)) ∧ RelV v u ∧ CE outer P w H s Q u s' := by
  cases fl with
  | ret u =>
    obtain ⟨v, _, H', J, rv, q⟩ := h
    exact ⟨u, v, .inl rfl, rv, v, H', J.os, J.bare, J.base, J.hok, rv, q⟩
  | next =>
    obtain ⟨_, H', J, q⟩ := h
    exact ⟨.none, .non, .inr ⟨rfl, rfl⟩, rfl, .non, H', J.os, J.bare, J.base, J.hok, rfl, q⟩
  | brk => exact absurd h (fun ⟨_, _, _, z⟩ => z)
  | cont => exact absurd h (fun ⟨_, _, _, z⟩ => z)
/-- a def keeps its promise, if its body does, no repr being under way -/
theorem FnG.of_body (F : Fun K x qual st f fd) (S : FnScope N ps (defScope st)) (many : ∀ vs H Q E, sp vs H Q E → vs.length = ps.length)
    (body : ∀ cdv A outer s H vs Q E, A.guards = some [] → Room k (A.deeper (envOfC qual (defScope st) s.heap.objs.size f cdv)) → sp vs H Q E → ∃ t, PSs (cxOf CX P w K mg base N qual (defScope st) f cdv A outer s H E) (defBody st) t ∧ t { nx := fun _ H' => Q .non H', rt := Q } (start N vs) H) :
    FnG P w K mg base CX (k + 1) f fd ps sp := by
  obtain ⟨oc, od, kV, doc, pm, an, cdv, ct, osl, efd, at_, code⟩ := F.ex
  subst efd
  constructor
  · exact many
  intro A outer s H args us vs Q E q h
  have kept := q.env.bs
  have inn : K.In s.heap := q.env.mod.kin.keeps fun b o e => (kept b o e).1
  have nolim : s.heap.NoLimit := q.env.mod.nolimit.keeps fun b o e => (kept b o e).1
  have pars : ∀ y ∈ ps.zip us, (defScope st).names.lookup y.1 = some .local ∨ ((defScope st).names.lookup y.1 = some .cell ∧ ((cellsFrom (s.heap.objs.size + 1) (defScope st).names []).lookup y.1).isSome = true) := by
    rintro ⟨n, v⟩ hy
    exact (S.par n (List.of_mem_zip hy).1).imp id fun c => ⟨c, PySem.W.cellsFrom_some _ _ _ (.inl c)⟩
  refine codeAny_call_function q.room.depth (inn _ _ at_) rfl S.co S.gen rfl (PySem.W.codeRec_of inn code) (q.bound _ _ _ _ (wpAny_newFunctionEnv_cells S.kind pars ?_))
  rintro env rfl s1 laid
  refine ⟨nolim.keeps laid.toInCall.keep, codeAny_func ?_⟩
  obtain ⟨t, run, now⟩ := body cdv A outer s H vs Q E q.still (q.room.deeper _) h
  have I := inv_start (CX := CX) (E := E) S q.room.hd q.env (many _ _ _ _ h) q.vals laid
  refine wpAny_mono (run.run [] s1 _ H _ I now) (fun fl s' e => ?_) fun _ _ e => e
  obtain ⟨u, v, e1, _, e2⟩ := end_of_body e
  rcases e1 with rfl | ⟨rfl, rfl⟩
  · exact e2
  · exact e2
end
section
variable {X : Cx} {CX : CXT} {k : Nat} {f : Addr} {fd : FuncData} {ps : List Str} {sp : Sp} {dvs : List V} {ds : List Value} {E : XK} {x : Str} {p pos : PySem.Pos} {e : Expr} {es : List Expr} {t : TA}
/-- f(e, ..) where no repr is under way -/
theorem pe_callG (F : FnG X.prog X.w X.K X.mg X.base CX k f fd ps sp) (hq : X.A.guards = some []) (hr : Room k X.A) (hg : Gl X x) (hm : X.mg x = some (.ref f)) (hk : PySem.W.keepIn X.K (.ref f) = true) (hb : Binds X.K fd ps []) (hx : Passes CX X E) (ha : PA X (e :: es) t)
    (he : starEach (e :: es) X.env = (false, eval e X.env) :: starEach es X.env := by rfl) (hpl : (backTo pos (starEach es X.env)).any (·.1) = false := by rfl) (hdb : (x == ("__debug__" : Str)) = false := by decide) : PE X (.Call (.Name x p) (e :: es) [] pos) (tCall sp [] E t) := by
  constructor
  intro pins s σ H Q I h
  refine wpAny_Call_Name_kw (ld_glob I hg hm (PySem.W.callWith_K (h₀ := X.base) I.ok.mod.kin hk (thn (ha.run pos pins s σ H _ I h) fun us s1 ⟨vs, H1, J, rv, now⟩ => ⟨J.kIn, ?_⟩) he hpl) hdb)
  have now2 : sp vs H1 Q E := by
    have z : sp (vs ++ []) H1 Q E := now
    rw [List.append_nil] at z
    exact z
  have b2 : BindsTo s1 fd ⟨us, []⟩ (ps.zip us) := by
    have z := hb s1 us J.kIn (by rw [List.append_nil, ← rv.length]; exact F.many _ _ _ _ now2)
    rw [List.append_nil] at z
    exact z
  show wpAny _ _ (call (.ref f) us) _ _ _
  refine wpAny_call (codeAny_mono (F.go ⟨hq, hr, J.env0, b2, rv⟩ now2) fun r s' z => ?_)
  match r, z with
  | .error er, z => exact hx pins σ H1 s1 er s' J z
  | .ok (.ret u), z => exact J.after z
  | .ok .next, z => exact z.elim
  | .ok .brk, z => exact z.elim
  | .ok .cont, z => exact z.elim
/-- repr of data -/
def rShow (K : PySem.W.Frag) : List V → Hp → VK → Prop := fun xs H Q => ∃ v d, xs = [v] ∧ Dp K H v d ∧ d.showable = true ∧ d.hasDict = false ∧ d.depth ≤ 60 ∧ d.shown.length + 64 ≤ sizeLine ∧ Q (.str d.shown) H
theorem call_show (hq : X.A.guards = some []) (hu : X.A.units + 64 < cLine) : CallR X (.builtin "repr") (rShow X.K) := by
  intro pins s σ H xs us Q I r ⟨v, d, ex, hd, h1, h2, h3, h4, q⟩
  subst ex
  obtain ⟨u, rfl, rv⟩ := vals1 r
  obtain ⟨as, rd⟩ := Dp.reads I d v u hd rv
  have sz : d.shown.length ≤ sizeLine := by omega
  cases rd with
  | none =>
    refine PySem.P.repr_of_none ⟨.str _, H, I.tok _, ⟨_, rfl⟩, ?_⟩
    rw [PyData.shown_none] at q
    exact q
  | bool b =>
    refine PySem.P.repr_of_bool ⟨.str _, H, I.tok _, ⟨_, rfl⟩, ?_⟩
    rw [PyData.shown_bool] at q
    exact q
  | int i t =>
    refine PySem.P.repr_of_int (of_decide_eq_true h1) ⟨.str _, H, I.tok _, ⟨_, rfl⟩, ?_⟩
    rw [PyData.shown_int] at q
    exact q
  | str x t =>
    rw [PyData.shown_str] at q sz
    exact PySem.P.repr_of_str ⟨.str _, H, I.tok _, ⟨_, rfl⟩, q⟩ sz
  | list g1 g2 g3 g4 => exact repr_of_reads' (.list g1 g2 g3 g4) h1 (PyData.noDict_hsm h2) hq (by omega) (fun _ _ e => e) (fun h' t tk kp => ⟨.str _, H, I.kept (t' := tk) kp, ⟨_, rfl⟩, q⟩) sz
  | tuple g1 g2 g3 g4 => exact repr_of_reads' (.tuple g1 g2 g3 g4) h1 (PyData.noDict_hsm h2) hq (by omega) (fun _ _ e => e) (fun h' t tk kp => ⟨.str _, H, I.kept (t' := tk) kp, ⟨_, rfl⟩, q⟩) sz
  | dict g1 g2 g3 g4 g5 => cases hd
end
/-! the end: a law whose def is called while no repr is under way -/
theorem still_caller : callerA.guards = some [] := rfl
/-- what is tracked ahead of the law's call: its script alone -/
def scriptH (K : PySem.W.Frag) (a : Addr) (vs : List Value) (ns : List Int) : Hp := fun b => if b = a ∧ K.lookup a = none then some (.frz { cls := .type "list", data := .seq vs.toArray } (.lst (ns.map V.int))) else none
section
variable {P : Program} {w : World} {K : PySem.W.Frag} {mg mb : Str → Option Value} {k : Nat} {fa a : Addr} {fd : FuncData} {x : Str} {sp : Sp} {s₁ : Shared} {vs : List Value} {ns : List Int}
theorem scriptH_of {b : Addr} {u : HO} (e : scriptH K a vs ns b = some u) : b = a ∧ K.lookup a = none ∧ u = .frz { cls := .type "list", data := .seq vs.toArray } (.lst (ns.map V.int)) := by
  unfold scriptH at e
  split at e
  · next z => exact ⟨z.1, z.2, (Option.some.inj e).symm⟩
  · cases e
theorem scriptH_ok (ha : s₁.heap.get? a = some { cls := .type "list", data := .seq vs.toArray }) (hi : IntsAre vs ns) (hl : ns.length ≤ sizeLine) : HOk P w (scriptH K a vs ns) s₁.heap := by
  intro b u e
  obtain ⟨rfl, _, rfl⟩ := scriptH_of e
  exact ⟨ha, by rw [List.length_map]; exact hl, vs, _, vals_ints hi, ha⟩
theorem scriptH_sq (KX : K.In s₁.heap) (ha : s₁.heap.get? a = some { cls := .type "list", data := .seq vs.toArray }) (hi : IntsAre vs ns) (hl : ns.length ≤ sizeLine) : SqL K (scriptH K a vs ns) a (ns.map V.int) := by
  cases e : K.lookup a with
  | none => exact .inl (.inr ⟨_, if_pos ⟨rfl, e⟩⟩)
  | some o =>
    have g := KX a o e
    rw [ha] at g
    cases g
    have l := hi.length
    exact .inr ⟨_, vs.toArray, _, e, rfl, rfl, rfl, by rw [List.size_toArray]; omega, by simpa using vals_ints hi⟩
/-- the law's call ends with True, and what stood stands -/
theorem law_still (KX : K.In s₁.heap) (hns : s₁.heap.Ns mainGlobals mg) (hb : s₁.heap.Ns builtinsNs mb) (hbb : ∀ x : Str, x ≠ "__name__" → mb x = bootBuiltins x) (hlim : s₁.heap.NoLimit) (hg : s₁.gens = #[])
    (ha : s₁.heap.get? a = some { cls := .type "list", data := .seq vs.toArray }) (hi : IntsAre vs ns) (hl : ns.length ≤ sizeLine) (hr : Room k callerA)
    (F : ∀ base : Heap, K.In base → base.Ns mainGlobals mg → FnG P w K mg base CX0 k fa fd [x] sp) (bind : ∀ (s : Shared) (u : Value), BindsTo s fd ⟨[u], []⟩ [(x, u)])
    (hsp : ∀ H : Hp, SqL K H a (ns.map V.int) → sp [.ref a] H (fun v _ => v = .bl true) E0) :
    codeAny (model P w) callerA (.call (.ref fa) ⟨[.ref a], []⟩) (fun r s' => r = .ok (.ret (.bool true)) ∧ OldK s₁.heap s'.heap ∧ s'.os = s₁.os ∧ AllBare s'.gens) s₁ := by
  obtain ⟨H, eH⟩ : ∃ H, H = scriptH K a vs ns := ⟨_, rfl⟩
  have ok : HOk P w H s₁.heap := by rw [eH]; exact scriptH_ok ha hi hl
  have sq : SqL K H a (ns.map V.int) := by rw [eH]; exact scriptH_sq KX ha hi hl
  have only : ∀ {b u}, H b = some u → b = a ∧ K.lookup a = none ∧ u = .frz { cls := .type "list", data := .seq vs.toArray } (.lst (ns.map V.int)) := fun e => scriptH_of (by rw [← eH]; exact e)
  -- whatever is not the script's object is in the part that the call may not change
  have stays : ∀ {b : Addr} {ob : Obj}, s₁.heap.get? b = some ob → (b = a → K.lookup a ≠ none) → (hidT s₁.heap H).get? b = some ob := fun {b ob} e n => hidT_get e (by
    cases q : H b with
    | none => rfl
    | some u =>
      obtain ⟨e1, e2, _⟩ := only q
      exact absurd e2 (n e1))
  have names : ∀ {b : Addr} {m : Str → Option Value}, s₁.heap.Ns b m → (hidT s₁.heap H).Ns b m := by
    rintro b m ⟨ob, es, ep, e, ed, r⟩
    refine ⟨ob, es, ep, stays e (fun z => ?_), ed, r⟩
    subst z
    rw [ha] at e
    cases e
    cases ed
  have inn : K.In (hidT s₁.heap H) := fun b ob e => stays (KX b ob e) (fun z => by rw [← z, e]; exact fun y => nomatch y)
  obtain ⟨mc, l1, l2⟩ := hlim
  have env : Env0 P w K mg (hidT s₁.heap H) callerA [] s₁ H := by
    refine ⟨rfl, ⟨inn, names hns, ⟨mb, names hb, hbb⟩, ⟨mc, names l1, l2⟩⟩, fun b ob e => of_hidT e, Nat.le_of_eq (hidT_size _ _), trivial, fun b hb => ?_, ok, .of_eq hg⟩
    exact (List.not_mem_nil hb).elim
  have ready : Quiet P w K mg (hidT s₁.heap H) k fd [x] callerA [] s₁ H ⟨[.ref a], []⟩ [.ref a] [.ref a] := ⟨still_caller, hr, env, bind s₁ (.ref a), .cons rfl .nil⟩
  refine codeAny_mono ((F _ inn (names hns)).go ready (hsp H sq)) fun r s' z => ?_
  match r, z with
  | .error _, z => exact z.elim
  | .ok .next, z => exact z.elim
  | .ok .brk, z => exact z.elim
  | .ok .cont, z => exact z.elim
  | .ok (.ret u), ⟨v, H', os, bare, un, ok', rv, ev⟩ =>
    subst ev
    cases rv
    refine ⟨rfl, OldK.of_keep fun b ob e => ?_, os, bare⟩
    cases q : H b with
    | none => exact un.keep b ob e q (fun z => (List.not_mem_nil z).elim) (by simp)
    | some u =>
      obtain ⟨rfl, _, rfl⟩ := only q
      rw [ha] at e
      cases e
      exact (ok' _ _ (un.frzs _ _ _ q)).1
end
end CS
set_option Elab.async false
set_option maxRecDepth 100000
set_option maxHeartbeats 4000000
set_option linter.unusedVariables false
/-! data of any kind: what keeps it, what it is an instance of, slices, sums, membership -/
namespace CS
open PySem L2
end CS
namespace L2
open PySem CS
section
variable {K : PySem.W.Frag} {H H' : Hp}
mutual
theorem Dp.same (e : Same H H') : ∀ {d : PyData} {v : V}, Dp K H v d → Dp K H' v d
  | .none, _, .non => .non
  | .bool _, _, .bl b => .bl b
  | .int _, _, .int i => .int i
  | .str _, _, .str x => .str x
  | .list _, _, .lst h a => .lst (e.seq h) (DpAll.same e a)
  | .tuple _, _, .tup h a => .tup (e.tup h) (DpAll.same e a)
theorem DpAll.same (e : Same H H') : ∀ {ds : List PyData} {vs : List V}, DpAll K H vs ds → DpAll K H' vs ds
  | [], _, .nil => .nil
  | _ :: _, _, .cons a b => .cons (Dp.same e a) (DpAll.same e b)
end

mutual
def flatD : PyData → Bool
  | .list _ => false
  | .dict _ => false
  | .tuple ds => flatDs ds
  | _ => true
def flatDs : List PyData → Bool
  | [] => true
  | d :: ds => flatD d && flatDs ds
end
mutual
theorem Dp.tk (e : TK K H H') : ∀ {d : PyData} {v : V}, flatD d = true → Dp K H v d → Dp K H' v d
  | .none, _, _, .non => .non
  | .bool _, _, _, .bl b => .bl b
  | .int _, _, _, .int i => .int i
  | .str _, _, _, .str x => .str x
  | .tuple ds, _, f, .tup h a => .tup (e _ _ h) (DpAll.tk e (by simpa [flatD] using f) a)
theorem DpAll.tk (e : TK K H H') : ∀ {ds : List PyData} {vs : List V}, flatDs ds = true → DpAll K H vs ds → DpAll K H' vs ds
  | [], _, _, .nil => .nil
  | d :: ds, _, f, .cons a b => by
    have f2 : (flatD d && flatDs ds) = true := by simpa [flatDs] using f
    rw [Bool.and_eq_true] at f2
    exact .cons (Dp.tk e f2.1 a) (DpAll.tk e f2.2 b)
end
theorem DpAll.len : ∀ {vs : List V} {ds : List PyData}, DpAll K H vs ds → vs.length = ds.length
  | _, _, .nil => rfl
  | _, _, .cons _ b => by simp [DpAll.len b]
theorem DpAll.app : ∀ {vs ws : List V} {ds es : List PyData}, DpAll K H vs ds → DpAll K H ws es → DpAll K H (vs ++ ws) (ds ++ es)
  | _, _, _, _, .nil, g => g
  | _, _, _, _, .cons a b, g => .cons a (DpAll.app b g)
theorem DpAll.drop : ∀ {vs : List V} {ds : List PyData} (n : Nat), DpAll K H vs ds → DpAll K H (vs.drop n) (ds.drop n)
  | _, _, 0, h => h
  | _, _, _ + 1, .nil => .nil
  | _, _, n + 1, .cons _ b => DpAll.drop n b
theorem DpAll.take : ∀ {vs : List V} {ds : List PyData} (n : Nat), DpAll K H vs ds → DpAll K H (vs.take n) (ds.take n)
  | _, _, 0, _ => .nil
  | _, _, _ + 1, .nil => .nil
  | _, _, n + 1, .cons a b => .cons a (DpAll.take n b)
theorem DpAll.get : ∀ {vs : List V} {ds : List PyData} {i : Nat} {v : V}, DpAll K H vs ds → vs[i]? = some v → ∃ d, ds[i]? = some d ∧ Dp K H v d
  | _, _, 0, _, .cons a _, e => by
    cases e
    exact ⟨_, rfl, a⟩
  | _, _, i + 1, _, .cons _ b, e => by
    obtain ⟨d, h1, h2⟩ := DpAll.get b (by simpa using e)
    exact ⟨d, by simpa using h1, h2⟩
theorem DpAll.at : ∀ {vs : List V} {ds : List PyData} {i : Nat} {d : PyData}, DpAll K H vs ds → ds[i]? = some d → ∃ v, vs[i]? = some v ∧ Dp K H v d
  | _, _, 0, _, .cons a _, e => by
    cases e
    exact ⟨_, rfl, a⟩
  | _, _, i + 1, _, .cons _ b, e => by
    obtain ⟨v, h1, h2⟩ := DpAll.at b (by simpa using e)
    exact ⟨v, by simpa using h1, h2⟩
theorem DpAll.ints : ∀ ns : List Int, DpAll K H (ns.map V.int) (ns.map PyData.int)
  | [] => .nil
  | n :: ns => .cons (.int n) (DpAll.ints ns)
theorem DpAll.of_ints : ∀ {ns : List Int} {vs : List V}, DpAll K H vs (ns.map PyData.int) → vs = ns.map V.int
  | [], _, .nil => rfl
  | _ :: _, _, .cons (.int _) b => by rw [DpAll.of_ints b]; rfl
theorem Dp.tup_inv {v : V} {ds : List PyData} (h : Dp K H v (.tuple ds)) : ∃ a xs, v = .ref a ∧ SqT K H a xs ∧ DpAll K H xs ds := by
  cases h with
  | tup h a => exact ⟨_, _, rfl, h, a⟩
theorem Dp.lst_inv {v : V} {ds : List PyData} (h : Dp K H v (.list ds)) : ∃ a xs, v = .ref a ∧ SqL K H a xs ∧ DpAll K H xs ds := by
  cases h with
  | lst h a => exact ⟨_, _, rfl, h, a⟩
theorem Dp.new_tup {p : Addr} {xs : List V} {ds : List PyData} (n : H p = none) (h : DpAll K H xs ds) : Dp K (upd H p (.tup xs)) (.ref p) (.tuple ds) := .tup (SqT.of upd_same) (h.same (Same.new n))
theorem Dp.new_lst {p : Addr} {xs : List V} {ds : List PyData} (n : H p = none) (h : DpAll K H xs ds) : Dp K (upd H p (.lst xs)) (.ref p) (.list ds) := .lst (SqL.of upd_same) (h.same (Same.new n))
mutual
theorem Dp.noDict : ∀ {d : PyData} {v : V}, Dp K H v d → d.hasDict = false
  | .none, _, .non => rfl
  | .bool _, _, .bl _ => rfl
  | .int _, _, .int _ => rfl
  | .str _, _, .str _ => rfl
  | .list ds, _, .lst _ a => by
    rw [PyData.hasDict]
    exact DpAll.noDict a
  | .tuple ds, _, .tup _ a => by
    rw [PyData.hasDict]
    exact DpAll.noDict a
theorem DpAll.noDict : ∀ {ds : List PyData} {vs : List V}, DpAll K H vs ds → PyData.hasDictAll ds = false
  | [], _, .nil => rfl
  | d :: ds, _, .cons a b => by
    rw [PyData.hasDictAll, Dp.noDict a, DpAll.noDict b]
    rfl
end
/-! isinstance -/
def tyD : PyData → String
  | .none => "NoneType"
  | .bool _ => "bool"
  | .int _ => "int"
  | .str _ => "str"
  | .list _ => "list"
  | .tuple _ => "tuple"
  | .dict _ => "dict"
theorem TyX.of_lst {p : Addr} {xs : List V} (h : SqL K H p xs) : TyX K H (.ref p) (.type "list") := by
  rcases h with (h | ⟨o, h⟩) | ⟨o, its, n, h, c, _⟩
  · exact .base (.lst h)
  · exact .base (.frz h)
  · exact .kList h c
theorem Dp.ty {v : V} {d : PyData} (h : Dp K H v d) : TyX K H v (.type (tyD d)) := by
  cases h with
  | non => exact .base .non
  | bl b => exact .base (.bl b)
  | int i => exact .base (.int i)
  | str x => exact .base (.str x)
  | lst h _ => exact TyX.of_lst h
  | tup h _ => exact TyX.of_tup h
def isIntD : PyData → Bool
  | .int _ => true
  | .bool _ => true
  | _ => false
theorem kit_int : ∀ d : PyData, d.hasDict = false → kitB (tyD d) "int" = some (isIntD d)
  | .none, _ => (by decide +kernel : kitB "NoneType" "int" = some false)
  | .bool _, _ => (by decide +kernel : kitB "bool" "int" = some true)
  | .int _, _ => (by decide +kernel : kitB "int" "int" = some true)
  | .str _, _ => (by decide +kernel : kitB "str" "int" = some false)
  | .list _, _ => (by decide +kernel : kitB "list" "int" = some false)
  | .tuple _, _ => (by decide +kernel : kitB "tuple" "int" = some false)
  | .dict _, h => by simp [PyData.hasDict] at h
def isBoolD : PyData → Bool
  | .bool _ => true
  | _ => false
theorem kit_bool : ∀ d : PyData, d.hasDict = false → kitB (tyD d) "bool" = some (isBoolD d)
  | .none, _ => (by decide +kernel : kitB "NoneType" "bool" = some false)
  | .bool _, _ => (by decide +kernel : kitB "bool" "bool" = some true)
  | .int _, _ => (by decide +kernel : kitB "int" "bool" = some false)
  | .str _, _ => (by decide +kernel : kitB "str" "bool" = some false)
  | .list _, _ => (by decide +kernel : kitB "list" "bool" = some false)
  | .tuple _, _ => (by decide +kernel : kitB "tuple" "bool" = some false)
  | .dict _, h => by simp [PyData.hasDict] at h
def isStrD : PyData → Bool
  | .str _ => true
  | _ => false
theorem kit_str : ∀ d : PyData, d.hasDict = false → kitB (tyD d) "str" = some (isStrD d)
  | .none, _ => (by decide +kernel : kitB "NoneType" "str" = some false)
  | .bool _, _ => (by decide +kernel : kitB "bool" "str" = some false)
  | .int _, _ => (by decide +kernel : kitB "int" "str" = some false)
  | .str _, _ => (by decide +kernel : kitB "str" "str" = some true)
  | .list _, _ => (by decide +kernel : kitB "list" "str" = some false)
  | .tuple _, _ => (by decide +kernel : kitB "tuple" "str" = some false)
  | .dict _, h => by simp [PyData.hasDict] at h
def isTupleD : PyData → Bool
  | .tuple _ => true
  | _ => false
theorem kit_tuple : ∀ d : PyData, d.hasDict = false → kitB (tyD d) "tuple" = some (isTupleD d)
  | .none, _ => (by decide +kernel : kitB "NoneType" "tuple" = some false)
  | .bool _, _ => (by decide +kernel : kitB "bool" "tuple" = some false)
  | .int _, _ => (by decide +kernel : kitB "int" "tuple" = some false)
  | .str _, _ => (by decide +kernel : kitB "str" "tuple" = some false)
  | .list _, _ => (by decide +kernel : kitB "list" "tuple" = some false)
  | .tuple _, _ => (by decide +kernel : kitB "tuple" "tuple" = some true)
  | .dict _, h => by simp [PyData.hasDict] at h
end
end L2
namespace CS
open PySem L2
section
variable {K : PySem.W.Frag} {H H' : Hp}
/-! class names -/
theorem cn_int {v : V} {i : Int} (h : Dp K H v (.int i)) : CN K H v "int" := by
  cases h
  exact .int i
theorem cn_bool {v : V} {b : Bool} (h : Dp K H v (.bool b)) : CN K H v "bool" := by
  cases h
  exact .bl b
theorem cn_str {v : V} {x : Str} (h : Dp K H v (.str x)) : CN K H v "str" := by
  cases h
  exact .str x
theorem cn_tup {v : V} {ds : List PyData} (h : Dp K H v (.tuple ds)) : CN K H v "tuple" := by
  cases h with
  | tup h a => exact .tup h
end
/-! slices and sums of tuples as data -/
def cutD {α : Type} (xs : List α) (lo hi : Option Int) : List α := (xs.drop (HT.sIx xs.length 0 lo)).take (HT.sIx xs.length xs.length hi - HT.sIx xs.length 0 lo)
def rCutD (K : PySem.W.Frag) : V → Option Int → Option Int → Hp → VK → Prop := fun x lo hi H Q => ∃ ds, Dp K H x (.tuple ds) ∧ ∀ H' v, Same H H' → Dp K H' v (.tuple (cutD ds lo hi)) → Q v H'
section
variable {X : Cx}
theorem sl_data : L2.SlR X (rCutD X.K) := by
  intro pins s σ H x v vl vu lo hi sl Q I rx hs pl pu ⟨ds, hd, q⟩
  obtain ⟨a, xs, rfl, hx, ha⟩ := hd.tup_inv
  have l := ha.len
  refine sl_tupA pins s σ H _ v vl vu lo hi sl Q I rx hs pl pu ⟨a, xs, rfl, hx, fun w => ?_, fun _ p np => ?_⟩
  · refine q H _ (Same.refl H) ?_
    have e : cutD ds lo hi = ds := by
      unfold cutD
      rw [← l, w.1, w.2, List.drop_zero, Nat.sub_zero, l, List.take_length]
    rw [e]
    exact hd
  · refine q _ _ (Same.new np) (.tup (SqT.of upd_same) ?_)
    unfold cutV cutD
    rw [l]
    exact (((ha.drop _).take _).same (Same.new np))
def rSumD (K : PySem.W.Frag) : R2 := fun x y H Q => ∃ ds es, Dp K H x (.tuple ds) ∧ Dp K H y (.tuple es) ∧ ds.length + es.length ≤ 1000 ∧ ∀ H' v, Same H H' → Dp K H' v (.tuple (ds ++ es)) → Q v H'
theorem op_sumD : OpR X (binaryOp .Add) (rSumD X.K) := by
  intro pins s σ H x y v u Q I rx ry ⟨ds, es, hd, he, sz, q⟩
  obtain ⟨a, xs, rfl, hx, ha⟩ := hd.tup_inv
  obtain ⟨b, ys, rfl, hy, hb⟩ := he.tup_inv
  have l1 := ha.len
  have l2 := hb.len
  refine op_catA pins s σ H _ _ v u Q I rx ry ⟨a, b, xs, ys, rfl, rfl, hx, hy, Nat.le_of_lt (small1000 (by omega)), fun e => ?_, fun _ e => ?_, fun _ _ p np => ?_⟩
  · subst e
    have : ds = [] := List.eq_nil_of_length_eq_zero (by rw [← l1]; rfl)
    subst this
    exact q H _ (Same.refl H) he
  · subst e
    have : es = [] := List.eq_nil_of_length_eq_zero (by rw [← l2]; rfl)
    subst this
    rw [List.append_nil] at q
    exact q H _ (Same.refl H) hd
  · exact q _ _ (Same.new np) (Dp.new_tup np (ha.app hb))
/-- x in t, x not in t -/
def rMemD (K : PySem.W.Frag) (neg : Bool) : R2 := fun x y H Q => ∃ d ds, Dp K H x d ∧ Dp K H y (.tuple ds) ∧ SeqAt.shaped d = true ∧ SeqAt.shaped (.tuple ds) = true ∧ Q (.bl (if neg then !ds.any fun z => PyData.eqv z d else ds.any fun z => PyData.eqv z d)) H
theorem op_memT (hu : X.A.units + 64 < cLine) : OpR X (compareOp .In) (rMemD X.K false) := by
  intro pins s σ H x y v u Q I rx ry ⟨d, ds, hd, he, sd, se, q⟩
  obtain ⟨as, r1⟩ := Dp.reads I d x v hd rx
  obtain ⟨bs, r2⟩ := Dp.reads I (.tuple ds) y u he ry
  refine SeqAt.in_tuple_reads r2 r1 (by simpa [PyData.canLay0] using SeqAt.canLay_of_shaped se) (SeqAt.canLay_of_shaped sd) ?_ ⟨.bl _, H, I, rfl, q⟩
  have z := SeqAt.depth_of_shaped se
  have : 1 + PyData.depthAll ds = (PyData.tuple ds).depth := by simp [PyData.depth]; omega
  have := Nat.min_le_left (PyData.depthAll ds) d.depth
  omega
theorem op_notT (hu : X.A.units + 64 < cLine) : OpR X (compareOp .NotIn) (rMemD X.K true) := by
  intro pins s σ H x y v u Q I rx ry ⟨d, ds, hd, he, sd, se, q⟩
  obtain ⟨as, r1⟩ := Dp.reads I d x v hd rx
  obtain ⟨bs, r2⟩ := Dp.reads I (.tuple ds) y u he ry
  refine SeqAt.notIn_tuple_reads r2 r1 (by simpa [PyData.canLay0] using SeqAt.canLay_of_shaped se) (SeqAt.canLay_of_shaped sd) ?_ ⟨.bl _, H, I, rfl, q⟩
  have z := SeqAt.depth_of_shaped se
  have : 1 + PyData.depthAll ds = (PyData.tuple ds).depth := by simp [PyData.depth]; omega
  have := Nat.min_le_left (PyData.depthAll ds) d.depth
  omega
def rMemL (K : PySem.W.Frag) : R2 := fun x y H Q => ∃ d ds, Dp K H x d ∧ Dp K H y (.list ds) ∧ SeqAt.shaped d = true ∧ SeqAt.shaped (.list ds) = true ∧ Q (.bl (ds.any fun z => PyData.eqv z d)) H
theorem op_memL (hu : X.A.units + 65 < cLine) : OpR X (compareOp .In) (rMemL X.K) := fun pins s σ H x y v u Q I rx ry h => op_inD hu pins s σ H x y v u Q I rx ry h
end
end CS
set_option Elab.async false
set_option maxRecDepth 100000
set_option maxHeartbeats 8000000
set_option linter.unusedVariables false
namespace CS
open PySem L2
/-- a def that tells whether a datum is so -/
def spD1 (K : PySem.W.Frag) (f : PyData → Bool) : Sp := fun vs H Q _ => ∃ v d, vs = [v] ∧ Dp K H v d ∧ Q (.bl (f d)) H
def wholeD : PyData → Bool
  | .int _ => true
  | _ => false
def wordD : PyData → Bool
  | .str _ => true
  | _ => false
def rowD : PyData → Bool
  | .tuple _ => true
  | _ => false
def rowOfD : PyData → Int → Bool
  | .tuple ds, n => decide ((ds.length : Int) = n)
  | _, _ => false
def spRowOfD (K : PySem.W.Frag) : Sp := fun vs H Q _ => ∃ v d n, vs = [v, .int n] ∧ Dp K H v d ∧ Q (.bl (rowOfD d n)) H
/-- a word and a number of things, of a tuple -/
def sortD (sorts : List PyData) : PyData → Bool
  | .tuple (.str x :: ds) => sorts.any fun z => PyData.eqv z (.tuple [.str x, .int ((ds.length + 1 : Nat) : Int)])
  | _ => false
def spSortD (K : PySem.W.Frag) : Sp := fun vs H Q _ => ∃ v d u sorts, vs = [v, u] ∧ Dp K H v d ∧ Dp K H u (.tuple sorts) ∧ SeqAt.shaped d = true ∧ SeqAt.shaped (.tuple sorts) = true ∧ ∀ H', Same H H' → Q (.bl (sortD sorts d)) H'
theorem shaped_head {x : Str} {ds : List PyData} {i : Int} (h : SeqAt.shaped (.tuple (.str x :: ds)) = true) : SeqAt.shaped (.tuple [.str x, .int i]) = true := by
  have h1 := SeqAt.canLay_of_shaped h
  simp [PyData.canLay0, PyData.canLayAll0] at h1
  simp [SeqAt.shaped, PyData.canLay0, PyData.canLayAll0, PyData.depth, PyData.depthAll, h1.1]
section
variable {P : Program} {w : World} {K : PySem.W.Frag} {mg : Str → Option Value} {base : Heap}
theorem ok_wholeD {f : Addr} {fd : FuncData} (F : Df K mg "is_whole" sIsWhole ["thing"] f fd) (T : Bt mg) : FnOk P w K mg base CX0 1 f fd ["thing"] (spD1 K wholeD) := by
  refine F.F.ok scIsWhole (fun vs H Q E h => ?_) (fun cdv A outer s H vs Q E hr h => ?_)
  · obtain ⟨v, d, rfl, _⟩ := h
    rfl
  · obtain ⟨v, d, rfl, hd, k⟩ := h
    refine ⟨_, pss_one (ps_ret (pe_and (pe_callB call_isi (by rfl) T.isinstance (by decide +kernel) (pa_cons (pv 0) (pa_cons (pe_bltn (v := .ty "int") (by rfl) T.int (by decide +kernel) rfl) pa_nil))) (pe_one (pe_cmpR op_eq (pe_cn (pv 0)) pe_str (nomark _))))), ?_⟩
    refine ⟨_, rfl, _, _, _, _, _, rfl, .ty _, hd.ty, kit_ty (kit_int d hd.noDict), _, rfl, ?_⟩
    cases d with
    | int i => exact iteT ⟨_, rfl, _, cn_int hd, rfl, k⟩
    | bool b => exact iteT ⟨_, rfl, _, cn_bool hd, rfl, k⟩
    | none => exact iteF k
    | str x => exact iteF k
    | list ds => exact iteF k
    | tuple ds => exact iteF k
    | dict ds => exact iteF k
theorem scIsWord : FnScope ["thing"] ["thing"] (defScope sIsWord) := ⟨rfl, rfl, rfl, by decide +kernel, rfl, by decide +kernel, by decide +kernel⟩
theorem ok_wordD {f : Addr} {fd : FuncData} (F : Df K mg "is_word" sIsWord ["thing"] f fd) (T : Bt mg) (mstr : mg "str" = none) : FnOk P w K mg base CX0 1 f fd ["thing"] (spD1 K wordD) := by
  refine F.F.ok scIsWord (fun vs H Q E h => ?_) (fun cdv A outer s H vs Q E hr h => ?_)
  · obtain ⟨v, d, rfl, _⟩ := h
    rfl
  · obtain ⟨v, d, rfl, hd, k⟩ := h
    refine ⟨_, pss_one (ps_ret (pe_and (pe_callB call_isi (by rfl) T.isinstance (by decide +kernel) (pa_cons (pv 0) (pa_cons (pe_bltn (v := .ty "str") (by rfl) mstr (by decide +kernel) rfl) pa_nil))) (pe_one (pe_cmpR op_eq (pe_cn (pv 0)) pe_str (nomark _))))), ?_⟩
    refine ⟨_, rfl, _, _, _, _, _, rfl, .ty _, hd.ty, kit_ty (kit_str d hd.noDict), _, rfl, ?_⟩
    cases d with
    | str x => exact iteT ⟨_, rfl, _, cn_str hd, rfl, k⟩
    | int i => exact iteF k
    | bool b => exact iteF k
    | none => exact iteF k
    | list ds => exact iteF k
    | tuple ds => exact iteF k
    | dict ds => exact iteF k
theorem ok_rowD {f : Addr} {fd : FuncData} (F : Df K mg "is_row" sIsRow ["thing"] f fd) (T : Bt mg) : FnOk P w K mg base CX0 1 f fd ["thing"] (spD1 K rowD) := by
  refine F.F.ok scIsRow (fun vs H Q E h => ?_) (fun cdv A outer s H vs Q E hr h => ?_)
  · obtain ⟨v, d, rfl, _⟩ := h
    rfl
  · obtain ⟨v, d, rfl, hd, k⟩ := h
    refine ⟨_, pss_one (ps_ret (pe_and (pe_callB call_isi (by rfl) T.isinstance (by decide +kernel) (pa_cons (pv 0) (pa_cons (pe_bltn (v := .ty "tuple") (by rfl) T.tuple (by decide +kernel) rfl) pa_nil))) (pe_one (pe_cmpR op_eq (pe_cn (pv 0)) pe_str (nomark _))))), ?_⟩
    refine ⟨_, rfl, _, _, _, _, _, rfl, .ty _, hd.ty, kit_ty (kit_tuple d hd.noDict), _, rfl, ?_⟩
    cases d with
    | tuple ds => exact iteT ⟨_, rfl, _, cn_tup hd, rfl, k⟩
    | str x => exact iteF k
    | int i => exact iteF k
    | bool b => exact iteF k
    | none => exact iteF k
    | list ds => exact iteF k
    | dict ds => exact iteF k
theorem ok_row_ofD {f f1 : Addr} {fd fd1 : FuncData} (F : Df K mg "is_row_of" sIsRowOf ["thing", "many"] f fd) (F1 : Df K mg "is_row" sIsRow ["thing"] f1 fd1) (G1 : FnOk P w K mg base CX0 1 f1 fd1 ["thing"] (spD1 K rowD)) (T : Bt mg) : FnOk P w K mg base CX0 2 f fd ["thing", "many"] (spRowOfD K) := by
  refine F.F.ok scIsRowOf (fun vs H Q E h => ?_) (fun cdv A outer s H vs Q E hr h => ?_)
  · obtain ⟨v, d, n, rfl, _⟩ := h
    rfl
  · obtain ⟨v, d, n, rfl, hd, k⟩ := h
    refine ⟨_, pss_one (ps_ret (pe_and (pe_call G1 hr (by rfl) F1.g F1.F.kp F1.b .nil pass0 (pa_cons (pv 0) pa_nil)) (pe_one (pe_cmpR op_eq (pe_callB call_len_seq (by rfl) T.len PySem.boot_len (pa_cons (pv 0) pa_nil)) (pv 1) (nomark _))))), ?_⟩
    refine ⟨_, rfl, v, d, rfl, hd, _, rfl, ?_⟩
    cases d with
    | tuple ds =>
      obtain ⟨a, xs, rfl, hs, ha⟩ := hd.tup_inv
      refine iteT ⟨_, rfl, a, xs, rfl, .inr hs, _, rfl, rfl, ?_⟩
      have e : decide (V.int (xs.length : Int) = V.int n) = decide ((ds.length : Int) = n) := by
        rw [decide_eq_decide, ha.len]
        exact ⟨V.int.inj, fun h => congrArg V.int h⟩
      rw [e]
      exact k
    | str x => exact iteF k
    | int i => exact iteF k
    | bool b => exact iteF k
    | none => exact iteF k
    | list ds => exact iteF k
    | dict ds => exact iteF k
end
end CS
set_option Elab.async false
set_option maxRecDepth 100000
set_option maxHeartbeats 8000000
set_option linter.unusedVariables false
namespace L2
open PySem CS
theorem DpAll.of_bools {K : PySem.W.Frag} {H : Hp} : ∀ {bs : List Bool} {vs : List V}, DpAll K H vs (bs.map PyData.bool) → vs = bs.map V.bl
  | [], _, .nil => rfl
  | _ :: _, _, .cons (.bl _) b => by rw [DpAll.of_bools b]; rfl
theorem flatDs_app : ∀ {ds es : List PyData}, flatDs ds = true → flatDs es = true → flatDs (ds ++ es) = true
  | [], _, _, h => h
  | d :: ds, es, g, h => by
    have g2 : (flatD d && flatDs ds) = true := by simpa [flatDs] using g
    rw [Bool.and_eq_true] at g2
    show (flatD d && flatDs (ds ++ es)) = true
    rw [g2.1, flatDs_app g2.2 h]
    rfl
theorem flatDs_ints : ∀ ns : List Int, flatDs (ns.map PyData.int) = true
  | [] => rfl
  | n :: ns => by
    show (flatD (.int n) && flatDs (ns.map PyData.int)) = true
    rw [flatDs_ints ns]
    rfl
end L2
namespace CS
open PySem L2
theorem iteTe {b : Bool} {A B : Prop} {i : Decidable (b = true)} (e : b = true) (h : A) : @ite Prop (b = true) i A B := by
  rw [if_pos e]
  exact h
theorem iteFe {b : Bool} {A B : Prop} {i : Decidable (b = true)} (e : b = false) (h : B) : @ite Prop (b = true) i A B := by
  subst e
  rw [if_neg Bool.false_ne_true]
  exact h
/-- a list of data that a comprehension makes at D; H1 stood ahead -/
def LcD (K : PySem.W.Frag) (H1 : Hp) (D : Addr) (es : List PyData) (H : Hp) : Prop := ∃ ws, H D = some (.lst ws) ∧ Same H1 H ∧ DpAll K H ws es
section
variable {K : PySem.W.Frag} {H1 H H4 : Hp} {D : Addr}
theorem LcD.start (n : H1 D = none) : LcD K H1 D [] (upd H1 D (.lst [])) := ⟨[], upd_same, Same.new n, .nil⟩
theorem LcD.same {es : List PyData} (h : LcD K H1 D es H) : Same H1 H := by
  obtain ⟨ws, _, s, _⟩ := h
  exact s
theorem LcD.step {es : List PyData} {e : PyData} {y : V} (n : H1 D = none) (h : LcD K H1 D es H) (s : Same H H4) (hy : Dp K H4 y e) (f : flatDs es = true) (g : flatD e = true) (sz : es.length ≤ 1000) :
    ∃ acc, H4 D = some (.lst acc) ∧ acc.length < sizeLine ∧ LcD K H1 D (es ++ [e]) (upd H4 D (.lst (acc ++ [y]))) := by
  obtain ⟨ws, h1, s1, hd⟩ := h
  have h2 := s _ _ h1
  refine ⟨ws, h2, small1000 (by rw [hd.len]; exact sz), ws ++ [y], upd_same, same_upd n (s1.trans s), ?_⟩
  exact DpAll.tk (tk_lst h2) (flatDs_app f (by show (flatD e && flatDs []) = true; rw [g]; rfl)) ((hd.same s).app (.cons hy .nil))
theorem LcD.ints {ns : List Int} (h : LcD K H1 D (ns.map PyData.int) H) : H D = some (.lst (ns.map V.int)) := by
  obtain ⟨ws, h1, _, hd⟩ := h
  rw [hd.of_ints] at h1
  exact h1
theorem LcD.bools {bs : List Bool} (h : LcD K H1 D (bs.map PyData.bool) H) : H D = some (.lst (bs.map V.bl)) := by
  obtain ⟨ws, h1, _, hd⟩ := h
  rw [hd.of_bools] at h1
  exact h1
end
/-- t[lo:hi] of a tuple, whatever its items -/
def rCutV (K : PySem.W.Frag) : V → Option Int → Option Int → Hp → VK → Prop := fun x lo hi H Q => ∃ a xs, x = .ref a ∧ SqT K H a xs ∧ ∀ H' b, Same H H' → SqT K H' b (cutD xs lo hi) → Q (.ref b) H'
theorem sl_any {X : Cx} : L2.SlR X (rCutV X.K) := by
  intro pins s σ H x v vl vu lo hi sl Q I rx hs pl pu ⟨a, xs, ex, hx, q⟩
  subst ex
  refine sl_tupA pins s σ H _ v vl vu lo hi sl Q I rx hs pl pu ⟨a, xs, rfl, hx, fun w => ?_, fun _ p np => ?_⟩
  · refine q H _ (Same.refl H) ?_
    have e : cutD xs lo hi = xs := by
      unfold cutD
      rw [w.1, w.2, List.drop_zero, Nat.sub_zero, List.take_length]
    rw [e]
    exact hx
  · exact q _ _ (Same.new np) (SqT.of upd_same)
theorem cutD_nat {α : Type} {xs : List α} {i j : Nat} (h : j ≤ xs.length) (hij : i ≤ j) : cutD xs (some (i : Int)) (some (j : Int)) = (xs.drop i).take (j - i) := by
  unfold cutD
  rw [HT.sIx_nat, HT.sIx_nat, Nat.min_eq_left h, Nat.min_eq_left (Nat.le_trans hij h)]
/-! the mathematics of bends -/
def riseL (a b : List Int) : List Int := List.zipWith (fun lo hi => hi - lo) a b
def at0 (ns : List Int) (j : Nat) : Int := ns.getD j 0
def bowL (ms rs : List Int) (j : Nat) : Int := (at0 rs (j + 2) - at0 rs (j + 1)) * (at0 ms (j + 1) - at0 ms j) - (at0 rs (j + 1) - at0 rs j) * (at0 ms (j + 2) - at0 ms (j + 1))
def bendRow (ms rs : List Int) (way : Int) (i : Nat) : List (Nat × Nat) := ((List.range (ms.length - 2)).filter fun j => decide (0 < bowL ms rs j * way)).map fun j => (i, j)
def bendsL (ms : List Int) (rows : List (List Int)) (way : Int) : Nat → List (Nat × Nat)
  | 0 => []
  | n + 1 => bendsL ms rows way n ++ bendRow ms (riseL (rows.getD n []) (rows.getD (n + 1) [])) way n
def bendsT (ms : List Int) (rows : List (List Int)) (way : Int) : List (Nat × Nat) := bendsL ms rows way (rows.length - 1)
def plD (a : Nat × Nat) : PyData := .tuple [.int (a.1 : Int), .int (a.2 : Int)]
def costD (rows : List (List Int)) : PyData := .tuple (rows.map fun r => .tuple (r.map PyData.int))
/-- costs of n rows, m places each, not too great -/
structure CostOk (rows : List (List Int)) (n m : Nat) : Prop where
  len : rows.length = n
  wide : ∀ r ∈ rows, r.length = m
  small : ∀ r ∈ rows, ∀ c ∈ r, c.natAbs ≤ 1000
theorem riseL_len {a b : List Int} {m : Nat} (ha : a.length = m) (hb : b.length = m) : (riseL a b).length = m := by
  unfold riseL
  rw [List.length_zipWith, ha, hb, Nat.min_self]
theorem riseL_small {a b : List Int} (ha : ∀ c ∈ a, c.natAbs ≤ 1000) (hb : ∀ c ∈ b, c.natAbs ≤ 1000) : ∀ c ∈ riseL a b, c.natAbs ≤ 2000 := by
  intro c hc
  unfold riseL at hc
  rw [List.mem_iff_getElem?] at hc
  obtain ⟨i, hi⟩ := hc
  rw [List.getElem?_zipWith] at hi
  cases e1 : a[i]? with
  | none => rw [e1] at hi; cases hi
  | some x =>
    cases e2 : b[i]? with
    | none => rw [e1, e2] at hi; cases hi
    | some y =>
      rw [e1, e2] at hi
      cases hi
      have h1 := ha x (List.mem_of_getElem? e1)
      have h2 := hb y (List.mem_of_getElem? e2)
      omega
theorem at0_get {ns : List Int} {j : Nat} (h : j < ns.length) : ns[j]? = some (at0 ns j) := by
  unfold at0
  rw [List.getD_eq_getElem?_getD, List.getElem?_eq_getElem h]
  rfl
theorem at0_mem {ns : List Int} {j : Nat} (h : j < ns.length) : at0 ns j ∈ ns := List.mem_of_getElem? (at0_get h)
theorem bendRow_len (ms rs : List Int) (way : Int) (i : Nat) : (bendRow ms rs way i).length ≤ ms.length := by
  unfold bendRow
  rw [List.length_map]
  refine Nat.le_trans (List.length_filter_le _ _) ?_
  rw [List.length_range]
  omega
theorem bendsL_len (ms : List Int) (rows : List (List Int)) (way : Int) : ∀ n, (bendsL ms rows way n).length ≤ n * ms.length
  | 0 => by show 0 ≤ _; exact Nat.zero_le _
  | n + 1 => by
    have := bendsL_len ms rows way n
    have h2 := bendRow_len ms (riseL (rows.getD n []) (rows.getD (n + 1) [])) way n
    show (bendsL ms rows way n ++ _).length ≤ _
    rw [List.length_append, Nat.add_mul, Nat.one_mul]
    omega
theorem flat_pls : ∀ ps : List (Nat × Nat), flatDs (ps.map plD) = true
  | [] => rfl
  | p :: ps => by
    show (flatD (plD p) && flatDs (ps.map plD)) = true
    rw [flat_pls ps]
    rfl
section
variable {P : Program} {w : World} {K : PySem.W.Frag} {mg : Str → Option Value} {base : Heap}
def spCostRow (K : PySem.W.Frag) : Sp := fun vs H Q _ => ∃ (v : V) (row : List Int), vs = [v, .int ((row.length : Nat) : Int)] ∧ Dp K H v (.tuple (row.map PyData.int)) ∧ (∀ c ∈ row, c.natAbs ≤ 1000) ∧ row.length ≤ 900 ∧ ∀ H', Same H H' → Q (.bl true) H'
def spNeedCosts (K : PySem.W.Frag) : Sp := fun vs H Q _ => ∃ (p q : Addr) (v : V) (xs ys : List (Int × Fx)) (rows : List (List Int)), vs = [.ref p, .ref q, v] ∧ ShAt K H p xs ∧ ShAt K H q ys ∧ Shr xs ∧ Shr ys ∧ Dp K H v (costD rows) ∧ CostOk rows xs.length ys.length ∧ ∀ H', Same H H' → Q v H'
end
end CS
set_option Elab.async false
set_option maxRecDepth 100000
set_option maxHeartbeats 4000000
set_option linter.unusedVariables false
/-! A function object as a value: what its call without arguments does is told by a promise over the abstract heap, in which the cells that it captured are tracked, too. -/
namespace CS
open PySem PySem.Spec PyProof.Rows L2 LamX
/-- the function object at f -/
def FunO (f : Addr) (fd : FuncData) : HO := .ext fun h => ∃ od sl, h.get? f = some (⟨.type "function", od, .func fd, sl⟩ : Obj)
/-- the very object at c -/
def CellX (c : Addr) (o : Obj) : HO := .ext fun h => h.get? c = some o
theorem funO_at {P : Program} {w : World} {H : Hp} {h : Heap} {f : Addr} {fd : FuncData} (ok : HOk P w H h) (e : H f = some (FunO f fd)) : ∃ od sl, h.get? f = some (⟨.type "function", od, .func fd, sl⟩ : Obj) := by
  have x : ObjOk P w H h f (FunO f fd) := ok f _ e
  exact x.1
theorem cellX_at {P : Program} {w : World} {H : Hp} {h : Heap} {c : Addr} {o : Obj} (ok : HOk P w H h) (e : H c = some (CellX c o)) : h.get? c = some o := by
  have x : ObjOk P w H h c (CellX c o) := ok c _ e
  exact x.1
theorem cellX_ok {P : Program} {w : World} {H : Hp} {h : Heap} {c : Addr} {o : Obj} (e : h.get? c = some o) : ObjOk P w H h c (CellX c o) := ⟨e, ⟨o, e⟩, fun _ _ z k => k _ z⟩
/-- with the objects of l tracked, without them -/
def addC (l : Addr → Option Obj) (H : Hp) : Hp := fun b => match l b with
  | some o => some (CellX b o)
  | none => H b
def Free (l : Addr → Option Obj) (H : Hp) : Prop := ∀ b o, l b = some o → H b = none
def Cin (l : Addr → Option Obj) (H : Hp) : Prop := ∀ b o, l b = some o → H b = some (CellX b o)
def subC (l : Addr → Option Obj) (H : Hp) : Hp := fun b => if (l b).isSome then none else H b
section
variable {l : Addr → Option Obj} {H H2 : Hp} {b : Addr} {o : Obj}
theorem addC_in (e : l b = some o) : addC l H b = some (CellX b o) := by
  unfold addC
  rw [e]
theorem addC_out (e : l b = none) : addC l H b = H b := by
  unfold addC
  rw [e]
theorem subC_in (e : l b = some o) : subC l H b = none := by
  unfold subC
  rw [e]
  rfl
theorem subC_out (e : l b = none) : subC l H b = H b := by
  unfold subC
  rw [e]
  rfl
theorem cin_add : Cin l (addC l H) := fun _ _ e => addC_in e
theorem free_sub : Free l (subC l H) := fun _ _ e => subC_in e
theorem sub_add (F : Free l H) : subC l (addC l H) = H := by
  funext b
  cases e : l b with
  | none => rw [subC_out e, addC_out e]
  | some o => rw [subC_in e, F b o e]
theorem add_sub (C : Cin l H) : addC l (subC l H) = H := by
  funext b
  cases e : l b with
  | none => rw [addC_out e, subC_out e]
  | some o => rw [addC_in e, C b o e]
theorem Cin.out (C : Cin l H) {u : HO} (e : H b = some u) (n : ∀ c o, u ≠ CellX c o) : l b = none := by
  cases q : l b with
  | none => rfl
  | some o =>
    have := C b o q
    rw [e] at this
    exact absurd (Option.some.inj this) (n b o)
theorem Free.out (F : Free l H) {u : HO} (e : H b = some u) : l b = none := by
  cases q : l b with
  | none => rfl
  | some o =>
    rw [F b o q] at e
    cases e
theorem cx_tup {c : Addr} {o : Obj} {xs : List V} : (HO.tup xs) ≠ CellX c o := fun z => by
  unfold CellX at z
  cases z
theorem cx_frz {c : Addr} {o o2 : Obj} {u : HO} : (HO.frz o2 u) ≠ CellX c o := fun z => by
  unfold CellX at z
  cases z
theorem cx_tbl {c : Addr} {o : Obj} {ps : Array Value} : (HO.tbl ps) ≠ CellX c o := fun z => by
  unfold CellX at z
  cases z
theorem sub_none (n : H b = none) : subC l H b = none := by
  unfold subC
  split
  · rfl
  · exact n
end
section
variable {P : Program} {w : World} {l : Addr → Option Obj} {H H2 : Hp} {h h' : Heap} {fs : List Addr}
theorem hok_sub (C : Cin l H) (ok : HOk P w H h) : HOk P w (subC l H) h := fun b u e => by
  have hb : l b = none := free_sub.out e
  rw [subC_out hb] at e
  refine (ok b u e).stay (fun _ _ _ q => q) (fun c hc => ?_) (fun c xs hc => ?_)
  · rw [subC_out (C.out hc fun _ _ z => by unfold CellX at z; cases z)]
    exact hc
  · rw [subC_out (C.out hc fun _ _ => cx_tup)]
    exact hc
theorem hok_add (F : Free l H2) (ok : HOk P w H2 h) (k : ∀ b o, l b = some o → h.get? b = some o) : HOk P w (addC l H2) h := fun b u e => by
  cases q : l b with
  | some o =>
    rw [addC_in q] at e
    cases e
    exact cellX_ok (k b o q)
  | none =>
    rw [addC_out q] at e
    refine (ok b u e).stay (fun _ _ _ q => q) (fun c hc => ?_) (fun c xs hc => ?_)
    · rw [addC_out (F.out hc)]
      exact hc
    · rw [addC_out (F.out hc)]
      exact hc
/-- the step of a body, told with the cells -/
theorem un_add (C : Cin l H) (F : Free l H2) (u : Un fs [] (subC l H) H2 h h') : Un fs [] H (addC l H2) h h' where
  keep := fun b o q n hb hx => u.keep b o q (sub_none n) hb hx
  slot := fun b o q n hb hx => u.slot b o q (sub_none n) hb hx
  free := fun b o q n hx => by
    have e : l b = none := by
      cases z : l b with
      | none => rfl
      | some o2 =>
        rw [C b o2 z] at n
        cases n
    rw [addC_out e]
    exact u.free b o q (sub_none n) hx
  there := u.there
  tups := fun b xs e => by
    have q := C.out e fun _ _ => cx_tup
    rw [addC_out q]
    exact u.tups b xs (by rw [subC_out q]; exact e)
  frzs := fun b o2 x e => by
    have q := C.out e fun _ _ => cx_frz
    rw [addC_out q]
    exact u.frzs b o2 x (by rw [subC_out q]; exact e)
  tbls := fun b ps e => by
    have q := C.out e fun _ _ => cx_tbl
    rw [addC_out q]
    exact u.tbls b ps (by rw [subC_out q]; exact e)
/-- .. and a caller's, told without them -/
theorem un_sub (F : Free l H) (C : Cin l H2) (hk : HOk P w H2 h') (hh : ∀ b o, l b = some o → h.get? b = some o) (u : Un fs [] (addC l H) H2 h h') : Un fs [] H (subC l H2) h h' where
  keep := fun b o q n hb hx => by
    cases z : l b with
    | none => exact u.keep b o q (by rw [addC_out z]; exact n) hb hx
    | some o2 =>
      have e := hh b o2 z
      rw [q] at e
      cases e
      exact cellX_at hk (C b _ z)
  slot := fun b o q n hb hx => by
    cases z : l b with
    | none => exact u.slot b o q (by rw [addC_out z]; exact n) hb hx
    | some o2 =>
      have e := hh b o2 z
      rw [q] at e
      cases e
      exact ⟨o.slots, cellX_at hk (C b _ z)⟩
  free := fun b o q n hx => by
    cases z : l b with
    | none => exact sub_none (u.free b o q (by rw [addC_out z]; exact n) hx)
    | some o2 => exact subC_in z
  there := u.there
  tups := fun b xs e => by
    have q := F.out e
    have := u.tups b xs (by rw [addC_out q]; exact e)
    rw [subC_out q]
    exact this
  frzs := fun b o2 x e => by
    have q := F.out e
    have := u.frzs b o2 x (by rw [addC_out q]; exact e)
    rw [subC_out q]
    exact this
  tbls := fun b ps e => by
    have q := F.out e
    have := u.tbls b ps (by rw [addC_out q]; exact e)
    rw [subC_out q]
    exact this
/-- an exception that leaves a body, told with the cells -/
theorem cx_add {outer : List Env} {s s' : Shared} {E : XK} {u : Value} (C : Cin l H) (ok : HOk P w H s.heap) (nf : ∀ b ∈ frs outer, H b = none) (c : L2.CX P w outer (subC l H) s (fun cls d H' => Free l H' → E cls d (addC l H')) u s') : L2.CX P w outer H s E u s' := by
  obtain ⟨a, B, H', cls, d, rfl, fl, hok, ub, na, os, ag, hE⟩ := c
  have hh : ∀ b o, l b = some o → s.heap.get? b = some o := fun b o e => cellX_at ok (C b o e)
  have nfr : ∀ b o, l b = some o → b ∉ frs outer := fun b o e z => by
    have := nf b z
    rw [C b o e] at this
    cases this
  have F : Free l H' := fun b o e => ub.free b o (hh b o e) (subC_in e)
  have kB : ∀ b o, l b = some o → B.get? b = some o := fun b o e => ub.keep b o (hh b o e) (subC_in e) (nfr b o e)
  refine ⟨a, B, addC l H', cls, d, rfl, fl, hok_add F hok kB, ⟨fun b o q n hb => ub.keep b o q (sub_none n) hb, ub.slot, fun b o q n => ?_, ub.there, fun b xs e => ?_, fun b o2 x e => ?_, fun b ps e => ?_⟩, ?_, os, ag, hE F⟩
  · have e : l b = none := by
      cases z : l b with
      | none => rfl
      | some o2 =>
        rw [C b o2 z] at n
        cases n
    rw [addC_out e]
    exact ub.free b o q (sub_none n)
  · have q := C.out e fun _ _ => cx_tup
    rw [addC_out q]
    exact ub.tups b xs (by rw [subC_out q]; exact e)
  · have q := C.out e fun _ _ => cx_frz
    rw [addC_out q]
    exact ub.frzs b o2 x (by rw [subC_out q]; exact e)
  · have q := C.out e fun _ _ => cx_tbl
    rw [addC_out q]
    exact ub.tbls b ps (by rw [subC_out q]; exact e)
  · cases z : l a with
    | none => rw [addC_out z]; exact na
    | some o =>
      have e1 := kB a o z
      have e2 : B.get? a = none := fl.2.1
      rw [e1] at e2
      cases e2
end
/-! what a function object's call does -/
abbrev Act := Addr → Hp → VK → XK → Prop
def ActOk (P : Program) (w : World) (K : PySem.W.Frag) (mg : Str → Option Value) (base : Heap) (k : Nat) (act : Act) : Prop :=
  ∀ (f : Addr) (A : Around) (outer : List Env) (s : Shared) (H : Hp) (Q : VK) (E : XK), Room k A → Env0 P w K mg base A outer s H → act f H Q E →
    (∃ fd, H f = some (FunO f fd)) ∧ codeAny (model P w) A (.call (.ref f) ⟨[], []⟩) (CR (L2.CX P w) outer P w H s Q E) s
section
variable {X : Cx} {act : Act} {k i : Nat} {x : Str} {E : L2.St → XK} {p pos : PySem.Pos}
def tAct (act : Act) (i : Nat) (E : L2.St → XK) : TE := fun σ H Q => ∃ f, σ[i]? = some (some (.ref f)) ∧ act f H Q (E σ)
/-- x(), x a name that holds such an object -/
theorem pe_act0 (ha : ActOk X.prog X.w X.K X.mg X.base k act) (hr : Room k X.A) (hx : ∀ σ, PassesAt (L2.CX X.prog X.w) X σ (E σ)) (hN : X.N[i]? = some x) (hv : Vis X.env.scope x) (hd : (x == ("__debug__" : Str)) = false := by decide) (hcd : (x == ("__classdict__" : Str)) = false := by decide) :
    PE X (.Call (.Name x p) [] [] pos) (tAct act i E) := by
  refine ⟨fun pins s σ H Q I h => ?_⟩
  obtain ⟨f, hs, q⟩ := h
  obtain ⟨⟨fd, hf⟩, hc⟩ := ha f X.A X.stack s H Q (E σ) hr I.env0 q
  have hv2 := (pe_var (pos := p) hN hv hd hcd).run pins s σ H (fun v H1 => v = .ref f ∧ H1 = H ∧ act f H Q (E σ)) I ⟨.ref f, hs, rfl, rfl, q⟩
  refine wpAny_Call_Name_kw (thn hv2 fun u s1 ⟨v, H1, I1, r1, ev, eH, q1⟩ => ?_)
  subst ev
  subst eH
  obtain rfl : u = Value.ref f := r1
  obtain ⟨⟨fd, hf⟩, hc⟩ := ha f X.A X.stack s1 H1 Q (E σ) hr I1.env0 q1
  obtain ⟨od, sl, ho⟩ := funO_at I1.hok hf
  refine PySem.W.callWith_F0 (first := []) ⟨_, od, _, sl, ho⟩ ?_
  show wpAny _ _ (call (.ref f) []) _ _ _
  refine wpAny_call (codeAny_mono hc fun r s' hq => ?_)
  match r with
  | .error er => exact hx σ pins H1 s1 er s' I1 hq
  | .ok (.ret u) => exact I1.after hq
  | .ok .next => exact hq.elim
  | .ok .brk => exact hq.elim
  | .ok .cont => exact hq.elim
end
/-! a lambda's call -/
/-- the scope of a lambda whose own names (its parameters) are none of N -/
structure LScope (sc scope : Scope) (N : List Str) : Prop where
  kind : scope.kind = .function
  co : scope.isCoroutine = false
  gen : scope.isGenerator = false
  cell : ∀ y ∈ scope.names, y.2 ≠ .cell
  own : ∀ y ∈ scope.names, y.2 = .local → y.1 ∉ N
  free : ∀ y ∈ scope.names, y.2 = .free → sc.names.lookup y.1 = some .cell ∨ sc.names.lookup y.1 = some .free
theorem LScope.has {X : Cx} {scope : Scope} {N : List Str} (L : LScope X.env.scope scope N) (ok : X.Ok) : ∀ y ∈ scope.names, y.2 = .free → ∃ c, X.env.cells.lookup y.1 = some c := fun y hy e =>
  (L.free y hy e).elim (fun k => ok.has _ (.inl k)) fun k => ok.has _ (.inr k)
abbrev clo (X : Cx) (scope : Scope) : List (Str × Addr) := cloFrom X.env.cells scope.names []
abbrev lfd (X : Cx) (scope : Scope) (params : Arguments) (body : Expr) (c' : Addr) (dV doc pm ctv : Value) : FuncData :=
  PySem.W.kdv_fn "<lambda>" (X.env.qual ++ "<lambda>") params (.expr body) scope (clo X scope) dV doc pm (.ref c') ctv
/-- the objects of l are the captured cells, with what the slots tell -/
structure Held (X : Cx) (scope : Scope) (σ : L2.St) (l : Addr → Option Obj) : Prop where
  all : ∀ y c, (clo X scope).lookup y = some c → ∃ o v, l c = some o ∧ o.data = .cell v
  val : ∀ (i : Nat) (x : Str) (v : V), X.N[i]? = some x → σ[i]? = some (some v) → scope.names.lookup x = some .free → ∃ c o u, (clo X scope).lookup x = some c ∧ l c = some o ∧ o.data = .cell (some u) ∧ RelV v u
section
variable {X : Cx} {scope : Scope} {σ : L2.St} {l : Addr → Option Obj} {params : Arguments} {body : Expr} {f c' : Addr} {dV doc pm ctv : Value} {k : Nat} {binds : List (Str × Value)} {E : XK} {tb : TE}
theorem lam_inv {A : Around} {outer : List Env} {s : Shared} {H : Hp} {h₁ : Heap} {tk : Nat} (ok : X.Ok) (L : LScope X.env.scope scope X.N) (V : Held X scope σ l) (hlen : σ.length = X.N.length) (C : Cin l H) (e0 : Env0 X.prog X.w X.K X.mg X.base A outer s H) (hd : A.handled = none)
    (hns : h₁.Ns s.heap.objs.size fun y => binds.reverse.lookup y) (kp : ∀ b o, s.heap.get? b = some o → h₁.get? b = some o) : Inv (lamCx X A outer s (subC l H) E scope f c') [] σ (subC l H) { s with heap := h₁, toks := tk } := by
  have hfree := L.has ok
  have at_ : ∀ {c o}, l c = some o → s.heap.get? c = some o := fun {c o} e => cellX_at e0.hok (C c o e)
  have hs := hok_sub C e0.hok
  refine {
    ok := {
      mod := e0.mod, kind := L.kind, glob := rfl, blt := rfl, above := Nat.le_refl _
      inj := fun y z c e1 e2 => ok.inj y z c (NdefX.clo_cm hfree e1) (NdefX.clo_cm hfree e2)
      has := fun y hy => ?_
      cab := fun y c z _ => absurd (show false = true from z) (by decide)
      hd := fun _ => hd
      frames := Around.frames_deeper e0.frames
      stk := .inr ⟨rfl, rfl⟩
      exf := fun b z => absurd (show b ∈ ([] : List Addr) from z) (by simp)
      bs := fun b o e => ⟨(e0.bs b o e).1, sub_none (e0.bs b o e).2⟩
      bsz := e0.bsz
      noex := fun b _ _ z => absurd (show b ∈ ([] : List Addr) from z) (by simp)
      exfs := fun b z => absurd (show b ∈ ([] : List Addr) from z) (by simp)
      funs := e0.funs
      frf := fun b hb => sub_none (e0.frf b hb) }
    os := rfl
    bare := e0.bare
    base := Un.kept kp
    loc := ⟨_, hns, fun i y v e1 e2 e3 => ?_⟩
    cell := fun y c e => ?_
    free := hs.fresh (Nat.le_refl _)
    freeC := fun y c e => ?_
    pin := fun q hq => absurd (show q ∈ ([] : List (Addr × Obj)) ++ [] from hq) (by simp)
    hok := hs.kept kp
    len := hlen }
  · have hy : scope.names.lookup y = some .cell ∨ scope.names.lookup y = some .free := hy
    rcases hy with hy | hy
    · exact absurd rfl (L.cell _ (PySem.mem_of_lookup hy))
    · obtain ⟨c, hc⟩ := hfree _ (PySem.mem_of_lookup hy) rfl
      exact ⟨c, NdefX.clo_has hfree (PySem.mem_of_lookup hy) hc⟩
  · have e3 : Vis scope y := e3
    have e1 : X.N[i]? = some y := e1
    rcases e3 with q | q | q
    · exact absurd (List.mem_of_getElem? e1) (L.own _ (PySem.mem_of_lookup q) rfl)
    · exact absurd rfl (L.cell _ (PySem.mem_of_lookup q))
    · obtain ⟨c, o, u, h1, h2, h3, r⟩ := V.val i y v e1 e2 q
      exact ⟨u, r, .inr ⟨.inr q, c, h1, o, kp _ _ (at_ h2), h3⟩⟩
  · obtain ⟨o, v, h1, h2⟩ := V.all y c e
    exact ⟨v, o, kp _ _ (at_ h1), h2⟩
  · obtain ⟨o, v, h1, h2⟩ := V.all y c e
    exact subC_in h1
/-- how its parameters are bound where nothing is passed -/
def BindL (X : Cx) (scope : Scope) (params : Arguments) (body : Expr) (dV : Value) (H : Hp) : Prop := ∀ (P : Program) (w : World) (s : Shared) (c' : Addr) (doc pm ctv : Value), HOk P w H s.heap →
  ∃ binds, BindsTo s (lfd X scope params body c' dV doc pm ctv) ⟨[], []⟩ binds ∧ ∀ y ∈ binds, scope.names.lookup y.1 = some .local
/-- what such an object's call does: the body's reading, over what is tracked but the cells -/
def lact (X : Cx) (scope : Scope) (params : Arguments) (body : Expr) (σ : L2.St) (l : Addr → Option Obj) (tb : XK → TE) : Act := fun f H Q E =>
  ∃ (c' : Addr) (dV doc pm ctv : Value) (H1 : Hp) (Q0 : VK) (E0 : XK), H = addC l H1 ∧ Free l H1 ∧ H1 f = some (FunO f (lfd X scope params body c' dV doc pm ctv)) ∧ H1 c' = some (CodeO c' (X.env.qual ++ "<lambda>")) ∧
    BindL X scope params body dV H ∧ tb E0 σ H1 Q0 ∧ (∀ v H2, Free l H2 → Q0 v H2 → Q v (addC l H2)) ∧ ∀ cls d H2, Free l H2 → E0 cls d H2 → E cls d (addC l H2)
theorem lact_ok {tb : XK → TE} (ok : X.Ok) (L : LScope X.env.scope scope X.N) (V : Held X scope σ l) (hlen : σ.length = X.N.length)
    (hb : ∀ (A : Around) (outer : List Env) (s : Shared) (H : Hp) (E : XK) (f c' : Addr), Room k (A.deeper (lamEnv X scope s.heap.objs.size f c')) → PE (lamCx X A outer s H E scope f c') body (tb E)) :
    ActOk X.prog X.w X.K X.mg X.base (k + 1) (lact X scope params body σ l tb) := by
  intro f A outer s H Q E hr e0 h
  obtain ⟨c', dV, doc, pm, ctv, H1, Q0, E0, rfl, F, hf, hc, hbind, q, hQ, hE⟩ := h
  have hf2 : addC l H1 f = some (FunO f (lfd X scope params body c' dV doc pm ctv)) := by rw [addC_out (F.out hf)]; exact hf
  have hc2 : addC l H1 c' = some (CodeO c' (X.env.qual ++ "<lambda>")) := by rw [addC_out (F.out hc)]; exact hc
  refine ⟨⟨_, hf2⟩, ?_⟩
  obtain ⟨od, sl, ho⟩ := funO_at e0.hok hf2
  have C : Cin l (addC l H1) := cin_add
  have es : subC l (addC l H1) = H1 := sub_add F
  obtain ⟨binds, hbi, hloc⟩ := hbind _ _ s c' doc pm ctv e0.hok
  refine PySem.W.kla_callFunE hr.depth ho rfl L.co L.gen rfl (NdefX.codeO_at e0.hok hc2) (hbi _ _ _ _ ?_)
  refine wpAny_newFunctionEnv L.cell hloc (fun h₁ hns hsb => ⟨((e0.mod.nolimit).keeps fun b o e => (e0.bs b o e).1).fresh _ hsb, ?_⟩) L.kind
  show codeAny _ _ (.expr body (lamEnv X scope s.heap.objs.size f c')) _ _
  have kp : ∀ b o, s.heap.get? b = some o → h₁.get? b = some o := fun b o e => hsb.extBut b o (Nat.ne_of_lt (Heap.lt_size e)) (Heap.get?_push_of_some _ e)
  have I := lam_inv (E := E0) (f := f) (c' := c') (tk := s.toks + binds.length) ok L V hlen C e0 hr.hd hns kp
  rw [es] at I
  have nfr : ∀ b ∈ frs outer, addC l H1 b = none := e0.frf
  have cx : ∀ {e : Value} {s3 : Shared}, L2.CX X.prog X.w outer H1 s E0 e s3 → L2.CX X.prog X.w outer (addC l H1) s E e s3 := fun {e s3} hx => by
    refine cx_add C e0.hok nfr ?_
    rw [es]
    obtain ⟨a, B, H', cls, d, x1, x2, x3, x4, x5, x6, x7, x8⟩ := hx
    exact ⟨a, B, H', cls, d, x1, x2, x3, x4, x5, x6, x7, fun F' => hE cls d H' F' x8⟩
  refine PySem.W.kla_codeExpr (wpAny_mono ((hb A outer s H1 E0 f c' (hr.deeper _)).run [] _ σ H1 Q0 I q) (fun u s2 hq => ?_) fun e s2 he => wpAny_mono he (fun _ _ hx => cx hx) fun _ _ hx => cx hx)
  obtain ⟨v, H2, I2, r, q2⟩ := hq
  have F2 : Free l H2 := fun b o e => I2.base.free b o (cellX_at e0.hok (C b o e)) (F b o e) (by intro z; cases z)
  have un : Un (frs outer) [] (subC l (addC l H1)) H2 s.heap s2.heap := by rw [es]; exact I2.base
  refine ⟨v, addC l H2, I2.os, I2.bare, un_add C F2 un, hok_add F2 I2.hok fun b o e => ?_, r, hQ v H2 F2 q2⟩
  refine I2.base.keep b o (cellX_at e0.hok (C b o e)) (F b o e) (fun z => ?_) (by intro z; cases z)
  have := nfr b z
  rw [C b o e] at this
  cases this
end
end CS
set_option Elab.async false
set_option maxRecDepth 100000
set_option maxHeartbeats 4000000
set_option linter.unusedVariables false
namespace CS
open PySem PySem.Spec PyProof.Rows L2 LamX
/-! the making of such an object; a def that is handed it -/
theorem funO_ok {P : Program} {w : World} {H : Hp} {h : Heap} {f : Addr} {fd : FuncData} {od : Option Addr} {sl : Array (Option Value)} (e : h.get? f = some (⟨.type "function", od, .func fd, sl⟩ : Obj)) : ObjOk P w H h f (FunO f fd) :=
  ⟨⟨od, sl, e⟩, ⟨_, e⟩, fun _ _ ⟨a, b, z⟩ k => ⟨a, b, k _ z⟩⟩
/-- one more code object of the name q in the table -/
theorem tabs_more {T : List (Addr × Str)} {H : Hp} {P c' : Addr} {q : Str} {ps : Array Value} {pos : PySem.Pos} (hT : Tabs T H) (hP : H P = some (.tbl ps)) (ht : TriplesOk ps.toList) (hn : H c' = none) (hu : ∀ p ∈ T, p.1 = P → p.2 = q) :
    Tabs T (upd (upd H P (.tbl (ps ++ #[rawInt pos.line, rawInt pos.col, .ref c']))) c' (CodeO c' q)) := by
  have nP : P ≠ c' := ne_of_none hP hn
  rintro ⟨B, z⟩ hp
  obtain ⟨bs, b1, b2, b3⟩ := hT _ hp
  have nB : B ≠ c' := ne_of_none b1 hn
  have old : ∀ c, H c = some (CodeO c z) → upd (upd H P (.tbl (ps ++ #[rawInt pos.line, rawInt pos.col, .ref c']))) c' (CodeO c' q) c = some (CodeO c z) := fun c hc => by
    rw [upd_ne (ne_of_none hc hn), upd_ne (fun y => by rw [y, hP] at hc; exact codeO_ne _ (Option.some.inj hc).symm)]
    exact hc
  by_cases e : B = P
  · subst e
    obtain rfl : z = q := hu _ hp rfl
    rw [show H B = _ from b1] at hP
    cases hP
    refine ⟨_, by show upd _ _ _ B = _; rw [upd_ne nB, upd_same], ?_, fun p2 cv hcv => ?_⟩
    · rw [Array.toList_append]
      exact PySem.TriplesOk_snoc _ _ _ _ b2
    · rw [Array.toList_append] at hcv
      rcases among_app _ b2 hcv with y | y
      · obtain ⟨c, rfl, hc⟩ := b3 p2 cv y
        exact ⟨c, rfl, old c hc⟩
      · exact ⟨c', y, upd_same⟩
  · refine ⟨bs, by show upd _ _ _ B = _; rw [upd_ne nB, upd_ne e]; exact b1, b2, fun p2 cv hcv => ?_⟩
    obtain ⟨c, rfl, hc⟩ := b3 p2 cv hcv
    exact ⟨c, rfl, old c hc⟩
section
variable {X : Cx} {pins : List (Addr × Obj)} {σ : L2.St} {H : Hp} {s : Shared} {scope : Scope} {params : Arguments} {body : Expr}
/-- the object alone is new -/
theorem fun_new {c' : Addr} {dV doc pm ctv : Value} {tk : Nat} (I : Inv X pins σ H s) : Inv X pins σ (upd H s.heap.objs.size (FunO s.heap.objs.size (lfd X scope params body c' dV doc pm ctv))) { s with heap := s.heap.push (PySem.W.kdv_obj "<lambda>" (X.env.qual ++ "<lambda>") params (.expr body) scope (clo X scope) dV doc pm c' ctv), toks := tk } :=
  I.laid (fun b u e => Heap.get?_push_of_some _ e) (Nat.le_refl _) (funO_ok (Heap.get?_push_size _ rfl))
/-- what is known behind the making -/
def Made (X : Cx) (scope : Scope) (params : Arguments) (body : Expr) (T : List (Addr × Str)) (H : Hp) (dV : Value) (f : Addr) (H1 : Hp) : Prop :=
  ExtN H H1 ∧ Tabs T H1 ∧ H f = none ∧ ∃ (c' : Addr) (doc pm ctv : Value), H1 f = some (FunO f (lfd X scope params body c' dV doc pm ctv)) ∧ H1 c' = some (CodeO c' (X.env.qual ++ "<lambda>"))
theorem lam_made {T : List (Addr × Str)} {c P : Addr} {pos : PySem.Pos} {dV : Value} {E : Value → Shared → Prop} {Q : Value → Shared → Prop} (I : Inv X pins σ H s) (TB : TabB X.base X.mg c P) (hcode : X.env.code = .ref c) (hm : (P, X.env.qual ++ "<lambda>") ∈ T)
    (hu : ∀ p ∈ T, p.1 = P → p.2 = X.env.qual ++ "<lambda>") (hT : Tabs T H) (hfree : ∀ y ∈ scope.names, y.2 = .free → ∃ c, X.env.cells.lookup y.1 = some c) (h : ∀ f H1 s', Inv X pins σ H1 s' → Made X scope params body T H dV f H1 → Q (.ref f) s') :
    wpAny (model X.prog X.w) X.A (makeTail "<lambda>" (X.env.qual ++ "<lambda>") params (.expr body) scope X.env dV .none none pos pos.line) Q E s := by
  obtain ⟨ps, hP, ht, ha⟩ := hT _ hm
  have gP : s.heap.get? P = some (PySem.W.tabObj ps) := I.hok P _ hP
  cases hc : codeAmong pos ps.toList with
  | some cv =>
    obtain ⟨c', rfl, hc'⟩ := ha pos cv hc
    refine PySem.W.kdv_makeTailHit (closure_ok hfree) I.ok.glob (I.mod.glob.keeps I.bk) hcode (TB.code.keeps I.bk) gP ht hc (TB.bm.keeps I.bk) fun ctv doc h' tk hx hge => ?_
    have I1 : Inv X pins σ H { s with heap := h', toks := tk } := I.kept hx
    have n1 : H h'.objs.size = none := I1.hok.fresh (Nat.le_refl _)
    refine h _ _ _ (fun_new (c' := c') (tk := tk) I1) ⟨fun b o e _ => by rw [upd_ne (ne_of_none e n1)]; exact e, hT.ext fun b o e => by rw [upd_ne (ne_of_none e n1)]; exact e, n1, c', doc, _, ctv, upd_same, by rw [upd_ne (ne_of_none hc' n1)]; exact hc'⟩
  | none =>
    refine PySem.W.kdv_makeTail (closure_ok hfree) I.ok.glob (I.mod.glob.keeps I.bk) hcode (TB.code.keeps I.bk) gP ht hc TB.gP (TB.bm.keeps I.bk) fun c' ctv doc h' tk hx hge _ hrec htb => ?_
    obtain ⟨c2, oc, vs, t, e2, r1, r2, r3⟩ := hrec
    cases e2
    have nC : H c' = none := I.hok.fresh hge
    have I1 := inv_table (t' := tk) I hP (fun b o hb e => hx b o hb e) htb hge ⟨oc, vs, t, r1, r2, r3⟩
    have n1 := I1.hok.fresh (a := h'.objs.size) (Nat.le_refl _)
    have T1 := tabs_more (pos := pos) hT hP ht nC hu
    have X1 : ExtN H (upd (upd H P (.tbl (ps ++ #[rawInt pos.line, rawInt pos.col, .ref c']))) c' (CodeO c' (X.env.qual ++ "<lambda>"))) := fun b o e n => by
      rw [upd_ne (ne_of_none e nC), upd_ne (fun y => by rw [y, hP] at e; cases e; exact n _ rfl)]
      exact e
    have hc' : upd (upd H P (.tbl (ps ++ #[rawInt pos.line, rawInt pos.col, .ref c']))) c' (CodeO c' (X.env.qual ++ "<lambda>")) c' = some (CodeO c' (X.env.qual ++ "<lambda>")) := upd_same
    have nH : H h'.objs.size = none := by
      by_cases y : h'.objs.size = c'
      · rw [y]; exact nC
      · by_cases y2 : h'.objs.size = P
        · rw [y2, upd_ne (ne_of_none hP nC), upd_same] at n1
          cases n1
        · rw [upd_ne y, upd_ne y2] at n1
          exact n1
    generalize upd (upd H P (.tbl (ps ++ #[rawInt pos.line, rawInt pos.col, .ref c']))) c' (CodeO c' (X.env.qual ++ "<lambda>")) = H2 at *
    refine h _ _ _ (fun_new (c' := c') (tk := tk) I1) ⟨X1.trans fun b o e _ => by rw [upd_ne (ne_of_none e n1)]; exact e, T1.ext fun b o e => by rw [upd_ne (ne_of_none e n1)]; exact e, nH, c', doc, _, ctv, upd_same, by rw [upd_ne (ne_of_none hc' n1)]; exact hc'⟩
/-- lambda: body -/
def tLamV (X : Cx) (scope : Scope) (params : Arguments) (body : Expr) (T : List (Addr × Str)) : TE := fun _ H Q => Tabs T H ∧ ∀ f H1 dV, Made X scope params body T H dV f H1 → BindL X scope params body dV H1 → Q (.ref f) H1
theorem Made.of_ext {T : List (Addr × Str)} {H0 H1 : Hp} {dV : Value} {f : Addr} (e : ∀ b o, H b = some o → H0 b = some o) (n : ∀ b, H0 b = none → H b = none) (m : Made X scope params body T H0 dV f H1) : Made X scope params body T H dV f H1 :=
  ⟨(ExtN.of e).trans m.1, m.2.1, n _ m.2.2.1, m.2.2.2⟩
theorem pe_lam0 {T : List (Addr × Str)} {c P : Addr} {pos : PySem.Pos} (TB : TabB X.base X.mg c P) (hcode : X.env.code = .ref c) (hm : (P, X.env.qual ++ "<lambda>") ∈ T)
    (hu : ∀ p ∈ T, p.1 = P → p.2 = X.env.qual ++ "<lambda>") (L : LScope X.env.scope scope X.N) (hp : params = ⟨[], [], none, [], [], none, []⟩) : PE X (.Lambda params body scope pos) (tLamV X scope params body T) := by
  subst hp
  refine ⟨fun pins s σ H Q I ⟨hT, h⟩ => ?_⟩
  refine PySem.W.kla_eval rfl ?_
  rw [makeFunction_eq]
  simp only [List.zip_nil_right, List.filterMap_nil, List.isEmpty_nil, if_true, pure_bind]
  refine lam_made I TB hcode hm hu hT (L.has I.ok) fun f H1 s' I1 m => ⟨.ref f, H1, I1, rfl, h f H1 .none m fun P w s c' doc pm ctv _ => ⟨[], .of_eq rfl, fun _ z => nomatch z⟩⟩
theorem pe_lam1 {T : List (Addr × Str)} {c P : Addr} {pos p1 p2 : PySem.Pos} {x : Str} {i : Int} {j : Nat} (TB : TabB X.base X.mg c P) (hcode : X.env.code = .ref c) (hm : (P, X.env.qual ++ "<lambda>") ∈ T)
    (hu : ∀ p ∈ T, p.1 = P → p.2 = X.env.qual ++ "<lambda>") (L : LScope X.env.scope scope X.N) (hx : scope.names.lookup x = some .local) (hp : params = ⟨[], [⟨x, none, p1⟩], none, [], [], none, [.Constant (.int i) j p2]⟩) : PE X (.Lambda params body scope pos) (tLamV X scope params body T) := by
  subst hp
  refine ⟨fun pins s σ H Q I ⟨hT, h⟩ => ?_⟩
  refine PySem.W.kdv_lam rfl rfl (evalAll_cons ?_)
  have h0 := (pe_int (X := X) (i := i) (j := j) (pos := p2)).run pins s σ H (fun v H1 => v = .int i ∧ H1 = H) I ⟨rfl, rfl⟩
  refine thn h0 fun u s1 ⟨v, H1, I1, r, ev, eH⟩ => ?_
  subst ev
  subst eH
  obtain ⟨t, rfl⟩ := r
  refine evalAll_nil ?_
  rw [makeFunction_eq]
  simp only [List.zip_nil_right, List.filterMap_nil, List.isEmpty_nil, if_true, pure_bind, List.isEmpty_cons, Bool.false_eq_true, if_false]
  refine wpAny_bind (wpAny_newTextTuple ?_)
  have nd : H1 s1.heap.objs.size = none := I1.hok.fresh (Nat.le_refl _)
  have I2 : Inv X pins σ (upd H1 s1.heap.objs.size (.tup [.int i])) { s1 with heap := s1.heap.push { cls := .type "tuple", data := .seq [Value.int i t].toArray } } :=
    I1.laid (t' := s1.toks) (fun b u e => Heap.get?_push_of_some _ e) (Nat.le_refl _) ⟨by show 1 ≤ sizeLine; decide, [Value.int i t], .cons ⟨t, rfl⟩ .nil, ⟨_, Heap.get?_push_size _ rfl, rfl, _, rfl⟩⟩
  have e2 : ∀ b o, H1 b = some o → upd H1 s1.heap.objs.size (.tup [.int i]) b = some o := fun b o e => by
    rw [upd_ne (ne_of_none e nd)]
    exact e
  have hT2 := hT.ext e2
  have ht : upd H1 s1.heap.objs.size (.tup [.int i]) s1.heap.objs.size = some (.tup [.int i]) := upd_same
  have n2 : ∀ b, upd H1 s1.heap.objs.size (.tup [.int i]) b = none → H1 b = none := fun b z => NdefX.upd_none z
  generalize upd H1 s1.heap.objs.size (.tup [.int i]) = H2 at *
  refine lam_made I2 TB hcode hm hu hT2 (L.has I2.ok) fun f H3 s' I3 m => ⟨.ref f, H3, I3, rfl, h f H3 _ (m.of_ext e2 n2) fun P w s c' doc pm ctv ok => ?_⟩
  have ht3 : H3 s1.heap.objs.size = some (.tup [.int i]) := m.1 _ _ ht fun _ z => by cases z
  obtain ⟨_, its, vs, o, h1, h2, n, h3⟩ := (show ObjOk P w H3 s.heap s1.heap.objs.size (.tup [.int i]) from ok _ _ ht3)
  cases vs with
  | @cons _ u _ ur ra rw' =>
    cases rw'
    exact ⟨[(x, u)], .of_defaults rfl h1 h3 rfl (by simp), fun y hy => by
      rw [List.mem_singleton.mp hy]
      exact hx⟩
end
section
variable {X : Cx} {scope : Scope} {params : Arguments} {body : Expr} {k : Nat}
/-- the captured cells' objects, now -/
def heldNow (X : Cx) (scope : Scope) (h : Heap) : Addr → Option Obj := fun c => if (clo X scope).any (fun p => decide (p.2 = c)) then h.get? c else none
theorem held_mem {h : Heap} {c : Addr} {o : Obj} (e : heldNow X scope h c = some o) : (∃ y, (y, c) ∈ clo X scope) ∧ h.get? c = some o := by
  unfold heldNow at e
  split at e
  · rename_i q
    obtain ⟨⟨y, c2⟩, hp, z⟩ := List.any_eq_true.mp q
    exact ⟨⟨y, of_decide_eq_true z ▸ hp⟩, e⟩
  · cases e
theorem held_in {h : Heap} {y : Str} {c : Addr} (e : (clo X scope).lookup y = some c) : heldNow X scope h c = h.get? c := by
  unfold heldNow
  rw [if_pos (List.any_eq_true.mpr ⟨(y, c), PySem.mem_of_lookup e, decide_eq_true rfl⟩)]
theorem clo_mem (L : LScope X.env.scope scope X.N) (ok : X.Ok) {y : Str} {c : Addr} (e : (y, c) ∈ clo X scope) : X.env.cells.lookup y = some c := by
  rcases cloFrom_mem e with hm | ⟨h1, h2⟩
  · cases hm
  · obtain ⟨c1, hc⟩ := L.has ok _ h1 rfl
    have hc : X.env.cells.lookup y = some c1 := hc
    rw [h2, hc]
    rfl
theorem held_of {pins : List (Addr × Obj)} {σ : L2.St} {H : Hp} {s : Shared} (L : LScope X.env.scope scope X.N) (I : Inv X pins σ H s) : Held X scope σ (heldNow X scope s.heap) ∧ Free (heldNow X scope s.heap) H := by
  have hfree := L.has I.ok
  refine ⟨⟨fun y c e => ?_, fun i x v e1 e2 e3 => ?_⟩, fun c o e => ?_⟩
  · obtain ⟨v, o, ho, hd⟩ := I.cell y c (NdefX.clo_cm hfree e)
    exact ⟨o, v, by rw [held_in e]; exact ho, hd⟩
  · obtain ⟨m, hn, hl⟩ := I.loc
    have hm := PySem.mem_of_lookup e3
    have hvis : Vis X.env.scope x := (L.free _ hm rfl).elim (fun k => .inr (.inl k)) fun k => .inr (.inr k)
    obtain ⟨u, r, lo⟩ := hl i x v e1 e2 hvis
    rcases lo with ⟨k, _⟩ | ⟨_, c, ec, o, ho, hd⟩
    · rcases L.free _ hm rfl with k2 | k2 <;> (rw [show X.env.kindOf x = _ from k2] at k; cases k)
    · have e4 := NdefX.clo_has hfree hm ec
      exact ⟨c, o, u, e4, by rw [held_in e4]; exact ho, hd, r⟩
  · obtain ⟨⟨y, hy⟩, _⟩ := held_mem e
    exact I.freeC y c (clo_mem L I.ok hy)
/-- what a def makes of the exceptions of what it is handed, is the same with cells tracked -/
def Nat1 (Wx : Value → Option Addr → Hp → VK → Prop) : Prop := ∀ (l : Addr → Option Obj) (cls : Value) (d : Option Addr) (H : Hp) (Q : VK), Free l H → Wx cls d H Q → Wx cls d (addC l H) (fun v H2 => Cin l H2 ∧ Q v (subC l H2))
/-- the promise of a def that calls what it is handed, gives out what that gives, and makes Wx of its exceptions -/
def spGive (Wx : Value → Option Addr → Hp → VK → Prop) (act : Act) : Sp := fun vs H Q _ => ∃ f, vs = [.ref f] ∧ act f H Q (fun cls d H' => Wx cls d H' Q)
/-- x(lambda: body) -/
theorem pe_give {Wx : Value → Option Addr → Hp → VK → Prop} {T : List (Addr × Str)} {x a : Str} {g : Addr} {fd : FuncData} {j : Nat} {tb : XK → TE} {p lpos pos : PySem.Pos} (nat : Nat1 Wx)
    (G : ∀ act, ActOk X.prog X.w X.K X.mg X.base (k + 1) act → FnOk X.prog X.w X.K X.mg X.base CX0 j g fd [a] (spGive Wx act)) (hr : Room j X.A) (hg : Gl X x) (hm : X.mg x = some (.ref g)) (hk : PySem.W.keepIn X.K (.ref g) = true) (hb : Binds X.K fd [a] [])
    (hfn : ∀ y, X.fn y = true) (L : LScope X.env.scope scope X.N) (he : PE X (.Lambda params body scope lpos) (tLamV X scope params body T))
    (hbody : ∀ (A : Around) (outer : List Env) (s : Shared) (H : Hp) (E : XK) (f c' : Addr), Room k (A.deeper (lamEnv X scope s.heap.objs.size f c')) → PE (lamCx X A outer s H E scope f c') body (tb E)) (hdb : (x == ("__debug__" : Str)) = false := by decide) :
    PE X (.Call (.Name x p) [.Lambda params body scope lpos] [] pos) (fun σ H Q => Tabs T H ∧ ∀ H1, ExtN H H1 → Tabs T H1 → tb (fun cls d H2 => Wx cls d H2 Q) σ H1 Q) := by
  refine ⟨fun pins s σ H Q I ⟨hT, h⟩ => ?_⟩
  refine wpAny_Call_Name_kw (ld_glob I hg hm ?_ hdb)
  refine PySem.W.callWith_K (h₀ := X.base) I.ok.mod.kin hk (thn ((pa_cons he pa_nil).run pos pins s σ H (fun vs H1 => ∃ f dV, vs = [.ref f] ∧ Made X scope params body T H dV f H1 ∧ BindL X scope params body dV H1) I ⟨hT, fun f H1 dV m b => ⟨f, dV, rfl, m, b⟩⟩) fun us s1 ⟨vs, H1, I1, r, f, dV, ev, m, bl⟩ => ⟨I1.kIn, ?_⟩) rfl rfl
  subst ev
  obtain ⟨V, F⟩ := held_of L I1
  obtain ⟨x1, t1, nf, c', doc, pm, ctv, hf, hc⟩ := m
  have q := h H1 x1 t1
  have hh : ∀ b o, heldNow X scope s1.heap b = some o → s1.heap.get? b = some o := fun b o e => (held_mem e).2
  have cell_hi : ∀ b o, heldNow X scope s1.heap b = some o → X.s_0.heap.objs.size ≤ b := fun b o e => by
    obtain ⟨⟨y, hy⟩, _⟩ := held_mem e
    exact I.ok.cab y b (hfn y) (clo_mem L I.ok hy)
  have cell_ne : ∀ b o, heldNow X scope s1.heap b = some o → b ≠ X.env.locals := fun b o e => by
    obtain ⟨⟨y, hy⟩, _⟩ := held_mem e
    exact I1.cne y b (clo_mem L I.ok hy)
  have okA := hok_add F I1.hok hh
  generalize heldNow X scope s1.heap = l at *
  have A := lact_ok (params := params) (body := body) I.ok L V I1.len hbody
  have e0 := I1.env0
  have none_of : ∀ b, H1 b = none → l b = none → addC l H1 b = none := fun b n e => by rw [addC_out e]; exact n
  have lbase : ∀ b o, X.base.get? b = some o → l b = none := fun b o e => by
    cases z : l b with
    | none => rfl
    | some o2 => exact absurd (Nat.lt_of_lt_of_le (Heap.lt_size e) I.ok.bsz) (Nat.not_lt.mpr (cell_hi b o2 z))
  have lfr : ∀ b ∈ frs X.stack, l b = none := fun b hb => by
    cases z : l b with
    | none => rfl
    | some o2 =>
      rcases List.mem_cons.mp (I1.stkSub b hb) with y | y
      · exact absurd y (cell_ne b o2 z)
      · obtain ⟨_, ob, hob, _⟩ := I1.ok.funs.mem y
        exact absurd (Heap.lt_size hob) (Nat.not_lt.mpr (cell_hi b o2 z))
  have e1 : Env0 X.prog X.w X.K X.mg X.base X.A X.stack s1 (addC l H1) := ⟨e0.frames, e0.mod, fun b o e => ⟨(e0.bs b o e).1, none_of b (e0.bs b o e).2 (lbase b o e)⟩, e0.bsz, e0.funs, fun b hb => none_of b (e0.frf b hb) (lfr b hb), okA, e0.bare⟩
  have hsp : spGive Wx (lact X scope params body σ l tb) [.ref f] (addC l H1) (fun v H2 => Cin l H2 ∧ Q v (subC l H2)) (fun _ _ _ => False) := by
    refine ⟨f, rfl, c', dV, doc, pm, ctv, H1, Q, _, rfl, F, hf, hc, fun P w s c' doc pm ctv ok => ?_, q, fun v H2 F2 q2 => ⟨cin_add, by rw [sub_add F2]; exact q2⟩, fun cls d H2 F2 q2 => nat l cls d H2 Q F2 q2⟩
    have := hok_sub (l := l) cin_add ok
    rw [sub_add F] at this
    exact bl P w s c' doc pm ctv this
  refine wpAny_call (codeAny_mono ((G _ A).run X.A X.stack s1 (addC l H1) ⟨us, []⟩ (us ++ []) [.ref f] _ _ hr e1 (hb s1 us I1.kIn (by rw [List.append_nil, ← r.length]; rfl)) (by rw [List.append_nil]; exact r) hsp) fun r s' hq => ?_)
  match r with
  | .error er => exact hq.elim
  | .ok (.ret u) =>
    obtain ⟨v, H2, os, bare, un, hok, r2, C2, q2⟩ := hq
    exact ⟨v, subC l H2, I1.call' (ch := []) os (un_sub F C2 hok hh un) (hok_sub C2 hok) bare (fun b z => absurd z (by simp)), r2, q2⟩
  | .ok .next => exact hq.elim
  | .ok .brk => exact hq.elim
  | .ok .cont => exact hq.elim
end
end CS
set_option Elab.async false
set_option maxRecDepth 100000
set_option maxHeartbeats 4000000
set_option linter.unusedVariables false
/-! An exception class of the program's own over any built-in one, whose __init__ stores its one argument. -/
namespace CS
open PySem PySem.Spec PyProof.Rows L2
/-- what the written part says of it: x its name, f the field, bmB the built-in classes above -/
structure OwnX (K : PySem.W.Frag) (mg : Str → Option Value) (x f : Str) (C fI : Addr) (bmB : List Value) (newId : String) : Prop where
  gC : mg x = some (.ref C)
  ini : PySem.W.excInitIn K C bmB newId = true
  ovr : PySem.W.excOver K C bmB = true
  sa : PySem.W.findIn K (.ref C) "__setattr__" = some (some (.builtin "object.__setattr__"))
  tk : PySem.W.takerIn K C f = some none
  xf : XfC K C
  noF : PySem.W.findIn K (.ref C) f = some none
  iC : PySem.W.findIn K (.ref C) "__init__" = some (some (.ref fI))
  tI : PySem.W.typeIn K (.ref fI) = some (.type "function")
  kC : PySem.W.keepIn K (.ref C) = true
  tyC : PySem.W.typeIn K (.ref C) = some (.type "type")
section
variable {X : Cx} {pins : List (Addr × Obj)} {σ : L2.St} {H : Hp} {s : Shared} {a C fI : Addr} {x f : Str} {y : V} {u : Value} {bmB : List Value} {B newId initId : String}
/-- what the store leaves -/
def Stored (H : Hp) (a C : Addr) (f : Str) (y : V) (dx : Addr) (H' : Hp) : Prop := H dx = none ∧ dx ≠ a ∧ H' a = some (exo a C (some dx)) ∧ H' dx = some (exd dx [(f, y)]) ∧ ∀ b, b ≠ a → b ≠ dx → H' b = H b
theorem put_new {A : Around} {Q : Unit → Shared → Prop} {E : Value → Shared → Prop} (SF : StoreFacts B bmB "object.__setattr__" "object") (T : OwnX X.K X.mg x f C fI bmB newId) (I : Inv X pins σ H s) (e : H a = some (exo a C none)) (ry : RelV y u)
    (h : ∀ dx H' s', Stored H a C f y dx H' → Inv X pins σ H' s' → Q () s') : wpAny (model X.prog X.w) A (setAttr (.ref a) f u) Q E s := by
  obtain ⟨t1, ho⟩ := exo_at I.hok e
  obtain ⟨hp, g, d, t, os⟩ := s
  have hnd : H hp.objs.size = none := I.hok.fresh (Nat.le_refl _)
  have lt : a < hp.objs.size := Heap.lt_size ho
  have dne : hp.objs.size ≠ a := Nat.ne_of_gt lt
  obtain ⟨cd, hc, hd⟩ := PySem.W.any_some T.xf.hdC
  refine PySem.W.set_plain I.kIn (od := none) ⟨ho, rfl, rfl, trivial⟩ T.sa ?_
  refine PySem.W.osa_openX SF I.kIn (od := none) ⟨ho, rfl, rfl, trivial⟩ T.ovr T.tk fun b => ?_
  refine wpAny_bind (wpAny_pure (wpAny_bind (PySem.W.instanceDict_exc ho (PySem.W.looks_clsIn I.kIn hc) hd ?_)))
  have e1 : (hp.push (PySem.W.dictOf [] 0)).get? hp.objs.size = some (PySem.W.dictOf [] 0) := Heap.get?_push_size _ rfl
  have n1 : (hp.push (PySem.W.dictOf [] 0)).Ns hp.objs.size (fun _ => none) := ⟨_, _, _, e1, rfl, fun q hq => absurd hq (by simp), fun _ => rfl⟩
  have I1 : Inv X pins σ (upd H hp.objs.size (exd hp.objs.size [])) ⟨hp.push (PySem.W.dictOf [] 0), g, d, t, os⟩ := I.laid (fun b o q => Heap.get?_push_of_some _ q) (Nat.le_refl _) (exd_ok (Heap.Ns1.of_empty n1) fun _ => True.intro)
  have ea : upd H hp.objs.size (exd hp.objs.size []) a = some (exo a C none) := by rw [upd_ne (Ne.symm dne)]; exact e
  have ho1 := Heap.get?_push_of_some (PySem.W.dictOf [] 0) ho
  have ho2 := Heap.get?_update_self (fun o : Obj => { o with dict := some hp.objs.size }) ho1 rfl
  have I2 := I1.write (x := a) (e := a) (o := exo a C (some hp.objs.size)) (t' := t) (h' := (hp.push (PySem.W.dictOf [] 0)).update a fun o => { o with dict := some hp.objs.size }) (by rw [ea]; exact True.intro) (.inl rfl)
    (fun b o hb q => by rw [Heap.get?_update_other _ _ (Ne.symm hb)]; exact q) ⟨_, ho2⟩ (exo_ok ho2)
  have n2 : ((hp.push (PySem.W.dictOf [] 0)).update a fun o => { o with dict := some hp.objs.size }).Ns hp.objs.size (fun _ => none) :=
    ⟨_, _, _, by rw [Heap.get?_update_other _ _ (Ne.symm dne)]; exact e1, rfl, fun q hq => absurd hq (by simp), fun _ => rfl⟩
  have ed : upd (upd H hp.objs.size (exd hp.objs.size [])) a (exo a C (some hp.objs.size)) hp.objs.size = some (exd hp.objs.size []) := by rw [upd_ne dne, upd_same]
  show wpAny _ _ (Builtin.ObjectAttr.storeInDict hp.objs.size _ f u) _ _ _
  refine PySem.HandSPX.store_in_new n2 fun h3 tk3 hn3 hs3 => ?_
  obtain ⟨o3, es3, ep3, q3, r3⟩ := id hn3
  have I3 := I2.write (x := hp.objs.size) (e := hp.objs.size) (o := exd hp.objs.size [(f, y)]) (t' := tk3) (h' := h3) (by rw [ed]; exact True.intro) (.inl rfl) (fun b o hb q => (hs3.2 b hb).trans q) ⟨_, q3⟩
    (exd_ok hn3 (relO_put (fs := []) ry fun g => True.intro))
  exact h _ _ _ ⟨hnd, dne, by rw [upd_ne (Ne.symm dne), upd_same], upd_same, fun b h1 h2 => by rw [upd_ne h2, upd_ne h1, upd_ne h2]⟩ I3
/-- self.f = e, self an exception that has no field yet -/
def tPut (C : Addr) (f : Str) (to te : TE) : TS := fun D σ H => te σ H fun y H1 => to σ H1 fun x H2 => ∃ a, x = .ref a ∧ H2 a = some (exo a C none) ∧ ∀ dx H', Stored H2 a C f y dx H' → D.nx σ H'
theorem ps_put {o e : Expr} {to te : TE} {p' pos : PySem.Pos} (SF : StoreFacts B bmB "object.__setattr__" "object") (T : OwnX X.K X.mg x f C fI bmB newId) (ho : PE X o to) (he : PE X e te) (hs : swapsWith e (some (.Attribute o f p')) pos.line X.env = pure false := by rfl) : PS X (.Assign [.Attribute o f p'] e pos) (tPut C f to te) := by
  refine ⟨fun pins s σ H D I h => plainObj_wpAny_Assign_Attribute (thn (he.run pins s σ H _ I h) fun v s1 ⟨y, H1, I1, r1, q1⟩ => thn (ho.run pins s1 σ H1 _ I1 q1) fun w2 s2 ⟨z, H2, I2, r2, a, ez, ea, q⟩ => ?_) hs⟩
  subst ez
  obtain rfl : w2 = Value.ref a := r2
  exact put_new SF T I2 ea r1 fun dx H' s' st J => ⟨σ, H', J, q dx H' st⟩
/-- the promise of such an __init__ -/
def spPut (C : Addr) (f : Str) : Sp := fun vs H Q _ => ∃ a y, vs = [.ref a, y] ∧ H a = some (exo a C none) ∧ ∀ dx H', Stored H a C f y dx H' → Q .non H'
theorem ok_put {P : Program} {w : World} {K : PySem.W.Frag} {mg : Str → Option Value} {base : Heap} {st : Stmt} {qual : Str} {fd : FuncData} {p1 p2 p3 p4 : PySem.Pos} (SF : StoreFacts B bmB "object.__setattr__" "object") (T : OwnX K mg x f C fI bmB newId)
    (F : Fun K "__init__" qual st fI fd) (S : FnScope ["self", f] ["self", f] (defScope st)) (hb : defBody st = [.Assign [.Attribute (.Name "self" p1) f p2] (.Name f p3) p4]) (hf : (defScope st).names.lookup f = some .local) (hs : (defScope st).names.lookup ("self" : Str) = some .local)
    (hd : (f == ("__debug__" : Str)) = false) (hcd : (f == ("__classdict__" : Str)) = false) (hsw : ∀ env : Env, swapsWith (.Name f p3) (some (.Attribute (.Name "self" p1) f p2)) p4.line env = pure false) : FnOk P w K mg base CX0 1 fI fd ["self", f] (spPut C f) := by
  refine F.ok S (fun vs H Q E h => ?_) (fun cdv A outer s H vs Q E hr h => ?_)
  · obtain ⟨a, y, rfl, _⟩ := h
    rfl
  · obtain ⟨a, y, rfl, ea, k⟩ := h
    rw [hb]
    refine ⟨_, pss_one (ps_put SF T (pe_var (i := 0) rfl (.inl hs) (by decide) (by decide)) (pe_var (i := 1) rfl (.inl hf) hd hcd) (hsw _)), ?_⟩
    exact ⟨_, rfl, _, rfl, a, rfl, ea, fun dx H' st => k dx H' st⟩
/-- C(e) as an exception that is raised -/
def tMkX (C : Addr) (f : Str) (ta : TA) : L2.St → Hp → XK → Prop := fun σ H Q => ta σ H fun vs H1 => ∃ v, vs = [v] ∧ ∀ d, H1 d = none → Q (.ref C) (some d) (upd H1 d (.xd [(f, v)]))
theorem pmk_own1 {e : Expr} {ta : TA} {p pos : PySem.Pos} {k : Nat} {fd : FuncData} (FB : ExcBaseFacts B newId initId bmB) (T : OwnX X.K X.mg x f C fI bmB newId) (G : FnOk X.prog X.w X.K X.mg X.base CX0 k fI fd ["self", f] (spPut C f)) (hb : Binds X.K fd ["self", f] []) (hr : Room (k + 1) X.A) (hg : Gl X x) (ha : PA X [e] ta)
    (hdb : (x == ("__debug__" : Str)) = false := by decide) (he : starEach [e] X.env = (false, eval e X.env) :: starEach [] X.env := by rfl) (hpl : (backTo pos (starEach [] X.env)).any (·.1) = false := by rfl) : PMk X (.Call (.Name x p) [e] [] pos) (tMkX C f ta) := fun pins s σ H Q I h => by
  refine wpAny_Call_Name_kw (ld_glob I hg T.gC (PySem.W.callWith_K (h₀ := X.base) I.ok.mod.kin T.kC (thn (ha.run pos pins s σ H _ I h) fun us s1 ⟨vs, H1, I1, r1, v, ev, q⟩ => ⟨I1.kIn, ?_⟩) he hpl) hdb)
  subst ev
  obtain ⟨nm, N, qn, bs, bm, hdct, sn, sub, ab, col, dd, k0, k1, k2, k3, k5, hC, hT⟩ := PySem.W.excInit_of I1.kIn T.ini
  have hus : us.length ≤ sizeLine := by
    rw [← r1.length]
    show 1 ≤ sizeLine
    decide
  obtain ⟨hp, g, dr, tk, os⟩ := s1
  obtain ⟨a, ea⟩ : ∃ a, a = hp.objs.size + 1 := ⟨_, rfl⟩
  obtain ⟨h2, eh⟩ : ∃ h2, h2 = (hp.push (PySem.W.kdv_tup us)).push (PySem.HandSPX.excO C hp.objs.size) := ⟨_, rfl⟩
  have big : hp.objs.size ≤ a := by rw [ea]; exact Nat.le_succ _
  have kp : ∀ b o, hp.get? b = some o → h2.get? b = some o := fun b o z => by
    rw [eh]
    exact Heap.get?_push_of_some _ (Heap.get?_push_of_some _ z)
  have at_ : h2.get? a = some (PySem.HandSPX.excO C hp.objs.size) := by
    rw [eh, ea]
    heap_get
  have na : H1 a = none := I1.hok.fresh big
  have I2 : Inv X pins σ (upd H1 a (exo a C none)) ⟨h2, g, dr, tk, os⟩ := I1.laid (t' := tk) kp big (exo_ok at_)
  have hsp : spPut C f [.ref a, v] (upd H1 a (exo a C none)) (fun v2 H2 => v2 = .non ∧ ∃ dx, Stored (upd H1 a (exo a C none)) a C f v dx H2) (fun _ _ _ => False) := ⟨a, v, rfl, upd_same, fun dx H' st => ⟨rfl, dx, st⟩⟩
  have run := G.run (A := X.A.under (.builtin "type.__call__" ⟨.ref C :: us, []⟩)) (outer := X.stack) (s := ⟨h2, g, dr, tk, os⟩) (args := ⟨.ref a :: us, []⟩) (us := .ref a :: us) (vs := [.ref a, v]) (Q := _) (E := fun _ _ _ => False) (H := upd H1 a (exo a C none)) (hr.make C us []) (I2.env0.make C us [])
    (by have := hb ⟨h2, g, dr, tk, os⟩ (.ref a :: us) I2.kIn (by rw [List.append_nil, List.length_cons, ← r1.length]; rfl); rw [List.append_nil] at this; exact this) (.cons rfl r1) hsp
  show wpAny _ _ (call (.ref C) us) _ _ _
  refine wpAny_call (PySem.HandSPX.call_own FB hT hC (PySem.W.looks_findIn I1.kIn T.iC) (fun self => PySem.W.bind_fn I1.kIn self T.tI) hus ?_)
  rw [← ea, ← eh]
  refine codeAny_mono run fun r s' hq => ?_
  match r with
  | .error er => exact hq.elim
  | .ok .next => exact hq.elim
  | .ok .brk => exact hq.elim
  | .ok .cont => exact hq.elim
  | .ok (.ret z) =>
    obtain ⟨v2, H2, os2, bare2, un2, hok2, rv, ev2, dx, st1, st2, st3, st4, st5⟩ := hq
    have nd : H1 dx = none := by rw [upd_ne st2] at st1; exact st1
    have eq : upd (del H2 a) dx (.xd [(f, v)]) = upd H1 dx (.xd [(f, v)]) := by
      funext b
      by_cases h1 : b = dx
      · rw [h1, upd_same, upd_same]
      · rw [upd_ne h1, upd_ne h1]
        by_cases h2 : b = a
        · rw [h2, del_same, na]
        · rw [del_ne h2, st5 b h2 h1, upd_ne h2]
    obtain ⟨h3, g3, d3, t3, os3⟩ := s'
    have fin := mk_end (Q := Q) (d2 := d3) (t2 := t3) (raises_own T.xf.exC T.tyC) I1 big kp un2 hok2 os2 bare2 st3 st4 nd (by rw [eq]; exact q dx nd)
    subst ev2
    exact ⟨rv, fin⟩
end
end CS
set_option Elab.async false
set_option maxRecDepth 100000
set_option maxHeartbeats 4000000
set_option linter.unusedVariables false
/-! try with several except clauses, some with a name, some without. -/
namespace CS
open PySem PySem.Spec PyProof.Rows L2
/-- the exception at a, of the class cls with the dict d, has landed; W0 is what is wanted of one that no clause takes -/
structure Landed (X : Cx) (pins : List (Addr × Obj)) (σ : L2.St) (H : Hp) (a : Addr) (cls : Value) (d : Option Addr) (s : Shared) : Prop where
  go : ∃ (B : Heap) (sI : Shared), HandSPX.FlyingZ B (X.env :: X.outer) a (Zc cls d) s.heap ∧ Inv X pins σ H sI ∧ (∀ b o, sI.heap.get? b = some o → b ∉ frs X.stack → B.get? b = some o) ∧ sI.heap.UpToSlots s.heap ∧ s.os = sI.os ∧ AllBare s.gens
  no : H a = none
abbrev TSx := Addr → Value → Option Addr → TS
section
variable {X : Cx} {pins : List (Addr × Obj)} {σ : L2.St} {H : Hp} {s : Shared} {a : Addr} {cls : Value} {d : Option Addr}
theorem Landed.inv (L : Landed X pins σ H a cls d s) : Inv X pins σ H s := by
  obtain ⟨B, sI, fl, J, nb, up, os, ag⟩ := L.go
  exact J.landed nb fl.1 up os ag
/-- the state within a suite -/
theorem Landed.suite (L : Landed X pins σ H a cls d s) (hf : X.env.frame = some X.env.locals) : ∃ oe, Zc cls d oe ∧ (∃ vs, oe.data = .fields vs) ∧ s.heap.get? a = some oe ∧ Inv (X.suite a ((a, oe) :: (X.pn ++ pins))) [] σ H s := by
  have J := L.inv
  obtain ⟨B, sI, fl, _⟩ := L.go
  obtain ⟨oe, vs, he, hz, hd⟩ := fl.there
  have no : a ∉ frs (X.env :: X.outer) := fun hm => by
    obtain ⟨_, o, e, n⟩ := fl.2.2.1.mem hm
    rw [he] at e
    cases e
    exact n _ hd
  have in_ : ∀ e ∈ X.env :: X.outer, e.frame ≠ some a := fun e he q => no (List.mem_filterMap.mpr ⟨e, he, q⟩)
  refine ⟨oe, hz, ⟨vs, hd⟩, he, J.suite he hd L.no (fun z => in_ _ List.mem_cons_self (by rw [hf, z])) fun hm => ?_⟩
  obtain ⟨e, h1, h2⟩ := List.mem_filterMap.mp hm
  exact in_ e (List.mem_cons_of_mem _ h1) h2
/-- it is looked at once more -/
theorem Landed.again {M : Model} {A : Around} {E : Value → Shared → Prop} {Q : Unit → Shared → Prop} (L : Landed X pins σ H a cls d s) (h : ∀ s', Landed X pins σ H a cls d s' → Q () s') :
    ∃ B, HandSPX.FlyingZ B (X.env :: X.outer) a (Zc cls d) s.heap ∧ ∀ h', HandSPX.FlyingZ B (X.env :: X.outer) a (Zc cls d) h' → s.heap.UpToSlots h' → Q () { s with heap := h' } := by
  obtain ⟨B, sI, fl, J, nb, up, os, ag⟩ := L.go
  exact ⟨B, fl, fun h' fl' up' => h _ ⟨⟨B, sI, fl', J, nb, up.trans up', os, ag⟩, L.no⟩⟩
end
/-- clauses with a name or without; what they wish of an exception, the wish W0 where none takes it -/
inductive Clauses (X : Cx) (W0 : WX) : List ExceptHandler → (Ends → WX) → Prop
  | nil : Clauses X W0 [] (fun _ => W0)
  | plain {x : Str} {c : Value} {ts : TSx} {b₀ : Stmt} {suite : List Stmt} {np pos' : PySem.Pos} {hds : List ExceptHandler} {W : Ends → WX} (hc : Names X x c)
      (hsu : ∀ (a : Addr) (oe : Obj) (cls : Value) (d : Option Addr) (pn : List (Addr × Obj)), Zc cls d oe → (∃ vs, oe.data = .fields vs) → PSs (X.suite a ((a, oe) :: pn)) (b₀ :: suite) (ts a cls d)) (r : Clauses X W0 hds W) :
      Clauses X W0 (.ExceptHandler (some (.Name x np)) none (b₀ :: suite) pos' :: hds) (fun D cls d σ H => ∃ b, PySem.W.exmOne X.K cls c = some b ∧ (b = true → ∀ a, H a = none → ts a cls d D σ H) ∧ (b = false → W D cls d σ H))
  | named {x n : Str} {c : Value} {i : Nat} {ts : TSx} {b₀ : Stmt} {suite : List Stmt} {np pos' : PySem.Pos} {hds : List ExceptHandler} {W : Ends → WX} (hc : Names X x c) (hi : X.N[i]? = some n) (hln : X.env.kindOf n = some .local)
      (hsu : ∀ (a : Addr) (oe : Obj) (cls : Value) (d : Option Addr) (pn : List (Addr × Obj)), Zc cls d oe → (∃ vs, oe.data = .fields vs) → PSs (X.suite a ((a, oe) :: pn)) (b₀ :: suite) (ts a cls d)) (r : Clauses X W0 hds W) :
      Clauses X W0 (.ExceptHandler (some (.Name x np)) (some n) (b₀ :: suite) pos' :: hds) (fun D cls d σ H => ∃ b, PySem.W.exmOne X.K cls c = some b ∧
        (b = true → ∀ a, H a = none → ts a cls d { nx := fun σ' H' => D.nx (σ'.set i none) H', rt := D.rt, bk := fun σ' H' => D.bk (σ'.set i none) H', ct := fun σ' H' => D.ct (σ'.set i none) H' } (σ.set i (some (.ref a))) H) ∧ (b = false → W D cls d σ H))
section
variable {X : Cx} {pins : List (Addr × Obj)} {σ : L2.St} {H : Hp} {s : Shared} {a : Addr} {cls : Value} {d : Option Addr} {W0 : WX}
/-- a clause's test -/
theorem Landed.test (L : Landed X pins σ H a cls d s) (hf : X.env.frame = some X.env.locals) {x : Str} {c : Value} {np : PySem.Pos} (hc : Names X x c) {b : Bool} (hb : PySem.W.exmOne X.K cls c = some b) {Q E : Value → Shared → Prop}
    (q : (∀ (A : Around) (Q E : Bool → Shared → Prop), True) → ∀ M, PySem.W.Looks M s.heap (typeOf (.ref a)) cls → Q c s) : wpAny (model X.prog X.w) (X.A.mark (some (.ref a))) (eval (.Name x np) X.env) Q E s := by
  obtain ⟨oe, hz, hd, he, S⟩ := L.suite hf
  have q2 : Q c s := q (fun _ _ _ => trivial) (model X.prog X.w) fun A Q E s k q => wpAny_typeOf_ref (k _ _ he) (by rw [hz.1]; exact q)
  obtain ⟨hg, hdbg, hm | ⟨hm, hv, hnn⟩⟩ := hc
  · exact ld_glob (X := X.suite a ((a, oe) :: (X.pn ++ pins))) S hg hm q2 hdbg
  · exact ld_blt (X := X.suite a ((a, oe) :: (X.pn ++ pins))) S hg hm hv q2 hnn hdbg
theorem ends_plain {a : Addr} {p : Addr × Obj} {D : Ends} {f : Flow} (ok : X.Ok) (h : SP (X.suite a (p :: (X.pn ++ pins))) [] D f s) : SP X pins D f s := by
  cases f with
  | ret u =>
    obtain ⟨v, σ6, H6, S6, r, q⟩ := h
    exact ⟨v, σ6, H6, S6.unsuite ok, r, q⟩
  | next =>
    obtain ⟨σ6, H6, S6, q⟩ := h
    exact ⟨σ6, H6, S6.unsuite ok, q⟩
  | brk =>
    obtain ⟨σ6, H6, S6, q⟩ := h
    exact ⟨σ6, H6, S6.unsuite ok, q⟩
  | cont =>
    obtain ⟨σ6, H6, S6, q⟩ := h
    exact ⟨σ6, H6, S6.unsuite ok, q⟩
theorem caught (hs : X.stack = X.env :: X.outer) (hf : X.env.frame = some X.env.locals) (hN : X.N.Nodup) (tk : Takes X W0) {D : Ends} {hds : List ExceptHandler} {W : Ends → WX} (C : Clauses X W0 hds W) (L : Landed X pins σ H a cls d s) (w : W D cls d σ H) :
    wpAny (model X.prog X.w) X.A (handleBy (.ref a) X.env hds) (SP X pins D) X.xe s := by
  have ok := L.inv.ok
  have LT : ∀ M, PySem.W.Looks M s.heap (typeOf (.ref a)) cls := fun M => by
    obtain ⟨oe, hz, _, he, _⟩ := L.suite hf
    exact fun A Q E s k q => wpAny_typeOf_ref (k _ _ he) (by rw [hz.1]; exact q)
  induction C with
  | nil =>
    refine wpAny_handleBy_nil ?_
    obtain ⟨B, sI, fl, J, nb, up, os, ag⟩ := L.go
    obtain ⟨_, _, _, oe, vs, T, oT, ts, he, _, hd, h1, _⟩ := id fl
    have out : wpAny (model X.prog X.w) X.A (setFlight (.ref a) X.env.frame) (fun _ s4 => wpAny (model X.prog X.w) X.A (throw (.ref a) : Sem Flow) (SP X pins D) X.xe s4) X.xe s := by
      rw [hf]
      exact HandSPX.setFlight_upZ fl fun h4 hh4 up4 => wpAny_throw (tk _ _ ⟨a, B, sI, pins, σ, H, cls, d, rfl, J, nb, up.trans up4, .inr (.inr (by rw [hs]; exact hh4)), L.no, os, ag, w⟩)
    unfold PySem.passOn
    refine wpAny_bind (wpAny_field he hd h1 ?_)
    rw [if_neg (show ¬ ((Value.ref T == Value.none) = true) from by simp)]
    first
      | exact wpAny_bind (wpAny_pure (wpAny_bind out))
      | exact wpAny_bind out
  | plain hc hsu r ih =>
    obtain ⟨b, hb, yes, no⟩ := w
    refine wpAny_handleBy_cons (codeAny_handlers_test (L.test hf hc hb fun _ _ _ => ((PySem.W.exm_one (M := model X.prog X.w) L.inv.kIn (LT _) hb).here ?_))) (by intro q; cases q)
    cases b with
    | false => exact ih (no rfl)
    | true =>
      refine codeAny_handlers_suite ?_
      obtain ⟨B, fl, k⟩ := L.again (M := model X.prog X.w) (A := X.A) (E := X.xe) (Q := fun _ s' => Landed X pins σ H a cls d s') fun _ z => z
      refine HandSPX.lands_againZ fl fun h4 fl4 up4 => ?_
      obtain ⟨oe, hz, hd, he, S⟩ := (k h4 fl4 up4).suite hf
      exact wpAny_mono ((hsu a oe cls d (X.pn ++ pins) hz hd).run [] _ _ H _ S (yes rfl a L.no)) (fun f s6 hsp => ends_plain ok hsp) fun _ _ z => z.elim
  | @named x n c i ts b₀ suite np pos' hds W hc hi hln hsu r ih =>
    obtain ⟨b, hb, yes, no⟩ := w
    refine wpAny_handleBy_cons (codeAny_handlers_test (L.test hf hc hb fun _ _ _ => ((PySem.W.exm_one (M := model X.prog X.w) L.inv.kIn (LT _) hb).here ?_))) (by intro q; cases q)
    cases b with
    | false => exact ih (no rfl)
    | true =>
      refine codeAny_handlers_suite_as ?_
      obtain ⟨B, fl, k⟩ := L.again (M := model X.prog X.w) (A := X.A) (E := X.xe) (Q := fun _ s' => Landed X pins σ H a cls d s') fun _ z => z
      refine HandSPX.lands_againZ fl fun h4 fl4 up4 => ?_
      obtain ⟨oe, hz, hd, he, S⟩ := (k h4 fl4 up4).suite hf
      refine store_ok (X := X.suite a ((a, oe) :: (X.pn ++ pins))) (v := .ref a) S hN hi (.inl hln) rfl (fun s5 S5 => ?_) (.inr hln)
      refine wpAny_mono ((hsu a oe cls d (X.pn ++ pins) hz hd).run [] s5 _ H _ S5 (yes rfl a L.no)) (fun f s6 hsp => ?_) fun _ _ z => z.elim
      have gone : ∀ {σ6 : L2.St} {H6 : Hp} {Q : Shared → Prop}, Inv X pins σ6 H6 s6 → (∀ s7, Inv X pins (σ6.set i none) H6 s7 → Q s7) → wpAny (model X.prog X.w) X.A (do bindName X.env n .none; unbindBehindTheSuite X.env n pos') (fun _ s7 => Q s7) X.xe s6 :=
        fun J6 hq => gone_ok J6 hN hi hln hq
      have q6 := ends_plain ok hsp
      cases f with
      | ret u =>
        obtain ⟨v6, σ6, H6, J6, r6, q6⟩ := q6
        exact gone J6 fun s7 J7 => ⟨_, _, _, J7, r6, q6⟩
      | next =>
        obtain ⟨σ6, H6, J6, q6⟩ := q6
        exact gone J6 fun s7 J7 => ⟨_, _, J7, q6⟩
      | brk =>
        obtain ⟨σ6, H6, J6, q6⟩ := q6
        exact gone J6 fun s7 J7 => ⟨_, _, J7, q6⟩
      | cont =>
        obtain ⟨σ6, H6, J6, q6⟩ := q6
        exact gone J6 fun s7 J7 => ⟨_, _, J7, q6⟩
/-- try: body / except .. -/
theorem ps_tryx {body : List Stmt} {h₀ : ExceptHandler} {hds : List ExceptHandler} {W : Ends → WX} {tb : WX → TS} {pos : PySem.Pos} (hs : X.stack = X.env :: X.outer) (hf : X.env.frame = some X.env.locals) (hN : X.N.Nodup) (tk : Takes X W0) (C : Clauses X W0 (h₀ :: hds) W)
    (hb : ∀ (W : WX) (pn : List (Addr × Obj)) (xe : Value → Shared → Prop), Takes (X.tr pn xe) W → PassesOwn (model X.prog X.w) X.A X.env xe → PSs (X.tr pn xe) body (tb W)) : PS X (.Try body (h₀ :: hds) [] [] pos) (fun D σ H => tb (W D) D σ H) := by
  refine ⟨fun pins s σ H D I h => ?_⟩
  have ok := I.ok
  have hfr : X.A.frames = some (X.env :: X.outer) := by rw [ok.frames, hs]
  refine wpAny_Try_except (wpAny_mono ((hb (W D) (X.pn ++ pins) _ (fun u s' xx => ?_) PassesOwn.looking).run [] s σ H D (I.toTry _) h) (fun f s1 hsp => ?_) fun _ _ he => he)
  · obtain ⟨a, B, sI, pins', σ', H', cls, d, rfl, J, nb, up, sky, na, os, ag, w⟩ := xx
    have J := J.ofTry ok
    have sky : Sky B (X.env :: X.outer) a (Zc cls d) X.env.locals s'.heap := by rw [← hs]; exact sky
    exact Sky.land Zc.steady hfr hf sky fun h3 fl3 up3 => caught hs hf hN tk C ⟨⟨B, sI, fl3, J, nb, up.trans up3, os, ag⟩, na⟩ w
  · cases f with
    | ret u =>
      obtain ⟨v, σ', H', J, r, q⟩ := hsp
      exact ⟨v, σ', H', J.ofTry ok, r, q⟩
    | next =>
      obtain ⟨σ', H', J, q⟩ := hsp
      exact wpAny_execs_nil ⟨σ', H', J.ofTry ok, q⟩
    | brk =>
      obtain ⟨σ', H', J, q⟩ := hsp
      exact ⟨σ', H', J.ofTry ok, q⟩
    | cont =>
      obtain ⟨σ', H', J, q⟩ := hsp
      exact ⟨σ', H', J.ofTry ok, q⟩
end
end CS
set_option Elab.async false
set_option maxRecDepth 100000
set_option maxHeartbeats 8000000
set_option linter.unusedVariables false
namespace CS
open PySem L2
abbrev bmO : List Value := [.type "OverflowError", .type "ArithmeticError", .type "Exception", .type "BaseException", .type "object"]
abbrev bmV : List Value := [.type "ValueError", .type "Exception", .type "BaseException", .type "object"]
theorem AllF.app {n : Nat} {xs ys : List (Int × Fx)} (h : AllF n xs) (g : AllF n ys) : AllF n (xs ++ ys) := fun a ha => (List.mem_append.mp ha).elim (h a) (g a)
theorem AllF.up {n m : Nat} {xs : List (Int × Fx)} (h : AllF n xs) (l : n ≤ m) : AllF m xs := fun a ha => ⟨(h a ha).1, (h a ha).2.up l⟩
section
variable {P : Program} {w : World} {K : PySem.W.Frag} {mg : Str → Option Value} {base : Heap}
/-- an exception class of the text with its __init__ -/
structure Xc (K : PySem.W.Frag) (mg : Str → Option Value) (x f : Str) (C fI : Addr) (bmB : List Value) (newId : String) (st : Stmt) (qual : Str) (fd : FuncData) : Prop where
  T : OwnX K mg x f C fI bmB newId
  F : Fun K "__init__" qual st fI fd
  b : Binds K fd ["self", f] []
/-- put together: the gathered share, or too many -/
def spPutT (K : PySem.W.Frag) (CT : Addr) : Sp := fun vs H Q E => ∃ p q xs ys, vs = [.ref p, .ref q] ∧ ShAt K H p xs ∧ ShAt K H q ys ∧ Shr xs ∧ Shr ys ∧ AllF 80 xs ∧ AllF 80 ys ∧ ∀ H' r zs, Same H H' → ShAt K H' r zs → IsS (gat [] (xs ++ ys)) zs →
  (zs.length ≤ 8 → Q (.ref r) H') ∧ (8 < zs.length → ∀ d, H' d = none → E (.ref CT) (some d) (upd H' d (.xd [("most", .int 8)])))
end
end CS
set_option maxHeartbeats 1000000
set_option linter.unusedVariables false
namespace CS
theorem ups_new {f : List (Int × Fx)} {k : Int} {x : Fx} (h : k ∉ f.map (·.1)) : ups f k x = f ++ [(k, x)] := by
  induction f with
  | nil => rfl
  | cons a f ih =>
    obtain ⟨i, y⟩ := a
    simp only [List.map_cons, List.mem_cons, not_or] at h
    simp [ups, Ne.symm h.1, ih h.2]
theorem cm_pos {t b : Int} (hb : 0 < b) : 0 < cm t b := by
  unfold cm
  rw [if_neg (by omega)]
  have := gcd_pos (t := t) (b := b) (by omega)
  omega
theorem sg {c l : Int} (h : 0 < c) : (0 < l ↔ 0 < c * l) ∧ (l < 0 ↔ c * l < 0) := by
  rcases Int.lt_trichotomy l 0 with a | a | a
  · have := Int.mul_neg_of_pos_of_neg h a
    omega
  · subst a
    simp
  · have := Int.mul_pos h a
    omega
theorem low_sign {t b : Int} (hb : 0 < b) : (0 < (low t b).1 ↔ 0 < t) ∧ ((low t b).1 < 0 ↔ t < 0) := by
  have e := (low_parts (t := t) (b := b) (by omega)).1
  have h := sg (l := (low t b).1) (cm_pos (t := t) hb)
  rw [← e] at h
  exact h
theorem fr_zero {x : Fx} (h : Fr x) (e : x.1 = 0) : x = (0, 1) := by
  obtain ⟨a, b⟩ := x
  have h1 := h.1
  have h2 := h.2
  simp only at e h1 h2
  subst e
  rw [Int.gcd_zero_left] at h2
  have : b = 1 := by omega
  rw [this]
theorem fadd_pos {x y : Fx} (hx : Fr x) (hy : Fr y) (px : 0 ≤ x.1) (py : 0 ≤ y.1) (h : 0 < x.1 ∨ 0 < y.1) : 0 < (fadd x y).1 := by
  unfold fadd
  rw [(low_sign (dd0 hx hy)).1]
  have h1 := hx.pos
  have h2 := hy.pos
  rcases h with h | h
  · have a := Int.mul_pos h h2
    have b := Int.mul_nonneg py (Int.le_of_lt h1)
    omega
  · have a := Int.mul_pos h h1
    have b := Int.mul_nonneg px (Int.le_of_lt h2)
    omega
theorem scl_neg {y : Fx} (hy : Fr y) : scl y (-1) = (-y.1, y.2) := by
  unfold scl
  refine low_uniq hy.ne ⟨hy.1, ?_⟩ (by simp)
  have := hy.2
  simpa [Int.neg_gcd] using this
theorem fadd_neg {x y : Fx} (hy : Fr y) : fadd x (scl y (-1)) = fsub x y := by
  rw [scl_neg hy]
  unfold fadd fsub
  simp only [Int.neg_mul, Int.sub_eq_add_neg]
theorem fsub_neg_iff {x y : Fx} (hx : Fr x) (hy : Fr y) : (fsub x y).1 < 0 ↔ flt x y = true := by
  unfold fsub flt
  rw [(low_sign (dd0 hx hy)).2, decide_eq_true_iff]
  omega
theorem lk_of_mem : ∀ {xs : List (Int × Fx)} {k : Int} {x : Fx}, (xs.map (·.1)).Nodup → (k, x) ∈ xs → lk xs k = x
  | [], _, _, _, h => by cases h
  | (j, y) :: xs, k, x, hn, h => by
    rw [List.map_cons, List.nodup_cons] at hn
    rw [lk_cons]
    rcases List.mem_cons.mp h with e | h
    · cases e
      rw [if_pos rfl]
    · rw [if_neg fun e => hn.1 (by rw [← e]; exact List.mem_map.mpr ⟨(k, x), h, rfl⟩)]
      exact lk_of_mem hn.2 h
/-- weights taken away one after another -/
def tks (f ys : List (Int × Fx)) : List (Int × Fx) := ys.foldl (fun f kx => ups f kx.1 (fsub (lk f kx.1) kx.2)) f
theorem tks_snoc (f ys : List (Int × Fx)) (a : Int × Fx) : tks f (ys ++ [a]) = ups (tks f ys) a.1 (fsub (lk (tks f ys) a.1) a.2) := by
  unfold tks
  rw [List.foldl_append]
  rfl
theorem tks_none : ∀ (ys f : List (Int × Fx)) (j : Int), j ∉ ys.map (·.1) → lk (tks f ys) j = lk f j
  | [], _, _, _ => rfl
  | (k, x) :: ys, f, j, h => by
    simp only [List.map_cons, List.mem_cons, not_or] at h
    show lk (tks (ups f k (fsub (lk f k) x)) ys) j = _
    rw [tks_none ys _ j h.2, lk_ups, if_neg h.1]
theorem lk_tks : ∀ (ys f : List (Int × Fx)) (j : Int), (ys.map (·.1)).Nodup → lk (tks f ys) j = if j ∈ ys.map (·.1) then fsub (lk f j) (lk ys j) else lk f j
  | [], f, j, _ => by simp [tks]
  | (k, x) :: ys, f, j, h => by
    rw [List.map_cons, List.nodup_cons] at h
    show lk (tks (ups f k (fsub (lk f k) x)) ys) j = _
    by_cases e : j = k
    · subst e
      rw [tks_none ys _ j h.1, lk_ups, if_pos rfl, lk_cons, if_pos rfl, if_pos (by simp)]
    · have q : (j ∈ ((k, x) :: ys).map (·.1)) ↔ j ∈ ys.map (·.1) := by simp [e]
      rw [lk_tks ys _ j h.2, lk_ups, if_neg e, lk_cons, if_neg e]
      simp only [q]
theorem tks_keys : ∀ (ys f : List (Int × Fx)) (j : Int), j ∈ (tks f ys).map (·.1) ↔ j ∈ f.map (·.1) ∨ j ∈ ys.map (·.1)
  | [], f, j => by simp [tks]
  | (k, x) :: ys, f, j => by
    show j ∈ (tks (ups f k _) ys).map (·.1) ↔ _
    rw [tks_keys ys, ups_keys]
    simp only [List.map_cons, List.mem_cons]
    grind
theorem tks_nodup : ∀ (ys f : List (Int × Fx)), (f.map (·.1)).Nodup → ((tks f ys).map (·.1)).Nodup
  | [], _, h => h
  | (k, x) :: ys, f, h => tks_nodup ys _ (ups_nodup f k _ h)
theorem tks_len : ∀ (ys f : List (Int × Fx)), (tks f ys).length ≤ f.length + ys.length
  | [], _ => Nat.le_refl _
  | (k, x) :: ys, f => by
    have h1 := tks_len ys (ups f k (fsub (lk f k) x))
    have h2 := ups_len f k (fsub (lk f k) x)
    show (tks (ups f k (fsub (lk f k) x)) ys).length ≤ _
    rw [List.length_cons]
    omega
theorem gat_frS {n : Nat} {f xs : List (Int × Fx)} (hf : AllF n f) (h : AllF n xs) (h0 : 0 < n) (j : Int) : Fr (lk (gat f xs) j) ∧ Sz (n + xs.length * (n + 1)) (lk (gat f xs) j) := by
  rw [lk_gat]
  have hl := lk_fr hf h0 j
  exact ⟨cfold_fr j xs _ hl.1 fun x hx => (h x hx).1, cfold_sz n j xs _ n hl.1 hl.2 h⟩
/-! two shares -/
/-- as the law draws them, or puts them together -/
structure Good (n : Nat) (xs : List (Int × Fx)) : Prop where
  nd : (xs.map (·.1)).Pairwise (· < ·)
  all : AllF n xs
  pos : ∀ a ∈ xs, 0 < a.2.1
  lo : ∀ a ∈ xs, -100 ≤ a.1 ∧ a.1 ≤ 100
theorem Good.nodup {n : Nat} {xs : List (Int × Fx)} (g : Good n xs) : (xs.map (·.1)).Nodup := g.nd.imp fun e => Int.ne_of_lt e
theorem Good.shr {n : Nat} {xs : List (Int × Fx)} (g : Good n xs) (h : xs.length ≤ 8) : Shr xs := ⟨h, fun a ha => ⟨(g.lo a ha).1, (g.lo a ha).2, (g.all a ha).1, g.pos a ha⟩, g.nd⟩
theorem lk_nonneg {xs : List (Int × Fx)} (h : ∀ a ∈ xs, 0 < a.2.1) (k : Int) : 0 ≤ (lk xs k).1 ∧ (k ∈ xs.map (·.1) → 0 < (lk xs k).1) := by
  induction xs with
  | nil => exact ⟨by show (0 : Int) ≤ 0; decide, fun h => by cases h⟩
  | cons a xs ih =>
    obtain ⟨j, y⟩ := a
    have ih := ih fun b hb => h b (List.mem_cons_of_mem _ hb)
    have hy := h (j, y) List.mem_cons_self
    simp only at hy
    rw [lk_cons]
    by_cases e : k = j
    · rw [if_pos e]
      exact ⟨by omega, fun _ => hy⟩
    · rw [if_neg e]
      refine ⟨ih.1, fun m => ih.2 ?_⟩
      rcases List.mem_cons.mp m with q | q
      · exact absurd q e
      · exact q
theorem Good.self {n : Nat} {xs : List (Int × Fx)} (g : Good n xs) : IsS xs xs := ⟨g.nd, fun k x => by
  constructor
  · intro h
    refine ⟨lk_of_mem g.nodup h, fun e => ?_⟩
    have q : 0 < x.1 := g.pos _ h
    rw [e] at q
    exact absurd q (by decide)
  · rintro ⟨e, h⟩
    have m := lk_mem (f := xs) (k := k) (by rw [e]; exact h)
    obtain ⟨⟨k2, y⟩, hm, e2⟩ := List.mem_map.mp m
    simp only at e2
    subst e2
    rw [lk_of_mem g.nodup hm] at e
    rw [← e]
    exact hm⟩
theorem lk_cat {n : Nat} {xs ys : List (Int × Fx)} (g : Good n xs) (h0 : 0 < n) (hn : (ys.map (·.1)).Nodup) (j : Int) : lk (gat [] (xs ++ ys)) j = fadd (lk xs j) (lk ys j) := by
  have e : gat [] (xs ++ ys) = gat (gat [] xs) ys := by
    unfold gat
    rw [List.foldl_append]
  have hx : lk (gat [] xs) j = lk xs j := by
    rw [lk_gat]
    exact (fold_nodup xs j (0, 1) fr01 g.nodup).trans (zero_fadd (lk_fr g.all h0 j).1)
  rw [e, lk_gat, fold_nodup ys j _ (by rw [hx]; exact (lk_fr g.all h0 j).1) hn, hx]
theorem both_good {n : Nat} {xs ys zs : List (Int × Fx)} (gx : Good n xs) (gy : Good n ys) (h0 : 0 < n) (h : IsS (gat xs ys) zs) : Good (n + n + 1) zs := by
  have val : ∀ k x, (k, x) ∈ zs → x = fadd (lk xs k) (lk ys k) ∧ (k ∈ xs.map (·.1) ∨ k ∈ ys.map (·.1)) := fun k x hm => by
    obtain ⟨e, hx⟩ := (h.2 k x).mp hm
    rw [lk_gat_nodup gx.all h0 gy.nodup] at e
    refine ⟨e.symm, ?_⟩
    by_cases a : k ∈ xs.map (·.1)
    · exact .inl a
    · refine .inr ?_
      by_cases b : k ∈ ys.map (·.1)
      · exact b
      · rw [lk_none a, lk_none b] at e
        exact absurd (e.symm.trans (by decide)) hx
  refine ⟨h.1, fun a ha => ?_, fun a ha => ?_, fun a ha => ?_⟩
  · obtain ⟨e, _⟩ := val a.1 a.2 ha
    have h1 := lk_fr gx.all h0 a.1
    have h2 := lk_fr gy.all h0 a.1
    rw [e]
    exact ⟨fadd_fr h1.1 h2.1, fadd_sz h1.1 h2.1 h1.2 h2.2⟩
  · obtain ⟨e, m⟩ := val a.1 a.2 ha
    have h1 := lk_nonneg gx.pos a.1
    have h2 := lk_nonneg gy.pos a.1
    rw [e]
    exact fadd_pos (lk_fr gx.all h0 a.1).1 (lk_fr gy.all h0 a.1).1 h1.1 h2.1 (m.imp h1.2 h2.2)
  · obtain ⟨e, m⟩ := val a.1 a.2 ha
    rcases m with m | m
    · obtain ⟨b, hb, eb⟩ := List.mem_map.mp m
      rw [← eb]
      exact gx.lo b hb
    · obtain ⟨b, hb, eb⟩ := List.mem_map.mp m
      rw [← eb]
      exact gy.lo b hb
def ngs (ys : List (Int × Fx)) : List (Int × Fx) := ys.map fun a => (a.1, scl a.2 (-1))
theorem ngs_keys (ys : List (Int × Fx)) : (ngs ys).map (·.1) = ys.map (·.1) := by
  unfold ngs
  rw [List.map_map]
  rfl
theorem lk_ngs (ys : List (Int × Fx)) (j : Int) : lk (ngs ys) j = scl (lk ys j) (-1) := by
  induction ys with
  | nil =>
    show ((0, 1) : Fx) = scl (0, 1) (-1)
    decide
  | cons a ys ih =>
    obtain ⟨k, y⟩ := a
    show lk ((k, scl y (-1)) :: ngs ys) j = _
    rw [lk_cons, lk_cons, ih]
    split <;> rfl
theorem lk_take {n : Nat} {xs ys : List (Int × Fx)} (gx : Good n xs) (gy : Good n ys) (h0 : 0 < n) (j : Int) : lk (gat [] (xs ++ ngs ys)) j = fsub (lk xs j) (lk ys j) := by
  rw [lk_cat gx h0 (by rw [ngs_keys]; exact gy.nodup), lk_ngs, fadd_neg (lk_fr gy.all h0 j).1]
/-- what was put on is taken off -/
theorem take_both {n : Nat} {xs ys zs ws : List (Int × Fx)} (gx : Good n xs) (gy : Good n ys) (h0 : 0 < n) (hz : IsS (gat xs ys) zs) (hw : IsS (gat [] (zs ++ ngs ys)) ws) : ws = xs := by
  have gz := both_good gx gy h0 hz
  refine hw.uniq gx.self fun k => ?_
  have e : lk zs k = fadd (lk xs k) (lk ys k) := by
    rw [← lk_gat_nodup gx.all h0 gy.nodup]
    by_cases c : lk (gat xs ys) k = (0, 1)
    · rw [c]
      by_cases d : lk zs k = (0, 1)
      · exact d
      · obtain ⟨⟨k2, y⟩, hm, e2⟩ := List.mem_map.mp (lk_mem d)
        simp only at e2
        subst e2
        exact absurd (c ▸ ((hz.2 _ _).mp hm).1.symm) ((hz.2 _ _).mp hm).2
    · exact lk_of_mem gz.nodup ((hz.2 k _).mpr ⟨rfl, c⟩)
  have gy2 : AllF (n + n + 1) ys := fun a ha => ⟨(gy.all a ha).1, (gy.all a ha).2.up (by omega)⟩
  rw [lk_take gz ⟨gy.nd, gy2, gy.pos, gy.lo⟩ (by omega), e]
  exact fsub_fadd (lk_fr gx.all h0 k).1 (lk_fr gy.all h0 k).1
theorem both_comm {n : Nat} {xs ys zs ws : List (Int × Fx)} (gx : Good n xs) (gy : Good n ys) (h0 : 0 < n) (hz : IsS (gat xs ys) zs) (hw : IsS (gat [] (ys ++ xs)) ws) : ws = zs :=
  hw.uniq hz fun k => by rw [lk_cat gy h0 gx.nodup, lk_gat_nodup gx.all h0 gy.nodup, fadd_comm]
theorem both_same {n : Nat} {xs ys zs ws : List (Int × Fx)} (gx : Good n xs) (gy : Good n ys) (h0 : 0 < n) (hz : IsS (gat xs ys) zs) (hw : IsS (gat [] (xs ++ ys)) ws) : ws = zs :=
  hw.uniq hz fun k => by rw [lk_cat gx h0 gy.nodup, lk_gat_nodup gx.all h0 gy.nodup]
/-- the second one is within the first one -/
def Inn (xs ys : List (Int × Fx)) : Prop := ∀ a ∈ ys, a.1 ∈ xs.map (·.1) ∧ flt (lk xs a.1) a.2 = false
theorem nd_len : ∀ {r q : List Int}, r.Nodup → (∀ a ∈ r, a ∈ q) → r.length ≤ q.length
  | [], _, _, _ => Nat.zero_le _
  | a :: r, q, h, m => by
    rw [List.nodup_cons] at h
    have ha : a ∈ q := m a List.mem_cons_self
    have h2 := nd_len (q := q.erase a) h.2 fun b hb => (List.mem_erase_of_ne fun e => h.1 (by rw [← e]; exact hb)).mpr (m b (List.mem_cons_of_mem _ hb))
    rw [List.length_erase_of_mem ha] at h2
    have := List.length_pos_of_mem ha
    rw [List.length_cons]
    omega
theorem take_in {n : Nat} {xs ys zs : List (Int × Fx)} (gx : Good n xs) (gy : Good n ys) (h0 : 0 < n) (h8 : xs.length ≤ 8) (hz : IsS (gat [] (xs ++ ngs ys)) zs) (h : Inn xs ys) : Shr zs ∧ ∀ ws, IsS (tks xs ys) ws → zs = ws := by
  have lx := fun k => lk_fr gx.all h0 k
  have ly := fun k => lk_fr gy.all h0 k
  have val : ∀ k x, (k, x) ∈ zs → x = fsub (lk xs k) (lk ys k) ∧ x ≠ (0, 1) ∧ k ∈ xs.map (·.1) := fun k x hm => by
    obtain ⟨e, hx⟩ := (hz.2 k x).mp hm
    rw [lk_take gx gy h0] at e
    refine ⟨e.symm, hx, ?_⟩
    by_cases a : k ∈ xs.map (·.1)
    · exact a
    · by_cases b : k ∈ ys.map (·.1)
      · obtain ⟨c, hc, ec⟩ := List.mem_map.mp b
        rw [← ec]
        exact (h c hc).1
      · rw [lk_none a, lk_none b] at e
        exact absurd (e.symm.trans (by decide)) hx
  refine ⟨⟨?_, fun a ha => ?_, hz.1⟩, fun ws hw => hz.uniq hw fun k => ?_⟩
  · have n1 : (zs.map (·.1)).Nodup := hz.1.imp fun e => Int.ne_of_lt e
    have := nd_len (q := xs.map (·.1)) n1 fun k hk => by
      obtain ⟨a, ha, rfl⟩ := List.mem_map.mp hk
      exact (val a.1 a.2 ha).2.2
    rw [List.length_map, List.length_map] at this
    omega
  · obtain ⟨e, hne, m⟩ := val a.1 a.2 ha
    obtain ⟨b, hb, eb⟩ := List.mem_map.mp m
    have lo := gx.lo b hb
    rw [eb] at lo
    have f : Fr a.2 := by rw [e]; exact fsub_fr (lx _).1 (ly _).1
    refine ⟨lo.1, lo.2, f, ?_⟩
    have n0 : a.2.1 ≠ 0 := fun z => hne (fr_zero f z)
    have n1 : ¬ a.2.1 < 0 := fun z => by
      rw [e, fsub_neg_iff (lx _).1 (ly _).1] at z
      by_cases c : a.1 ∈ ys.map (·.1)
      · obtain ⟨b2, hb2, eb2⟩ := List.mem_map.mp c
        have q := (h b2 hb2).2
        rw [eb2] at q
        rw [← eb2, lk_of_mem gy.nodup hb2, eb2, q] at z
        cases z
      · rw [lk_none c] at z
        unfold flt at z
        have := (lk_nonneg gx.pos a.1).1
        have z2 := of_decide_eq_true z
        simp only [Int.mul_one, Int.zero_mul] at z2
        omega
    omega
  · rw [lk_take gx gy h0, lk_tks ys xs k gy.nodup]
    split
    · rfl
    · rename_i c
      rw [lk_none c]
      have := fsub_fadd (lx k).1 fr01
      rw [fadd_zero (lx k).1] at this
      exact this
theorem take_out {n : Nat} {xs ys zs : List (Int × Fx)} (gx : Good n xs) (gy : Good n ys) (h0 : 0 < n) (hz : IsS (gat [] (xs ++ ngs ys)) zs) (h : ¬ Inn xs ys) : ¬ Shr zs := fun S => by
  refine h fun a ha => ?_
  have hl := lk_of_mem gy.nodup ha
  have hp := gy.pos a ha
  have key : flt (lk xs a.1) a.2 = false := by
    cases c : flt (lk xs a.1) a.2 with
    | false => rfl
    | true =>
      have neg : (fsub (lk xs a.1) (lk ys a.1)).1 < 0 := by
        rw [fsub_neg_iff (lk_fr gx.all h0 _).1 (lk_fr gy.all h0 _).1, hl]
        exact c
      have hm : (a.1, fsub (lk xs a.1) (lk ys a.1)) ∈ zs := (hz.2 _ _).mpr ⟨lk_take gx gy h0 _, fun e => by rw [e] at neg; exact absurd neg (by decide)⟩
      have := (S.2.1 _ hm).2.2.2
      simp only at this
      omega
  refine ⟨?_, key⟩
  by_cases m : a.1 ∈ xs.map (·.1)
  · exact m
  · rw [lk_none m] at key
    unfold flt at key
    have z := of_decide_eq_false key
    simp only [Int.zero_mul, Int.mul_one] at z
    omega
theorem take_self {n : Nat} {xs zs : List (Int × Fx)} (gx : Good n xs) (h0 : 0 < n) (hz : IsS (gat [] (xs ++ ngs xs)) zs) : zs = [] := by
  refine hz.uniq (g := []) ⟨List.Pairwise.nil, fun k x => ?_⟩ fun k => ?_
  · constructor
    · intro h
      cases h
    · rintro ⟨e, h⟩
      exact absurd e.symm h
  · rw [lk_take gx gx h0]
    have := fsub_fadd fr01 (lk_fr gx.all h0 k).1
    rw [zero_fadd (lk_fr gx.all h0 k).1] at this
    exact this
end CS
set_option Elab.async false
set_option maxRecDepth 100000
set_option maxHeartbeats 8000000
set_option linter.unusedVariables false
namespace CS
open PySem L2
theorem ngs_all {n : Nat} {ys : List (Int × Fx)} (h : AllF n ys) : AllF (n + 1) (ngs ys) := fun a ha => by
  obtain ⟨b, hb, rfl⟩ := List.mem_map.mp ha
  exact ⟨scl_fr (h b hb).1 _, scl_sz (m := 1) (h b hb).1 (h b hb).2 (by decide)⟩
theorem IsS.len {f r : List (Int × Fx)} (h : IsS f r) : r.length ≤ f.length := by
  have n : (r.map (·.1)).Nodup := h.1.imp fun e => Int.ne_of_lt e
  have := nd_len (q := f.map (·.1)) n fun a ha => by
    obtain ⟨⟨k, x⟩, hk, rfl⟩ := List.mem_map.mp ha
    obtain ⟨e, z⟩ := (h.2 k x).mp hk
    exact lk_mem (by rw [e]; exact z)
  simpa using this
section
variable {P : Program} {w : World} {K : PySem.W.Frag} {mg : Str → Option Value} {base : Heap}
def spTakeT (K : PySem.W.Frag) (CB : Addr) : Sp := fun vs H Q E => ∃ p q xs ys, vs = [.ref p, .ref q] ∧ ShAt K H p xs ∧ ShAt K H q ys ∧ Shr xs ∧ Shr ys ∧ AllF 80 xs ∧ AllF 80 ys ∧ ∀ H' r zs, Same H H' → ShAt K H' r zs → IsS (gat [] (xs ++ ngs ys)) zs →
  (Shr zs → Q (.ref r) H') ∧ (¬ Shr zs → ∀ d, H' d = none → E (.ref CB) (some d) (upd H' d (.xd [("given", .ref q)])))
end
end CS
set_option Elab.async false
set_option maxRecDepth 100000
set_option maxHeartbeats 4000000
set_option linter.unusedVariables false
/-! tuples whose very object is known to have no dict of its own, made by tuple(list); dict(..) of such ones -/
namespace CS
open PySem PySem.Spec PyProof.Rows L2
def TupZ (H : Hp) (a : Addr) (xs : List V) : Prop := ∃ o : Obj, o.dict = none ∧ H a = some (.frz o (.tup xs))
theorem TupZ.sq {K : PySem.W.Frag} {H : Hp} {a : Addr} {xs : List V} (h : TupZ H a xs) : SqT K H a xs := by
  obtain ⟨o, _, e⟩ := h
  exact .inl (.inr ⟨o, e⟩)
section
variable {X : Cx}
theorem call_tuple_ofZ : CallR X (.type "tuple") (fun xs H Q => ∃ p ys, xs = [.ref p] ∧ SqL X.K H p ys ∧ ∀ l o, H l = none → o.dict = none → Q (.ref l) (upd H l (.frz o (.tup ys)))) := by
  intro pins s σ H xs us Q I r ⟨p, ys, ex, hq, q⟩
  subst ex
  obtain ⟨u, rfl, rx⟩ := vals1 r
  cases rx
  obtain ⟨its, rv, pl, hz⟩ := I.list hq
  have hl := rv.length
  refine call_tuple_list pl.isList (fun h' kp => ?_) (by simp only [List.size_toArray]; omega)
  have J : Inv X pins σ H { s with heap := h' } := I.kept (t' := s.toks) kp
  have g : (h'.push ({ cls := .type "tuple", data := .seq its.toArray } : Obj)).get? h'.objs.size = some { cls := .type "tuple", data := .seq its.toArray } := Heap.get?_push_size _ rfl
  refine ⟨.ref h'.objs.size, _, J.laid (t' := s.toks) (o := .frz { cls := .type "tuple", data := .seq its.toArray } (.tup ys)) (fun b o e => Heap.get?_push_of_some _ e) (Nat.le_refl _) ?_, rfl, q _ _ (J.hok.fresh (Nat.le_refl _)) rfl⟩
  exact ⟨g, hz, its, rv, ⟨_, g, rfl, _, rfl⟩⟩
theorem call_dictZ (hcalm : X.calm = true) : CallR X (.type "dict") (fun xs H Q => ∃ (a : Addr) (ps : List Addr) (kvs : List (Key × V)), xs = [.ref a] ∧ TupZ H a (ps.map V.ref) ∧ Paired (fun p kv => SqT X.K H p [kV kv.1, kv.2]) ps kvs ∧
    ∀ p, H p = none → Q (.ref p) (upd H p (.dK (mergeK [] kvs)))) := by
  intro pins s σ H xs us Q I r ⟨a, ps, kvs, ex, ⟨o, od, ho⟩, hp, q⟩
  subst ex
  obtain ⟨u, rfl, rx⟩ := vals1 r
  cases rx
  obtain ⟨g, z, its, rv, o2, g2, oc, n, dat⟩ := (show ObjOk X.prog X.w H s.heap a (.frz o (.tup (ps.map V.ref))) from I.hok a _ ho)
  rw [g] at g2
  cases g2
  cases refs_at rv
  rw [List.length_map] at z
  obtain ⟨prs, rel, hl, hpr⟩ := pairs_of I hp
  
  obtain ⟨us, hus⟩ : ∃ us : List (Value × Value), us.length = prs.length ∧ ∀ (j : Nat) (q : Key × Value), prs[j]? = some q → ∃ b u, us[j]? = some (u, q.2) ∧ ps[j]? = some b ∧ IsTup s.heap b #[u, q.2] ∧ keyIs q.1 u = true := by
    have mk : ∀ (prs : List (Key × Value)) (ps : List Addr), prs.length = ps.length → (∀ (j : Nat) (q : Key × Value), prs[j]? = some q → ∃ b u, ps[j]? = some b ∧ IsTup s.heap b #[u, q.2] ∧ keyIs q.1 u = true) → ∃ us : List (Value × Value), us.length = prs.length ∧ ∀ (j : Nat) (q : Key × Value), prs[j]? = some q → ∃ b u, us[j]? = some (u, q.2) ∧ ps[j]? = some b ∧ IsTup s.heap b #[u, q.2] ∧ keyIs q.1 u = true := by
      intro prs
      induction prs with
      | nil => exact fun ps _ _ => ⟨[], rfl, fun j q e => by simp at e⟩
      | cons p prs ih =>
        intro ps hl h
        cases ps with
        | nil => simp at hl
        | cons c ps =>
          obtain ⟨b, u, e1, e2, e3⟩ := h 0 p rfl
          obtain ⟨us, h1, h2⟩ := ih ps (by simpa using hl) fun j q e => by simpa using h (j + 1) q (by simpa using e)
          refine ⟨(u, p.2) :: us, by simp [h1], fun j q e => ?_⟩
          cases j with
          | zero =>
            cases (Option.some.inj e : p = q)
            exact ⟨b, u, rfl, e1, e2, e3⟩
          | succ j => simpa using h2 j q (by simpa using e)
    exact mk prs ps hl hpr
  obtain ⟨ul, uh⟩ := hus
  have P := PairArg.tuple (prog := X.prog) (w := X.w) a (ps.map Value.ref).toArray (fun j => (ps[j]?).getD 0) us
  refine PySem.call_dict_pairs (knd := mixKind X.prog X.w) (kvs := prs) P (I.ok.hd hcalm) ⟨⟨o, n, g, oc, od, dat⟩, by simp [ul, hl], fun j k v e => ?_⟩ ⟨by rw [ul], fun i k v e => ?_⟩ (by rw [ul, hl]; exact z) fun h' tk hd' k => ?_
  · have hj : j < prs.length := by rw [← ul]; exact (List.getElem?_eq_some_iff.mp e).1
    obtain ⟨b, u, e1, e2, e3, e4⟩ := uh j prs[j] (List.getElem?_eq_getElem hj)
    rw [e] at e1
    cases e1
    refine ⟨by simp [e2], ?_⟩
    show PairAt s.heap ((ps[j]?).getD 0) _ _
    rw [e2]
    exact .inl e3
  · have e : us[i]? = some (k, v) := e
    have hj : i < prs.length := by rw [← ul]; exact (List.getElem?_eq_some_iff.mp e).1
    obtain ⟨b, u, e1, e2, e3, e4⟩ := uh i prs[i] (List.getElem?_eq_getElem hj)
    rw [e] at e1
    cases e1
    exact ⟨prs[i].1, List.getElem?_eq_getElem hj, e4⟩
  · have hm : (s.heap.objs.size == sysModules) = false := beq_eq_false_iff_ne.mpr (Nat.ne_of_gt I.big)
    have h1 : (mergeK [] kvs).length ≤ sizeLine := by
      have := length_mergeK kvs []
      have h2 := Paired.length rel
      rw [List.length_nil, Nat.zero_add] at this
      omega
    exact ⟨.ref s.heap.objs.size, upd H s.heap.objs.size (.dK (mergeK [] kvs)), I.laid (t' := tk) (fun b o e => k b o (fun z => nomatch z) e) (Nat.le_refl _) (show ObjOk X.prog X.w _ _ _ (.dK (mergeK [] kvs)) from ⟨h1, hm, merged [] prs, KV.merge rel .nil, hd'⟩), rfl, q _ (I.hok.fresh (Nat.le_refl _))⟩
end
end CS
set_option Elab.async false
set_option maxRecDepth 100000
set_option maxHeartbeats 8000000
set_option linter.unusedVariables false
namespace CS
open PySem L2
theorem fr_one (m : Int) : Fr ((m, 1) : Fx) := by
  unfold Fr
  simp
theorem sz_one {m : Int} {n : Nat} (h : m.natAbs < 2 ^ n) (h0 : 0 < n) : Sz n ((m, 1) : Fx) := ⟨h, Nat.one_lt_two_pow (by omega)⟩
section
variable {P : Program} {w : World} {K : PySem.W.Frag} {mg : Str → Option Value} {base : Heap}
theorem scLawSum : FnScope ["some", "found", "one"] ["some"] (defScope sLawSum) := ⟨rfl, rfl, rfl, by decide +kernel, rfl, by decide +kernel, by decide +kernel⟩
theorem ok_law_sum {f f1 : Addr} {fd fd1 : FuncData} (F : Df K mg "_law_sum" sLawSum ["some"] f fd) (D1 : Df K mg "_law_plus" sLawPlus ["one", "other"] f1 fd1) (G1 : FnOk P w K mg base CX0 2 f1 fd1 ["one", "other"] (spF2 K (fun _ _ => True) fadd)) : FnOk P w K mg base CX0 3 f fd ["some"] (spSum K) := by
  refine F.F.ok scLawSum (fun vs H Q E h => ?_) (fun cdv A outer s H vs Q E hr h => ?_)
  · obtain ⟨a, ws, xs, rfl, _⟩ := h
    rfl
  · obtain ⟨a, ws, xs, rfl, hS, hF, hx, hlen, k⟩ := h
    refine ⟨_, pss_cons (ps_set (i := 1) scLawSum.nd rfl (Or.inl rfl) (pe_tup (pa_cons pe_int (pa_cons pe_int pa_nil))))
      (pss_cons (ps_for PassesOwn.never rfl (pi_list (pv 0)) (pg_name (i := 2) scLawSum.nd rfl (Or.inl rfl)) (pss_one (ps_set (i := 1) scLawSum.nd rfl (Or.inl rfl) (pe_call G1 hr (by rfl) D1.g D1.F.kp D1.b .nil pass0 (pa_cons (pv 1) (pa_cons (pv 2) pa_nil))))))
      (pss_one (ps_ret (pv 1)))), ?_⟩
    refine ⟨(by show 2 ≤ sizeLine; decide), fun t ht => ?_⟩
    have s0 := Same.new (o := .tup [V.int 0, V.int 1]) ht
    refine ⟨_, rfl, a, rfl, ⟨_, s0.seq hS⟩, for_list (K := K) (a := a) (xs := ws) (fun i σ H' => ∃ p v, σ = [some (.ref a), some (.ref p), v] ∧ Same H H' ∧ FT K H' p ((xs.take i).foldl fadd (0, 1))) ⟨t, none, rfl, s0, FT.new (x := (0, 1))⟩ (fun i σ H' _ ⟨_, _, _, s, _⟩ => s.seq hS) ?_ ?_⟩
    · rintro i v σ H' hi ⟨p, u, rfl, s1, hp⟩
      obtain ⟨r, x, rfl, hxi, hr'⟩ := hF.get hi
      have hi2 : i < xs.length := (List.getElem?_eq_some_iff.mp hxi).1
      have hxm := hx x (List.mem_of_getElem? hxi)
      have hz : Sz 1900 ((xs.take i).foldl fadd (0, 1)) := by
        refine (fold_sz 100 (xs.take i) (0, 1) 1 fr01 (sz01 (by decide)) fun y hy => hx y (List.mem_of_mem_take hy)).up ?_
        rw [List.length_take]
        omega
      have hf : Fr ((xs.take i).foldl fadd (0, 1)) := fold_fr _ _ fr01 fun y hy => (hx y (List.mem_of_mem_take hy)).1
      refine ⟨_, rfl, _, rfl, p, r, _, x, rfl, hp, s1.tup hr', hf, hxm.1, hz, hxm.2.up (by decide), trivial, fun q hq => ?_⟩
      refine ⟨q, _, rfl, s1.trans (Same.new hq), ?_⟩
      rw [take_snoc hxi, List.foldl_append]
      exact FT.new
    · rintro σ H' ⟨p, u, rfl, s1, hp⟩
      rw [hF.len, List.take_length] at hp
      exact ⟨_, rfl, k _ _ s1 hp⟩
theorem scLawTotal : FnScope ["share_so", "mark", "heft"] ["share_so"] (defScope sLawTotal) := ⟨rfl, rfl, rfl, by decide +kernel, rfl, by decide +kernel, by decide +kernel⟩
theorem ok_law_total {f f1 : Addr} {fd fd1 : FuncData} (F : Df K mg "_law_total" sLawTotal ["share_so"] f fd) (D1 : Df K mg "_law_sum" sLawSum ["some"] f1 fd1) (G1 : FnOk P w K mg base CX0 3 f1 fd1 ["some"] (spSum K)) : FnOk P w K mg base CX0 4 f fd ["share_so"] (spShF K ftot) := by
  refine F.F.ok scLawTotal (fun vs H Q E h => ?_) (fun cdv A outer s H vs Q E hr h => ?_)
  · obtain ⟨p, xs, rfl, _⟩ := h
    rfl
  · obtain ⟨p, xs, rfl, ⟨vs, hp, hP⟩, hx, hm, hlen, k⟩ := h
    refine ⟨_, pss_one (ps_ret (pe_call G1 hr (by rfl) D1.g D1.F.kp D1.b .nil pass0 (pa_cons (pe_lc (own := [("mark", 1), ("heft", 2)]) (g := gTup K 2 (gCons (gName 1) (gCons (gName 2) gNil))) (tt := tYes) rfl scLawTotal.nd (pi_tup (pv 0)) (blkOk_by (N := ["share_so", "mark", "heft"]) (sc := defScope sLawTotal) (by decide +kernel)) (fun _ _ _ _ _ => pg_tup rfl (pgs_cons (pg_name (i := 1) scLawTotal.nd rfl (Or.inl rfl)) (pgs_cons (pg_name (i := 2) scLawTotal.nd rfl (Or.inl rfl)) pgs_nil))) (fun _ _ _ _ _ => pts_nil) (fun _ _ _ _ _ => pv 2)) pa_nil))), ?_⟩
    refine ⟨_, rfl, p, rfl, ⟨_, hp⟩, fun D hD => lc_tup (K := K) (a := p) (xs := vs) (fun i H' => LcF K H D ((xs.take i).map (·.2)) H') (LcF.start hD) (fun i H' _ ⟨ws, _, s1, _⟩ => s1.tup hp) ?_ ?_⟩
    · rintro i v H' hi ⟨ws, h1, s1, hf⟩
      obtain ⟨q, r, m, x, rfl, hxi, hq, hr'⟩ := hP.get hi
      have hi2 : i < xs.length := (List.getElem?_eq_some_iff.mp hxi).1
      refine ⟨q, _, rfl, s1.tup hq, rfl, _, _, rfl, _, _, rfl, rfl, rfl, ?_⟩
      dsimp only [tYes]
      rw [if_pos rfl]
      refine ⟨_, rfl, ws, h1, small1000 ?_, ?_⟩
      · rw [hf.len, List.length_map, List.length_take]; omega
      · show LcF K H D _ _
        rw [take_snoc hxi, List.map_append]
        exact LcF.step hD h1 s1 hf (s1.tup hr')
    · rintro H' ⟨ws, h1, s1, hf⟩
      rw [hP.len, List.take_length] at hf
      refine ⟨D, ws, _, rfl, SqL.of h1, hf, ?_, by rw [List.length_map]; exact hlen, fun H2 r s2 hr2 => k _ _ (s1.trans s2) hr2⟩
      intro x hxm
      obtain ⟨a, ha, rfl⟩ := List.mem_map.mp hxm
      exact ⟨(hx a ha).1, (hx a ha).2.up (by decide)⟩
theorem scLawMoment : FnScope ["share_so", "mark", "heft"] ["share_so"] (defScope sLawMoment) := ⟨rfl, rfl, rfl, by decide +kernel, rfl, by decide +kernel, by decide +kernel⟩
theorem ok_law_moment {f f1 f2 : Addr} {fd fd1 fd2 : FuncData} (F : Df K mg "_law_moment" sLawMoment ["share_so"] f fd) (D1 : Df K mg "_law_sum" sLawSum ["some"] f1 fd1) (G1 : FnOk P w K mg base CX0 3 f1 fd1 ["some"] (spSum K)) (D2 : Df K mg "_law_times" sLawTimes ["one", "other"] f2 fd2) (G2 : FnOk P w K mg base CX0 2 f2 fd2 ["one", "other"] (spF2 K (fun _ _ => True) fmul)) : FnOk P w K mg base CX0 4 f fd ["share_so"] (spShF K fmom) := by
  refine F.F.ok scLawMoment (fun vs H Q E h => ?_) (fun cdv A outer s H vs Q E hr h => ?_)
  · obtain ⟨p, xs, rfl, _⟩ := h
    rfl
  · obtain ⟨p, xs, rfl, ⟨vs, hp, hP⟩, hx, hm, hlen, k⟩ := h
    refine ⟨_, pss_one (ps_ret (pe_call G1 hr (by rfl) D1.g D1.F.kp D1.b .nil pass0 (pa_cons (pe_lc (own := [("mark", 1), ("heft", 2)]) (g := gTup K 2 (gCons (gName 1) (gCons (gName 2) gNil))) (tt := tYes) rfl scLawMoment.nd (pi_tup (pv 0)) (blkOk_by (N := ["share_so", "mark", "heft"]) (sc := defScope sLawMoment) (by decide +kernel)) (fun _ _ _ _ _ => pg_tup rfl (pgs_cons (pg_name (i := 1) scLawMoment.nd rfl (Or.inl rfl)) (pgs_cons (pg_name (i := 2) scLawMoment.nd rfl (Or.inl rfl)) pgs_nil))) (fun _ _ _ _ _ => pts_nil) (fun _ _ _ _ _ => pe_call G2 (hr.mono (by decide)) (by rfl) D2.g D2.F.kp D2.b .nil pass0 (pa_cons (pv 2) (pa_cons (pe_tup (pa_cons (pv 1) (pa_cons pe_int pa_nil))) pa_nil)))) pa_nil))), ?_⟩
    refine ⟨_, rfl, p, rfl, ⟨_, hp⟩, fun D hD => lc_tup (K := K) (a := p) (xs := vs) (fun i H' => LcF K H D ((xs.take i).map fun a => scl a.2 a.1) H') (LcF.start hD) (fun i H' _ ⟨ws, _, s1, _⟩ => s1.tup hp) ?_ ?_⟩
    · rintro i v H' hi ⟨ws, h1, s1, hf⟩
      obtain ⟨q, r, m, x, rfl, hxi, hq, hr'⟩ := hP.get hi
      have hi2 : i < xs.length := (List.getElem?_eq_some_iff.mp hxi).1
      have hxm := hx _ (List.mem_of_getElem? hxi)
      have hmm := hm _ (List.mem_of_getElem? hxi)
      simp only at hmm
      refine ⟨q, _, rfl, s1.tup hq, rfl, _, _, rfl, _, _, rfl, rfl, rfl, ?_⟩
      dsimp only [tYes]
      rw [if_pos rfl]
      refine ⟨_, rfl, _, rfl, (by show 2 ≤ sizeLine; decide), fun t0 ht0 => ?_⟩
      have k0 := Same.new (o := .tup [V.int m, V.int 1]) ht0
      refine ⟨r, t0, x, (m, 1), rfl, k0.tup (s1.tup hr'), SqT.of upd_same, hxm.1, fr_one m, hxm.2.up (by decide), (sz_one (n := 100) (Nat.lt_of_le_of_lt hmm (by decide)) (by decide)).up (by decide), trivial, fun t ht => ?_⟩
      rw [scl_mul]
      have k1 := k0.trans (Same.new (o := .tup [.int (scl x m).1, .int (scl x m).2]) ht)
      refine ⟨ws, k1 _ _ h1, small1000 ?_, ?_⟩
      · rw [hf.len, List.length_map, List.length_take]; omega
      · show LcF K H D _ _
        rw [take_snoc hxi, List.map_append]
        exact LcF.step hD (k1 _ _ h1) (s1.trans k1) (hf.tk (tk_same k1)) FT.new
    · rintro H' ⟨ws, h1, s1, hf⟩
      rw [hP.len, List.take_length] at hf
      refine ⟨D, ws, _, rfl, SqL.of h1, hf, ?_, by rw [List.length_map]; exact hlen, fun H2 r s2 hr2 => k _ _ (s1.trans s2) hr2⟩
      intro x hxm
      obtain ⟨a, ha, rfl⟩ := List.mem_map.mp hxm
      refine ⟨scl_fr (hx a ha).1 _, (scl_sz (m := 8) (hx a ha).1 (hx a ha).2 ?_).up (by decide)⟩
      have := hm a ha
      omega
theorem scLawRest : FnScope ["share_so", "at", "mark", "heft"] ["share_so", "at"] (defScope sLawRest) := ⟨rfl, rfl, rfl, by decide +kernel, rfl, by decide +kernel, by decide +kernel⟩
theorem ok_law_rest {f f1 f2 : Addr} {fd fd1 fd2 : FuncData} (F : Df K mg "_law_rest" sLawRest ["share_so", "at"] f fd) (D1 : Df K mg "_law_sum" sLawSum ["some"] f1 fd1) (G1 : FnOk P w K mg base CX0 3 f1 fd1 ["some"] (spSum K)) (D2 : Df K mg "_law_times" sLawTimes ["one", "other"] f2 fd2) (G2 : FnOk P w K mg base CX0 2 f2 fd2 ["one", "other"] (spF2 K (fun _ _ => True) fmul)) : FnOk P w K mg base CX0 4 f fd ["share_so", "at"] (spShFk K frest) := by
  refine F.F.ok scLawRest (fun vs H Q E h => ?_) (fun cdv A outer s H vs Q E hr h => ?_)
  · obtain ⟨p, xs, n, rfl, _⟩ := h
    rfl
  · obtain ⟨p, xs, n, rfl, ⟨vs, hp, hP⟩, hx, hm, hn, hlen, k⟩ := h
    refine ⟨_, pss_one (ps_ret (pe_call G1 hr (by rfl) D1.g D1.F.kp D1.b .nil pass0 (pa_cons (pe_lc (own := [("mark", 2), ("heft", 3)]) (g := gTup K 2 (gCons (gName 2) (gCons (gName 3) gNil))) (tt := _) rfl scLawRest.nd (pi_tup (pv 0)) (blkOk_by (N := ["share_so", "at", "mark", "heft"]) (sc := defScope sLawRest) (by decide +kernel)) (fun _ _ _ _ _ => pg_tup rfl (pgs_cons (pg_name (i := 2) scLawRest.nd rfl (Or.inl rfl)) (pgs_cons (pg_name (i := 3) scLawRest.nd rfl (Or.inl rfl)) pgs_nil))) (fun _ _ _ _ _ => pts_one (pt_cmpR op_gt (pv 2) (pv 1) (nomark _))) (fun _ _ _ _ _ => pe_call G2 (hr.mono (by decide)) (by rfl) D2.g D2.F.kp D2.b .nil pass0 (pa_cons (pv 3) (pa_cons (pe_tup (pa_cons (pe_op op_sub (pv 2) (pv 1)) (pa_cons pe_int pa_nil))) pa_nil)))) pa_nil))), ?_⟩
    refine ⟨_, rfl, p, rfl, ⟨_, hp⟩, fun D hD => lc_tup (K := K) (a := p) (xs := vs) (fun i H' => LcF K H D (((xs.take i).filter fun a => decide (n < a.1)).map fun a => scl a.2 (a.1 - n)) H') (LcF.start hD) (fun i H' _ ⟨ws, _, s1, _⟩ => s1.tup hp) ?_ ?_⟩
    · rintro i v H' hi ⟨ws, h1, s1, hf⟩
      obtain ⟨q, r, m, x, rfl, hxi, hq, hr'⟩ := hP.get hi
      have hi2 : i < xs.length := (List.getElem?_eq_some_iff.mp hxi).1
      have hxm := hx _ (List.mem_of_getElem? hxi)
      have hmm := hm _ (List.mem_of_getElem? hxi)
      simp only at hmm
      refine ⟨q, _, rfl, s1.tup hq, rfl, _, _, rfl, _, _, rfl, rfl, rfl, ?_⟩
      refine ⟨_, rfl, _, rfl, _, _, rfl, rfl, _, rfl, ?_⟩
      by_cases hc : n < m
      · dsimp only
        rw [if_pos (decide_eq_true hc)]
        refine ⟨_, rfl, _, rfl, _, rfl, _, _, rfl, rfl, (by show 2 ≤ sizeLine; decide), fun t0 ht0 => ?_⟩
        have k0 := Same.new (o := .tup [V.int (m - n), V.int 1]) ht0
        have hmn : (m - n).natAbs < 2 ^ 100 := Nat.lt_of_le_of_lt (show (m - n).natAbs ≤ 400 by omega) (by decide)
        refine ⟨r, t0, x, (m - n, 1), rfl, k0.tup (s1.tup hr'), SqT.of upd_same, hxm.1, fr_one _, hxm.2.up (by decide), (sz_one hmn (by decide)).up (by decide), trivial, fun t ht => ?_⟩
        rw [scl_mul]
        have k1 := k0.trans (Same.new (o := .tup [.int (scl x (m - n)).1, .int (scl x (m - n)).2]) ht)
        refine ⟨ws, k1 _ _ h1, small1000 ?_, ?_⟩
        · rw [hf.len, List.length_map]
          have := List.length_filter_le (fun a : Int × Fx => decide (n < a.1)) (xs.take i)
          rw [List.length_take] at this
          omega
        · show LcF K H D _ _
          rw [take_snoc hxi, List.filter_append, List.map_append, List.filter_cons_of_pos (by simpa using hc)]
          exact LcF.step hD (k1 _ _ h1) (s1.trans k1) (hf.tk (tk_same k1)) FT.new
      · dsimp only
        rw [if_neg (by rw [decide_eq_false hc]; exact Bool.false_ne_true)]
        show LcF K H D _ _
        rw [take_snoc hxi, List.filter_append, List.map_append, List.filter_cons_of_neg (by simpa using hc)]
        show LcF K H D (_ ++ []) _
        rw [List.append_nil]
        exact ⟨ws, h1, s1, hf⟩
    · rintro H' ⟨ws, h1, s1, hf⟩
      rw [hP.len, List.take_length] at hf
      refine ⟨D, ws, _, rfl, SqL.of h1, hf, ?_, ?_, fun H2 r s2 hr2 => k _ _ (s1.trans s2) hr2⟩
      · intro x hxm
        obtain ⟨a, ha, rfl⟩ := List.mem_map.mp hxm
        have ha2 := (List.mem_filter.mp ha).1
        refine ⟨scl_fr (hx a ha2).1 _, (scl_sz (m := 9) (hx a ha2).1 (hx a ha2).2 ?_).up (by decide)⟩
        have := hm a ha2
        omega
      · rw [List.length_map]
        exact Nat.le_trans (List.length_filter_le _ _) hlen
/-! share_of -/
def spShOf (K : PySem.W.Frag) : Sp := fun vs H Q _ => ∃ d kvs g, vs = [.ref d] ∧ H d = some (.dK kvs) ∧ DPr K H kvs g ∧ (g.map (·.1)).Nodup ∧ g.length ≤ 40 ∧ ∀ H' r ys, Same H H' → ShAt K H' r ys → IsS g ys → Q (.ref r) H'
theorem scLawShareOf : FnScope ["hefts", "mark"] ["hefts"] (defScope sLawShareOf) := ⟨rfl, rfl, rfl, by decide +kernel, rfl, by decide +kernel, by decide +kernel⟩
theorem ok_law_share_of {f : Addr} {fd : FuncData} (F : Df K mg "_law_share_of" sLawShareOf ["hefts"] f fd) (T : Bt mg) : FnOk P w K mg base CX0 1 f fd ["hefts"] (spShOf K) := by
  refine F.F.ok scLawShareOf (fun vs H Q E h => ?_) (fun cdv A outer s H vs Q E hr h => ?_)
  · obtain ⟨d, kvs, g, rfl, _⟩ := h
    rfl
  · obtain ⟨d, kvs, g, rfl, hdk, hD, hn, hlen, k⟩ := h
    have hu := hu_of hr
    refine ⟨_, pss_one (ps_ret (pe_callTy call_tuple_of (by rfl) T.tuple (by decide +kernel) (pa_cons (pe_lc (own := [("mark", 1)]) (g := gName 1) (tt := tTest (tOp (rNeD K) (tDGet (tVar 0) (tVar 1)) (tTup (tCons (tC (.int 0)) (tCons (tC (.int 1)) tNil))))) rfl scLawShareOf.nd (pi_list (pe_callB (call_sortedDI rfl) (by rfl) T.sorted (by decide +kernel) (pa_cons (pv 0) pa_nil))) (blkOk_by (N := ["hefts", "mark"]) (sc := defScope sLawShareOf) (by decide +kernel)) (fun _ _ _ _ _ => pg_name (i := 1) scLawShareOf.nd rfl (Or.inl rfl)) (fun _ _ _ _ _ => pts_one (pt_cmpR (op_neD hr.units) (pe_dget hu (pv 0) (pv 1) (fun _ _ => rfl)) (pe_tup (pa_cons pe_int (pa_cons pe_int pa_nil))) (nomark _))) (fun _ _ _ _ _ => pe_tup (pa_cons (pv 1) (pa_cons (pe_dget hu (pv 0) (pv 1) (fun _ _ => rfl)) pa_nil)))) pa_nil))), ?_⟩
    refine ⟨_, rfl, d, kvs, g.map (·.1), rfl, .inl hdk, hD.keys, by rw [List.length_map]; omega, fun ys t perm srt ht => ?_⟩
    have k1 := Same.new (o := .lst (ys.map V.int)) ht
    have hlen2 : ys.length ≤ 40 := by
      rw [perm.length_eq, List.length_map]
      exact hlen
    have hT : (upd H t (.lst (ys.map V.int))) t = some (.lst (ys.map V.int)) := upd_same
    have hD2 := hD.tk (tk_same k1)
    have hdk2 := k1 _ _ hdk
    generalize upd H t (.lst (ys.map V.int)) = H2 at *
    refine ⟨t, rfl, ⟨_, SqL.of hT⟩, fun D hDn => lc_list (K := K) (a := t) (xs := ys.map V.int) (fun i H' => LcP K H2 D ((((ys.take i).filter fun k => decide (lk g k ≠ (0, 1))).map fun k => (k, lk g k))) H') (LcP.start hDn) (fun i H' _ ⟨_, _, s3, _⟩ => SqL.of (s3 _ _ hT)) ?_ ?_⟩
    · rintro i v H' hi ⟨us, h1, s3, hf⟩
      rw [List.getElem?_map] at hi
      obtain ⟨m, hmi, rfl⟩ : ∃ m, ys[i]? = some m ∧ v = V.int m := by
        cases e : ys[i]? with
        | none => rw [e] at hi; cases hi
        | some z => rw [e] at hi; exact ⟨z, rfl, (Option.some.inj hi).symm⟩
      have hmem : m ∈ g.map (·.1) := perm.mem_iff.mp (List.mem_of_getElem? hmi)
      obtain ⟨r, g1, g2⟩ := (hD2.tk (tk_same s3)).val m hmem
      have hg : DGet H' d (.int m) (some (.ref r)) := by
        rw [← g1]
        exact DGet.k (k := Sum.inl m) (s3 _ _ hdk2)
      refine ⟨rfl, ?_⟩
      refine ⟨_, rfl, _, rfl, d, _, rfl, hg, (by show 2 ≤ sizeLine; decide), fun t0 ht0 => ?_⟩
      have k0 := Same.new (o := .tup [V.int 0, V.int 1]) ht0
      refine ⟨frD (lk g m), frD (0, 1), ftDp (k0.tup g2), ftDp (FT.new (x := (0, 1))), rfl, rfl, _, rfl, ?_⟩
      dsimp only
      rw [eqvFr]
      have hsz : us.length ≤ 1000 := by
        rw [hf.len, List.length_map]
        have := List.length_filter_le (fun k => decide (lk g k ≠ (0, 1))) (ys.take i)
        rw [List.length_take] at this
        omega
      have hgk : DGet (upd H' t0 (.tup [V.int 0, V.int 1])) d (.int m) (some (.ref r)) := by
        rw [← g1]
        exact DGet.k (k := Sum.inl m) (k0 _ _ (s3 _ _ hdk2))
      by_cases hc : lk g m = (0, 1)
      · rw [if_neg (by simp [hc])]
        show LcP K H2 D _ _
        rw [take_snoc hmi, List.filter_append, List.map_append, List.filter_cons_of_neg (by simp [hc])]
        show LcP K H2 D (_ ++ []) _
        rw [List.append_nil]
        exact ⟨us, k0 _ _ h1, s3.trans k0, hf.tk (tk_same k0)⟩
      · rw [if_pos (by simp [hc])]
        refine ⟨_, rfl, _, rfl, _, rfl, d, _, rfl, hgk, (by show 2 ≤ sizeLine; decide), fun t2 ht2 => ?_⟩
        have k2 := k0.trans (Same.new (o := .tup [V.int m, .ref r]) ht2)
        refine ⟨us, k2 _ _ h1, small1000 hsz, ?_⟩
        show LcP K H2 D _ _
        rw [take_snoc hmi, List.filter_append, List.map_append, List.filter_cons_of_pos (by simp [hc])]
        exact LcP.step hDn (k2 _ _ h1) (s3.trans k2) (hf.tk (tk_same k2)) (SqT.of upd_same) (k2.tup g2)
    · rintro H' ⟨us, h1, s3, hf⟩
      rw [List.length_map, List.take_length] at hf
      refine ⟨D, us, rfl, .inl ⟨SqL.of h1, fun l hl => ?_⟩⟩
      have k3 := Same.new (o := .tup us) hl
      exact k _ l _ (k1.trans (s3.trans k3)) ⟨us, SqT.of upd_same, hf.tk (tk_same k3)⟩ (isS_of perm hn srt)
end
end CS
set_option Elab.async false
set_option maxRecDepth 100000
set_option maxHeartbeats 8000000
set_option linter.unusedVariables false
namespace CS
open PySem L2
/-! shares whose tuple has no dict of its own -/
def ShZ (K : PySem.W.Frag) (H : Hp) (p : Addr) (xs : List (Int × Fx)) : Prop := ∃ vs, TupZ H p vs ∧ PrsAt K H vs xs
section
variable {K : PySem.W.Frag} {H H' : Hp}
theorem ShZ.sh {p : Addr} {xs : List (Int × Fx)} (h : ShZ K H p xs) : ShAt K H p xs := by
  obtain ⟨vs, a, b⟩ := h
  exact ⟨vs, a.sq, b⟩
theorem ShZ.same {p : Addr} {xs : List (Int × Fx)} (e : Same H H') (h : ShZ K H p xs) : ShZ K H' p xs := by
  obtain ⟨vs, ⟨o, d, a⟩, b⟩ := h
  exact ⟨vs, ⟨o, d, e _ _ a⟩, b.tk (tk_same e)⟩
/-- the table that dict(..) makes of a share -/
theorem dpr_merge : ∀ {vs : List V} {xs : List (Int × Fx)}, PrsAt K H vs xs → ∃ (ps : List Addr) (kvs : List (Key × V)), vs = ps.map V.ref ∧ Paired (fun p kv => SqT K H p [kV kv.1, kv.2]) ps kvs ∧
    ∀ (acc : List (Key × V)) (f : List (Int × Fx)), DPr K H acc f → ((f ++ xs).map (·.1)).Nodup → DPr K H (mergeK acc kvs) (f ++ xs)
  | _, _, .nil => ⟨[], [], rfl, .nil, fun acc f h _ => by rw [List.append_nil]; exact h⟩
  | _, _, @PrsAt.cons _ _ q r m x vs xs a b c => by
    obtain ⟨ps, kvs, e, hp, k⟩ := dpr_merge c
    refine ⟨q :: ps, (Sum.inl m, .ref r) :: kvs, by rw [e]; rfl, .cons a hp, fun acc f h hn => ?_⟩
    have hn2 : (f.map (·.1)).Nodup := by
      rw [List.map_append] at hn
      exact (List.nodup_append.mp hn).1
    have hm : m ∉ f.map (·.1) := fun z => by
      rw [List.map_append] at hn
      exact (List.nodup_append.mp hn).2.2 m z m (by simp) rfl
    have h2 := h.put hn2 (k := m) b
    rw [ups_new hm] at h2
    have := k _ _ h2 (by rw [List.append_assoc]; exact hn)
    rw [List.append_assoc] at this
    exact this
end
section
variable {P : Program} {w : World} {K : PySem.W.Frag} {mg : Str → Option Value} {base : Heap}
/-- two shares in, the first one of the law's own, a share out -/
def spTwo (K : PySem.W.Frag) (ok : List (Int × Fx) → List (Int × Fx) → Prop) (g : List (Int × Fx) → List (Int × Fx) → List (Int × Fx)) : Sp := fun vs H Q _ => ∃ p q xs ys, vs = [.ref p, .ref q] ∧ ShZ K H p xs ∧ ShAt K H q ys ∧ (xs.map (·.1)).Nodup ∧ AllF 80 xs ∧ AllF 80 ys ∧ xs.length ≤ 16 ∧ ys.length ≤ 16 ∧ ok xs ys ∧
  ∀ H' r zs, Same H H' → ShAt K H' r zs → IsS (g xs ys) zs → Q (.ref r) H'
end
end CS
set_option Elab.async false
set_option maxRecDepth 100000
set_option maxHeartbeats 8000000
set_option linter.unusedVariables false
namespace CS
open PySem L2
theorem low_pos {t b : Int} (ht : 0 < t) (hb : 0 < b) : 0 < (low t b).1 := (low_sign hb).1.mpr ht
/-- a set's keys, one more -/
def addK (ns : List Int) (m : Int) : List Int := if m ∈ ns then ns else ns ++ [m]
theorem keys_put {kvs : List (Key × V)} {ns : List Int} {m : Int} {v : V} (h : kvs.map (·.1) = ns.map Sum.inl) : (putK kvs (Sum.inl m : Key) v).map (·.1) = (addK ns m).map Sum.inl := by
  have e : (kvs.any fun kv => decide (kv.1 = (Sum.inl m : Key))) = decide (m ∈ ns) := by
    have e1 : (kvs.any fun kv => decide (kv.1 = (Sum.inl m : Key))) = (kvs.map (·.1)).any fun k => decide (k = (Sum.inl m : Key)) := by rw [List.any_map]; rfl
    rw [e1, h, List.any_map, Bool.eq_iff_iff]
    simp
  unfold putK addK
  rw [e]
  by_cases c : m ∈ ns
  · rw [if_pos (decide_eq_true c), if_pos c, ← h, List.map_map]
    apply List.map_congr_left
    intro kv _
    simp only [Function.comp]
    by_cases q : kv.1 = (Sum.inl m : Key)
    · rw [if_pos q, q]
    · rw [if_neg q]
  · rw [if_neg (by simp [c]), if_neg c, List.map_append, List.map_append, h]
    rfl
theorem addK_nodup {ns : List Int} {m : Int} (h : ns.Nodup) : (addK ns m).Nodup := by
  unfold addK
  split
  · exact h
  · rename_i c
    rw [List.nodup_append]
    refine ⟨h, by simp, fun a ha b hb => ?_⟩
    rw [List.mem_singleton.mp hb]
    exact fun e => c (e ▸ ha)
theorem addK_len (ns : List Int) (m : Int) : (addK ns m).length ≤ ns.length + 1 := by
  unfold addK
  split
  · omega
  · simp
theorem addK_pos (ns : List Int) (m : Int) : 0 < (addK ns m).length := by
  unfold addK
  split
  · next h => exact List.length_pos_of_mem h
  · simp
theorem addK_mem {ns : List Int} {m a : Int} (h : a ∈ addK ns m) : a ∈ ns ∨ a = m := by
  unfold addK at h
  split at h
  · exact .inl h
  · simpa using h
section
variable {H H1 : Hp} {d c l a : Addr} {k : Nat} {o : HO}
/-- a write beside the state -/
theorem StAt.upd (S : StAt H d c l k) (h1 : a ≠ d) (h2 : a ≠ c) (h3 : a ≠ l) : StAt (upd H a o) d c l k := by
  obtain ⟨hd, ne, cs, ls, e1, e2, r⟩ := S
  exact ⟨by rw [upd_ne (Ne.symm h1)]; exact hd, ne, cs, ls, by rw [upd_ne (Ne.symm h2)]; exact e1, by rw [upd_ne (Ne.symm h3)]; exact e2, r⟩
theorem StAt.neD (S : StAt H d c l k) (h : H a = none) : a ≠ d ∧ a ≠ c ∧ a ≠ l := by
  obtain ⟨hd, ne, cs, ls, e1, e2, r⟩ := S
  refine ⟨fun z => ?_, fun z => ?_, fun z => ?_⟩
  · rw [z, hd] at h
    cases h
  · rw [z, e1] at h
    cases h
  · rw [z, e2] at h
    cases h
/-- what was new ahead is no part of the state behind -/
theorem Fm.upd (f : Fm d l H H1) (h : H a = none) : Fm d l H (upd H1 a o) := fun b u e n m => by
  rw [upd_ne (ne_of_none e h)]
  exact f b u e n m
theorem Fm.none (f : Fm d l H H1) (h : H1 a = Option.none) (nd : a ≠ d) (nl : a ≠ l) : H a = Option.none := by
  cases e : H a with
  | none => rfl
  | some u =>
    rw [f a u e nd nl] at h
    cases h
end
section
variable {P : Program} {w : World} {K : PySem.W.Frag} {mg : Str → Option Value} {base : Heap}
def spHeft (K : PySem.W.Frag) : Sp := fun vs H Q _ => ∃ (d c l : Addr) (k : Nat), vs = [.ref d] ∧ StAt H d c l k ∧ k ≤ 90000 ∧ ∀ p H' x, Fr x → 0 < x.1 → Sz 10 x → StAt H' d c l (k + 2) → Fm d l H H' → FT K H' p x → Q (.ref p) H'
def spMarks : Sp := fun vs H Q _ => ∃ (d c l : Addr) (k : Nat) (m n : Int), vs = [.ref d, .int m, .int n] ∧ StAt H d c l k ∧ k ≤ 80000 ∧ 0 < m ∧ m ≤ 10 ∧ 0 ≤ n ∧ n ≤ 90 ∧
  ∀ (H' : Hp) (p : Addr) (ns : List Int) (k' : Nat), k' ≤ k + 11 → ns.Pairwise (· < ·) → (∀ a ∈ ns, -n ≤ a ∧ a ≤ n) → (ns.length : Int) ≤ m → 0 < ns.length → StAt H' d c l k' → Fm d l H H' → H p = none → H' p = some (.lst (ns.map V.int)) → Q (.ref p) H'
def spShare (K : PySem.W.Frag) : Sp := fun vs H Q _ => ∃ (d c l : Addr) (k : Nat) (m : Int), vs = [.ref d, .int m] ∧ StAt H d c l k ∧ k ≤ 70000 ∧ 0 < m ∧ m ≤ 8 ∧
  ∀ H' p xs k', k' ≤ k + 40 → Good 10 xs → xs.length ≤ 8 → 0 < xs.length → StAt H' d c l k' → Fm d l H H' → ShZ K H' p xs → Q (.ref p) H'
end
end CS
set_option Elab.async false
set_option maxRecDepth 100000
set_option maxHeartbeats 8000000
set_option linter.unusedVariables false
/-! days, their paths; terms by words, what they pay -/
namespace CS
open PySem L2
abbrev Dys := List (List Int)
def dysD (ds : Dys) : PyData := .tuple (ds.map fun r => .tuple (r.map .int))
structure DysOk (ds : Dys) : Prop where
  len : 1 ≤ ds.length ∧ ds.length ≤ 4
  rows : ∀ r ∈ ds, 1 ≤ r.length ∧ r.length ≤ 8 ∧ r.Pairwise (· < ·) ∧ ∀ a ∈ r, -100 ≤ a ∧ a ≤ 100
  few : (ds.map List.length).foldl (· * ·) 1 ≤ 32
def stepP (ps : List (List Int)) (r : List Int) : List (List Int) := ps.flatMap fun p => r.map fun n => p ++ [n]
def pathsL (ds : Dys) : List (List Int) := ds.foldl stepP [[]]
def rowD_ (p : List Int) : PyData := .tuple (p.map .int)
theorem stepP_len (ps : List (List Int)) (r : List Int) : (stepP ps r).length = ps.length * r.length := by
  unfold stepP
  induction ps with
  | nil => simp
  | cons p ps ih => rw [List.flatMap_cons, List.length_append, ih, List.length_map, List.length_cons, Nat.succ_mul, Nat.add_comm]
theorem paths_len_from (ds : Dys) : ∀ ps : List (List Int), (ds.foldl stepP ps).length = (ds.map List.length).foldl (· * ·) ps.length := by
  induction ds with
  | nil => exact fun _ => rfl
  | cons r ds ih => exact fun ps => by rw [List.foldl_cons, ih, stepP_len]; rfl
theorem paths_len (ds : Dys) : (pathsL ds).length = (ds.map List.length).foldl (· * ·) 1 := paths_len_from ds [[]]
/-! terms -/
inductive Tm
  | cash_ (n : Int) | at_ (d : Nat) | above_ (d : Nat) (n : Int) | below_ (d : Nat) (n : Int) | lowest_ (d : Nat) | highest_ (d : Nat)
  | both_ (s t : Tm) | short_ (s : Tm) | times_ (s : Tm) (n : Int) | lesser_ (s t : Tm) | greater_ (s t : Tm) | cond_ (d : Nat) (n : Int) (s t : Tm)
namespace Tm
def toD : Tm → PyData
  | cash_ n => .tuple [.str "cash", .int n]
  | at_ d => .tuple [.str "at", .int d]
  | above_ d n => .tuple [.str "above", .int d, .int n]
  | below_ d n => .tuple [.str "below", .int d, .int n]
  | lowest_ d => .tuple [.str "lowest", .int d]
  | highest_ d => .tuple [.str "highest", .int d]
  | both_ s t => .tuple [.str "both", s.toD, t.toD]
  | short_ s => .tuple [.str "short", s.toD]
  | times_ s n => .tuple [.str "times", s.toD, .int n]
  | lesser_ s t => .tuple [.str "lesser", s.toD, t.toD]
  | greater_ s t => .tuple [.str "greater", s.toD, t.toD]
  | cond_ d n s t => .tuple [.str "if", .int d, .int n, s.toD, t.toD]
def word : Tm → Str
  | cash_ _ => "cash" | at_ _ => "at" | above_ .. => "above" | below_ .. => "below" | lowest_ _ => "lowest" | highest_ _ => "highest"
  | both_ .. => "both" | short_ _ => "short" | times_ .. => "times" | lesser_ .. => "lesser" | greater_ .. => "greater" | cond_ .. => "if"
def shape : Tm → Str
  | cash_ _ => "N" | at_ _ => "D" | above_ .. => "DN" | below_ .. => "DN" | lowest_ _ => "D" | highest_ _ => "D"
  | both_ .. => "SS" | short_ _ => "S" | times_ .. => "SN" | lesser_ .. => "SS" | greater_ .. => "SS" | cond_ .. => "DNSS"
/-- what stands behind the word -/
def rest : Tm → List PyData
  | cash_ n => [.int n]
  | at_ d => [.int d]
  | above_ d n => [.int d, .int n]
  | below_ d n => [.int d, .int n]
  | lowest_ d => [.int d]
  | highest_ d => [.int d]
  | both_ s t => [s.toD, t.toD]
  | short_ s => [s.toD]
  | times_ s n => [s.toD, .int n]
  | lesser_ s t => [s.toD, t.toD]
  | greater_ s t => [s.toD, t.toD]
  | cond_ d n s t => [.int d, .int n, s.toD, t.toD]
theorem toD_eq (t : Tm) : t.toD = .tuple (.str t.word :: t.rest) := by cases t <;> rfl
/-- the terms in it, with their places -/
def kids : Tm → List (Nat × Tm)
  | both_ s t => [(1, s), (2, t)]
  | short_ s => [(1, s)]
  | times_ s _ => [(1, s)]
  | lesser_ s t => [(1, s), (2, t)]
  | greater_ s t => [(1, s), (2, t)]
  | cond_ _ _ s t => [(3, s), (4, t)]
  | _ => []
def words : Tm → Nat
  | both_ s t => s.words + t.words + 1
  | short_ s => s.words + 1
  | times_ s _ => s.words + 1
  | lesser_ s t => s.words + t.words + 1
  | greater_ s t => s.words + t.words + 1
  | cond_ _ _ s t => s.words + t.words + 1
  | _ => 1
def height : Tm → Nat
  | both_ s t => max s.height t.height + 1
  | short_ s => s.height + 1
  | times_ s _ => s.height + 1
  | lesser_ s t => max s.height t.height + 1
  | greater_ s t => max s.height t.height + 1
  | cond_ _ _ s t => max s.height t.height + 1
  | _ => 1
def okN (n : Int) : Prop := -1000 ≤ n ∧ n ≤ 1000
/-- its integers are as told -/
def Ok : Tm → Prop
  | cash_ n => okN n
  | at_ d => d ≤ 3
  | above_ d n => d ≤ 3 ∧ okN n
  | below_ d n => d ≤ 3 ∧ okN n
  | lowest_ d => d ≤ 3
  | highest_ d => d ≤ 3
  | both_ s t => s.Ok ∧ t.Ok
  | short_ s => s.Ok
  | times_ s n => s.Ok ∧ okN n
  | lesser_ s t => s.Ok ∧ t.Ok
  | greater_ s t => s.Ok ∧ t.Ok
  | cond_ d n s t => d ≤ 3 ∧ okN n ∧ s.Ok ∧ t.Ok
def g0 (w : List Int) (d : Nat) : Int := w.getD d 0
def minL : List Int → Int
  | [] => 0
  | a :: l => l.foldl min a
def maxL : List Int → Int
  | [] => 0
  | a :: l => l.foldl max a
def pays (w : List Int) : Tm → Int
  | cash_ n => n
  | at_ d => g0 w d
  | above_ d n => max 0 (g0 w d - n)
  | below_ d n => max 0 (n - g0 w d)
  | lowest_ d => minL (w.take (d + 1))
  | highest_ d => maxL (w.take (d + 1))
  | both_ s t => s.pays w + t.pays w
  | short_ s => -s.pays w
  | times_ s n => s.pays w * n
  | lesser_ s t => min (s.pays w) (t.pays w)
  | greater_ s t => max (s.pays w) (t.pays w)
  | cond_ d n s t => if g0 w d > n then s.pays w else t.pays w
/-- the day that it names -/
def day : Tm → Option Nat
  | at_ d => some d
  | above_ d _ => some d
  | below_ d _ => some d
  | lowest_ d => some d
  | highest_ d => some d
  | cond_ d .. => some d
  | _ => none
/-- its own fault: a day that is not there, a payment that is too great -/
def badDay (n : Nat) (t : Tm) : Bool := match t.day with
  | some d => decide (n ≤ d)
  | none => false
def great (ws : List (List Int)) (t : Tm) : Bool := ws.any fun w => !decide (-10000 ≤ t.pays w ∧ t.pays w ≤ 10000)
def own (n : Nat) (ws : List (List Int)) (t : Tm) (p : List Int) : Option (List Int) := if t.badDay n then some p else if t.great ws then some p else none
def fault (n : Nat) (ws : List (List Int)) : Tm → List Int → Option (List Int)
  | both_ s t, p => match s.fault n ws (p ++ [((1 : Nat) : Int)]) with
    | some f => some f
    | none => match t.fault n ws (p ++ [((2 : Nat) : Int)]) with
      | some f => some f
      | none => own n ws (both_ s t) p
  | short_ s, p => match s.fault n ws (p ++ [((1 : Nat) : Int)]) with
    | some f => some f
    | none => own n ws (short_ s) p
  | times_ s m, p => match s.fault n ws (p ++ [((1 : Nat) : Int)]) with
    | some f => some f
    | none => own n ws (times_ s m) p
  | lesser_ s t, p => match s.fault n ws (p ++ [((1 : Nat) : Int)]) with
    | some f => some f
    | none => match t.fault n ws (p ++ [((2 : Nat) : Int)]) with
      | some f => some f
      | none => own n ws (lesser_ s t) p
  | greater_ s t, p => match s.fault n ws (p ++ [((1 : Nat) : Int)]) with
    | some f => some f
    | none => match t.fault n ws (p ++ [((2 : Nat) : Int)]) with
      | some f => some f
      | none => own n ws (greater_ s t) p
  | cond_ d m s t, p => match s.fault n ws (p ++ [((3 : Nat) : Int)]) with
    | some f => some f
    | none => match t.fault n ws (p ++ [((4 : Nat) : Int)]) with
      | some f => some f
      | none => own n ws (cond_ d m s t) p
  | t, p => own n ws t p
/-- the first fault of some terms at their places -/
def faults (n : Nat) (ws : List (List Int)) (p : List Int) : List (Nat × Tm) → Option (List Int)
  | [] => none
  | (i, t) :: r => match t.fault n ws (p ++ [(i : Int)]) with
    | some f => some f
    | none => faults n ws p r
theorem fault_kids (n : Nat) (ws : List (List Int)) (t : Tm) (p : List Int) : t.fault n ws p = match faults n ws p t.kids with
    | some f => some f
    | none => own n ws t p := by
  cases t <;> simp only [fault, kids, faults]
  all_goals (repeat' split)
  all_goals (first | rfl | simp_all)
theorem kids_height {t : Tm} : ∀ k ∈ t.kids, k.2.height < t.height := by
  cases t <;> (intro k hk; simp only [kids, List.mem_cons, List.not_mem_nil, or_false] at hk)
  all_goals (first | ((rcases hk with rfl | rfl <;> simp only [height] <;> omega)) | (rcases hk with rfl; simp only [height]; omega))
theorem kids_ok {t : Tm} (h : t.Ok) : ∀ k ∈ t.kids, k.2.Ok := by
  cases t <;> (intro k hk; simp only [kids, List.mem_cons, List.not_mem_nil, or_false] at hk)
  all_goals (simp only [Ok] at h)
  all_goals (first | (rcases hk with rfl | rfl <;> simp_all) | (rcases hk with rfl; simp_all))
theorem kids_words {t : Tm} : (t.kids.map fun k => k.2.words).sum + 1 = t.words := by
  cases t <;> simp [kids, words] <;> omega
theorem kids_at {t : Tm} : ∀ k ∈ t.kids, (PyData.str t.word :: t.rest)[k.1]? = some k.2.toD := by
  cases t <;> (intro k hk; simp only [kids, List.mem_cons, List.not_mem_nil, or_false] at hk)
  all_goals (first | (rcases hk with rfl | rfl <;> rfl) | (rcases hk with rfl; rfl))
end Tm
end CS
set_option Elab.async false
set_option maxRecDepth 100000
set_option maxHeartbeats 4000000
set_option linter.unusedVariables false
/-! a list comprehension whose element may raise: the error leaves the block, its own names are let go, it flies on in the def -/
namespace CS
open PySem PySem.Spec PyProof.Rows L2
section
variable {M : Model} {A : Around} {E : Value → Shared → Prop} {env : Env} {s : Shared}
/-- behind the block: told, or an error that flies on from the block's frame fr -/
def Behind (M : Model) (A : Around) (E : Value → Shared → Prop) (Q : Value → Shared → Prop) (got : Value) (C : Addr) (fr : Option Addr) : Result → Shared → Prop
  | .ok _, t => ∃ m, t.heap.Ns C m ∧ ∀ h', Heap.SameBut C t.heap h' → Q got { t with heap := h' }
  | .error x, t => ∃ m, t.heap.Ns C m ∧ ∀ h', Heap.SameBut C t.heap h' → ∀ ce : Env, ce.frame = fr → wpAny M A (PySem.passOn "comprehension.variables-let-go" x ce : Sem Value) (fun _ _ => False) E { t with heap := h' }
theorem comp_out {ex : Expr} {sc : Scope} {pos : PySem.Pos} {mk one : Sem Value} {g : Comprehension} {gs : List Comprehension} {cl : List (Str × Addr)} {Q : Value → Shared → Prop} (h1 : clausesOf ex = g :: gs) (h2 : ∀ x, foldedSetIterable g.iter env x = pure x) (h3 : closureFor sc env = pure cl)
    (h4 : sc.kind = .function) (h5 : ∀ x ∈ sc.names, x.2 = .local → sc.names.lookup x.1 = some .local)
    (h : wpAny M A one (fun x t1 => wpAny M A (pyIter x) (fun it t2 => wpAny M A mk (fun got t3 => wpAny M A (newFunctionEnv sc env.globals cl [] env.qual none .none (some env))
      (fun ce t4 => ce.frame = env.frame ∧ codeAny M A (.compStart ex 0 it got { ce with scope := relabel sc env }) (Behind M A E Q got ce.locals env.frame) t4) E t3) E t2) E t1) E s) :
    wpAny M A (comprehension ex sc env pos mk false one none) Q E s := by
  unfold comprehension
  rw [h3, h1]
  have id_ : ∀ (v : Value) (t : Shared), E v t → E v t := fun _ _ z => z
  refine wpAny_bind (wpAny_mono h (fun x t1 q1 => ?_) id_)
  refine wpAny_bind (wpAny_standAt (wpAny_bind (wpAny_of_eq (h2 x) (wpAny_bind (wpAny_holding (wpAny_mono q1 (fun it t2 q2 => ?_) id_))))))
  refine wpAny_standIf (wpAny_bind (wpAny_mono q2 (fun got t3 q3 => ?_) id_))
  refine wpAny_bind (wpAny_pure (wpAny_bind (wpAny_mono q3 (fun ce t4 q4 => ?_) id_)))
  obtain ⟨fr, q4⟩ := q4
  dsimp only
  have own : ∀ x ∈ (sc.names.filter fun x => (x.2 == .local || x.2 == .cell) && x.1 != (".0" : Str)).reverse, x.2 = .local → Env.kindOf { ce with scope := relabel sc env } x.1 = some .local := fun x hx hl =>
    lookup_relabel_local (h5 x (List.mem_filter.mp (List.mem_reverse.mp hx)).1 hl)
  refine wpAny_holding (wpAny_bind (wpAny_attempt (wpAny_holding (wpAny_run (codeAny_mono q4 fun r t hr => ?_)))))
  cases r with
  | ok f =>
    obtain ⟨m, hn, k⟩ := hr
    exact wpAny_bind (wpAny_holding (wpAny_comp_letGo (cenv := { ce with scope := relabel sc env }) h4 _ t m own hn fun h' m' _ sb => wpAny_pure (k h' sb)))
  | error x =>
    obtain ⟨m, hn, k⟩ := hr
    exact wpAny_bind (wpAny_holding (wpAny_comp_letGo (cenv := { ce with scope := relabel sc env }) h4 _ t m own hn fun h' m' _ sb => wpAny_mono (k h' sb _ fr) (fun _ _ z => z.elim) id_))
end
section
variable {X : Cx} {pins : List (Addr × Obj)} {σ : L2.St} {H : Hp} {s s' : Shared} {E : XK}
theorem inv_xe (I : Inv X pins σ H s) (xe : Value → Shared → Prop) : Inv (X.tr X.pn xe) pins σ H s := ⟨I.ok.toTry X.pn xe, I.os, I.bare, I.base, I.loc, I.cell, I.free, I.freeC, I.pin, I.hok, I.len⟩
theorem inv_ex {xe : Value → Shared → Prop} (I : Inv (X.tr X.pn xe) pins σ H s) : Inv X pins σ H s := ⟨Cx.Ok.ofTry I.ok, I.os, I.bare, I.base, I.loc, I.cell, I.free, I.freeC, I.pin, I.hok, I.len⟩
/-- an error in the air of the block Y, come out of a call -/
def airE (Y : Cx) (E : XK) (u : Value) (t : Shared) : Prop :=
  XE Y (fun c d _ H => E c d H) u t ∧ ∃ (a : Addr) (B : Heap) (cls : Value) (d : Option Addr), u = .ref a ∧ HandSPX.FlyingZ B Y.stack a (Zc cls d) t.heap
abbrev inAir (Y : Cx) (E : XK) : Cx := Y.tr Y.pn (airE Y E)
theorem passes_air {Y : Cx} {E E1 : XK} (hW : ∀ cls d H, E1 cls d H → E cls d H) : ∀ (pins : List (Addr × Obj)) (σ : L2.St) (H : Hp) (s : Shared) (e : Value) (t : Shared), Inv (inAir Y E) pins σ H s → L2.CX Y.prog Y.w Y.stack H s E1 e t → airE Y E e t := fun pins σ H s e t I c =>
  ⟨XE.of_call (X := Y) (inv_ex I) (fun cls d H' h => hW _ _ _ h) c, by
    obtain ⟨a, B, H', cls, d, e1, fl, _⟩ := c
    exact ⟨a, B, cls, d, e1, fl⟩⟩
theorem frames_but {h h' B G : Heap} {C : Addr} (hb : ∀ b, b ≠ C → h'.get? b = h.get? b) (hg : ∀ b, b ≠ C → G.get? b = B.get? b) : ∀ {l : List Env}, C ∉ frs l → h.FunFrames B l → h'.FunFrames G l
  | [], _, _ => trivial
  | env :: rest, n, q => by
    obtain ⟨k, ⟨L, o, fr, no, here, dt⟩, r⟩ := q
    have nf : frs (env :: rest) = L :: frs rest := by simp [frs, List.filterMap_cons, fr]
    rw [nf] at n
    have nL : L ≠ C := fun z => n (z ▸ List.mem_cons_self)
    exact ⟨k, ⟨L, o, fr, by rw [hg L nL]; exact no, by rw [hb L nL]; exact here, dt⟩, frames_but hb hg (fun z => n (List.mem_cons_of_mem _ z)) r⟩
/-- an error that is in the air of the block comes behind it -/
theorem air_behind {s3 t : Shared} {H3 : Hp} {scope : Scope} {ce : Env} {fp : List Addr} {u : Value} {Q : Value → Shared → Prop} {got : Value} {E0 : Value → Shared → Prop} (tk : Takes X (fun c d _ H => E c d H)) (I3 : Inv X pins σ H3 s3) (hcL : ce.locals = s3.heap.objs.size) (hcf : ce.frame = X.env.frame)
    (hs : X.stack = X.env :: X.outer) (hfX : X.env.frame = some X.env.locals) (f3 : ∀ b ∈ fp, FpOk X pins H3 b) (air : airE (X.blk s3 H3 scope ce fp) E u t) :
    wpAny (model X.prog X.w) X.A (noteFrame u ce) (fun _ t' => Behind (model X.prog X.w) X.A X.xe Q got s3.heap.objs.size X.env.frame (.error u) t') E0 t := by
  obtain ⟨⟨a, B, sI, pI, σI, HI, cls, d, rfl, I, nb, up, sky, na, os, ag, w⟩, a2, B2, cls2, d2, e2, fl2⟩ := air
  cases e2
  have fl : HandSPX.FlyingZ B X.stack a (Zc cls d) t.heap := by
    obtain ⟨_, _, _, oe2, vs2, T2, oT2, ts2, he2, _, hd2, h12, _, _, hT2, hdT2, h32⟩ := fl2
    rcases sky with ⟨_, _, _, oe, vs, he, _, hd, h1⟩ | fl | ⟨_, _, _, oe, vs, T, oT, ts, he, _, hd, h1, _, _, hT, hdT, h3⟩
    · rw [he] at he2
      cases he2
      rw [hd] at hd2
      cases hd2
      rw [h1] at h12
      cases h12
    · exact fl
    · rw [he] at he2
      cases he2
      rw [hd] at hd2
      cases hd2
      rw [h1] at h12
      cases h12
      rw [hT] at hT2
      cases hT2
      rw [hdT] at hdT2
      cases hdT2
      rw [h3] at h32
      cases h32
  have en : noteFrame (.ref a) ce = noteFrame (.ref a) X.env := by
    unfold noteFrame PySem.frameOf
    rw [hcf]
  rw [en]
  have hfr : X.A.frames = some (X.env :: X.outer) := by rw [I3.ok.frames, hs]
  rw [hs] at fl
  refine HandSPX.looks_onZ Zc.steady hfr hfX fl fun h1 hh up1 => ?_
  obtain ⟨m, hn, _⟩ := I.loc
  have hn : sI.heap.Ns s3.heap.objs.size m := hcL ▸ hn
  have hn1 := up1.ns (up.ns hn)
  refine ⟨m, hn1, fun h' sb ce2 fr2 => ?_⟩
  have nC : HI s3.heap.objs.size = none := by
    have z : HI ce.locals = none := I.free
    rw [hcL] at z
    exact z
  obtain ⟨f0, f1, f2, f4, f5, f6⟩ := I3.fpOk (b := s3.heap.objs.size) (Nat.le_refl _) nC
  generalize hC : s3.heap.objs.size = C at *
  have nst : C ∉ frs (X.env :: X.outer) := fun z => by
    rw [show frs (X.env :: X.outer) = X.env.locals :: X.fs from by simp [frs, List.filterMap_cons, hfX]] at z
    rcases List.mem_cons.mp z with z | z
    · exact f1 z
    · exact f2 z
  obtain ⟨b1, b2, b3, oe, vs, T, oT, ts, he, hz, hd, h1', hnT, hTe, hT, hdT, h3⟩ := hh
  have rec_ : ∀ b o vs, h1.get? b = some o → o.data = .fields vs → b ≠ C := fun b o vs e ed z => by
    obtain ⟨o2, es, ep, ho, q, _⟩ := hn1
    rw [z, ho] at e
    cases e
    rw [q] at ed
    cases ed
  have naC := rec_ _ _ _ he hd
  have nTC := rec_ _ _ _ hT hdT
  obtain ⟨G, g1, g2⟩ := L2.restrict B (fun b => decide (b ≠ C))
  have gg : ∀ b, b ≠ C → G.get? b = B.get? b := fun b n => g1 b (decide_eq_true n)
  have gs : ∀ b o, G.get? b = some o → b ≠ C ∧ B.get? b = some o := fun b o e => by
    by_cases n : b = C
    · rw [g2 b (decide_eq_false (fun z => z n))] at e
      cases e
    · exact ⟨n, by rw [← gg b n]; exact e⟩
  have hh2 : HandSPX.HeldZ G (X.env :: X.outer) a (Zc cls d) X.env.locals h' :=
    ⟨fun b o e => by rw [sb.2 b (gs b o e).1]; exact b1 b o (gs b o e).2, by rw [gg a naC]; exact b2, frames_but sb.2 gg nst b3, oe, vs, T, oT, ts, by rw [sb.2 a naC]; exact he, hz, hd, h1', by rw [gg T nTC]; exact hnT, hTe, by rw [sb.2 T nTC]; exact hT, hdT, h3⟩
  unfold PySem.passOn
  refine wpAny_bind (wpAny_field (s := { t with heap := h' }) (by rw [sb.2 a naC]; exact he) hd h1' ?_)
  rw [if_neg (by simp)]
  rw [fr2, hfX]
  refine wpAny_bind (HandSPX.setFlight_onZ hh2 fun h2 hh3 up3 => ?_)
  refine wpAny_throw (tk _ _ ?_)
  obtain ⟨S, p1, p2⟩ := L2.restrict sI.heap (fun b => decide (b ≠ C))
  have ss : ∀ b o, S.get? b = some o → b ≠ C ∧ sI.heap.get? b = some o := fun b o e => by
    by_cases n : b = C
    · rw [p2 b (decide_eq_false (fun z => z n))] at e
      cases e
    · exact ⟨n, by rw [← p1 b (decide_eq_true n)]; exact e⟩
  have I7 : Inv X pins σ HI sI := I3.call' (ch := fp) I.os I.base I.hok I.bare fun b hb => ⟨(f3 b hb).2.2.2.1, (f3 b hb).2.1, (f3 b hb).2.2.2.2.1, (f3 b hb).2.2.2.2.2⟩
  refine ⟨a, G, { sI with heap := S, toks := sI.toks }, pins, σ, HI, cls, d, rfl, I7.turned (it := C) (t' := sI.toks) (fun b o nb2 e => by rw [p1 b (decide_eq_true nb2)]; exact e) f0 f1 f4 f5 f6, fun b o e nf => ?_, fun b o e nd => ?_, .inr (.inr (hs ▸ hh3)), na, os, ag, w⟩
  · obtain ⟨n, e⟩ := ss b o e
    rw [gg b n]
    exact nb b o e nf
  · obtain ⟨n, e⟩ := ss b o e
    obtain ⟨sl, e1⟩ := up b o e nd
    obtain ⟨sl2, e2⟩ := up1 b _ e1 nd
    obtain ⟨sl3, e3⟩ := up3 b _ ((sb.2 b n).trans e2) nd
    exact ⟨sl3, e3⟩
end
section
variable {Y : Cx} {E : XK} {fp : List Addr} {tn : Nat → Heap → Prop} {J : It} {it D : Addr} {elt tg iter : Expr} {ifs : List Expr} {scope : Scope} {pos : PySem.Pos} {g : TG} {tt : TT} {te : TE} {τ : L2.St} {vs : List Nat} {W : Nat → Nat → Hp → Prop} {Zq : Hp → Prop} {R : Result → Shared → Prop}
/-- what is owed at turn i, with m left: the walk stands at its end, or gives x, and the block puts what it makes of x behind the list at D -/
def DueL (J : It) (g : TG) (tt : TT) (te : TE) (τ : L2.St) (vs : List Nat) (D : Addr) (W : Nat → Nat → Hp → Prop) (Z : Hp → Prop) : Prop :=
  ∀ i m H, W i m H → (J.stop i H ∧ Z H) ∨ (J.go i H ∧ ∃ N : Hp → Prop, (∀ G, N G → ∃ j, j < m ∧ W (i + 1) j G) ∧ ∀ x H', J.yld i H x H' → g x τ H' fun ρ H2 => wipe ρ vs = τ ∧ tt ρ H2 fun b H3 =>
    if b = true then te ρ H3 fun y H4 => ∃ zs, H4 D = some (.lst zs) ∧ zs.length < sizeLine ∧ N (upd H4 D (.lst (zs ++ [y]))) else N H3)
theorem due_list (calm : Y.calm = true) (T : Turn Y.prog Y.w Y.K tg J fp it tn) (pg : PG (inAir Y E) tg g) (pt : PTs (inAir Y E) ifs tt) (pe : PE (inAir Y E) elt te)
    (fok : ∀ {σ' H' s'}, Inv Y [] σ' H' s' → (∀ b ∈ fp, H' b = none) → ∀ b ∈ fp, FpOk Y [] H' b) (air : ∀ {u t}, airE Y E u t → notedBy (model Y.prog Y.w) Y.A Y.env (fun e t' => R (.error e) t') u t)
    (due : DueL J g tt te τ vs D W Zq) (fin : ∀ {s H}, Inv Y [] τ H s → Zq H → R (.ok .next) s) {m : Nat} {s : Shared} {H : Hp} (I : Inv Y [] τ H s) (t0 : tn 0 s.heap) (n0 : ∀ b ∈ fp, H b = none) (w0 : W 0 m H) :
    codeAny (model Y.prog Y.w) Y.A (.compLoop (.ListComp elt [⟨tg, iter, ifs, 0⟩] scope pos) 0 (.ref it) (.ref D) Y.env) R s := by
  have aired : ∀ {α : Type} {m : Sem α} {Q Q' : α → Shared → Prop} {t : Shared}, wpAny (model Y.prog Y.w) Y.A m Q (airE Y E) t → (∀ a s, Q a s → Q' a s) → wpAny (model Y.prog Y.w) Y.A m Q' (notedBy (model Y.prog Y.w) Y.A Y.env fun e t' => R (.error e) t') t := fun h k => wpAny_mono h k fun _ _ z => air z
  refine compLoop_any (fun left t => ∃ i G, Inv Y [] τ G t ∧ tn i t.heap ∧ (∀ b ∈ fp, G b = none) ∧ W i left G) (fun left t ⟨i, G, IG, tG, nG, wG⟩ => ?_) m ⟨0, H, I, t0, n0, w0⟩
  rcases due i left G wG with ⟨stop, z⟩ | ⟨go, N, less, each⟩
  · refine thnF (T.done Y rfl rfl rfl calm i [] t τ G (fun _ _ => False) IG (fok IG nG) tG stop) fun r t1 ⟨er, I1⟩ => ?_
    rw [er]
    exact fin I1 z
  refine thnF (T.item Y rfl rfl rfl calm i [] t τ G (fun _ _ => False) IG (fok IG nG) tG go) fun r t1 ⟨u, er, h1⟩ => ?_
  rw [er]
  refine thnF h1 fun _ t2 ⟨x, G2, I2, rx, y2, tn2, n2⟩ => ?_
  have I2p : Inv Y ([] ++ pinsAt fp t2.heap) τ G2 t2 := I2.pinned (fok I2 n2) (T.obj _ _ tn2)
  have next : ∀ {t' : Shared} {ρ : L2.St} {G' : Hp} {j : Nat}, Inv Y ([] ++ pinsAt fp t2.heap) ρ G' t' → wipe ρ vs = τ → W (i + 1) j G' → ∃ i G, Inv Y [] τ G t' ∧ tn i t'.heap ∧ (∀ b ∈ fp, G b = none) ∧ W i j G := fun {t' ρ G' j} I' ew w' => by
    have still : ∀ b ∈ fp, ∀ o, t2.heap.get? b = some o → t'.heap.get? b = some o ∧ G' b = none := fun b hb o e => by
      have p := I'.pin (b, o) (List.mem_append_right _ (List.mem_append_right _ (mem_pinsAt hb e)))
      exact ⟨p.1, p.2.1⟩
    refine ⟨i + 1, G', Inv.weak (I'.unpinned (pins := [])) (by rw [← ew, wipe_length]) (fun a v e => ?_), ?_, fun b hb => ?_, w'⟩
    · exact (wipe_some (ew ▸ e)).1
    · exact T.keep _ _ _ tn2 fun b hb o e => (still b hb o e).1
    · obtain ⟨o, e, _⟩ := T.obj _ _ tn2 b hb
      exact (still b hb o e).2
  refine aired (pg.run _ t2 _ G2 x u _ (inv_xe I2p _) rx (each x G2 y2)) fun _ t3 ⟨ρ, G3, I3, ew, q3⟩ => ?_
  refine aired (pt.run _ t3 ρ G3 _ I3 q3) fun b t4 ⟨G4, I4, q4⟩ => ?_
  dsimp only at q4
  by_cases hb : b = true
  · rw [if_pos hb] at q4 ⊢
    refine aired (pe.run _ t4 ρ G4 _ I4 q4) fun v t5 ⟨y, G5, I5, ry, zs, hD, room, w5⟩ => ?_
    obtain ⟨j, hj, w'⟩ := less _ w5
    exact app_ok (inv_ex I5) hD room ry fun t6 I6 => ⟨j, hj, next I6 ew w'⟩
  · rw [if_neg hb] at q4 ⊢
    obtain ⟨j, hj, w'⟩ := less _ q4
    exact ⟨j, hj, next (inv_ex I4) ew w'⟩
end
section
variable {X : Cx} {E : XK} {elt tg iter : Expr} {ifs : List Expr} {scope : Scope} {own : List (PySem.Str × Nat)} {pos : PySem.Pos} {wi : TI} {g : TG} {tt : TT} {te : TE}
/-- [elt for target in iter if ..], where the element may raise what E lets go -/
theorem pe_lcE (tk : Takes X (fun c d _ H => E c d H)) (hs : X.stack = X.env :: X.outer) (hf : X.env.frame = some X.env.locals) (calm : X.calm = true) (nd : X.N.Nodup) (hi : PI X tg iter wi) (ok : BlkOk X.N X.env.scope scope own)
    (hg : ∀ (s : Shared) (H : Hp) (C : Addr) (cl : List (PySem.Str × Addr)) (fp : List Addr), PG (inAir (X.blk s H scope (compEnvC scope cl C X.env) fp) E) tg g) (ht : ∀ (s : Shared) (H : Hp) (C : Addr) (cl : List (PySem.Str × Addr)) (fp : List Addr), PTs (inAir (X.blk s H scope (compEnvC scope cl C X.env) fp) E) ifs tt)
    (he : ∀ (s : Shared) (H : Hp) (C : Addr) (cl : List (PySem.Str × Addr)) (fp : List Addr), PE (inAir (X.blk s H scope (compEnvC scope cl C X.env) fp) E) elt te) (fold : ∀ x, foldedSetIterable iter X.env x = pure x := by intro _; rfl) :
    PE X (.ListComp elt [⟨tg, iter, ifs, 0⟩] scope pos) (tLc wi g tt te (own.map (·.2))) := by
  refine ⟨fun pins s σ H Q I h => ?_⟩
  rw [eval_ListComp]
  have clo : closureFor scope X.env = pure (cloFrom X.env.cells scope.names []) := closure_ok fun y hy e => (ok.free y hy e).elim (fun k => I.ok.has _ (.inl k)) fun k => I.ok.has _ (.inr k)
  refine comp_out rfl fold clo ok.kind (fun y hy e => e ▸ ok.uniq y hy) (thn (hi.run pins s σ H _ I h) fun _ _ h1 => thn h1 fun _ s2 ⟨it, fp, tn, J, H2, ev, I2, T, t0, f2, q⟩ => ?_)
  subst ev
  refine wpAny_newObj_type (newEnv_comp ⟨rfl, ?_⟩) (by show 0 ≤ sizeLine; decide)
  obtain ⟨W, ⟨m, w0⟩, due⟩ := q s2.heap.objs.size (I2.hok.fresh (Nat.le_refl _))
  have lay : ∃ D H3 s3, D = s2.heap.objs.size ∧ H3 = upd H2 D (.lst []) ∧ s3 = ({ s2 with heap := s2.heap.push { cls := .type "list", dict := none, data := .seq ([] : List Value).toArray } } : Shared) := ⟨_, _, _, rfl, rfl, rfl⟩
  obtain ⟨D, H3, s3, eD, eH, es⟩ := lay
  rw [← eD, ← eH] at w0
  rw [← eD] at due
  rw [← eD, ← es]
  have kept : ∀ b o, s2.heap.get? b = some o → s3.heap.get? b = some o := fun b o e => by rw [es]; exact Heap.get?_push_of_some _ e
  have I3 : Inv X pins σ H3 s3 := by
    rw [eH, es, eD]
    exact I2.laid (t' := s2.toks) (fun b o e => Heap.get?_push_of_some _ e) (Nat.le_refl _) ⟨Nat.zero_le _, [], 0, .nil, Heap.get?_push_size _ rfl⟩
  have small : ∀ b ∈ fp, b < s2.heap.objs.size := fun b hb => (T.obj _ _ t0 b hb).elim fun o z => Heap.lt_size z.1
  have f3 : ∀ b ∈ fp, FpOk X pins H3 b ∧ b < s3.heap.objs.size := fun b hb => by
    refine ⟨⟨?_, (f2 b hb).2⟩, ?_⟩
    · rw [eH, upd_ne (by rw [eD]; exact Nat.ne_of_lt (small b hb))]
      exact (f2 b hb).1
    · rw [es]
      show b < (s2.heap.push _).objs.size
      rw [Heap.size_push]
      exact Nat.lt_succ_of_lt (small b hb)
  have I4 := block_start I3 ok nd f3
  have tn4 : tn 0 (pushCells (s3.heap.push { cls := .type "dict", data := .dict #[] }) scope.names) := T.keep _ _ _ t0 fun b _ o e => pushCells_keeps _ _ _ _ (Heap.get?_push_of_some _ (kept b o e))
  refine codeAny_compStart_list ?_ (T.self X.A 0 _ _ _ tn4 ?_)
  all_goals
    refine due_list (Y := X.blk s3 H3 scope (compEnvC scope (cellsFrom (s3.heap.objs.size + 1) scope.names (cloFrom X.env.cells scope.names [])) s3.heap.objs.size X.env) fp) (E := E) calm T (hg ..) (ht ..) (he ..) (fun {σ' H' s'} I' n b hb => ?_) (fun {u t} z => ?_) due (fun {s' H'} I' z => ?_) I4 tn4 (fun b hb => (f3 b hb).1.1) w0
    · exact ⟨n b hb, (I'.ok.exf b hb).1, I'.ok.exfs b hb, .inl hb, fun x c e => (I'.ok.exf b hb).2 x c e, fun p hp => nomatch (show p ∈ ([] : List (Addr × Obj)) from hp)⟩
    · exact air_behind tk I3 rfl rfl hs hf (fun b hb => (f3 b hb).1) z
    · have nC : H' s3.heap.objs.size = none := I'.free
      have back : Inv X pins σ H' s' := I3.call' (ch := fp) I'.os I'.base I'.hok I'.bare fun b hb => ⟨(f3 b hb).1.2.2.2.1, (f3 b hb).1.2.1, (f3 b hb).1.2.2.2.2.1, (f3 b hb).1.2.2.2.2.2⟩
      obtain ⟨j, hj, _⟩ := I'.loc
      refine ⟨j, hj, fun h2 sb => ?_⟩
      obtain ⟨c0, c1, c2, c3, c4, c5⟩ := I3.fpOk (Nat.le_refl _) nC
      exact ⟨.ref D, H', back.turned (t' := s'.toks) (fun b o hb e => (sb.2 b hb).trans e) c0 c1 c3 c4 c5, rfl, z⟩
end
end CS
set_option Elab.async false
set_option maxRecDepth 100000
set_option maxHeartbeats 8000000
set_option linter.unusedVariables false
set_option pp.maxSteps 400
/-! enumerate(x, start=k), x a text -/
namespace CS
open PySem PySem.Spec PyProof.Rows L2
section
variable {M : Model} {A : Around} {E : Value → Shared → Prop} {s : Shared} {env : Env}
theorem kw_of_type {pos : PySem.Pos} {T : String} {e : Expr} {kws : List Keyword} {Q : Value → Shared → Prop} (st : starEach [e] env = [(false, eval e env)]) (named : (backToKw pos (keywordEach kws env)).all (·.1.isSome) = true) (noneless : (backToKw pos (keywordEach kws env)).any (·.1.isNone) = false)
    (h : wpAny M A (spliced (backTo pos (starEach [e] env))) (fun vs t1 => wpAny M A (evalAll ((backToKw pos (keywordEach kws env)).map (·.2))) (fun ks t2 => wpAny M A (call (.type T) vs (((backToKw pos (keywordEach kws env)).filterMap (·.1)).zip ks)) Q E t2) E t1) E s) :
    wpAny M A (callWith pos (.type T) [] (backTo pos (starEach [e] env)) (backToKw pos (keywordEach kws env))) Q E s := by
  rw [st] at h ⊢
  have ev : wpAny M A (evalArgs (.type T) true (backTo pos [(false, eval e env)]) (backToKw pos (keywordEach kws env))) (fun a t => wpAny M A (call (.type T) ([] ++ a.pos) a.kw) Q E t) E s := evalArgs_kwB (rest := []) named h
  unfold callWith
  refine wpAny_bind (wpAny_holding (wpAny_mono ev (fun a t k => wpAny_bind (wpAny_standAt ?_)) fun _ _ z => z))
  simp only [show (backTo pos [(false, eval e env)]).any (·.1) = false from rfl, noneless, Bool.or_false]
  refine wpAny_bind (wpAny_pure ?_)
  exact wpAny_bind (wpAny_mono k (fun r t2 q => wpAny_bind (wpAny_holding (wpAny_point (wpAny_pure q)))) fun _ _ z => z)
end
/-- the walk: (k + i, the sign i) -/
def IteS (x : Str) (k : Int) : It where
  go i _ := i < x.cps.size
  yld i H v H' := ∃ T c, v = .ref T ∧ H T = none ∧ H' = upd H T (.tup [.int (k + (i : Nat)), .str ⟨#[c]⟩]) ∧ x.cps[i]? = some c
  stop i _ := i = x.cps.size
def EsAt (x : Str) (t : Tok) (k : Int) (e it : Addr) (i : Nat) (h : Heap) : Prop := (∃ old, IsEnum h e it (k + ((i : Nat) : Int)) old) ∧ h.IsStrIter it (strIterType x) x t i ∧ e ≠ it
theorem EsAt.lt {x : Str} {t : Tok} {k : Int} {e it : Addr} {i : Nat} {h : Heap} (st : EsAt x t k e it i h) : e < h.objs.size ∧ it < h.objs.size := by
  obtain ⟨⟨_, he⟩, ⟨_, hi, _⟩, _⟩ := st
  exact ⟨Heap.lt_size he, Heap.lt_size hi⟩
theorem enumS_turn {P : Program} {w : World} {K : PySem.W.Frag} {elts : List Expr} {kk : Nat} {tpos : PySem.Pos} (x : Str) (t : Tok) (k : Int) (e it : Addr) : Turn P w K (.Tuple elts kk tpos) (IteS x k) [e, it] e (EsAt x t k e it) where
  mem := List.mem_cons_self
  obj i h st b hb := by
    obtain ⟨⟨_, he⟩, ⟨o, hi, _, hd⟩, _⟩ := st
    rcases List.mem_cons.mp hb with rfl | hb
    · exact ⟨_, he, fun v q => nomatch q⟩
    · rw [List.mem_singleton.mp hb]
      exact ⟨o, hi, fun v q => by rw [hd] at q; cases q⟩
  keep i h h' st k1 := by
    obtain ⟨⟨old, he⟩, hi, ne⟩ := st
    exact ⟨⟨old, k1 e (by simp) _ he⟩, (let ⟨o, ho, r⟩ := hi; ⟨o, k1 it (by simp) o ho, r⟩), ne⟩
  item := by
    intro X e1 e2 e3 calm i pins s σ H E I fok st less
    subst e1 e2 e3
    have lt := st.lt
    obtain ⟨⟨old, he⟩, hi, ne⟩ := st
    refine wpAny_pyNext_enum_itemC (Draws.text (A := X.A.in1) (I.ok.hd calm) it x t) he hi less ne (by simp [ne]) fun v h1 tk hv he1 hi1 hT1 sz k1 => ?_
    obtain ⟨c, u, hc, rfl⟩ := hv
    refine ⟨_, rfl, wpAny_letOwnedTupleGo_enum (s := { s with heap := h1, toks := tk + 1 }) he1 fun h2 he2 sb => ?_⟩
    have apart : s.heap.objs.size ≠ e := Nat.ne_of_gt lt.1
    have there : h2.get? s.heap.objs.size = some { cls := .type "tuple", data := .seq #[.int (k + (i : Nat)) tk, .str ⟨#[c]⟩ u] } := (sb.2 _ apart).trans hT1
    have kept : ∀ b ob, b ∉ [e, it] → s.heap.get? b = some ob → h2.get? b = some ob := fun b ob nb q => (sb.2 b fun z => nb (by simp [z])).trans (k1 b ob (fun z => nb (by simp [z])) (fun z => nb (by simp [z])) q)
    have I2 := I.turnedNew (t' := tk + 1) (ch := [e, it]) (T := s.heap.objs.size) (ob := .tup [.int (k + (i : Nat)), .str ⟨#[c]⟩]) kept fok (Nat.le_refl _) ⟨by show 2 ≤ sizeLine; decide, [.int (k + (i : Nat)) tk, .str ⟨#[c]⟩ u], .cons ⟨_, rfl⟩ (.cons ⟨_, rfl⟩ .nil), ⟨_, there, rfl, _, rfl⟩⟩
    refine ⟨.ref s.heap.objs.size, _, I2, rfl, ⟨_, c, rfl, I.hok.fresh (Nat.le_refl _), rfl, hc⟩, ⟨⟨.str ⟨#[c]⟩ u, ?_⟩, (let ⟨o, ho, r⟩ := hi1; ⟨o, (sb.2 it (Ne.symm ne)).trans ho, r⟩), ne⟩, fun b hb => ?_⟩
    · rw [show k + ((i + 1 : Nat) : Int) = k + (i : Int) + 1 by omega]
      exact he2
    · have lb : b < s.heap.objs.size := by
        rcases List.mem_cons.mp hb with rfl | hb
        · exact lt.1
        · rw [List.mem_singleton.mp hb]; exact lt.2
      rw [upd_ne (Nat.ne_of_lt lb)]
      exact (fok b hb).1
  done := by
    intro X e1 e2 e3 calm i pins s σ H E I fok st past
    subst e1 e2 e3
    obtain ⟨⟨old, he⟩, hi, ne⟩ := st
    have D := Draws.text (prog := X.prog) (w := X.w) (A := X.A.in1) (I.ok.hd calm) it x t
    obtain ⟨f0, f1, f2, f3, f4, f5⟩ := fok it (by simp)
    have c : i = x.cps.size := past
    rw [c] at hi
    exact wpAny_pyNext_enum_endD D he hi fun h1 eb => ⟨rfl, I.turned (t' := s.toks) (fun b o nb q => eb b o nb q) f0 f1 f3 f4 f5⟩
  self A i s Q E st h := by
    obtain ⟨⟨_, he⟩, _⟩ := st
    exact wpAny_pyIter_enum he h
def iEnS (ta : TA) (tk : TE) : TI := fun σ H R => ta σ H fun vs H1 => ∃ x, vs = [.str x] ∧ tk σ H1 fun u H2 => ∃ k : Int, u = .int k ∧ -(2 ^ 63) ≤ k ∧ k < 2 ^ 63 ∧ R (IteS x k) H2
theorem pi_enumS {X : Cx} {e ek : Expr} {ta : TA} {tk : TE} {p pos tpos kp : PySem.Pos} {elts : List Expr} {kk : Nat} (gl : Gl X "enumerate") (mn : X.mg "enumerate" = none) (ha : PA X [e] ta) (hk : PE X ek tk)
    (hs : starEach [e] X.env = [(false, eval e X.env)] := by rfl) : PI X (.Tuple elts kk tpos) (.Call (.Name "enumerate" p) [e] [⟨some "start", ek, kp⟩] pos) (iEnS ta tk) := by
  refine ⟨fun pins s σ H R I h => ?_⟩
  rw [show eval (.Call (.Name "enumerate" p) [e] [⟨some "start", ek, kp⟩] pos) X.env = (do callWith pos (← eval (.Name "enumerate" p) X.env) [] (backTo pos (starEach [e] X.env)) (backToKw pos (keywordEach [⟨some "start", ek, kp⟩] X.env))) from rfl]
  refine wpAny_bind (ld_blt I gl mn boot_enumerate (kw_of_type hs rfl rfl (thn (ha.run pos pins s σ H _ I h) fun us s1 ⟨vs, G, I1, rv, x, ev, q⟩ => ?_)))
  subst ev
  obtain ⟨u, rfl, ru⟩ := vals1 rv
  obtain ⟨t, rfl⟩ := ru
  refine kws_cons (thn (hk.run pins s1 σ G _ I1 q) fun v s2 ⟨y, G2, I2, ry, k, ey, k0, k1, r⟩ => ?_)
  subst ey
  obtain ⟨tk2, rfl⟩ := ry
  refine kws_nil ?_
  show wpAny _ _ (call (.type "enumerate") [.str x t] [(Str.ofString "start", .int k tk2)]) _ _ _
  refine enum_begins_start (begins_text x t) trivial k0 k1 fun h' he hi sz kp => wpAny_pyIter_enum he ⟨_, [s2.heap.objs.size + 1, s2.heap.objs.size], _, _, G2, rfl, I2.kept (t' := s2.toks) kp, enumS_turn x t k _ _, ⟨⟨_, by rw [show k + ((0 : Nat) : Int) = k by omega]; exact he⟩, ⟨_, hi, rfl, rfl⟩, Nat.succ_ne_self _⟩, fun b hb => ?_, r⟩
  have young : s2.heap.objs.size ≤ b := by
    rcases List.mem_cons.mp hb with z | z
    · rw [z]
      exact Nat.le_add_right _ _
    · rw [List.mem_singleton.mp z]
      exact Nat.le_refl _
  exact I2.fpOk young (I2.hok.fresh young)
theorem walk_enS {x : Str} {k : Int} : Walk (IteS x k) x.cps.size (fun _ => True) (YPair (fun i => some (.int (k + (i : Nat)))) (fun i => (x.cps[i]?).map fun c => .str ⟨#[c]⟩)) :=
  ⟨fun i H lt _ => lt, fun H _ => rfl, fun i H v H' _ _ ⟨T, c, e1, e2, e3, e4⟩ => ⟨T, _, _, e1, e2, e3, rfl, by show (x.cps[i]?).map _ = _; rw [e4]; rfl⟩⟩
end CS
set_option Elab.async false
set_option maxRecDepth 100000
set_option maxHeartbeats 8000000
set_option linter.unusedVariables false
set_option pp.maxSteps 400
/-! zip(x, t), x a text, t a tuple -/
namespace CS
open PySem PySem.Spec PyProof.Rows L2
/-- the walk: (the sign i of x, the item i of the tuple at a) -/
def IzS (K : PySem.W.Frag) (x : Str) (a : Addr) : It where
  go i H := ∃ (xs : List V) (y : V), SqT K H a xs ∧ i < x.cps.size ∧ xs[i]? = some y
  yld i H v H' := ∃ T c y, v = .ref T ∧ H T = none ∧ H' = upd H T (.tup [.str ⟨#[c]⟩, y]) ∧ x.cps[i]? = some c ∧ ∀ xs, SqT K H a xs → xs[i]? = some y
  stop i H := ∃ xs : List V, SqT K H a xs ∧ i ≤ x.cps.size ∧ i ≤ xs.length ∧ (i = x.cps.size ∨ i = xs.length)
/-- how the heap stands ahead of turn i -/
structure ZsAt (x : Str) (t : Tok) (a z p q e f : Addr) (i : Nat) (h : Heap) : Prop where
  sep : ZipSep2 z p q e f [e] [f, a]
  zip_ : IsZip h z p q .none
  ins : IsTupOf2 h p (.ref e) (.ref f)
  out : ∃ u v, IsTupOf2 h q u v
  txt : h.IsStrIter e (strIterType x) x t i
  row : h.IsTupleIter f a i
theorem ZsAt.small {x : Str} {t : Tok} {a z p q e f : Addr} {i : Nat} {h : Heap} (st : ZsAt x t a z p q e f i h) : ∀ b ∈ [z, p, q, e, f], b < h.objs.size ∧ ∃ o, h.get? b = some o ∧ ∀ v, o.data ≠ .cell v := by
  obtain ⟨u, v, ho⟩ := st.out
  obtain ⟨o1, g1, _, d1⟩ := st.txt
  obtain ⟨o2, g2, _, d2⟩ := st.row
  have all : ∀ (b : Addr) (o : Obj), h.get? b = some o → (∀ v, o.data ≠ .cell v) → b < h.objs.size ∧ ∃ o, h.get? b = some o ∧ ∀ v, o.data ≠ .cell v := fun b o g d => ⟨Heap.lt_size g, o, g, d⟩
  intro b hb
  simp only [List.mem_cons, List.not_mem_nil, or_false] at hb
  rcases hb with rfl | rfl | rfl | rfl | rfl
  · exact all _ _ st.zip_ fun v w => nomatch w
  · exact all _ _ st.ins fun v w => nomatch w
  · exact all _ _ ho fun v w => nomatch w
  · exact all _ _ g1 fun v w => by rw [d1] at w; cases w
  · exact all _ _ g2 fun v w => by rw [d2] at w; cases w
theorem zipS_turn {P : Program} {w : World} {K : PySem.W.Frag} {elts : List Expr} {kk : Nat} {tpos : PySem.Pos} (x : Str) (t : Tok) (a z p q e f : Addr) : Turn P w K (.Tuple elts kk tpos) (IzS K x a) [z, p, q, e, f] z (ZsAt x t a z p q e f) where
  mem := List.mem_cons_self
  obj i h st b hb := (st.small b hb).2
  keep i h h' st k := by
    obtain ⟨u, v, ho⟩ := st.out
    obtain ⟨o1, g1, r1⟩ := st.txt
    obtain ⟨o2, g2, r2⟩ := st.row
    exact ⟨st.sep, k z (by simp) _ st.zip_, k p (by simp) _ st.ins, ⟨u, v, k q (by simp) _ ho⟩, ⟨o1, k e (by simp) _ g1, r1⟩, ⟨o2, k f (by simp) _ g2, r2⟩⟩
  item := by
    intro X e1 e2 e3 calm i pins s σ H E I fok st ⟨xs, y, hx, less, at_i⟩
    subst e1 e2 e3
    obtain ⟨its, rv, isT, _⟩ := I.tuple hx
    obtain ⟨u, hu, ru⟩ := rv.get at_i
    have sm := st.small
    obtain ⟨sep, hz, hp, ⟨v1, v2, hq⟩, ht, hr⟩ := st
    have nfa : a ≠ f := fun w => by
      obtain ⟨o, g, c, _⟩ := id hr
      obtain ⟨o2, g2, c2, _⟩ := id isT
      rw [← w, g2] at g
      cases g
      rw [c2] at c
      exact absurd (Value.type.inj c) (by decide)
    have ltn : i < its.toArray.size := by
      rw [List.size_toArray]
      exact (List.getElem?_eq_some_iff.mp hu).1
    refine wpAny_pyNext_zipD2_item sep (Draws.text (A := X.A.in1) (I.ok.hd calm) e x t) (Draws.tuple (A := X.A.in1) (I.ok.hd calm) f a nfa its.toArray) hz hp hq ht ⟨hr, isT⟩ less ltn fun w1 w2 h1 tk c1 c2 hz1 hq1 ht1 hr1 hn sz k1 => ?_
    obtain ⟨c, tc, hc, rfl⟩ := c1
    have ev : w2 = u := by
      rw [List.getElem?_toArray, hu] at c2
      exact (Option.some.inj c2).symm
    subst ev
    refine ⟨_, rfl, wpAny_letOwnedTupleGo_zip (s := { s with heap := h1, toks := tk }) hz1 fun h2 hz2 sb => ?_⟩
    have apart : s.heap.objs.size ≠ z := Nat.ne_of_gt (sm z (by simp)).1
    have there : h2.get? s.heap.objs.size = some { cls := .type "tuple", data := .seq #[.str ⟨#[c]⟩ tc, w2] } := (sb.2 _ apart).trans hn
    have kept : ∀ b ob, b ∉ [z, p, q, e, f] → s.heap.get? b = some ob → h2.get? b = some ob := fun b ob nb g =>
      (sb.2 b fun w => nb (by simp [w])).trans (k1 b ob (fun w => nb (by simp [w])) (fun w => nb (by simp [w])) (fun w => nb (by simp [w])) (fun w => nb (by simp [w])) g)
    have I2 := I.turnedNew (t' := tk) (ch := [z, p, q, e, f]) (T := s.heap.objs.size) (ob := .tup [.str ⟨#[c]⟩, y]) kept fok (Nat.le_refl _) ⟨by show 2 ≤ sizeLine; decide, [.str ⟨#[c]⟩ tc, w2], .cons ⟨_, rfl⟩ (.cons ru .nil), ⟨_, there, rfl, _, rfl⟩⟩
    have ez : e ≠ z := fun w => sep.zf1 (by rw [w]; exact List.mem_cons_self)
    have fz : f ≠ z := fun w => sep.zf2 (by rw [w]; exact List.mem_cons_self)
    refine ⟨.ref s.heap.objs.size, _, I2, rfl, ⟨_, c, y, rfl, I.hok.fresh (Nat.le_refl _), rfl, hc, fun ys hy => by rw [I.tuple_inj hy hx]; exact at_i⟩, ⟨sep, hz2, ?_, ⟨_, _, (sb.2 q sep.TOz).trans hq1⟩, ?_, ?_⟩, fun b hb => ?_⟩
    · exact (sb.2 p sep.TIz).trans (k1 p _ sep.TIz sep.TITO sep.TIi1 sep.TIi2 hp)
    · obtain ⟨o, g, r⟩ := ht1
      exact ⟨o, (sb.2 e ez).trans g, r⟩
    · obtain ⟨⟨o, g, r⟩, _⟩ := hr1
      exact ⟨o, (sb.2 f fz).trans g, r⟩
    · rw [upd_ne (Nat.ne_of_lt (sm b hb).1)]
      exact (fok b hb).1
  done := by
    intro X e1 e2 e3 calm i pins s σ H E I fok st ⟨xs, hx, l1, l2, past⟩
    subst e1 e2 e3
    obtain ⟨its, rv, isT, _⟩ := I.tuple hx
    obtain ⟨sep, hz, hp, ⟨v1, v2, hq⟩, ht, hr⟩ := st
    have nfa : a ≠ f := fun w => by
      obtain ⟨o, g, c, _⟩ := id hr
      obtain ⟨o2, g2, c2, _⟩ := id isT
      rw [← w, g2] at g
      cases g
      rw [c2] at c
      exact absurd (Value.type.inj c) (by decide)
    have sz : its.toArray.size = xs.length := by rw [List.size_toArray, rv.length]
    refine wpAny_pyNext_zipD2_end sep (Draws.text (A := X.A.in1) (I.ok.hd calm) e x t) (Draws.tuple (A := X.A.in1) (I.ok.hd calm) f a nfa its.toArray) hz hp hq ht ⟨hr, isT⟩ l1 (by rw [sz]; exact l2) (by rw [sz]; exact past) fun h1 tk k1 => ⟨rfl, ?_⟩
    exact I.turnedL (t' := tk) (ch := [z, p, q, e, f]) (fun b o nb g => k1 b o (fun w => nb (by simp [w])) (fun w => nb (by simp [w])) (fun w => nb (by simp [w])) (fun w => nb (by simp [w])) g) fok
  self A i s Q E st h := by
    exact wpAny_pyIter_zip st.zip_ h
def iZipS (K : PySem.W.Frag) (ta : TA) : TI := fun σ H R => ta σ H fun vs H1 => ∃ x a xs, vs = [.str x, .ref a] ∧ SqT K H1 a xs ∧ R (IzS K x a) H1
theorem pi_zipS {X : Cx} {e1 e2 : Expr} {ta : TA} {p pos tpos : PySem.Pos} {elts : List Expr} {kk : Nat} (gl : Gl X "zip") (mn : X.mg "zip" = none) (ha : PA X [e1, e2] ta) (hs : starEach [e1, e2] X.env = (false, eval e1 X.env) :: starEach [e2] X.env := by rfl) (hp : (backTo pos (starEach [e2] X.env)).any (·.1) = false := by rfl) : PI X (.Tuple elts kk tpos) (.Call (.Name "zip" p) [e1, e2] [] pos) (iZipS X.K ta) := by
  refine ⟨fun pins s σ H R I h => Call_ (ld_blt I gl mn boot_zip (PyProof.Rows.callWith_type1 (thn (ha.run pos pins s σ H _ I h) fun us s1 ⟨vs, G, I1, rv, x, a, xs, ev, hx, r⟩ => ?_) hs hp))⟩
  subst ev
  obtain ⟨u1, u2, rfl, r1, r2⟩ := vals2 rv
  obtain ⟨t, rfl⟩ := r1
  obtain rfl : u2 = Value.ref a := r2
  obtain ⟨its, rl, isT, _⟩ := I1.tuple hx
  have la : a < s1.heap.objs.size := by
    obtain ⟨o, g, _⟩ := id isT
    exact Heap.lt_size g
  refine zip_begins2 (begins_text x t) (begins_tuple a its.toArray) trivial isT fun h' hz hp hq g1 g2 sz kp => ?_
  have S : ZipSep2 (s1.heap.objs.size + 4) (s1.heap.objs.size + 2) (s1.heap.objs.size + 3) s1.heap.objs.size (s1.heap.objs.size + 1) [s1.heap.objs.size] [s1.heap.objs.size + 1, a] := zip_sep2 (fp1 := []) (fp2 := [a]) (fun b hb => nomatch hb) fun b hb => by rw [List.mem_singleton.mp hb]; exact la
  refine wpAny_pyIter_zip hz ⟨_, [s1.heap.objs.size + 4, s1.heap.objs.size + 2, s1.heap.objs.size + 3, s1.heap.objs.size, s1.heap.objs.size + 1], _, _, G, rfl, I1.kept (t' := s1.toks) kp, zipS_turn x t a _ _ _ _ _, ⟨S, hz, hp, ⟨_, _, hq⟩, ⟨_, g1, rfl, rfl⟩, ⟨_, g2, rfl, rfl⟩⟩, fun b hb => ?_, r⟩
  have young : s1.heap.objs.size ≤ b := by
    simp only [List.mem_cons, List.not_mem_nil, or_false] at hb
    rcases hb with rfl | rfl | rfl | rfl | rfl
    · exact Nat.le_add_right _ _
    · exact Nat.le_add_right _ _
    · exact Nat.le_add_right _ _
    · exact Nat.le_refl _
    · exact Nat.le_add_right _ _
  exact I1.fpOk young (I1.hok.fresh young)
theorem walk_zipS {K : PySem.W.Frag} {x : Str} {a : Addr} {xs : List V} (l : x.cps.size = xs.length) : Walk (IzS K x a) xs.length (fun H => SqT K H a xs) (YPair (fun i => (x.cps[i]?).map fun c => .str ⟨#[c]⟩) (fun i => xs[i]?)) :=
  ⟨fun i H lt q => ⟨xs, xs[i], q, by omega, List.getElem?_eq_getElem lt⟩, fun H q => ⟨xs, q, by omega, Nat.le_refl _, .inr rfl⟩, fun i H v H' _ q ⟨T, c, y, e1, e2, e3, e4, e5⟩ => ⟨T, _, _, e1, e2, e3, by show (x.cps[i]?).map _ = _; rw [e4]; rfl, e5 xs q⟩⟩
end CS
set_option Elab.async false
set_option maxRecDepth 100000
set_option maxHeartbeats 8000000
set_option linter.unusedVariables false
/-! dicts of a module's top, with text keys: read, copied -/
namespace CS
open PySem PySem.Spec PyProof.Rows L2
/-- at d stands a dict of the top: these keys, these values -/
def KD (P : Program) (w : World) (K : PySem.W.Frag) (d : Addr) (kvs : List (Key × V)) : Prop :=
  (d == sysModules) = false ∧ kvs.length ≤ sizeLine ∧ ∃ vs, KV kvs vs ∧ ∀ h : Heap, K.In h → h.DictOf (mixKind P w) d vs
theorem small1000' {n : Nat} (h : n ≤ 1000) : n < sizeLine := Nat.lt_of_le_of_lt h (by decide)
/-- its entries, as the top has them -/
def Ents (w : World) : List DictEntry → List (Str × V) → List (Key × Value) → Prop
  | [], [], [] => True
  | e :: es, (x, v) :: xs, (k, u) :: us => (∃ t, e.key = .str x t) ∧ e.hash = PyData.keyHash w.params x ∧ k = Sum.inr x ∧ u = e.val ∧ RelV v u ∧ Ents w es xs us
  | _, _, _ => False
section
variable {X : Cx}
theorem ix_kd {kvs : List (Key × V)} {d : Addr} (D : KD X.prog X.w X.K d kvs) : IxR X (fun x y H Q => ∃ (k : Key) (v : V), x = .ref d ∧ y = kV k ∧ valV kvs k = some v ∧ Q v H) := by
  intro value slice pins s σ H x y v u Q I rx ry h hs
  obtain ⟨k, z, rfl, rfl, l, q⟩ := h
  cases rx
  obtain ⟨lo, _, vs, rel, at_⟩ := D
  have dd := at_ s.heap I.kIn
  obtain ⟨w', hw, rw'⟩ := RelO.some_of (v := z) (o := valueAt vs k) (by rw [← l]; exact rel.val k)
  exact subscriptTail_builtinR (x := w') dd.mapOf.typeIs PySem.F.slot_dict_getitem.lookup (wpAny_getItem_of (kV_is ry) dd.mapOf hw ⟨rfl, ⟨z, H, I.tok _, rw', q⟩⟩) hs
theorem call_dictK {kvs : List (Key × V)} {d : Addr} (D : KD X.prog X.w X.K d kvs) : CallR X (.type "dict") (fun xs H Q => xs = [.ref d] ∧ ∀ p, H p = none → Q (.ref p) (upd H p (.dK kvs))) := by
  intro pins s σ H xs us Q I r q
  obtain ⟨rfl, q⟩ := q
  obtain ⟨u, rfl, ru⟩ := vals1 r
  cases ru
  obtain ⟨lo, z, vs, rel, at_⟩ := D
  refine kt_call_dict lo (at_ s.heap I.kIn) (by rw [← rel.length]; exact z) fun h' d' sb => ?_
  have new : (s.heap.objs.size == sysModules) = false := beq_eq_false_iff_ne.mpr (Nat.ne_of_gt I.big)
  exact ⟨.ref s.heap.objs.size, _, I.laid (t' := s.toks) (fun b u e => (sb.2 b (Nat.ne_of_lt (Heap.lt_size e))).trans (Heap.get?_push_of_some _ e)) (Nat.le_refl _) (o := .dK kvs) ⟨z, new, vs, rel, d'⟩, rfl, q _ (I.hok.fresh (Nat.le_refl _))⟩
end
theorem ents_kv {w : World} : ∀ {es : List DictEntry} {xs : List (Str × V)} {us : List (Key × Value)}, Ents w es xs us → KV (xs.map fun p => ((Sum.inr p.1 : Key), p.2)) us
  | [], [], [], _ => .nil
  | _ :: _, (x, v) :: xs, (k, u) :: us, ⟨_, _, e1, _, r, t⟩ => .cons ⟨e1.symm, r⟩ (ents_kv t)
  | [], _ :: _, _, h => h.elim
  | [], [], _ :: _, h => h.elim
  | _ :: _, [], _, h => h.elim
  | _ :: _, _ :: _, [], h => h.elim
theorem ents_pairs {P : Program} {w : World} : ∀ {es : List DictEntry} {xs : List (Str × V)} {us : List (Key × Value)}, Ents w es xs us → Pairs (mixKind P w) es us ∧ ∀ e ∈ es, ∃ k, (mixKind P w).is k e.key = true ∧ e.hash = (mixKind P w).hash k
  | [], [], [], _ => ⟨.nil, fun e h => nomatch h⟩
  | e :: es, (x, v) :: xs, (k, u) :: us, ⟨⟨t, ek⟩, eh, e1, e2, r, m⟩ => by
    obtain ⟨a, b⟩ := ents_pairs (P := P) m
    have is_ : (mixKind P w).is k e.key = true := by
      rw [e1, ek]
      exact kV_is (P := P) (w := w) (k := (Sum.inr x : Key)) (u := .str x t) ⟨t, rfl⟩
    refine ⟨.cons is_ e2.symm a, fun e' he => ?_⟩
    rcases List.mem_cons.mp he with rfl | he
    · exact ⟨k, is_, by rw [eh, e1]; rfl⟩
    · exact b e' he
  | [], _ :: _, _, h => h.elim
  | [], [], _ :: _, h => h.elim
  | _ :: _, [], _, h => h.elim
  | _ :: _, _ :: _, [], h => h.elim
/-- a dict of the top, by its entries -/
theorem kd_of {P : Program} {w : World} {K : PySem.W.Frag} {d : Addr} {es : Array DictEntry} {n : Nat} {xs : List (Str × V)} {us : List (Key × Value)} (low : (d == sysModules) = false) (at_ : K.lookup d = some ⟨.type "dict", none, .dict es n, #[]⟩) (en : Ents w es.toList xs us) (nd : (xs.map (·.1)).Nodup) (few : xs.length ≤ 1000) :
    KD P w K d (xs.map fun p => ((Sum.inr p.1 : Key), p.2)) := by
  have kv := ents_kv en
  obtain ⟨pr, ks⟩ := ents_pairs (P := P) en
  refine ⟨low, by rw [List.length_map]; exact Nat.le_of_lt (small1000' few), us, kv, fun h KI => ⟨_, es, n, KI _ _ at_, ⟨rfl, rfl, rfl⟩, rfl, fun e he => ks e (Array.mem_toList_iff.mpr he), pr, ?_⟩⟩
  have e1 := kv.keys
  rw [← e1, List.map_map]
  have e2 : xs.map ((fun x => x.1) ∘ fun p => ((Sum.inr p.1 : Key), p.2)) = (xs.map (·.1)).map (Sum.inr : Str → Key) := by rw [List.map_map]; rfl
  rw [e2]
  exact List.Pairwise.map _ (fun a b ne e => ne (Sum.inr.inj e)) nd
end CS
set_option Elab.async false
set_option maxRecDepth 100000
set_option maxHeartbeats 8000000
set_option linter.unusedVariables false
set_option pp.maxSteps 400
/-! days -/
namespace CS
open PySem L2 RZ
theorem ip_mul {X : Cx} : PIp X .Mult (fun x y H Q => ∃ i j, x = .int i ∧ y = .int j ∧ CMul i j ∧ Q (.int (i * j)) H) := by
  intro pins s σ H x y v u Q I r1 r2 h
  obtain ⟨i, j, rfl, rfl, c, q⟩ := h
  obtain ⟨t, rfl⟩ := r1
  obtain ⟨t', rfl⟩ := r2
  exact PySem.P.imul_int ⟨.int _, H, I.tok _, ⟨_, rfl⟩, q⟩ c.ok
theorem cutT_to {α : Type} (xs : List α) (j : Nat) : cutD xs none (some (j : Int)) = xs.take j := by
  unfold cutD
  rw [HT.sIx_none, HT.sIx_nat, List.drop_zero, Nat.sub_zero]
  by_cases h : j ≤ xs.length
  · rw [Nat.min_eq_left h]
  · rw [Nat.min_eq_right (by omega), List.take_length, List.take_of_length_le (by omega)]
theorem cutT_from {α : Type} (xs : List α) (j : Nat) : cutD xs (some (j : Int)) none = xs.drop j := by
  unfold cutD
  rw [HT.sIx_none, HT.sIx_nat]
  by_cases h : j ≤ xs.length
  · rw [Nat.min_eq_left h]
    exact List.take_of_length_le (by rw [List.length_drop]; omega)
  · rw [Nat.min_eq_right (by omega), List.drop_length, List.drop_of_length_le (by omega), List.take_nil]
theorem walk_zipT {K : PySem.W.Frag} {a b : Addr} {xs ys : List V} {n : Nat} (hn : n = min xs.length ys.length) : Walk (ItzT K a b) n (fun H => SqT K H a xs ∧ SqT K H b ys) (YPair (fun i => xs[i]?) (fun i => ys[i]?)) := by
  subst hn
  refine ⟨fun i H lt q => ?_, fun H q => ⟨xs, ys, q.1, q.2, by omega⟩, fun i H v H' _ q ⟨T, x, y, e1, e2, e3, e4, e5⟩ => ⟨T, x, y, e1, e2, e3, e4 xs q.1, e5 ys q.2⟩⟩
  exact ⟨xs, ys, xs[i], ys[i], q.1, q.2, List.getElem?_eq_getElem (by omega), List.getElem?_eq_getElem (by omega)⟩
section
variable {P : Program} {w : World} {K : PySem.W.Frag} {mg : Str → Option Value} {base : Heap}
def spAscT (K : PySem.W.Frag) : Sp := fun vs H Q _ => ∃ (a : Addr) (ns : List Int), vs = [.ref a] ∧ SqT K H a (ns.map V.int) ∧ ns.length ≤ 900 ∧ ∀ H', Same H H' → Q (.bl (decide (ns.Pairwise (· < ·)))) H'
abbrev nsAscendsT : List Str := ["things", "low", "high"]
theorem scAscendsT : FnScope nsAscendsT ["things"] (defScope sAscends) := ⟨rfl, rfl, rfl, by decide +kernel, rfl, by decide +kernel, by decide +kernel⟩
theorem ok_ascendsT {f : Addr} {fd : FuncData} (F : Df K mg "ascends" sAscends ["things"] f fd)
    (T : Bt mg) : FnOk P w K mg base CX0 1 f fd ["things"] (spAscT K) := by
  refine F.F.ok scAscendsT (fun vs H Q E h => ?_) (fun cdv A outer s H vs Q E hr h => ?_)
  · obtain ⟨a, ns, rfl, _⟩ := h
    rfl
  · obtain ⟨a, ns, rfl, hS, hlen, k⟩ := h
    refine ⟨_, (pss_one (ps_ret (pe_callB (cr_all rfl) (by rfl) T.all (by decide +kernel) (pa_cons (pe_lc (own := [("low", 1), ("high", 2)]) (g := gTup K 2 (gCons (gName 1) (gCons (gName 2) gNil))) (tt := tYes) rfl scAscendsT.nd (pi_zipA (by rfl) T.zip (pa_cons (pv 0) (pa_cons (pe_slice sl_any (pv 0) (po_some pe_int) po_none) pa_nil))) (blkOk_by (N := nsAscendsT) (sc := defScope sAscends) (by decide +kernel)) (fun _ _ _ _ _ => pg_tup rfl (pgs_cons (pg_name (i := 1) scAscendsT.nd rfl (Or.inl rfl)) (pgs_cons (pg_name (i := 2) scAscendsT.nd rfl (Or.inl rfl)) pgs_nil))) (fun _ _ _ _ _ => pts_nil) (fun _ _ _ _ _ => (pe_cmpR op_lt (pv 1) (pv 2) (nomark _)))) pa_nil)))), ?_⟩
    refine ⟨_, rfl, _, rfl, 1, rfl, a, _, rfl, hS, fun H1 b s1 hB => ?_⟩
    rw [show (1 : Int) = ((1 : Nat) : Int) from rfl, cutT_from] at hB
    have hS1 := s1.tup hS
    refine ⟨a, b, _, _, rfl, .inr ⟨hS1, hB, fun D hD => lc_it (walk_zipT (xs := ns.map V.int) (ys := (ns.map V.int).drop 1) (n := ns.length - 1) (by simp)) (fun i H' => H' D = some (.lst (((List.zipWith (fun a b => decide (a < b)) ns (ns.drop 1)).take i).map V.bl)) ∧ Same H1 H') ⟨upd_same, Same.new hD⟩ (fun i H' _ ⟨_, s2⟩ => ⟨s2.tup hS1, s2.tup hB⟩) ?_ ?_⟩⟩
    · rintro i v H2 H3 hi ⟨h1, s2⟩ ⟨t, x, y, rfl, ht, rfl, hx, hy⟩
      have e1 : ns[i]? = some (ns[i]'(by omega)) := by simp
      have e2 : (ns.drop 1)[i]? = some (ns[i + 1]'(by omega)) := by
        rw [List.getElem?_drop, Nat.add_comm]
        simp
      dsimp only at hx hy
      rw [List.getElem?_map, e1] at hx
      rw [← List.map_drop, List.getElem?_map, e2] at hy
      obtain rfl : V.int _ = x := Option.some.inj hx
      obtain rfl : V.int _ = y := Option.some.inj hy
      have k2 := Same.new (o := .tup [V.int (ns[i]'(by omega)), V.int (ns[i + 1]'(by omega))]) ht
      refine ⟨t, _, rfl, SqT.of upd_same, rfl, _, _, rfl, _, _, rfl, rfl, rfl, ?_⟩
      dsimp only [tYes]
      rw [if_pos rfl]
      refine ⟨_, rfl, _, rfl, _, _, rfl, rfl, _, k2 _ _ h1, small1000 ?_, ?_, ?_⟩
      · rw [List.length_map, List.length_take]; omega
      · rw [upd_same]
        have : (List.zipWith (fun a b => decide (a < b)) ns (ns.drop 1))[i]? = some (decide (ns[i]'(by omega) < ns[i + 1]'(by omega))) := by
          rw [List.getElem?_zipWith, e1, e2]
        rw [take_snoc this, List.map_append]
        rfl
      · exact same_upd hD (s2.trans k2)
    · rintro H2 ⟨h1, s2⟩
      rw [List.take_of_length_le (by rw [List.length_zipWith, List.length_drop]; omega)] at h1
      refine ⟨D, _, rfl, SqL.of h1, ?_⟩
      rw [asc_zip]
      exact k _ (s1.trans s2)
def prodL (ds : Dys) : Int := (((ds.map List.length).foldl (· * ·) 1 : Nat) : Int)
def spCount (K : PySem.W.Frag) : Sp := fun vs H Q _ => ∃ v ds, vs = [v] ∧ Dp K H v (dysD ds) ∧ ds.length ≤ 4 ∧ (∀ r ∈ ds, r.length ≤ 8) ∧ Q (.int (prodL ds)) H
end
end CS
set_option Elab.async false
set_option maxRecDepth 100000
set_option maxHeartbeats 8000000
set_option linter.unusedVariables false
/-! papers by words, of any sort: terms, mixes -/
namespace CS
open PySem L2
/-- where a kind is S, among the first i -/
def plcG (s : Str) (i : Nat) : List Int := (List.range i).filterMap fun j => match s.cps[j]? with
  | some c => if (⟨#[c]⟩ : Str) = "S" then some (((1 + j : Nat) : Nat) : Int) else none
  | none => none
theorem plcG_succ (s : Str) (i : Nat) : plcG s (i + 1) = plcG s i ++ (match s.cps[i]? with
  | some c => if (⟨#[c]⟩ : Str) = "S" then [(((1 + i : Nat) : Nat) : Int)] else []
  | none => []) := by
  unfold plcG
  rw [List.range_succ, List.filterMap_append]
  congr 1
  cases e : s.cps[i]? with
  | none => simp [e]
  | some c =>
    by_cases h : (⟨#[c]⟩ : Str) = "S"
    · simp [e, h]
    · simp [e, h]
theorem plcG_le (s : Str) (i : Nat) : (plcG s i).length ≤ i := by
  unfold plcG
  exact Nat.le_trans (List.length_filterMap_le _ _) (by simp)
/-- the bounds of a kind -/
def bndG (c : Nat) : Option (Int × Int) := if c = 78 then some (-1000, 1000) else if c = 68 then some (0, 3) else if c = 88 then some (-100, 100) else if c = 65 then some (1, 1000) else if c = 77 then some (-200, 200) else none
def FitG (c : Nat) (d : PyData) : Prop := c = 83 ∨ ∃ lo hi n, bndG c = some (lo, hi) ∧ d = .int n ∧ lo ≤ n ∧ n ≤ hi
def FitGV (c : Nat) (v : V) : Prop := c = 83 ∨ ∃ lo hi n, bndG c = some (lo, hi) ∧ v = .int n ∧ lo ≤ n ∧ n ≤ hi
/-- the order of the integers behind two of the words -/
def OrdG (w : Str) (ds : List PyData) : Prop := (w = "spread" → ∃ s a b c, ds = [s, .int a, .int b, .int c] ∧ b < a ∧ a < c) ∧ (w = "drawn" → ∃ s a b, ds = [s, .int a, .int b] ∧ a ≤ b)
class WTree (α : Type) where
  toD : α → PyData
  word : α → Str
  shape : α → Str
  rest : α → List PyData
  kids : α → List (Nat × α)
  words : α → Nat
  height : α → Nat
  Ok : α → Prop
  kv : List (Key × V)
  toD_eq : ∀ t : α, toD t = .tuple (.str (word t) :: rest t)
  flat : ∀ t : α, flatD (toD t) = true
  shape_len : ∀ t : α, (shape t).cps.size = (rest t).length
  shape_four : ∀ t : α, (shape t).cps.size ≤ 4
  places : ∀ t : α, plcG (shape t) (shape t).cps.size = (kids t).map fun k => (k.1 : Int)
  kids_at : ∀ t : α, ∀ k ∈ kids t, (PyData.str (word t) :: rest t)[k.1]? = some (toD k.2)
  kids_height : ∀ t : α, ∀ k ∈ kids t, height k.2 < height t
  kids_ok : ∀ t : α, Ok t → ∀ k ∈ kids t, Ok k.2
  kids_words : ∀ t : α, ((kids t).map fun k => words k.2).sum + 1 = words t
  height_pos : ∀ t : α, 1 ≤ height t
  fits : ∀ (t : α), Ok t → ∀ (i c : Nat) (d : PyData), (shape t).cps[i]? = some c → (rest t)[i]? = some d → FitG c d
  order : ∀ t : α, Ok t → OrdG (word t) (rest t)
  kv_at : ∀ t : α, valV kv (Sum.inr (word t)) = some (.str (shape t))
namespace WTree
variable {α : Type} [WTree α]
theorem words_pos (t : α) : 1 ≤ words t := by
  have := kids_words t
  omega
theorem restFlat (t : α) : flatDs (rest t) = true := by
  have := flat t
  rw [toD_eq] at this
  simpa [flatD, flatDs] using this
end WTree
end CS
set_option Elab.async false
set_option maxRecDepth 100000
set_option maxHeartbeats 8000000
set_option linter.unusedVariables false
set_option pp.maxSteps 6000
/-! words and their shapes -/
namespace CS
open PySem L2 RZ
open WTree
theorem pi_enumS1 {X : Cx} {e : Expr} {ta : TA} {p pos tpos kp cp : PySem.Pos} {j : Nat} {n : Int} {elts : List Expr} {kk : Nat} (gl : Gl X "enumerate") (mn : X.mg "enumerate" = none) (ha : PA X [e] ta)
    (hs : starEach [e] X.env = [(false, eval e X.env)] := by rfl) : PI X (.Tuple elts kk tpos) (.Call (.Name "enumerate" p) [e] [⟨some "start", (.Constant (.int n) j cp), kp⟩] pos) (iEnS ta (tC (.int n))) := pi_enumS gl mn ha pe_int hs
section
variable {P : Program} {w : World} {K : PySem.W.Frag} {mg : Str → Option Value} {base : Heap}
def spPlaces (K : PySem.W.Frag) : Sp := fun vs H Q _ => ∃ s : Str, vs = [.str s] ∧ s.cps.size ≤ 9 ∧ ∀ D H', Same H H' → SqL K H' D ((plcG s s.cps.size).map V.int) → Q (.ref D) H'
abbrev nsKidPlaces : List Str := ["shape", "at", "kind"]
theorem scKidPlaces : FnScope nsKidPlaces ["shape"] (defScope sKidPlaces) := ⟨rfl, rfl, rfl, by decide +kernel, rfl, by decide +kernel, by decide +kernel⟩
theorem ok_kid_places {f : Addr} {fd : FuncData} (F : Df K mg "kid_places" sKidPlaces ["shape"] f fd)
    {tK : Tok} (gK : mg "KID" = some (.str "S" tK)) (T : Bt mg) (menumerate : mg "enumerate" = none) : FnOk P w K mg base CX0 1 f fd ["shape"] (spPlaces K) := by
  refine F.F.ok scKidPlaces (fun vs H Q E h => ?_) (fun cdv A outer s H vs Q E hr h => ?_)
  · obtain ⟨s, rfl, _⟩ := h
    rfl
  · obtain ⟨s, rfl, l9, k⟩ := h
    refine ⟨_, (pss_one (ps_ret (pe_lc (own := [("at", 1), ("kind", 2)]) (g := gTup K 2 (gCons (gName 1) (gCons (gName 2) gNil))) (tt := _) rfl scKidPlaces.nd (pi_enumS1 (by rfl) menumerate (pa_cons (pv 0) pa_nil)) (blkOk_by (N := nsKidPlaces) (sc := defScope sKidPlaces) (by decide +kernel)) (fun _ _ _ _ _ => pg_tup rfl (pgs_cons (pg_name (i := 1) scKidPlaces.nd rfl (Or.inl rfl)) (pgs_cons (pg_name (i := 2) scKidPlaces.nd rfl (Or.inl rfl)) pgs_nil))) (fun _ _ _ _ _ => pts_one (pt_cmpR op_eq (pv 2) (pe_glob (v := .str "S") (by rfl) gK ⟨_, rfl⟩) (nomark _))) (fun _ _ _ _ _ => (pv 1))))), ?_⟩
    refine ⟨_, rfl, s, rfl, 1, rfl, by decide, by decide, fun D nD => lc_it (walk_enS (x := s) (k := 1)) (fun i H' => H' D = some (.lst ((plcG s i).map V.int)) ∧ Same H H') ⟨upd_same, Same.new nD⟩ (fun _ _ _ _ => trivial) ?_ ?_⟩
    · rintro i v H2 H3 hi ⟨h1, s2⟩ ⟨t, x, y, rfl, ht, rfl, hx, hy⟩
      obtain rfl : V.int _ = x := Option.some.inj hx
      obtain ⟨c, hc, rfl⟩ := Option.map_eq_some_iff.mp hy
      have k2 := Same.new (o := .tup [V.int (1 + (i : Nat)), V.str ⟨#[c]⟩]) ht
      refine ⟨t, _, rfl, SqT.of upd_same, rfl, _, _, rfl, _, _, rfl, rfl, rfl, ?_⟩
      have lp := plcG_le s i
      refine ⟨_, rfl, rfl, _, rfl, ?_⟩
      by_cases h : (⟨#[c]⟩ : Str) = "S"
      · refine iteTe (decide_eq_true (by rw [h])) ⟨_, rfl, _, k2 _ _ h1, small1000 (by rw [List.length_map]; omega), ?_, same_upd nD (s2.trans k2)⟩
        rw [upd_same, plcG_succ, hc, List.map_append]
        simp only [h, if_true]
        rfl
      · refine iteFe (decide_eq_false fun z => h (V.str.inj z)) ⟨?_, s2.trans k2⟩
        rw [plcG_succ, hc]
        simp only [h, if_false, List.append_nil]
        exact k2 _ _ h1
    · rintro H2 ⟨h1, s2⟩
      exact k _ _ s2 (SqL.of h1)
/-- the bounds of the kinds -/
abbrev bndKV (aN aD aX aA aM : Addr) : List (Key × V) := [(Sum.inr "N", .ref aN), (Sum.inr "D", .ref aD), (Sum.inr "X", .ref aX), (Sum.inr "A", .ref aA), (Sum.inr "M", .ref aM)]
def spMayG : Sp := fun vs H Q _ => ∃ c v, vs = [.str ⟨#[c]⟩, v] ∧ FitGV c v ∧ Q (.bl true) H
abbrev nsMayStand : List Str := ["kind", "thing", "least", "most"]
theorem scMayStand : FnScope nsMayStand ["kind", "thing"] (defScope sMayStand) := ⟨rfl, rfl, rfl, by decide +kernel, rfl, by decide +kernel, by decide +kernel⟩
theorem ok_may_stand {f : Addr} {fd : FuncData} (F : Df K mg "may_stand" sMayStand ["kind", "thing"] f fd)
    {f1 : Addr} {fd1 : FuncData} (D1 : Df K mg "is_whole_within" sIsWholeWithin ["thing", "least", "most"] f1 fd1) (G1 : FnOk P w K mg base CX0 2 f1 fd1 ["thing", "least", "most"] (spWW))
    {tK : Tok} (gK : mg "KID" = some (.str "S" tK)) {aB aN aD aX aA aM : Addr} (gB : mg "BOUNDS" = some (.ref aB)) (BD : KD P w K aB (bndKV aN aD aX aA aM)) (hN : ∀ H, SqT K H aN [.int (-1000), .int 1000]) (hD : ∀ H, SqT K H aD [.int 0, .int 3]) (hX : ∀ H, SqT K H aX [.int (-100), .int 100]) (hA : ∀ H, SqT K H aA [.int 1, .int 1000]) (hM : ∀ H, SqT K H aM [.int (-200), .int 200]) (T : Bt mg) : FnOk P w K mg base CX0 3 f fd ["kind", "thing"] (spMayG) := by
  refine F.F.ok scMayStand (fun vs H Q E h => ?_) (fun cdv A outer s H vs Q E hr h => ?_)
  · obtain ⟨c, v, rfl, _⟩ := h
    rfl
  · obtain ⟨c, v, rfl, fit, k⟩ := h
    refine ⟨_, (pss_cons (ps_if (pt_cmpR op_eq (pv 0) (pe_glob (v := .str "S") (by rfl) gK ⟨_, rfl⟩) (nomark _)) (pss_one (ps_ret pe_bl)) pss_nil)
      (pss_cons (ps_asg (pe_ix (ix_kd BD) (pe_glob (v := .ref aB) (by rfl) gB rfl) (pv 0) (fun _ _ => rfl)) (pg_tup rfl (pgs_cons (pg_name (i := 2) scMayStand.nd rfl (Or.inl rfl)) (pgs_cons (pg_name (i := 3) scMayStand.nd rfl (Or.inl rfl)) pgs_nil))))
      (pss_one (ps_ret (pe_call G1 (hr.mono (by decide)) (by rfl) D1.g D1.F.kp D1.b .nil pass0 (pa_cons (pv 1) (pa_cons (pv 2) (pa_cons (pv 3) pa_nil)))))))), ?_⟩
    rcases fit with rfl | ⟨lo, hi, n, hb, rfl, ok⟩
    · exact ⟨_, rfl, rfl, _, rfl, iteTe (by decide +kernel) k⟩
    unfold bndG at hb
    by_cases c78 : c = 78
    · subst c78
      cases hb
      refine ⟨_, rfl, rfl, _, rfl, iteFe (by decide +kernel) ⟨_, rfl, Sum.inr "N", .ref aN, rfl, rfl, by rfl, aN, _, rfl, hN H, rfl, _, _, rfl, _, _, rfl, rfl, _, rfl, _, rfl, _, rfl, n, _, _, rfl, ?_⟩⟩
      rw [decide_eq_true ok]
      exact k
    rw [if_neg c78] at hb
    by_cases c68 : c = 68
    · subst c68
      cases hb
      refine ⟨_, rfl, rfl, _, rfl, iteFe (by decide +kernel) ⟨_, rfl, Sum.inr "D", .ref aD, rfl, rfl, by rfl, aD, _, rfl, hD H, rfl, _, _, rfl, _, _, rfl, rfl, _, rfl, _, rfl, _, rfl, n, _, _, rfl, ?_⟩⟩
      rw [decide_eq_true ok]
      exact k
    rw [if_neg c68] at hb
    by_cases c88 : c = 88
    · subst c88
      cases hb
      refine ⟨_, rfl, rfl, _, rfl, iteFe (by decide +kernel) ⟨_, rfl, Sum.inr "X", .ref aX, rfl, rfl, by rfl, aX, _, rfl, hX H, rfl, _, _, rfl, _, _, rfl, rfl, _, rfl, _, rfl, _, rfl, n, _, _, rfl, ?_⟩⟩
      rw [decide_eq_true ok]
      exact k
    rw [if_neg c88] at hb
    by_cases c65 : c = 65
    · subst c65
      cases hb
      refine ⟨_, rfl, rfl, _, rfl, iteFe (by decide +kernel) ⟨_, rfl, Sum.inr "A", .ref aA, rfl, rfl, by rfl, aA, _, rfl, hA H, rfl, _, _, rfl, _, _, rfl, rfl, _, rfl, _, rfl, _, rfl, n, _, _, rfl, ?_⟩⟩
      rw [decide_eq_true ok]
      exact k
    rw [if_neg c65] at hb
    by_cases c77 : c = 77
    · subst c77
      cases hb
      refine ⟨_, rfl, rfl, _, rfl, iteFe (by decide +kernel) ⟨_, rfl, Sum.inr "M", .ref aM, rfl, rfl, by rfl, aM, _, rfl, hM H, rfl, _, _, rfl, _, _, rfl, rfl, _, rfl, _, rfl, _, rfl, n, _, _, rfl, ?_⟩⟩
      rw [decide_eq_true ok]
      exact k
    rw [if_neg c77] at hb
    cases hb
theorem ati0 {x : V} {xs : List V} : atI (x :: xs) 0 = some x := atI_nat (j := 0) rfl
def spOrder (K : PySem.W.Frag) : Sp := fun vs H Q _ => ∃ p x xs ds, vs = [.ref p] ∧ SqT K H p (.str x :: xs) ∧ DpAll K H xs ds ∧ OrdG x ds ∧ Q (.bl true) H
abbrev nsIsInOrder : List Str := ["thing"]
theorem scIsInOrder : FnScope nsIsInOrder ["thing"] (defScope sIsInOrder) := ⟨rfl, rfl, rfl, by decide +kernel, rfl, by decide +kernel, by decide +kernel⟩
theorem ok_is_in_order {f : Addr} {fd : FuncData} (F : Df K mg "is_in_order" sIsInOrder ["thing"] f fd) : FnOk P w K mg base CX0 1 f fd ["thing"] (spOrder K) := by
  refine F.F.ok scIsInOrder (fun vs H Q E h => ?_) (fun cdv A outer s H vs Q E hr h => ?_)
  · obtain ⟨p, x, xs, ds, rfl, _⟩ := h
    rfl
  · obtain ⟨p, x, xs, ds, rfl, hp, hx, od, k⟩ := h
    refine ⟨_, (pss_cons (ps_if (pt_cmpR op_eq (pe_ix ix_tup (pv 0) pe_int (fun _ _ => rfl)) pe_str (nomark _)) (pss_one (ps_ret (pe_and (pe_cmpR op_lt (pe_ix ix_tup (pv 0) pe_int (fun _ _ => rfl)) (pe_ix ix_tup (pv 0) pe_int (fun _ _ => rfl)) (nomark _)) (pe_one (pe_cmpR op_lt (pe_ix ix_tup (pv 0) pe_int (fun _ _ => rfl)) (pe_ix ix_tup (pv 0) pe_int (fun _ _ => rfl)) (nomark _)))))) pss_nil)
      (pss_cons (ps_if (pt_cmpR op_eq (pe_ix ix_tup (pv 0) pe_int (fun _ _ => rfl)) pe_str (nomark _)) (pss_one (ps_ret (pe_cmpR op_le (pe_ix ix_tup (pv 0) pe_int (fun _ _ => rfl)) (pe_ix ix_tup (pv 0) pe_int (fun _ _ => rfl)) (nomark _)))) pss_nil)
      (pss_one (ps_ret pe_bl)))), ?_⟩
    refine ⟨_, rfl, p, _, 0, _, rfl, rfl, hp, ati0, rfl, _, rfl, ?_⟩
    by_cases c1 : x = "spread"
    · obtain ⟨s, a, b, c, rfl, h1, h2⟩ := od.1 c1
      obtain ⟨y2, g2, d2⟩ := DpAll.at (i := 1) hx rfl
      obtain ⟨y3, g3, d3⟩ := DpAll.at (i := 2) hx rfl
      obtain ⟨y4, g4, d4⟩ := DpAll.at (i := 3) hx rfl
      cases d2
      cases d3
      cases d4
      refine iteTe (decide_eq_true (by rw [c1])) ⟨_, rfl, p, _, 3, _, rfl, rfl, hp, atI_nat (j := 3) (by simpa using g3), _, rfl, p, _, 2, _, rfl, rfl, hp, atI_nat (j := 2) (by simpa using g2), _, _, rfl, rfl, true, by show V.bl (decide (b < a)) = V.bl true; rw [decide_eq_true h1], iteT ⟨_, rfl, p, _, 2, _, rfl, rfl, hp, atI_nat (j := 2) (by simpa using g2), _, rfl, p, _, 4, _, rfl, rfl, hp, atI_nat (j := 4) (by simpa using g4), _, _, rfl, rfl, ?_⟩⟩
      show Q (V.bl (decide (a < c))) H
      rw [decide_eq_true h2]
      exact k
    · refine iteFe (decide_eq_false fun z => c1 (V.str.inj z)) ⟨_, rfl, p, _, 0, _, rfl, rfl, hp, ati0, rfl, _, rfl, ?_⟩
      by_cases c2 : x = "drawn"
      · obtain ⟨s, a, b, rfl, h1⟩ := od.2 c2
        obtain ⟨y2, g2, d2⟩ := DpAll.at (i := 1) hx rfl
        obtain ⟨y3, g3, d3⟩ := DpAll.at (i := 2) hx rfl
        cases d2
        cases d3
        refine iteTe (decide_eq_true (by rw [c2])) ⟨_, rfl, p, _, 2, _, rfl, rfl, hp, atI_nat (j := 2) (by simpa using g2), _, rfl, p, _, 3, _, rfl, rfl, hp, atI_nat (j := 3) (by simpa using g3), _, _, rfl, rfl, ?_⟩
        show Q (V.bl (decide (a ≤ b))) H
        rw [decide_eq_true h1]
        exact k
      · exact iteFe (decide_eq_false fun z => c2 (V.str.inj z)) k
variable {α : Type} [WTree α]
/-- a paper, taken apart -/
theorem tree_at {H : Hp} {v : V} {t : α} (h : Dp K H v (toD t)) : ∃ a xs, v = .ref a ∧ SqT K H a (.str (word t) :: xs) ∧ DpAll K H xs (rest t) := by
  rw [toD_eq] at h
  obtain ⟨a, xs, rfl, hs, ha⟩ := h.tup_inv
  cases ha with
  | cons h1 h2 =>
    cases h1
    exact ⟨a, _, rfl, hs, h2⟩
theorem fitsV {H : Hp} {t : α} {xs : List V} (ok : WTree.Ok t) (h : DpAll K H xs (rest t)) : ∀ (i c : Nat) (v : V), (shape t).cps[i]? = some c → xs[i]? = some v → FitGV c v := by
  intro i c v hc hx
  obtain ⟨d, hd, dv⟩ := DpAll.get h hx
  rcases fits t ok i c d hc hd with e | ⟨lo, hi, n, e, rfl, o⟩
  · exact .inl e
  · cases dv
    exact .inr ⟨lo, hi, n, e, rfl, o⟩
def spFormedG (α : Type) [WTree α] (K : PySem.W.Frag) : Sp := fun vs H Q _ => ∃ v s, ∃ t : α, vs = [v, .ref s] ∧ H s = some (.dK (kv α)) ∧ Dp K H v (toD t) ∧ WTree.Ok t ∧ ∀ H', Same H H' → Q (.bl true) H'
abbrev nsIsFormed : List Str := ["thing", "shapes", "shape", "kind", "item"]
theorem scIsFormed : FnScope nsIsFormed ["thing", "shapes"] (defScope sIsFormed) := ⟨rfl, rfl, rfl, by decide +kernel, rfl, by decide +kernel, by decide +kernel⟩
theorem ok_is_formed {f : Addr} {fd : FuncData} (F : Df K mg "is_formed" sIsFormed ["thing", "shapes"] f fd)
    {f1 : Addr} {fd1 : FuncData} (D1 : Df K mg "is_in_order" sIsInOrder ["thing"] f1 fd1) (G1 : FnOk P w K mg base CX0 1 f1 fd1 ["thing"] (spOrder K))
    {f2 : Addr} {fd2 : FuncData} (D2 : Df K mg "may_stand" sMayStand ["kind", "thing"] f2 fd2) (G2 : FnOk P w K mg base CX0 3 f2 fd2 ["kind", "thing"] (spMayG))
    {f3 : Addr} {fd3 : FuncData} (D3 : Df K mg "is_word" sIsWord ["thing"] f3 fd3) (G3 : FnOk P w K mg base CX0 1 f3 fd3 ["thing"] (spD1 K wordD))
    {f4 : Addr} {fd4 : FuncData} (D4 : Df K mg "is_row" sIsRow ["thing"] f4 fd4) (G4 : FnOk P w K mg base CX0 1 f4 fd4 ["thing"] (spD1 K rowD))
    (T : Bt mg) : FnOk P w K mg base CX0 4 f fd ["thing", "shapes"] (spFormedG α K) := by
  refine F.F.ok scIsFormed (fun vs H Q E h => ?_) (fun cdv A outer s H vs Q E hr h => ?_)
  · obtain ⟨v, d, t, rfl, _⟩ := h
    rfl
  · obtain ⟨v, d, t, rfl, hd, hv, ok, k⟩ := h
    have hu := hu_of hr
    refine ⟨_, (pss_cons (ps_if (PW.pt (pw_or (pt_not (pt_val (pe_call G4 (hr.mono (by decide)) (by rfl) D4.g D4.F.kp D4.b .nil pass0 (pa_cons (pv 0) pa_nil)))) (pw_or (pt_cmpR op_eq (pe_callB call_len_seq (by rfl) T.len PySem.boot_len (pa_cons (pv 0) pa_nil)) pe_int (nomark _)) (pw_or (pt_not (pt_val (pe_call G3 (hr.mono (by decide)) (by rfl) D3.g D3.F.kp D3.b .nil pass0 (pa_cons (pe_ix ix_tup (pv 0) pe_int (fun _ _ => rfl)) pa_nil)))) (pw_or1 (pt_cmp (pc_dnotin hu (pe_ix ix_tup (pv 0) pe_int (fun _ _ => rfl)) (pv 1)))))))) (pss_one (ps_ret pe_bl)) pss_nil)
      (pss_cons (ps_set (i := 2) scIsFormed.nd rfl (Or.inl rfl) (pe_dget hu (pv 1) (pe_ix ix_tup (pv 0) pe_int (fun _ _ => rfl)) (fun _ _ => rfl)))
      (pss_cons (ps_if (pt_cmpR op_ne (pe_callB call_len_seq (by rfl) T.len PySem.boot_len (pa_cons (pv 0) pa_nil)) (pe_op op_add pe_int (pe_callB call_len_str (by rfl) T.len PySem.boot_len (pa_cons (pv 2) pa_nil))) (nomark _)) (pss_one (ps_ret pe_bl)) pss_nil)
      (pss_one (ps_ret (pe_and (pe_callB (cr_all rfl) (by rfl) T.all (by decide +kernel) (pa_cons (pe_lc (own := [("kind", 3), ("item", 4)]) (g := gTup K 2 (gCons (gName 3) (gCons (gName 4) gNil))) (tt := tYes) rfl scIsFormed.nd (pi_zipS (by rfl) T.zip (pa_cons (pv 2) (pa_cons (pe_slice sl_any (pv 0) (po_some pe_int) po_none) pa_nil))) (blkOk_by (N := nsIsFormed) (sc := defScope sIsFormed) (by decide +kernel)) (fun _ _ _ _ _ => pg_tup rfl (pgs_cons (pg_name (i := 3) scIsFormed.nd rfl (Or.inl rfl)) (pgs_cons (pg_name (i := 4) scIsFormed.nd rfl (Or.inl rfl)) pgs_nil))) (fun _ _ _ _ _ => pts_nil) (fun _ _ _ _ _ => (pe_call G2 (hr.mono (by decide)) (by rfl) D2.g D2.F.kp D2.b .nil pass0 (pa_cons (pv 3) (pa_cons (pv 4) pa_nil))))) pa_nil)) (pe_one (pe_call G1 (hr.mono (by decide)) (by rfl) D1.g D1.F.kp D1.b .nil pass0 (pa_cons (pv 0) pa_nil))))))))), ?_⟩
    obtain ⟨a, xs, rfl, hs, hx⟩ := tree_at hv
    have lx := hx.len
    have ls := shape_len t
    have s4 := shape_four t
    have gd : DGet H d (.str (word t)) (some (.str (shape t))) := by
      have := DGet.k (k := Sum.inr (word t)) hd
      rw [kv_at] at this
      exact this
    have hv2 := hv
    rw [toD_eq] at hv2
    refine ⟨_, rfl, .ref a, _, rfl, hv2, _, rfl, iteF ?_⟩
    refine ⟨_, rfl, a, _, rfl, .inr hs, rfl, _, rfl, ?_⟩
    rw [dec_int]
    refine iteFe (beq_eq_false_iff_ne.mpr (by rw [List.length_cons]; omega)) ⟨_, rfl, a, _, 0, _, rfl, rfl, hs, ati0, .str (word t), .str (word t), rfl, .str _, _, rfl, iteF ⟨_, rfl, a, _, 0, _, rfl, rfl, hs, ati0, _, rfl, d, _, rfl, gd, _, rfl, iteF ?_⟩⟩
    refine ⟨_, rfl, _, rfl, a, _, 0, _, rfl, rfl, hs, ati0, d, _, rfl, gd, ?_⟩
    refine ⟨_, rfl, a, _, rfl, .inr hs, _, rfl, (shape t), rfl, Nat.le_trans s4 (by decide), _, _, rfl, rfl, rfl, _, rfl, iteFe ?_ ?_⟩
    · rw [dec_int, beq_iff_eq.mpr]
      · rfl
      · rw [List.length_cons, lx, ← ls]
        show _ = 1 + (((shape t).cps.size : Nat) : Int)
        omega
    refine ⟨_, rfl, _, rfl, 1, rfl, a, _, rfl, hs, fun H1 b s1 hB => ?_⟩
    rw [show (1 : Int) = ((1 : Nat) : Int) from rfl, cutT_from] at hB
    have hB2 : SqT K H1 b xs := hB
    refine ⟨(shape t), b, _, rfl, hB2, fun D nD => lc_it (walk_zipS (x := (shape t)) (a := b) (xs := xs) (by omega)) (fun i H' => H' D = some (.lst ((List.replicate i true).map V.bl)) ∧ Same H1 H') ⟨upd_same, Same.new nD⟩ (fun i H' _ ⟨_, s2⟩ => s2.tup hB2) ?_ ?_⟩
    · rintro i v H2 H3 hi ⟨h1, s2⟩ ⟨t', x, y, rfl, ht, rfl, hx1, hy⟩
      obtain ⟨c, hc, rfl⟩ := Option.map_eq_some_iff.mp hx1
      have k2 := Same.new (o := .tup [V.str ⟨#[c]⟩, y]) ht
      refine ⟨t', _, rfl, SqT.of upd_same, rfl, _, _, rfl, _, _, rfl, rfl, rfl, ?_⟩
      dsimp only [tYes]
      rw [if_pos rfl]
      refine ⟨_, rfl, _, rfl, c, y, rfl, fitsV ok hx i c y hc hy, _, k2 _ _ h1, small1000 (by rw [List.length_map, List.length_replicate]; omega), ?_, same_upd nD (s2.trans k2)⟩
      rw [upd_same, List.replicate_succ', List.map_append]
      rfl
    · rintro H2 ⟨h1, s2⟩
      have s3 := s1.trans s2
      exact ⟨D, _, rfl, SqL.of h1, true, by simp, iteT ⟨_, rfl, a, (word t), xs, _, rfl, s3.tup hs, DpAll.same s3 hx, order t ok, k _ s3⟩⟩
end
end CS
set_option Elab.async false
set_option maxRecDepth 100000
set_option maxHeartbeats 8000000
set_option linter.unusedVariables false
set_option pp.maxSteps 6000
/-! terms that are formed as they should be -/
namespace CS
open PySem L2 RZ
open WTree
variable {α : Type} [WTree α]
abbrev ItmG (α : Type) := List Int × α
def itemG (p : ItmG α) : PyData := .tuple [rowD_ p.1, (toD p.2)]
theorem flatItemsG : ∀ l : List (ItmG α), flatDs (l.map itemG) = true
  | [] => rfl
  | p :: l => by
    have h1 := flatItemsG l
    have h2 : flatDs (p.1.map PyData.int) = true := flatDs_ints p.1
    show (flatD (itemG p) && flatDs (l.map itemG)) = true
    rw [h1, Bool.and_true]
    show (flatDs (p.1.map .int) && (flatD (toD p.2) && true)) = true
    rw [h2, flat p.2]
    rfl
def wsumG (l : List (ItmG α)) : Nat := (l.map fun p => words p.2).sum
theorem wsumG_len : ∀ l : List (ItmG α), l.length ≤ wsumG l
  | [] => Nat.zero_le _
  | p :: l => by
    have := wsumG_len l
    have := words_pos p.2
    simp only [wsumG, List.map_cons, List.sum_cons, List.length_cons] at *
    omega
theorem wsumG_app (l m : List (ItmG α)) : wsumG (l ++ m) = wsumG l + wsumG m := by simp [wsumG]
def kidsG (p : List Int) (t : α) : List (ItmG α) := ((kids t).map fun k => (p ++ [(k.1 : Int)], k.2)).reverse
theorem kidsG_sum (p : List Int) (t : α) : wsumG (kidsG p t) + 1 = words t := by
  rw [← kids_words t]
  unfold wsumG kidsG
  rw [List.map_reverse, List.sum_reverse, List.map_map]
  rfl
theorem dp_unsnocG {K : PySem.W.Frag} {H : Hp} : ∀ {vs : List V} {ds : List PyData} {v : V} {d : PyData}, vs.length = ds.length → DpAll K H (vs ++ [v]) (ds ++ [d]) → DpAll K H vs ds ∧ Dp K H v d
  | [], [], _, _, _, .cons a .nil => ⟨.nil, a⟩
  | x :: vs, y :: ds, _, _, l, .cons a b => by
    obtain ⟨h1, h2⟩ := dp_unsnocG (by simpa using l) b
    exact ⟨.cons a h1, h2⟩
section
variable {P : Program} {w : World} {K : PySem.W.Frag} {mg : Str → Option Value} {base : Heap}
def spFaultG (α : Type) [WTree α] (K : PySem.W.Frag) : Sp := fun vs H Q _ => ∃ v d, ∃ t : α, vs = [v, .ref d] ∧ H d = some (.dK (kv α)) ∧ Dp K H v (toD t) ∧ WTree.Ok t ∧ words t ≤ 20 ∧ height t ≤ 8 ∧ ∀ H', Same H H' → Q .non H'
abbrev nsFaultIn : List Str := ["whole", "shapes", "waiting", "many", "path", "thing", "places", "at"]
theorem scFaultIn : FnScope nsFaultIn ["whole", "shapes"] (defScope sFaultIn) := ⟨rfl, rfl, rfl, by decide +kernel, rfl, by decide +kernel, by decide +kernel⟩
theorem ok_fault_in {f : Addr} {fd : FuncData} (F : Df K mg "fault_in" sFaultIn ["whole", "shapes"] f fd)
    {f1 : Addr} {fd1 : FuncData} (D1 : Df K mg "kid_places" sKidPlaces ["shape"] f1 fd1) (G1 : FnOk P w K mg base CX0 1 f1 fd1 ["shape"] (spPlaces K))
    {f2 : Addr} {fd2 : FuncData} (D2 : Df K mg "is_formed" sIsFormed ["thing", "shapes"] f2 fd2) (G2 : FnOk P w K mg base CX0 4 f2 fd2 ["thing", "shapes"] (spFormedG α K))
    {t1 t2 : Tok} (gMW : mg "MOST_WORDS" = some (.int 20 t1)) (gMI : mg "MOST_WITHIN" = some (.int 8 t2)) (T : Bt mg) : FnOk P w K mg base CX0 5 f fd ["whole", "shapes"] (spFaultG α K) := by
  refine F.F.ok scFaultIn (fun vs H Q E h => ?_) (fun cdv A outer s H vs Q E hr h => ?_)
  · obtain ⟨v, d, t, rfl, _⟩ := h
    rfl
  · obtain ⟨v, d, t, rfl, hd, hv, ok, w20, h8, k⟩ := h
    have hu := hu_of hr
    refine ⟨_, (pss_cons (ps_set (i := 2) scFaultIn.nd rfl (Or.inl rfl) (pe_lst (pa_cons (pe_tup (pa_cons (pe_tup pa_nil) (pa_cons (pv 0) pa_nil))) pa_nil)))
      (pss_cons (ps_set (i := 3) scFaultIn.nd rfl (Or.inl rfl) pe_int)
      (pss_cons (ps_while PassesOwn.never (pt_truth (pv 2) (fun _ => rfl)) (pss_cons (ps_asg (pe_bm0 PySem.F.plainAttrs_list PySem.F.slot_list_pop PySem.F.type_list_pop mt_pop (pv 2)) (pg_tup rfl (pgs_cons (pg_name (i := 4) scFaultIn.nd rfl (Or.inr rfl)) (pgs_cons (pg_name (i := 5) scFaultIn.nd rfl (Or.inr rfl)) pgs_nil))))
      (pss_cons (ps_aug (i := 3) scFaultIn.nd rfl (Or.inl rfl) pe_int ip_add)
      (pss_cons (ps_if (PW.pt (pw_or (pt_cmpR op_gt (pv 3) (pe_glob (v := .int 20) (by rfl) gMW ⟨_, rfl⟩) (nomark _)) (pw_or1 (pt_cmpR op_eq (pe_callB call_len_seq (by rfl) T.len PySem.boot_len (pa_cons (pv 4) pa_nil)) (pe_glob (v := .int 8) (by rfl) gMI ⟨_, rfl⟩) (nomark _))))) (pss_one (ps_ret (pe_tup pa_nil))) pss_nil)
      (pss_cons (ps_if (pt_not (pt_val (pe_call G2 (hr.mono (by decide)) (by rfl) D2.g D2.F.kp D2.b .nil pass0 (pa_cons (pv 5) (pa_cons (pv 1) pa_nil))))) (pss_one (ps_ret (pv 4))) pss_nil)
      (pss_cons (ps_set (i := 6) scFaultIn.nd rfl (Or.inl rfl) (pe_call G1 (hr.mono (by decide)) (by rfl) D1.g D1.F.kp D1.b .nil pass0 (pa_cons (pe_dget hu (pv 1) (pe_ix ix_tup (pv 5) pe_int (fun _ _ => rfl)) (fun _ _ => rfl)) pa_nil)))
      (pss_one (ps_expr (pe_bm PySem.F.plainAttrs_list PySem.F.slot_list_extend PySem.F.type_list_extend mt_extend (pv 2) (pa_cons (pe_lc (own := [("at", 7)]) (g := gName 7) (tt := tYes) rfl scFaultIn.nd (pi_list (pe_revL (pv 6))) (blkOk_by (N := nsFaultIn) (sc := defScope sFaultIn) (by decide +kernel)) (fun _ _ _ _ _ => pg_name (i := 7) scFaultIn.nd rfl (Or.inl rfl)) (fun _ _ _ _ _ => pts_nil) (fun _ _ _ _ _ => (pe_tup (pa_cons (show PE _ _ (tTup (StX.tStar K (tVar 4) (tCons (tVar 7) tNil))) from pe_tup (StX.pa_star (pv 4) (pa_cons (pv 7) pa_nil))) (pa_cons (pe_ix (r := rIxT K) ix_tup (pv 5) (pv 7) (fun _ _ => rfl)) pa_nil))))) pa_nil))))))))))
      (pss_one (ps_ret pe_non))))), ?_⟩
    refine ⟨(by show 0 ≤ sizeLine; decide), fun e1 n1 => ⟨_, rfl, (by show 2 ≤ sizeLine; decide), fun e2 n2 => ⟨(by show 1 ≤ sizeLine; decide), fun l1 m1 => ?_⟩⟩⟩
    have g1 := Same.new (o := .tup []) n1
    have g2 := Same.new (o := .tup [V.ref e1, v]) n2
    have g3 := Same.new (o := .lst [V.ref e2]) m1
    have s0 := (g1.trans g2).trans g3
    have nl : H l1 = none := by
      cases e : H l1 with
      | none => rfl
      | some o =>
        have := (g1.trans g2) _ _ e
        rw [m1] at this
        cases this
    have i0 : DpAll K (upd (upd (upd H e1 (.tup [])) e2 (.tup [V.ref e1, v])) l1 (.lst [V.ref e2])) [V.ref e2] (List.map itemG [([], t)]) := .cons (.tup (g3.tup (SqT.of upd_same)) (.cons (.tup ((g2.trans g3).tup (SqT.of upd_same)) .nil) (.cons (Dp.same s0 hv) .nil))) .nil
    have h0 : (upd (upd (upd H e1 (.tup [])) e2 (.tup [V.ref e1, v])) l1 (.lst [V.ref e2])) l1 = some (.lst [V.ref e2]) := upd_same
    generalize upd (upd (upd H e1 (.tup [])) e2 (.tup [V.ref e1, v])) l1 (.lst [V.ref e2]) = H0 at *
    refine ⟨fun m σ H' => ∃ v4 v5 v6 v7 ws its, ∃ done : Nat, σ = [some v, some (.ref d), some (.ref l1), some (.int done), v4, v5, v6, v7] ∧ Same H H' ∧ H' l1 = some (.lst ws) ∧ DpAll K H' ws (its.map itemG) ∧ wsumG its + done ≤ 20 ∧ (∀ it ∈ its, WTree.Ok it.2 ∧ it.1.length + height it.2 ≤ 8) ∧ m = wsumG its,
      ⟨_, none, none, none, none, [V.ref e2], [([], t)], 0, rfl, s0, h0, i0, by simpa [wsumG] using w20, fun it hit => by
        rw [List.mem_singleton.mp hit]
        exact ⟨ok, by simpa using h8⟩, rfl⟩, ?_⟩
    rintro m σ H1 ⟨v4, v5, v6, v7, ws, its, done, rfl, s1, hl, hw, wd, each, rfl⟩
    have lw := hw.len
    rw [List.length_map] at lw
    refine ⟨_, rfl, _, .inl ⟨ws, SqL.of hl, rfl⟩, ?_⟩
    rcases List.eq_nil_or_concat its with rfl | ⟨its', ⟨p, t1⟩, rfl⟩
    · obtain rfl : ws = [] := List.length_eq_zero_iff.mp lw
      exact iteF (k _ s1)
    rw [List.concat_eq_append] at *
    rcases List.eq_nil_or_concat ws with rfl | ⟨ws', y, rfl⟩
    · rw [List.length_append] at lw
      cases lw
    rw [List.concat_eq_append] at *
    refine iteTe (by simp) ?_
    obtain ⟨hw', dy⟩ := dp_unsnocG (K := K) (H := H1) (ds := its'.map itemG) (by simpa using lw) (by simpa using hw)
    obtain ⟨pa, xp, rfl, hpa, hxp⟩ := dy.tup_inv
    obtain ⟨x1, u, rfl, d1, d2⟩ : ∃ x1 u, xp = [x1, u] ∧ Dp K H1 x1 (rowD_ p) ∧ Dp K H1 u (toD t1) := by
      cases hxp with
      | cons a b =>
        cases b with
        | cons a2 b2 =>
          cases b2
          exact ⟨_, _, rfl, a, a2⟩
    obtain ⟨q, xq, rfl, hq, hxq⟩ := d1.tup_inv
    obtain rfl := DpAll.of_ints hxq
    obtain ⟨a1, x5, rfl, ha1, hx5⟩ := tree_at d2
    obtain ⟨ok1, h81⟩ := each (p, t1) (by simp)
    have hp1 := height_pos t1
    have wp1 := words_pos t1
    have ws1 : wsumG (its' ++ [(p, t1)]) = wsumG its' + words t1 := by simp [wsumG]
    dsimp only at ok1 h81
    refine ⟨_, fun σ' H' h => h, ?_⟩
    refine ⟨_, rfl, .inl ⟨rfl, _, SqL.of hl⟩, l1, _, .ref pa, rfl, rfl, hl, by simp, ?_⟩
    rw [List.dropLast_concat]
    have k2 : TK K H1 (upd H1 l1 (.lst ws')) := tk_lst hl
    have s2 : Same H (upd H1 l1 (.lst ws')) := same_upd nl s1
    have hl2 : (upd H1 l1 (.lst ws')) l1 = some (.lst ws') := upd_same
    have hpa2 := k2 _ _ hpa
    have hq2 := k2 _ _ hq
    have ha2 := k2 _ _ ha1
    have d22 := Dp.tk k2 (flat t1) d2
    have hw2 := DpAll.tk k2 (flatItemsG its') hw'
    have hx52 := DpAll.tk k2 (restFlat t1) hx5
    generalize upd H1 l1 (.lst ws') = H2 at *
    refine ⟨pa, _, rfl, hpa2, rfl, _, _, rfl, _, _, rfl, rfl, _, rfl, _, _, rfl, rfl, ?_⟩
    refine ⟨_, rfl, _, _, rfl, rfl, _, rfl, iteFe (decide_eq_false (by show ¬ (20 < (done : Int) + 1); omega)) ⟨_, rfl, q, _, rfl, .inr hq2, rfl, _, rfl, ?_⟩⟩
    rw [dec_int]
    refine iteFe (beq_eq_false_iff_ne.mpr (by rw [List.length_map]; omega)) ?_
    refine ⟨_, rfl, _, rfl, .ref a1, d, t1, rfl, s2 _ _ hd, d22, ok1, fun H3 s3 => ⟨_, rfl, iteF ?_⟩⟩
    have gd : DGet H3 d (.str (word t1)) (some (.str (shape t1))) := by
      have := DGet.k (k := Sum.inr (word t1)) (s3 _ _ (s2 _ _ hd))
      rw [kv_at] at this
      exact this
    refine ⟨_, rfl, _, rfl, a1, _, 0, _, rfl, rfl, s3.tup ha2, ati0, d, _, rfl, gd, (shape t1), rfl, Nat.le_trans (shape_four t1) (by decide), fun D H4 s4 hD => ?_⟩
    rw [places] at hD
    refine ⟨_, rfl, .inl ⟨rfl, ws', SqL.of (s4 _ _ (s3 _ _ hl2))⟩, _, rfl, D, _, rfl, hD, fun D2 n2 => ⟨D2, rfl, ⟨_, SqL.of upd_same⟩, fun L nL => ?_⟩⟩
    have s5 := (s3.trans s4).trans (Same.new (o := .lst (List.map V.int (List.map (fun k => (k.1 : Int)) (kids t1))).reverse) n2)
    have hD2 : (upd H4 D2 (.lst (List.map V.int (List.map (fun k => (k.1 : Int)) (kids t1))).reverse)) D2 = some (.lst ((kids t1).reverse.map fun k => V.int (k.1 : Int))) := by
      rw [upd_same, List.map_map, List.map_reverse]
      rfl
    have gone : ∀ {H' : Hp}, Same (upd H4 D2 (.lst (List.map V.int (List.map (fun k => (k.1 : Int)) (kids t1))).reverse)) H' → Same H2 H' := fun s => s5.trans s
    generalize upd H4 D2 (.lst (List.map V.int (List.map (fun k => (k.1 : Int)) (kids t1))).reverse) = H5 at *
    have few : (kids t1).length ≤ 20 := by
      have e1 : (kidsG p t1).length = (kids t1).length := by simp [kidsG]
      have := wsumG_len (kidsG p t1)
      have := kidsG_sum p t1
      omega
    refine lc_it (walk_list (K := K) (a := D2) (xs := (kids t1).reverse.map fun k => V.int (k.1 : Int))) (fun i H' => ∃ us, H' L = some (.lst us) ∧ Same H5 H' ∧ DpAll K H' us (((kidsG p t1).take i).map itemG)) ⟨[], upd_same, Same.new nL, .nil⟩ (fun i H' _ ⟨_, _, s, _⟩ => s.seq (SqL.of hD2)) ?_ ?_
    · rintro i x H6 H7 hi ⟨us, h6, s6, c6⟩ ⟨rfl, hx⟩
      rw [List.getElem?_map] at hx
      obtain ⟨kd, hk, rfl⟩ := Option.map_eq_some_iff.mp hx
      have mem : kd ∈ (kids t1) := List.mem_reverse.mp (List.mem_of_getElem? hk)
      have hk2 : (kidsG p t1)[i]? = some (p ++ [(kd.1 : Int)], kd.2) := by
        unfold kidsG
        rw [← List.map_reverse, List.getElem?_map, hk]
        rfl
      have s26 := gone s6
      have hx56 := DpAll.same s26 hx52
      obtain ⟨child, hc, dc⟩ := DpAll.at (K := K) (H := H7) (vs := .str (word t1) :: x5) (ds := .str (word t1) :: (rest t1)) (.cons (.str _) hx56) (kids_at t1 kd mem)
      have lu := c6.len
      rw [List.length_map, List.length_take] at lu
      have hlen : (kidsG p t1).length = (kids t1).length := by simp [kidsG]
      refine ⟨rfl, ?_⟩
      dsimp only [tYes]
      rw [if_pos rfl]
      refine ⟨_, rfl, q, _, rfl, .inl (s26.tup hq2), _, rfl, ?_⟩
      refine ⟨(by rw [List.length_append, List.length_map]; exact Nat.le_trans (show _ ≤ 100 by simp; omega) (by decide)), fun b nb => ⟨_, rfl, _, rfl, a1, _, (kd.1 : Int), child, rfl, rfl, (s26.trans (Same.new nb)).tup ha2, atI_nat hc, ?_⟩⟩
      refine ⟨(by show 2 ≤ sizeLine; decide), fun c nc => ?_⟩
      have k6 := Same.new (o := .tup (p.map V.int ++ [V.int (kd.1 : Int)])) nb
      have k7 := Same.new (o := .tup [V.ref b, child]) nc
      have k8 := k6.trans k7
      refine ⟨us, k8 _ _ h6, small1000 (by omega), us ++ [.ref c], upd_same, same_upd nL (s6.trans k8), ?_⟩
      rw [take_snoc hk2, List.map_append]
      refine DpAll.tk (tk_lst (k8 _ _ h6)) ?_ (DpAll.app (DpAll.same k8 c6) (.cons (.tup (SqT.of upd_same) (.cons (.tup (k7.tup (SqT.of upd_same)) ?_) (.cons (Dp.same k8 dc) .nil))) .nil))
      · rw [← List.map_append]
        exact flatItemsG _
      · have := DpAll.ints (K := K) (H := upd (upd H7 b (.tup (p.map V.int ++ [V.int (kd.1 : Int)]))) c (.tup [V.ref b, child])) (p ++ [(kd.1 : Int)])
        rw [List.map_append] at this
        exact this
    · rintro H6 ⟨us, h6, s6, c6⟩
      have hlen : (kidsG p t1).length = (kids t1).length := by simp [kidsG]
      rw [List.length_map, List.length_reverse, ← hlen, List.take_length] at c6
      have lu := c6.len
      rw [List.length_map, hlen] at lu
      have lw2 := hw2.len
      rw [List.length_map] at lw2
      have li := wsumG_len its'
      have ks := kidsG_sum p t1
      have s26 := gone s6
      have hl6 := s26 _ _ hl2
      refine ⟨l1, L, ws', us, rfl, rfl, hl6, h6, Nat.le_trans (show _ ≤ 100 by omega) (by decide), wsumG (its' ++ kidsG p t1), by rw [wsumG_app]; omega, _, _, _, _, ws' ++ us, its' ++ kidsG p t1, done + 1, rfl, same_upd nl (s2.trans s26), upd_same, ?_, by rw [wsumG_app]; omega, fun it hit => ?_, rfl⟩
      · rw [List.map_append]
        refine DpAll.tk (tk_lst hl6) ?_ (DpAll.app (DpAll.same s26 hw2) c6)
        rw [← List.map_append]
        exact flatItemsG _
      · rcases List.mem_append.mp hit with h | h
        · exact each it (List.mem_append.mpr (.inl h))
        · obtain ⟨kd, mem, rfl⟩ := List.mem_map.mp (List.mem_reverse.mp h)
          have := kids_height t1 kd mem
          refine ⟨kids_ok t1 ok1 kd mem, ?_⟩
          rw [List.length_append]
          show p.length + 1 + height kd.2 ≤ 8
          omega
end
end CS
set_option Elab.async false
set_option maxRecDepth 100000
set_option maxHeartbeats 8000000
set_option linter.unusedVariables false
/-! mixes, by words -/
namespace CS
open PySem L2
inductive Mx
  | point_ (m a b : Int) | none_ | mixed_ (s t : Mx) | moved_ (s : Mx) (n : Int) | scaled_ (s : Mx) (a b : Int) | spread_ (s : Mx) (m l h : Int) | drawn_ (s : Mx) (l h : Int)
namespace Mx
def toD : Mx → PyData
  | point_ m a b => .tuple [.str "point", .int m, .int a, .int b]
  | none_ => .tuple [.str "none"]
  | mixed_ s t => .tuple [.str "mixed", s.toD, t.toD]
  | moved_ s n => .tuple [.str "moved", s.toD, .int n]
  | scaled_ s a b => .tuple [.str "scaled", s.toD, .int a, .int b]
  | spread_ s m l h => .tuple [.str "spread", s.toD, .int m, .int l, .int h]
  | drawn_ s l h => .tuple [.str "drawn", s.toD, .int l, .int h]
def word : Mx → Str
  | point_ .. => "point" | none_ => "none" | mixed_ .. => "mixed" | moved_ .. => "moved" | scaled_ .. => "scaled" | spread_ .. => "spread" | drawn_ .. => "drawn"
def shape : Mx → Str
  | point_ .. => "XAA" | none_ => "" | mixed_ .. => "SS" | moved_ .. => "SM" | scaled_ .. => "SAA" | spread_ .. => "SXXX" | drawn_ .. => "SXX"
def rest : Mx → List PyData
  | point_ m a b => [.int m, .int a, .int b]
  | none_ => []
  | mixed_ s t => [s.toD, t.toD]
  | moved_ s n => [s.toD, .int n]
  | scaled_ s a b => [s.toD, .int a, .int b]
  | spread_ s m l h => [s.toD, .int m, .int l, .int h]
  | drawn_ s l h => [s.toD, .int l, .int h]
def kids : Mx → List (Nat × Mx)
  | mixed_ s t => [(1, s), (2, t)]
  | moved_ s _ => [(1, s)]
  | scaled_ s .. => [(1, s)]
  | spread_ s .. => [(1, s)]
  | drawn_ s .. => [(1, s)]
  | _ => []
def words : Mx → Nat
  | mixed_ s t => s.words + t.words + 1
  | moved_ s _ => s.words + 1
  | scaled_ s .. => s.words + 1
  | spread_ s .. => s.words + 1
  | drawn_ s .. => s.words + 1
  | _ => 1
def height : Mx → Nat
  | mixed_ s t => max s.height t.height + 1
  | moved_ s _ => s.height + 1
  | scaled_ s .. => s.height + 1
  | spread_ s .. => s.height + 1
  | drawn_ s .. => s.height + 1
  | _ => 1
def okX (n : Int) : Prop := -100 ≤ n ∧ n ≤ 100
def okA (n : Int) : Prop := 1 ≤ n ∧ n ≤ 1000
def Ok : Mx → Prop
  | point_ m a b => okX m ∧ okA a ∧ okA b
  | none_ => True
  | mixed_ s t => s.Ok ∧ t.Ok
  | moved_ s n => s.Ok ∧ -200 ≤ n ∧ n ≤ 200
  | scaled_ s a b => s.Ok ∧ okA a ∧ okA b
  | spread_ s m l h => s.Ok ∧ okX m ∧ okX l ∧ okX h ∧ l < m ∧ m < h
  | drawn_ s l h => s.Ok ∧ okX l ∧ okX h ∧ l ≤ h
def codes : Mx → List Nat
  | point_ .. => [88, 65, 65] | none_ => [] | mixed_ .. => [83, 83] | moved_ .. => [83, 77] | scaled_ .. => [83, 65, 65] | spread_ .. => [83, 88, 88, 88] | drawn_ .. => [83, 88, 88]
theorem codes_eq (t : Mx) : t.shape.cps = t.codes.toArray := by cases t <;> rfl
theorem flat_ (t : Mx) : flatD t.toD = true := by
  induction t <;> simp_all [toD, flatD, flatDs]
theorem fits_ {t : Mx} (ok : t.Ok) {i c : Nat} {d : PyData} (hc : t.codes[i]? = some c) (hd : t.rest[i]? = some d) : FitG c d := by
  cases t <;> simp only [codes, rest, Ok, okX, okA] at hc hd ok <;> rcases i with _ | _ | _ | _ | i <;> simp at hc hd <;> subst hc <;> subst hd
  all_goals first
    | exact .inl rfl
    | exact .inr ⟨_, _, _, by rfl, rfl, by omega, by omega⟩
end Mx
abbrev mxKV : List (Key × V) := [(Sum.inr "point", .str "XAA"), (Sum.inr "none", .str ""), (Sum.inr "mixed", .str "SS"), (Sum.inr "moved", .str "SM"), (Sum.inr "scaled", .str "SAA"), (Sum.inr "spread", .str "SXXX"), (Sum.inr "drawn", .str "SXX")]
instance : WTree Mx where
  toD := Mx.toD
  word := Mx.word
  shape := Mx.shape
  rest := Mx.rest
  kids := Mx.kids
  words := Mx.words
  height := Mx.height
  Ok := Mx.Ok
  kv := mxKV
  toD_eq t := by cases t <;> rfl
  flat := Mx.flat_
  shape_len t := by
    rw [Mx.codes_eq]
    cases t <;> rfl
  shape_four t := by
    rw [Mx.codes_eq]
    cases t <;> simp [Mx.codes]
  places t := by cases t <;> simp only [Mx.shape, Mx.kids, List.map_nil, List.map_cons] <;> decide +kernel
  kids_at t := by
    cases t <;> (intro k hk; simp only [Mx.kids, List.mem_cons, List.not_mem_nil, or_false] at hk)
    all_goals (first | (rcases hk with rfl | rfl <;> rfl) | (rcases hk with rfl; rfl))
  kids_height t := by
    cases t <;> (intro k hk; simp only [Mx.kids, List.mem_cons, List.not_mem_nil, or_false] at hk)
    all_goals (first | ((rcases hk with rfl | rfl <;> simp only [Mx.height] <;> omega)) | (rcases hk with rfl; simp only [Mx.height]; omega))
  kids_ok t ok := by
    cases t <;> (intro k hk; simp only [Mx.kids, List.mem_cons, List.not_mem_nil, or_false] at hk)
    all_goals (simp only [Mx.Ok] at ok)
    all_goals (first | (rcases hk with rfl | rfl <;> simp_all) | (rcases hk with rfl; simp_all))
  kids_words t := by cases t <;> simp [Mx.kids, Mx.words] <;> omega
  height_pos t := by cases t <;> simp only [Mx.height] <;> omega
  fits t ok i c d hc hd := by
    rw [Mx.codes_eq] at hc
    exact Mx.fits_ ok (by simpa using hc) hd
  order t ok := by
    cases t
    case spread_ s m l h =>
      obtain ⟨_, _, _, _, h1, h2⟩ := ok
      exact ⟨fun _ => ⟨s.toD, m, l, h, rfl, h1, h2⟩, fun e => absurd e (by show ¬ (("spread" : Str) = "drawn"); decide +kernel)⟩
    case drawn_ s l h =>
      obtain ⟨_, _, _, h1⟩ := ok
      exact ⟨fun e => absurd e (by show ¬ (("drawn" : Str) = "spread"); decide +kernel), fun _ => ⟨s.toD, l, h, rfl, h1⟩⟩
    all_goals exact ⟨fun e => absurd e (by simp only [Mx.word]; decide +kernel), fun e => absurd e (by simp only [Mx.word]; decide +kernel)⟩
  kv_at t := by cases t <;> simp only [Mx.word, Mx.shape] <;> decide +kernel
end CS
set_option Elab.async false
set_option maxRecDepth 100000
set_option maxHeartbeats 8000000
set_option linter.unusedVariables false
set_option pp.maxSteps 6000
/-! shares moved, multiplied -/
namespace CS
open PySem L2 RZ
section
variable {P : Program} {w : World} {K : PySem.W.Frag} {mg : Str → Option Value} {base : Heap}
abbrev nsMultiplied : List Str := ["one", "other"]
theorem scMultiplied : FnScope nsMultiplied ["one", "other"] (defScope sMultiplied) := ⟨rfl, rfl, rfl, by decide +kernel, rfl, by decide +kernel, by decide +kernel⟩
theorem ok_multiplied {f : Addr} {fd : FuncData} (F : Df K mg "multiplied" sMultiplied ["one", "other"] f fd)
    {f1 : Addr} {fd1 : FuncData} (D1 : Df K mg "lowered" sLowered ["top", "bottom"] f1 fd1) (G1 : FnOk P w K mg base CX0 1 f1 fd1 ["top", "bottom"] (spLow)) : FnOk P w K mg base CX0 2 f fd ["one", "other"] (spF2 K (fun _ _ => True) fmul) := by
  refine F.F.ok scMultiplied (fun vs H Q E h => ?_) (fun cdv A outer s H vs Q E hr h => ?_)
  · obtain ⟨p, q, x, y, rfl, _⟩ := h
    rfl
  · obtain ⟨p, q, x, y, rfl, hp, hq, hx, hy, zx, zy, _, k⟩ := h
    refine ⟨_, (pss_one (ps_ret (pe_call G1 (hr.mono (by decide)) (by rfl) D1.g D1.F.kp D1.b .nil pass0 (pa_cons (pe_op op_mulW (pe_ix ix_tup (pv 0) pe_int (fun _ _ => rfl)) (pe_ix ix_tup (pv 1) pe_int (fun _ _ => rfl))) (pa_cons (pe_op op_mulW (pe_ix ix_tup (pv 0) pe_int (fun _ _ => rfl)) (pe_ix ix_tup (pv 1) pe_int (fun _ _ => rfl))) pa_nil))))), ?_⟩
    refine ⟨_, rfl, p, _, 0, _, rfl, rfl, hp, atI_nat (j := 0) rfl, _, rfl, q, _, 0, _, rfl, rfl, hq, atI_nat (j := 0) rfl, _, _, rfl, rfl, cmw zx.1 zy.1, ?_⟩
    refine ⟨_, rfl, p, _, 1, _, rfl, rfl, hp, atI_nat (j := 1) rfl, _, rfl, q, _, 1, _, rfl, rfl, hq, atI_nat (j := 1) rfl, _, _, rfl, rfl, cmw zx.2 zy.2, ?_⟩
    exact ⟨_, _, rfl, Int.ne_of_gt (Int.mul_pos hx.pos hy.pos), lt_up (abs_mul_lt zx.1 zy.1) (by decide), lt_up (abs_mul_lt zx.2 zy.2) (by decide), fun r hr => k r hr⟩
abbrev nsDivided : List Str := ["one", "other"]
theorem scDivided : FnScope nsDivided ["one", "other"] (defScope sDivided) := ⟨rfl, rfl, rfl, by decide +kernel, rfl, by decide +kernel, by decide +kernel⟩
theorem ok_divided {f : Addr} {fd : FuncData} (F : Df K mg "divided" sDivided ["one", "other"] f fd)
    {f1 : Addr} {fd1 : FuncData} (D1 : Df K mg "lowered" sLowered ["top", "bottom"] f1 fd1) (G1 : FnOk P w K mg base CX0 1 f1 fd1 ["top", "bottom"] (spLow)) : FnOk P w K mg base CX0 2 f fd ["one", "other"] (spF2 K (fun _ y => 0 < y.1) fdiv) := by
  refine F.F.ok scDivided (fun vs H Q E h => ?_) (fun cdv A outer s H vs Q E hr h => ?_)
  · obtain ⟨p, q, x, y, rfl, _⟩ := h
    rfl
  · obtain ⟨p, q, x, y, rfl, hp, hq, hx, hy, zx, zy, y0, k⟩ := h
    refine ⟨_, (pss_one (ps_ret (pe_call G1 (hr.mono (by decide)) (by rfl) D1.g D1.F.kp D1.b .nil pass0 (pa_cons (pe_op op_mulW (pe_ix ix_tup (pv 0) pe_int (fun _ _ => rfl)) (pe_ix ix_tup (pv 1) pe_int (fun _ _ => rfl))) (pa_cons (pe_op op_mulW (pe_ix ix_tup (pv 0) pe_int (fun _ _ => rfl)) (pe_ix ix_tup (pv 1) pe_int (fun _ _ => rfl))) pa_nil))))), ?_⟩
    refine ⟨_, rfl, p, _, 0, _, rfl, rfl, hp, atI_nat (j := 0) rfl, _, rfl, q, _, 1, _, rfl, rfl, hq, atI_nat (j := 1) rfl, _, _, rfl, rfl, cmw zx.1 zy.2, ?_⟩
    refine ⟨_, rfl, p, _, 1, _, rfl, rfl, hp, atI_nat (j := 1) rfl, _, rfl, q, _, 0, _, rfl, rfl, hq, atI_nat (j := 0) rfl, _, _, rfl, rfl, cmw zx.2 zy.1, ?_⟩
    exact ⟨_, _, rfl, Int.ne_of_gt (Int.mul_pos hx.pos y0), lt_up (abs_mul_lt zx.1 zy.2) (by decide), lt_up (abs_mul_lt zx.2 zy.1) (by decide), fun r hr => k r hr⟩
/-- each mark moved -/
def mvd (n : Int) (xs : List (Int × Fx)) : List (Int × Fx) := xs.map fun a => (a.1 + n, a.2)
/-- each weight times a fraction -/
def tms (y : Fx) (xs : List (Int × Fx)) : List (Int × Fx) := xs.map fun a => (a.1, fmul a.2 y)
def spMoved (K : PySem.W.Frag) : Sp := fun vs H Q _ => ∃ p xs n, vs = [.ref p, .int n] ∧ ShAt K H p xs ∧ xs.length ≤ 900 ∧ ∀ H' r, Same H H' → ShZ K H' r (mvd n xs) → Q (.ref r) H'
abbrev nsMoved : List Str := ["share", "by", "number", "weight"]
theorem scMoved : FnScope nsMoved ["share", "by"] (defScope sMoved) := ⟨rfl, rfl, rfl, by decide +kernel, rfl, by decide +kernel, by decide +kernel⟩
theorem ok_moved {f : Addr} {fd : FuncData} (F : Df K mg "moved" sMoved ["share", "by"] f fd)
    (T : Bt mg) : FnOk P w K mg base CX0 1 f fd ["share", "by"] (spMoved K) := by
  refine F.F.ok scMoved (fun vs H Q E h => ?_) (fun cdv A outer s H vs Q E hr h => ?_)
  · obtain ⟨p, xs, n, rfl, _⟩ := h
    rfl
  · obtain ⟨p, xs, n, rfl, hp, few, k⟩ := h
    refine ⟨_, (pss_one (ps_ret (pe_callTy call_tuple_ofZ (by rfl) T.tuple (by decide +kernel) (pa_cons (pe_lc (own := [("number", 2), ("weight", 3)]) (g := gTup K 2 (gCons (gName 2) (gCons (gName 3) gNil))) (tt := tYes) rfl scMoved.nd (pi_tup (pv 0)) (blkOk_by (N := nsMoved) (sc := defScope sMoved) (by decide +kernel)) (fun _ _ _ _ _ => pg_tup rfl (pgs_cons (pg_name (i := 2) scMoved.nd rfl (Or.inl rfl)) (pgs_cons (pg_name (i := 3) scMoved.nd rfl (Or.inl rfl)) pgs_nil))) (fun _ _ _ _ _ => pts_nil) (fun _ _ _ _ _ => (pe_tup (pa_cons (pe_op op_add (pv 2) (pv 1)) (pa_cons (pv 3) pa_nil))))) pa_nil)))), ?_⟩
    obtain ⟨vs, hv, hP⟩ := hp
    have lv := hP.len
    refine ⟨_, rfl, p, rfl, ⟨_, hv⟩, fun D nD => lc_it (walk_tup (K := K) (a := p) (xs := vs)) (fun i H' => ∃ us, H' D = some (.lst us) ∧ Same H H' ∧ PrsAt K H' us (mvd n (xs.take i))) ⟨[], upd_same, Same.new nD, .nil⟩ (fun i H' _ ⟨_, _, s, _⟩ => s.tup hv) ?_ ?_⟩
    · rintro i x H2 H3 hi ⟨us, h2, s2, c2⟩ ⟨rfl, hx⟩
      obtain ⟨q, r, m, y, rfl, hm, hq, hr⟩ := hP.get hx
      have lu := c2.len
      unfold mvd at lu
      rw [List.length_map, List.length_take] at lu
      refine ⟨q, _, rfl, s2.tup hq, rfl, _, _, rfl, _, _, rfl, rfl, rfl, ?_⟩
      dsimp only [tYes]
      rw [if_pos rfl]
      refine ⟨_, rfl, _, rfl, _, _, rfl, rfl, _, rfl, (by show 2 ≤ sizeLine; decide), fun b nb => ?_⟩
      have k4 := Same.new (o := .tup [V.int (m + n), V.ref r]) nb
      refine ⟨us, k4 _ _ h2, small1000 (by omega), us ++ [.ref b], upd_same, same_upd nD (s2.trans k4), ?_⟩
      unfold mvd
      rw [take_snoc hm, List.map_append]
      exact ((c2.tk (tk_same k4)).app (.cons (SqT.of upd_same) ((s2.trans k4).tup hr) .nil)).tk (tk_lst (k4 _ _ h2))
    · rintro H2 ⟨us, h2, s2, c2⟩
      rw [lv, List.take_length] at c2
      refine ⟨D, us, rfl, SqL.of h2, fun l ob nl od => k _ l (s2.trans (Same.new nl)) ⟨us, ⟨ob, od, upd_same⟩, c2.tk (tk_same (Same.new nl))⟩⟩
def spTimes (K : PySem.W.Frag) : Sp := fun vs H Q _ => ∃ p xs q y, vs = [.ref p, .ref q] ∧ ShAt K H p xs ∧ AllF 1900 xs ∧ FT K H q y ∧ Fr y ∧ Sz 1900 y ∧ xs.length ≤ 900 ∧ ∀ H' r, Same H H' → ShZ K H' r (tms y xs) → Q (.ref r) H'
abbrev nsMultipliedAll : List Str := ["share", "fraction", "number", "weight"]
theorem scMultipliedAll : FnScope nsMultipliedAll ["share", "fraction"] (defScope sMultipliedAll) := ⟨rfl, rfl, rfl, by decide +kernel, rfl, by decide +kernel, by decide +kernel⟩
theorem ok_multiplied_all {f : Addr} {fd : FuncData} (F : Df K mg "multiplied_all" sMultipliedAll ["share", "fraction"] f fd)
    {f1 : Addr} {fd1 : FuncData} (D1 : Df K mg "multiplied" sMultiplied ["one", "other"] f1 fd1) (G1 : FnOk P w K mg base CX0 2 f1 fd1 ["one", "other"] (spF2 K (fun _ _ => True) fmul))
    (T : Bt mg) : FnOk P w K mg base CX0 3 f fd ["share", "fraction"] (spTimes K) := by
  refine F.F.ok scMultipliedAll (fun vs H Q E h => ?_) (fun cdv A outer s H vs Q E hr h => ?_)
  · obtain ⟨p, xs, q0, y0, rfl, _⟩ := h
    rfl
  · obtain ⟨p, xs, q0, y0, rfl, hp, al, hq0, fy, zy, few, k⟩ := h
    refine ⟨_, (pss_one (ps_ret (pe_callTy call_tuple_ofZ (by rfl) T.tuple (by decide +kernel) (pa_cons (pe_lc (own := [("number", 2), ("weight", 3)]) (g := gTup K 2 (gCons (gName 2) (gCons (gName 3) gNil))) (tt := tYes) rfl scMultipliedAll.nd (pi_tup (pv 0)) (blkOk_by (N := nsMultipliedAll) (sc := defScope sMultipliedAll) (by decide +kernel)) (fun _ _ _ _ _ => pg_tup rfl (pgs_cons (pg_name (i := 2) scMultipliedAll.nd rfl (Or.inl rfl)) (pgs_cons (pg_name (i := 3) scMultipliedAll.nd rfl (Or.inl rfl)) pgs_nil))) (fun _ _ _ _ _ => pts_nil) (fun _ _ _ _ _ => (pe_tup (pa_cons (pv 2) (pa_cons (pe_call G1 (hr.mono (by decide)) (by rfl) D1.g D1.F.kp D1.b .nil pass0 (pa_cons (pv 3) (pa_cons (pv 1) pa_nil))) pa_nil))))) pa_nil)))), ?_⟩
    obtain ⟨vs, hv, hP⟩ := hp
    have lv := hP.len
    refine ⟨_, rfl, p, rfl, ⟨_, hv⟩, fun D nD => lc_it (walk_tup (K := K) (a := p) (xs := vs)) (fun i H' => ∃ us, H' D = some (.lst us) ∧ Same H H' ∧ PrsAt K H' us (tms y0 (xs.take i))) ⟨[], upd_same, Same.new nD, .nil⟩ (fun i H' _ ⟨_, _, s, _⟩ => s.tup hv) ?_ ?_⟩
    · rintro i x H2 H3 hi ⟨us, h2, s2, c2⟩ ⟨rfl, hx⟩
      obtain ⟨q, r, m, y, rfl, hm, hq, hr⟩ := hP.get hx
      have lu := c2.len
      unfold tms at lu
      rw [List.length_map, List.length_take] at lu
      obtain ⟨f1, z1⟩ := al _ (List.mem_of_getElem? hm)
      refine ⟨q, _, rfl, s2.tup hq, rfl, _, _, rfl, _, _, rfl, rfl, rfl, ?_⟩
      dsimp only [tYes]
      rw [if_pos rfl]
      refine ⟨_, rfl, _, rfl, _, rfl, r, q0, y, y0, rfl, s2.tup hr, s2.tup hq0, f1, fy, z1, zy, trivial, fun e ne => ⟨(by show 2 ≤ sizeLine; decide), fun b nb => ?_⟩⟩
      have k3 := Same.new (o := .tup [V.int (fmul y y0).1, V.int (fmul y y0).2]) ne
      have k4 := Same.new (o := .tup [V.int m, V.ref e]) nb
      have k5 := k3.trans k4
      refine ⟨us, k5 _ _ h2, small1000 (by omega), us ++ [.ref b], upd_same, same_upd nD (s2.trans k5), ?_⟩
      unfold tms
      rw [take_snoc hm, List.map_append]
      exact ((c2.tk (tk_same k5)).app (.cons (SqT.of upd_same) (k4.tup (SqT.of upd_same)) .nil)).tk (tk_lst (k5 _ _ h2))
    · rintro H2 ⟨us, h2, s2, c2⟩
      rw [lv, List.take_length] at c2
      refine ⟨D, us, rfl, SqL.of h2, fun l ob nl od => k _ l (s2.trans (Same.new nl)) ⟨us, ⟨ob, od, upd_same⟩, c2.tk (tk_same (Same.new nl))⟩⟩
end
end CS
set_option Elab.async false
set_option maxRecDepth 100000
set_option maxHeartbeats 8000000
set_option linter.unusedVariables false
namespace CS
open PySem L2
section
variable {P : Program} {w : World} {K : PySem.W.Frag} {mg : Str → Option Value} {base : Heap}
def spGatTZ (K : PySem.W.Frag) : Sp := fun vs H Q _ => ∃ p ws xs, vs = [.ref p] ∧ SqT K H p ws ∧ PrsAt K H ws xs ∧ AllF 90 xs ∧ xs.length ≤ 16 ∧ ∀ H' r ys, Same H H' → ShZ K H' r ys → IsS (gat [] xs) ys → Q (.ref r) H'
def spGatLZ (K : PySem.W.Frag) : Sp := fun vs H Q _ => ∃ p ws xs, vs = [.ref p] ∧ SqL K H p ws ∧ PrsAt K H ws xs ∧ AllF 90 xs ∧ xs.length ≤ 16 ∧ ∀ H' r ys, Same H H' → ShZ K H' r ys → IsS (gat [] xs) ys → Q (.ref r) H'
theorem ok_gatheredTZ {f f1 aN : Addr} {fd fd1 : FuncData} (F : Df K mg "gathered" sGathered ["pairs"] f fd) (D1 : Df K mg "added" sAdded ["one", "other"] f1 fd1) (G1 : FnOk P w K mg base CX0 2 f1 fd1 ["one", "other"] (spF2 K (fun _ _ => True) fadd)) (gN : mg "NOUGHT" = some (.ref aN)) (hN : ∀ H, FT K H aN (0, 1)) (T : Bt mg) : FnOk P w K mg base CX0 3 f fd ["pairs"] (spGatTZ K) := by
  refine F.F.ok scGathered (fun vs H Q E h => ?_) (fun cdv A outer s H vs Q E hr h => ?_)
  · obtain ⟨p, ws, xs, rfl, _⟩ := h
    rfl
  · obtain ⟨p, ws, xs, rfl, hp, hP, hx, hlen, k⟩ := h
    have hu := hu_of hr
    refine ⟨_, pss_cons (ps_set (i := 1) scGathered.nd rfl (Or.inr rfl) pe_dnewK)
      (pss_cons (ps_for PassesOwn.never rfl (pi_tup (pv 0)) (pg_tup rfl (pgs_cons (pg_name (i := 2) scGathered.nd rfl (Or.inl rfl)) (pgs_cons (pg_name (i := 3) scGathered.nd rfl (Or.inl rfl)) pgs_nil))) (pss_one (ps_dput hu (pv 1) (pv 2) (pe_call G1 hr (by rfl) D1.g D1.F.kp D1.b .nil pass0 (pa_cons (pe_dget2 hu (pv 1) (pv 2) (pe_glob (v := .ref aN) (by rfl) gN rfl) ⟨rfl, rfl, rfl, rfl⟩) (pa_cons (pv 3) pa_nil))) rfl)))
      (pss_one (ps_ret (pe_callTy call_tuple_ofZ (by rfl) T.tuple (by decide +kernel) (pa_cons (pe_lc (own := [("key", 2)]) (g := gName 2) (tt := tTest (tOp (rNeD K) (tDGet (tVar 1) (tVar 2)) (tC (.ref aN)))) rfl scGathered.nd (pi_list (pe_callB (call_sortedDI rfl) (by rfl) T.sorted (by decide +kernel) (pa_cons (pv 1) pa_nil))) (blkOk_by (N := ["pairs", "sums", "key", "fraction"]) (sc := defScope sGathered) (by decide +kernel)) (fun _ _ _ _ _ => pg_name (i := 2) scGathered.nd rfl (Or.inl rfl)) (fun _ _ _ _ _ => pts_one (pt_cmpR (op_neD hr.units) (pe_dget hu (pv 1) (pv 2) (fun _ _ => rfl)) (pe_glob (v := .ref aN) (by rfl) gN rfl) (nomark _))) (fun _ _ _ _ _ => pe_tup (pa_cons (pv 2) (pa_cons (pe_dget hu (pv 1) (pv 2) (fun _ _ => rfl)) pa_nil)))) pa_nil))))), ?_⟩
    intro d hd
    have s0 : Same H (upd H d (.dK [])) := Same.new hd
    refine ⟨_, rfl, p, rfl, ⟨_, (fun s1 : Same H _ => s1.tup hp) s0⟩, for_tup (K := K) (a := p) (xs := ws) (fun i σ H' => ∃ u v kvs, σ = [some (.ref p), some (.ref d), u, v] ∧ Same H H' ∧ H' d = some (.dK kvs) ∧ DPr K H' kvs (gat [] (xs.take i))) ⟨none, none, [], rfl, s0, upd_same, .nil⟩ (fun i σ H' _ ⟨_, _, _, _, s1, _⟩ => s1.tup hp) ?_ ?_⟩
    · rintro i v σ H' hi ⟨u1, u2, kvs, rfl, s1, hdk, hD⟩
      obtain ⟨q, r, m, x, rfl, hxi, hq, hr'⟩ := hP.get hi
      have hi2 : i < xs.length := (List.getElem?_eq_some_iff.mp hxi).1
      have hxm := hx _ (List.mem_of_getElem? hxi)
      refine ⟨q, _, rfl, s1.tup hq, rfl, _, _, rfl, _, _, rfl, rfl, ?_⟩
      obtain ⟨o, a, g1, g2, g3⟩ := dget_or hdk hD (hN H') m
      have hz : Sz 1900 (lk (gat [] (xs.take i)) m) := by
        refine (gat_sz (n := 90) hx.take m).up ?_
        rw [List.length_take]
        omega
      refine ⟨_, rfl, d, rfl, .inl ⟨kvs, .inl hdk⟩, _, rfl, o, g1, ?_⟩
      rw [g2]
      refine ⟨_, rfl, a, r, _, x, rfl, g3, s1.tup hr', gat_fr (n := 90) hx.take m, hxm.1, hz, hxm.2.up (by decide), trivial, fun t ht => ?_⟩
      have k1 := Same.new (o := .tup [.int (fadd (lk (gat [] (xs.take i)) m) x).1, .int (fadd (lk (gat [] (xs.take i)) m) x).2]) ht
      have hl : kvs.length < sizeLine := by
        refine small1000 ?_
        rw [hD.len]
        have := gat_len (xs.take i) []
        rw [List.length_take, List.length_nil] at this
        omega
      refine ⟨_, rfl, _, rfl, d, _, rfl, DPut.k (k := Sum.inl m) (k1 _ _ hdk) hl, ?_⟩
      refine ⟨_, _, _, rfl, same_upd hd (s1.trans k1), upd_same, ?_⟩
      rw [take_snoc hxi, gat_snoc]
      have hn := gat_nodup (xs.take i) [] List.nodup_nil
      exact ((hD.tk (tk_same k1)).put hn FT.new).tk (tk_dk (k1 _ _ hdk))
    · rintro σ H1 ⟨u1, u2, kvs, rfl, s1, hdk, hD⟩
      rw [hP.len, List.take_length] at hD
      have hn := gat_nodup xs [] List.nodup_nil
      have hl : ((gat [] xs).map (·.1)).length < 64 := by
        have := gat_len xs []
        rw [List.length_nil] at this
        rw [List.length_map]
        omega
      refine ⟨_, rfl, d, kvs, (gat [] xs).map (·.1), rfl, .inl hdk, hD.keys, hl, fun ys t perm srt ht => ?_⟩
      have k1 := Same.new (o := .lst (ys.map V.int)) ht
      have hlen2 : ys.length ≤ 16 := by
        rw [perm.length_eq, List.length_map]
        have := gat_len xs []
        rw [List.length_nil] at this
        omega
      have hT : (upd H1 t (.lst (ys.map V.int))) t = some (.lst (ys.map V.int)) := upd_same
      have hD2 := hD.tk (tk_same k1)
      have hdk2 := k1 _ _ hdk
      have s2 := s1.trans k1
      generalize upd H1 t (.lst (ys.map V.int)) = H2 at *
      refine ⟨t, rfl, ⟨_, SqL.of hT⟩, fun D hDn => lc_list (K := K) (a := t) (xs := ys.map V.int) (fun i H' => LcP K H2 D ((((ys.take i).filter fun k => decide (lk (gat [] xs) k ≠ (0, 1))).map fun k => (k, lk (gat [] xs) k))) H') (LcP.start hDn) (fun i H' _ ⟨_, _, s3, _⟩ => SqL.of (s3 _ _ hT)) ?_ ?_⟩
      · rintro i v H' hi ⟨us, h1, s3, hf⟩
        rw [List.getElem?_map] at hi
        obtain ⟨m, hmi, rfl⟩ : ∃ m, ys[i]? = some m ∧ v = V.int m := by
          cases e : ys[i]? with
          | none => rw [e] at hi; cases hi
          | some z => rw [e] at hi; exact ⟨z, rfl, (Option.some.inj hi).symm⟩
        have hmem : m ∈ (gat [] xs).map (·.1) := perm.mem_iff.mp (List.mem_of_getElem? hmi)
        obtain ⟨r, g1, g2⟩ := (hD2.tk (tk_same s3)).val m hmem
        have hg : DGet H' d (.int m) (some (.ref r)) := by
          rw [← g1]
          exact DGet.k (k := Sum.inl m) (s3 _ _ hdk2)
        refine ⟨rfl, ?_⟩
        refine ⟨_, rfl, _, rfl, d, _, rfl, hg, ?_⟩
        refine ⟨frD (lk (gat [] xs) m), frD (0, 1), ftDp g2, ftDp (hN _), rfl, rfl, _, rfl, ?_⟩
        dsimp only
        rw [eqvFr]
        have hsz : us.length ≤ 1000 := by
          rw [hf.len, List.length_map]
          have := List.length_filter_le (fun k => decide (lk (gat [] xs) k ≠ (0, 1))) (ys.take i)
          rw [List.length_take] at this
          omega
        by_cases hc : lk (gat [] xs) m = (0, 1)
        · rw [if_neg (by simp [hc])]
          show LcP K H2 D _ _
          rw [take_snoc hmi, List.filter_append, List.map_append, List.filter_cons_of_neg (by simp [hc])]
          show LcP K H2 D (_ ++ []) _
          rw [List.append_nil]
          exact ⟨us, h1, s3, hf⟩
        · rw [if_pos (by simp [hc])]
          refine ⟨_, rfl, _, rfl, _, rfl, d, _, rfl, hg, (by show 2 ≤ sizeLine; decide), fun t2 ht2 => ?_⟩
          have k2 := Same.new (o := .tup [V.int m, .ref r]) ht2
          refine ⟨us, k2 _ _ h1, small1000 hsz, ?_⟩
          show LcP K H2 D _ _
          rw [take_snoc hmi, List.filter_append, List.map_append, List.filter_cons_of_pos (by simp [hc])]
          exact LcP.step hDn (k2 _ _ h1) (s3.trans k2) (hf.tk (tk_same k2)) (SqT.of upd_same) (k2.tup g2)
      · rintro H' ⟨us, h1, s3, hf⟩
        rw [List.length_map, List.take_length] at hf
        refine ⟨D, us, rfl, SqL.of h1, fun l ob hl od => ?_⟩
        have k3 := Same.new (o := .frz ob (.tup us)) hl
        exact k _ l _ (s2.trans (s3.trans k3)) ⟨us, ⟨ob, od, upd_same⟩, hf.tk (tk_same k3)⟩ (isS_of perm hn srt)
theorem ok_gatheredLZ {f f1 aN : Addr} {fd fd1 : FuncData} (F : Df K mg "gathered" sGathered ["pairs"] f fd) (D1 : Df K mg "added" sAdded ["one", "other"] f1 fd1) (G1 : FnOk P w K mg base CX0 2 f1 fd1 ["one", "other"] (spF2 K (fun _ _ => True) fadd)) (gN : mg "NOUGHT" = some (.ref aN)) (hN : ∀ H, FT K H aN (0, 1)) (T : Bt mg) : FnOk P w K mg base CX0 3 f fd ["pairs"] (spGatLZ K) := by
  refine F.F.ok scGathered (fun vs H Q E h => ?_) (fun cdv A outer s H vs Q E hr h => ?_)
  · obtain ⟨p, ws, xs, rfl, _⟩ := h
    rfl
  · obtain ⟨p, ws, xs, rfl, hp, hP, hx, hlen, k⟩ := h
    have hu := hu_of hr
    refine ⟨_, pss_cons (ps_set (i := 1) scGathered.nd rfl (Or.inr rfl) pe_dnewK)
      (pss_cons (ps_for PassesOwn.never rfl (pi_list (pv 0)) (pg_tup rfl (pgs_cons (pg_name (i := 2) scGathered.nd rfl (Or.inl rfl)) (pgs_cons (pg_name (i := 3) scGathered.nd rfl (Or.inl rfl)) pgs_nil))) (pss_one (ps_dput hu (pv 1) (pv 2) (pe_call G1 hr (by rfl) D1.g D1.F.kp D1.b .nil pass0 (pa_cons (pe_dget2 hu (pv 1) (pv 2) (pe_glob (v := .ref aN) (by rfl) gN rfl) ⟨rfl, rfl, rfl, rfl⟩) (pa_cons (pv 3) pa_nil))) rfl)))
      (pss_one (ps_ret (pe_callTy call_tuple_ofZ (by rfl) T.tuple (by decide +kernel) (pa_cons (pe_lc (own := [("key", 2)]) (g := gName 2) (tt := tTest (tOp (rNeD K) (tDGet (tVar 1) (tVar 2)) (tC (.ref aN)))) rfl scGathered.nd (pi_list (pe_callB (call_sortedDI rfl) (by rfl) T.sorted (by decide +kernel) (pa_cons (pv 1) pa_nil))) (blkOk_by (N := ["pairs", "sums", "key", "fraction"]) (sc := defScope sGathered) (by decide +kernel)) (fun _ _ _ _ _ => pg_name (i := 2) scGathered.nd rfl (Or.inl rfl)) (fun _ _ _ _ _ => pts_one (pt_cmpR (op_neD hr.units) (pe_dget hu (pv 1) (pv 2) (fun _ _ => rfl)) (pe_glob (v := .ref aN) (by rfl) gN rfl) (nomark _))) (fun _ _ _ _ _ => pe_tup (pa_cons (pv 2) (pa_cons (pe_dget hu (pv 1) (pv 2) (fun _ _ => rfl)) pa_nil)))) pa_nil))))), ?_⟩
    intro d hd
    have s0 : Same H (upd H d (.dK [])) := Same.new hd
    refine ⟨_, rfl, p, rfl, ⟨_, (fun s1 : Same H _ => s1.seq hp) s0⟩, for_list (K := K) (a := p) (xs := ws) (fun i σ H' => ∃ u v kvs, σ = [some (.ref p), some (.ref d), u, v] ∧ Same H H' ∧ H' d = some (.dK kvs) ∧ DPr K H' kvs (gat [] (xs.take i))) ⟨none, none, [], rfl, s0, upd_same, .nil⟩ (fun i σ H' _ ⟨_, _, _, _, s1, _⟩ => s1.seq hp) ?_ ?_⟩
    · rintro i v σ H' hi ⟨u1, u2, kvs, rfl, s1, hdk, hD⟩
      obtain ⟨q, r, m, x, rfl, hxi, hq, hr'⟩ := hP.get hi
      have hi2 : i < xs.length := (List.getElem?_eq_some_iff.mp hxi).1
      have hxm := hx _ (List.mem_of_getElem? hxi)
      refine ⟨q, _, rfl, s1.tup hq, rfl, _, _, rfl, _, _, rfl, rfl, ?_⟩
      obtain ⟨o, a, g1, g2, g3⟩ := dget_or hdk hD (hN H') m
      have hz : Sz 1900 (lk (gat [] (xs.take i)) m) := by
        refine (gat_sz (n := 90) hx.take m).up ?_
        rw [List.length_take]
        omega
      refine ⟨_, rfl, d, rfl, .inl ⟨kvs, .inl hdk⟩, _, rfl, o, g1, ?_⟩
      rw [g2]
      refine ⟨_, rfl, a, r, _, x, rfl, g3, s1.tup hr', gat_fr (n := 90) hx.take m, hxm.1, hz, hxm.2.up (by decide), trivial, fun t ht => ?_⟩
      have k1 := Same.new (o := .tup [.int (fadd (lk (gat [] (xs.take i)) m) x).1, .int (fadd (lk (gat [] (xs.take i)) m) x).2]) ht
      have hl : kvs.length < sizeLine := by
        refine small1000 ?_
        rw [hD.len]
        have := gat_len (xs.take i) []
        rw [List.length_take, List.length_nil] at this
        omega
      refine ⟨_, rfl, _, rfl, d, _, rfl, DPut.k (k := Sum.inl m) (k1 _ _ hdk) hl, ?_⟩
      refine ⟨_, _, _, rfl, same_upd hd (s1.trans k1), upd_same, ?_⟩
      rw [take_snoc hxi, gat_snoc]
      have hn := gat_nodup (xs.take i) [] List.nodup_nil
      exact ((hD.tk (tk_same k1)).put hn FT.new).tk (tk_dk (k1 _ _ hdk))
    · rintro σ H1 ⟨u1, u2, kvs, rfl, s1, hdk, hD⟩
      rw [hP.len, List.take_length] at hD
      have hn := gat_nodup xs [] List.nodup_nil
      have hl : ((gat [] xs).map (·.1)).length < 64 := by
        have := gat_len xs []
        rw [List.length_nil] at this
        rw [List.length_map]
        omega
      refine ⟨_, rfl, d, kvs, (gat [] xs).map (·.1), rfl, .inl hdk, hD.keys, hl, fun ys t perm srt ht => ?_⟩
      have k1 := Same.new (o := .lst (ys.map V.int)) ht
      have hlen2 : ys.length ≤ 16 := by
        rw [perm.length_eq, List.length_map]
        have := gat_len xs []
        rw [List.length_nil] at this
        omega
      have hT : (upd H1 t (.lst (ys.map V.int))) t = some (.lst (ys.map V.int)) := upd_same
      have hD2 := hD.tk (tk_same k1)
      have hdk2 := k1 _ _ hdk
      have s2 := s1.trans k1
      generalize upd H1 t (.lst (ys.map V.int)) = H2 at *
      refine ⟨t, rfl, ⟨_, SqL.of hT⟩, fun D hDn => lc_list (K := K) (a := t) (xs := ys.map V.int) (fun i H' => LcP K H2 D ((((ys.take i).filter fun k => decide (lk (gat [] xs) k ≠ (0, 1))).map fun k => (k, lk (gat [] xs) k))) H') (LcP.start hDn) (fun i H' _ ⟨_, _, s3, _⟩ => SqL.of (s3 _ _ hT)) ?_ ?_⟩
      · rintro i v H' hi ⟨us, h1, s3, hf⟩
        rw [List.getElem?_map] at hi
        obtain ⟨m, hmi, rfl⟩ : ∃ m, ys[i]? = some m ∧ v = V.int m := by
          cases e : ys[i]? with
          | none => rw [e] at hi; cases hi
          | some z => rw [e] at hi; exact ⟨z, rfl, (Option.some.inj hi).symm⟩
        have hmem : m ∈ (gat [] xs).map (·.1) := perm.mem_iff.mp (List.mem_of_getElem? hmi)
        obtain ⟨r, g1, g2⟩ := (hD2.tk (tk_same s3)).val m hmem
        have hg : DGet H' d (.int m) (some (.ref r)) := by
          rw [← g1]
          exact DGet.k (k := Sum.inl m) (s3 _ _ hdk2)
        refine ⟨rfl, ?_⟩
        refine ⟨_, rfl, _, rfl, d, _, rfl, hg, ?_⟩
        refine ⟨frD (lk (gat [] xs) m), frD (0, 1), ftDp g2, ftDp (hN _), rfl, rfl, _, rfl, ?_⟩
        dsimp only
        rw [eqvFr]
        have hsz : us.length ≤ 1000 := by
          rw [hf.len, List.length_map]
          have := List.length_filter_le (fun k => decide (lk (gat [] xs) k ≠ (0, 1))) (ys.take i)
          rw [List.length_take] at this
          omega
        by_cases hc : lk (gat [] xs) m = (0, 1)
        · rw [if_neg (by simp [hc])]
          show LcP K H2 D _ _
          rw [take_snoc hmi, List.filter_append, List.map_append, List.filter_cons_of_neg (by simp [hc])]
          show LcP K H2 D (_ ++ []) _
          rw [List.append_nil]
          exact ⟨us, h1, s3, hf⟩
        · rw [if_pos (by simp [hc])]
          refine ⟨_, rfl, _, rfl, _, rfl, d, _, rfl, hg, (by show 2 ≤ sizeLine; decide), fun t2 ht2 => ?_⟩
          have k2 := Same.new (o := .tup [V.int m, .ref r]) ht2
          refine ⟨us, k2 _ _ h1, small1000 hsz, ?_⟩
          show LcP K H2 D _ _
          rw [take_snoc hmi, List.filter_append, List.map_append, List.filter_cons_of_pos (by simp [hc])]
          exact LcP.step hDn (k2 _ _ h1) (s3.trans k2) (hf.tk (tk_same k2)) (SqT.of upd_same) (k2.tup g2)
      · rintro H' ⟨us, h1, s3, hf⟩
        rw [List.length_map, List.take_length] at hf
        refine ⟨D, us, rfl, SqL.of h1, fun l ob hl od => ?_⟩
        have k3 := Same.new (o := .frz ob (.tup us)) hl
        exact k _ l _ (s2.trans (s3.trans k3)) ⟨us, ⟨ob, od, upd_same⟩, hf.tk (tk_same k3)⟩ (isS_of perm hn srt)
def spShFL (K : PySem.W.Frag) (f : List (Int × Fx) → Fx) : Sp := fun vs H Q _ => ∃ p xs, vs = [.ref p] ∧ (∃ ws, SqL K H p ws ∧ PrsAt K H ws xs) ∧ AllF 90 xs ∧ (∀ a ∈ xs, a.1.natAbs ≤ 200) ∧ xs.length ≤ 16 ∧ ∀ H' r, Same H H' → FT K H' r (f xs) → Q (.ref r) H'
theorem ok_total_ofL {f f1 : Addr} {fd fd1 : FuncData} (F : Df K mg "total_of" sTotalOf ["share"] f fd) (D1 : Df K mg "sum_of" sSumOf ["fractions"] f1 fd1) (G1 : FnOk P w K mg base CX0 3 f1 fd1 ["fractions"] (spSum K)) : FnOk P w K mg base CX0 4 f fd ["share"] (spShFL K ftot) := by
  refine F.F.ok scTotalOf (fun vs H Q E h => ?_) (fun cdv A outer s H vs Q E hr h => ?_)
  · obtain ⟨p, xs, rfl, _⟩ := h
    rfl
  · obtain ⟨p, xs, rfl, ⟨vs, hp, hP⟩, hx, hm, hlen, k⟩ := h
    refine ⟨_, pss_one (ps_ret (pe_call G1 hr (by rfl) D1.g D1.F.kp D1.b .nil pass0 (pa_cons (pe_lc (own := [("_", 1), ("weight", 2)]) (g := gTup K 2 (gCons (gName 1) (gCons (gName 2) gNil))) (tt := tYes) rfl scTotalOf.nd (pi_list (pv 0)) (blkOk_by (N := ["share", "_", "weight"]) (sc := defScope sTotalOf) (by decide +kernel)) (fun _ _ _ _ _ => pg_tup rfl (pgs_cons (pg_name (i := 1) scTotalOf.nd rfl (Or.inl rfl)) (pgs_cons (pg_name (i := 2) scTotalOf.nd rfl (Or.inl rfl)) pgs_nil))) (fun _ _ _ _ _ => pts_nil) (fun _ _ _ _ _ => pv 2)) pa_nil))), ?_⟩
    refine ⟨_, rfl, p, rfl, ⟨_, hp⟩, fun D hD => lc_list (K := K) (a := p) (xs := vs) (fun i H' => LcF K H D ((xs.take i).map (·.2)) H') (LcF.start hD) (fun i H' _ ⟨ws, _, s1, _⟩ => s1.seq hp) ?_ ?_⟩
    · rintro i v H' hi ⟨ws, h1, s1, hf⟩
      obtain ⟨q, r, m, x, rfl, hxi, hq, hr'⟩ := hP.get hi
      have hi2 : i < xs.length := (List.getElem?_eq_some_iff.mp hxi).1
      refine ⟨q, _, rfl, s1.tup hq, rfl, _, _, rfl, _, _, rfl, rfl, rfl, ?_⟩
      dsimp only [tYes]
      rw [if_pos rfl]
      refine ⟨_, rfl, ws, h1, small1000 ?_, ?_⟩
      · rw [hf.len, List.length_map, List.length_take]; omega
      · show LcF K H D _ _
        rw [take_snoc hxi, List.map_append]
        exact LcF.step hD h1 s1 hf (s1.tup hr')
    · rintro H' ⟨ws, h1, s1, hf⟩
      rw [hP.len, List.take_length] at hf
      refine ⟨D, ws, _, rfl, SqL.of h1, hf, ?_, by rw [List.length_map]; exact hlen, fun H2 r s2 hr2 => k _ _ (s1.trans s2) hr2⟩
      intro x hxm
      obtain ⟨a, ha, rfl⟩ := List.mem_map.mp hxm
      exact ⟨(hx a ha).1, (hx a ha).2.up (by decide)⟩
theorem ok_moment_ofL {f f1 f2 : Addr} {fd fd1 fd2 : FuncData} (F : Df K mg "moment_of" sMomentOf ["share"] f fd) (D1 : Df K mg "sum_of" sSumOf ["fractions"] f1 fd1) (G1 : FnOk P w K mg base CX0 3 f1 fd1 ["fractions"] (spSum K)) (D2 : Df K mg "scaled" sScaled ["fraction", "by"] f2 fd2) (G2 : FnOk P w K mg base CX0 2 f2 fd2 ["fraction", "by"] (spScaled K)) : FnOk P w K mg base CX0 4 f fd ["share"] (spShFL K fmom) := by
  refine F.F.ok scMomentOf (fun vs H Q E h => ?_) (fun cdv A outer s H vs Q E hr h => ?_)
  · obtain ⟨p, xs, rfl, _⟩ := h
    rfl
  · obtain ⟨p, xs, rfl, ⟨vs, hp, hP⟩, hx, hm, hlen, k⟩ := h
    refine ⟨_, pss_one (ps_ret (pe_call G1 hr (by rfl) D1.g D1.F.kp D1.b .nil pass0 (pa_cons (pe_lc (own := [("number", 1), ("weight", 2)]) (g := gTup K 2 (gCons (gName 1) (gCons (gName 2) gNil))) (tt := tYes) rfl scMomentOf.nd (pi_list (pv 0)) (blkOk_by (N := ["share", "number", "weight"]) (sc := defScope sMomentOf) (by decide +kernel)) (fun _ _ _ _ _ => pg_tup rfl (pgs_cons (pg_name (i := 1) scMomentOf.nd rfl (Or.inl rfl)) (pgs_cons (pg_name (i := 2) scMomentOf.nd rfl (Or.inl rfl)) pgs_nil))) (fun _ _ _ _ _ => pts_nil) (fun _ _ _ _ _ => pe_call G2 (hr.mono (by decide)) (by rfl) D2.g D2.F.kp D2.b .nil pass0 (pa_cons (pv 2) (pa_cons (pv 1) pa_nil)))) pa_nil))), ?_⟩
    refine ⟨_, rfl, p, rfl, ⟨_, hp⟩, fun D hD => lc_list (K := K) (a := p) (xs := vs) (fun i H' => LcF K H D ((xs.take i).map fun a => scl a.2 a.1) H') (LcF.start hD) (fun i H' _ ⟨ws, _, s1, _⟩ => s1.seq hp) ?_ ?_⟩
    · rintro i v H' hi ⟨ws, h1, s1, hf⟩
      obtain ⟨q, r, m, x, rfl, hxi, hq, hr'⟩ := hP.get hi
      have hi2 : i < xs.length := (List.getElem?_eq_some_iff.mp hxi).1
      have hxm := hx _ (List.mem_of_getElem? hxi)
      have hmm := hm _ (List.mem_of_getElem? hxi)
      refine ⟨q, _, rfl, s1.tup hq, rfl, _, _, rfl, _, _, rfl, rfl, rfl, ?_⟩
      dsimp only [tYes]
      rw [if_pos rfl]
      refine ⟨_, rfl, _, rfl, r, x, m, rfl, s1.tup hr', hxm.1, hxm.2.up (by decide), by simp only at hmm; omega, fun t ht => ?_⟩
      have k1 := Same.new (o := .tup [.int (scl x m).1, .int (scl x m).2]) ht
      refine ⟨ws, k1 _ _ h1, small1000 ?_, ?_⟩
      · rw [hf.len, List.length_map, List.length_take]; omega
      · show LcF K H D _ _
        rw [take_snoc hxi, List.map_append]
        exact LcF.step hD (k1 _ _ h1) (s1.trans k1) (hf.tk (tk_same k1)) FT.new
    · rintro H' ⟨ws, h1, s1, hf⟩
      rw [hP.len, List.take_length] at hf
      refine ⟨D, ws, _, rfl, SqL.of h1, hf, ?_, by rw [List.length_map]; exact hlen, fun H2 r s2 hr2 => k _ _ (s1.trans s2) hr2⟩
      intro x hxm
      obtain ⟨a, ha, rfl⟩ := List.mem_map.mp hxm
      refine ⟨scl_fr (hx a ha).1 _, (scl_sz (m := 8) (hx a ha).1 (hx a ha).2 ?_).up (by decide)⟩
      have := hm a ha
      omega
end
end CS
set_option Elab.async false
set_option maxRecDepth 100000
set_option maxHeartbeats 8000000
set_option linter.unusedVariables false
set_option pp.maxSteps 6000
/-! a weight spread -/
namespace CS
open PySem L2 RZ
/-- what is put behind a share, where its weight at m is spread to l and h -/
def sprM (xs : List (Int × Fx)) (m l h : Int) : List (Int × Fx) := [(m, scl (lk xs m) (-1)), (l, fmul (lk xs m) (low (h - m) (h - l))), (h, fmul (lk xs m) (low (m - l) (h - l)))]
section
variable {P : Program} {w : World} {K : PySem.W.Frag} {mg : Str → Option Value} {base : Heap}
def spSpread (K : PySem.W.Frag) : Sp := fun vs H Q _ => ∃ p xs m l h, vs = [.ref p, .int m, .int l, .int h] ∧ ShZ K H p xs ∧ (xs.map (·.1)).Nodup ∧ xs.length ≤ 8 ∧ AllF 80 xs ∧ AllF 90 (xs ++ sprM xs m l h) ∧ -200 ≤ l ∧ l < m ∧ m < h ∧ h ≤ 200 ∧ ∀ H' r ys, Same H H' → ShZ K H' r ys → IsS (gat [] (xs ++ sprM xs m l h)) ys → Q (.ref r) H'
abbrev nsSpread : List Str := ["share", "number", "low", "high", "weight", "to_low", "to_high"]
theorem scSpread : FnScope nsSpread ["share", "number", "low", "high"] (defScope sSpread) := ⟨rfl, rfl, rfl, by decide +kernel, rfl, by decide +kernel, by decide +kernel⟩
theorem ok_spread {f : Addr} {fd : FuncData} (F : Df K mg "spread" sSpread ["share", "number", "low", "high"] f fd)
    {f1 : Addr} {fd1 : FuncData} (D1 : Df K mg "gathered" sGathered ["pairs"] f1 fd1) (G1 : FnOk P w K mg base CX0 3 f1 fd1 ["pairs"] (spGatLZ K))
    {f2 : Addr} {fd2 : FuncData} (D2 : Df K mg "scaled" sScaled ["fraction", "by"] f2 fd2) (G2 : FnOk P w K mg base CX0 2 f2 fd2 ["fraction", "by"] (spScaled K))
    {f3 : Addr} {fd3 : FuncData} (D3 : Df K mg "multiplied" sMultiplied ["one", "other"] f3 fd3) (G3 : FnOk P w K mg base CX0 2 f3 fd3 ["one", "other"] (spF2 K (fun _ _ => True) fmul))
    {f4 : Addr} {fd4 : FuncData} (D4 : Df K mg "lowered" sLowered ["top", "bottom"] f4 fd4) (G4 : FnOk P w K mg base CX0 1 f4 fd4 ["top", "bottom"] (spLow))
    {aN : Addr} (gN : mg "NOUGHT" = some (.ref aN)) (hN : ∀ H, FT K H aN (0, 1)) (T : Bt mg) : FnOk P w K mg base CX0 4 f fd ["share", "number", "low", "high"] (spSpread K) := by
  refine F.F.ok scSpread (fun vs H Q E h => ?_) (fun cdv A outer s H vs Q E hr h => ?_)
  · obtain ⟨p, xs, m, l, h0, rfl, _⟩ := h
    rfl
  · obtain ⟨p, xs, m, l, h0, rfl, hp, nd, l8, al, al2, b1, b2, b3, b4, k⟩ := h
    have hu := hu_of hr
    refine ⟨_, (pss_cons (ps_set (i := 4) scSpread.nd rfl (Or.inl rfl) (pe_dget2 hu (pe_callTy (call_dictZ rfl) (by rfl) T.dict (by decide +kernel) (pa_cons (pv 0) pa_nil)) (pv 1) (pe_glob (v := .ref aN) (by rfl) gN rfl) ⟨rfl, rfl, rfl, rfl⟩))
      (pss_cons (ps_set (i := 5) scSpread.nd rfl (Or.inl rfl) (pe_call G3 (hr.mono (by decide)) (by rfl) D3.g D3.F.kp D3.b .nil pass0 (pa_cons (pv 4) (pa_cons (pe_call G4 (hr.mono (by decide)) (by rfl) D4.g D4.F.kp D4.b .nil pass0 (pa_cons (pe_op op_sub (pv 3) (pv 1)) (pa_cons (pe_op op_sub (pv 3) (pv 2)) pa_nil))) pa_nil))))
      (pss_cons (ps_set (i := 6) scSpread.nd rfl (Or.inl rfl) (pe_call G3 (hr.mono (by decide)) (by rfl) D3.g D3.F.kp D3.b .nil pass0 (pa_cons (pv 4) (pa_cons (pe_call G4 (hr.mono (by decide)) (by rfl) D4.g D4.F.kp D4.b .nil pass0 (pa_cons (pe_op op_sub (pv 1) (pv 2)) (pa_cons (pe_op op_sub (pv 3) (pv 2)) pa_nil))) pa_nil))))
      (pss_one (ps_ret (pe_call G1 (hr.mono (by decide)) (by rfl) D1.g D1.F.kp D1.b .nil pass0 (pa_cons (pe_lst (StX.pa_star (pv 0) (pa_cons (pe_tup (pa_cons (pv 1) (pa_cons (pe_call G2 (hr.mono (by decide)) (by rfl) D2.g D2.F.kp D2.b .nil pass0 (pa_cons (pv 4) (pa_cons (pe_un un_neg pe_int) pa_nil))) pa_nil))) (pa_cons (pe_tup (pa_cons (pv 2) (pa_cons (pv 5) pa_nil))) (pa_cons (pe_tup (pa_cons (pv 3) (pa_cons (pv 6) pa_nil))) pa_nil))))) pa_nil))))))), ?_⟩
    obtain ⟨vs, ⟨ob, od, hob⟩, hP⟩ := hp
    have hz : TupZ H p vs := ⟨ob, od, hob⟩
    obtain ⟨ps, kvs, rfl, pr, mk⟩ := dpr_merge hP
    have fx : Fr (lk xs m) := (lk_fr al (by decide) m).1
    have zx : Sz 80 (lk xs m) := (lk_fr al (by decide) m).2
    have f1 : Fr (low (h0 - m) (h0 - l)) := low_fr (by omega)
    have f2 : Fr (low (m - l) (h0 - l)) := low_fr (by omega)
    have z1 : Sz 10 (low (h0 - m) (h0 - l)) := low_sz (by omega) (by show _ < 1024; omega) (by show _ < 1024; omega)
    have z2 : Sz 10 (low (m - l) (h0 - l)) := low_sz (by omega) (by show _ < 1024; omega) (by show _ < 1024; omega)
    refine ⟨_, rfl, p, ps, kvs, rfl, hz, pr, fun D nD => ?_⟩
    have sD := Same.new (o := .dK (mergeK [] kvs)) nD
    have D8 : DPr K (upd H D (.dK (mergeK [] kvs))) (mergeK [] kvs) xs := (mk [] [] .nil (by simpa using nd)).tk (tk_same sD)
    have hD : (upd H D (.dK (mergeK [] kvs))) D = some (.dK (mergeK [] kvs)) := upd_same
    generalize upd H D (.dK (mergeK [] kvs)) = H1 at *
    obtain ⟨o, r, g1, g2, g3⟩ := dget_or hD D8 (hN H1) m
    refine ⟨D, rfl, .inl ⟨_, .inl hD⟩, _, rfl, o, g1, ?_⟩
    rw [g2]
    refine ⟨_, rfl, _, rfl, _, rfl, _, _, rfl, rfl, _, rfl, _, rfl, _, _, rfl, rfl, _, _, rfl, by omega, lt_up (m := 10) (by show _ < 1024; omega) (by decide), lt_up (m := 10) (by show _ < 1024; omega) (by decide), fun e1 n1 => ?_⟩
    have q1 := Same.new (o := .tup [V.int (low (h0 - m) (h0 - l)).1, V.int (low (h0 - m) (h0 - l)).2]) n1
    refine ⟨r, e1, _, low (h0 - m) (h0 - l), rfl, q1.tup g3, SqT.of upd_same, fx, f1, zx.up (by decide), z1.up (by decide), trivial, fun e2 n2 => ?_⟩
    have q2 := Same.new (o := .tup [V.int (fmul (lk xs m) (low (h0 - m) (h0 - l))).1, V.int (fmul (lk xs m) (low (h0 - m) (h0 - l))).2]) n2
    have u2 : (upd (upd H1 e1 (.tup [V.int (low (h0 - m) (h0 - l)).1, V.int (low (h0 - m) (h0 - l)).2])) e2 (.tup [V.int (fmul (lk xs m) (low (h0 - m) (h0 - l))).1, V.int (fmul (lk xs m) (low (h0 - m) (h0 - l))).2])) e2 = some (.tup [V.int (fmul (lk xs m) (low (h0 - m) (h0 - l))).1, V.int (fmul (lk xs m) (low (h0 - m) (h0 - l))).2]) := upd_same
    have s2 := sD.trans (q1.trans q2)
    have g4 := (q1.trans q2).tup g3
    generalize upd (upd H1 e1 (.tup [V.int (low (h0 - m) (h0 - l)).1, V.int (low (h0 - m) (h0 - l)).2])) e2 (.tup [V.int (fmul (lk xs m) (low (h0 - m) (h0 - l))).1, V.int (fmul (lk xs m) (low (h0 - m) (h0 - l))).2]) = H2 at *
    have t2 : FT K H2 e2 (fmul (lk xs m) (low (h0 - m) (h0 - l))) := SqT.of u2
    refine ⟨_, rfl, _, rfl, _, rfl, _, _, rfl, rfl, _, rfl, _, rfl, _, _, rfl, rfl, _, _, rfl, by omega, lt_up (m := 10) (by show _ < 1024; omega) (by decide), lt_up (m := 10) (by show _ < 1024; omega) (by decide), fun e3 n3 => ?_⟩
    have q3 := Same.new (o := (.tup [V.int (low (m - l) (h0 - l)).1, V.int (low (m - l) (h0 - l)).2])) n3
    refine ⟨r, e3, _, low (m - l) (h0 - l), rfl, q3.tup g4, SqT.of upd_same, fx, f2, zx.up (by decide), z2.up (by decide), trivial, fun e4 n4 => ?_⟩
    have q4 := Same.new (o := (.tup [V.int (fmul (lk xs m) (low (m - l) (h0 - l))).1, V.int (fmul (lk xs m) (low (m - l) (h0 - l))).2])) n4
    have u4 : (upd (upd H2 e3 (.tup [V.int (low (m - l) (h0 - l)).1, V.int (low (m - l) (h0 - l)).2])) e4 (.tup [V.int (fmul (lk xs m) (low (m - l) (h0 - l))).1, V.int (fmul (lk xs m) (low (m - l) (h0 - l))).2])) e4 = some (.tup [V.int (fmul (lk xs m) (low (m - l) (h0 - l))).1, V.int (fmul (lk xs m) (low (m - l) (h0 - l))).2]) := upd_same
    have s4 := s2.trans (q3.trans q4)
    have g5 := (q3.trans q4).tup g4
    have t3 := (q3.trans q4).tup t2
    generalize upd (upd H2 e3 (.tup [V.int (low (m - l) (h0 - l)).1, V.int (low (m - l) (h0 - l)).2])) e4 (.tup [V.int (fmul (lk xs m) (low (m - l) (h0 - l))).1, V.int (fmul (lk xs m) (low (m - l) (h0 - l))).2]) = H4 at *
    have t4 : FT K H4 e4 (fmul (lk xs m) (low (m - l) (h0 - l))) := SqT.of u4
    refine ⟨_, rfl, p, _, rfl, .inl (s4.tup hz.sq), _, rfl, _, rfl, 1, rfl, r, _, -1, rfl, g5, fx, zx.up (by decide), by decide, fun e5 n5 => ⟨(by show 2 ≤ sizeLine; decide), fun b1 m1 => ?_⟩⟩
    have q5 := Same.new (o := .tup [V.int (scl (lk xs m) (-1)).1, V.int (scl (lk xs m) (-1)).2]) n5
    have q6 := Same.new (o := .tup [V.int m, V.ref e5]) m1
    refine ⟨_, rfl, _, rfl, (by show 2 ≤ sizeLine; decide), fun b2 m2 => ?_⟩
    have q7 := Same.new (o := .tup [V.int l, V.ref e2]) m2
    refine ⟨_, rfl, _, rfl, (by show 2 ≤ sizeLine; decide), fun b3 m3 => ?_⟩
    have q8 := Same.new (o := .tup [V.int h0, V.ref e4]) m3
    have l16 : (List.map V.ref ps ++ [V.ref b1, V.ref b2, V.ref b3]).length ≤ 11 := by
      have := hP.len
      rw [List.length_append]
      show _ + 3 ≤ 11
      omega
    refine ⟨Nat.le_trans l16 (by decide), fun L nL => ?_⟩
    have q9 := Same.new (o := .lst (List.map V.ref ps ++ [V.ref b1, V.ref b2, V.ref b3])) nL
    have s9 := s4.trans (q5.trans (q6.trans (q7.trans (q8.trans q9))))
    have P9 : PrsAt K _ (List.map V.ref ps ++ [V.ref b1, V.ref b2, V.ref b3]) (xs ++ sprM xs m l h0) := (hP.tk (tk_same s9)).app (.cons ((q7.trans (q8.trans q9)).tup (SqT.of upd_same)) ((q6.trans (q7.trans (q8.trans q9))).tup (SqT.of upd_same)) (.cons ((q8.trans q9).tup (SqT.of upd_same)) ((q5.trans (q6.trans (q7.trans (q8.trans q9)))).tup t3) (.cons (q9.tup (SqT.of upd_same)) ((q5.trans (q6.trans (q7.trans (q8.trans q9)))).tup t4) .nil)))
    exact ⟨L, _, _, rfl, SqL.of upd_same, P9, al2, by rw [List.length_append]; show _ + 3 ≤ 16; omega, fun H' r' ys s' h1 h2 => k H' r' ys (s9.trans s') h1 h2⟩
end
end CS
set_option Elab.async false
set_option maxRecDepth 100000
set_option maxHeartbeats 8000000
set_option linter.unusedVariables false
set_option pp.maxSteps 6000
/-! weights drawn together -/
namespace CS
open PySem L2 RZ
def innM (xs : List (Int × Fx)) (l h : Int) : List (Int × Fx) := xs.filter fun a => decide (l ≤ a.1 ∧ a.1 ≤ h)
def outM (xs : List (Int × Fx)) (l h : Int) : List (Int × Fx) := xs.filter fun a => decide (a.1 < l ∨ h < a.1)
def meanM (xs : List (Int × Fx)) (l h : Int) : Fx := fdiv (fmom (innM xs l h)) (ftot (innM xs l h))
theorem inn_yes {xs : List (Int × Fx)} {i : Nat} {a : Int × Fx} {l h : Int} (e : xs[i]? = some a) (c : l ≤ a.1 ∧ a.1 ≤ h) : innM (xs.take (i + 1)) l h = innM (xs.take i) l h ++ [a] := by
  unfold innM
  rw [take_snoc e, List.filter_append, List.filter_cons_of_pos (by exact decide_eq_true c), List.filter_nil]
theorem inn_no {xs : List (Int × Fx)} {i : Nat} {a : Int × Fx} {l h : Int} (e : xs[i]? = some a) (c : ¬ (l ≤ a.1 ∧ a.1 ≤ h)) : innM (xs.take (i + 1)) l h = innM (xs.take i) l h := by
  unfold innM
  rw [take_snoc e, List.filter_append, List.filter_cons_of_neg (by rw [decide_eq_true_eq]; exact c), List.filter_nil, List.append_nil]
theorem out_yes {xs : List (Int × Fx)} {i : Nat} {a : Int × Fx} {l h : Int} (e : xs[i]? = some a) (c : a.1 < l ∨ h < a.1) : outM (xs.take (i + 1)) l h = outM (xs.take i) l h ++ [a] := by
  unfold outM
  rw [take_snoc e, List.filter_append, List.filter_cons_of_pos (by exact decide_eq_true c), List.filter_nil]
theorem out_no {xs : List (Int × Fx)} {i : Nat} {a : Int × Fx} {l h : Int} (e : xs[i]? = some a) (c : ¬ (a.1 < l ∨ h < a.1)) : outM (xs.take (i + 1)) l h = outM (xs.take i) l h := by
  unfold outM
  rw [take_snoc e, List.filter_append, List.filter_cons_of_neg (by rw [decide_eq_true_eq]; exact c), List.filter_nil, List.append_nil]
theorem prs_nil (xs : List (Int × Fx)) : PyData.eqv (.list (xs.map prD)) (.list []) = xs.isEmpty := by cases xs <;> rfl
theorem prs_shaped (xs : List (Int × Fx)) : SeqAt.shaped (.list (xs.map prD)) = true := by
  have h := shShaped xs
  have h1 := SeqAt.canLay_of_shaped h
  have h2 := SeqAt.depth_of_shaped h
  refine Bool.and_eq_true_iff.mpr ⟨?_, decide_eq_true ?_⟩
  · simpa only [shD, PyData.canLay0] using h1
  · simpa only [shD, PyData.depth] using h2
section
variable {P : Program} {w : World} {K : PySem.W.Frag} {mg : Str → Option Value} {base : Heap}
/-- what is asked of the sizes, where there is something between -/
structure DrwOk (xs : List (Int × Fx)) (l h : Int) : Prop where
  t : Fr (ftot (innM xs l h)) ∧ Sz 1900 (ftot (innM xs l h)) ∧ 0 < (ftot (innM xs l h)).1
  m : Fr (fmom (innM xs l h)) ∧ Sz 1900 (fmom (innM xs l h))
  all : AllF 90 (outM xs l h ++ [((meanM xs l h).1, ftot (innM xs l h))])
def spDrw (K : PySem.W.Frag) : Sp := fun vs H Q _ => ∃ p xs l h, vs = [.ref p, .int l, .int h] ∧ ShZ K H p xs ∧ AllF 90 xs ∧ (∀ a ∈ xs, a.1.natAbs ≤ 200) ∧ xs.length ≤ 8 ∧ (innM xs l h ≠ [] → DrwOk xs l h) ∧
  ∀ H', Same H H' → (innM xs l h = [] → Q (.ref p) H') ∧ (innM xs l h ≠ [] → (meanM xs l h).2 ≠ 1 → Q .non H') ∧ (innM xs l h ≠ [] → (meanM xs l h).2 = 1 → ∀ r ys, ShZ K H' r ys → IsS (gat [] (outM xs l h ++ [((meanM xs l h).1, ftot (innM xs l h))])) ys → Q (.ref r) H')
abbrev nsDrawn : List Str := ["share", "low", "high", "inner", "number", "weight", "whole", "mean", "parts", "outer"]
theorem scDrawn : FnScope nsDrawn ["share", "low", "high"] (defScope sDrawn) := ⟨rfl, rfl, rfl, by decide +kernel, rfl, by decide +kernel, by decide +kernel⟩
theorem ok_drawn {f : Addr} {fd : FuncData} (F : Df K mg "drawn" sDrawn ["share", "low", "high"] f fd)
    {f1 : Addr} {fd1 : FuncData} (D1 : Df K mg "gathered" sGathered ["pairs"] f1 fd1) (G1 : FnOk P w K mg base CX0 3 f1 fd1 ["pairs"] (spGatLZ K))
    {f2 : Addr} {fd2 : FuncData} (D2 : Df K mg "divided" sDivided ["one", "other"] f2 fd2) (G2 : FnOk P w K mg base CX0 2 f2 fd2 ["one", "other"] (spF2 K (fun _ y => 0 < y.1) fdiv))
    {f3 : Addr} {fd3 : FuncData} (D3 : Df K mg "moment_of" sMomentOf ["share"] f3 fd3) (G3 : FnOk P w K mg base CX0 4 f3 fd3 ["share"] (spShFL K fmom))
    {f4 : Addr} {fd4 : FuncData} (D4 : Df K mg "total_of" sTotalOf ["share"] f4 fd4) (G4 : FnOk P w K mg base CX0 4 f4 fd4 ["share"] (spShFL K ftot))
    (T : Bt mg) : FnOk P w K mg base CX0 5 f fd ["share", "low", "high"] (spDrw K) := by
  refine F.F.ok scDrawn (fun vs H Q E h => ?_) (fun cdv A outer s H vs Q E hr h => ?_)
  · obtain ⟨p, xs, l, h0, rfl, _⟩ := h
    rfl
  · obtain ⟨p, xs, l, h0, rfl, hp, al, ab, l8, dk, k⟩ := h
    refine ⟨_, (pss_cons (ps_setLc (i := 3) (own := [("number", 4), ("weight", 5)]) (g := gTup K 2 (gCons (gName 4) (gCons (gName 5) gNil))) (tt := _) rfl scDrawn.nd rfl rfl (sw_true rfl rfl rfl (by decide +kernel)) (pi_tup (pv 0)) (blkOk_by (N := nsDrawn) (sc := defScope sDrawn) (by decide +kernel)) (fun _ _ _ _ _ => pg_tup rfl (pgs_cons (pg_name (i := 4) scDrawn.nd rfl (Or.inl rfl)) (pgs_cons (pg_name (i := 5) scDrawn.nd rfl (Or.inl rfl)) pgs_nil))) (fun _ _ _ _ _ => pts_one (PW.pt (pw_and (pt_cmpR op_le (pv 1) (pv 4) (nomark _)) (pw_and1 (pt_cmpR op_le (pv 4) (pv 2) (nomark _)))))) (fun _ _ _ _ _ => (pe_tup (pa_cons (pv 4) (pa_cons (pv 5) pa_nil)))))
      (pss_cons (ps_if (pt_cmpR (op_eqD hr.units) (pv 3) (pe_lst pa_nil) (nomark _)) (pss_one (ps_ret (pv 0))) pss_nil)
      (pss_cons (ps_set (i := 6) scDrawn.nd rfl (Or.inl rfl) (pe_call G4 (hr.mono (by decide)) (by rfl) D4.g D4.F.kp D4.b .nil pass0 (pa_cons (pv 3) pa_nil)))
      (pss_cons (ps_asg (pe_call G2 (hr.mono (by decide)) (by rfl) D2.g D2.F.kp D2.b .nil pass0 (pa_cons (pe_call G3 (hr.mono (by decide)) (by rfl) D3.g D3.F.kp D3.b .nil pass0 (pa_cons (pv 3) pa_nil)) (pa_cons (pv 6) pa_nil))) (pg_tup rfl (pgs_cons (pg_name (i := 7) scDrawn.nd rfl (Or.inl rfl)) (pgs_cons (pg_name (i := 8) scDrawn.nd rfl (Or.inl rfl)) pgs_nil))))
      (pss_cons (ps_if (pt_cmpR op_ne (pv 8) pe_int (nomark _)) (pss_one (ps_ret pe_non)) pss_nil)
      (pss_cons (ps_setLc (i := 9) (own := [("number", 4), ("weight", 5)]) (g := gTup K 2 (gCons (gName 4) (gCons (gName 5) gNil))) (tt := _) rfl scDrawn.nd rfl rfl (sw_true rfl rfl rfl (by decide +kernel)) (pi_tup (pv 0)) (blkOk_by (N := nsDrawn) (sc := defScope sDrawn) (by decide +kernel)) (fun _ _ _ _ _ => pg_tup rfl (pgs_cons (pg_name (i := 4) scDrawn.nd rfl (Or.inl rfl)) (pgs_cons (pg_name (i := 5) scDrawn.nd rfl (Or.inl rfl)) pgs_nil))) (fun _ _ _ _ _ => pts_one (PW.pt (pw_or (pt_cmpR op_lt (pv 4) (pv 1) (nomark _)) (pw_or1 (pt_cmpR op_gt (pv 4) (pv 2) (nomark _)))))) (fun _ _ _ _ _ => (pe_tup (pa_cons (pv 4) (pa_cons (pv 5) pa_nil)))))
      (pss_one (ps_ret (pe_call G1 (hr.mono (by decide)) (by rfl) D1.g D1.F.kp D1.b .nil pass0 (pa_cons (pe_lst (StX.pa_star (pv 9) (pa_cons (pe_tup (pa_cons (pv 7) (pa_cons (pv 6) pa_nil))) pa_nil))) pa_nil)))))))))), ?_⟩
    obtain ⟨vs, hz, hP⟩ := hp
    have hv := hz.sq (K := K)
    have lv := hP.len
    have li : (innM xs l h0).length ≤ 8 := Nat.le_trans (List.length_filter_le _ _) l8
    refine ⟨_, rfl, p, rfl, ⟨_, hv⟩, fun D nD => lc_it (walk_tup (K := K) (a := p) (xs := vs)) (fun i H' => ∃ us, H' D = some (.lst us) ∧ Same H H' ∧ PrsAt K H' us (innM (xs.take i) l h0)) ⟨[], upd_same, Same.new nD, .nil⟩ (fun i H' _ ⟨_, _, s, _⟩ => s.tup hv) ?_ ?_⟩
    · rintro i x H2 H3 hi ⟨us, h2, s2, c2⟩ ⟨rfl, hx⟩
      obtain ⟨q, r, m, y, rfl, hm, hq, hr⟩ := hP.get hx
      have lu := c2.len
      have lq : (innM (xs.take i) l h0).length ≤ 8 := Nat.le_trans (List.length_filter_le _ _) (by rw [List.length_take]; omega)
      refine ⟨q, _, rfl, s2.tup hq, rfl, _, _, rfl, _, _, rfl, rfl, rfl, ?_⟩
      refine ⟨_, rfl, _, rfl, _, _, rfl, rfl, _, rfl, ?_⟩
      by_cases c1 : l ≤ m
      · refine iteTe (decide_eq_true c1) ⟨_, rfl, _, rfl, _, _, rfl, rfl, _, rfl, ?_⟩
        by_cases c3 : m ≤ h0
        · refine iteTe (decide_eq_true c3) ⟨_, rfl, _, rfl, (by show 2 ≤ sizeLine; decide), fun b nb => ?_⟩
          have k4 := Same.new (o := .tup [V.int m, V.ref r]) nb
          refine ⟨us, k4 _ _ h2, small1000 (by omega), us ++ [.ref b], upd_same, same_upd nD (s2.trans k4), ?_⟩
          rw [inn_yes hm ⟨c1, c3⟩]
          exact ((c2.tk (tk_same k4)).app (.cons (SqT.of upd_same) ((s2.trans k4).tup hr) .nil)).tk (tk_lst (k4 _ _ h2))
        · refine iteFe (decide_eq_false c3) ⟨us, h2, s2, ?_⟩
          rw [inn_no hm fun z => c3 z.2]
          exact c2
      · refine iteFe (decide_eq_false c1) (iteF ⟨us, h2, s2, ?_⟩)
        rw [inn_no hm fun z => c1 z.1]
        exact c2
    rintro H2 ⟨us, h2, s2, c2⟩
    rw [lv, List.take_length] at c2
    refine ⟨_, rfl, (by show 0 ≤ sizeLine; decide), fun e0 n0 => ?_⟩
    have q0 := Same.new (o := .lst []) n0
    refine ⟨_, _, .lst (SqL.of (q0 _ _ h2)) (c2.tk (tk_same q0)).dp, .lst (ds := []) (SqL.of upd_same) .nil, prs_shaped _, by rfl, _, rfl, ?_⟩
    rw [prs_nil]
    have h3 := q0 _ _ h2
    have c3 := c2.tk (tk_same q0)
    have s3 := s2.trans q0
    generalize upd H2 e0 (.lst []) = H3 at *
    by_cases em : innM xs l h0 = []
    · exact iteTe (by rw [em]; rfl) ⟨_, rfl, (k H3 s3).1 em⟩
    have ok := dk em
    have ali : AllF 90 (innM xs l h0) := fun a ha => al a (List.mem_filter.mp ha).1
    have abi : ∀ a ∈ innM xs l h0, a.1.natAbs ≤ 200 := fun a ha => ab a (List.mem_filter.mp ha).1
    refine iteFe (by cases e : innM xs l h0 with | nil => exact absurd e em | cons _ _ => rfl) ?_
    refine ⟨_, rfl, D, _, rfl, ⟨us, SqL.of h3, c3⟩, ali, abi, by omega, fun H4 r1 s4 t4 => ?_⟩
    refine ⟨_, rfl, D, _, rfl, ⟨us, SqL.of (s4 _ _ h3), c3.tk (tk_same s4)⟩, ali, abi, by omega, fun H5 r2 s5 t5 => ⟨_, rfl, r2, r1, _, _, rfl, t5, s5.tup t4, ok.m.1, ok.t.1, ok.m.2, ok.t.2.1, ok.t.2.2, fun e ne => ?_⟩⟩
    have q5 := Same.new (o := .tup [V.int (meanM xs l h0).1, V.int (meanM xs l h0).2]) ne
    refine ⟨e, [V.int (meanM xs l h0).1, V.int (meanM xs l h0).2], rfl, SqT.of upd_same, rfl, _, _, rfl, _, _, rfl, rfl, ?_⟩
    rw [show fdiv (fmom (innM xs l h0)) (ftot (innM xs l h0)) = meanM xs l h0 from rfl]
    have s6 := s3.trans (s4.trans (s5.trans q5))
    have t6 := q5.tup (s5.tup t4)
    refine ⟨_, rfl, rfl, _, rfl, ?_⟩
    rw [dec_int]
    by_cases one : (meanM xs l h0).2 = 1
    · refine iteFe (by rw [one]; rfl) ?_
      generalize upd H5 e (.tup [V.int (meanM xs l h0).1, V.int (meanM xs l h0).2]) = H6 at *
      have hv6 := s6.tup hv
      have hP6 := hP.tk (tk_same s6)
      have lo : (outM xs l h0).length ≤ 8 := Nat.le_trans (List.length_filter_le _ _) l8
      refine ⟨_, rfl, p, rfl, ⟨_, hv6⟩, fun D2 nD2 => lc_it (walk_tup (K := K) (a := p) (xs := vs)) (fun i H' => ∃ us, H' D2 = some (.lst us) ∧ Same H6 H' ∧ PrsAt K H' us (outM (xs.take i) l h0)) ⟨[], upd_same, Same.new nD2, .nil⟩ (fun i H' _ ⟨_, _, s, _⟩ => s.tup hv6) ?_ ?_⟩
      · rintro i x H7 H8 hi ⟨us, h7, s7, c7⟩ ⟨rfl, hx⟩
        obtain ⟨q, r, m, y, rfl, hm, hq, hr⟩ := hP6.get hx
        have lu := c7.len
        have lq : (outM (xs.take i) l h0).length ≤ 8 := Nat.le_trans (List.length_filter_le _ _) (by rw [List.length_take]; omega)
        have put : (m < l ∨ h0 < m) → ∀ b, H8 b = none → ∃ acc, (upd H8 b (.tup [V.int m, V.ref r])) D2 = some (.lst acc) ∧ acc.length < sizeLine ∧ ∃ us, (upd (upd H8 b (.tup [V.int m, V.ref r])) D2 (.lst (acc ++ [V.ref b]))) D2 = some (.lst us) ∧ Same H6 (upd (upd H8 b (.tup [V.int m, V.ref r])) D2 (.lst (acc ++ [V.ref b]))) ∧ PrsAt K (upd (upd H8 b (.tup [V.int m, V.ref r])) D2 (.lst (acc ++ [V.ref b]))) us (outM (xs.take (i + 1)) l h0) := fun c b nb => by
          have k4 := Same.new (o := .tup [V.int m, V.ref r]) nb
          refine ⟨us, k4 _ _ h7, small1000 (by omega), us ++ [.ref b], upd_same, same_upd nD2 (s7.trans k4), ?_⟩
          rw [out_yes hm c]
          exact ((c7.tk (tk_same k4)).app (.cons (SqT.of upd_same) ((s7.trans k4).tup hr) .nil)).tk (tk_lst (k4 _ _ h7))
        refine ⟨q, _, rfl, s7.tup hq, rfl, _, _, rfl, _, _, rfl, rfl, rfl, ?_⟩
        refine ⟨_, rfl, _, rfl, _, _, rfl, rfl, _, rfl, ?_⟩
        by_cases c1 : m < l
        · exact iteTe (decide_eq_true c1) (iteT ⟨_, rfl, _, rfl, (by show 2 ≤ sizeLine; decide), fun b nb => put (.inl c1) b nb⟩)
        · refine iteFe (decide_eq_false c1) ⟨_, rfl, _, rfl, _, _, rfl, rfl, _, rfl, ?_⟩
          by_cases c3 : h0 < m
          · exact iteTe (decide_eq_true c3) ⟨_, rfl, _, rfl, (by show 2 ≤ sizeLine; decide), fun b nb => put (.inr c3) b nb⟩
          · refine iteFe (decide_eq_false c3) ⟨us, h7, s7, ?_⟩
            rw [out_no hm fun z => z.elim c1 c3]
            exact c7
      rintro H7 ⟨us2, h7, s7, c7⟩
      rw [lv, List.take_length] at c7
      refine ⟨_, rfl, D2, _, rfl, .inr (SqL.of h7), _, rfl, _, rfl, (by show 2 ≤ sizeLine; decide), fun b1 m1 => ?_⟩
      have q8 := Same.new (o := .tup [V.int (meanM xs l h0).1, V.ref r1]) m1
      have lu2 := c7.len
      refine ⟨Nat.le_trans (show (us2 ++ [V.ref b1]).length ≤ 100 by rw [List.length_append]; show _ + 1 ≤ 100; omega) (by decide), fun L nL => ?_⟩
      have q9 := Same.new (o := .lst (us2 ++ [V.ref b1])) nL
      have s9 := s6.trans (s7.trans (q8.trans q9))
      have P9 : PrsAt K (upd (upd H7 b1 (.tup [V.int (meanM xs l h0).1, V.ref r1])) L (.lst (us2 ++ [V.ref b1]))) (us2 ++ [V.ref b1]) (outM xs l h0 ++ [((meanM xs l h0).1, ftot (innM xs l h0))]) := (c7.tk (tk_same (q8.trans q9))).app (.cons (q9.tup (SqT.of upd_same)) ((s7.trans (q8.trans q9)).tup t6) .nil)
      exact ⟨L, _, _, rfl, SqL.of upd_same, P9, ok.all, by rw [List.length_append]; show _ + 1 ≤ 16; omega, fun H' r' ys s' g1 g2 => (k H' (s9.trans s')).2.2 em one r' ys g1 g2⟩
    · exact iteTe (by rw [show ((meanM xs l h0).2 == 1) = false from beq_eq_false_iff_ne.mpr one]; rfl) ((k _ s6).2.1 em one)
end
end CS
set_option maxHeartbeats 1000000
set_option linter.unusedVariables false
/-! Windows of weights on whole numbers, sums over a list of places; plain Lean over Rat. -/
namespace Cu
/-- a sum over the places -/
def sm (L : List Int) (f : Int → Rat) : Rat := (L.map f).sum
theorem sm_nil (f : Int → Rat) : sm [] f = 0 := rfl
theorem sm_cons (a : Int) (L : List Int) (f : Int → Rat) : sm (a :: L) f = f a + sm L f := by
  simp [sm, List.sum_cons]
theorem sm_congr {L : List Int} {f g : Int → Rat} (h : ∀ x ∈ L, f x = g x) : sm L f = sm L g := by
  induction L with
  | nil => rfl
  | cons a L ih =>
    rw [sm_cons, sm_cons, h a List.mem_cons_self, ih fun x hx => h x (List.mem_cons_of_mem _ hx)]
theorem sm_add (L : List Int) (f g : Int → Rat) : sm L (fun x => f x + g x) = sm L f + sm L g := by
  induction L with
  | nil => simp [sm_nil]; grind
  | cons a L ih =>
    simp only [sm_cons]
    rw [ih]
    grind
theorem sm_sub (L : List Int) (f g : Int → Rat) : sm L (fun x => f x - g x) = sm L f - sm L g := by
  induction L with
  | nil => simp [sm_nil]; grind
  | cons a L ih =>
    simp only [sm_cons]
    rw [ih]
    grind
theorem sm_mul (L : List Int) (f : Int → Rat) (c : Rat) : sm L (fun x => c * f x) = c * sm L f := by
  induction L with
  | nil => simp [sm_nil]
  | cons a L ih =>
    simp only [sm_cons]
    rw [ih]
    grind
theorem sm_nonneg {L : List Int} {f : Int → Rat} (h : ∀ x ∈ L, 0 ≤ f x) : 0 ≤ sm L f := by
  induction L with
  | nil => simp [sm_nil]
  | cons a L ih =>
    rw [sm_cons]
    have h1 := h a List.mem_cons_self
    have h2 := ih fun x hx => h x (List.mem_cons_of_mem _ hx)
    grind
theorem sm_le {L : List Int} {f g : Int → Rat} (h : ∀ x ∈ L, f x ≤ g x) : sm L f ≤ sm L g := by
  have h1 : 0 ≤ sm L (fun x => g x - f x) := sm_nonneg fun x hx => by have := h x hx; grind
  rw [sm_sub] at h1
  grind
theorem sm_zero {L : List Int} {f : Int → Rat} (h : ∀ x ∈ L, 0 ≤ f x) (e : sm L f = 0) : ∀ x ∈ L, f x = 0 := by
  induction L with
  | nil => intro x hx; cases hx
  | cons a L ih =>
    rw [sm_cons] at e
    have h1 := h a List.mem_cons_self
    have h2 := sm_nonneg fun x hx => h x (List.mem_cons_of_mem a hx)
    intro x hx
    rcases List.mem_cons.mp hx with q | q
    · subst q; grind
    · exact ih (fun x hx => h x (List.mem_cons_of_mem _ hx)) (by grind) x q
def tot (L : List Int) (f : Int → Rat) : Rat := sm L f
def mom (L : List Int) (f : Int → Rat) : Rat := sm L fun x => f x * (x : Rat)
/-- what changes its sign but once, with no total and no moment, is nought -/
theorem cross1 {L : List Int} {D : Int → Rat} {c : Int} (h1 : ∀ x ∈ L, x < c → 0 ≤ D x) (h2 : ∀ x ∈ L, c < x → D x ≤ 0) (t0 : tot L D = 0) (m0 : mom L D = 0) : ∀ x ∈ L, D x = 0 := by
  have e : sm L (fun x => ((c : Rat) - (x : Rat)) * D x) = 0 := by
    have e1 : sm L (fun x => ((c : Rat) - (x : Rat)) * D x) = sm L (fun x => (c : Rat) * D x) - sm L (fun x => D x * (x : Rat)) := by
      rw [← sm_sub]
      exact sm_congr fun x _ => by grind
    rw [e1, sm_mul]
    unfold tot at t0
    unfold mom at m0
    rw [t0, m0]
    grind
  have nn : ∀ x ∈ L, 0 ≤ ((c : Rat) - (x : Rat)) * D x := by
    intro x hx
    rcases Int.lt_trichotomy x c with q | q | q
    · have q2 : (x : Rat) < (c : Rat) := Rat.intCast_lt_intCast.mpr q
      exact Rat.mul_nonneg (by grind) (h1 x hx q)
    · subst q
      have : ((x : Rat) - (x : Rat)) * D x = 0 := by grind
      grind
    · have q2 : (c : Rat) < (x : Rat) := Rat.intCast_lt_intCast.mpr q
      have := Rat.mul_nonneg (show (0 : Rat) ≤ (x : Rat) - (c : Rat) by grind) (show (0 : Rat) ≤ - D x by have := h2 x hx q; grind)
      grind
  have z := sm_zero nn e
  have nz : ∀ x ∈ L, x ≠ c → D x = 0 := by
    intro x hx hne
    have h := z x hx
    have hd : (c : Rat) - (x : Rat) ≠ 0 := by
      intro q
      have : (c : Rat) = (x : Rat) := by grind
      exact hne (Rat.intCast_inj.mp this).symm
    grind
  rcases (Rat.le_total (a := 0) (b := D c)) with q | q
  · exact sm_zero (fun x hx => by by_cases e : x = c; · rw [e]; exact q
                                  · rw [nz x hx e]; exact Rat.le_refl) t0
  · intro x hx
    have t1 : sm L (fun x => - D x) = 0 := by
      have : sm L (fun x => - D x) = sm L (fun x => (-1 : Rat) * D x) := sm_congr fun x _ => by grind
      rw [this, sm_mul]
      unfold tot at t0
      rw [t0]
      grind
    have := sm_zero (f := fun x => - D x) (fun x hx => by by_cases e : x = c; · rw [e]; grind
                                                          · rw [nz x hx e]; grind) t1 x hx
    grind
/-- a window of weights: no more than there, from a to b, all of it between -/
structure Win (L : List Int) (v W : Int → Rat) (a b : Int) : Prop where
  nn : ∀ x ∈ L, 0 ≤ W x
  le : ∀ x ∈ L, W x ≤ v x
  lo : ∀ x ∈ L, x < a → W x = 0
  hi : ∀ x ∈ L, b < x → W x = 0
  mid : ∀ x ∈ L, a < x → x < b → W x = v x
theorem neg_tot {L : List Int} {V W : Int → Rat} (t : tot L V = tot L W) (m : mom L V = mom L W) : tot L (fun x => W x - V x) = 0 ∧ mom L (fun x => W x - V x) = 0 := by
  unfold tot mom at *
  constructor
  · rw [sm_sub, t]; grind
  · have : sm L (fun x => (W x - V x) * (x : Rat)) = sm L (fun x => W x * (x : Rat) - V x * (x : Rat)) := sm_congr fun x _ => by grind
    rw [this, sm_sub, m]; grind
theorem win_uniq1 {L : List Int} {v V W : Int → Rat} {a b a' b' : Int} (hV : Win L v V a b) (hW : Win L v W a' b') (ha : a ≤ a') (t : tot L V = tot L W) (m : mom L V = mom L W) : ∀ x ∈ L, V x = W x := by
  obtain ⟨t1, m1⟩ := neg_tot t m
  obtain ⟨t2, m2⟩ := neg_tot t.symm m.symm
  have fin1 : (∀ x ∈ L, W x - V x = 0) → ∀ x ∈ L, V x = W x := fun h x hx => by have := h x hx; grind
  have fin2 : (∀ x ∈ L, V x - W x = 0) → ∀ x ∈ L, V x = W x := fun h x hx => by have := h x hx; grind
  have f : ∀ x ∈ L, 0 ≤ V x ∧ 0 ≤ W x ∧ V x ≤ v x ∧ W x ≤ v x ∧ (x < a → V x = 0) ∧ (b < x → V x = 0) ∧ (a < x → x < b → V x = v x) ∧ (x < a' → W x = 0) ∧ (b' < x → W x = 0) ∧ (a' < x → x < b' → W x = v x) :=
    fun x hx => ⟨hV.nn x hx, hW.nn x hx, hV.le x hx, hW.le x hx, hV.lo x hx, hV.hi x hx, hV.mid x hx, hW.lo x hx, hW.hi x hx, hW.mid x hx⟩
  rcases Int.lt_or_le b b' with hb | hb
  · -- W lies to the right
    by_cases e : a = a'
    · subst e
      refine fin2 (cross1 (c := a) (fun x hx q => ?_) (fun x hx q => ?_) t2 m2) <;> (have := f x hx; grind)
    · refine fin2 (cross1 (c := a') (fun x hx q => ?_) (fun x hx q => ?_) t2 m2) <;> (have := f x hx; grind)
  · by_cases e : a = a'
    · subst e
      by_cases e2 : b' = b
      · subst e2
        rcases (Rat.le_total (a := V b' - W b') (b := 0)) with q0 | q0
        · refine fin2 (cross1 (c := a) (fun x hx q => ?_) (fun x hx q => ?_) t2 m2)
          · have := f x hx; grind
          · have := f x hx
            rcases Int.lt_trichotomy x b' with z | z | z
            · grind
            · subst z; exact q0
            · grind
        · refine fin1 (cross1 (c := a) (fun x hx q => ?_) (fun x hx q => ?_) t1 m1)
          · have := f x hx; grind
          · have := f x hx
            rcases Int.lt_trichotomy x b' with z | z | z
            · grind
            · subst z; grind
            · grind
      · refine fin1 (cross1 (c := a) (fun x hx q => ?_) (fun x hx q => ?_) t1 m1) <;> (have := f x hx; grind)
    · refine fin2 (cross1 (c := b) (fun x hx q => ?_) (fun x hx q => ?_) t2 m2) <;> (have := f x hx; grind)
/-- no two unlike windows have one total and one moment -/
theorem win_uniq {L : List Int} {v V W : Int → Rat} {a b a' b' : Int} (hV : Win L v V a b) (hW : Win L v W a' b') (t : tot L V = tot L W) (m : mom L V = mom L W) : ∀ x ∈ L, V x = W x := by
  rcases Int.le_total a a' with h | h
  · exact win_uniq1 hV hW h t m
  · exact fun x hx => (win_uniq1 hW hV h t.symm m.symm x hx).symm
/-! ### rests -/
def pl (x t : Int) : Rat := if t < x then (x : Rat) - (t : Rat) else 0
def rs (L : List Int) (m : Int → Rat) (t : Int) : Rat := sm L fun x => m x * pl x t
theorem pl_nonneg (x t : Int) : 0 ≤ pl x t := by
  unfold pl
  split
  · next h =>
    have : (t : Rat) < (x : Rat) := Rat.intCast_lt_intCast.mpr h
    grind
  · exact Rat.le_refl
theorem pl_lt {x t : Int} (h : t ≤ x) : pl x t = (x : Rat) - (t : Rat) := by
  unfold pl
  split
  · rfl
  · next q =>
    have : x = t := by omega
    subst this
    grind
theorem pl_ge {x t : Int} (h : x ≤ t) : pl x t = 0 := by
  unfold pl
  rw [if_neg (by omega)]
theorem pl_diff (x t : Int) : pl x (t + 1) - 2 * pl x t + pl x (t - 1) = if x = t then 1 else 0 := by
  have e1 : ((t + 1 : Int) : Rat) = (t : Rat) + 1 := by rw [Rat.intCast_add]; rfl
  have e2 : ((t - 1 : Int) : Rat) = (t : Rat) - 1 := by rw [Rat.intCast_sub]; rfl
  rcases Int.lt_trichotomy x t with h | h | h
  · rw [pl_ge (by omega), pl_ge (by omega), pl_ge (by omega), if_neg (by omega)]
    grind
  · subst h
    rw [pl_ge (by omega), pl_ge (by omega), pl_lt (by omega), if_pos rfl, e2]
    grind
  · rw [pl_lt (by omega), pl_lt (by omega), pl_lt (by omega), if_neg (by omega), e1, e2]
    grind
theorem rs_sub (L : List Int) (f g : Int → Rat) (t : Int) : rs L (fun x => f x - g x) t = rs L f t - rs L g t := by
  unfold rs
  rw [← sm_sub]
  exact sm_congr fun x _ => by grind
theorem rs_diff (L : List Int) (m : Int → Rat) (t : Int) : rs L m (t + 1) - 2 * rs L m t + rs L m (t - 1) = sm L fun x => m x * (if x = t then 1 else 0) := by
  unfold rs
  rw [← sm_mul, ← sm_sub, ← sm_add]
  refine sm_congr fun x _ => ?_
  rw [← pl_diff x t]
  grind
theorem rs_low {L : List Int} {m : Int → Rat} {t : Int} (h : ∀ x ∈ L, x < t → m x = 0) : rs L m t = mom L m - (t : Rat) * tot L m := by
  unfold rs mom tot
  rw [← sm_mul, ← sm_sub]
  refine sm_congr fun x hx => ?_
  rcases Int.lt_or_le x t with q | q
  · rw [h x hx q]; grind
  · rw [pl_lt q]; grind
theorem rs_high {L : List Int} {m : Int → Rat} {t : Int} (h : ∀ x ∈ L, t < x → m x = 0) : rs L m t = 0 := by
  unfold rs
  have : sm L (fun x => m x * pl x t) = sm L (fun x => (0 : Rat) * m x) := sm_congr fun x hx => by
    rcases Int.lt_or_le t x with q | q
    · rw [h x hx q]; grind
    · rw [pl_ge q]; grind
  rw [this, sm_mul]
  grind
/-- what bends up between two places where it is not above nought is nowhere between above it -/
theorem maxp {h : Int → Rat} {a b : Int} (ha : h a ≤ 0) (hb : h b ≤ 0) (hc : ∀ t, a < t → t < b → 0 ≤ h (t + 1) - 2 * h t + h (t - 1)) : ∀ t, a ≤ t → t ≤ b → h t ≤ 0 := by
  have up : ∀ n : Nat, ∀ t : Int, a < t → t + n = b → 0 < h t → h (t - 1) < h t → 0 < h b := by
    intro n
    induction n with
    | zero =>
      intro t h1 h2 h3 h4
      have : t = b := by omega
      rw [← this]
      exact h3
    | succ n ih =>
      intro t h1 h2 h3 h4
      have c := hc t h1 (by omega)
      refine ih (t + 1) (by omega) (by omega) (by grind) ?_
      rw [show t + 1 - 1 = t by omega]
      grind
  have all : ∀ n : Nat, a + n ≤ b → h (a + n) ≤ 0 := by
    intro n
    induction n with
    | zero =>
      intro _
      rw [show a + ((0 : Nat) : Int) = a by omega]
      exact ha
    | succ n ih =>
      intro hn
      have i := ih (by omega)
      rcases Rat.le_total (a := h (a + ((n + 1 : Nat) : Int))) (b := 0) with q | q
      · exact q
      · rcases Rat.le_iff_lt_or_eq.mp q with q2 | q2
        · have := up (b - (a + ((n + 1 : Nat) : Int))).toNat (a + ((n + 1 : Nat) : Int)) (by omega) (by omega) q2 (by
            rw [show a + ((n + 1 : Nat) : Int) - 1 = a + (n : Int) by omega]
            grind)
          grind
        · rw [← q2]; exact Rat.le_refl
  intro t h1 h2
  have := all (t - a).toNat (by omega)
  rwa [show a + ((t - a).toNat : Int) = t by omega] at this
/-- no lesser rest anywhere, with one total and one moment -/
structure Wid (L : List Int) (mu nu : Int → Rat) : Prop where
  t : tot L mu = tot L nu
  m : mom L mu = mom L nu
  r : ∀ s : Int, rs L mu s ≤ rs L nu s
def atom (x0 : Int) (w : Rat) : Int → Rat := fun x => if x = x0 then w else 0
theorem win_mean {L : List Int} {v W : Int → Rat} {a b x0 : Int} {w : Rat} (hW : Win L v W a b) (hw : 0 < w) (t : tot L W = w) (m : mom L W = w * (x0 : Rat)) : a ≤ x0 ∧ x0 ≤ b := by
  constructor
  · rcases Int.lt_or_le x0 a with q | q
    · exfalso
      have h : 0 ≤ sm L (fun x => W x * (x : Rat) - (a : Rat) * W x) := sm_nonneg fun x hx => by
        rcases Int.lt_or_le x a with z | z
        · rw [hW.lo x hx z]; grind
        · have z2 : (a : Rat) ≤ (x : Rat) := Rat.intCast_le_intCast.mpr z
          have := Rat.mul_nonneg (hW.nn x hx) (show (0 : Rat) ≤ (x : Rat) - (a : Rat) by grind)
          grind
      rw [sm_sub, sm_mul] at h
      unfold tot at t
      unfold mom at m
      rw [m, t] at h
      have q2 : (x0 : Rat) < (a : Rat) := Rat.intCast_lt_intCast.mpr q
      have := Rat.mul_pos hw (show (0 : Rat) < (a : Rat) - (x0 : Rat) by grind)
      grind
    · exact q
  · rcases Int.lt_or_le b x0 with q | q
    · exfalso
      have h : 0 ≤ sm L (fun x => (b : Rat) * W x - W x * (x : Rat)) := sm_nonneg fun x hx => by
        rcases Int.lt_or_le b x with z | z
        · rw [hW.hi x hx z]; grind
        · have z2 : (x : Rat) ≤ (b : Rat) := Rat.intCast_le_intCast.mpr z
          have := Rat.mul_nonneg (hW.nn x hx) (show (0 : Rat) ≤ (b : Rat) - (x : Rat) by grind)
          grind
      rw [sm_sub, sm_mul] at h
      unfold tot at t
      unfold mom at m
      rw [m, t] at h
      have q2 : (b : Rat) < (x0 : Rat) := Rat.intCast_lt_intCast.mpr q
      have := Rat.mul_pos hw (show (0 : Rat) < (x0 : Rat) - (b : Rat) by grind)
      grind
    · exact q
theorem rs_eq_out {L : List Int} {v W : Int → Rat} {a b x0 : Int} {w : Rat} {p : Int → Rat} (hW : Win L v W a b) (hw : 0 < w) (t : tot L W = w) (m : mom L W = w * (x0 : Rat)) (hp : ∀ s, rs L p s = w * pl x0 s) (s : Int) (hs : s ≤ a ∨ b ≤ s) : rs L p s = rs L W s := by
  obtain ⟨h1, h2⟩ := win_mean hW hw t m
  rw [hp]
  rcases hs with q | q
  · rw [rs_low (fun x hx z => hW.lo x hx (by omega)), m, t, pl_lt (by omega)]
    grind
  · rw [rs_high (fun x hx z => hW.hi x hx (by omega)), pl_ge (by omega)]
    grind
/-- what is left when a part of one place goes to its window is still wider -/
theorem wid_rest {L : List Int} {mu nu W p : Int → Rat} {a b x0 : Int} {w : Rat} (h : Wid L mu nu) (hW : Win L nu W a b) (hw : 0 < w) (t : tot L W = w) (m : mom L W = w * (x0 : Rat))
    (hp : ∀ s, rs L p s = w * pl x0 s) (tp : tot L p = w) (mp : mom L p = w * (x0 : Rat)) (nn : ∀ x ∈ L, p x ≤ mu x) : Wid L (fun x => mu x - p x) (fun x => nu x - W x) := by
  have ht := h.t
  have hm := h.m
  refine ⟨?_, ?_, ?_⟩
  · unfold tot at *
    rw [sm_sub, sm_sub, tp, t, ht]
  · unfold mom at *
    have e1 : sm L (fun x => (mu x - p x) * (x : Rat)) = sm L (fun x => mu x * (x : Rat) - p x * (x : Rat)) := sm_congr fun x _ => by grind
    have e2 : sm L (fun x => (nu x - W x) * (x : Rat)) = sm L (fun x => nu x * (x : Rat) - W x * (x : Rat)) := sm_congr fun x _ => by grind
    rw [e1, e2, sm_sub, sm_sub, mp, m, hm]
  · intro s
    have out : ∀ s, s ≤ a ∨ b ≤ s → rs L (fun x => mu x - p x) s ≤ rs L (fun x => nu x - W x) s := by
      intro s hs
      have := rs_eq_out hW hw t m hp s hs
      have := h.r s
      rw [rs_sub, rs_sub]
      grind
    rcases Int.lt_or_le s a with q | q
    · exact out s (.inl (by omega))
    rcases Int.lt_or_le b s with q2 | q2
    · exact out s (.inr (by omega))
    have oa := out a (.inl (Int.le_refl a))
    have ob := out b (.inr (Int.le_refl b))
    have key := maxp (h := fun s => rs L (fun x => mu x - p x) s - rs L (fun x => nu x - W x) s) (a := a) (b := b) (by grind) (by grind) (fun s h1 h2 => by
      have d1 := rs_diff L (fun x => mu x - p x) s
      have d2 := rs_diff L (fun x => nu x - W x) s
      have n1 : 0 ≤ sm L (fun x => (mu x - p x) * (if x = s then 1 else 0)) := sm_nonneg fun x hx => by
        have := nn x hx
        split <;> grind
      have n2 : sm L (fun x => (nu x - W x) * (if x = s then 1 else 0)) = 0 := by
        have : sm L (fun x => (nu x - W x) * (if x = s then 1 else 0)) = sm L (fun x => (0 : Rat) * nu x) := sm_congr fun x hx => by
          split
          · next e =>
            rw [hW.mid x hx (by omega) (by omega)]
            grind
          · grind
        rw [this, sm_mul]
        grind
      grind) s q q2
    grind
end Cu
set_option maxHeartbeats 1000000
set_option linter.unusedVariables false
namespace Cu
def mn (a b : Rat) : Rat := if a ≤ b then a else b
theorem mn_le_left (a b : Rat) : mn a b ≤ a := by unfold mn; split <;> grind
theorem mn_le_right (a b : Rat) : mn a b ≤ b := by unfold mn; split <;> grind
theorem mn_nonneg {a b : Rat} (ha : 0 ≤ a) (hb : 0 ≤ b) : 0 ≤ mn a b := by unfold mn; split <;> grind
/-- of the first places as much as makes z together -/
def tk : List Int → (Int → Rat) → Rat → Int → Rat
  | [], _, _ => fun _ => 0
  | a :: L, v, z => fun x => if x = a then mn (v a) z else tk L v (z - mn (v a) z) x
def gm : List Int → (Int → Rat) → Rat → Rat
  | [], _, _ => 0
  | a :: L, v, z => (a : Rat) * mn (v a) z + gm L v (z - mn (v a) z)
theorem tk_mem : ∀ {L : List Int} {v : Int → Rat} {z : Rat} {x : Int}, x ∉ L → tk L v z x = 0
  | [], _, _, _, _ => rfl
  | a :: L, v, z, x, h => by
    simp only [List.mem_cons, not_or] at h
    show (if x = a then mn (v a) z else tk L v (z - mn (v a) z) x) = 0
    rw [if_neg h.1]
    exact tk_mem h.2
theorem tk_tail {a : Int} {L : List Int} {v : Int → Rat} {z : Rat} {x : Int} (h : a ∉ L) (hx : x ∈ L) : tk (a :: L) v z x = tk L v (z - mn (v a) z) x := by
  show (if x = a then mn (v a) z else tk L v (z - mn (v a) z) x) = _
  rw [if_neg (fun e : x = a => h (e ▸ hx))]
theorem tk_head {a : Int} {L : List Int} {v : Int → Rat} {z : Rat} : tk (a :: L) v z a = mn (v a) z := by
  show (if a = a then mn (v a) z else _) = _
  rw [if_pos rfl]
theorem tk_tot : ∀ {L : List Int} {v : Int → Rat} {z : Rat}, L.Nodup → (∀ x ∈ L, 0 ≤ v x) → 0 ≤ z → z ≤ tot L v → tot L (tk L v z) = z
  | [], v, z, _, _, h0, h1 => by
    unfold tot at *
    rw [sm_nil] at *
    grind
  | a :: L, v, z, hn, hv, h0, h1 => by
    rw [List.nodup_cons] at hn
    have hva := hv a List.mem_cons_self
    unfold tot at *
    rw [sm_cons] at *
    rw [tk_head]
    have l1 := mn_le_left (v a) z
    have l2 := mn_le_right (v a) z
    have nn := sm_nonneg fun x hx => hv x (List.mem_cons_of_mem a hx)
    have ih := tk_tot (L := L) (v := v) (z := z - mn (v a) z) hn.2 (fun x hx => hv x (List.mem_cons_of_mem _ hx)) (by grind) (by unfold tot; unfold mn; split <;> grind)
    unfold tot at ih
    rw [sm_congr fun x hx => tk_tail hn.1 hx, ih]
    grind
theorem tk_mom : ∀ {L : List Int} {v : Int → Rat} {z : Rat}, L.Nodup → mom L (tk L v z) = gm L v z
  | [], v, z, _ => rfl
  | a :: L, v, z, hn => by
    rw [List.nodup_cons] at hn
    have ih := tk_mom (L := L) (v := v) (z := z - mn (v a) z) hn.2
    unfold mom at *
    rw [sm_cons, tk_head]
    rw [sm_congr (g := fun x => tk L v (z - mn (v a) z) x * (x : Rat)) fun x hx => by rw [tk_tail hn.1 hx], ih]
    show _ = (a : Rat) * mn (v a) z + gm L v (z - mn (v a) z)
    grind
/-- it is all up to a place, and nothing beyond it -/
def Upto (L : List Int) (v W : Int → Rat) (c : Int) : Prop := (∀ x ∈ L, x < c → W x = v x) ∧ (∀ x ∈ L, c < x → W x = 0) ∧ ∀ x ∈ L, 0 ≤ W x ∧ W x ≤ v x
theorem tk_zero : ∀ {L : List Int} {v : Int → Rat} {x : Int}, (∀ x ∈ L, 0 ≤ v x) → tk L v 0 x = 0
  | [], v, x, _ => rfl
  | a :: L, v, x, hv => by
    have hva := hv a List.mem_cons_self
    have e : mn (v a) 0 = 0 := by unfold mn; split <;> grind
    show (if x = a then mn (v a) 0 else tk L v (0 - mn (v a) 0) x) = 0
    rw [e]
    split
    · rfl
    · rw [show (0 : Rat) - 0 = 0 by grind]
      exact tk_zero fun x hx => hv x (List.mem_cons_of_mem _ hx)
theorem tk_upto : ∀ {L : List Int} {v : Int → Rat} {z : Rat}, L.Pairwise (· < ·) → (∀ x ∈ L, 0 ≤ v x) → 0 ≤ z → ∃ c, Upto L v (tk L v z) c
  | [], v, z, _, _, _ => ⟨0, fun _ h => (by cases h), fun _ h => (by cases h), fun _ h => (by cases h)⟩
  | a :: L, v, z, hs, hv, h0 => by
    have hs' := hs
    rw [List.pairwise_cons] at hs
    have hna : a ∉ L := fun h => by have := hs.1 a h; omega
    have hva := hv a List.mem_cons_self
    have hvL : ∀ x ∈ L, 0 ≤ v x := fun x hx => hv x (List.mem_cons_of_mem _ hx)
    have l1 := mn_le_left (v a) z
    have l2 := mn_le_right (v a) z
    have l3 := mn_nonneg hva h0
    by_cases hz : v a ≤ z
    · have e : mn (v a) z = v a := if_pos hz
      obtain ⟨c, h1, h2, h3⟩ := tk_upto (L := L) (v := v) (z := z - mn (v a) z) hs.2 hvL (by grind)
      by_cases hc : a < c
      · refine ⟨c, ?_, ?_, ?_⟩
        · intro x hx q
          rcases List.mem_cons.mp hx with r | r
          · subst r; rw [tk_head, e]
          · rw [tk_tail hna r]; exact h1 x r q
        · intro x hx q
          rcases List.mem_cons.mp hx with r | r
          · omega
          · rw [tk_tail hna r]; exact h2 x r q
        · intro x hx
          rcases List.mem_cons.mp hx with r | r
          · subst r; rw [tk_head]; exact ⟨l3, l1⟩
          · rw [tk_tail hna r]; exact h3 x r
      · refine ⟨a, ?_, ?_, ?_⟩
        · intro x hx q
          rcases List.mem_cons.mp hx with r | r
          · omega
          · have := hs.1 x r; omega
        · intro x hx q
          rcases List.mem_cons.mp hx with r | r
          · omega
          · rw [tk_tail hna r]; exact h2 x r (by omega)
        · intro x hx
          rcases List.mem_cons.mp hx with r | r
          · subst r; rw [tk_head]; exact ⟨l3, l1⟩
          · rw [tk_tail hna r]; exact h3 x r
    · have e : mn (v a) z = z := if_neg hz
      refine ⟨a, ?_, ?_, ?_⟩
      · intro x hx q
        rcases List.mem_cons.mp hx with r | r
        · omega
        · have := hs.1 x r; omega
      · intro x hx q
        rcases List.mem_cons.mp hx with r | r
        · omega
        · rw [tk_tail hna r, e, show z - z = 0 by grind]; exact tk_zero hvL
      · intro x hx
        rcases List.mem_cons.mp hx with r | r
        · subst r; rw [tk_head]; exact ⟨l3, l1⟩
        · rw [tk_tail hna r, e, show z - z = 0 by grind, tk_zero hvL]; exact ⟨Rat.le_refl, hvL x r⟩
theorem tk_mono : ∀ {L : List Int} {v : Int → Rat} {z z' : Rat} {x : Int}, z ≤ z' → tk L v z x ≤ tk L v z' x
  | [], v, z, z', x, _ => Rat.le_refl
  | a :: L, v, z, z', x, h => by
    show (if x = a then mn (v a) z else tk L v (z - mn (v a) z) x) ≤ (if x = a then mn (v a) z' else tk L v (z' - mn (v a) z') x)
    split
    · unfold mn; split <;> split <;> grind
    · exact tk_mono (by unfold mn; split <;> split <;> grind)
/-- what lies between two cuts is a window -/
theorem tk_win {L : List Int} {v : Int → Rat} {u w : Rat} (hs : L.Pairwise (· < ·)) (hv : ∀ x ∈ L, 0 ≤ v x) (hu : 0 ≤ u) (hw : 0 ≤ w) : ∃ a b, Win L v (fun x => tk L v (u + w) x - tk L v u x) a b := by
  obtain ⟨c1, p1, p2, p3⟩ := tk_upto (L := L) (v := v) (z := u) hs hv hu
  obtain ⟨c2, q1, q2, q3⟩ := tk_upto (L := L) (v := v) (z := u + w) hs hv (by grind)
  have mo : ∀ x, tk L v u x ≤ tk L v (u + w) x := fun x => tk_mono (by grind)
  refine ⟨c1, c2, ⟨fun x hx => ?_, fun x hx => ?_, fun x hx q => ?_, fun x hx q => ?_, fun x hx q r => ?_⟩⟩
  · have := mo x; grind
  · have h1 := p3 x hx; have h2 := q3 x hx; grind
  · have h1 := p1 x hx q; have h2 := q3 x hx; have := mo x; grind
  · have h1 := q2 x hx q; have h2 := p3 x hx; have := mo x; grind
  · have h1 := p2 x hx q; have h2 := q1 x hx r; grind
/-! ### between two values -/
theorem div_nn {a b : Rat} (ha : 0 ≤ a) (hb : 0 < b) : 0 ≤ a / b := by
  rcases Rat.le_total (a := 0) (b := a / b) with h | h
  · exact h
  · rcases Rat.le_iff_lt_or_eq.mp h with q | q
    · have := Rat.mul_pos (show 0 < -(a / b) by grind) hb
      have e : (a / b) * b = a := by grind
      grind
    · rw [q]; exact Rat.le_refl
def Aff (f : Rat → Rat) (p q : Rat) : Prop := ∀ z, p ≤ z → z ≤ q → (q - p) * f z = (q - z) * f p + (z - p) * f q
theorem ivt {f : Rat → Rat} {S : List Rat} {lo hi c : Rat} (aff : ∀ p q, lo ≤ p → p < q → q ≤ hi → (∀ s ∈ S, ¬ (p < s ∧ s < q)) → Aff f p q) :
    ∀ (n : Nat) (p q : Rat), (S.filter fun s => decide (p < s ∧ s < q)).length ≤ n → lo ≤ p → p ≤ q → q ≤ hi → f p ≤ c → c ≤ f q → ∃ z, p ≤ z ∧ z ≤ q ∧ f z = c := by
  intro n
  induction n with
  | zero =>
    intro p q hn h1 h2 h3 h4 h5
    rcases Rat.le_iff_lt_or_eq.mp h2 with h | h
    · have A := aff p q h1 h h3 fun s hs hq => by
        have : s ∈ S.filter fun s => decide (p < s ∧ s < q) := List.mem_filter.mpr ⟨hs, decide_eq_true hq⟩
        have e : S.filter (fun s => decide (p < s ∧ s < q)) = [] := List.length_eq_zero_iff.mp (by omega)
        rw [e] at this
        cases this
      by_cases e : f p = f q
      · exact ⟨p, Rat.le_refl, h2, by grind⟩
      · have hd : 0 < f q - f p := by grind
        refine ⟨p + (c - f p) * (q - p) / (f q - f p), ?_, ?_, ?_⟩
        · have := div_nn (Rat.mul_nonneg (show 0 ≤ c - f p by grind) (show 0 ≤ q - p by grind)) hd
          grind
        · have := div_nn (Rat.mul_nonneg (show 0 ≤ f q - c by grind) (show 0 ≤ q - p by grind)) hd
          have e2 : (c - f p) * (q - p) / (f q - f p) + (f q - c) * (q - p) / (f q - f p) = q - p := by grind
          grind
        · have r1 : p ≤ p + (c - f p) * (q - p) / (f q - f p) := by
            have := div_nn (Rat.mul_nonneg (show 0 ≤ c - f p by grind) (show 0 ≤ q - p by grind)) hd
            grind
          have r2 : p + (c - f p) * (q - p) / (f q - f p) ≤ q := by
            have := div_nn (Rat.mul_nonneg (show 0 ≤ f q - c by grind) (show 0 ≤ q - p by grind)) hd
            have e2 : (c - f p) * (q - p) / (f q - f p) + (f q - c) * (q - p) / (f q - f p) = q - p := by grind
            grind
          have a := A _ r1 r2
          have e3 : ((c - f p) * (q - p) / (f q - f p)) * (f q - f p) = (c - f p) * (q - p) := by grind
          generalize (c - f p) * (q - p) / (f q - f p) = d at *
          have e4 : (q - p) * f (p + d) = (q - p) * c := by grind
          have : q - p ≠ 0 := by grind
          grind
    · subst h
      exact ⟨p, Rat.le_refl, Rat.le_refl, by grind⟩
  | succ n ih =>
    intro p q hn h1 h2 h3 h4 h5
    by_cases ex : ∃ s, s ∈ S ∧ p < s ∧ s < q
    · obtain ⟨s, hs, ps, sq⟩ := ex
      have less : ∀ p' q', p ≤ p' → q' ≤ q → ¬ (p' < s ∧ s < q') → (S.filter fun t => decide (p' < t ∧ t < q')).length ≤ n := by
        intro p' q' hp hq hns
        have sub : (S.filter fun t => decide (p' < t ∧ t < q')) = ((S.filter fun t => decide (p < t ∧ t < q)).filter fun t => decide (p' < t ∧ t < q')) := by
          rw [List.filter_filter]
          refine List.filter_congr fun t _ => ?_
          rw [Bool.eq_iff_iff]
          simp only [decide_eq_true_eq, Bool.and_eq_true]
          constructor
          · rintro ⟨x, y⟩; exact ⟨⟨x, y⟩, by grind, by grind⟩
          · rintro ⟨x, _⟩; exact x
        rw [sub]
        have lt : ((S.filter fun t => decide (p < t ∧ t < q)).filter fun t => decide (p' < t ∧ t < q')).length < (S.filter fun t => decide (p < t ∧ t < q)).length := by
          rw [List.length_filter_lt_length_iff_exists]
          exact ⟨s, List.mem_filter.mpr ⟨hs, decide_eq_true ⟨ps, sq⟩⟩, by simpa using hns⟩
        omega
      rcases Rat.le_total (a := f s) (b := c) with r | r
      · obtain ⟨z, z1, z2, z3⟩ := ih s q (less s q (by grind) Rat.le_refl (by grind)) (by grind) (by grind) h3 r h5
        exact ⟨z, by grind, z2, z3⟩
      · obtain ⟨z, z1, z2, z3⟩ := ih p s (less p s Rat.le_refl (by grind) (by grind)) h1 (by grind) (by grind) h4 r
        exact ⟨z, z1, by grind, z3⟩
    · exact ih p q (by
        have : S.filter (fun s => decide (p < s ∧ s < q)) = [] := List.filter_eq_nil_iff.mpr fun s hs => by
          simp only [decide_eq_true_eq]
          exact fun h => ex ⟨s, hs, h⟩
        rw [this]; simp) h1 h2 h3 h4 h5
end Cu
set_option maxHeartbeats 1000000
set_option linter.unusedVariables false
namespace Cu
def pf : List Int → (Int → Rat) → List Rat
  | [], _ => []
  | a :: L, v => v a :: (pf L v).map (· + v a)
theorem gm_aff : ∀ {L : List Int} {v : Int → Rat} {p q : Rat}, (∀ x ∈ L, 0 ≤ v x) → 0 ≤ p → p < q → (∀ s ∈ pf L v, ¬ (p < s ∧ s < q)) → Aff (gm L v) p q
  | [], v, p, q, _, _, _, _ => fun z _ _ => by show (q - p) * 0 = (q - z) * 0 + (z - p) * 0; grind
  | a :: L, v, p, q, hv, h0, hpq, hS => by
    have hva := hv a List.mem_cons_self
    have h1 := hS (v a) List.mem_cons_self
    intro z z1 z2
    show (q - p) * ((a : Rat) * mn (v a) z + gm L v (z - mn (v a) z)) = (q - z) * ((a : Rat) * mn (v a) p + gm L v (p - mn (v a) p)) + (z - p) * ((a : Rat) * mn (v a) q + gm L v (q - mn (v a) q))
    by_cases h : v a ≤ p
    · have e : ∀ y, p ≤ y → mn (v a) y = v a := fun y hy => by unfold mn; rw [if_pos (by grind)]
      rw [e z z1, e p Rat.le_refl, e q (by grind)]
      have ih := gm_aff (L := L) (v := v) (p := p - v a) (q := q - v a) (fun x hx => hv x (List.mem_cons_of_mem _ hx)) (by grind) (by grind) (fun s hs hq => hS (s + v a) (List.mem_cons_of_mem _ (List.mem_map.mpr ⟨s, hs, rfl⟩)) (by grind)) (z - v a) (by grind) (by grind)
      grind
    · have e : ∀ y, y ≤ q → mn (v a) y = y := fun y hy => by
        unfold mn
        split
        · grind
        · rfl
      rw [e z z2, e p (by grind), e q Rat.le_refl]
      have k : ∀ y : Rat, y - y = 0 := fun y => by grind
      rw [k, k, k]
      grind
theorem sm_term {L : List Int} {f : Int → Rat} {y : Int} (h : ∀ x ∈ L, 0 ≤ f x) (hy : y ∈ L) : f y ≤ sm L f := by
  induction L with
  | nil => cases hy
  | cons a L ih =>
    rw [sm_cons]
    have h1 := h a List.mem_cons_self
    have h2 := sm_nonneg fun x hx => h x (List.mem_cons_of_mem a hx)
    rcases List.mem_cons.mp hy with q | q
    · subst q; grind
    · have := ih (fun x hx => h x (List.mem_cons_of_mem _ hx)) q
      grind
/-- rests to the other side -/
def ls (L : List Int) (m : Int → Rat) (t : Int) : Rat := sm L fun x => m x * pl t x
theorem ls_eq (L : List Int) (m : Int → Rat) (t : Int) : ls L m t = rs L m t - mom L m + (t : Rat) * tot L m := by
  unfold ls rs mom tot
  rw [← sm_mul, ← sm_sub, ← sm_add]
  refine sm_congr fun x _ => ?_
  rcases Int.lt_or_le x t with q | q
  · rw [pl_lt (by omega), pl_ge (by omega)]; grind
  · rw [pl_ge q, pl_lt q]; grind
theorem ls_term {L : List Int} {m : Int → Rat} {x0 t : Int} {w : Rat} (hm : ∀ x ∈ L, 0 ≤ m x) (hx : x0 ∈ L) (hw : w ≤ m x0) : w * ((t : Rat) - (x0 : Rat)) ≤ ls L m t ∨ t < x0 := by
  rcases Int.lt_or_le t x0 with q | q
  · exact .inr q
  · refine .inl ?_
    have h := sm_term (f := fun x => m x * pl t x) (fun x hx => Rat.mul_nonneg (hm x hx) (pl_nonneg t x)) hx
    skip
    rw [pl_lt q] at h
    have q2 : (x0 : Rat) ≤ (t : Rat) := Rat.intCast_le_intCast.mpr q
    have := Rat.mul_nonneg (show 0 ≤ m x0 - w by grind) (show (0 : Rat) ≤ (t : Rat) - (x0 : Rat) by grind)
    unfold ls
    grind
theorem ls_nonneg {L : List Int} {m : Int → Rat} {t : Int} (hm : ∀ x ∈ L, 0 ≤ m x) : 0 ≤ ls L m t := sm_nonneg fun x hx => Rat.mul_nonneg (hm x hx) (pl_nonneg t x)
theorem rs_nonneg {L : List Int} {m : Int → Rat} {t : Int} (hm : ∀ x ∈ L, 0 ≤ m x) : 0 ≤ rs L m t := sm_nonneg fun x hx => Rat.mul_nonneg (hm x hx) (pl_nonneg x t)
theorem low_mom {L : List Int} {mu nu W : Int → Rat} {c x0 : Int} {w : Rat} (h : Wid L mu nu) (hmu : ∀ x ∈ L, 0 ≤ mu x) (hx : x0 ∈ L) (h0 : 0 ≤ w) (hw : w ≤ mu x0) (hU : Upto L nu W c) (t : tot L W = w) : mom L W ≤ w * (x0 : Rat) := by
  have e : mom L W - (c : Rat) * tot L W = - ls L nu c := by
    have : - ls L nu c = (-1 : Rat) * ls L nu c := by grind
    rw [this]
    unfold mom tot ls
    rw [← sm_mul, ← sm_sub, ← sm_mul]
    refine sm_congr fun x hx => ?_
    rcases Int.lt_trichotomy x c with q | q | q
    · rw [hU.1 x hx q, pl_lt (by omega)]; grind
    · subst q; rw [pl_ge (by omega)]; grind
    · rw [hU.2.1 x hx q, pl_ge (by omega)]; grind
  have l1 := ls_eq L nu c
  have l2 := ls_eq L mu c
  have r := h.r c
  have ht := h.t
  have hm := h.m
  have l3 : ls L mu c ≤ ls L nu c := by rw [l1, l2, ht, hm]; grind
  rw [t] at e
  clear l1 l2 r ht hm hU
  rcases ls_term (t := c) hmu hx hw with q | q
  · grind
  · have q2 : (c : Rat) < (x0 : Rat) := Rat.intCast_lt_intCast.mpr q
    have := Rat.mul_nonneg h0 (show (0 : Rat) ≤ (x0 : Rat) - (c : Rat) by grind)
    have := ls_nonneg (t := c) hmu
    grind
theorem high_mom {L : List Int} {mu nu W : Int → Rat} {c x0 : Int} {w : Rat} (h : Wid L mu nu) (hmu : ∀ x ∈ L, 0 ≤ mu x) (hx : x0 ∈ L) (h0 : 0 ≤ w) (hw : w ≤ mu x0) (h1 : ∀ x ∈ L, x < c → W x = 0) (h2 : ∀ x ∈ L, c < x → W x = nu x) (t : tot L W = w) : w * (x0 : Rat) ≤ mom L W := by
  have e : mom L W - (c : Rat) * tot L W = rs L nu c := by
    unfold mom tot rs
    rw [← sm_mul, ← sm_sub]
    refine sm_congr fun x hx => ?_
    rcases Int.lt_trichotomy x c with q | q | q
    · rw [h1 x hx q, pl_ge (by omega)]; grind
    · subst q; rw [pl_ge (by omega)]; grind
    · rw [h2 x hx q, pl_lt (by omega)]; grind
  have r := h.r c
  rw [t] at e
  clear h1 h2
  rcases Int.lt_or_le x0 c with q | q
  · have q2 : (x0 : Rat) < (c : Rat) := Rat.intCast_lt_intCast.mpr q
    have := Rat.mul_nonneg h0 (show (0 : Rat) ≤ (c : Rat) - (x0 : Rat) by grind)
    have := rs_nonneg (t := c) hmu
    grind
  · have s := sm_term (f := fun x => mu x * pl x c) (fun x hx => Rat.mul_nonneg (hmu x hx) (pl_nonneg x c)) hx
    skip
    rw [pl_lt q] at s
    have q2 : (c : Rat) ≤ (x0 : Rat) := Rat.intCast_le_intCast.mpr q
    have := Rat.mul_nonneg (show 0 ≤ mu x0 - w by grind) (show (0 : Rat) ≤ (x0 : Rat) - (c : Rat) by grind)
    unfold rs at r e
    grind
theorem tk_full {L : List Int} {v : Int → Rat} (hs : L.Pairwise (· < ·)) (hv : ∀ x ∈ L, 0 ≤ v x) : ∀ x ∈ L, tk L v (tot L v) x = v x := by
  have hn : L.Nodup := hs.imp fun h => by omega
  have ht := tk_tot (v := v) (z := tot L v) hn hv (sm_nonneg hv) Rat.le_refl
  obtain ⟨c, h1, h2, h3⟩ := tk_upto (z := tot L v) hs hv (sm_nonneg hv)
  have z := sm_zero (L := L) (f := fun x => v x - tk L v (tot L v) x) (fun x hx => by have := h3 x hx; grind) (by
    rw [sm_sub]
    unfold tot at *
    rw [ht]
    grind)
  intro x hx
  have := z x hx
  grind
/-- there is always a window to which a place's part may go -/
theorem win_ex {L : List Int} {mu nu : Int → Rat} {x0 : Int} {w : Rat} (hs : L.Pairwise (· < ·)) (hmu : ∀ x ∈ L, 0 ≤ mu x) (hnu : ∀ x ∈ L, 0 ≤ nu x) (h : Wid L mu nu) (hx : x0 ∈ L) (h0 : 0 ≤ w) (hw : w ≤ mu x0) :
    ∃ W a b, Win L nu W a b ∧ tot L W = w ∧ mom L W = w * (x0 : Rat) := by
  have hn : L.Nodup := hs.imp fun h => by omega
  have hT : w ≤ tot L nu := by
    have := sm_term hmu hx
    have := h.t
    unfold tot at *
    grind
  have g : ∀ u, mom L (fun x => tk L nu (u + w) x - tk L nu u x) = gm L nu (u + w) - gm L nu u := by
    intro u
    rw [← tk_mom hn, ← tk_mom hn]
    unfold mom
    rw [← sm_sub]
    exact sm_congr fun x _ => by grind
  have tt : ∀ u, 0 ≤ u → u + w ≤ tot L nu → tot L (fun x => tk L nu (u + w) x - tk L nu u x) = w := by
    intro u h1 h2
    have e1 := tk_tot (v := nu) (z := u + w) hn hnu (by grind) h2
    have e2 := tk_tot (v := nu) (z := u) hn hnu h1 (by grind)
    unfold tot at *
    rw [sm_sub, e1, e2]
    grind
  have lo : gm L nu (0 + w) - gm L nu 0 ≤ w * (x0 : Rat) := by
    rw [← g 0]
    obtain ⟨c, hU⟩ := tk_upto (v := nu) (z := 0 + w) hs hnu (by grind)
    refine low_mom (c := c) h hmu hx h0 hw ?_ (tt 0 Rat.le_refl (by grind))
    have e : ∀ x, tk L nu (0 + w) x - tk L nu 0 x = tk L nu (0 + w) x := fun x => by rw [tk_zero hnu]; grind
    exact ⟨fun x hx q => (e x).trans (hU.1 x hx q), fun x hx q => (e x).trans (hU.2.1 x hx q), fun x hx => by
      show 0 ≤ tk L nu (0 + w) x - tk L nu 0 x ∧ tk L nu (0 + w) x - tk L nu 0 x ≤ nu x
      rw [e]
      exact hU.2.2 x hx⟩
  have hi : w * (x0 : Rat) ≤ gm L nu (tot L nu - w + w) - gm L nu (tot L nu - w) := by
    rw [← g (tot L nu - w)]
    obtain ⟨c, hU⟩ := tk_upto (v := nu) (z := tot L nu - w) hs hnu (by grind)
    have e : tot L nu - w + w = tot L nu := by grind
    refine high_mom (c := c) h hmu hx h0 hw ?_ ?_ (tt _ (by grind) (by grind))
    · intro x hx q
      show tk L nu (tot L nu - w + w) x - tk L nu (tot L nu - w) x = 0
      rw [e, tk_full hs hnu x hx, hU.1 x hx q]
      grind
    · intro x hx q
      show tk L nu (tot L nu - w + w) x - tk L nu (tot L nu - w) x = nu x
      rw [e, tk_full hs hnu x hx, hU.2.1 x hx q]
      grind
  have aff : ∀ p q, (0 : Rat) ≤ p → p < q → q ≤ tot L nu - w → (∀ s ∈ pf L nu ++ (pf L nu).map (· - w), ¬ (p < s ∧ s < q)) → Aff (fun u => gm L nu (u + w) - gm L nu u) p q := by
    intro p q hp hpq hq hS z z1 z2
    have a1 := gm_aff (L := L) (v := nu) (p := p) (q := q) hnu hp hpq (fun s hs => hS s (List.mem_append_left _ hs)) z z1 z2
    have a2 := gm_aff (L := L) (v := nu) (p := p + w) (q := q + w) hnu (by grind) (by grind) (fun s hs hq => hS (s - w) (List.mem_append_right _ (List.mem_map.mpr ⟨s, hs, rfl⟩)) (by grind)) (z + w) (by grind) (by grind)
    dsimp only
    grind
  obtain ⟨z, z1, z2, z3⟩ := ivt (c := w * (x0 : Rat)) aff _ 0 (tot L nu - w) (Nat.le_refl _) Rat.le_refl (by grind) Rat.le_refl lo hi
  obtain ⟨a, b, hW⟩ := tk_win (v := nu) (u := z) (w := w) hs hnu z1 h0
  refine ⟨_, a, b, hW, tt z z1 (by grind), ?_⟩
  rw [g]
  exact z3
end Cu
set_option maxHeartbeats 1000000
set_option linter.unusedVariables false
namespace Cu
/-! ### tables by windows, the hull below -/
def Cvx (c : Int → Rat) : Prop := ∀ t, 0 ≤ c (t + 1) - 2 * c t + c (t - 1)
theorem cvx_pl {w : Rat} (hw : 0 ≤ w) (x : Int) : Cvx fun t => w * pl x t := fun t => by
  have := pl_diff x t
  dsimp only
  have e : w * pl x (t + 1) - 2 * (w * pl x t) + w * pl x (t - 1) = w * (if x = t then 1 else 0) := by rw [← this]; grind
  rw [e]
  split <;> grind
theorem Cvx.add {c d : Int → Rat} (hc : Cvx c) (hd : Cvx d) : Cvx fun t => c t + d t := fun t => by
  have := hc t
  have := hd t
  dsimp only
  grind
theorem win_zero {L : List Int} {v W : Int → Rat} {a b : Int} (hW : Win L v W a b) (t : tot L W = 0) : ∀ x ∈ L, W x = 0 := sm_zero hW.nn t
theorem rs_zero {L : List Int} {W : Int → Rat} (h : ∀ x ∈ L, W x = 0) (t : Int) : rs L W t = 0 := rs_high fun x hx _ => h x hx
/-- one part goes to its window: the greatest of what bends up and lies below -/
theorem hull1 {L : List Int} {nu W c : Int → Rat} {a b x0 : Int} {w : Rat} (hW : Win L nu W a b) (h0 : 0 ≤ w) (t : tot L W = w) (m : mom L W = w * (x0 : Rat)) (hc : Cvx c) (h : ∀ s, c s + w * pl x0 s ≤ rs L nu s) : ∀ s, c s ≤ rs L (fun x => nu x - W x) s := by
  rcases Rat.le_iff_lt_or_eq.mp h0 with hw | hw
  · have out : ∀ s, s ≤ a ∨ b ≤ s → c s ≤ rs L (fun x => nu x - W x) s := by
      intro s hs
      have e := rs_eq_out (p := atom x0 w) hW hw t m
      rw [rs_sub]
      obtain ⟨h1, h2⟩ := win_mean hW hw t m
      have := h s
      rcases hs with q | q
      · rw [rs_low (m := W) (fun x hx z => hW.lo x hx (by omega)), m, t]
        rw [pl_lt (by omega)] at this
        grind
      · rw [rs_high (m := W) (fun x hx z => hW.hi x hx (by omega))]
        rw [pl_ge (by omega)] at this
        grind
    intro s
    rcases Int.lt_or_le s a with q | q
    · exact out s (.inl (by omega))
    rcases Int.lt_or_le b s with q2 | q2
    · exact out s (.inr (by omega))
    have oa := out a (.inl (Int.le_refl a))
    have ob := out b (.inr (Int.le_refl b))
    have key := maxp (h := fun s => c s - rs L (fun x => nu x - W x) s) (a := a) (b := b) (by grind) (by grind) (fun s h1 h2 => by
      have d1 := hc s
      have d2 := rs_diff L (fun x => nu x - W x) s
      have n2 : sm L (fun x => (nu x - W x) * (if x = s then 1 else 0)) = 0 := by
        have : sm L (fun x => (nu x - W x) * (if x = s then 1 else 0)) = sm L (fun x => (0 : Rat) * nu x) := sm_congr fun x hx => by
          split
          · next e =>
            rw [hW.mid x hx (by omega) (by omega)]
            grind
          · grind
        rw [this, sm_mul]
        grind
      grind) s q q2
    grind
  · subst hw
    intro s
    have := h s
    rw [rs_sub, rs_zero (win_zero hW t)]
    grind
/-- the starts xs go, one after another, to windows of what is left -/
inductive Built (L : List Int) (mu : Int → Rat) (p : Int → Int → Rat) : List Int → (Int → Rat) → (Int → Rat) → Prop where
  | nil {nu : Int → Rat} : Built L mu p [] nu nu
  | cons {x : Int} {xs : List Int} {nu r : Int → Rat} {a b : Int} (w : Win L nu (p x) a b) (t : tot L (p x) = mu x) (m : mom L (p x) = mu x * (x : Rat)) (h : Built L mu p xs (fun y => nu y - p x y) r) : Built L mu p (x :: xs) nu r
theorem hull {L : List Int} {mu : Int → Rat} {p : Int → Int → Rat} {xs : List Int} {nu r : Int → Rat} (B : Built L mu p xs nu r) (hmu : ∀ x ∈ xs, 0 ≤ mu x) : ∀ c : Int → Rat, Cvx c → (∀ s, c s + sm xs (fun x => mu x * pl x s) ≤ rs L nu s) → ∀ s, c s ≤ rs L r s := by
  induction B with
  | nil =>
    intro c hc h s
    have := h s
    rw [sm_nil] at this
    grind
  | @cons x xs nu r a b w t m B ih =>
    intro c hc h s
    refine ih (fun y hy => hmu y (List.mem_cons_of_mem _ hy)) c hc ?_ s
    have cv : Cvx fun s => c s + sm xs (fun x => mu x * pl x s) := by
      refine hc.add ?_
      have : ∀ ys : List Int, (∀ y ∈ ys, 0 ≤ mu y) → Cvx fun s => sm ys (fun x => mu x * pl x s) := by
        intro ys
        induction ys with
        | nil =>
          intro _ t
          simp only [sm_nil]
          grind
        | cons y ys ihy =>
          intro hy
          have h1 := cvx_pl (hy y List.mem_cons_self) y
          have h2 := ihy fun z hz => hy z (List.mem_cons_of_mem _ hz)
          have := h1.add h2
          intro t
          have := this t
          simp only [sm_cons]
          exact this
      exact this xs fun y hy => hmu y (List.mem_cons_of_mem _ hy)
    refine hull1 w (hmu x List.mem_cons_self) t m cv fun s => ?_
    have := h s
    rw [sm_cons] at this
    grind
/-! ### tables without crossings -/
/-- steps from places of xs: nought or more, with these starts and these ends, each fair -/
structure Tab (L : List Int) (mu : Int → Rat) (p : Int → Int → Rat) (xs : List Int) (nu : Int → Rat) : Prop where
  nn : ∀ x ∈ xs, ∀ y ∈ L, 0 ≤ p x y
  t : ∀ x ∈ xs, tot L (p x) = mu x
  m : ∀ x ∈ xs, mom L (p x) = mu x * (x : Rat)
  e : ∀ y ∈ L, sm xs (fun x => p x y) = nu y
def NoX (L : List Int) (p : Int → Int → Rat) (xs : List Int) : Prop :=
  ∀ x ∈ xs, ∀ x2 ∈ xs, ∀ y ∈ L, ∀ y2 ∈ L, ∀ y3 ∈ L, x < x2 → y < y2 → y2 < y3 → 0 < p x y → 0 < p x y3 → p x2 y2 ≤ 0
theorem least {L : List Int} {f : Int → Rat} : (∀ y ∈ L, f y = 0) ∨ ∃ a ∈ L, f a ≠ 0 ∧ ∀ y ∈ L, y < a → f y = 0 := by
  induction L with
  | nil => exact .inl fun y h => by cases h
  | cons b L ih =>
    by_cases hb : f b = 0
    · rcases ih with h | ⟨a, h1, h2, h3⟩
      · refine .inl fun y hy => ?_
        rcases List.mem_cons.mp hy with q | q
        · rw [q]; exact hb
        · exact h y q
      · refine .inr ⟨a, List.mem_cons_of_mem _ h1, h2, fun y hy q => ?_⟩
        rcases List.mem_cons.mp hy with z | z
        · rw [z]; exact hb
        · exact h3 y z q
    · rcases ih with h | ⟨a, h1, h2, h3⟩
      · refine .inr ⟨b, List.mem_cons_self, hb, fun y hy q => ?_⟩
        rcases List.mem_cons.mp hy with z | z
        · omega
        · exact h y z
      · rcases Int.lt_or_le a b with q | q
        · refine .inr ⟨a, List.mem_cons_of_mem _ h1, h2, fun y hy q2 => ?_⟩
          rcases List.mem_cons.mp hy with z | z
          · omega
          · exact h3 y z q2
        · refine .inr ⟨b, List.mem_cons_self, hb, fun y hy q2 => ?_⟩
          rcases List.mem_cons.mp hy with z | z
          · omega
          · exact h3 y z (by omega)
theorem greatest {L : List Int} {f : Int → Rat} : (∀ y ∈ L, f y = 0) ∨ ∃ a ∈ L, f a ≠ 0 ∧ ∀ y ∈ L, a < y → f y = 0 := by
  rcases least (L := L.map (fun y => -y)) (f := fun y => f (-y)) with h | ⟨a, h1, h2, h3⟩
  · refine .inl fun y hy => ?_
    have := h (-y) (List.mem_map.mpr ⟨y, hy, rfl⟩)
    simpa using this
  · obtain ⟨b, hb, rfl⟩ := List.mem_map.mp h1
    refine .inr ⟨b, hb, by simpa using h2, fun y hy q => ?_⟩
    have := h3 (-y) (List.mem_map.mpr ⟨y, hy, rfl⟩) (by omega)
    simpa using this
/-- where nothing crosses, the first start's steps make a window -/
theorem first_win {L : List Int} {mu : Int → Rat} {p : Int → Int → Rat} {x : Int} {xs : List Int} {nu : Int → Rat} (T : Tab L mu p (x :: xs) nu) (hs : ∀ z ∈ xs, x < z) (N : NoX L p (x :: xs)) : ∃ a b, Win L nu (p x) a b := by
  have hx := List.mem_cons_self (a := x) (l := xs)
  have le : ∀ y ∈ L, p x y ≤ nu y := fun y hy => by
    have e := T.e y hy
    rw [sm_cons] at e
    have := sm_nonneg fun z hz => T.nn z (List.mem_cons_of_mem x hz) y hy
    grind
  rcases least (L := L) (f := p x) with h | ⟨a, a1, a2, a3⟩
  · exact ⟨0, 0, fun y hy => by rw [h y hy]; exact Rat.le_refl, le, fun y hy _ => h y hy, fun y hy _ => h y hy, fun y hy q r => by omega⟩
  rcases greatest (L := L) (f := p x) with h | ⟨b, b1, b2, b3⟩
  · exact absurd (h a a1) a2
  refine ⟨a, b, fun y hy => T.nn x hx y hy, le, a3, b3, fun y hy q r => ?_⟩
  have pa : 0 < p x a := by have := T.nn x hx a a1; grind
  have pb : 0 < p x b := by have := T.nn x hx b b1; grind
  have z : sm xs (fun z => p z y) = 0 := by
    have : sm xs (fun z => p z y) = sm xs (fun z => (0 : Rat) * p z y) := sm_congr fun z hz => by
      have h1 := N x hx z (List.mem_cons_of_mem _ hz) a a1 y hy b b1 (hs z hz) q r pa pb
      have h2 := T.nn z (List.mem_cons_of_mem _ hz) y hy
      grind
    rw [this, sm_mul]
    grind
  have e := T.e y hy
  rw [sm_cons, z] at e
  grind
theorem Tab.tail {L : List Int} {mu : Int → Rat} {p : Int → Int → Rat} {x : Int} {xs : List Int} {nu : Int → Rat} (T : Tab L mu p (x :: xs) nu) : Tab L mu p xs (fun y => nu y - p x y) :=
  ⟨fun z hz => T.nn z (List.mem_cons_of_mem _ hz), fun z hz => T.t z (List.mem_cons_of_mem _ hz), fun z hz => T.m z (List.mem_cons_of_mem _ hz), fun y hy => by
    have e := T.e y hy
    rw [sm_cons] at e
    grind⟩
theorem NoX.tail {L : List Int} {p : Int → Int → Rat} {x : Int} {xs : List Int} (N : NoX L p (x :: xs)) : NoX L p xs :=
  fun z hz z2 hz2 => N z (List.mem_cons_of_mem _ hz) z2 (List.mem_cons_of_mem _ hz2)
/-- a table without a crossing is built by windows from left to right -/
theorem built_of_nox {L : List Int} {mu : Int → Rat} {p : Int → Int → Rat} : ∀ {xs : List Int} {nu : Int → Rat}, xs.Pairwise (· < ·) → Tab L mu p xs nu → NoX L p xs → ∃ r, Built L mu p xs nu r
  | [], nu, _, _, _ => ⟨nu, .nil⟩
  | x :: xs, nu, hs, T, N => by
    rw [List.pairwise_cons] at hs
    obtain ⟨a, b, w⟩ := first_win T hs.1 N
    obtain ⟨r, B⟩ := built_of_nox hs.2 T.tail N.tail
    exact ⟨r, .cons w (T.t x List.mem_cons_self) (T.m x List.mem_cons_self) B⟩
/-- two tables that are built so of the same are one -/
theorem built_uniq {L : List Int} {mu : Int → Rat} {p q : Int → Int → Rat} {xs : List Int} : ∀ {nu nu' r r' : Int → Rat}, (∀ y ∈ L, nu y = nu' y) → Built L mu p xs nu r → Built L mu q xs nu' r' → ∀ x ∈ xs, ∀ y ∈ L, p x y = q x y := by
  induction xs with
  | nil => intro nu nu' r r' _ _ _ x hx; cases hx
  | cons z xs ih =>
    intro nu nu' r r' he B C
    cases B with
    | cons w t m B =>
      cases C with
      | cons w' t' m' C =>
        have w2 : Win L nu (q z) _ _ := ⟨w'.nn, fun y hy => by rw [he y hy]; exact w'.le y hy, w'.lo, w'.hi, fun y hy h1 h2 => by rw [he y hy]; exact w'.mid y hy h1 h2⟩
        have e := win_uniq w w2 (t.trans t'.symm) (m.trans m'.symm)
        intro x hx y hy
        rcases List.mem_cons.mp hx with h | h
        · rw [h]; exact e y hy
        · exact ih (fun y hy => by rw [he y hy, e y hy]) B C x h y hy
/-- what is built by windows has no crossing -/
theorem built_le {L : List Int} {mu : Int → Rat} {p : Int → Int → Rat} {xs : List Int} {nu r : Int → Rat} (B : Built L mu p xs nu r) : (∀ y ∈ L, r y ≤ nu y) ∧ ∀ x ∈ xs, ∀ y ∈ L, 0 ≤ p x y ∧ p x y ≤ nu y := by
  induction B with
  | nil => exact ⟨fun y _ => Rat.le_refl, fun x hx => by cases hx⟩
  | @cons x xs nu r a b w t m B ih =>
    refine ⟨fun y hy => ?_, fun z hz y hy => ?_⟩
    · have h1 := ih.1 y hy
      have h2 := w.nn y hy
      grind
    · rcases List.mem_cons.mp hz with q | q
      · rw [q]; exact ⟨w.nn y hy, w.le y hy⟩
      · have h1 := ih.2 z q y hy
        have h2 := w.nn y hy
        grind
theorem nox_of_built {L : List Int} {mu : Int → Rat} {p : Int → Int → Rat} {xs : List Int} {nu r : Int → Rat} (B : Built L mu p xs nu r) (hs : xs.Pairwise (· < ·)) : NoX L p xs := by
  induction B with
  | nil => intro x hx; cases hx
  | @cons x xs nu r a b w t m B ih =>
    rw [List.pairwise_cons] at hs
    intro z hz z2 hz2 y hy y2 hy2 y3 hy3 h1 h2 h3 h4 h5
    rcases List.mem_cons.mp hz2 with q | q
    · rcases List.mem_cons.mp hz with s | s
      · omega
      · have := hs.1 z s; omega
    · rcases List.mem_cons.mp hz with s | s
      · subst s
        have ya : a ≤ y := by
          rcases Int.lt_or_le y a with k | k
          · have := w.lo y hy k; grind
          · exact k
        have yb : y3 ≤ b := by
          rcases Int.lt_or_le b y3 with k | k
          · have := w.hi y3 hy3 k; grind
          · exact k
        have e := w.mid y2 hy2 (by omega) (by omega)
        have := ((built_le B).2 z2 q y2 hy2).2
        grind
      · exact ih hs.2 z s z2 q y hy y2 hy2 y3 hy3 h1 h2 h3 h4 h5
end Cu
set_option maxHeartbeats 1000000
set_option linter.unusedVariables false
namespace Cu
/-! ### second moments, the bend -/
def qm (L : List Int) (m : Int → Rat) : Rat := sm L fun y => m y * ((y : Rat) * (y : Rat))
theorem sm_swap (L : List Int) (S : List Nat) (f : Int → Nat → Rat) : sm L (fun y => (S.map (f y)).sum) = (S.map fun k => sm L fun y => f y k).sum := by
  induction S with
  | nil =>
    simp only [List.map_nil, List.sum_nil]
    have : sm L (fun _ => (0 : Rat)) = sm L (fun y => (0 : Rat) * (fun _ => (0 : Rat)) y) := sm_congr fun y _ => by grind
    rw [this, sm_mul]
    grind
  | cons k S ih =>
    simp only [List.map_cons, List.sum_cons]
    rw [sm_add, ih]
theorem sq_sum (lo : Int) (n : Nat) : ∀ N : Nat, ((List.range N).map fun k : Nat => 2 * pl (lo + n) (lo + 1 + k)).sum = if N ≤ n then 2 * (N : Rat) * ((n : Rat) - 1) - (N : Rat) * ((N : Rat) - 1) else (n : Rat) * ((n : Rat) - 1) := by
  intro N
  induction N with
  | zero =>
    rw [if_pos (Nat.zero_le _)]
    simp only [List.range_zero, List.map_nil, List.sum_nil]
    have : ((0 : Nat) : Rat) = 0 := rfl
    rw [this]
    grind
  | succ N ih =>
    rw [List.range_succ, List.map_append, List.sum_append, ih]
    simp only [List.map_cons, List.map_nil, List.sum_cons, List.sum_nil]
    have eN : ((N + 1 : Nat) : Rat) = (N : Rat) + 1 := by rw [Rat.natCast_add]; rfl
    have c1 : ((lo + (n : Int) : Int) : Rat) = (lo : Rat) + (n : Rat) := by rw [Rat.intCast_add]; rfl
    have c2 : ((lo + 1 + (N : Int) : Int) : Rat) = (lo : Rat) + 1 + (N : Rat) := by rw [Rat.intCast_add, Rat.intCast_add]; rfl
    by_cases h : N + 1 ≤ n
    · rw [if_pos (by omega), if_pos h, pl_lt (by omega), c1, c2, eN]
      grind
    · rw [if_neg h]
      by_cases h2 : N ≤ n
      · have : N = n := by omega
        subst this
        rw [if_pos (Nat.le_refl _), pl_ge (by omega)]
        grind
      · rw [if_neg h2, pl_ge (by omega)]
        grind
theorem sq_pl {lo y : Int} {N : Nat} (h1 : lo ≤ y) (h2 : y ≤ lo + N) : (y : Rat) * (y : Rat) = (lo : Rat) * (lo : Rat) + (2 * (lo : Rat) + 1) * ((y : Rat) - (lo : Rat)) + ((List.range N).map fun k : Nat => 2 * pl y (lo + 1 + k)).sum := by
  obtain ⟨n, rfl⟩ : ∃ n : Nat, y = lo + n := ⟨(y - lo).toNat, by omega⟩
  have hn : n ≤ N := by omega
  rw [sq_sum]
  have c1 : ((lo + (n : Int) : Int) : Rat) = (lo : Rat) + (n : Rat) := by rw [Rat.intCast_add]; rfl
  rw [c1]
  by_cases h : N ≤ n
  · have : N = n := by omega
    subst this
    rw [if_pos (Nat.le_refl _)]
    grind
  · rw [if_neg h]
    grind
def In (L : List Int) (lo : Int) (N : Nat) : Prop := ∀ y ∈ L, lo ≤ y ∧ y ≤ lo + N
theorem qm_rs {L : List Int} {lo : Int} {N : Nat} (hL : In L lo N) (m : Int → Rat) : qm L m = ((lo : Rat) * (lo : Rat) - (2 * (lo : Rat) + 1) * (lo : Rat)) * tot L m + (2 * (lo : Rat) + 1) * mom L m + ((List.range N).map fun k : Nat => 2 * rs L m (lo + 1 + k)).sum := by
  have e : ((List.range N).map fun k : Nat => 2 * rs L m (lo + 1 + k)).sum = sm L fun y => ((List.range N).map fun k : Nat => m y * (2 * pl y (lo + 1 + k))).sum := by
    rw [sm_swap]
    congr 1
    refine List.map_congr_left fun k _ => ?_
    unfold rs
    rw [← sm_mul]
    exact sm_congr fun y _ => by grind
  rw [e]
  unfold qm tot mom
  rw [← sm_mul, ← sm_mul, ← sm_add, ← sm_add]
  refine sm_congr fun y hy => ?_
  rw [sq_pl (hL y hy).1 (hL y hy).2]
  have d : ((List.range N).map fun k : Nat => m y * (2 * pl y (lo + 1 + k))).sum = m y * ((List.range N).map fun k : Nat => 2 * pl y (lo + 1 + k)).sum := by
    generalize List.range N = S
    induction S with
    | nil => simp
    | cons k S ih => simp only [List.map_cons, List.sum_cons, ih]; grind
  rw [d]
  grind
theorem sumle : ∀ (S : List Nat) (f g : Nat → Rat), (∀ k ∈ S, f k ≤ g k) → (S.map f).sum ≤ (S.map g).sum
  | [], _, _, _ => Rat.le_refl
  | a :: S, f, g, h => by
    simp only [List.map_cons, List.sum_cons]
    have := h a List.mem_cons_self
    have := sumle S f g fun k hk => h k (List.mem_cons_of_mem _ hk)
    grind
theorem sumeq : ∀ (S : List Nat) (f g : Nat → Rat), (∀ k ∈ S, f k ≤ g k) → (S.map f).sum = (S.map g).sum → ∀ k ∈ S, f k = g k
  | [], _, _, _, _ => fun k hk => by cases hk
  | a :: S, f, g, h, e => by
    simp only [List.map_cons, List.sum_cons] at e
    have h1 := h a List.mem_cons_self
    have h2 := sumle S f g fun k hk => h k (List.mem_cons_of_mem _ hk)
    intro k hk
    rcases List.mem_cons.mp hk with q | q
    · rw [q]; grind
    · exact sumeq S f g (fun k hk => h k (List.mem_cons_of_mem _ hk)) (by grind) k q
theorem wid_qm {L : List Int} {lo : Int} {N : Nat} (hL : In L lo N) {B A : Int → Rat} (h : Wid L B A) : qm L B ≤ qm L A := by
  rw [qm_rs hL, qm_rs hL, h.t, h.m]
  have := sumle (List.range N) (fun k : Nat => 2 * rs L B (lo + 1 + k)) (fun k : Nat => 2 * rs L A (lo + 1 + k)) fun k _ => by
    have := h.r (lo + 1 + k)
    grind
  grind
theorem sm_one {L : List Int} {m : Int → Rat} {y : Int} (hn : L.Nodup) (hy : y ∈ L) : sm L (fun x => m x * (if x = y then 1 else 0)) = m y := by
  induction L with
  | nil => cases hy
  | cons a L ih =>
    rw [List.nodup_cons] at hn
    rw [sm_cons]
    rcases List.mem_cons.mp hy with q | q
    · subst q
      rw [if_pos rfl]
      have : sm L (fun x => m x * (if x = y then 1 else 0)) = sm L (fun x => (0 : Rat) * m x) := sm_congr fun x hx => by
        rw [if_neg (fun e : x = y => hn.1 (e ▸ hx))]
        grind
      rw [this, sm_mul]
      grind
    · rw [if_neg (fun e : a = y => hn.1 (e ▸ q)), ih hn.2 q]
      grind
theorem wid_qm_eq {L : List Int} {lo : Int} {N : Nat} (hn : L.Nodup) (hL : In L lo N) {B A : Int → Rat} (h : Wid L B A) (e : qm L B = qm L A) : ∀ y ∈ L, B y = A y := by
  rw [qm_rs hL, qm_rs hL, h.t, h.m] at e
  have z := sumeq (List.range N) (fun k : Nat => 2 * rs L B (lo + 1 + k)) (fun k : Nat => 2 * rs L A (lo + 1 + k)) (fun k _ => by
    have := h.r (lo + 1 + k)
    grind) (by grind)
  have all : ∀ t : Int, rs L B t = rs L A t := by
    intro t
    rcases Int.lt_or_le lo t with q | q
    · rcases Int.lt_or_le t (lo + 1 + N) with r | r
      · have := z (t - (lo + 1)).toNat (List.mem_range.mpr (by omega))
        rw [show lo + 1 + ((t - (lo + 1)).toNat : Int) = t by omega] at this
        grind
      · rw [rs_high fun x hx s => by have := hL x hx; omega, rs_high fun x hx s => by have := hL x hx; omega]
    · rw [rs_low fun x hx s => by have := hL x hx; omega, rs_low fun x hx s => by have := hL x hx; omega, h.t, h.m]
  intro y hy
  have d1 := rs_diff L B y
  have d2 := rs_diff L A y
  rw [sm_one hn hy] at d1 d2
  rw [all, all, all] at d1
  grind
def bend (L : List Int) (p : Int → Int → Rat) (xs : List Int) : Rat := sm xs fun x => (x : Rat) * qm L (p x)
/-- a fair step is wider than to stay -/
theorem fair_rs {L : List Int} {f : Int → Rat} {x : Int} {w : Rat} (nn : ∀ y ∈ L, 0 ≤ f y) (t : tot L f = w) (m : mom L f = w * (x : Rat)) (s : Int) : w * pl x s ≤ rs L f s := by
  rcases Int.lt_or_le s x with q | q
  · rw [pl_lt (by omega)]
    have : mom L f - (s : Rat) * tot L f ≤ rs L f s := by
      unfold mom tot rs
      rw [← sm_mul, ← sm_sub]
      refine sm_le fun y hy => ?_
      rcases Int.lt_or_le y s with z | z
      · rw [pl_ge (by omega)]
        have z2 : (y : Rat) < (s : Rat) := Rat.intCast_lt_intCast.mpr z
        have := Rat.mul_nonneg (nn y hy) (show (0 : Rat) ≤ (s : Rat) - (y : Rat) by grind)
        grind
      · rw [pl_lt z]; grind
    rw [t, m] at this
    grind
  · rw [pl_ge q]
    have := rs_nonneg (t := s) nn
    grind
theorem rs_cvx {L : List Int} {m : Int → Rat} (h : ∀ y ∈ L, 0 ≤ m y) : Cvx (rs L m) := fun t => by
  rw [rs_diff]
  exact sm_nonneg fun x hx => by
    have := h x hx
    split <;> grind
theorem qm_sub (L : List Int) (f g : Int → Rat) : qm L (fun y => f y - g y) = qm L f - qm L g := by
  unfold qm
  rw [← sm_sub]
  exact sm_congr fun y _ => by grind
theorem Tab.rest_nn {L : List Int} {mu : Int → Rat} {p : Int → Int → Rat} {xs : List Int} {nu : Int → Rat} (T : Tab L mu p xs nu) : ∀ y ∈ L, 0 ≤ nu y := fun y hy => by
  rw [← T.e y hy]
  exact sm_nonneg fun x hx => T.nn x hx y hy
theorem bend_main {L : List Int} {lo : Int} {N : Nat} (hn : L.Nodup) (hL : In L lo N) {mu : Int → Rat} {p q : Int → Int → Rat} : ∀ {xs : List Int} {np nq r : Int → Rat}, xs.Pairwise (· < ·) → Tab L mu p xs np → Tab L mu q xs nq → Built L mu q xs nq r → (∀ x ∈ xs, 0 ≤ mu x) → Wid L np nq →
    ∀ z : Int, (∀ x ∈ xs, z ≤ x) → (z : Rat) * (qm L nq - qm L np) ≤ bend L q xs - bend L p xs ∧ ((z : Rat) * (qm L nq - qm L np) = bend L q xs - bend L p xs → (∀ x ∈ xs, z < x) → xs ≠ [] → qm L nq = qm L np)
  | [], np, nq, r, _, Tp, Tq, _, _, _ => fun z _ => by
    have e1 : qm L np = 0 := by
      have : qm L np = sm L (fun y => (0 : Rat) * np y) := sm_congr fun y hy => by
        have := Tp.e y hy
        rw [sm_nil] at this
        grind
      rw [this, sm_mul]; grind
    have e2 : qm L nq = 0 := by
      have : qm L nq = sm L (fun y => (0 : Rat) * nq y) := sm_congr fun y hy => by
        have := Tq.e y hy
        rw [sm_nil] at this
        grind
      rw [this, sm_mul]; grind
    refine ⟨?_, fun _ _ h => absurd rfl h⟩
    rw [e1, e2]
    unfold bend
    rw [sm_nil, sm_nil]
    grind
  | x :: xs, np, nq, r, hs, Tp, Tq, B, hmu, W => fun z hz => by
    rw [List.pairwise_cons] at hs
    have hx := List.mem_cons_self (a := x) (l := xs)
    have hzx := hz x hx
    cases B with
    | cons w t m B =>
      have W2 : Wid L (fun y => np y - p x y) (fun y => nq y - q x y) := by
        refine ⟨?_, ?_, ?_⟩
        · have h1 := W.t
          have h2 := Tp.t x hx
          unfold tot at *
          rw [sm_sub, sm_sub, h2, t, h1]
        · have h1 := W.m
          have h2 := Tp.m x hx
          unfold mom at *
          have e1 : sm L (fun y => (np y - p x y) * (y : Rat)) = sm L (fun y => np y * (y : Rat) - p x y * (y : Rat)) := sm_congr fun x _ => by grind
          have e2 : sm L (fun y => (nq y - q x y) * (y : Rat)) = sm L (fun y => nq y * (y : Rat) - q x y * (y : Rat)) := sm_congr fun x _ => by grind
          rw [e1, e2, sm_sub, sm_sub, h2, m, h1]
        · refine hull1 w (hmu x hx) t m (rs_cvx Tp.tail.rest_nn) fun s => ?_
          rw [rs_sub]
          have := fair_rs (Tp.nn x hx) (Tp.t x hx) (Tp.m x hx) s
          have := W.r s
          grind
      have ih := bend_main hn hL hs.2 Tp.tail Tq.tail B (fun y hy => hmu y (List.mem_cons_of_mem _ hy)) W2
      have d1 := wid_qm hL W
      have d2 := wid_qm hL W2
      have i1 := (ih (x + 1) fun y hy => by have := hs.1 y hy; omega).1
      rw [qm_sub, qm_sub] at i1
      rw [qm_sub, qm_sub] at d2
      have c1 : ((x + 1 : Int) : Rat) = (x : Rat) + 1 := by rw [Rat.intCast_add]; rfl
      rw [c1] at i1
      have zx : (z : Rat) ≤ (x : Rat) := Rat.intCast_le_intCast.mpr hzx
      have k := Rat.mul_nonneg (show (0 : Rat) ≤ (x : Rat) - (z : Rat) by grind) (show 0 ≤ qm L nq - qm L np by grind)
      unfold bend at *
      rw [sm_cons, sm_cons]
      refine ⟨by grind, fun e hlt _ => ?_⟩
      have zx2 : (z : Rat) < (x : Rat) := Rat.intCast_lt_intCast.mpr (hlt x hx)
      rcases Rat.le_iff_lt_or_eq.mp (show 0 ≤ qm L nq - qm L np by grind) with g | g
      · have := Rat.mul_pos (show (0 : Rat) < (x : Rat) - (z : Rat) by grind) g
        grind
      · grind
end Cu
set_option maxHeartbeats 1000000
set_option linter.unusedVariables false
namespace Cu
theorem Wid.refl (L : List Int) {m m' : Int → Rat} (h : ∀ y ∈ L, m y = m' y) : Wid L m m' :=
  ⟨sm_congr h, sm_congr fun y hy => by rw [h y hy], fun s => by
    have : rs L m s = rs L m' s := sm_congr fun y hy => by rw [h y hy]
    rw [this]
    exact Rat.le_refl⟩
theorem qm_congr {L : List Int} {m m' : Int → Rat} (h : ∀ y ∈ L, m y = m' y) : qm L m = qm L m' := sm_congr fun y hy => by rw [h y hy]
/-- only the left table has so great a bend -/
theorem bend_eq {L : List Int} {lo : Int} {N : Nat} (hn : L.Nodup) (hL : In L lo N) {mu : Int → Rat} {p q : Int → Int → Rat} : ∀ {xs : List Int} {np nq r : Int → Rat}, xs.Pairwise (· < ·) → Tab L mu p xs np → Tab L mu q xs nq → Built L mu q xs nq r → (∀ x ∈ xs, 0 ≤ mu x) → (∀ y ∈ L, np y = nq y) →
    bend L p xs = bend L q xs → ∀ x ∈ xs, ∀ y ∈ L, p x y = q x y
  | [], _, _, _, _, _, _, _, _, _, _ => fun x hx => by cases hx
  | x :: xs, np, nq, r, hs, Tp, Tq, B, hmu, he, hb => by
    rw [List.pairwise_cons] at hs
    have hx := List.mem_cons_self (a := x) (l := xs)
    cases B with
    | cons w t m B =>
      have W := Wid.refl L he
      have W2 : Wid L (fun y => np y - p x y) (fun y => nq y - q x y) := by
        refine ⟨?_, ?_, ?_⟩
        · have h1 := W.t
          have h2 := Tp.t x hx
          unfold tot at *
          rw [sm_sub, sm_sub, h2, t, h1]
        · have h1 := W.m
          have h2 := Tp.m x hx
          unfold mom at *
          have e1 : sm L (fun y => (np y - p x y) * (y : Rat)) = sm L (fun y => np y * (y : Rat) - p x y * (y : Rat)) := sm_congr fun x _ => by grind
          have e2 : sm L (fun y => (nq y - q x y) * (y : Rat)) = sm L (fun y => nq y * (y : Rat) - q x y * (y : Rat)) := sm_congr fun x _ => by grind
          rw [e1, e2, sm_sub, sm_sub, h2, m, h1]
        · refine hull1 w (hmu x hx) t m (rs_cvx Tp.tail.rest_nn) fun s => ?_
          rw [rs_sub]
          have := fair_rs (Tp.nn x hx) (Tp.t x hx) (Tp.m x hx) s
          have := W.r s
          grind
      have d2 := wid_qm hL W2
      have i1 := (bend_main hn hL hs.2 Tp.tail Tq.tail B (fun y hy => hmu y (List.mem_cons_of_mem _ hy)) W2 (x + 1) fun y hy => by have := hs.1 y hy; omega).1
      have d0 := qm_congr he
      rw [qm_sub, qm_sub] at i1 d2
      have c1 : ((x + 1 : Int) : Rat) = (x : Rat) + 1 := by rw [Rat.intCast_add]; rfl
      rw [c1] at i1
      unfold bend at hb i1
      rw [sm_cons, sm_cons] at hb
      have e0 : qm L (fun y => np y - p x y) = qm L (fun y => nq y - q x y) := by
        rw [qm_sub, qm_sub]
        grind
      have e1 := wid_qm_eq hn hL W2 e0
      have e2 : ∀ y ∈ L, p x y = q x y := fun y hy => by
        have := e1 y hy
        have := he y hy
        grind
      intro z hz y hy
      rcases List.mem_cons.mp hz with g | g
      · rw [g]; exact e2 y hy
      · refine bend_eq hn hL hs.2 Tp.tail Tq.tail B (fun y hy => hmu y (List.mem_cons_of_mem _ hy)) e1 ?_ z g y hy
        have := qm_congr e2
        unfold bend
        grind
/-- the rests at the places themselves tell those at all marks -/
theorem wid_marks {L : List Int} {lo : Int} {N : Nat} (hL : In L lo N) {m v : Int → Rat} (t : tot L m = tot L v) (mo : mom L m = mom L v) (h : ∀ y ∈ L, rs L m y ≤ rs L v y) : Wid L m v := by
  refine ⟨t, mo, ?_⟩
  have z : ∀ s, s ∉ L → sm L (fun x => (m x - v x) * (if x = s then 1 else 0)) = 0 := by
    intro s hs
    have : sm L (fun x => (m x - v x) * (if x = s then 1 else 0)) = sm L (fun x => (0 : Rat) * m x) := sm_congr fun x hx => by
      rw [if_neg (fun e : x = s => hs (e ▸ hx))]
      grind
    rw [this, sm_mul]
    grind
  -- from a place or the far left, to a place or the far right
  have left : ∀ n : Nat, ∀ s : Int, s = lo - 1 + n → ∃ a, a ≤ s ∧ rs L m a ≤ rs L v a ∧ ∀ u, a < u → u ≤ s → u ∉ L := by
    intro n
    induction n with
    | zero =>
      intro s hs
      refine ⟨s, Int.le_refl _, ?_, fun u h1 h2 => by omega⟩
      rw [rs_low fun x hx q => by have := hL x hx; omega, rs_low fun x hx q => by have := hL x hx; omega, t, mo]
      exact Rat.le_refl
    | succ n ih =>
      intro s hs
      by_cases hm : s ∈ L
      · exact ⟨s, Int.le_refl _, h s hm, fun u h1 h2 => by omega⟩
      · obtain ⟨a, h1, h2, h3⟩ := ih (s - 1) (by omega)
        exact ⟨a, by omega, h2, fun u k1 k2 => by
          rcases Int.lt_or_le u s with k | k
          · exact h3 u k1 (by omega)
          · have : u = s := by omega
            rw [this]; exact hm⟩
  have right : ∀ n : Nat, ∀ s : Int, s + n = lo + N + 1 → ∃ b, s ≤ b ∧ rs L m b ≤ rs L v b ∧ ∀ u, s ≤ u → u < b → u ∉ L := by
    intro n
    induction n with
    | zero =>
      intro s hs
      refine ⟨s, Int.le_refl _, ?_, fun u h1 h2 => by omega⟩
      rw [rs_high fun x hx q => by have := hL x hx; omega, rs_high fun x hx q => by have := hL x hx; omega]
      exact Rat.le_refl
    | succ n ih =>
      intro s hs
      by_cases hm : s ∈ L
      · exact ⟨s, Int.le_refl _, h s hm, fun u h1 h2 => by omega⟩
      · obtain ⟨b, h1, h2, h3⟩ := ih (s + 1) (by omega)
        exact ⟨b, by omega, h2, fun u k1 k2 => by
          rcases Int.lt_or_le s u with k | k
          · exact h3 u (by omega) k2
          · have : u = s := by omega
            rw [this]; exact hm⟩
  intro s
  rcases Int.lt_or_le s (lo - 1) with q | q
  · rw [rs_low fun x hx q => by have := hL x hx; omega, rs_low fun x hx q => by have := hL x hx; omega, t, mo]
    exact Rat.le_refl
  rcases Int.lt_or_le (lo + N + 1) s with q2 | q2
  · rw [rs_high fun x hx q => by have := hL x hx; omega, rs_high fun x hx q => by have := hL x hx; omega]
    exact Rat.le_refl
  obtain ⟨a, a1, a2, a3⟩ := left (s - (lo - 1)).toNat s (by omega)
  obtain ⟨b, b1, b2, b3⟩ := right (lo + N + 1 - s).toNat s (by omega)
  have key := maxp (h := fun s => rs L m s - rs L v s) (a := a) (b := b) (by grind) (by grind) (fun u h1 h2 => by
    have hu : u ∉ L := by
      rcases Int.lt_or_le s u with k | k
      · exact b3 u (by omega) h2
      · exact a3 u h1 k
    have d1 := rs_diff L m u
    have d2 := rs_diff L v u
    have d3 := z u hu
    have : sm L (fun x => (m x - v x) * (if x = u then 1 else 0)) = sm L (fun x => m x * (if x = u then 1 else 0)) - sm L (fun x => v x * (if x = u then 1 else 0)) := by
      rw [← sm_sub]
      exact sm_congr fun x _ => by grind
    grind) s a1 b1
  grind
/-- a table of fair steps leads to what is wider -/
theorem tab_wid {L : List Int} {mu : Int → Rat} {p : Int → Int → Rat} {xs : List Int} {nu : Int → Rat} (T : Tab L mu p xs nu) : sm xs mu = tot L nu ∧ sm xs (fun x => mu x * (x : Rat)) = mom L nu ∧ ∀ s, sm xs (fun x => mu x * pl x s) ≤ rs L nu s := by
  have fub : ∀ (ys : List Int) (g : Int → Rat), sm L (fun y => sm ys (fun x => p x y) * g y) = sm ys (fun x => sm L fun y => p x y * g y) := by
    intro ys g
    induction ys with
    | nil =>
      rw [sm_nil]
      have : sm L (fun y => sm [] (fun x => p x y) * g y) = sm L (fun y => (0 : Rat) * g y) := sm_congr fun y _ => by rw [sm_nil]
      rw [this, sm_mul]
      grind
    | cons x ys ih =>
      rw [sm_cons, ← ih, ← sm_add]
      exact sm_congr fun y _ => by rw [sm_cons]; grind
  refine ⟨?_, ?_, fun s => ?_⟩
  · have e : tot L nu = sm L (fun y => sm xs (fun x => p x y) * 1) := sm_congr fun y hy => by rw [T.e y hy]; grind
    rw [e, fub xs fun _ => 1]
    refine sm_congr fun x hx => ?_
    rw [← T.t x hx]
    exact sm_congr fun y _ => by grind
  · have e : mom L nu = sm L (fun y => sm xs (fun x => p x y) * (y : Rat)) := sm_congr fun y hy => by rw [T.e y hy]
    rw [e, fub]
    exact sm_congr fun x hx => (T.m x hx).symm
  · have e : rs L nu s = sm L (fun y => sm xs (fun x => p x y) * pl y s) := sm_congr fun y hy => by rw [T.e y hy]
    rw [e, fub]
    exact sm_le fun x hx => fair_rs (T.nn x hx) (T.t x hx) (T.m x hx) s
end Cu
set_option Elab.async false
set_option maxRecDepth 100000
set_option maxHeartbeats 4000000
set_option linter.unusedVariables false
/-! fractions as numbers, their sizes over one lower number, shares as weights on places -/
namespace CS
open Cu
abbrev Shx := List (Int × Fx)
def val (x : Fx) : Rat := (x.1 : Rat) / (x.2 : Rat)
theorem cast_ne {b : Int} (h : b ≠ 0) : (b : Rat) ≠ 0 := fun z => h (by exact_mod_cast z)
theorem val_low {t b : Int} (hb : b ≠ 0) : val (low t b) = (t : Rat) / (b : Rat) := by
  have h1 := low_cross (t := t) hb
  have h2 := (low_fr (t := t) hb).ne
  have h3 : ((low t b).1 : Rat) * (b : Rat) = (t : Rat) * ((low t b).2 : Rat) := by exact_mod_cast h1
  have n1 := cast_ne hb
  have n2 := cast_ne h2
  unfold val
  grind
theorem val_add {x y : Fx} (hx : Fr x) (hy : Fr y) : val (fadd x y) = val x + val y := by
  unfold fadd
  rw [val_low (dd hx hy)]
  have n1 := cast_ne hx.ne
  have n2 := cast_ne hy.ne
  unfold val
  simp only [Rat.intCast_add, Rat.intCast_mul]
  grind
theorem val_sub {x y : Fx} (hx : Fr x) (hy : Fr y) : val (fsub x y) = val x - val y := by
  unfold fsub
  rw [val_low (dd hx hy)]
  have n1 := cast_ne hx.ne
  have n2 := cast_ne hy.ne
  unfold val
  simp only [Rat.intCast_sub, Rat.intCast_mul]
  grind
theorem val_mul {x y : Fx} (hx : Fr x) (hy : Fr y) : val (fmul x y) = val x * val y := by
  unfold fmul
  rw [val_low (dd hx hy)]
  have n1 := cast_ne hx.ne
  have n2 := cast_ne hy.ne
  unfold val
  simp only [Rat.intCast_mul]
  grind
theorem val_scl {x : Fx} (hx : Fr x) (k : Int) : val (scl x k) = val x * (k : Rat) := by
  unfold scl
  rw [val_low hx.ne]
  have n1 := cast_ne hx.ne
  unfold val
  simp only [Rat.intCast_mul]
  grind
theorem val_zero {x : Fx} (hx : Fr x) (h : val x = 0) : x = (0, 1) := by
  refine fr_zero hx ?_
  have n1 := cast_ne hx.ne
  unfold val at h
  have : (x.1 : Rat) = 0 := by grind
  exact_mod_cast this
theorem val01 : val ((0, 1) : Fx) = 0 := by
  unfold val
  simp
  grind
theorem fadd_nonneg {x y : Fx} (hx : Fr x) (hy : Fr y) (px : 0 ≤ x.1) (py : 0 ≤ y.1) : 0 ≤ (fadd x y).1 := by
  have s := (low_sign (t := x.1 * y.2 + y.1 * x.2) (dd0 hx hy)).2
  have h1 : 0 ≤ x.1 * y.2 := Int.mul_nonneg px (Int.le_of_lt hy.pos)
  have h2 : 0 ≤ y.1 * x.2 := Int.mul_nonneg py (Int.le_of_lt hx.pos)
  unfold fadd
  exact Int.not_lt.mp fun z => absurd (s.mp z) (by omega)
theorem perm_sum {α : Type} (g : α → Rat) {l m : List α} (h : l.Perm m) : (l.map g).sum = (m.map g).sum := by
  induction h with
  | nil => rfl
  | cons x _ ih => simp only [List.map_cons, List.sum_cons, ih]
  | swap x y l => simp only [List.map_cons, List.sum_cons]; grind
  | trans _ _ a b => exact a.trans b
theorem val_fold (k : Int) : ∀ (zs : List (Int × Fx)) (a : Fx), Fr a → (∀ z ∈ zs, Fr z.2) → Fr (zs.foldl (fun a kx => if k = kx.1 then fadd a kx.2 else a) a) ∧ val (zs.foldl (fun a kx => if k = kx.1 then fadd a kx.2 else a) a) = val a + (zs.map fun z => if k = z.1 then val z.2 else 0).sum
  | [], a, fa, _ => ⟨fa, by simp; grind⟩
  | z :: zs, a, fa, hz => by
    have fz := hz z (by simp)
    have rest : ∀ y ∈ zs, Fr y.2 := fun y hy => hz y (List.mem_cons_of_mem _ hy)
    rw [List.foldl_cons, List.map_cons, List.sum_cons]
    by_cases e : k = z.1
    · rw [if_pos e, if_pos e]
      obtain ⟨h1, h2⟩ := val_fold k zs _ (fadd_fr fa fz) rest
      refine ⟨h1, ?_⟩
      rw [h2, val_add fa fz]
      grind
    · rw [if_neg e, if_neg e]
      obtain ⟨h1, h2⟩ := val_fold k zs a fa rest
      refine ⟨h1, ?_⟩
      rw [h2]
      grind
def Bd (D M : Nat) (x : Fx) : Prop := Fr x ∧ ∃ N : Int, x.1 * (D : Int) = N * x.2 ∧ N.natAbs ≤ M * D
theorem Bd.fr {D M : Nat} {x : Fx} (h : Bd D M x) : Fr x := h.1
theorem Bd.dvd {D M : Nat} {x : Fx} (h : Bd D M x) : x.2 ∣ (D : Int) := by
  obtain ⟨f, N, e, _⟩ := h
  have : x.2 ∣ x.1 * (D : Int) := ⟨N, by rw [e, Int.mul_comm]⟩
  exact cop_dvd this (by rw [Int.gcd_comm]; exact f.2)
theorem Bd.sz {D M d m n : Nat} {x : Fx} (h : Bd D M x) (h0 : 0 < D) (hD : D < 2 ^ d) (hM : M ≤ 2 ^ m) (hn : d + m ≤ n) : Sz n x := by
  have dv := h.dvd
  obtain ⟨f, N, e, b⟩ := h
  have le : x.2.natAbs ≤ D := Int.natAbs_natCast D ▸ (Nat.le_of_dvd (by rw [Int.natAbs_natCast]; exact h0) (Int.natAbs_dvd_natAbs.mpr dv))
  have p0 : 0 < x.2.natAbs := by have := f.1; omega
  have e2 : x.1.natAbs * D = N.natAbs * x.2.natAbs := by
    have := congrArg Int.natAbs e
    rw [Int.natAbs_mul, Int.natAbs_mul, Int.natAbs_natCast] at this
    exact this
  have top : x.1.natAbs ≤ M * x.2.natAbs := by
    have h1 : x.1.natAbs * D ≤ M * D * x.2.natAbs := by rw [e2]; exact Nat.mul_le_mul_right _ b
    have h2 : M * D * x.2.natAbs = (M * x.2.natAbs) * D := by grind
    rw [h2] at h1
    exact Nat.le_of_mul_le_mul_right h1 h0
  have lt2 : x.2.natAbs < 2 ^ d := Nat.lt_of_le_of_lt le hD
  refine ⟨?_, lt_up lt2 (by omega)⟩
  have : x.1.natAbs < 2 ^ (d + m) := by
    rw [Nat.pow_add, Nat.mul_comm]
    exact Nat.lt_of_le_of_lt (Nat.le_trans top (Nat.mul_le_mul_right _ hM)) ((Nat.mul_lt_mul_left (Nat.two_pow_pos m)).mpr lt2)
  exact lt_up this hn
theorem bd_low {D M : Nat} {t b N : Int} (hb : b ≠ 0) (e : t * (D : Int) = N * b) (h : N.natAbs ≤ M * D) : Bd D M (low t b) := by
  refine ⟨low_fr hb, N, ?_, h⟩
  have c := low_cross (t := t) hb
  generalize low t b = y at *
  have : b * (y.1 * (D : Int)) = b * (N * y.2) := by grind
  exact Int.eq_of_mul_eq_mul_left hb this
theorem Bd.add {D M N : Nat} {x y : Fx} (hx : Bd D M x) (hy : Bd D N y) : Bd D (M + N) (fadd x y) := by
  obtain ⟨fx, X, ex, bx⟩ := hx
  obtain ⟨fy, Y, ey, bY⟩ := hy
  refine bd_low (dd fx fy) (N := X + Y) ?_ ?_
  · grind
  · rw [Nat.add_mul]
    have := Int.natAbs_add_le X Y
    omega
theorem Bd.sub {D M N : Nat} {x y : Fx} (hx : Bd D M x) (hy : Bd D N y) : Bd D (M + N) (fsub x y) := by
  obtain ⟨fx, X, ex, bx⟩ := hx
  obtain ⟨fy, Y, ey, bY⟩ := hy
  refine bd_low (dd fx fy) (N := X - Y) ?_ ?_
  · grind
  · rw [Nat.add_mul]
    have := Int.natAbs_sub_le X Y
    omega
theorem Bd.scl {D M : Nat} {x : Fx} (hx : Bd D M x) (k : Int) {m : Nat} (hk : k.natAbs ≤ m) : Bd D (M * m) (scl x k) := by
  obtain ⟨fx, X, ex, bx⟩ := hx
  refine bd_low fx.ne (N := X * k) ?_ ?_
  · grind
  · rw [Int.natAbs_mul]
    have := Nat.mul_le_mul bx hk
    have e : M * D * m = M * m * D := by grind
    omega
theorem Bd.up {D M N : Nat} {x : Fx} (hx : Bd D M x) (h : M ≤ N) : Bd D N x := ⟨hx.1, hx.2.elim fun X e => ⟨X, e.1, Nat.le_trans e.2 (Nat.mul_le_mul_right _ h)⟩⟩
theorem Bd.times {D M : Nat} {x : Fx} (hx : Bd D M x) (k : Nat) : Bd (D * k) M x := by
  obtain ⟨fx, X, ex, bx⟩ := hx
  refine ⟨fx, X * k, ?_, ?_⟩
  · rw [Int.natCast_mul]
    grind
  · rw [Int.natAbs_mul, Int.natAbs_natCast, ← Nat.mul_assoc]
    exact Nat.mul_le_mul_right _ bx
theorem Bd.div {D M : Nat} {x : Fx} (hx : Bd D M x) {k : Int} (hk : 0 < k) : Bd (D * k.toNat) M (fdiv x (k, 1)) := by
  obtain ⟨fx, X, ex, bx⟩ := hx
  have hk2 : ((k.toNat : Nat) : Int) = k := by omega
  refine bd_low (Int.mul_ne_zero fx.ne (show k ≠ 0 by omega)) (N := X) ?_ ?_
  · rw [Int.natCast_mul, hk2]
    show x.1 * 1 * ((D : Int) * k) = X * (x.2 * k)
    grind
  · refine Nat.le_trans bx ?_
    have : M * D * 1 ≤ M * D * k.toNat := Nat.mul_le_mul_left _ (by omega)
    grind
theorem bd01 (D M : Nat) : Bd D M (0, 1) := ⟨fr01, 0, by simp, by simp⟩
theorem fold_bd {D M : Nat} : ∀ (l : List Fx) (a : Fx) (m : Nat), Bd D m a → (∀ x ∈ l, Bd D M x) → Bd D (m + l.length * M) (l.foldl fadd a)
  | [], a, m, h, _ => by simpa using h
  | x :: l, a, m, h, g => by
    have := fold_bd l (fadd a x) (m + M) (h.add (g x List.mem_cons_self)) fun y hy => g y (List.mem_cons_of_mem _ hy)
    refine this.up ?_
    rw [List.length_cons, Nat.succ_mul]
    omega
theorem cfold_bd {D M : Nat} (j : Int) : ∀ (xs : List (Int × Fx)) (a : Fx) (m : Nat), Bd D m a → (∀ x ∈ xs, Bd D M x.2) → Bd D (m + xs.length * M) (xs.foldl (fun a kx => if j = kx.1 then fadd a kx.2 else a) a)
  | [], a, m, h, _ => by simpa using h
  | x :: l, a, m, h, g => by
    have h2 : Bd D (m + M) (if j = x.1 then fadd a x.2 else a) := by
      split
      · exact h.add (g x List.mem_cons_self)
      · exact h.up (Nat.le_add_right _ _)
    have := cfold_bd j l _ (m + M) h2 fun y hy => g y (List.mem_cons_of_mem _ hy)
    refine this.up ?_
    rw [List.length_cons, Nat.succ_mul]
    omega
def AllB (d : Nat) (xs : List (Int × Fx)) : Prop := ∃ D : Nat, 0 < D ∧ D < 2 ^ d ∧ ∀ a ∈ xs, Bd D (2 ^ 100) a.2
theorem AllB.fr {d : Nat} {xs : List (Int × Fx)} (h : AllB d xs) : ∀ a ∈ xs, Fr a.2 := let ⟨_, _, _, q⟩ := h; fun a ha => (q a ha).1
theorem AllB.sub {d : Nat} {xs ys : List (Int × Fx)} (h : AllB d xs) (s : ∀ a ∈ ys, a ∈ xs) : AllB d ys := let ⟨D, h0, h1, q⟩ := h; ⟨D, h0, h1, fun a ha => q a (s a ha)⟩
theorem AllB.up {d e : Nat} {xs : List (Int × Fx)} (h : AllB d xs) (s : d ≤ e) : AllB e xs := let ⟨D, h0, h1, q⟩ := h; ⟨D, h0, lt_up h1 s, q⟩
theorem AllB.take {d i : Nat} {xs : List (Int × Fx)} (h : AllB d xs) : AllB d (xs.take i) := h.sub fun a ha => List.mem_of_mem_take ha
theorem AllB.sz {d : Nat} {xs : List (Int × Fx)} (h : AllB d xs) (hd : d ≤ 1600) : ∀ a ∈ xs, Sz 1900 a.2 := let ⟨_, h0, h1, q⟩ := h; fun a ha => (q a ha).sz h0 h1 (m := 100) (Nat.le_refl _) (by omega)
theorem AllB.tot {d : Nat} {xs : List (Int × Fx)} (h : AllB d xs) (hd : d ≤ 1600) (hl : xs.length ≤ 40) : Fr (ftot xs) ∧ Sz 1900 (ftot xs) := by
  obtain ⟨D, h0, h1, q⟩ := h
  have b := fold_bd (D := D) (M := 2 ^ 100) (xs.map (·.2)) (0, 1) 0 (bd01 _ _) fun x hx => by
    obtain ⟨a, ha, rfl⟩ := List.mem_map.mp hx
    exact q a ha
  refine ⟨b.1, (b.up (N := 2 ^ 110) ?_).sz h0 h1 (m := 110) (Nat.le_refl _) (by omega)⟩
  rw [List.length_map]
  have : xs.length * 2 ^ 100 ≤ 40 * 2 ^ 100 := Nat.mul_le_mul_right _ hl
  have : (40 : Nat) * 2 ^ 100 ≤ 2 ^ 110 := by decide
  omega
theorem gat_frB {d : Nat} {xs : List (Int × Fx)} (h : AllB d xs) (j : Int) : Fr (lk (gat [] xs) j) := by
  rw [lk_gat]
  exact cfold_fr j xs _ fr01 h.fr
theorem gat_szB {d : Nat} {xs : List (Int × Fx)} (h : AllB d xs) (hd : d ≤ 1600) (hl : xs.length ≤ 40) (j : Int) : Sz 1900 (lk (gat [] xs) j) := by
  rw [lk_gat]
  obtain ⟨D, h0, h1, q⟩ := h
  have b := cfold_bd (D := D) (M := 2 ^ 100) j xs (0, 1) 0 (bd01 _ _) q
  refine (b.up (N := 2 ^ 110) ?_).sz h0 h1 (m := 110) (Nat.le_refl _) (by omega)
  have : xs.length * 2 ^ 100 ≤ 40 * 2 ^ 100 := Nat.mul_le_mul_right _ hl
  have : (40 : Nat) * 2 ^ 100 ≤ 2 ^ 110 := by decide
  omega
theorem bd_of_dvd {D : Nat} {x : Fx} {m : Nat} (hx : Fr x) (hm : x.1.natAbs ≤ m) (h : x.2 ∣ (D : Int)) : Bd D m x := by
  obtain ⟨c, hc⟩ := h
  refine ⟨hx, x.1 * c, ?_, ?_⟩
  · rw [hc]; grind
  · rw [Int.natAbs_mul]
    have e : D = x.2.natAbs * c.natAbs := by
      have := congrArg Int.natAbs hc
      rw [Int.natAbs_natCast, Int.natAbs_mul] at this
      exact this
    have p0 : 0 < x.2.natAbs := by have := hx.1; omega
    rw [e, ← Nat.mul_assoc]
    refine Nat.mul_le_mul_right _ (Nat.le_trans hm ?_)
    exact Nat.le_mul_of_pos_right _ p0
theorem cast_pos {b : Int} (h : 0 < b) : (0 : Rat) < (b : Rat) := Rat.intCast_lt_intCast.mpr h
theorem val_top {x : Fx} (hx : Fr x) : val x * (x.2 : Rat) = (x.1 : Rat) := by
  have := cast_ne hx.ne
  unfold val
  grind
theorem val_lt {x y : Fx} (hx : Fr x) (hy : Fr y) : val x < val y ↔ flt x y = true := by
  have px := cast_pos hx.pos
  have py := cast_pos hy.pos
  have ex := val_top hx
  have ey := val_top hy
  have pp := Rat.mul_pos px py
  unfold flt
  rw [decide_eq_true_iff]
  have key : ((y.1 * x.2 - x.1 * y.2 : Int) : Rat) = (val y - val x) * ((x.2 : Rat) * (y.2 : Rat)) := by
    rw [Rat.intCast_sub, Rat.intCast_mul, Rat.intCast_mul, ← ex, ← ey]
    grind
  constructor
  · intro h
    have : (0 : Rat) < ((y.1 * x.2 - x.1 * y.2 : Int) : Rat) := by
      rw [key]
      exact Rat.mul_pos (by grind) pp
    have : 0 < y.1 * x.2 - x.1 * y.2 := Rat.intCast_lt_intCast.mp this
    omega
  · intro h
    by_cases q : val x < val y
    · exact q
    · exfalso
      have n1 := Rat.mul_nonneg (show (0 : Rat) ≤ val x - val y by grind) (Rat.le_of_lt pp)
      have : (0 : Rat) < ((y.1 * x.2 - x.1 * y.2 : Int) : Rat) := cast_pos (by omega)
      rw [key] at this
      grind
theorem val_le {x y : Fx} (hx : Fr x) (hy : Fr y) : val x ≤ val y ↔ flt y x = false := by
  have := val_lt hy hx
  constructor
  · intro h
    cases e : flt y x with
    | false => rfl
    | true =>
      have := this.mpr e
      grind
  · intro h
    by_cases q : val y < val x
    · rw [this.mp q] at h
      cases h
    · grind
theorem val_pos {x : Fx} (hx : Fr x) : 0 < val x ↔ 0 < x.1 := by
  have := val_lt fr01 hx
  rw [val01] at this
  rw [this]
  unfold flt
  simp
theorem val_nonneg {x : Fx} (hx : Fr x) : 0 ≤ val x ↔ 0 ≤ x.1 := by
  have := val_le fr01 hx
  rw [val01] at this
  rw [this]
  unfold flt
  simp
theorem val_inj {x y : Fx} (hx : Fr x) (hy : Fr y) (h : val x = val y) : x = y := by
  have px := cast_ne hx.ne
  have py := cast_ne hy.ne
  refine Fr.uniq hx hy ?_
  have e : (x.1 : Rat) * (y.2 : Rat) = (y.1 : Rat) * (x.2 : Rat) := by
    rw [← val_top hx, ← val_top hy, h]
    grind
  exact_mod_cast e
def PL : List Int := (List.range 201).map fun k : Nat => (k : Int) - 100
theorem PL_mem {x : Int} : x ∈ PL ↔ -100 ≤ x ∧ x ≤ 100 := by
  unfold PL
  simp only [List.mem_map, List.mem_range]
  constructor
  · rintro ⟨k, h, rfl⟩
    omega
  · intro h
    exact ⟨(x + 100).toNat, by omega, by omega⟩
theorem PL_asc : PL.Pairwise (· < ·) := by
  unfold PL
  rw [List.pairwise_map]
  exact List.pairwise_lt_range.imp fun h => by omega
theorem PL_nodup : PL.Nodup := PL_asc.imp fun h => Int.ne_of_lt h
def vf (xs : List (Int × Fx)) (k : Int) : Rat := val (lk xs k)
theorem vf_nil (k : Int) : vf [] k = 0 := val01
theorem vf_cons {a : Int × Fx} {xs : List (Int × Fx)} (h : a.1 ∉ xs.map (·.1)) (k : Int) : vf (a :: xs) k = (if k = a.1 then val a.2 else 0) + vf xs k := by
  obtain ⟨j, y⟩ := a
  unfold vf
  rw [lk_cons]
  by_cases e : k = j
  · subst e
    rw [if_pos rfl, if_pos rfl, lk_none h, val01]
    grind
  · rw [if_neg e, if_neg e]
    grind
theorem sm_atom {L : List Int} (hn : L.Nodup) {y : Int} (hy : y ∈ L) (v : Rat) (g : Int → Rat) : sm L (fun x => (if x = y then v else 0) * g x) = v * g y := by
  rw [← sm_one (m := fun x => v * g x) hn hy]
  refine sm_congr fun x _ => ?_
  split <;> grind
structure Kys (xs : List (Int × Fx)) : Prop where
  pl : ∀ a ∈ xs, a.1 ∈ PL
  nd : (xs.map (·.1)).Nodup
  fr : ∀ a ∈ xs, Fr a.2
theorem Kys.tail {a : Int × Fx} {xs : List (Int × Fx)} (h : Kys (a :: xs)) : Kys xs ∧ a.1 ∉ xs.map (·.1) ∧ a.1 ∈ PL ∧ Fr a.2 := by
  obtain ⟨h1, h2, h3⟩ := h
  rw [List.map_cons, List.nodup_cons] at h2
  exact ⟨⟨fun b hb => h1 b (List.mem_cons_of_mem _ hb), h2.2, fun b hb => h3 b (List.mem_cons_of_mem _ hb)⟩, h2.1, h1 a List.mem_cons_self, h3 a List.mem_cons_self⟩
theorem Shr.kys {xs : List (Int × Fx)} (h : Shr xs) : Kys xs := ⟨fun a ha => PL_mem.mpr ⟨(h.2.1 a ha).1, (h.2.1 a ha).2.1⟩, h.2.2.imp fun e => Int.ne_of_lt e, fun a ha => (h.2.1 a ha).2.2.1⟩
theorem sm_vf {xs : List (Int × Fx)} (h : Kys xs) (g : Int → Rat) : sm PL (fun k => vf xs k * g k) = (xs.map fun a => val a.2 * g a.1).sum := by
  induction xs with
  | nil =>
    have : sm PL (fun k => vf [] k * g k) = sm PL (fun k => (0 : Rat) * g k) := sm_congr fun k _ => by rw [vf_nil]
    rw [this, sm_mul]
    simp
  | cons a xs ih =>
    obtain ⟨h1, h2, h3, h4⟩ := h.tail
    have : sm PL (fun k => vf (a :: xs) k * g k) = sm PL (fun k => (if k = a.1 then val a.2 else 0) * g k + vf xs k * g k) := sm_congr fun k _ => by rw [vf_cons h2]; grind
    rw [this, sm_add, sm_atom PL_nodup h3, ih h1, List.map_cons, List.sum_cons]
theorem val_foldl : ∀ (l : List Fx) (a : Fx), Fr a → (∀ x ∈ l, Fr x) → val (l.foldl fadd a) = val a + (l.map val).sum
  | [], a, _, _ => by simp; grind
  | x :: l, a, ha, h => by
    have hx := h x List.mem_cons_self
    rw [List.foldl_cons, val_foldl l _ (fadd_fr ha hx) fun y hy => h y (List.mem_cons_of_mem _ hy), val_add ha hx, List.map_cons, List.sum_cons]
    grind
theorem val_fsum {l : List Fx} (h : ∀ x ∈ l, Fr x) : val (fsum l) = (l.map val).sum := by
  unfold fsum
  rw [val_foldl l _ fr01 h, val01]
  grind
theorem fsum_fr {l : List Fx} (h : ∀ x ∈ l, Fr x) : Fr (fsum l) := fold_fr l _ fr01 h
theorem ftot_val {xs : List (Int × Fx)} (h : Kys xs) : Fr (ftot xs) ∧ val (ftot xs) = tot PL (vf xs) := by
  have f : ∀ x ∈ xs.map (·.2), Fr x := fun x hx => by
    obtain ⟨a, ha, rfl⟩ := List.mem_map.mp hx
    exact h.fr a ha
  refine ⟨fsum_fr f, ?_⟩
  unfold ftot tot
  have e := sm_vf h (fun _ => 1)
  simp only [Rat.mul_one] at e
  rw [val_fsum f, e, List.map_map]
  rfl
theorem fmom_val {xs : List (Int × Fx)} (h : Kys xs) : Fr (fmom xs) ∧ val (fmom xs) = mom PL (vf xs) := by
  have f : ∀ x ∈ xs.map (fun a => scl a.2 a.1), Fr x := fun x hx => by
    obtain ⟨a, ha, rfl⟩ := List.mem_map.mp hx
    exact scl_fr (h.fr a ha) _
  refine ⟨fsum_fr f, ?_⟩
  unfold fmom mom
  rw [val_fsum f, sm_vf h fun k => (k : Rat), List.map_map]
  congr 1
  refine List.map_congr_left fun a ha => ?_
  exact val_scl (h.fr a ha) a.1
theorem sum_filter {α : Type} (p : α → Bool) (g : α → Rat) : ∀ l : List α, ((l.filter p).map g).sum = (l.map fun x => if p x = true then g x else 0).sum
  | [] => rfl
  | x :: l => by
    rw [List.map_cons, List.sum_cons, ← sum_filter p g l]
    by_cases c : p x = true
    · rw [List.filter_cons_of_pos c, List.map_cons, List.sum_cons, if_pos c]
    · rw [List.filter_cons_of_neg c, if_neg c]
      grind
theorem frest_val {xs : List (Int × Fx)} (h : Kys xs) (k : Int) : Fr (frest xs k) ∧ val (frest xs k) = rs PL (vf xs) k := by
  have f : ∀ x ∈ (xs.filter fun a => decide (k < a.1)).map (fun a => scl a.2 (a.1 - k)), Fr x := fun x hx => by
    obtain ⟨a, ha, rfl⟩ := List.mem_map.mp hx
    exact scl_fr (h.fr a (List.mem_filter.mp ha).1) _
  refine ⟨fsum_fr f, ?_⟩
  unfold frest rs
  rw [val_fsum f, sm_vf h fun x => pl x k, List.map_map, sum_filter]
  congr 1
  refine List.map_congr_left fun a ha => ?_
  unfold pl
  by_cases c : k < a.1
  · rw [if_pos (decide_eq_true c), if_pos c]
    show val (scl a.2 (a.1 - k)) = _
    rw [val_scl (h.fr a ha), Rat.intCast_sub]
  · rw [if_neg (by simpa using c), if_neg c]
    grind
theorem lk_app (xs ys : Shx) (k : Int) : lk (xs ++ ys) k = if k ∈ xs.map (·.1) then lk xs k else lk ys k := by
  induction xs with
  | nil => simp
  | cons a xs ih =>
    obtain ⟨j, y⟩ := a
    rw [List.cons_append, lk_cons, lk_cons, ih]
    by_cases e : k = j
    · simp [e]
    · have q : (k ∈ ((j, y) :: xs).map (·.1)) ↔ k ∈ xs.map (·.1) := by simp [e]
      simp only [if_neg e, q]
theorem vf_zero {xs : Shx} {k : Int} (h : k ∉ xs.map (·.1)) : vf xs k = 0 := by
  unfold vf
  rw [lk_none h, val01]
theorem vf_mem {xs : Shx} {a : Int × Fx} (hn : (xs.map (·.1)).Nodup) (h : a ∈ xs) : vf xs a.1 = val a.2 := by
  unfold vf
  rw [lk_of_mem hn h]
def Pos (xs : Shx) : Prop := ∀ a ∈ xs, Fr a.2 ∧ 0 < a.2.1
theorem Shr.pos {xs : Shx} (h : Shr xs) : Pos xs := fun a ha => (h.2.1 a ha).2.2
theorem vf_nn {xs : Shx} (h : ∀ a ∈ xs, Fr a.2 ∧ 0 ≤ a.2.1) (k : Int) : 0 ≤ vf xs k := by
  unfold vf
  by_cases e : lk xs k = (0, 1)
  · rw [e, val01]
    exact Rat.le_refl
  · induction xs with
    | nil => exact absurd rfl e
    | cons a xs ih =>
      obtain ⟨j, y⟩ := a
      rw [lk_cons] at e ⊢
      by_cases c : k = j
      · rw [if_pos c]
        exact (val_nonneg (h _ List.mem_cons_self).1).mpr (h _ List.mem_cons_self).2
      · rw [if_neg c] at e ⊢
        exact ih (fun b hb => h b (List.mem_cons_of_mem _ hb)) e
theorem Pos.nn {xs : Shx} (h : Pos xs) (k : Int) : 0 ≤ vf xs k := vf_nn (fun a ha => ⟨(h a ha).1, Int.le_of_lt (h a ha).2⟩) k
theorem Pos.vf_pos {xs : Shx} (h : Pos xs) (hn : (xs.map (·.1)).Nodup) {k : Int} : 0 < vf xs k ↔ k ∈ xs.map (·.1) := by
  constructor
  · intro q
    by_cases c : k ∈ xs.map (·.1)
    · exact c
    · rw [vf_zero c] at q
      grind
  · intro q
    obtain ⟨a, ha, rfl⟩ := List.mem_map.mp q
    rw [vf_mem hn ha]
    exact (val_pos (h a ha).1).mpr (h a ha).2
theorem vf_eq {V W : Shx} (hV : Kys V) (hW : Kys W) (aV : (V.map (·.1)).Pairwise (· < ·)) (aW : (W.map (·.1)).Pairwise (· < ·)) (pV : Pos V) (pW : Pos W) (h : ∀ k ∈ PL, vf V k = vf W k) : V = W := by
  have lkF : ∀ {U : Shx}, Kys U → ∀ k, Fr (lk U k) := fun {U} hU k => by
    by_cases m : k ∈ U.map (·.1)
    · obtain ⟨x, hx, rfl⟩ := List.mem_map.mp m
      rw [lk_of_mem hU.nd hx]
      exact hU.fr x hx
    · rw [lk_none m]
      exact fr01
  have is : ∀ {U : Shx}, Kys U → (U.map (·.1)).Pairwise (· < ·) → Pos U → IsS U U := fun {U} hU aU pU => ⟨aU, fun k x => ⟨fun m => ⟨lk_of_mem hU.nd m, fun z => by have := (pU _ m).2; rw [z] at this; exact absurd this (by show ¬ (0 : Int) < 0; decide)⟩, fun ⟨e, z⟩ => by
    have m := lk_mem (f := U) (k := k) (by rw [e]; exact z)
    obtain ⟨y, hy, hk⟩ := List.mem_map.mp m
    have e2 := lk_of_mem hU.nd (show (y.1, y.2) ∈ U from hy)
    rw [hk, e] at e2
    have : (k, x) = y := by rw [← hk, e2]
    rw [this]; exact hy⟩⟩
  refine IsS.uniq (is hV aV pV) (is hW aW pW) fun k => ?_
  by_cases c : k ∈ PL
  · exact val_inj (lkF hV k) (lkF hW k) (h k c)
  · rw [lk_none fun m => ?_, lk_none fun m => ?_]
    · obtain ⟨x, hx, rfl⟩ := List.mem_map.mp m
      exact c (hW.pl x hx)
    · obtain ⟨x, hx, rfl⟩ := List.mem_map.mp m
      exact c (hV.pl x hx)
end CS
set_option Elab.async false
set_option maxRecDepth 100000
set_option maxHeartbeats 4000000
set_option linter.unusedVariables false
/-! what is gathered, as a function; its weights -/
namespace CS
open Cu
/-- the weight of k in a list of pairs -/
def vfp (ps : Shx) (k : Int) : Rat := (ps.map fun a => if k = a.1 then val a.2 else 0).sum
theorem vfp_app (ps qs : Shx) (k : Int) : vfp (ps ++ qs) k = vfp ps k + vfp qs k := by
  unfold vfp
  rw [List.map_append, List.sum_append]
theorem vfp_cons (a : Int × Fx) (ps : Shx) (k : Int) : vfp (a :: ps) k = (if k = a.1 then val a.2 else 0) + vfp ps k := by
  unfold vfp
  rw [List.map_cons, List.sum_cons]
theorem vfp_nil (k : Int) : vfp [] k = 0 := rfl
theorem vfp_nodup : ∀ {xs : Shx}, (xs.map (·.1)).Nodup → ∀ k, vfp xs k = vf xs k
  | [], _, k => by rw [vfp_nil, vf_nil]
  | a :: xs, h, k => by
    rw [List.map_cons, List.nodup_cons] at h
    rw [vfp_cons, vf_cons h.1, vfp_nodup h.2 k]
theorem vfp_none {ps : Shx} {k : Int} (h : k ∉ ps.map (·.1)) : vfp ps k = 0 := by
  induction ps with
  | nil => rfl
  | cons a ps ih =>
    rw [List.map_cons, List.mem_cons, not_or] at h
    rw [vfp_cons, if_neg h.1, ih h.2]
    grind
/-- the gathered pairs -/
def gS (ps : Shx) : Shx := ((((gat [] ps).map (·.1)).mergeSort fun a b => decide (a ≤ b)).filter fun k => decide (lk (gat [] ps) k ≠ (0, 1))).map fun k => (k, lk (gat [] ps) k)
theorem gS_isS (ps : Shx) : IsS (gat [] ps) (gS ps) := by
  refine isS_of (List.mergeSort_perm _ _) (gat_nodup ps [] .nil) ?_
  have h := List.pairwise_mergeSort (le := fun a b : Int => decide (a ≤ b)) (fun a b c h1 h2 => decide_eq_true (Int.le_trans (of_decide_eq_true h1) (of_decide_eq_true h2))) (fun a b => by
    rcases Int.le_total a b with h | h
    · simp [h]
    · simp [h]) ((gat [] ps).map (·.1))
  exact h.imp fun q => of_decide_eq_true q
theorem gS_eq {ps ys : Shx} (h : IsS (gat [] ps) ys) : ys = gS ps := h.uniq (gS_isS ps) fun _ => rfl
theorem IsS.lk {f r : Shx} (h : IsS f r) (k : Int) : CS.lk r k = CS.lk f k := by
  have nd : (r.map (·.1)).Nodup := h.1.imp fun e => Int.ne_of_lt e
  by_cases c : CS.lk f k = (0, 1)
  · rw [c]
    refine lk_none fun z => ?_
    obtain ⟨a, ha, e⟩ := List.mem_map.mp z
    obtain ⟨j, x⟩ := a
    have e2 : j = k := e
    subst e2
    have q := (h.2 j x).mp ha
    rw [c] at q
    exact q.2 q.1.symm
  · exact lk_of_mem nd ((h.2 k _).mpr ⟨rfl, c⟩)
theorem lk_gS (ps : Shx) (k : Int) : lk (gS ps) k = lk (gat [] ps) k := (gS_isS ps).lk k
theorem gat_val {f ps : Shx} (h0 : ∀ k, Fr (lk f k)) (h : ∀ a ∈ ps, Fr a.2) (k : Int) : Fr (lk (gat f ps) k) ∧ val (lk (gat f ps) k) = vf f k + vfp ps k := by
  rw [lk_gat]
  have q := val_fold k ps (lk f k) (h0 k) h
  exact ⟨q.1, q.2⟩
theorem lk_nil (k : Int) : lk [] k = (0, 1) := rfl
theorem gat_val0 {ps : Shx} (h : ∀ a ∈ ps, Fr a.2) (k : Int) : Fr (lk (gat [] ps) k) ∧ val (lk (gat [] ps) k) = vfp ps k := by
  have q := gat_val (f := []) (fun k => by rw [lk_nil]; exact fr01) h k
  rw [vf_nil] at q
  exact ⟨q.1, by rw [q.2]; grind⟩
theorem vf_gS {ps : Shx} (h : ∀ a ∈ ps, Fr a.2) (k : Int) : vf (gS ps) k = vfp ps k := by
  unfold vf
  rw [lk_gS]
  exact (gat_val0 h k).2
theorem gS_asc (ps : Shx) : ((gS ps).map (·.1)).Pairwise (· < ·) := (gS_isS ps).1
theorem gS_nd (ps : Shx) : ((gS ps).map (·.1)).Nodup := (gS_asc ps).imp fun e => Int.ne_of_lt e
theorem gS_mem {ps : Shx} (h : ∀ a ∈ ps, Fr a.2) {a : Int × Fx} (ha : a ∈ gS ps) : Fr a.2 ∧ a.2 ≠ (0, 1) ∧ val a.2 = vfp ps a.1 ∧ a.1 ∈ ps.map (·.1) := by
  obtain ⟨k, x⟩ := a
  obtain ⟨e, ne⟩ := ((gS_isS ps).2 k x).mp ha
  have q := gat_val0 h k
  rw [e] at q
  refine ⟨q.1, ne, q.2, ?_⟩
  by_cases c : k ∈ ps.map (·.1)
  · exact c
  · exfalso
    refine ne (val_zero q.1 ?_)
    rw [q.2]
    exact vfp_none c
theorem gS_has {ps : Shx} (h : ∀ a ∈ ps, Fr a.2) {k : Int} (hk : vfp ps k ≠ 0) : k ∈ (gS ps).map (·.1) := by
  have q := gat_val0 h k
  refine List.mem_map.mpr ⟨(k, lk (gat [] ps) k), ((gS_isS ps).2 k _).mpr ⟨rfl, fun z => hk ?_⟩, rfl⟩
  rw [← q.2, z]
  exact val01
/-- whatever has these weights is it -/
theorem gS_uniq {ps r : Shx} (h : ∀ a ∈ ps, Fr a.2) (as : (r.map (·.1)).Pairwise (· < ·)) (fr : ∀ a ∈ r, Fr a.2 ∧ a.2 ≠ (0, 1)) (e : ∀ k, vf r k = vfp ps k) : r = gS ps := by
  have nd : (r.map (·.1)).Nodup := as.imp fun e => Int.ne_of_lt e
  have frk : ∀ k, Fr (lk r k) := fun k => by
    by_cases c : lk r k = (0, 1)
    · rw [c]; exact fr01
    · obtain ⟨a, ha, ek⟩ := List.mem_map.mp (lk_mem c)
      obtain ⟨j, x⟩ := a
      have ek2 : j = k := ek
      subst ek2
      rw [lk_of_mem nd ha]
      exact (fr _ ha).1
  have el : ∀ k, lk r k = lk (gat [] ps) k := fun k => val_inj (frk k) (gat_val0 h k).1 (by rw [(gat_val0 h k).2, ← e k]; rfl)
  have is : IsS r r := ⟨as, fun k x => ⟨fun hm => ⟨lk_of_mem nd hm, (fr _ hm).2⟩, fun ⟨e1, e2⟩ => by
    obtain ⟨a, ha, ek⟩ := List.mem_map.mp (lk_mem (f := r) (k := k) (by rw [e1]; exact e2))
    obtain ⟨j, y⟩ := a
    have ek2 : j = k := ek
    subst ek2
    have := lk_of_mem nd ha
    rw [e1] at this
    rw [this]
    exact ha⟩⟩
  exact is.uniq (gS_isS ps) el
theorem shr_self {xs : Shx} (h : Shr xs) : gS xs = xs := (gS_uniq (fun a ha => (h.2.1 a ha).2.2.1) h.2.2 (fun a ha => ⟨(h.2.1 a ha).2.2.1, fun z => by have := (h.2.1 a ha).2.2.2; rw [z] at this; exact absurd this (by decide)⟩) fun k => (vfp_nodup h.kys.nd k).symm).symm
/-- when what is gathered is a share -/
theorem gS_shr {ps : Shx} (h : ∀ a ∈ ps, Fr a.2 ∧ -100 ≤ a.1 ∧ a.1 ≤ 100) (nn : ∀ k, 0 ≤ vfp ps k) : Shr (gS ps) ↔ (gS ps).length ≤ 8 := by
  have fr : ∀ a ∈ ps, Fr a.2 := fun a ha => (h a ha).1
  refine ⟨fun s => s.1, fun l => ⟨l, fun a ha => ?_, gS_asc ps⟩⟩
  obtain ⟨f, ne, ev, mk⟩ := gS_mem fr ha
  obtain ⟨b, hb, eb⟩ := List.mem_map.mp mk
  have r := (h b hb).2
  rw [eb] at r
  refine ⟨r.1, r.2, f, ?_⟩
  have p : 0 ≤ val a.2 := by rw [ev]; exact nn a.1
  have p1 := (val_nonneg f).mp p
  rcases Int.lt_or_eq_of_le p1 with q | q
  · exact q
  · exact absurd (fr_zero f q.symm) ne
end CS
set_option Elab.async false
set_option maxRecDepth 100000
set_option maxHeartbeats 4000000
set_option linter.unusedVariables false
/-! the share of a mix, its sizes -/
namespace CS
open Cu
/-- what a word makes of its parts' shares -/
def Mx.md : Mx → Shx → Shx → Option Shx
  | .point_ m a b, _, _ => some [(m, low a b)]
  | .none_, _, _ => some []
  | .mixed_ _ _, xs, ys => some (gS (xs ++ ys))
  | .moved_ _ n, xs, _ => some (mvd n xs)
  | .scaled_ _ a b, xs, _ => some (tms (low a b) xs)
  | .spread_ _ m l h, xs, _ => some (gS (xs ++ sprM xs m l h))
  | .drawn_ _ l h, xs, _ => if innM xs l h = [] then some xs else if (meanM xs l h).2 = 1 then some (gS (outM xs l h ++ [((meanM xs l h).1, ftot (innM xs l h))])) else none
def resM (o : Option Shx) (p : List Int) : Sum Shx (List Int) := match o with
  | some zs => if Shr zs then .inl zs else .inr p
  | none => .inr p
/-- a mix's share, or the path of the first part that has none -/
def Mx.sh : Mx → List Int → Sum Shx (List Int)
  | .mixed_ s t, p => match s.sh (p ++ [1]) with
    | .inr f => .inr f
    | .inl xs => match t.sh (p ++ [2]) with
      | .inr f => .inr f
      | .inl ys => resM (Mx.md (.mixed_ s t) xs ys) p
  | .moved_ s n, p => match s.sh (p ++ [1]) with
    | .inr f => .inr f
    | .inl xs => resM (Mx.md (.moved_ s n) xs []) p
  | .scaled_ s a b, p => match s.sh (p ++ [1]) with
    | .inr f => .inr f
    | .inl xs => resM (Mx.md (.scaled_ s a b) xs []) p
  | .spread_ s m l h, p => match s.sh (p ++ [1]) with
    | .inr f => .inr f
    | .inl xs => resM (Mx.md (.spread_ s m l h) xs []) p
  | .drawn_ s l h, p => match s.sh (p ++ [1]) with
    | .inr f => .inr f
    | .inl xs => resM (Mx.md (.drawn_ s l h) xs []) p
  | t, p => resM (t.md [] []) p
theorem resM_inl {o : Option Shx} {p : List Int} {zs : Shx} (h : resM o p = .inl zs) : o = some zs ∧ Shr zs := by
  cases o with
  | none => cases h
  | some ys =>
    simp only [resM] at h
    split at h
    · next c =>
      cases h
      exact ⟨rfl, c⟩
    · cases h
theorem Mx.sh_shr : ∀ {t : Mx} {p : List Int} {zs : Shx}, t.sh p = .inl zs → Shr zs := by
  intro t p zs h
  cases t with
  | point_ m a b => exact (resM_inl h).2
  | none_ => exact (resM_inl h).2
  | mixed_ s t =>
    simp only [Mx.sh] at h
    split at h
    · cases h
    · split at h
      · cases h
      · exact (resM_inl h).2
  | moved_ s n =>
    simp only [Mx.sh] at h
    split at h
    · cases h
    · exact (resM_inl h).2
  | scaled_ s a b =>
    simp only [Mx.sh] at h
    split at h
    · cases h
    · exact (resM_inl h).2
  | spread_ s m l k =>
    simp only [Mx.sh] at h
    split at h
    · cases h
    · exact (resM_inl h).2
  | drawn_ s l k =>
    simp only [Mx.sh] at h
    split at h
    · cases h
    · exact (resM_inl h).2
/-! sizes -/
def BdL (D M : Nat) (xs : Shx) : Prop := ∀ a ∈ xs, Bd D M a.2
theorem BdL.up {D M N : Nat} {xs : Shx} (h : BdL D M xs) (l : M ≤ N) : BdL D N xs := fun a ha => (h a ha).up l
theorem BdL.times {D M : Nat} {xs : Shx} (h : BdL D M xs) (k : Nat) : BdL (D * k) M xs := fun a ha => (h a ha).times k
theorem BdL.app {D M : Nat} {xs ys : Shx} (h : BdL D M xs) (g : BdL D M ys) : BdL D M (xs ++ ys) := fun a ha => (List.mem_append.mp ha).elim (h a) (g a)
theorem BdL.fr {D M : Nat} {xs : Shx} (h : BdL D M xs) : ∀ a ∈ xs, Fr a.2 := fun a ha => (h a ha).1
theorem BdL.lk {D M : Nat} {xs : Shx} (h : BdL D M xs) (k : Int) : Bd D M (lk xs k) := by
  by_cases c : CS.lk xs k = (0, 1)
  · rw [c]
    exact bd01 D M
  · induction xs with
    | nil => exact absurd rfl c
    | cons a xs ih =>
      obtain ⟨j, y⟩ := a
      rw [lk_cons] at c ⊢
      by_cases q : k = j
      · rw [if_pos q]
        exact h (j, y) List.mem_cons_self
      · rw [if_neg q] at c ⊢
        exact ih (fun b hb => h b (List.mem_cons_of_mem _ hb)) c
theorem BdL.gS {D M n : Nat} {ps : Shx} (h : BdL D M ps) (l : ps.length ≤ n) : BdL D (n * M) (CS.gS ps) := fun a ha => by
  obtain ⟨k, x⟩ := a
  obtain ⟨e, _⟩ := ((gS_isS ps).2 k x).mp ha
  have q := cfold_bd k ps (0, 1) 0 (bd01 D 0) h
  rw [lk_gat, lk_nil] at e
  rw [e] at q
  exact q.up (by rw [Nat.zero_add]; exact Nat.mul_le_mul_right M l)
theorem lk_gat_nd {ps : Shx} (nd : (ps.map (·.1)).Nodup) (h : ∀ a ∈ ps, Fr a.2) (k : Int) : lk (gat [] ps) k = lk ps k := by
  rw [lk_gat, lk_nil, fold_nodup ps k (0, 1) fr01 nd]
  by_cases c : lk ps k = (0, 1)
  · rw [c]
    rfl
  · obtain ⟨a, ha, ek⟩ := List.mem_map.mp (lk_mem c)
    obtain ⟨j, x⟩ := a
    have ek2 : j = k := ek
    subst ek2
    rw [lk_of_mem nd ha]
    exact zero_fadd (h _ ha)
theorem BdL.gSn {D M : Nat} {ps : Shx} (h : BdL D M ps) (nd : (ps.map (·.1)).Nodup) : BdL D M (CS.gS ps) := fun a ha => by
  obtain ⟨k, x⟩ := a
  obtain ⟨e, _⟩ := ((gS_isS ps).2 k x).mp ha
  rw [lk_gat_nd nd h.fr] at e
  show Bd D M x
  rw [← e]
  exact h.lk k
theorem Bd.part {D M k : Nat} {x : Fx} {a b : Int} (hx : Bd D M x) (hb : 0 < b) (ha : a.natAbs ≤ k * b.natAbs) : Bd (D * b.toNat) (M * k) (fmul x (low a b)) := by
  obtain ⟨fx, N, e, l⟩ := hx
  have c := low_cross (t := a) (b := b) (by omega)
  have fy := low_fr (t := a) (b := b) (by omega)
  have bt : ((b.toNat : Nat) : Int) = b := Int.toNat_of_nonneg (by omega)
  refine bd_low (Int.mul_ne_zero fx.ne fy.ne) (N := N * a) ?_ ?_
  · rw [Int.natCast_mul, bt]
    generalize (low a b).1 = y1 at *
    generalize (low a b).2 = y2 at *
    have e1 : x.1 * y1 * ((D : Int) * b) = (x.1 * (D : Int)) * (y1 * b) := by grind
    rw [e1, e, c]
    grind
  · rw [Int.natAbs_mul]
    have h1 : N.natAbs * a.natAbs ≤ (M * D) * (k * b.natAbs) := Nat.mul_le_mul l ha
    have h2 : b.natAbs = b.toNat := by omega
    rw [h2] at h1
    refine Nat.le_trans h1 (Nat.le_of_eq ?_)
    grind
/-- mixes of small numbers -/
def Mx.tiny : Mx → Prop
  | .point_ _ a b => a ≤ 8 ∧ b ≤ 8
  | .none_ => True
  | .mixed_ s t => s.tiny ∧ t.tiny
  | .moved_ s _ => s.tiny
  | .scaled_ s a b => s.tiny ∧ a ≤ 8 ∧ b ≤ 8
  | .spread_ s _ _ _ => s.tiny
  | .drawn_ s _ _ => s.tiny
def Mx.dB : Mx → Nat
  | .point_ .. => 3 | .none_ => 0 | .mixed_ s t => s.dB + t.dB | .moved_ s _ => s.dB | .scaled_ s .. => s.dB + 3 | .spread_ s .. => s.dB + 8 | .drawn_ s .. => s.dB
def Mx.vB : Mx → Nat
  | .point_ .. => 3 | .none_ => 0 | .mixed_ s t => max s.vB t.vB + 4 | .moved_ s _ => s.vB | .scaled_ s .. => s.vB + 3 | .spread_ s .. => s.vB + 4 | .drawn_ s .. => s.vB + 3
def SzM (d v : Nat) (xs : Shx) : Prop := ∃ D : Nat, 0 < D ∧ D ≤ 2 ^ d ∧ BdL D (2 ^ v) xs
theorem SzM.all {d v n : Nat} {xs : Shx} (h : SzM d v xs) (l : d + v + 1 ≤ n) : AllF n xs := by
  obtain ⟨D, d0, d1, b⟩ := h
  exact fun a ha => ⟨(b a ha).1, (b a ha).sz d0 (d := d + 1) (Nat.lt_of_le_of_lt d1 (Nat.pow_lt_pow_right (by decide) (by omega))) (Nat.le_refl _) (by omega)⟩
theorem SzM.mixed {d e v u : Nat} {xs ys : Shx} (h : SzM d v xs) (g : SzM e u ys) (lx : xs.length ≤ 8) (ly : ys.length ≤ 8) : SzM (d + e) (max v u) (xs ++ ys) ∧ SzM (d + e) (max v u + 4) (gS (xs ++ ys)) := by
  obtain ⟨D, d0, d1, b⟩ := h
  obtain ⟨E, e0, e1, c⟩ := g
  have b2 : BdL (D * E) (2 ^ max v u) xs := (b.times E).up (Nat.pow_le_pow_right (by decide) (Nat.le_max_left _ _))
  have c2 : BdL (D * E) (2 ^ max v u) ys := by rw [Nat.mul_comm]; exact (c.times D).up (Nat.pow_le_pow_right (by decide) (Nat.le_max_right _ _))
  have sz : D * E ≤ 2 ^ (d + e) := by rw [Nat.pow_add]; exact Nat.mul_le_mul d1 e1
  refine ⟨⟨D * E, Nat.mul_pos d0 e0, sz, b2.app c2⟩, D * E, Nat.mul_pos d0 e0, sz, ?_⟩
  have q := (b2.app c2).gS (n := 16) (by rw [List.length_append]; omega)
  rw [Nat.pow_add, Nat.mul_comm (2 ^ max v u)]
  exact q
theorem SzM.sprd {d v : Nat} {xs : Shx} {m l h : Int} (g : SzM d v xs) (h1 : l < m) (h2 : m < h) (h3 : -100 ≤ l) (h4 : h ≤ 100) (l8 : xs.length ≤ 8) : SzM (d + 8) v (xs ++ sprM xs m l h) ∧ SzM (d + 8) (v + 4) (gS (xs ++ sprM xs m l h)) := by
  obtain ⟨D, d0, d1, b⟩ := g
  have bw := b.lk m
  have pos : 0 < h - l := by omega
  have b1 : Bd (D * (h - l).toNat) (2 ^ v) (fmul (lk xs m) (low (h - m) (h - l))) := by
    have := bw.part (a := h - m) (b := h - l) (k := 1) pos (by omega)
    rw [Nat.mul_one] at this
    exact this
  have b2 : Bd (D * (h - l).toNat) (2 ^ v) (fmul (lk xs m) (low (m - l) (h - l))) := by
    have := bw.part (a := m - l) (b := h - l) (k := 1) pos (by omega)
    rw [Nat.mul_one] at this
    exact this
  have b3 : Bd (D * (h - l).toNat) (2 ^ v) (scl (lk xs m) (-1)) := ((bw.times _).scl (-1) (m := 1) (by decide)).up (by omega)
  have all : BdL (D * (h - l).toNat) (2 ^ v) (xs ++ sprM xs m l h) := (b.times _).app fun a ha => by
    simp only [sprM, List.mem_cons, List.not_mem_nil, or_false] at ha
    rcases ha with rfl | rfl | rfl
    · exact b3
    · exact b1
    · exact b2
  have p0 : 0 < D * (h - l).toNat := Nat.mul_pos d0 (by omega)
  have sz : D * (h - l).toNat ≤ 2 ^ (d + 8) := by
    rw [Nat.pow_add]
    exact Nat.mul_le_mul d1 (by omega)
  refine ⟨⟨_, p0, sz, all⟩, _, p0, sz, ?_⟩
  have q := all.gS (n := 16) (by rw [List.length_append]; show _ + 3 ≤ 16; omega)
  rw [Nat.pow_add, Nat.mul_comm (2 ^ v)]
  exact q
theorem SzM.moved {d v : Nat} {xs : Shx} (n : Int) (g : SzM d v xs) : SzM d v (mvd n xs) := by
  obtain ⟨D, d0, d1, b⟩ := g
  refine ⟨D, d0, d1, fun a ha => ?_⟩
  obtain ⟨c, hc, rfl⟩ := List.mem_map.mp ha
  exact b c hc
theorem SzM.scaled {d v : Nat} {xs : Shx} {a b : Int} (g : SzM d v xs) (a1 : 1 ≤ a) (a8 : a ≤ 8) (b1 : 1 ≤ b) (b8 : b ≤ 8) : SzM (d + 3) (v + 3) (tms (low a b) xs) := by
  obtain ⟨D, d0, d1, h⟩ := g
  refine ⟨D * b.toNat, Nat.mul_pos d0 (by omega), ?_, fun c hc => ?_⟩
  · rw [Nat.pow_add]
    exact Nat.mul_le_mul d1 (by omega)
  · obtain ⟨e, he, rfl⟩ := List.mem_map.mp hc
    have := (h e he).part (a := a) (b := b) (k := 8) (by omega) (by omega)
    rw [Nat.pow_add]
    exact this
theorem SzM.sub {d v : Nat} {xs ys : Shx} (g : SzM d v xs) (h : ∀ a ∈ ys, a ∈ xs) : SzM d v ys := let ⟨D, d0, d1, b⟩ := g; ⟨D, d0, d1, fun a ha => b a (h a ha)⟩
end CS
set_option Elab.async false
set_option maxRecDepth 100000
set_option maxHeartbeats 4000000
set_option linter.unusedVariables false
/-! weights drawn together; the sizes of a mix's share -/
namespace CS
open Cu
def totR (ps : Shx) : Rat := (ps.map fun a => val a.2).sum
def momR (ps : Shx) : Rat := (ps.map fun a => val a.2 * (a.1 : Rat)).sum
theorem totR_cons (a : Int × Fx) (ps : Shx) : totR (a :: ps) = val a.2 + totR ps := by unfold totR; rw [List.map_cons, List.sum_cons]
theorem momR_cons (a : Int × Fx) (ps : Shx) : momR (a :: ps) = val a.2 * (a.1 : Rat) + momR ps := by unfold momR; rw [List.map_cons, List.sum_cons]
theorem ftot_valL {ps : Shx} (h : ∀ a ∈ ps, Fr a.2) : Fr (ftot ps) ∧ val (ftot ps) = totR ps := by
  have f : ∀ x ∈ ps.map (·.2), Fr x := fun x hx => by
    obtain ⟨a, ha, rfl⟩ := List.mem_map.mp hx
    exact h a ha
  refine ⟨fsum_fr f, ?_⟩
  unfold ftot totR
  rw [val_fsum f, List.map_map]
  rfl
theorem fmom_valL {ps : Shx} (h : ∀ a ∈ ps, Fr a.2) : Fr (fmom ps) ∧ val (fmom ps) = momR ps := by
  have f : ∀ x ∈ ps.map (fun a => scl a.2 a.1), Fr x := fun x hx => by
    obtain ⟨a, ha, rfl⟩ := List.mem_map.mp hx
    exact scl_fr (h a ha) _
  refine ⟨fsum_fr f, ?_⟩
  unfold fmom momR
  rw [val_fsum f, List.map_map]
  congr 1
  exact List.map_congr_left fun a ha => val_scl (h a ha) a.1
theorem tot_nn : ∀ {ps : Shx}, (∀ a ∈ ps, 0 ≤ val a.2) → 0 ≤ totR ps
  | [], _ => by unfold totR; simp
  | a :: ps, h => by
    have h1 := h a List.mem_cons_self
    have h2 := tot_nn (ps := ps) fun b hb => h b (List.mem_cons_of_mem _ hb)
    rw [totR_cons]
    grind
theorem tot_ge {ps : Shx} (h : ∀ a ∈ ps, 0 ≤ val a.2) {b : Int × Fx} (hb : b ∈ ps) : val b.2 ≤ totR ps := by
  induction ps with
  | nil => cases hb
  | cons a ps ih =>
    have h1 := h a List.mem_cons_self
    have h2 := tot_nn (ps := ps) fun b hb => h b (List.mem_cons_of_mem _ hb)
    rw [totR_cons]
    rcases List.mem_cons.mp hb with rfl | hb
    · grind
    · have := ih (fun c hc => h c (List.mem_cons_of_mem _ hc)) hb
      grind
theorem mom_between {l u : Int} : ∀ {ps : Shx}, (∀ a ∈ ps, 0 ≤ val a.2 ∧ l ≤ a.1 ∧ a.1 ≤ u) → (l : Rat) * totR ps ≤ momR ps ∧ momR ps ≤ (u : Rat) * totR ps
  | [], _ => by unfold totR momR; simp
  | a :: ps, h => by
    obtain ⟨h0, h1, h2⟩ := h a List.mem_cons_self
    have ih := mom_between (l := l) (u := u) (ps := ps) fun b hb => h b (List.mem_cons_of_mem _ hb)
    have g1 : (l : Rat) ≤ (a.1 : Rat) := Rat.intCast_le_intCast.mpr h1
    have g2 : (a.1 : Rat) ≤ (u : Rat) := Rat.intCast_le_intCast.mpr h2
    have m1 := Rat.mul_nonneg h0 (show (0 : Rat) ≤ (a.1 : Rat) - (l : Rat) by grind)
    have m2 := Rat.mul_nonneg h0 (show (0 : Rat) ≤ (u : Rat) - (a.1 : Rat) by grind)
    rw [totR_cons, momR_cons]
    constructor <;> grind
theorem fold_bdL {D M n : Nat} {ps : Shx} (h : BdL D M ps) (l : ps.length ≤ n) : Bd D (n * M) (ftot ps) := by
  have q := fold_bd (ps.map (·.2)) (0, 1) 0 (bd01 D 0) fun x hx => by
    obtain ⟨a, ha, rfl⟩ := List.mem_map.mp hx
    exact h a ha
  rw [List.length_map, Nat.zero_add] at q
  exact q.up (Nat.mul_le_mul_right M l)
theorem mom_bdL {D M n : Nat} {ps : Shx} (h : BdL D M ps) (k : ∀ a ∈ ps, a.1.natAbs ≤ 100) (l : ps.length ≤ n) : Bd D (n * (M * 100)) (fmom ps) := by
  have q := fold_bd (ps.map fun a => scl a.2 a.1) (0, 1) 0 (bd01 D 0) (M := M * 100) fun x hx => by
    obtain ⟨a, ha, rfl⟩ := List.mem_map.mp hx
    exact (h a ha).scl a.1 (k a ha)
  rw [List.length_map, Nat.zero_add] at q
  exact q.up (Nat.mul_le_mul_right _ l)
theorem mem_inn {xs : Shx} {l h : Int} {a : Int × Fx} : a ∈ innM xs l h ↔ a ∈ xs ∧ l ≤ a.1 ∧ a.1 ≤ h := by
  unfold innM
  rw [List.mem_filter, decide_eq_true_eq]
theorem mem_out {xs : Shx} {l h : Int} {a : Int × Fx} : a ∈ outM xs l h ↔ a ∈ xs ∧ (a.1 < l ∨ h < a.1) := by
  unfold outM
  rw [List.mem_filter, decide_eq_true_eq]
theorem inn_out_len : ∀ (xs : Shx) (l h : Int), (innM xs l h).length + (outM xs l h).length = xs.length
  | [], _, _ => rfl
  | a :: xs, l, h => by
    have ih := inn_out_len xs l h
    unfold innM outM at *
    by_cases c : l ≤ a.1 ∧ a.1 ≤ h
    · rw [List.filter_cons_of_pos (by exact decide_eq_true c), List.filter_cons_of_neg (by rw [decide_eq_true_eq]; omega), List.length_cons, List.length_cons]
      omega
    · rw [List.filter_cons_of_neg (by rw [decide_eq_true_eq]; exact c), List.filter_cons_of_pos (by exact decide_eq_true (by omega)), List.length_cons, List.length_cons]
      omega
/-- what is known of the weights between -/
structure InnOk (xs : Shx) (l h : Int) : Prop where
  ft : Fr (ftot (innM xs l h))
  fm : Fr (fmom (innM xs l h))
  tv : val (ftot (innM xs l h)) = totR (innM xs l h)
  mv : val (fmom (innM xs l h)) = momR (innM xs l h)
  tp : 0 < totR (innM xs l h)
  t1 : 0 < (ftot (innM xs l h)).1
  len : (outM xs l h).length ≤ 7
theorem innOk_of {xs : Shx} {l h : Int} (s : Shr xs) (ne : innM xs l h ≠ []) : InnOk xs l h := by
  have fr : ∀ a ∈ innM xs l h, Fr a.2 := fun a ha => (s.2.1 a (mem_inn.mp ha).1).2.2.1
  have vp : ∀ a ∈ innM xs l h, 0 < val a.2 := fun a ha => (val_pos (fr a ha)).mpr (s.2.1 a (mem_inn.mp ha).1).2.2.2
  obtain ⟨ft, tv⟩ := ftot_valL fr
  obtain ⟨fm, mv⟩ := fmom_valL fr
  obtain ⟨b, hb⟩ := List.exists_mem_of_ne_nil _ ne
  have tp : 0 < totR (innM xs l h) := by
    have h1 := tot_ge (fun a ha => Rat.le_of_lt (vp a ha)) hb
    have h2 := vp b hb
    grind
  have tl := inn_out_len xs l h
  have l8 := s.1
  have l1 : 0 < (innM xs l h).length := List.length_pos_iff.mpr ne
  exact ⟨ft, fm, tv, mv, tp, (val_pos ft).mp (by rw [tv]; exact tp), by omega⟩
theorem InnOk.mean {xs : Shx} {l h : Int} (k : InnOk xs l h) (s : Shr xs) : Fr (meanM xs l h) ∧ val (meanM xs l h) * totR (innM xs l h) = momR (innM xs l h) ∧ ((meanM xs l h).2 = 1 → l ≤ (meanM xs l h).1 ∧ (meanM xs l h).1 ≤ h ∧ val (meanM xs l h) = ((meanM xs l h).1 : Rat)) := by
  have n1 : (ftot (innM xs l h)).1 ≠ 0 := by have := k.t1; omega
  have fr : Fr (meanM xs l h) := fdiv_fr k.fm n1
  have e : val (meanM xs l h) * totR (innM xs l h) = momR (innM xs l h) := by
    have q := fmul_fdiv k.fm k.ft n1
    have q2 := congrArg val q
    rw [val_mul (fdiv_fr k.fm n1) k.ft, k.tv, k.mv] at q2
    exact q2
  refine ⟨fr, e, fun one => ?_⟩
  have ev : val (meanM xs l h) = ((meanM xs l h).1 : Rat) := by
    have := val_top fr
    rw [one] at this
    grind
  have bt := mom_between (l := l) (u := h) (ps := innM xs l h) fun a ha => by
    have z := mem_inn.mp ha
    exact ⟨(val_nonneg (s.2.1 a z.1).2.2.1).mpr (Int.le_of_lt (s.2.1 a z.1).2.2.2), z.2⟩
  rw [← e, ev] at bt
  have tp := k.tp
  refine ⟨?_, ?_, ev⟩
  · by_cases c : l ≤ (meanM xs l h).1
    · exact c
    · exfalso
      have c2 : ((meanM xs l h).1 : Rat) < (l : Rat) := Rat.intCast_lt_intCast.mpr (by omega)
      have := Rat.mul_pos (show (0 : Rat) < (l : Rat) - ((meanM xs l h).1 : Rat) by grind) tp
      grind
  · by_cases c : (meanM xs l h).1 ≤ h
    · exact c
    · exfalso
      have c2 : (h : Rat) < ((meanM xs l h).1 : Rat) := Rat.intCast_lt_intCast.mpr (by omega)
      have := Rat.mul_pos (show (0 : Rat) < ((meanM xs l h).1 : Rat) - (h : Rat) by grind) tp
      grind
/-- what is put together where weights are drawn -/
abbrev drwL (xs : Shx) (l h : Int) : Shx := outM xs l h ++ [((meanM xs l h).1, ftot (innM xs l h))]
theorem drw_nd {xs : Shx} {l h : Int} (s : Shr xs) (k : InnOk xs l h) (one : (meanM xs l h).2 = 1) : ((drwL xs l h).map (·.1)).Nodup := by
  have m := (k.mean s).2.2 one
  rw [List.map_append]
  refine List.nodup_append.mpr ⟨?_, by simp, ?_⟩
  · exact (s.kys.nd).sublist (List.Sublist.map _ List.filter_sublist)
  · intro a ha b hb e
    obtain ⟨c, hc, rfl⟩ := List.mem_map.mp ha
    have z := (mem_out.mp hc).2
    simp only [List.map_cons, List.map_nil, List.mem_cons, List.not_mem_nil, or_false] at hb
    omega
theorem drw_fr {xs : Shx} {l h : Int} (s : Shr xs) (k : InnOk xs l h) : ∀ a ∈ drwL xs l h, Fr a.2 ∧ 0 < a.2.1 := fun a ha => by
  rcases List.mem_append.mp ha with z | z
  · have q := s.2.1 a (mem_out.mp z).1
    exact ⟨q.2.2.1, q.2.2.2⟩
  · rw [List.mem_singleton] at z
    subst z
    exact ⟨k.ft, k.t1⟩
theorem SzM.drawn {d v : Nat} {xs : Shx} {l h : Int} (g : SzM d v xs) (s : Shr xs) (k : InnOk xs l h) : SzM d (v + 3) (drwL xs l h) ∧ Sz (d + v + 4) (ftot (innM xs l h)) ∧ Sz (d + v + 11) (fmom (innM xs l h)) := by
  obtain ⟨D, d0, d1, b⟩ := g
  have l8 := s.1
  have li : (innM xs l h).length ≤ 8 := Nat.le_trans (List.length_filter_le _ _) l8
  have bi : BdL D (2 ^ v) (innM xs l h) := fun a ha => b a (mem_inn.mp ha).1
  have bt := fold_bdL bi li
  have bm := mom_bdL bi (fun a ha => by have := s.2.1 a (mem_inn.mp ha).1; omega) li
  have e8 : 8 * 2 ^ v = 2 ^ (v + 3) := by rw [Nat.pow_add, Nat.mul_comm]
  rw [e8] at bt
  have dl : D < 2 ^ (d + 1) := Nat.lt_of_le_of_lt d1 (Nat.pow_lt_pow_right (by decide) (by omega))
  refine ⟨⟨D, d0, d1, BdL.app (fun a ha => (b a (mem_out.mp ha).1).up (Nat.pow_le_pow_right (by decide) (by omega))) fun a ha => ?_⟩, bt.sz d0 dl (Nat.le_refl _) (by omega), bm.sz d0 dl (m := v + 10) ?_ (by omega)⟩
  · rw [List.mem_singleton] at ha
    subst ha
    exact bt
  · rw [show 8 * (2 ^ v * 100) = 2 ^ v * 800 by omega, Nat.pow_add]
    exact Nat.mul_le_mul_left _ (by decide)
theorem SzM.gSn {d v : Nat} {ps : Shx} (g : SzM d v ps) (nd : (ps.map (·.1)).Nodup) : SzM d v (CS.gS ps) := let ⟨D, d0, d1, b⟩ := g; ⟨D, d0, d1, b.gSn nd⟩
theorem SzM.up {d v e u : Nat} {xs : Shx} (g : SzM d v xs) (h1 : d ≤ e) (h2 : v ≤ u) : SzM e u xs := let ⟨D, d0, d1, b⟩ := g; ⟨D, d0, Nat.le_trans d1 (Nat.pow_le_pow_right (by decide) h1), b.up (Nat.pow_le_pow_right (by decide) h2)⟩
/-- the sizes of a mix's share -/
theorem Mx.sh_sz : ∀ {t : Mx} {p : List Int} {zs : Shx}, t.Ok → t.tiny → t.sh p = .inl zs → SzM t.dB t.vB zs := by
  intro t
  induction t with
  | point_ m a b =>
    intro p zs ok ti h
    obtain ⟨e, s⟩ := resM_inl h
    simp only [Mx.md, Option.some.injEq] at e
    subst e
    obtain ⟨_, a1, b1⟩ := ok
    obtain ⟨a8, b8⟩ := ti
    simp only [okA] at a1 b1
    refine ⟨b.toNat, by omega, by show b.toNat ≤ 8; omega, fun c hc => ?_⟩
    rw [List.mem_singleton] at hc
    subst hc
    have bt : ((b.toNat : Nat) : Int) = b := Int.toNat_of_nonneg (by omega)
    refine bd_low (by omega) (N := a) (by rw [bt]) ?_
    show a.natAbs ≤ 8 * b.toNat
    omega
  | none_ =>
    intro p zs ok ti h
    obtain ⟨e, s⟩ := resM_inl h
    simp only [Mx.md, Option.some.injEq] at e
    subst e
    exact ⟨1, by decide, by decide, fun c hc => nomatch hc⟩
  | mixed_ s t ihs iht =>
    intro p zs ok ti h
    simp only [Mx.sh] at h
    split at h
    · cases h
    · next xs hx =>
      split at h
      · cases h
      · next ys hy =>
        obtain ⟨e, _⟩ := resM_inl h
        simp only [Mx.md, Option.some.injEq] at e
        subst e
        exact ((ihs ok.1 ti.1 hx).mixed (iht ok.2 ti.2 hy) (Mx.sh_shr hx).1 (Mx.sh_shr hy).1).2
  | moved_ s n ih =>
    intro p zs ok ti h
    simp only [Mx.sh] at h
    split at h
    · cases h
    · next xs hx =>
      obtain ⟨e, _⟩ := resM_inl h
      simp only [Mx.md, Option.some.injEq] at e
      subst e
      exact (ih ok.1 ti hx).moved n
  | scaled_ s a b ih =>
    intro p zs ok ti h
    simp only [Mx.sh] at h
    split at h
    · cases h
    · next xs hx =>
      obtain ⟨e, _⟩ := resM_inl h
      simp only [Mx.md, Option.some.injEq] at e
      subst e
      obtain ⟨o1, a1, b1⟩ := ok
      simp only [okA] at a1 b1
      exact (ih o1 ti.1 hx).scaled a1.1 ti.2.1 b1.1 ti.2.2
  | spread_ s m l k ih =>
    intro p zs ok ti h
    simp only [Mx.sh] at h
    split at h
    · cases h
    · next xs hx =>
      obtain ⟨e, _⟩ := resM_inl h
      simp only [Mx.md, Option.some.injEq] at e
      subst e
      obtain ⟨o1, m1, l1, k1, h1, h2⟩ := ok
      simp only [okX] at m1 l1 k1
      exact ((ih o1 ti hx).sprd h1 h2 l1.1 k1.2 (Mx.sh_shr hx).1).2
  | drawn_ s l k ih =>
    intro p zs ok ti h
    simp only [Mx.sh] at h
    split at h
    · cases h
    · next xs hx =>
      obtain ⟨e, _⟩ := resM_inl h
      have sx := Mx.sh_shr hx
      have g := ih ok.1 ti hx
      simp only [Mx.md] at e
      split at e
      · cases e
        exact g.up (Nat.le_refl _) (by show _ ≤ _ + 3; omega)
      · next ne =>
        split at e
        · next one =>
          cases e
          have io := innOk_of sx ne
          exact ((g.drawn sx io).1).gSn (drw_nd sx io one)
        · cases e
end CS
set_option Elab.async false
set_option maxRecDepth 100000
set_option maxHeartbeats 4000000
set_option linter.unusedVariables false
/-! a mix's share by its parts -/
namespace CS
open PySem PySem.Spec PyProof.Rows L2 Cu
/-- these are the shares of the parts -/
def KidSh (p : List Int) (l : List (Nat × Mx)) (ss : List Shx) : Prop := Paired (fun (kd : Nat × Mx) (xs : Shx) => kd.2.sh (p ++ [(kd.1 : Int)]) = .inl xs) l ss
theorem Mx.sh_all {t : Mx} {p : List Int} {ss : List Shx} (h : KidSh p t.kids ss) : t.sh p = resM (t.md (ss.getD 0 []) (ss.getD 1 [])) p := by
  cases t with
  | point_ m a b => cases h; rfl
  | none_ => cases h; rfl
  | mixed_ s t =>
    cases h with
    | cons a r =>
      cases r with
      | cons b r =>
        cases r
        simp only [Mx.sh]
        have a2 : s.sh (p ++ [1]) = _ := a
        have b2 : t.sh (p ++ [2]) = _ := b
        rw [a2]
        simp only [b2]
        rfl
  | moved_ s n =>
    cases h with
    | cons a r =>
      cases r
      simp only [Mx.sh]
      have a2 : s.sh (p ++ [1]) = _ := a
      rw [a2]
      rfl
  | scaled_ s n m =>
    cases h with
    | cons a r =>
      cases r
      simp only [Mx.sh]
      have a2 : s.sh (p ++ [1]) = _ := a
      rw [a2]
      rfl
  | spread_ s m l k =>
    cases h with
    | cons a r =>
      cases r
      simp only [Mx.sh]
      have a2 : s.sh (p ++ [1]) = _ := a
      rw [a2]
      rfl
  | drawn_ s l k =>
    cases h with
    | cons a r =>
      cases r
      simp only [Mx.sh]
      have a2 : s.sh (p ++ [1]) = _ := a
      rw [a2]
      rfl
theorem Mx.sh_bad {t : Mx} {p f : List Int} {ss : List Shx} {i : Nat} {kd : Nat × Mx} (h : KidSh p (t.kids.take i) ss) (hk : t.kids[i]? = some kd) (e : kd.2.sh (p ++ [(kd.1 : Int)]) = .inr f) : t.sh p = .inr f := by
  cases t with
  | point_ m a b => simp [Mx.kids] at hk
  | none_ => simp [Mx.kids] at hk
  | mixed_ s t =>
    rcases i with _ | _ | i
    · simp only [Mx.kids, List.getElem?_cons_zero, Option.some.injEq] at hk
      subst hk
      have e2 : s.sh (p ++ [1]) = _ := e
      simp only [Mx.sh, e2]
    · simp only [Mx.kids, Nat.zero_add, List.getElem?_cons_succ, List.getElem?_cons_zero, Option.some.injEq] at hk
      subst hk
      cases h with
      | cons a r =>
        have a2 : s.sh (p ++ [1]) = _ := a
        have e2 : t.sh (p ++ [2]) = _ := e
        simp only [Mx.sh, a2, e2]
    · simp [Mx.kids] at hk
  | moved_ s n =>
    rcases i with _ | i
    · simp only [Mx.kids, List.getElem?_cons_zero, Option.some.injEq] at hk
      subst hk
      have e2 : s.sh (p ++ [1]) = _ := e
      simp only [Mx.sh, e2]
    · simp [Mx.kids] at hk
  | scaled_ s n m =>
    rcases i with _ | i
    · simp only [Mx.kids, List.getElem?_cons_zero, Option.some.injEq] at hk
      subst hk
      have e2 : s.sh (p ++ [1]) = _ := e
      simp only [Mx.sh, e2]
    · simp [Mx.kids] at hk
  | spread_ s m l k =>
    rcases i with _ | i
    · simp only [Mx.kids, List.getElem?_cons_zero, Option.some.injEq] at hk
      subst hk
      have e2 : s.sh (p ++ [1]) = _ := e
      simp only [Mx.sh, e2]
    · simp [Mx.kids] at hk
  | drawn_ s l k =>
    rcases i with _ | i
    · simp only [Mx.kids, List.getElem?_cons_zero, Option.some.injEq] at hk
      subst hk
      have e2 : s.sh (p ++ [1]) = _ := e
      simp only [Mx.sh, e2]
    · simp [Mx.kids] at hk
theorem Mx.kid_sz {t : Mx} : ∀ kd ∈ t.kids, kd.2.dB ≤ t.dB ∧ kd.2.vB ≤ t.vB ∧ (t.tiny → kd.2.tiny) ∧ kd.1 ≤ 2 := by
  cases t <;> (intro k hk; simp only [Mx.kids, List.mem_cons, List.not_mem_nil, or_false] at hk)
  all_goals first
    | (rcases hk with rfl | rfl <;> simp only [Mx.dB, Mx.vB, Mx.tiny] <;> refine ⟨by omega, by omega, fun h => ?_, by omega⟩ <;> first | exact h.1 | exact h.2 | exact h)
    | (rcases hk with rfl; simp only [Mx.dB, Mx.vB, Mx.tiny]; refine ⟨by omega, by omega, fun h => ?_, by omega⟩; first | exact h.1 | exact h)
/-- the parts' shares are shares, of these sizes -/
def KidsOk (l : List (Nat × Mx)) (ss : List Shx) : Prop := Paired (fun (kd : Nat × Mx) (xs : Shx) => Shr xs ∧ SzM kd.2.dB kd.2.vB xs) l ss
theorem kidsOk_of {p : List Int} : ∀ {l : List (Nat × Mx)} {ss : List Shx}, KidSh p l ss → (∀ kd ∈ l, kd.2.Ok ∧ kd.2.tiny) → KidsOk l ss
  | _, _, .nil, _ => .nil
  | _, _, .cons a r, h => .cons ⟨Mx.sh_shr a, Mx.sh_sz (h _ List.mem_cons_self).1 (h _ List.mem_cons_self).2 a⟩ (kidsOk_of r fun kd hk => h kd (List.mem_cons_of_mem _ hk))
theorem Paired.snoc2 {α β : Type} {F : α → β → Prop} {a : α} {b : β} (h : F a b) : ∀ {l : List α} {m : List β}, Paired F l m → Paired F (l ++ [a]) (m ++ [b])
  | _, _, .nil => .cons h .nil
  | _, _, .cons r t => .cons r (Paired.snoc2 h t)
theorem gS_len (ps : Shx) : (gS ps).length ≤ ps.length := by
  unfold gS
  rw [List.length_map]
  refine Nat.le_trans (List.length_filter_le _ _) ?_
  rw [List.length_mergeSort, List.length_map]
  have := gat_len ps []
  rw [List.length_nil] at this
  omega
theorem Mx.md_len {t : Mx} {ss : List Shx} {zs : Shx} (h : KidsOk t.kids ss) (e : t.md (ss.getD 0 []) (ss.getD 1 []) = some zs) : zs.length ≤ 16 := by
  cases t with
  | point_ m a b => simp only [Mx.md, Option.some.injEq] at e; subst e; exact Nat.le_of_ble_eq_true rfl
  | none_ => simp only [Mx.md, Option.some.injEq] at e; subst e; decide
  | mixed_ s t =>
    cases h with
    | @cons _ x1 _ _ a r =>
    cases r with
    | @cons _ x2 _ _ b r =>
    cases r
    have e2 : some (gS (x1 ++ x2)) = some zs := e
    cases e2
    have := gS_len (x1 ++ x2)
    rw [List.length_append] at this
    have := a.1.1
    have := b.1.1
    omega
  | moved_ s n =>
    cases h with
    | @cons _ x1 _ _ a r =>
    cases r
    have e2 : some (mvd n x1) = some zs := e
    cases e2
    have := a.1.1
    unfold mvd
    rw [List.length_map]
    omega
  | scaled_ s n m =>
    cases h with
    | @cons _ x1 _ _ a r =>
    cases r
    have e2 : some (tms (low n m) x1) = some zs := e
    cases e2
    have := a.1.1
    unfold tms
    rw [List.length_map]
    omega
  | spread_ s m l k =>
    cases h with
    | @cons _ x1 _ _ a r =>
    cases r
    have e2 : some (gS (x1 ++ sprM x1 m l k)) = some zs := e
    cases e2
    have := gS_len (x1 ++ sprM x1 m l k)
    rw [List.length_append] at this
    have q : (sprM x1 m l k).length = 3 := rfl
    have := a.1.1
    omega
  | drawn_ s l k =>
    cases h with
    | @cons _ x1 _ _ a r =>
    cases r
    have a1 := a.1.1
    have e2 : (if innM x1 l k = [] then some x1 else if (meanM x1 l k).2 = 1 then some (gS (drwL x1 l k)) else none) = some zs := e
    split at e2
    · cases e2
      omega
    · split at e2
      · cases e2
        have := gS_len (drwL x1 l k)
        rw [List.length_append] at this
        have q : (outM x1 l k).length ≤ x1.length := List.length_filter_le _ _
        have q2 : [((meanM x1 l k).1, ftot (innM x1 l k))].length = 1 := rfl
        omega
      · cases e2
end CS
set_option Elab.async false
set_option maxRecDepth 100000
set_option maxHeartbeats 4000000
set_option linter.unusedVariables false
/-! two shares joined: by the law's own dict, by gathering -/
namespace CS
open Cu
theorem gat_keys : ∀ (ys f : Shx) {j : Int}, j ∈ (gat f ys).map (·.1) → j ∈ f.map (·.1) ∨ j ∈ ys.map (·.1)
  | [], f, j, h => .inl h
  | y :: ys, f, j, h => by
    rcases gat_keys ys _ (show j ∈ (gat (ups f y.1 (fadd (lk f y.1) y.2)) ys).map (·.1) from h) with z | z
    · rcases (ups_keys _ _ _ j).mp z with e | e
      · exact .inr (by rw [e]; simp)
      · exact .inl e
    · exact .inr (by rw [List.map_cons]; exact List.mem_cons_of_mem _ z)
theorem Pos.fr {xs : Shx} (h : Pos xs) : ∀ a ∈ xs, Fr a.2 := fun a ha => (h a ha).1
theorem Pos.app {xs ys : Shx} (h : Pos xs) (g : Pos ys) : Pos (xs ++ ys) := fun a ha => (List.mem_append.mp ha).elim (h a) (g a)
theorem Pos.vfp_nn : ∀ {ys : Shx}, Pos ys → ∀ k, 0 ≤ vfp ys k
  | [], _, _ => by rw [vfp_nil]; exact Rat.le_refl
  | y :: ys, h, k => by
    rw [vfp_cons]
    have t := Pos.vfp_nn (ys := ys) (fun a ha => h a (List.mem_cons_of_mem _ ha)) k
    have z := (h y List.mem_cons_self)
    have p := (val_pos z.1).mpr z.2
    split <;> grind
theorem Pos.vfp_pos : ∀ {ys : Shx}, Pos ys → ∀ {k : Int}, k ∈ ys.map (·.1) → 0 < vfp ys k
  | y :: ys, h, k, m => by
    rw [vfp_cons]
    have t := Pos.vfp_nn (ys := ys) (fun a ha => h a (List.mem_cons_of_mem _ ha)) k
    have z := (h y List.mem_cons_self)
    have p := (val_pos z.1).mpr z.2
    by_cases c : k = y.1
    · rw [if_pos c]
      grind
    · rw [if_neg c]
      rw [List.map_cons] at m
      have := Pos.vfp_pos (ys := ys) (fun a ha => h a (List.mem_cons_of_mem _ ha)) ((List.mem_cons.mp m).resolve_left c)
      grind
theorem lk_frM : ∀ {xs : Shx}, (∀ a ∈ xs, Fr a.2) → ∀ k : Int, Fr (lk xs k)
  | [], _, k => fr01
  | b :: t, h, k => by
    by_cases c : k = b.1
    · have e : lk (b :: t) k = b.2 := by
        unfold lk
        rw [List.lookup_cons]
        simp [c]
      rw [e]
      exact h b List.mem_cons_self
    · have e : lk (b :: t) k = lk t k := by
        unfold lk
        rw [List.lookup_cons]
        simp [beq_eq_false_iff_ne.mpr c]
      rw [e]
      exact lk_frM (fun x hx => h x (List.mem_cons_of_mem _ hx)) k
/-- the law's own table of two shares, and its share -/
theorem gat_join {xs ys zs : Shx} (nx : (xs.map (·.1)).Nodup) (hx : Pos xs) (hy : Pos ys) (h : IsS (gat xs ys) zs) : zs = gS (xs ++ ys) ∧ (gat xs ys).length = zs.length := by
  have fx : ∀ k, Fr (lk xs k) := fun k => lk_frM hx.fr k
  have v1 := fun k => gat_val (f := xs) (ps := ys) fx hy.fr k
  have v2 := fun k => gat_val0 (ps := xs ++ ys) (hx.app hy).fr k
  refine ⟨h.uniq (gS_isS (xs ++ ys)) fun k => val_inj (v1 k).1 (v2 k).1 (by rw [(v1 k).2, (v2 k).2, vfp_app, vfp_nodup nx]), ?_⟩
  refine Nat.le_antisymm ?_ h.len
  have := nd_len (r := (gat xs ys).map (·.1)) (q := zs.map (·.1)) (gat_nodup _ _ nx) fun j hj => by
    have nz : lk (gat xs ys) j ≠ (0, 1) := fun z => by
      have e := (v1 j).2
      rw [z, val01] at e
      have p1 := hx.nn j
      have p2 := hy.vfp_nn j
      rcases gat_keys ys xs hj with m | m
      · have := (hx.vf_pos nx (k := j)).mpr m
        grind
      · have := hy.vfp_pos m
        grind
    exact List.mem_map.mpr ⟨(j, _), (h.2 j _).mpr ⟨rfl, nz⟩, rfl⟩
  simpa using this
end CS
set_option Elab.async false
set_option maxRecDepth 100000
set_option maxHeartbeats 4000000
set_option linter.unusedVariables false
/-! the law's own words against the program's: spread, drawn -/
namespace CS
open Cu PySem L2
/-- a share, where what is made is one -/
def okO : Option Shx → Option Shx
  | some zs => if Shr zs then some zs else none
  | none => none
theorem okO_yes {zs : Shx} (h : Shr zs) : okO (some zs) = some zs := if_pos h
theorem okO_no {zs : Shx} (h : ¬ Shr zs) : okO (some zs) = none := if_neg h
theorem resM_okO (o : Option Shx) (p : List Int) : resM o p = match okO o with | some zs => .inl zs | none => .inr p := by
  cases o with
  | none => rfl
  | some zs =>
    unfold resM okO
    by_cases c : Shr zs
    · simp only [if_pos c]
    · simp only [if_neg c]
def joinM (ps : Shx) : Option Shx := if (gS ps).length ≤ 8 then some (gS ps) else none
theorem join_ok {ps : Shx} (h : ∀ a ∈ ps, Fr a.2 ∧ -100 ≤ a.1 ∧ a.1 ≤ 100) (nn : ∀ k, 0 ≤ vfp ps k) : joinM ps = okO (some (gS ps)) := by
  unfold joinM
  by_cases c : (gS ps).length ≤ 8
  · rw [if_pos c, okO_yes ((gS_shr h nn).mpr c)]
  · rw [if_neg c, okO_no fun s => c ((gS_shr h nn).mp s)]
theorem gS_congr {ps qs : Shx} (hp : ∀ a ∈ ps, Fr a.2) (hq : ∀ a ∈ qs, Fr a.2) (h : ∀ k, vfp ps k = vfp qs k) : gS ps = gS qs :=
  (gS_isS ps).uniq (gS_isS qs) fun k => val_inj (gat_val0 hp k).1 (gat_val0 hq k).1 (by rw [(gat_val0 hp k).2, (gat_val0 hq k).2, h])
theorem Shr.fr {xs : Shx} (s : Shr xs) : ∀ a ∈ xs, Fr a.2 := s.pos.fr
theorem Shr.nd {xs : Shx} (s : Shr xs) : (xs.map (·.1)).Nodup := s.kys.nd
/-- without what is at a place -/
def rmv (xs : Shx) (m : Int) : Shx := xs.filter fun a => decide (a.1 ≠ m)
theorem mem_rmv {xs : Shx} {m : Int} {a : Int × Fx} : a ∈ rmv xs m ↔ a ∈ xs ∧ a.1 ≠ m := by
  unfold rmv
  rw [List.mem_filter]
  simp
theorem rmv_nd {xs : Shx} (m : Int) (h : (xs.map (·.1)).Nodup) : ((rmv xs m).map (·.1)).Nodup := h.sublist (List.Sublist.map _ List.filter_sublist)
theorem rmv_asc {xs : Shx} (m : Int) (h : (xs.map (·.1)).Pairwise (· < ·)) : ((rmv xs m).map (·.1)).Pairwise (· < ·) := h.sublist (List.Sublist.map _ List.filter_sublist)
theorem rmv_pos {xs : Shx} (m : Int) (h : Pos xs) : Pos (rmv xs m) := fun a ha => h a (mem_rmv.mp ha).1
theorem vfp_rmv : ∀ (xs : Shx) (m k : Int), vfp (rmv xs m) k = if k = m then 0 else vfp xs k
  | [], m, k => by unfold rmv; simp [vfp_nil]
  | a :: xs, m, k => by
    have t := vfp_rmv xs m k
    unfold rmv at t ⊢
    by_cases c : a.1 = m
    · rw [List.filter_cons_of_neg (by simp [c]), t, vfp_cons]
      by_cases e : k = m
      · rw [if_pos e, if_pos e]
      · rw [if_neg e, if_neg e, if_neg (fun z => e (z.trans c))]
        grind
    · rw [List.filter_cons_of_pos (by simp [c]), vfp_cons, t, vfp_cons]
      by_cases e : k = m
      · rw [if_pos e, if_pos e, if_neg (fun z => c (z.symm.trans e))]
        grind
      · rw [if_neg e, if_neg e]
theorem isS_asc {f : Shx} (as : (f.map (·.1)).Pairwise (· < ·)) (h : Pos f) : IsS f f := by
  have nd : (f.map (·.1)).Nodup := as.imp fun e => Int.ne_of_lt e
  refine ⟨as, fun k x => ⟨fun m => ⟨lk_of_mem nd m, fun z => ?_⟩, fun ⟨e, n⟩ => ?_⟩⟩
  · have := (h _ m).2
    rw [show x = (0, 1) from z] at this
    exact absurd (show (0 : Int) < 0 from this) (by decide)
  · obtain ⟨a, ha, ek⟩ := List.mem_map.mp (lk_mem (f := f) (k := k) (by rw [e]; exact n))
    obtain ⟨j, y⟩ := a
    have ek2 : j = k := ek
    subst ek2
    have := lk_of_mem nd ha
    rw [e] at this
    rw [this]
    exact ha
theorem low_one_sub {m l h : Int} (h1 : l < m) (h2 : m < h) : fsub (1, 1) (low (m - l) (h - l)) = low (h - m) (h - l) := by
  have n : h - l ≠ 0 := by omega
  have f1 : Fr ((1, 1) : Fx) := ⟨by decide, by decide⟩
  have f2 := low_fr (t := m - l) n
  refine val_inj (fsub_fr f1 f2) (low_fr n) ?_
  rw [val_sub f1 f2, val_low n, val_low n]
  have c := cast_ne n
  have e1 : val ((1, 1) : Fx) = 1 := by unfold val; simp; grind
  rw [e1]
  simp only [Rat.intCast_sub] at c ⊢
  grind
theorem fmul_pos {x y : Fx} (hx : Fr x) (hy : Fr y) (px : 0 < x.1) (py : 0 < y.1) : 0 < (fmul x y).1 := by
  refine (val_pos (fmul_fr hx hy)).mp ?_
  rw [val_mul hx hy]
  exact Rat.mul_pos ((val_pos hx).mpr px) ((val_pos hy).mpr py)
/-- what the law puts beside what is left -/
def sprL (xs : Shx) (m l h : Int) : Shx := [(l, fmul (lk xs m) (fsub (1, 1) (low (m - l) (h - l)))), (h, fmul (lk xs m) (low (m - l) (h - l)))]
theorem sprL_pos {xs : Shx} {m l h : Int} (s : Shr xs) (h1 : l < m) (h2 : m < h) (hm : m ∈ xs.map (·.1)) : Pos (sprL xs m l h) := by
  have fw := lk_frM s.fr m
  have pw : 0 < (lk xs m).1 := (val_pos fw).mp ((s.pos.vf_pos s.nd).mpr hm)
  have n : h - l ≠ 0 := by omega
  unfold sprL
  rw [low_one_sub h1 h2]
  intro a ha
  simp only [List.mem_cons, List.not_mem_nil, or_false] at ha
  rcases ha with rfl | rfl
  · exact ⟨fmul_fr fw (low_fr n), fmul_pos fw (low_fr n) pw (low_pos (by omega) (by omega))⟩
  · exact ⟨fmul_fr fw (low_fr n), fmul_pos fw (low_fr n) pw (low_pos (by omega) (by omega))⟩
theorem sprM_fr {xs : Shx} {m l h : Int} (s : Shr xs) (h1 : l < m) (h2 : m < h) : ∀ a ∈ sprM xs m l h, Fr a.2 := by
  have fw := lk_frM s.fr m
  have n : h - l ≠ 0 := by omega
  intro a ha
  simp only [sprM, List.mem_cons, List.not_mem_nil, or_false] at ha
  rcases ha with rfl | rfl | rfl
  · exact scl_fr fw _
  · exact fmul_fr fw (low_fr n)
  · exact fmul_fr fw (low_fr n)
theorem spr_in {xs : Shx} {m l h : Int} (s : Shr xs) (h1 : l < m) (h2 : m < h) (h3 : -100 ≤ l) (h4 : h ≤ 100) (hm : m ∈ xs.map (·.1)) : joinM (rmv xs m ++ sprL xs m l h) = okO (some (gS (xs ++ sprM xs m l h))) := by
  have pl := sprL_pos s h1 h2 hm
  have pr := rmv_pos m s.pos
  have e : gS (xs ++ sprM xs m l h) = gS (rmv xs m ++ sprL xs m l h) := by
    refine gS_congr (fun a ha => (List.mem_append.mp ha).elim (s.fr a) (sprM_fr s h1 h2 a)) (pr.app pl).fr fun k => ?_
    have fw := lk_frM s.fr m
    rw [vfp_app, vfp_app, vfp_rmv]
    unfold sprM sprL
    rw [low_one_sub h1 h2]
    simp only [vfp_cons, vfp_nil]
    rw [val_scl fw]
    have e2 : vfp xs m = val (lk xs m) := vfp_nodup s.nd m
    by_cases c : k = m
    · subst c
      rw [if_pos rfl, if_pos rfl, e2]
      simp only [Rat.intCast_neg]
      grind
    · rw [if_neg c, if_neg c]
      grind
  rw [e]
  refine join_ok (fun a ha => ?_) (pr.app pl).vfp_nn
  refine ⟨(pr.app pl).fr a ha, ?_⟩
  rcases List.mem_append.mp ha with z | z
  · have := s.2.1 a (mem_rmv.mp z).1
    exact ⟨this.1, this.2.1⟩
  · simp only [sprL, List.mem_cons, List.not_mem_nil, or_false] at z
    rcases z with rfl | rfl <;> exact ⟨by dsimp only; omega, by dsimp only; omega⟩
theorem spr_out {xs : Shx} {m l h : Int} (s : Shr xs) (h1 : l < m) (h2 : m < h) (hm : m ∉ xs.map (·.1)) : some xs = okO (some (gS (xs ++ sprM xs m l h))) := by
  have e : gS (xs ++ sprM xs m l h) = gS xs := by
    refine gS_congr (fun a ha => (List.mem_append.mp ha).elim (s.fr a) (sprM_fr s h1 h2 a)) s.fr fun k => ?_
    have n : h - l ≠ 0 := by omega
    have fw := lk_frM s.fr m
    have e0 : lk xs m = (0, 1) := lk_none hm
    rw [vfp_app]
    unfold sprM
    simp only [vfp_cons, vfp_nil]
    rw [val_scl fw, val_mul fw (low_fr n), val_mul fw (low_fr n), e0, val01]
    grind
  rw [e, shr_self s, okO_yes s]
theorem drw_law {xs : Shx} {l h : Int} (s : Shr xs) (h3 : -100 ≤ l) (h4 : h ≤ 100) (k : InnOk xs l h) (one : (meanM xs l h).2 = 1) : joinM (drwL xs l h) = okO (some (gS (drwL xs l h))) := by
  have p : Pos (drwL xs l h) := drw_fr s k
  refine join_ok (fun a ha => ⟨p.fr a ha, ?_⟩) p.vfp_nn
  rcases List.mem_append.mp ha with z | z
  · have := s.2.1 a (mem_out.mp z).1
    exact ⟨this.1, this.2.1⟩
  · rw [List.mem_singleton] at z
    subst z
    have := (k.mean s).2.2 one
    exact ⟨by dsimp only; omega, by dsimp only; omega⟩
end CS
set_option Elab.async false
set_option maxRecDepth 100000
set_option maxHeartbeats 4000000
set_option linter.unusedVariables false
/-! which of a word's shares are shares -/
namespace CS
open Cu PySem L2
theorem shr_point {m a b : Int} (h1 : -100 ≤ m) (h2 : m ≤ 100) (ha : 1 ≤ a) (hb : 1 ≤ b) : Shr [(m, low a b)] := by
  refine ⟨show 1 ≤ 8 by decide, fun z hz => ?_, by simp⟩
  rw [List.mem_singleton] at hz
  subst hz
  exact ⟨h1, h2, low_fr (by omega), low_pos (by omega) (by omega)⟩
theorem shr_nil : Shr [] := ⟨by decide, fun _ h => (nomatch h), by simp⟩
theorem map_fst_tms (y : Fx) (xs : Shx) : (tms y xs).map (·.1) = xs.map (·.1) := by
  unfold tms
  rw [List.map_map]
  rfl
theorem shr_tms {xs : Shx} {a b : Int} (s : Shr xs) (ha : 1 ≤ a) (hb : 1 ≤ b) : Shr (tms (low a b) xs) := by
  refine ⟨by unfold tms; rw [List.length_map]; exact s.1, fun z hz => ?_, by rw [map_fst_tms]; exact s.2.2⟩
  obtain ⟨c, hc, rfl⟩ := List.mem_map.mp hz
  have q := s.2.1 c hc
  have f := low_fr (t := a) (show b ≠ 0 by omega)
  exact ⟨q.1, q.2.1, fmul_fr q.2.2.1 f, fmul_pos q.2.2.1 f q.2.2.2 (low_pos (by omega) (by omega))⟩
theorem shr_mvd {xs : Shx} (s : Shr xs) (n : Int) : Shr (mvd n xs) ↔ ∀ a ∈ mvd n xs, ¬ 100 < (a.1.natAbs : Int) := by
  refine ⟨fun t a ha => ?_, fun h => ⟨by unfold mvd; rw [List.length_map]; exact s.1, fun z hz => ?_, ?_⟩⟩
  · have := t.2.1 a ha
    omega
  · have e := h z hz
    obtain ⟨c, hc, rfl⟩ := List.mem_map.mp hz
    have q := s.2.1 c hc
    exact ⟨by dsimp only at e ⊢; omega, by dsimp only at e ⊢; omega, q.2.2⟩
  · unfold mvd
    rw [List.map_map]
    have := s.2.2
    rw [List.pairwise_map] at this ⊢
    exact this.imp fun {x y} e => by show x.1 + n < y.1 + n; omega
end CS
set_option Elab.async false
set_option maxRecDepth 100000
set_option maxHeartbeats 4000000
set_option linter.unusedVariables false
/-! tuples without a dict of their own by displays, sums, slices (out of DR, for laws without tables) -/
namespace CS
open PySem PySem.Spec PyProof.Rows L2
section
variable {X : Cx}
/-! tuples whose object is known -/
theorem laidZ {pins : List (Addr × Obj)} {σ : L2.St} {H : Hp} {s : Shared} {h' : Heap} {t' : Nat} {xs : List V} {its : List Value} (I : Inv X pins σ H s) (k : ∀ b u, s.heap.get? b = some u → h'.get? b = some u) (hz : xs.length ≤ sizeLine) (r : Vals xs its)
    (g : h'.get? s.heap.objs.size = some { cls := .type "tuple", data := .seq its.toArray }) : Inv X pins σ (upd H s.heap.objs.size (.frz { cls := .type "tuple", data := .seq its.toArray } (.tup xs))) { s with heap := h', toks := t' } :=
  I.laid k (Nat.le_refl _) (show ObjOk X.prog X.w _ _ _ (.frz _ (.tup xs)) from ⟨g, hz, its, r, _, g, rfl, _, rfl⟩)
theorem TupZ.new {H : Hp} {p : Addr} {o : Obj} {xs : List V} (e : o.dict = none) : TupZ (upd H p (.frz o (.tup xs))) p xs := ⟨o, e, upd_same⟩
theorem TupZ.same {H H' : Hp} {p : Addr} {xs : List V} (h : TupZ H p xs) (s : Same H H') : TupZ H' p xs := let ⟨o, d, e⟩ := h; ⟨o, d, s _ _ e⟩
def tTupZ (t : TA) : TE := fun σ H Q => t σ H fun xs H1 => xs.length ≤ sizeLine ∧ ∀ p H2, Same H1 H2 → TupZ H2 p xs → Q (.ref p) H2
theorem pe_tupZ {es : List Expr} {t : TA} {k : Nat} {pos : PySem.Pos} (h : PA X es t) : PE X (.Tuple es k pos) (tTupZ t) := by
  refine ⟨fun pins s σ H Q I hq => ?_⟩
  refine wpAny_Tuple_spliced (thn (h.run pos pins s σ H _ I hq) fun us s1 ⟨xs, H1, I1, r, z, q⟩ => ⟨by rw [← r.length]; exact z, ?_⟩)
  exact ⟨.ref s1.heap.objs.size, _, laidZ (t' := s1.toks) I1 (fun b u e => Heap.get?_push_of_some _ e) z r (Heap.get?_push_size _ rfl), rfl, q _ _ (Same.new (I1.hok.fresh (Nat.le_refl _))) (TupZ.new rfl)⟩
def rCatZ : R2 := fun x y H Q => ∃ a b xs ys, x = .ref a ∧ y = .ref b ∧ TupZ H a xs ∧ TupZ H b ys ∧ xs.length + ys.length ≤ sizeLine ∧ ∀ p H', Same H H' → TupZ H' p (xs ++ ys) → Q (.ref p) H'
theorem op_catZ : OpR X (binaryOp .Add) rCatZ := by
  intro pins s σ H x y v u Q I rx ry ⟨a, b, xs, ys, e1, e2, ha, hb, hz, q⟩
  subst e1 e2
  cases rx
  cases ry
  obtain ⟨its, r1, p1, _⟩ := I.tuple (ha.sq (K := X.K))
  obtain ⟨its2, r2, p2, _⟩ := I.tuple (hb.sq (K := X.K))
  have l1 := r1.length
  have l2 := r2.length
  by_cases c : its = []
  · subst c
    have e : xs = [] := by simpa using l1
    subst e
    exact cat_tup0 p1 p2 ⟨.ref b, H, I, rfl, q b H (Same.refl H) (by simpa using hb)⟩
  · refine HT.cat_tup p1 p2 c (fun z => ?_) (fun z => ?_) (by rw [← l1, ← l2]; exact hz)
    · have e : ys = [] := by rw [z] at l2; simpa using l2
      subst e
      exact ⟨.ref a, H, I, rfl, q a H (Same.refl H) (by simpa using ha)⟩
    · exact ⟨.ref s.heap.objs.size, _, laidZ (t' := s.toks) I (fun b u e => Heap.get?_push_of_some _ e) (by rw [List.length_append]; exact hz) (r1.append r2) (Heap.get?_push_size _ rfl), rfl, q _ _ (Same.new (I.hok.fresh (Nat.le_refl _))) (TupZ.new rfl)⟩
def rCutZ : V → Option Int → Option Int → Hp → VK → Prop := fun x lo hi H Q => ∃ a xs, x = .ref a ∧ TupZ H a xs ∧ ∀ p H', Same H H' → TupZ H' p (cutV xs lo hi) → Q (.ref p) H'
theorem sl_cutZ : L2.SlR X rCutZ := by
  intro pins s σ H x v vl vu lo hi sl Q I rx hs pl pu ⟨a, xs, e1, hx, q⟩
  subst e1
  cases rx
  obtain ⟨its, r, ht, hz⟩ := I.tuple (hx.sq (K := X.K))
  have hlen : its.toArray.size = xs.length := by rw [List.size_toArray]; exact r.length.symm
  refine ⟨"tuple", _, PyProof.Rows.slot_tuple_getitem.lookup, ht.typeIs, ?_⟩
  by_cases hw : HT.sIx xs.length 0 lo = 0 ∧ HT.sIx xs.length xs.length hi = xs.length
  · refine getItem_tuple_whole ht hs pl pu (by rw [hlen]; exact hw) ⟨.ref a, H, I, rfl, q a H (Same.refl H) ?_⟩
    have e : cutV xs lo hi = xs := by
      unfold cutV
      rw [hw.1, hw.2]
      simp
    rw [e]
    exact hx
  · refine HT.getItem_tuple_cut ht hs pl pu (by rw [hlen]; exact hw) ?_ (by rw [hlen]; exact hz)
    rw [hlen]
    exact ⟨.ref s.heap.objs.size, _, laidZ (t' := s.toks) I (fun b u e => Heap.get?_push_of_some _ e) (Nat.le_trans (cutV_length xs lo hi) hz) ((r.drop (HT.sIx xs.length 0 lo)).take (HT.sIx xs.length xs.length hi - HT.sIx xs.length 0 lo)) (Heap.get?_push_size _ rfl), rfl, q _ _ (Same.new (I.hok.fresh (Nat.le_refl _))) (TupZ.new rfl)⟩
end
end CS
set_option Elab.async false
set_option maxRecDepth 100000
set_option maxHeartbeats 8000000
set_option linter.unusedVariables false
set_option pp.maxSteps 6000
/-! what a word makes of its parts' shares; the share at a place -/
namespace CS
open PySem PySem.Spec PyProof.Rows L2 RZ
/-- the parts' shares stand in a list -/
def KdsAt (K : PySem.W.Frag) (H : Hp) (us : List V) (ss : List Shx) : Prop := Paired (fun (u : V) (xs : Shx) => ∃ r, u = .ref r ∧ ShZ K H r xs) us ss
theorem KdsAt.same {K : PySem.W.Frag} {H H' : Hp} {us : List V} {ss : List Shx} (h : KdsAt K H us ss) (e : Same H H') : KdsAt K H' us ss := Paired.mapP h fun _ _ ⟨r, e1, h1⟩ => ⟨r, e1, h1.same e⟩
theorem ShZ.lst {K : PySem.W.Frag} {H : Hp} {l : Addr} {xs ys : List V} {r : Addr} {zs : Shx} (h : ShZ K H r zs) (e : H l = some (.lst xs)) : ShZ K (upd H l (.lst ys)) r zs := by
  obtain ⟨vs, ⟨o, d, a⟩, b⟩ := h
  exact ⟨vs, ⟨o, d, by rw [upd_ne (ne_of a e (fun z => nomatch z))]; exact a⟩, b.tk (tk_lst e)⟩
theorem KdsAt.lst {K : PySem.W.Frag} {H : Hp} {l : Addr} {xs ys : List V} {us : List V} {ss : List Shx} (h : KdsAt K H us ss) (e : H l = some (.lst xs)) : KdsAt K (upd H l (.lst ys)) us ss := Paired.mapP h fun _ _ ⟨r, e1, h1⟩ => ⟨r, e1, h1.lst e⟩
theorem mx_at {K : PySem.W.Frag} {H : Hp} {v : V} {t : Mx} (h : Dp K H v t.toD) : ∃ a xs, v = .ref a ∧ SqT K H a (.str t.word :: xs) ∧ DpAll K H xs t.rest := by
  have e : t.toD = .tuple (.str t.word :: t.rest) := WTree.toD_eq t
  rw [e] at h
  obtain ⟨a, ys, rfl, hs, hx⟩ := h.tup_inv
  cases hx with
  | cons h1 h2 =>
    cases h1
    exact ⟨a, _, rfl, hs, h2⟩
section
variable {P : Program} {w : World} {K : PySem.W.Frag} {mg : Str → Option Value} {base : Heap}
def spMade (K : PySem.W.Frag) : Sp := fun vs H Q _ => ∃ v t L us ss, vs = [v, .ref L] ∧ Dp K H v (Mx.toD t) ∧ t.Ok ∧ t.tiny ∧ t.dB + t.vB ≤ 79 ∧ H L = some (.lst us) ∧ KdsAt K H us ss ∧ KidsOk t.kids ss ∧
  ∀ H', Same H H' → (∀ zs, t.md (ss.getD 0 []) (ss.getD 1 []) = some zs → ∀ r, ShZ K H' r zs → Q (.ref r) H') ∧ (t.md (ss.getD 0 []) (ss.getD 1 []) = none → Q .non H')
abbrev nsMade : List Str := ["mix", "kids", "word"]
theorem scMade : FnScope nsMade ["mix", "kids"] (defScope sMade) := ⟨rfl, rfl, rfl, by decide +kernel, rfl, by decide +kernel, by decide +kernel⟩
theorem ok_made {f : Addr} {fd : FuncData} (F : Df K mg "made" sMade ["mix", "kids"] f fd)
    {f1 : Addr} {fd1 : FuncData} (D1 : Df K mg "drawn" sDrawn ["share", "low", "high"] f1 fd1) (G1 : FnOk P w K mg base CX0 5 f1 fd1 ["share", "low", "high"] (spDrw K))
    {f2 : Addr} {fd2 : FuncData} (D2 : Df K mg "spread" sSpread ["share", "number", "low", "high"] f2 fd2) (G2 : FnOk P w K mg base CX0 4 f2 fd2 ["share", "number", "low", "high"] (spSpread K))
    {f3 : Addr} {fd3 : FuncData} (D3 : Df K mg "multiplied_all" sMultipliedAll ["share", "fraction"] f3 fd3) (G3 : FnOk P w K mg base CX0 3 f3 fd3 ["share", "fraction"] (spTimes K))
    {f4 : Addr} {fd4 : FuncData} (D4 : Df K mg "lowered" sLowered ["top", "bottom"] f4 fd4) (G4 : FnOk P w K mg base CX0 1 f4 fd4 ["top", "bottom"] (spLow))
    {f5 : Addr} {fd5 : FuncData} (D5 : Df K mg "moved" sMoved ["share", "by"] f5 fd5) (G5 : FnOk P w K mg base CX0 1 f5 fd5 ["share", "by"] (spMoved K))
    {f6 : Addr} {fd6 : FuncData} (D6 : Df K mg "gathered" sGathered ["pairs"] f6 fd6) (G6 : FnOk P w K mg base CX0 3 f6 fd6 ["pairs"] (spGatTZ K)) : FnOk P w K mg base CX0 6 f fd ["mix", "kids"] (spMade K) := by
  refine F.F.ok scMade (fun vs H Q E h => ?_) (fun cdv A outer s H vs Q E hr h => ?_)
  · obtain ⟨v, t, L, us, ss, rfl, _⟩ := h
    rfl
  · obtain ⟨v, t, L, us, ss, rfl, hv, ok, ti, sz, hL, hK, hO, k⟩ := h
    refine ⟨_, (pss_cons (ps_set (i := 2) scMade.nd rfl (Or.inl rfl) (pe_ix ix_tup (pv 0) pe_int (fun _ _ => rfl)))
      (pss_cons (ps_if (pt_cmpR op_eq (pv 2) pe_str (nomark _)) (pss_one (ps_ret (pe_tupZ (pa_cons (pe_tup (pa_cons (pe_ix ix_tup (pv 0) pe_int (fun _ _ => rfl)) (pa_cons (pe_call G4 (hr.mono (by decide)) (by rfl) D4.g D4.F.kp D4.b .nil pass0 (pa_cons (pe_ix ix_tup (pv 0) pe_int (fun _ _ => rfl)) (pa_cons (pe_ix ix_tup (pv 0) pe_int (fun _ _ => rfl)) pa_nil))) pa_nil))) pa_nil)))) pss_nil)
      (pss_cons (ps_if (pt_cmpR op_eq (pv 2) pe_str (nomark _)) (pss_one (ps_ret (pe_tupZ pa_nil))) pss_nil)
      (pss_cons (ps_if (pt_cmpR op_eq (pv 2) pe_str (nomark _)) (pss_one (ps_ret (pe_call G6 (hr.mono (by decide)) (by rfl) D6.g D6.F.kp D6.b .nil pass0 (pa_cons (pe_op op_catZ (pe_ix ix_list (pv 1) pe_int (fun _ _ => rfl)) (pe_ix ix_list (pv 1) pe_int (fun _ _ => rfl))) pa_nil)))) pss_nil)
      (pss_cons (ps_if (pt_cmpR op_eq (pv 2) pe_str (nomark _)) (pss_one (ps_ret (pe_call G5 (hr.mono (by decide)) (by rfl) D5.g D5.F.kp D5.b .nil pass0 (pa_cons (pe_ix ix_list (pv 1) pe_int (fun _ _ => rfl)) (pa_cons (pe_ix ix_tup (pv 0) pe_int (fun _ _ => rfl)) pa_nil))))) pss_nil)
      (pss_cons (ps_if (pt_cmpR op_eq (pv 2) pe_str (nomark _)) (pss_one (ps_ret (pe_call G3 (hr.mono (by decide)) (by rfl) D3.g D3.F.kp D3.b .nil pass0 (pa_cons (pe_ix ix_list (pv 1) pe_int (fun _ _ => rfl)) (pa_cons (pe_call G4 (hr.mono (by decide)) (by rfl) D4.g D4.F.kp D4.b .nil pass0 (pa_cons (pe_ix ix_tup (pv 0) pe_int (fun _ _ => rfl)) (pa_cons (pe_ix ix_tup (pv 0) pe_int (fun _ _ => rfl)) pa_nil))) pa_nil))))) pss_nil)
      (pss_cons (ps_if (pt_cmpR op_eq (pv 2) pe_str (nomark _)) (pss_one (ps_ret (pe_call G2 (hr.mono (by decide)) (by rfl) D2.g D2.F.kp D2.b .nil pass0 (pa_cons (pe_ix ix_list (pv 1) pe_int (fun _ _ => rfl)) (pa_cons (pe_ix ix_tup (pv 0) pe_int (fun _ _ => rfl)) (pa_cons (pe_ix ix_tup (pv 0) pe_int (fun _ _ => rfl)) (pa_cons (pe_ix ix_tup (pv 0) pe_int (fun _ _ => rfl)) pa_nil))))))) pss_nil)
      (pss_one (ps_ret (pe_call G1 (hr.mono (by decide)) (by rfl) D1.g D1.F.kp D1.b .nil pass0 (pa_cons (pe_ix ix_list (pv 1) pe_int (fun _ _ => rfl)) (pa_cons (pe_ix ix_tup (pv 0) pe_int (fun _ _ => rfl)) (pa_cons (pe_ix ix_tup (pv 0) pe_int (fun _ _ => rfl)) pa_nil))))))))))))), ?_⟩
    obtain ⟨a, xs, rfl, hs, hx⟩ := mx_at hv
    refine ⟨_, rfl, a, _, 0, _, rfl, rfl, hs, atI_nat (j := 0) rfl, ?_⟩
    have sh8 : ∀ {kd : Nat × Mx} {zs : Shx}, kd ∈ t.kids → SzM kd.2.dB kd.2.vB zs → AllF 80 zs := fun hk g => by
      have q := Mx.kid_sz _ hk
      exact g.all (by omega)
    cases t with
    | point_ m n1 n2 =>
      obtain ⟨y1, h1, d1⟩ := DpAll.at hx (i := 0) rfl
      obtain ⟨y2, h2, d2⟩ := DpAll.at hx (i := 1) rfl
      obtain ⟨y3, h3, d3⟩ := DpAll.at hx (i := 2) rfl
      cases d1
      cases d2
      cases d3
      obtain ⟨_, ⟨a1, a2⟩, b1, b2⟩ := ok
      refine ⟨_, rfl, rfl, _, rfl, iteTe (show decide (V.str "point" = V.str "point") = true by decide +kernel) ⟨_, rfl, a, _, 1, _, rfl, rfl, hs, atI_nat (j := 1) (by simpa using h1), _, rfl, a, _, 2, _, rfl, rfl, hs, atI_nat (j := 2) (by simpa using h2), _, rfl, a, _, 3, _, rfl, rfl, hs, atI_nat (j := 3) (by simpa using h3), n1, n2, rfl, by omega, lt_up (m := 10) (by show _ < 1024; omega) (by decide), lt_up (m := 10) (by show _ < 1024; omega) (by decide), fun e1 m1 => ⟨(by show 2 ≤ sizeLine; decide), fun e2 m2 => ⟨(by show 1 ≤ sizeLine; decide), fun r H' s' hz => ?_⟩⟩⟩⟩
      have q1 := Same.new (o := .tup [V.int (low n1 n2).1, V.int (low n1 n2).2]) m1
      have q2 := Same.new (o := .tup [V.int m, V.ref e1]) m2
      exact (k H' (q1.trans (q2.trans s'))).1 [(m, low n1 n2)] rfl r ⟨_, hz, .cons (s'.tup (SqT.of upd_same)) ((q2.trans s').tup (SqT.of upd_same)) .nil⟩
    | none_ =>
      refine ⟨_, rfl, rfl, _, rfl, iteFe (show decide (V.str "none" = V.str "point") = false by decide +kernel) ⟨_, rfl, rfl, _, rfl, iteTe (show decide (V.str "none" = V.str "none") = true by decide +kernel) ⟨(by show 0 ≤ sizeLine; decide), fun r H' s' hz => ?_⟩⟩⟩
      exact (k H' s').1 [] rfl r ⟨_, hz, .nil⟩
    | mixed_ s u =>
      cases hO with
      | @cons _ x1 _ _ f1 ro =>
      cases ro with
      | @cons _ x2 _ _ f2 ro =>
      cases ro
      cases hK with
      | cons g1 rk =>
      cases rk with
      | cons g2 rk =>
      cases rk
      obtain ⟨r1, rfl, v1, z1, P1⟩ := g1
      obtain ⟨r2, rfl, v2, z2, P2⟩ := g2
      have l1 := P1.len
      have l2 := P2.len
      have e1 := f1.1.1
      have e2 := f2.1.1
      have big : SzM (s.dB + u.dB) (max s.vB u.vB) (x1 ++ x2) := (SzM.mixed f1.2 f2.2 e1 e2).1
      have bz : (Mx.mixed_ s u).dB = s.dB + u.dB ∧ (Mx.mixed_ s u).vB = max s.vB u.vB + 4 := ⟨rfl, rfl⟩
      refine ⟨_, rfl, rfl, _, rfl, iteFe (show decide (V.str "mixed" = V.str "point") = false by decide +kernel) ⟨_, rfl, rfl, _, rfl, iteFe (show decide (V.str "mixed" = V.str "none") = false by decide +kernel) ⟨_, rfl, rfl, _, rfl, iteTe (show decide (V.str "mixed" = V.str "mixed") = true by decide +kernel) ⟨_, rfl, L, _, 0, _, rfl, rfl, SqL.of hL, atI_nat (j := 0) rfl, _, rfl, L, _, 1, _, rfl, rfl, SqL.of hL, atI_nat (j := 1) rfl, r1, r2, v1, v2, rfl, rfl, z1, z2, Nat.le_of_lt (small1000 (by omega)), fun p H1 s1 hz => ?_⟩⟩⟩⟩
      exact ⟨p, _, x1 ++ x2, rfl, hz.sq, (P1.tk (tk_same s1)).app (P2.tk (tk_same s1)), big.all (by omega), by rw [List.length_append]; omega, fun H' r ys s' h1 h2 => (k H' (s1.trans s')).1 _ rfl r (by show ShZ K H' r (gS (x1 ++ x2)); rw [← gS_eq h2]; exact h1)⟩
    | moved_ s n =>
      obtain ⟨y2, h2, d2⟩ := DpAll.at hx (i := 1) rfl
      cases d2
      cases hO with
      | @cons _ x1 _ _ f1 ro =>
      cases ro
      cases hK with
      | cons g1 rk =>
      cases rk
      obtain ⟨r1, rfl, z1⟩ := g1
      have e1 := f1.1.1
      refine ⟨_, rfl, rfl, _, rfl, iteFe (show decide (V.str "moved" = V.str "point") = false by decide +kernel) ⟨_, rfl, rfl, _, rfl, iteFe (show decide (V.str "moved" = V.str "none") = false by decide +kernel) ⟨_, rfl, rfl, _, rfl, iteFe (show decide (V.str "moved" = V.str "mixed") = false by decide +kernel) ⟨_, rfl, rfl, _, rfl, iteTe (show decide (V.str "moved" = V.str "moved") = true by decide +kernel) ⟨_, rfl, L, _, 0, _, rfl, rfl, SqL.of hL, atI_nat (j := 0) rfl, _, rfl, a, _, 2, _, rfl, rfl, hs, atI_nat (j := 2) (by simpa using h2), r1, x1, n, rfl, z1.sh, by omega, fun H' r s' hz => ?_⟩⟩⟩⟩⟩
      exact (k H' s').1 _ rfl r hz
    | scaled_ s n1 n2 =>
      obtain ⟨y2, h2, d2⟩ := DpAll.at hx (i := 1) rfl
      obtain ⟨y3, h3, d3⟩ := DpAll.at hx (i := 2) rfl
      cases d2
      cases d3
      obtain ⟨_, ⟨a1, a2⟩, b1, b2⟩ := ok
      cases hO with
      | @cons _ x1 _ _ f1 ro =>
      cases ro
      cases hK with
      | cons g1 rk =>
      cases rk
      obtain ⟨r1, rfl, z1⟩ := g1
      have e1 := f1.1.1
      have al := sh8 (kd := (1, s)) (by simp [Mx.kids]) f1.2
      refine ⟨_, rfl, rfl, _, rfl, iteFe (show decide (V.str "scaled" = V.str "point") = false by decide +kernel) ⟨_, rfl, rfl, _, rfl, iteFe (show decide (V.str "scaled" = V.str "none") = false by decide +kernel) ⟨_, rfl, rfl, _, rfl, iteFe (show decide (V.str "scaled" = V.str "mixed") = false by decide +kernel) ⟨_, rfl, rfl, _, rfl, iteFe (show decide (V.str "scaled" = V.str "moved") = false by decide +kernel) ⟨_, rfl, rfl, _, rfl, iteTe (show decide (V.str "scaled" = V.str "scaled") = true by decide +kernel) ⟨_, rfl, L, _, 0, _, rfl, rfl, SqL.of hL, atI_nat (j := 0) rfl, _, rfl, a, _, 2, _, rfl, rfl, hs, atI_nat (j := 2) (by simpa using h2), _, rfl, a, _, 3, _, rfl, rfl, hs, atI_nat (j := 3) (by simpa using h3), n1, n2, rfl, by omega, lt_up (m := 10) (by show _ < 1024; omega) (by decide), lt_up (m := 10) (by show _ < 1024; omega) (by decide), fun e1 m1 => ?_⟩⟩⟩⟩⟩⟩
      have q1 := Same.new (o := .tup [V.int (low n1 n2).1, V.int (low n1 n2).2]) m1
      exact ⟨r1, x1, e1, low n1 n2, rfl, (z1.same q1).sh, fun b hb => ⟨(al b hb).1, (al b hb).2.up (by decide)⟩, SqT.of upd_same, low_fr (by omega), (low_sz (n := 10) (by omega) (by show _ < 1024; omega) (by show _ < 1024; omega)).up (by decide), by omega, fun H' r s' hz => (k H' (q1.trans s')).1 _ rfl r hz⟩
    | spread_ s m l h =>
      obtain ⟨y2, h2, d2⟩ := DpAll.at hx (i := 1) rfl
      obtain ⟨y3, h3, d3⟩ := DpAll.at hx (i := 2) rfl
      obtain ⟨y4, h4, d4⟩ := DpAll.at hx (i := 3) rfl
      cases d2
      cases d3
      cases d4
      obtain ⟨_, ⟨_, _⟩, ⟨b1, b2⟩, ⟨c1, c2⟩, o1, o2⟩ := ok
      cases hO with
      | @cons _ x1 _ _ f1 ro =>
      cases ro
      cases hK with
      | cons g1 rk =>
      cases rk
      obtain ⟨r1, rfl, z1⟩ := g1
      have e1 := f1.1.1
      have al := sh8 (kd := (1, s)) (by simp [Mx.kids]) f1.2
      have big : SzM (s.dB + 8) s.vB (x1 ++ sprM x1 m l h) := (SzM.sprd f1.2 o1 o2 b1 c2 e1).1
      have bz : (Mx.spread_ s m l h).dB = s.dB + 8 ∧ (Mx.spread_ s m l h).vB = s.vB + 4 := ⟨rfl, rfl⟩
      refine ⟨_, rfl, rfl, _, rfl, iteFe (show decide (V.str "spread" = V.str "point") = false by decide +kernel) ⟨_, rfl, rfl, _, rfl, iteFe (show decide (V.str "spread" = V.str "none") = false by decide +kernel) ⟨_, rfl, rfl, _, rfl, iteFe (show decide (V.str "spread" = V.str "mixed") = false by decide +kernel) ⟨_, rfl, rfl, _, rfl, iteFe (show decide (V.str "spread" = V.str "moved") = false by decide +kernel) ⟨_, rfl, rfl, _, rfl, iteFe (show decide (V.str "spread" = V.str "scaled") = false by decide +kernel) ⟨_, rfl, rfl, _, rfl, iteTe (show decide (V.str "spread" = V.str "spread") = true by decide +kernel) ⟨_, rfl, L, _, 0, _, rfl, rfl, SqL.of hL, atI_nat (j := 0) rfl, _, rfl, a, _, 2, _, rfl, rfl, hs, atI_nat (j := 2) (by simpa using h2), _, rfl, a, _, 3, _, rfl, rfl, hs, atI_nat (j := 3) (by simpa using h3), _, rfl, a, _, 4, _, rfl, rfl, hs, atI_nat (j := 4) (by simpa using h4), r1, x1, m, l, h, rfl, z1, f1.1.kys.nd, e1, fun b hb => ⟨(al b hb).1, (al b hb).2.up (by decide)⟩, big.all (by omega), by omega, o1, o2, by omega, fun H' r ys s' g1 g2 => ?_⟩⟩⟩⟩⟩⟩⟩
      exact (k H' s').1 _ rfl r (by show ShZ K H' r (gS (x1 ++ sprM x1 m l h)); rw [← gS_eq g2]; exact g1)
    | drawn_ s l h =>
      obtain ⟨y2, h2, d2⟩ := DpAll.at hx (i := 1) rfl
      obtain ⟨y3, h3, d3⟩ := DpAll.at hx (i := 2) rfl
      cases d2
      cases d3
      cases hO with
      | @cons _ x1 _ _ f1 ro =>
      cases ro
      cases hK with
      | cons g1 rk =>
      cases rk
      obtain ⟨r1, rfl, z1⟩ := g1
      have e1 := f1.1.1
      have al := sh8 (kd := (1, s)) (by simp [Mx.kids]) f1.2
      have bz : (Mx.drawn_ s l h).dB = s.dB ∧ (Mx.drawn_ s l h).vB = s.vB + 3 := ⟨rfl, rfl⟩
      refine ⟨_, rfl, rfl, _, rfl, iteFe (show decide (V.str "drawn" = V.str "point") = false by decide +kernel) ⟨_, rfl, rfl, _, rfl, iteFe (show decide (V.str "drawn" = V.str "none") = false by decide +kernel) ⟨_, rfl, rfl, _, rfl, iteFe (show decide (V.str "drawn" = V.str "mixed") = false by decide +kernel) ⟨_, rfl, rfl, _, rfl, iteFe (show decide (V.str "drawn" = V.str "moved") = false by decide +kernel) ⟨_, rfl, rfl, _, rfl, iteFe (show decide (V.str "drawn" = V.str "scaled") = false by decide +kernel) ⟨_, rfl, rfl, _, rfl, iteFe (show decide (V.str "drawn" = V.str "spread") = false by decide +kernel) ⟨_, rfl, L, _, 0, _, rfl, rfl, SqL.of hL, atI_nat (j := 0) rfl, _, rfl, a, _, 2, _, rfl, rfl, hs, atI_nat (j := 2) (by simpa using h2), _, rfl, a, _, 3, _, rfl, rfl, hs, atI_nat (j := 3) (by simpa using h3), r1, x1, l, h, rfl, z1, fun b hb => ⟨(al b hb).1, (al b hb).2.up (by decide)⟩, fun b hb => by have := f1.1.2.1 b hb; omega, e1, fun ne => ?_, fun H' s' => ⟨fun e => ?_, fun ne nn => ?_, fun ne one r ys g1 g2 => ?_⟩⟩⟩⟩⟩⟩⟩⟩
      · have io := innOk_of f1.1 ne
        have f1b : SzM s.dB s.vB x1 := f1.2
        have q := SzM.drawn f1b f1.1 io
        exact ⟨⟨io.ft, q.2.1.up (by omega), io.t1⟩, ⟨io.fm, q.2.2.up (by omega)⟩, q.1.all (by omega)⟩
      · exact (k H' s').1 x1 (if_pos e) r1 (z1.same s')
      · exact (k H' s').2 (by show Mx.md (.drawn_ s l h) x1 [] = none; simp only [Mx.md, if_neg ne, if_neg nn])
      · exact (k H' s').1 _ (by show Mx.md (.drawn_ s l h) x1 [] = some ys; simp only [Mx.md, if_neg ne, if_pos one]; rw [← gS_eq g2]) r g1
end
end CS
set_option Elab.async false
set_option maxRecDepth 100000
set_option maxHeartbeats 4000000
set_option linter.unusedVariables false
/-! name = [..] on one line, where the element may raise: the list is stored before the block's own names are let go -/
namespace CS
open PySem PySem.Spec PyProof.Rows L2
section
variable {M : Model} {A : Around} {E : Value → Shared → Prop} {env : Env} {s : Shared}
/-- behind the block, whose list is used by u -/
def BehindU (M : Model) (A : Around) (E : Value → Shared → Prop) (u : Value → Sem Unit) (Q : Value → Shared → Prop) (got : Value) (C : Addr) (fr : Option Addr) : Result → Shared → Prop
  | .ok _, t => wpAny M A (u got) (fun _ t2 => ∃ m, t2.heap.Ns C m ∧ ∀ h', Heap.SameBut C t2.heap h' → Q .none { t2 with heap := h' }) E t
  | .error x, t => Behind M A E Q got C fr (.error x) t
theorem comp_use {ex : Expr} {sc : Scope} {pos : PySem.Pos} {mk one : Sem Value} {g : Comprehension} {gs : List Comprehension} {cl : List (Str × Addr)} {u : Value → Sem Unit} {Q : Value → Shared → Prop} (h1 : clausesOf ex = g :: gs) (h2 : ∀ x, foldedSetIterable g.iter env x = pure x) (h3 : closureFor sc env = pure cl)
    (h4 : sc.kind = .function) (h5 : ∀ x ∈ sc.names, x.2 = .local → sc.names.lookup x.1 = some .local)
    (h : wpAny M A one (fun x t1 => wpAny M A (pyIter x) (fun it t2 => wpAny M A mk (fun got t3 => wpAny M A (newFunctionEnv sc env.globals cl [] env.qual none .none (some env))
      (fun ce t4 => ce.frame = env.frame ∧ codeAny M A (.compStart ex 0 it got { ce with scope := relabel sc env }) (BehindU M A E u Q got ce.locals env.frame) t4) E t3) E t2) E t1) E s) :
    wpAny M A (comprehension ex sc env pos mk false one (some u)) Q E s := by
  unfold comprehension
  rw [h3, h1]
  have id_ : ∀ (v : Value) (t : Shared), E v t → E v t := fun _ _ z => z
  refine wpAny_bind (wpAny_mono h (fun x t1 q1 => ?_) id_)
  refine wpAny_bind (wpAny_standAt (wpAny_bind (wpAny_of_eq (h2 x) (wpAny_bind (wpAny_holding (wpAny_mono q1 (fun it t2 q2 => ?_) id_))))))
  refine wpAny_standIf (wpAny_bind (wpAny_mono q2 (fun got t3 q3 => ?_) id_))
  refine wpAny_bind (wpAny_pure (wpAny_bind (wpAny_mono q3 (fun ce t4 q4 => ?_) id_)))
  obtain ⟨fr, q4⟩ := q4
  dsimp only
  generalize hV : (sc.names.filter fun x => (x.2 == .local || x.2 == .cell) && x.1 != (".0" : Str)).reverse = V
  have own : ∀ x ∈ V, x.2 = .local → Env.kindOf { ce with scope := relabel sc env } x.1 = some .local := fun x hx hl =>
    lookup_relabel_local (h5 x (List.mem_filter.mp (List.mem_reverse.mp (hV ▸ hx))).1 hl)
  refine wpAny_holding (wpAny_bind (wpAny_attempt (wpAny_holding (wpAny_run (codeAny_mono q4 fun r t hr => ?_)))))
  cases r with
  | ok f =>
    refine wpAny_bind (wpAny_rule (wpAny_bind (wpAny_holding (wpAny_mono hr (fun _ t2 ⟨m, hn, k⟩ => ?_) id_))))
    refine wpAny_bind (wpAny_comp_letGo (cenv := { ce with scope := relabel sc env }) h4 _ t2 m (fun x hx hl => own x ?_ hl) hn fun h' m' _ sb => wpAny_pure (k h' sb))
    rcases List.mem_append.mp hx with z | z
    · exact List.mem_of_mem_drop z
    · exact List.mem_of_mem_take z
  | error x =>
    obtain ⟨m, hn, k⟩ := hr
    exact wpAny_bind (wpAny_holding (wpAny_comp_letGo (cenv := { ce with scope := relabel sc env }) h4 _ t m own hn fun h' m' _ sb => wpAny_mono (k h' sb _ fr) (fun _ _ z => z.elim) id_))
end
section
variable {X : Cx} {E : XK} {elt tg iter : Expr} {ifs : List Expr} {scope : Scope} {own : List (PySem.Str × Nat)} {pos spos py : PySem.Pos} {wi : TI} {g : TG} {tt : TT} {te : TE} {i : Nat} {y : PySem.Str}
theorem ps_setLcE (tk : Takes X (fun c d _ H => E c d H)) (hs : X.stack = X.env :: X.outer) (hf : X.env.frame = some X.env.locals) (calm : X.calm = true) (nd : X.N.Nodup) (hy : X.N[i]? = some y) (hyl : X.env.scope.names.lookup y = some .local)
    (hsw : swapsWith (.ListComp elt [⟨tg, iter, ifs, 0⟩] scope pos) (some (.Name y py)) spos.line X.env = pure true) (hi : PI X tg iter wi) (ok : BlkOk X.N X.env.scope scope own)
    (hg : ∀ (s : Shared) (H : Hp) (C : Addr) (cl : List (PySem.Str × Addr)) (fp : List Addr), PG (inAir (X.blk s H scope (compEnvC scope cl C X.env) fp) E) tg g) (ht : ∀ (s : Shared) (H : Hp) (C : Addr) (cl : List (PySem.Str × Addr)) (fp : List Addr), PTs (inAir (X.blk s H scope (compEnvC scope cl C X.env) fp) E) ifs tt)
    (he : ∀ (s : Shared) (H : Hp) (C : Addr) (cl : List (PySem.Str × Addr)) (fp : List Addr), PE (inAir (X.blk s H scope (compEnvC scope cl C X.env) fp) E) elt te) (fold : ∀ x, foldedSetIterable iter X.env x = pure x := by intro _; rfl) :
    PS X (.Assign [.Name y py] (.ListComp elt [⟨tg, iter, ifs, 0⟩] scope pos) spos) (tAsg (tLc wi g tt te (own.map (·.2))) (gName i)) := by
  refine ⟨fun pins s σ H Dn I h => ?_⟩
  rw [exec_Assign_Name_used _ _ _ _ hsw]
  refine wpAny_bind (wpAny_standAt (wpAny_bind ?_))
  have clo : closureFor scope X.env = pure (cloFrom X.env.cells scope.names []) := closure_ok fun y hy e => (ok.free y hy e).elim (fun k => I.ok.has _ (.inl k)) fun k => I.ok.has _ (.inr k)
  refine wpAny_bind (thn (comp_use (Q := fun _ s' => SP X pins Dn .next s') rfl fold clo ok.kind (fun y hy e => e ▸ ok.uniq y hy) (thn (hi.run pins s σ H _ I h) fun _ _ h1 => thn h1 fun _ s2 ⟨it, fp, tn, J, H2, ev, I2, T, t0, f2, q⟩ => ?_)) fun _ s' hq => wpAny_pure (wpAny_pure hq))
  subst ev
  refine wpAny_newObj_type (newEnv_comp ⟨rfl, ?_⟩) (by show 0 ≤ sizeLine; decide)
  obtain ⟨W, ⟨m, w0⟩, due⟩ := q s2.heap.objs.size (I2.hok.fresh (Nat.le_refl _))
  have lay : ∃ D H3 s3, D = s2.heap.objs.size ∧ H3 = upd H2 D (.lst []) ∧ s3 = ({ s2 with heap := s2.heap.push { cls := .type "list", dict := none, data := .seq ([] : List Value).toArray } } : Shared) := ⟨_, _, _, rfl, rfl, rfl⟩
  obtain ⟨D, H3, s3, eD, eH, es⟩ := lay
  rw [← eD, ← eH] at w0
  rw [← eD] at due
  rw [← eD, ← es]
  have kept : ∀ b o, s2.heap.get? b = some o → s3.heap.get? b = some o := fun b o e => by rw [es]; exact Heap.get?_push_of_some _ e
  have I3 : Inv X pins σ H3 s3 := by
    rw [eH, es, eD]
    exact I2.laid (t' := s2.toks) (fun b o e => Heap.get?_push_of_some _ e) (Nat.le_refl _) ⟨Nat.zero_le _, [], 0, .nil, Heap.get?_push_size _ rfl⟩
  have small : ∀ b ∈ fp, b < s2.heap.objs.size := fun b hb => (T.obj _ _ t0 b hb).elim fun o z => Heap.lt_size z.1
  have f3 : ∀ b ∈ fp, FpOk X pins H3 b ∧ b < s3.heap.objs.size := fun b hb => by
    refine ⟨⟨?_, (f2 b hb).2⟩, ?_⟩
    · rw [eH, upd_ne (by rw [eD]; exact Nat.ne_of_lt (small b hb))]
      exact (f2 b hb).1
    · rw [es]
      show b < (s2.heap.push _).objs.size
      rw [Heap.size_push]
      exact Nat.lt_succ_of_lt (small b hb)
  have I4 := block_start I3 ok nd f3
  have tn4 : tn 0 (pushCells (s3.heap.push { cls := .type "dict", data := .dict #[] }) scope.names) := T.keep _ _ _ t0 fun b _ o e => pushCells_keeps _ _ _ _ (Heap.get?_push_of_some _ (kept b o e))
  refine codeAny_compStart_list ?_ (T.self X.A 0 _ _ _ tn4 ?_)
  all_goals
    refine due_list (Y := X.blk s3 H3 scope (compEnvC scope (cellsFrom (s3.heap.objs.size + 1) scope.names (cloFrom X.env.cells scope.names [])) s3.heap.objs.size X.env) fp) (E := E) calm T (hg ..) (ht ..) (he ..) (fun {σ' H' s'} I' n b hb => ?_) (fun {u t} z => ?_) due (fun {s' H'} I' z => ?_) I4 tn4 (fun b hb => (f3 b hb).1.1) w0
    · exact ⟨n b hb, (I'.ok.exf b hb).1, I'.ok.exfs b hb, .inl hb, fun x c e => (I'.ok.exf b hb).2 x c e, fun p hp => nomatch (show p ∈ ([] : List (Addr × Obj)) from hp)⟩
    · exact air_behind (Q := fun _ s' => SP X pins Dn .next s') (got := .none) tk I3 rfl rfl hs hf (fun b hb => (f3 b hb).1) z
    · have nC : H' s3.heap.objs.size = none := I'.free
      have back : Inv X pins σ H' s' := I3.call' (ch := fp) I'.os I'.base I'.hok I'.bare fun b hb => ⟨(f3 b hb).1.2.2.2.1, (f3 b hb).1.2.1, (f3 b hb).1.2.2.2.2.1, (f3 b hb).1.2.2.2.2.2⟩
      obtain ⟨j, hj, _⟩ := I'.loc
      obtain ⟨c0, c1, c2, c3, c4, c5⟩ := I3.fpOk (Nat.le_refl _) nC
      show wpAny _ _ (assign (.Name y py) X.env (.ref D)) _ _ _
      refine wpAny_assign_Name (store_ok2 (v := V.ref D) back nd hy (.inl hyl) rfl (fun t ok2 ⟨a, sb, ha⟩ => ?_) (.inr hyl))
      have away : s3.heap.objs.size ≠ a := by
        rcases ha with e | e
        · exact e ▸ c1
        · exact fun z => c4 y a e z.symm
      exact ⟨j, hj.sameBut sb away, fun h3 sb3 => ⟨_, H', ok2.turned (t' := t.toks) (fun b o hb e => (sb3.2 b hb).trans e) c0 c1 c3 c4 c5, z⟩⟩
end
end CS
set_option Elab.async false
set_option maxRecDepth 100000
set_option maxHeartbeats 8000000
set_option linter.unusedVariables false
set_option pp.maxSteps 6000
/-! the share of a mix -/
namespace CS
open PySem PySem.Spec PyProof.Rows L2 RZ
section
variable {P : Program} {w : World} {K : PySem.W.Frag} {mg : Str → Option Value} {base : Heap}
theorem FnOk_or {CX : CXT} {k : Nat} {f : Addr} {fd : FuncData} {ps : List Str} {sp sp2 : Sp} (a : FnOk P w K mg base CX k f fd ps sp) (b : FnOk P w K mg base CX k f fd ps sp2) : FnOk P w K mg base CX k f fd ps (fun vs H Q E => sp vs H Q E ∨ sp2 vs H Q E) :=
  ⟨fun vs H Q E h => h.elim (a.len vs H Q E) (b.len vs H Q E), fun A outer s H args us vs Q E hr he hb hv hs => hs.elim (fun h => a.run A outer s H args us vs Q E hr he hb hv h) (fun h => b.run A outer s H args us vs Q E hr he hb hv h)⟩
def spNonSh : Sp := fun vs H Q _ => ∃ v, vs = [v] ∧ v = .non ∧ Q (.bl false) H
def spIsShO (K : PySem.W.Frag) : Sp := fun vs H Q E => spIsSh K vs H Q E ∨ spNonSh vs H Q E
abbrev nsIsShareN : List Str := ["thing", "pair", "number", "_"]
theorem scIsShareN : FnScope nsIsShareN ["thing"] (defScope sIsShare) := ⟨rfl, rfl, rfl, by decide +kernel, rfl, by decide +kernel, by decide +kernel⟩
theorem ok_is_shareN {f : Addr} {fd : FuncData} (F : Df K mg "is_share" sIsShare ["thing"] f fd)
    {f1 : Addr} {fd1 : FuncData} (D1 : Df K mg "ascends" sAscends ["things"] f1 fd1) (G1 : FnOk P w K mg base CX0 1 f1 fd1 ["things"] (spAsc K))
    {f2 : Addr} {fd2 : FuncData} (D2 : Df K mg "is_share_pair" sIsSharePair ["thing"] f2 fd2) (G2 : FnOk P w K mg base CX0 5 f2 fd2 ["thing"] (spShP K))
    {f3 : Addr} {fd3 : FuncData} (D3 : Df K mg "is_row" sIsRow ["thing"] f3 fd3) (G3 : FnOk P w K mg base CX0 1 f3 fd3 ["thing"] (spD1 K rowD))
    {t8 : Tok} (g8 : mg "MOST_PAIRS" = some (.int 8 t8)) (T : Bt mg) : FnOk P w K mg base CX0 6 f fd ["thing"] (spNonSh) := by
  refine F.F.ok scIsShareN (fun vs H Q E h => ?_) (fun cdv A outer s H vs Q E hr h => ?_)
  · obtain ⟨v, rfl, _⟩ := h
    rfl
  · obtain ⟨v, rfl, hv, k⟩ := h
    refine ⟨_, (pss_cons (ps_if (PW.pt (pw_or (pt_not (pt_val (pe_call G3 (hr.mono (by decide)) (by rfl) D3.g D3.F.kp D3.b .nil pass0 (pa_cons (pv 0) pa_nil)))) (pw_or1 (pt_cmpR op_gt (pe_callB call_len_seq (by rfl) T.len PySem.boot_len (pa_cons (pv 0) pa_nil)) (pe_glob (v := .int 8) (by rfl) g8 ⟨_, rfl⟩) (nomark _))))) (pss_one (ps_ret pe_bl)) pss_nil)
      (pss_cons (ps_if (pt_not (pt_val (pe_callB (cr_all rfl) (by rfl) T.all (by decide +kernel) (pa_cons (pe_lc (own := [("pair", 1)]) (g := gName 1) (tt := tYes) rfl scIsShareN.nd (pi_tup (pv 0)) (blkOk_by (N := nsIsShareN) (sc := defScope sIsShare) (by decide +kernel)) (fun _ _ _ _ _ => pg_name (i := 1) scIsShareN.nd rfl (Or.inl rfl)) (fun _ _ _ _ _ => pts_nil) (fun _ _ _ _ _ => (pe_call G2 (hr.mono (by decide)) (by rfl) D2.g D2.F.kp D2.b .nil pass0 (pa_cons (pv 1) pa_nil)))) pa_nil)))) (pss_one (ps_ret pe_bl)) pss_nil)
      (pss_one (ps_ret (pe_call G1 (hr.mono (by decide)) (by rfl) D1.g D1.F.kp D1.b .nil pass0 (pa_cons (pe_lc (own := [("number", 2), ("_", 3)]) (g := gTup K 2 (gCons (gName 2) (gCons (gName 3) gNil))) (tt := tYes) rfl scIsShareN.nd (pi_tup (pv 0)) (blkOk_by (N := nsIsShareN) (sc := defScope sIsShare) (by decide +kernel)) (fun _ _ _ _ _ => pg_tup rfl (pgs_cons (pg_name (i := 2) scIsShareN.nd rfl (Or.inl rfl)) (pgs_cons (pg_name (i := 3) scIsShareN.nd rfl (Or.inl rfl)) pgs_nil))) (fun _ _ _ _ _ => pts_nil) (fun _ _ _ _ _ => (pv 2))) pa_nil)))))), ?_⟩
    subst hv
    exact ⟨_, rfl, .non, .none, rfl, .non, _, rfl, iteT k⟩
theorem ok_is_shareO {f : Addr} {fd : FuncData} (F : Df K mg "is_share" sIsShare ["thing"] f fd) {f1 : Addr} {fd1 : FuncData} (D1 : Df K mg "ascends" sAscends ["things"] f1 fd1) (G1 : FnOk P w K mg base CX0 1 f1 fd1 ["things"] (spAsc K))
    {f2 : Addr} {fd2 : FuncData} (D2 : Df K mg "is_share_pair" sIsSharePair ["thing"] f2 fd2) (G2 : FnOk P w K mg base CX0 5 f2 fd2 ["thing"] (spShP K)) {f3 : Addr} {fd3 : FuncData} (D3 : Df K mg "is_row" sIsRow ["thing"] f3 fd3) (G3 : FnOk P w K mg base CX0 1 f3 fd3 ["thing"] (spD1 K rowD))
    (G4 : FnOk P w K mg base CX0 1 f3 fd3 ["thing"] (spRow K)) {t8 : Tok} (g8 : mg "MOST_PAIRS" = some (.int 8 t8)) (T : Bt mg) : FnOk P w K mg base CX0 6 f fd ["thing"] (spIsShO K) :=
  FnOk_or (ok_is_share F D3 G4 D2 G2 D1 G1 g8 T) (ok_is_shareN F D1 G1 D2 G2 D3 G3 g8 T)
/-- what the share at a place comes to -/
def spShareAt (K : PySem.W.Frag) (CB : Addr) (h : Nat) : Sp := fun vs H Q E => ∃ u t p path, vs = [u, .ref p] ∧ Dp K H u (Mx.toD t) ∧ t.Ok ∧ t.tiny ∧ t.dB + t.vB ≤ 79 ∧ t.height ≤ h ∧ SqT K H p (path.map V.int) ∧ path.length + t.height ≤ 12 ∧
  ∀ H', Same H H' → (∀ f, t.sh path = .inr f → ∀ q d, SqT K H' q (f.map V.int) → H' d = none → E (.ref CB) (some d) (upd H' d (.xd [("path", .ref q)]))) ∧
    (∀ zs, t.sh path = .inl zs → ∀ c, ShZ K H' c zs → Q (.ref c) H')
theorem scBmI : FnScope ["self", "path"] ["self", "path"] (defScope (inClass sBadMix 0)) := ⟨rfl, rfl, rfl, by decide +kernel, rfl, by decide +kernel, by decide +kernel⟩
theorem bm_init {CB fI : Addr} {fd : FuncData} (Z : Xc K mg "BadMix" "path" CB fI bmV "ValueError.__new__" (inClass sBadMix 0) "BadMix.__init__" fd) : FnOk P w K mg base CX0 1 fI fd ["self", "path"] (spPut CB "path") :=
  ok_put PySem.F.store_ValueError Z.T Z.F scBmI rfl rfl rfl (by decide +kernel) (by decide +kernel) (fun _ => rfl)
abbrev nsShareAt : List Str := ["mix", "path", "kids", "at", "share"]
theorem scShareAt : FnScope nsShareAt ["mix", "path"] (defScope sShareAt) := ⟨rfl, rfl, rfl, by decide +kernel, rfl, by decide +kernel, by decide +kernel⟩
theorem ok_share_at {f : Addr} {fd : FuncData} (F : Df K mg "share_at" sShareAt ["mix", "path"] f fd)
    {f1 : Addr} {fd1 : FuncData} (D1 : Df K mg "is_share" sIsShare ["thing"] f1 fd1) (G1 : FnOk P w K mg base CX0 6 f1 fd1 ["thing"] (spIsShO K))
    {f2 : Addr} {fd2 : FuncData} (D2 : Df K mg "made" sMade ["mix", "kids"] f2 fd2) (G2 : FnOk P w K mg base CX0 6 f2 fd2 ["mix", "kids"] (spMade K))
    {f8 : Addr} {fd8 : FuncData} (D8 : Df K mg "kid_places" sKidPlaces ["shape"] f8 fd8) (G8 : FnOk P w K mg base CX0 1 f8 fd8 ["shape"] (spPlaces K)) {lv h : Nat} {aT : Addr} (gT : mg "MIX_SHAPES" = some (.ref aT)) (DT : KD P w K aT mxKV) (T : Bt mg) {CB fI : Addr} {fdI : FuncData} (Z : Xc K mg "BadMix" "path" CB fI bmV "ValueError.__new__" (inClass sBadMix 0) "BadMix.__init__" fdI) {f9 : Addr} {fd9 : FuncData} (D9 : Df K mg "share_at" sShareAt ["mix", "path"] f9 fd9) (G9 : FnOk P w K mg base (L2.CX P w) (lv + 7) f9 fd9 ["mix", "path"] (spShareAt K CB h)) : FnOk P w K mg base (L2.CX P w) (lv+8) f fd ["mix", "path"] (spShareAt K CB (h+1)) := by
  refine F.F.okX scShareAt (fun vs H Q E h => ?_) (fun cdv A outer s H vs Q E hr h => ?_)
  · obtain ⟨u, t, p, path, rfl, _⟩ := h
    rfl
  · obtain ⟨u, t, p, path, rfl, hu1, tok, ti, bz, hh, hp, h12, k⟩ := h
    refine ⟨_, (pss_cons (ps_setLcE (E := E) (i := 2) (own := [("at", 3)]) (g := gName 3) (tt := tYes) (takes_of rfl rfl rfl rfl) rfl rfl rfl scShareAt.nd rfl rfl (sw_true rfl rfl rfl (by decide +kernel)) (pi_list (pe_call G8 (hr.mono (by omega)) (by rfl) D8.g D8.F.kp D8.b .nil pass0 (pa_cons (pe_ix (ix_kd DT) (pe_glob (v := .ref aT) (by rfl) gT rfl) (pe_ix ix_tup (pv 0) pe_int (fun _ _ => rfl)) (fun _ _ => rfl)) pa_nil))) (blkOk_by (N := nsShareAt) (sc := defScope sShareAt) (by decide +kernel)) (fun _ _ _ _ _ => pg_name (i := 3) scShareAt.nd rfl (Or.inl rfl)) (fun _ _ _ _ _ => pts_nil) (fun _ _ _ _ _ => (pe_call G9 (hr.mono (by omega)) (by rfl) D9.g D9.F.kp D9.b .nil (passes_air fun _ _ _ h => h) (pa_cons (pe_ix (r := rIxT K) ix_tup (pv 0) (pv 3) (fun _ _ => rfl)) (pa_cons (show PE _ _ (tTup (StX.tStar K (tVar 1) (tCons (tVar 3) tNil))) from pe_tup (StX.pa_star (pv 1) (pa_cons (pv 3) pa_nil))) pa_nil)))))
      (pss_cons (ps_set (i := 4) scShareAt.nd rfl (Or.inl rfl) (pe_call G2 (hr.mono (by omega)) (by rfl) D2.g D2.F.kp D2.b .nil pass0 (pa_cons (pv 0) (pa_cons (pv 2) pa_nil))))
      (pss_cons (ps_if (pt_not (pt_val (pe_call G1 (hr.mono (by omega)) (by rfl) D1.g D1.F.kp D1.b .nil pass0 (pa_cons (pv 4) pa_nil)))) (pss_one (ps_raise rfl (takes_of rfl rfl rfl rfl) (pmk_own1 PySem.F.excBase_ValueError Z.T (bm_init Z) Z.b (hr.mono (by omega)) (by rfl) (pa_cons (pv 1) pa_nil)))) pss_nil)
      (pss_one (ps_ret (pv 4)))))), ?_⟩
    obtain ⟨a, xs, rfl, hs, hx⟩ := mx_at hu1
    have hkey := WTree.kv_at t
    have four := WTree.shape_four t
    have tp := WTree.height_pos t
    refine ⟨_, rfl, a, _, 0, _, rfl, rfl, hs, atI_nat (j := 0) rfl, Sum.inr t.word, .str t.shape, rfl, rfl, hkey, t.shape, rfl, Nat.le_trans four (by decide), fun D H2 s2 hD => ?_⟩
    have plc := WTree.places t
    have plc2 : plcG t.shape t.shape.cps.size = t.kids.map fun k => (k.1 : Int) := plc
    rw [plc2] at hD
    have few : t.kids.length ≤ 2 := by cases t <;> simp [Mx.kids]
    have hs2 := s2.tup hs
    have hx2 := DpAll.same s2 hx
    refine ⟨D, rfl, ⟨_, hD⟩, fun L nL => lc_it (walk_list (K := K) (a := D) (xs := (t.kids.map fun k => (k.1 : Int)).map V.int)) (fun i H' => ∃ us ss, H' L = some (.lst us) ∧ Same H2 H' ∧ KdsAt K H' us ss ∧ KidSh path (t.kids.take i) ss) ⟨[], [], upd_same, Same.new nL, .nil, .nil⟩ (fun i H' _ ⟨_, _, _, s, _⟩ => s.seq hD) ?_ ?_⟩
    · rintro i x H6 H7 hi ⟨us, ss, h6, s6, c6, e6⟩ ⟨rfl, hx0⟩
      rw [List.getElem?_map, List.getElem?_map] at hx0
      obtain ⟨z, hz, rfl⟩ := Option.map_eq_some_iff.mp hx0
      obtain ⟨kd, hk, rfl⟩ := Option.map_eq_some_iff.mp hz
      have mem : kd ∈ t.kids := List.mem_of_getElem? hk
      have hx56 := DpAll.same s6 hx2
      have kat := WTree.kids_at t kd mem
      obtain ⟨child, hc, dc⟩ := DpAll.at (K := K) (H := H7) (vs := .str t.word :: xs) (ds := .str t.word :: t.rest) (.cons (.str _) hx56) kat
      have lu := Paired.length c6
      have le := Paired.length e6
      rw [List.length_take] at le
      have kh : kd.2.height < t.height := WTree.kids_height t kd mem
      have kok : kd.2.Ok := WTree.kids_ok t tok kd mem
      have ks := Mx.kid_sz kd mem
      have s27 := s2.trans s6
      refine ⟨rfl, ?_⟩
      dsimp only [tYes]
      rw [if_pos rfl]
      refine ⟨_, rfl, _, rfl, a, _, (kd.1 : Int), child, rfl, rfl, s6.tup hs2, atI_nat hc, _, rfl, p, _, rfl, .inl (s27.tup hp), _, rfl, ?_⟩
      have lp : path.length ≤ 12 := by omega
      refine ⟨(by rw [List.length_append, List.length_map]; exact Nat.le_trans (show _ ≤ 100 by simp; omega) (by decide)), fun b nb => ?_⟩
      have k6 := Same.new (o := .tup (path.map V.int ++ [V.int (kd.1 : Int)])) nb
      refine ⟨child, kd.2, b, path ++ [(kd.1 : Int)], rfl, Dp.same k6 dc, kok, ks.2.2.1 ti, by omega, by omega, SqT.of (by rw [List.map_append]; exact upd_same), by rw [List.length_append]; show path.length + 1 + _ ≤ 12; omega, fun H8 s8 => ⟨fun f ef q d' hq hd' => ?_, fun zs ef c hcc => ?_⟩⟩
      · exact (k H8 (s27.trans (k6.trans s8))).1 f (Mx.sh_bad e6 hk ef) q d' hq hd'
      · have k8 := k6.trans s8
        refine ⟨us, k8 _ _ h6, small1000 (by omega), us ++ [.ref c], ss ++ [zs], upd_same, same_upd nL (s6.trans k8), ?_, ?_⟩
        · exact KdsAt.lst (Paired.snoc2 (F := fun (u : V) (xs : Shx) => ∃ r, u = .ref r ∧ ShZ K H8 r xs) ⟨c, rfl, hcc⟩ (c6.same k8)) (k8 _ _ h6)
        · rw [take_snoc hk]
          exact Paired.snoc2 (F := fun (kd : Nat × Mx) (xs : Shx) => kd.2.sh (path ++ [(kd.1 : Int)]) = .inl xs) ef e6
    rintro H3 ⟨us, ss, h3, s3, c3, e3⟩
    rw [List.length_map, List.length_map, List.take_length] at e3
    have s23 := s2.trans s3
    have whole := Mx.sh_all e3
    have kok : KidsOk t.kids ss := kidsOk_of e3 fun kd hk => ⟨WTree.kids_ok t tok kd hk, (Mx.kid_sz kd hk).2.2.1 ti⟩
    refine ⟨_, rfl, _, rfl, .ref a, t, L, us, ss, rfl, Dp.same s23 hu1, tok, ti, bz, h3, c3, kok, fun H4 s4 => ⟨fun zs ez r hr2 => ?_, fun ez => ?_⟩⟩
    · have s24 := s23.trans s4
      have lz : zs.length ≤ 900 := by
        have : zs.length ≤ 16 := Mx.md_len kok ez
        omega
      refine ⟨_, rfl, .inl ⟨r, zs, rfl, hr2.sh, lz, fun H5 s5 => ⟨_, rfl, ?_⟩⟩⟩
      by_cases c : Shr zs
      · rw [decide_eq_true c]
        refine iteF ⟨_, rfl, (k H5 (s24.trans s5)).2 zs ?_ r (hr2.same s5)⟩
        rw [whole, ez]
        exact if_pos c
      · rw [decide_eq_false c]
        refine iteT ⟨_, rfl, _, rfl, fun d' hd' => (k H5 (s24.trans s5)).1 path ?_ p d' ((s24.trans s5).tup hp) hd'⟩
        rw [whole, ez]
        exact if_neg c
    · have s24 := s23.trans s4
      refine ⟨_, rfl, .inr ⟨_, rfl, rfl, _, rfl, iteT ⟨_, rfl, _, rfl, fun d' hd' => (k H4 s24).1 path ?_ p d' (s24.tup hp) hd'⟩⟩⟩
      rw [whole, ez]
      rfl
end
end CS
set_option Elab.async false
set_option maxRecDepth 100000
set_option maxHeartbeats 8000000
set_option linter.unusedVariables false
set_option pp.maxSteps 6000
/-! the share of a mix, the need of one, its parts -/
namespace CS
open PySem PySem.Spec PyProof.Rows L2 RZ
theorem flatKidsM : ∀ l : List (Nat × Mx), flatDs (l.map fun k => k.2.toD) = true
  | [] => rfl
  | k :: l => by
    show (flatD k.2.toD && flatDs (l.map fun k => k.2.toD)) = true
    rw [Mx.flat_ k.2, flatKidsM l]
    rfl
section
variable {P : Program} {w : World} {K : PySem.W.Frag} {mg : Str → Option Value} {base : Heap}
theorem ok_share_all {f : Addr} {fd : FuncData} (F : Df K mg "share_at" sShareAt ["mix", "path"] f fd)
    {f1 : Addr} {fd1 : FuncData} (D1 : Df K mg "is_share" sIsShare ["thing"] f1 fd1) (G1 : FnOk P w K mg base CX0 6 f1 fd1 ["thing"] (spIsShO K))
    {f2 : Addr} {fd2 : FuncData} (D2 : Df K mg "made" sMade ["mix", "kids"] f2 fd2) (G2 : FnOk P w K mg base CX0 6 f2 fd2 ["mix", "kids"] (spMade K))
    {f8 : Addr} {fd8 : FuncData} (D8 : Df K mg "kid_places" sKidPlaces ["shape"] f8 fd8) (G8 : FnOk P w K mg base CX0 1 f8 fd8 ["shape"] (spPlaces K))
    {aT : Addr} (gT : mg "MIX_SHAPES" = some (.ref aT)) (DT : KD P w K aT mxKV) (T : Bt mg) {CB fI : Addr} {fdI : FuncData} (Z : Xc K mg "BadMix" "path" CB fI bmV "ValueError.__new__" (inClass sBadMix 0) "BadMix.__init__" fdI) :
    ∀ h : Nat, FnOk P w K mg base (L2.CX P w) (h + 7) f fd ["mix", "path"] (spShareAt K CB h)
  | 0 => by
    refine F.F.okX scShareAt (fun vs H Q E h => ?_) (fun cdv A outer s H vs Q E hr h => ?_)
    · obtain ⟨u, t, p, path, rfl, _⟩ := h
      rfl
    · obtain ⟨u, t, p, path, rfl, hu1, tok, ti, bz, hh, _⟩ := h
      have := WTree.height_pos t
      have e : t.height = 0 := Nat.le_zero.mp hh
      exact absurd this (by show ¬ 1 ≤ t.height; omega)
  | h + 1 => ok_share_at F D1 G1 D2 G2 D8 G8 gT DT T Z F (lv := h) (ok_share_all F D1 G1 D2 G2 D8 G8 gT DT T Z h)
theorem ok_share_at8 {f : Addr} {fd : FuncData} (F : Df K mg "share_at" sShareAt ["mix", "path"] f fd)
    {f1 : Addr} {fd1 : FuncData} (D1 : Df K mg "is_share" sIsShare ["thing"] f1 fd1) (G1 : FnOk P w K mg base CX0 6 f1 fd1 ["thing"] (spIsShO K))
    {f2 : Addr} {fd2 : FuncData} (D2 : Df K mg "made" sMade ["mix", "kids"] f2 fd2) (G2 : FnOk P w K mg base CX0 6 f2 fd2 ["mix", "kids"] (spMade K))
    {f8 : Addr} {fd8 : FuncData} (D8 : Df K mg "kid_places" sKidPlaces ["shape"] f8 fd8) (G8 : FnOk P w K mg base CX0 1 f8 fd8 ["shape"] (spPlaces K))
    {aT : Addr} (gT : mg "MIX_SHAPES" = some (.ref aT)) (DT : KD P w K aT mxKV) (T : Bt mg) {CB fI : Addr} {fdI : FuncData} (Z : Xc K mg "BadMix" "path" CB fI bmV "ValueError.__new__" (inClass sBadMix 0) "BadMix.__init__" fdI) : FnOk P w K mg base (L2.CX P w) 15 f fd ["mix", "path"] (spShareAt K CB 8) :=
  ok_share_all F D1 G1 D2 G2 D8 G8 gT DT T Z 8
/-- a mix that may be asked -/
def Mx.Good (t : Mx) : Prop := t.Ok ∧ t.tiny ∧ t.dB + t.vB ≤ 79 ∧ t.words ≤ 20 ∧ t.height ≤ 8
def spShareOf (K : PySem.W.Frag) (CB : Addr) : Sp := fun vs H Q E => ∃ u t, vs = [u] ∧ Dp K H u (Mx.toD t) ∧ t.Good ∧
  ∀ H', Same H H' → (∀ f, t.sh [] = .inr f → ∀ q d, SqT K H' q (f.map V.int) → H' d = none → E (.ref CB) (some d) (upd H' d (.xd [("path", .ref q)]))) ∧
    (∀ zs, t.sh [] = .inl zs → ∀ c, ShZ K H' c zs → Q (.ref c) H')
variable {CB : Addr}
abbrev nsShareOf : List Str := ["mix", "fault"]
theorem scShareOf : FnScope nsShareOf ["mix"] (defScope sShareOf) := ⟨rfl, rfl, rfl, by decide +kernel, rfl, by decide +kernel, by decide +kernel⟩
theorem ok_share_of {f : Addr} {fd : FuncData} (F : Df K mg "share_of" sShareOf ["mix"] f fd)
    {f1 : Addr} {fd1 : FuncData} (D1 : Df K mg "share_at" sShareAt ["mix", "path"] f1 fd1) (G1 : FnOk P w K mg base (L2.CX P w) 15 f1 fd1 ["mix", "path"] (spShareAt K CB 8))
    {f2 : Addr} {fd2 : FuncData} (D2 : Df K mg "fault_in" sFaultIn ["whole", "shapes"] f2 fd2) (G2 : FnOk P w K mg base CX0 5 f2 fd2 ["whole", "shapes"] (spFaultG Mx K))
    {aT : Addr} (gT : mg "MIX_SHAPES" = some (.ref aT)) (DT : KD P w K aT mxKV) (T : Bt mg) : FnOk P w K mg base (L2.CX P w) 16 f fd ["mix"] (spShareOf K CB) := by
  refine F.F.okX scShareOf (fun vs H Q E h => ?_) (fun cdv A outer s H vs Q E hr h => ?_)
  · obtain ⟨u, t, rfl, _⟩ := h
    rfl
  · obtain ⟨u, t, rfl, hu1, good, k⟩ := h
    refine ⟨_, (pss_cons (ps_set (i := 1) scShareOf.nd rfl (Or.inl rfl) (pe_call G2 (hr.mono (by decide)) (by rfl) D2.g D2.F.kp D2.b .nil pass0 (pa_cons (pv 0) (pa_cons (pe_callTy (call_dictK DT) (by rfl) T.dict (by decide +kernel) (pa_cons (pe_glob (v := .ref aT) (by rfl) gT rfl) pa_nil)) pa_nil))))
      (pss_cons (ps_if (pt_cmpR op_notN (pv 1) pe_non (nomark _)) (pss_one ps_never) pss_nil)
      (pss_one (ps_ret (pe_call G1 (hr.mono (by decide)) (by rfl) D1.g D1.F.kp D1.b .nil (passes_call (takes_of rfl rfl rfl rfl) (fun _ _ _ _ h => h)) (pa_cons (pv 0) (pa_cons (pe_tup pa_nil) pa_nil))))))), ?_⟩
    obtain ⟨tok, ti, bz, w20, h8⟩ := good
    refine ⟨_, rfl, rfl, fun d nd => ?_⟩
    have s1 := Same.new (o := .dK mxKV) nd
    refine ⟨u, d, t, rfl, upd_same, Dp.same s1 hu1, tok, w20, h8, fun H2 s2 => ⟨_, rfl, rfl, _, rfl, iteF ⟨_, rfl, (by show 0 ≤ sizeLine; decide), fun e1 n1 => ?_⟩⟩⟩
    have s3 := (s1.trans s2).trans (Same.new (o := .tup []) n1)
    exact ⟨u, t, e1, [], rfl, Dp.same s3 hu1, tok, ti, bz, h8, SqT.of upd_same, by show 0 + t.height ≤ 12; omega, fun H3 s4 => k H3 (s3.trans s4)⟩
def spNeedMix (K : PySem.W.Frag) (CB : Addr) : Sp := fun vs H Q E => ∃ u t, vs = [u] ∧ Dp K H u (Mx.toD t) ∧ t.Good ∧
  ∀ H', Same H H' → (∀ f, t.sh [] = .inr f → ∀ q d, SqT K H' q (f.map V.int) → H' d = none → E (.ref CB) (some d) (upd H' d (.xd [("path", .ref q)]))) ∧
    (∀ zs, t.sh [] = .inl zs → Q u H')
abbrev nsNeedMix : List Str := ["thing"]
theorem scNeedMix : FnScope nsNeedMix ["thing"] (defScope sNeedMix) := ⟨rfl, rfl, rfl, by decide +kernel, rfl, by decide +kernel, by decide +kernel⟩
theorem ok_need_mix {f : Addr} {fd : FuncData} (F : Df K mg "need_mix" sNeedMix ["thing"] f fd)
    {f1 : Addr} {fd1 : FuncData} (D1 : Df K mg "share_of" sShareOf ["mix"] f1 fd1) (G1 : FnOk P w K mg base (L2.CX P w) 16 f1 fd1 ["mix"] (spShareOf K CB)) : FnOk P w K mg base (L2.CX P w) 17 f fd ["thing"] (spNeedMix K CB) := by
  refine F.F.okX scNeedMix (fun vs H Q E h => ?_) (fun cdv A outer s H vs Q E hr h => ?_)
  · obtain ⟨u, t, rfl, _⟩ := h
    rfl
  · obtain ⟨u, t, rfl, hu1, good, k⟩ := h
    refine ⟨_, (pss_cons (ps_expr (pe_call G1 (hr.mono (by decide)) (by rfl) D1.g D1.F.kp D1.b .nil (passes_call (takes_of rfl rfl rfl rfl) (fun _ _ _ _ h => h)) (pa_cons (pv 0) pa_nil)))
      (pss_one (ps_ret (pv 0)))), ?_⟩
    exact ⟨_, rfl, u, t, rfl, hu1, good, fun H2 s2 => ⟨(k H2 s2).1, fun zs e c hc => ⟨_, rfl, (k H2 s2).2 zs e⟩⟩⟩
def spPartsOf (K : PySem.W.Frag) (CB : Addr) : Sp := fun vs H Q E => ∃ u t, vs = [u] ∧ Dp K H u (Mx.toD t) ∧ t.Good ∧
  ∀ H', Same H H' → (∀ f, t.sh [] = .inr f → ∀ q d, SqT K H' q (f.map V.int) → H' d = none → E (.ref CB) (some d) (upd H' d (.xd [("path", .ref q)]))) ∧
    (∀ zs, t.sh [] = .inl zs → ∀ p xs, SqT K H' p xs → DpAll K H' xs (t.kids.map fun k => k.2.toD) → Q (.ref p) H')
abbrev nsPartsOf : List Str := ["mix", "at"]
theorem scPartsOf : FnScope nsPartsOf ["mix"] (defScope sPartsOf) := ⟨rfl, rfl, rfl, by decide +kernel, rfl, by decide +kernel, by decide +kernel⟩
theorem ok_parts_of {f : Addr} {fd : FuncData} (F : Df K mg "parts_of" sPartsOf ["mix"] f fd)
    {f1 : Addr} {fd1 : FuncData} (D1 : Df K mg "kid_places" sKidPlaces ["shape"] f1 fd1) (G1 : FnOk P w K mg base CX0 1 f1 fd1 ["shape"] (spPlaces K))
    {f2 : Addr} {fd2 : FuncData} (D2 : Df K mg "need_mix" sNeedMix ["thing"] f2 fd2) (G2 : FnOk P w K mg base (L2.CX P w) 17 f2 fd2 ["thing"] (spNeedMix K CB))
    {aT : Addr} (gT : mg "MIX_SHAPES" = some (.ref aT)) (DT : KD P w K aT mxKV) (T : Bt mg) : FnOk P w K mg base (L2.CX P w) 18 f fd ["mix"] (spPartsOf K CB) := by
  refine F.F.okX scPartsOf (fun vs H Q E h => ?_) (fun cdv A outer s H vs Q E hr h => ?_)
  · obtain ⟨u, t, rfl, _⟩ := h
    rfl
  · obtain ⟨u, t, rfl, hu1, good, k⟩ := h
    refine ⟨_, (pss_cons (ps_expr (pe_call G2 (hr.mono (by decide)) (by rfl) D2.g D2.F.kp D2.b .nil (passes_call (takes_of rfl rfl rfl rfl) (fun _ _ _ _ h => h)) (pa_cons (pv 0) pa_nil)))
      (pss_one (ps_ret (pe_callTy call_tuple_of (by rfl) T.tuple (by decide +kernel) (pa_cons (pe_lc (own := [("at", 1)]) (g := gName 1) (tt := tYes) rfl scPartsOf.nd (pi_list (pe_call G1 (hr.mono (by decide)) (by rfl) D1.g D1.F.kp D1.b .nil pass0 (pa_cons (pe_ix (ix_kd DT) (pe_glob (v := .ref aT) (by rfl) gT rfl) (pe_ix ix_tup (pv 0) pe_int (fun _ _ => rfl)) (fun _ _ => rfl)) pa_nil))) (blkOk_by (N := nsPartsOf) (sc := defScope sPartsOf) (by decide +kernel)) (fun _ _ _ _ _ => pg_name (i := 1) scPartsOf.nd rfl (Or.inl rfl)) (fun _ _ _ _ _ => pts_nil) (fun _ _ _ _ _ => (pe_ix (r := rIxT K) ix_tup (pv 0) (pv 1) (fun _ _ => rfl)))) pa_nil))))), ?_⟩
    refine ⟨_, rfl, u, t, rfl, hu1, good, fun H1 s1 => ⟨(k H1 s1).1, fun zs ez => ?_⟩⟩
    obtain ⟨a, xs, rfl, hs, hx⟩ := mx_at hu1
    have hs1 := s1.tup hs
    have hx1 := DpAll.same s1 hx
    have hkey := WTree.kv_at t
    have four := WTree.shape_four t
    refine ⟨_, rfl, a, _, 0, _, rfl, rfl, hs1, atI_nat (j := 0) rfl, Sum.inr t.word, .str t.shape, rfl, rfl, hkey, t.shape, rfl, Nat.le_trans four (by decide), fun D H2 s2 hD => ?_⟩
    have plc : plcG t.shape t.shape.cps.size = t.kids.map fun k => (k.1 : Int) := WTree.places t
    rw [plc] at hD
    have few : t.kids.length ≤ 2 := by cases t <;> simp [Mx.kids]
    have hs2 := s2.tup hs1
    have hx2 := DpAll.same s2 hx1
    refine ⟨D, rfl, ⟨_, hD⟩, fun L nL => lc_it (walk_list (K := K) (a := D) (xs := (t.kids.map fun k => (k.1 : Int)).map V.int)) (fun i H' => ∃ us, H' L = some (.lst us) ∧ Same H2 H' ∧ DpAll K H' us ((t.kids.take i).map fun k => k.2.toD)) ⟨[], upd_same, Same.new nL, .nil⟩ (fun i H' _ ⟨_, _, s, _⟩ => s.seq hD) ?_ ?_⟩
    · rintro i x H6 H7 hi ⟨us, h6, s6, c6⟩ ⟨rfl, hx0⟩
      rw [List.getElem?_map, List.getElem?_map] at hx0
      obtain ⟨z, hz, rfl⟩ := Option.map_eq_some_iff.mp hx0
      obtain ⟨kd, hk, rfl⟩ := Option.map_eq_some_iff.mp hz
      have mem : kd ∈ t.kids := List.mem_of_getElem? hk
      have hx56 := DpAll.same s6 hx2
      have kat := WTree.kids_at t kd mem
      obtain ⟨child, hc, dc⟩ := DpAll.at (K := K) (H := H7) (vs := .str t.word :: xs) (ds := .str t.word :: t.rest) (.cons (.str _) hx56) kat
      have lu := c6.len
      rw [List.length_map, List.length_take] at lu
      refine ⟨rfl, ?_⟩
      dsimp only [tYes]
      rw [if_pos rfl]
      refine ⟨_, rfl, _, rfl, a, _, (kd.1 : Int), child, rfl, rfl, s6.tup hs2, atI_nat hc, us, h6, small1000 (by omega), us ++ [child], upd_same, same_upd nL s6, ?_⟩
      rw [take_snoc hk, List.map_append]
      refine DpAll.tk (tk_lst h6) ?_ (DpAll.app c6 (.cons dc .nil))
      rw [← List.map_append]
      exact flatKidsM _
    · rintro H6 ⟨us, h6, s6, c6⟩
      rw [List.length_map, List.length_map, List.take_length] at c6
      refine ⟨L, us, rfl, .inl ⟨SqL.of h6, fun p np => (k _ ((s1.trans s2).trans (s6.trans (Same.new np)))).2 zs ez p us (SqT.of upd_same) (DpAll.same (Same.new np) c6)⟩⟩
end
end CS
set_option Elab.async false
set_option maxRecDepth 100000
set_option maxHeartbeats 8000000
set_option linter.unusedVariables false
namespace CS
open PySem L2
section
variable {P : Program} {w : World} {K : PySem.W.Frag} {mg : Str → Option Value} {base : Heap}
def spShOfZ (K : PySem.W.Frag) : Sp := fun vs H Q _ => ∃ d kvs g, vs = [.ref d] ∧ H d = some (.dK kvs) ∧ DPr K H kvs g ∧ (g.map (·.1)).Nodup ∧ g.length ≤ 40 ∧ ∀ H' r ys, Same H H' → ShZ K H' r ys → IsS g ys → Q (.ref r) H'
theorem ok_law_share_ofZ {f : Addr} {fd : FuncData} (F : Df K mg "_law_share_of" sLawShareOf ["hefts"] f fd) (T : Bt mg) : FnOk P w K mg base CX0 1 f fd ["hefts"] (spShOfZ K) := by
  refine F.F.ok scLawShareOf (fun vs H Q E h => ?_) (fun cdv A outer s H vs Q E hr h => ?_)
  · obtain ⟨d, kvs, g, rfl, _⟩ := h
    rfl
  · obtain ⟨d, kvs, g, rfl, hdk, hD, hn, hlen, k⟩ := h
    have hu := hu_of hr
    refine ⟨_, pss_one (ps_ret (pe_callTy call_tuple_ofZ (by rfl) T.tuple (by decide +kernel) (pa_cons (pe_lc (own := [("mark", 1)]) (g := gName 1) (tt := tTest (tOp (rNeD K) (tDGet (tVar 0) (tVar 1)) (tTup (tCons (tC (.int 0)) (tCons (tC (.int 1)) tNil))))) rfl scLawShareOf.nd (pi_list (pe_callB (call_sortedDI rfl) (by rfl) T.sorted (by decide +kernel) (pa_cons (pv 0) pa_nil))) (blkOk_by (N := ["hefts", "mark"]) (sc := defScope sLawShareOf) (by decide +kernel)) (fun _ _ _ _ _ => pg_name (i := 1) scLawShareOf.nd rfl (Or.inl rfl)) (fun _ _ _ _ _ => pts_one (pt_cmpR (op_neD hr.units) (pe_dget hu (pv 0) (pv 1) (fun _ _ => rfl)) (pe_tup (pa_cons pe_int (pa_cons pe_int pa_nil))) (nomark _))) (fun _ _ _ _ _ => pe_tup (pa_cons (pv 1) (pa_cons (pe_dget hu (pv 0) (pv 1) (fun _ _ => rfl)) pa_nil)))) pa_nil))), ?_⟩
    refine ⟨_, rfl, d, kvs, g.map (·.1), rfl, .inl hdk, hD.keys, by rw [List.length_map]; omega, fun ys t perm srt ht => ?_⟩
    have k1 := Same.new (o := .lst (ys.map V.int)) ht
    have hlen2 : ys.length ≤ 40 := by
      rw [perm.length_eq, List.length_map]
      exact hlen
    have hT : (upd H t (.lst (ys.map V.int))) t = some (.lst (ys.map V.int)) := upd_same
    have hD2 := hD.tk (tk_same k1)
    have hdk2 := k1 _ _ hdk
    generalize upd H t (.lst (ys.map V.int)) = H2 at *
    refine ⟨t, rfl, ⟨_, SqL.of hT⟩, fun D hDn => lc_list (K := K) (a := t) (xs := ys.map V.int) (fun i H' => LcP K H2 D ((((ys.take i).filter fun k => decide (lk g k ≠ (0, 1))).map fun k => (k, lk g k))) H') (LcP.start hDn) (fun i H' _ ⟨_, _, s3, _⟩ => SqL.of (s3 _ _ hT)) ?_ ?_⟩
    · rintro i v H' hi ⟨us, h1, s3, hf⟩
      rw [List.getElem?_map] at hi
      obtain ⟨m, hmi, rfl⟩ : ∃ m, ys[i]? = some m ∧ v = V.int m := by
        cases e : ys[i]? with
        | none => rw [e] at hi; cases hi
        | some z => rw [e] at hi; exact ⟨z, rfl, (Option.some.inj hi).symm⟩
      have hmem : m ∈ g.map (·.1) := perm.mem_iff.mp (List.mem_of_getElem? hmi)
      obtain ⟨r, g1, g2⟩ := (hD2.tk (tk_same s3)).val m hmem
      have hg : DGet H' d (.int m) (some (.ref r)) := by
        rw [← g1]
        exact DGet.k (k := Sum.inl m) (s3 _ _ hdk2)
      refine ⟨rfl, ?_⟩
      refine ⟨_, rfl, _, rfl, d, _, rfl, hg, (by show 2 ≤ sizeLine; decide), fun t0 ht0 => ?_⟩
      have k0 := Same.new (o := .tup [V.int 0, V.int 1]) ht0
      refine ⟨frD (lk g m), frD (0, 1), ftDp (k0.tup g2), ftDp (FT.new (x := (0, 1))), rfl, rfl, _, rfl, ?_⟩
      dsimp only
      rw [eqvFr]
      have hsz : us.length ≤ 1000 := by
        rw [hf.len, List.length_map]
        have := List.length_filter_le (fun k => decide (lk g k ≠ (0, 1))) (ys.take i)
        rw [List.length_take] at this
        omega
      have hgk : DGet (upd H' t0 (.tup [V.int 0, V.int 1])) d (.int m) (some (.ref r)) := by
        rw [← g1]
        exact DGet.k (k := Sum.inl m) (k0 _ _ (s3 _ _ hdk2))
      by_cases hc : lk g m = (0, 1)
      · rw [if_neg (by simp [hc])]
        show LcP K H2 D _ _
        rw [take_snoc hmi, List.filter_append, List.map_append, List.filter_cons_of_neg (by simp [hc])]
        show LcP K H2 D (_ ++ []) _
        rw [List.append_nil]
        exact ⟨us, k0 _ _ h1, s3.trans k0, hf.tk (tk_same k0)⟩
      · rw [if_pos (by simp [hc])]
        refine ⟨_, rfl, _, rfl, _, rfl, d, _, rfl, hgk, (by show 2 ≤ sizeLine; decide), fun t2 ht2 => ?_⟩
        have k2 := k0.trans (Same.new (o := .tup [V.int m, .ref r]) ht2)
        refine ⟨us, k2 _ _ h1, small1000 hsz, ?_⟩
        show LcP K H2 D _ _
        rw [take_snoc hmi, List.filter_append, List.map_append, List.filter_cons_of_pos (by simp [hc])]
        exact LcP.step hDn (k2 _ _ h1) (s3.trans k2) (hf.tk (tk_same k2)) (SqT.of upd_same) (k2.tup g2)
    · rintro H' ⟨us, h1, s3, hf⟩
      rw [List.length_map, List.take_length] at hf
      refine ⟨D, us, rfl, SqL.of h1, fun l o hl ho => ?_⟩
      have k3 := Same.new (o := .frz o (.tup us)) hl
      exact k _ l _ (k1.trans (s3.trans k3)) ⟨us, TupZ.new ho, hf.tk (tk_same k3)⟩ (isS_of perm hn srt)
end
end CS
set_option Elab.async false
set_option maxRecDepth 100000
set_option maxHeartbeats 8000000
set_option linter.unusedVariables false
set_option pp.maxSteps 6000
/-! the law's own words: joined, spread, drawn -/
namespace CS
open PySem L2 RZ
theorem isS_self (xs ys : Shx) (hn : (xs.map (·.1)).Nodup) (hx : Pos xs) (hy : Pos ys) : IsS (gat xs ys) (gS (xs ++ ys)) := by
  have h := gS_isS (xs ++ ys)
  refine ⟨h.1, fun k x => ?_⟩
  rw [h.2 k x]
  have e : lk (gat xs ys) k = lk (gat [] (xs ++ ys)) k := by
    have v1 := gat_val (f := xs) (ps := ys) (fun k => lk_frM hx.fr k) hy.fr k
    have v2 := gat_val0 (ps := xs ++ ys) (hx.app hy).fr k
    exact val_inj v1.1 v2.1 (by rw [v1.2, v2.2, vfp_app, vfp_nodup hn])
  rw [e]
section
variable {P : Program} {w : World} {K : PySem.W.Frag} {mg : Str → Option Value} {base : Heap}
/-- a list of one share, or of none -/
def LRes (K : PySem.W.Frag) (H : Hp) (l : Addr) : Option Shx → Prop
  | some zs => ∃ r, SqL K H l [V.ref r] ∧ ShZ K H r zs
  | none => SqL K H l []


def spJoin (K : PySem.W.Frag) : Sp := fun vs H Q _ => ∃ p q xs ys, vs = [.ref p, .ref q] ∧ ShZ K H p xs ∧ ShAt K H q ys ∧ (xs.map (·.1)).Nodup ∧ AllF 80 xs ∧ AllF 80 ys ∧ xs.length ≤ 16 ∧ ys.length ≤ 16 ∧ Pos xs ∧ Pos ys ∧
  ∀ H' l, Same H H' → LRes K H' l (joinM (xs ++ ys)) → Q (.ref l) H'
abbrev nsLawJoined : List Str := ["one", "other", "hefts", "mark", "heft"]
theorem scLawJoined : FnScope nsLawJoined ["one", "other"] (defScope sLawJoined) := ⟨rfl, rfl, rfl, by decide +kernel, rfl, by decide +kernel, by decide +kernel⟩
theorem ok_law_joined {f : Addr} {fd : FuncData} (F : Df K mg "_law_joined" sLawJoined ["one", "other"] f fd)
    {f1 : Addr} {fd1 : FuncData} (D1 : Df K mg "_law_share_of" sLawShareOf ["hefts"] f1 fd1) (G1 : FnOk P w K mg base CX0 1 f1 fd1 ["hefts"] (spShOfZ K))
    {f2 : Addr} {fd2 : FuncData} (D2 : Df K mg "_law_plus" sLawPlus ["one", "other"] f2 fd2) (G2 : FnOk P w K mg base CX0 2 f2 fd2 ["one", "other"] (spF2 K (fun _ _ => True) fadd))
    (T : Bt mg) : FnOk P w K mg base CX0 3 f fd ["one", "other"] (spJoin K) := by
  refine F.F.ok scLawJoined (fun vs H Q E h => ?_) (fun cdv A outer s H vs Q E hr h => ?_)
  · obtain ⟨p, q, xs, ys, rfl, _⟩ := h
    rfl
  · obtain ⟨p, q, xs, ys, rfl, hz, hq, hn, ax, ay, lx, ly, px, py, k⟩ := h
    have hu := hu_of hr
    refine ⟨_, (pss_cons (ps_set (i := 2) scLawJoined.nd rfl (Or.inl rfl) (pe_callTy (call_dictZ rfl) (by rfl) T.dict (by decide +kernel) (pa_cons (pv 0) pa_nil)))
      (pss_cons (ps_for PassesOwn.never rfl (pi_tup (pv 1)) (pg_tup rfl (pgs_cons (pg_name (i := 3) scLawJoined.nd rfl (Or.inl rfl)) (pgs_cons (pg_name (i := 4) scLawJoined.nd rfl (Or.inl rfl)) pgs_nil))) (pss_one (ps_dput hu (pv 2) (pv 3) (pe_call G2 (hr.mono (by decide)) (by rfl) D2.g D2.F.kp D2.b .nil pass0 (pa_cons (pe_dget2 hu (pv 2) (pv 3) (pe_tup (pa_cons pe_int (pa_cons pe_int pa_nil))) ⟨rfl, rfl, rfl, rfl⟩) (pa_cons (pv 4) pa_nil))) rfl)))
      (pss_one (ps_ret (pe_ifExp (pt_cmpR op_le (pe_callB call_lenD (by rfl) T.len PySem.boot_len (pa_cons (pv 2) pa_nil)) pe_int (nomark _)) (pe_lst (pa_cons (pe_call G1 (hr.mono (by decide)) (by rfl) D1.g D1.F.kp D1.b .nil pass0 (pa_cons (pv 2) pa_nil)) pa_nil)) (pe_lst pa_nil)))))), ?_⟩
    obtain ⟨vs, tz, hP⟩ := hz
    obtain ⟨us, hu2, hR⟩ := hq
    obtain ⟨ps, kvs, e, hp, mk⟩ := dpr_merge hP
    subst e
    refine ⟨_, rfl, p, ps, kvs, rfl, tz, hp, fun d hd => ?_⟩
    have s0 := Same.new (o := .dK (mergeK [] kvs)) hd
    have D0 : DPr K (upd H d (.dK (mergeK [] kvs))) (mergeK [] kvs) xs := (mk [] [] .nil hn).tk (tk_same s0)
    refine ⟨_, rfl, q, rfl, ⟨_, s0.tup hu2⟩, for_tup (K := K) (a := q) (xs := us) (fun i σ H' => ∃ u v kvs, σ = [some (.ref p), some (.ref q), some (.ref d), u, v] ∧ Same H H' ∧ H' d = some (.dK kvs) ∧ DPr K H' kvs (gat xs (ys.take i))) ⟨none, none, _, rfl, s0, upd_same, D0⟩ (fun i σ H' _ ⟨_, _, _, _, s1, _⟩ => s1.tup hu2) ?_ ?_⟩
    · rintro i v σ H' hi ⟨u1, u2, kvs, rfl, s1, hdk, hD⟩
      obtain ⟨qq, r, m, x, rfl, hxi, hqq, hr'⟩ := hR.get hi
      have hi2 : i < ys.length := (List.getElem?_eq_some_iff.mp hxi).1
      have hxm := ay _ (List.mem_of_getElem? hxi)
      refine ⟨qq, _, rfl, s1.tup hqq, rfl, _, _, rfl, _, _, rfl, rfl, ?_⟩
      have hz := gat_frS (n := 80) ax (ay.take (i := i)) (by decide) m
      refine ⟨_, rfl, d, rfl, .inl ⟨kvs, .inl hdk⟩, _, rfl, (by show 2 ≤ sizeLine; decide), fun t0 ht0 => ?_⟩
      have k0 := Same.new (o := .tup [V.int 0, V.int 1]) ht0
      obtain ⟨o, a, g1, g2, g3⟩ := dget_or (aN := t0) (k0 _ _ hdk) (hD.tk (tk_same k0)) (FT.new (x := (0, 1))) m
      refine ⟨o, g1, ?_⟩
      rw [g2]
      refine ⟨_, rfl, a, r, _, x, rfl, g3, k0.tup (s1.tup hr'), hz.1, hxm.1, hz.2.up (by rw [List.length_take]; omega), hxm.2.up (by decide), trivial, fun t ht => ?_⟩
      have k1 := k0.trans (Same.new (o := .tup [.int (fadd (lk (gat xs (ys.take i)) m) x).1, .int (fadd (lk (gat xs (ys.take i)) m) x).2]) ht)
      have hl : kvs.length < sizeLine := by
        refine small1000 ?_
        rw [hD.len]
        have := gat_len (ys.take i) xs
        rw [List.length_take] at this
        omega
      refine ⟨_, rfl, _, rfl, d, _, rfl, DPut.k (k := Sum.inl m) (k1 _ _ hdk) hl, ?_⟩
      refine ⟨_, _, _, rfl, same_upd hd (s1.trans k1), upd_same, ?_⟩
      rw [take_snoc hxi, gat_snoc]
      exact ((hD.tk (tk_same k1)).put (gat_nodup _ _ hn) FT.new).tk (tk_dk (k1 _ _ hdk))
    · rintro σ H1 ⟨u1, u2, kvs, rfl, s1, hdk, hD⟩
      rw [hR.len, List.take_length] at hD
      have lg := gat_len ys xs
      have hl : (kvs.length : Int) = ((gat xs ys).length : Int) := by rw [hD.len]
      obtain ⟨zs0, is0⟩ : ∃ zs, IsS (gat xs ys) zs := ⟨_, isS_self xs ys hn px py⟩
      have j0 := gat_join hn px py is0
      refine ⟨_, rfl, d, kvs, rfl, hdk, _, _, rfl, rfl, _, rfl, ?_⟩
      rw [hl, j0.2, j0.1]
      by_cases c : (gS (xs ++ ys)).length ≤ 8
      · rw [decide_eq_true (show ((gS (xs ++ ys)).length : Int) ≤ 8 by omega)]
        refine iteT ⟨_, rfl, d, kvs, _, rfl, hdk, hD, gat_nodup _ _ hn, by omega, fun H2 r zs s2 hr2 is2 => ⟨(by show 1 ≤ sizeLine; decide), fun l nl => ?_⟩⟩
        have sl := Same.new (o := .lst [V.ref r]) nl
        refine k _ l ((s1.trans s2).trans sl) ?_
        unfold joinM
        rw [if_pos c]
        refine ⟨r, SqL.of upd_same, ?_⟩
        rw [← (gat_join hn px py is2).1]
        exact hr2.same sl
      · rw [decide_eq_false (show ¬ ((gS (xs ++ ys)).length : Int) ≤ 8 by omega)]
        refine iteF ⟨(by show 0 ≤ sizeLine; decide), fun l nl => ?_⟩
        refine k _ l (s1.trans (Same.new (o := .lst []) nl)) ?_
        unfold joinM
        rw [if_neg c]
        exact SqL.of upd_same
end
end CS
set_option Elab.async false
set_option maxRecDepth 100000
set_option maxHeartbeats 8000000
set_option linter.unusedVariables false
set_option pp.maxSteps 6000
/-! the law's own words: spread, drawn -/
namespace CS
open PySem L2 RZ
theorem DPr.drop {K : PySem.W.Frag} {H : Hp} (m : Int) : ∀ {kvs : List (Key × V)} {f : Shx}, DPr K H kvs f → DPr K H (dropK kvs (Sum.inl m : Key)) (rmv f m)
  | _, _, .nil => .nil
  | _, _, @DPr.cons _ _ k r x kvs f a b => by
    have t := DPr.drop m b
    unfold dropK rmv at t ⊢
    by_cases c : k = m
    · rw [List.filter_cons_of_neg (by simp [c]), List.filter_cons_of_neg (by simp [c])]
      exact t
    · rw [List.filter_cons_of_pos (by simp [c]), List.filter_cons_of_pos (by simp [c])]
      exact .cons a t
section
variable {P : Program} {w : World} {K : PySem.W.Frag} {mg : Str → Option Value} {base : Heap}
def spLSpr (K : PySem.W.Frag) : Sp := fun vs H Q _ => ∃ p xs m l h d v, vs = [.ref p, .int m, .int l, .int h] ∧ ShZ K H p xs ∧ Shr xs ∧ SzM d v xs ∧ d + v ≤ 67 ∧ l < m ∧ m < h ∧ -100 ≤ l ∧ h ≤ 100 ∧
  ∀ H' r, Same H H' → LRes K H' r (okO (some (gS (xs ++ sprM xs m l h)))) → Q (.ref r) H'
abbrev nsLawSpread : List Str := ["one", "mark", "low", "high", "hefts", "heft", "up", "more"]
theorem scLawSpread : FnScope nsLawSpread ["one", "mark", "low", "high"] (defScope sLawSpread) := ⟨rfl, rfl, rfl, by decide +kernel, rfl, by decide +kernel, by decide +kernel⟩
theorem ok_law_spread {f : Addr} {fd : FuncData} (F : Df K mg "_law_spread" sLawSpread ["one", "mark", "low", "high"] f fd)
    {f1 : Addr} {fd1 : FuncData} (D1 : Df K mg "_law_joined" sLawJoined ["one", "other"] f1 fd1) (G1 : FnOk P w K mg base CX0 3 f1 fd1 ["one", "other"] (spJoin K))
    {f2 : Addr} {fd2 : FuncData} (D2 : Df K mg "_law_share_of" sLawShareOf ["hefts"] f2 fd2) (G2 : FnOk P w K mg base CX0 1 f2 fd2 ["hefts"] (spShOfZ K))
    {f3 : Addr} {fd3 : FuncData} (D3 : Df K mg "_law_times" sLawTimes ["one", "other"] f3 fd3) (G3 : FnOk P w K mg base CX0 2 f3 fd3 ["one", "other"] (spF2 K (fun _ _ => True) fmul))
    {f4 : Addr} {fd4 : FuncData} (D4 : Df K mg "_law_less" sLawLess ["one", "other"] f4 fd4) (G4 : FnOk P w K mg base CX0 2 f4 fd4 ["one", "other"] (spF2 K (fun _ _ => True) fsub))
    {f5 : Addr} {fd5 : FuncData} (D5 : Df K mg "_law_ratio" sLawRatio ["top", "bottom"] f5 fd5) (G5 : FnOk P w K mg base CX0 1 f5 fd5 ["top", "bottom"] (spLowP))
    (T : Bt mg) : FnOk P w K mg base CX0 4 f fd ["one", "mark", "low", "high"] (spLSpr K) := by
  refine F.F.ok scLawSpread (fun vs H Q E h => ?_) (fun cdv A outer s H vs Q E hr h => ?_)
  · obtain ⟨p, xs, m, l, h, d, v, rfl, _⟩ := h
    rfl
  · obtain ⟨p, xs, m, l, h, d, v, rfl, hz, s, sz, dv, lm, mh, l1, h1, k⟩ := h
    have hu := hu_of hr
    refine ⟨_, (pss_cons (ps_set (i := 4) scLawSpread.nd rfl (Or.inl rfl) (pe_callTy (call_dictZ rfl) (by rfl) T.dict (by decide +kernel) (pa_cons (pv 0) pa_nil)))
      (pss_cons (ps_if (pt_cmp (pc_dnotin hu (pv 1) (pv 4))) (pss_one (ps_ret (pe_lst (pa_cons (pv 0) pa_nil)))) pss_nil)
      (pss_cons (ps_set (i := 5) scLawSpread.nd rfl (Or.inl rfl) (pe_dpop1 (pv 4) (pv 1) ⟨rfl, rfl, rfl, rfl⟩))
      (pss_cons (ps_set (i := 6) scLawSpread.nd rfl (Or.inl rfl) (pe_call G5 (hr.mono (by decide)) (by rfl) D5.g D5.F.kp D5.b .nil pass0 (pa_cons (pe_op op_sub (pv 1) (pv 2)) (pa_cons (pe_op op_sub (pv 3) (pv 2)) pa_nil))))
      (pss_cons (ps_set (i := 7) scLawSpread.nd rfl (Or.inl rfl) (pe_tup (pa_cons (pe_tup (pa_cons (pv 2) (pa_cons (pe_call G3 (hr.mono (by decide)) (by rfl) D3.g D3.F.kp D3.b .nil pass0 (pa_cons (pv 5) (pa_cons (pe_call G4 (hr.mono (by decide)) (by rfl) D4.g D4.F.kp D4.b .nil pass0 (pa_cons (pe_tup (pa_cons pe_int (pa_cons pe_int pa_nil))) (pa_cons (pv 6) pa_nil))) pa_nil))) pa_nil))) (pa_cons (pe_tup (pa_cons (pv 3) (pa_cons (pe_call G3 (hr.mono (by decide)) (by rfl) D3.g D3.F.kp D3.b .nil pass0 (pa_cons (pv 5) (pa_cons (pv 6) pa_nil))) pa_nil))) pa_nil))))
      (pss_one (ps_ret (pe_call G1 (hr.mono (by decide)) (by rfl) D1.g D1.F.kp D1.b .nil pass0 (pa_cons (pe_call G2 (hr.mono (by decide)) (by rfl) D2.g D2.F.kp D2.b .nil pass0 (pa_cons (pv 4) pa_nil)) (pa_cons (pv 7) pa_nil)))))))))), ?_⟩
    have nx := s.nd
    have a80 : AllF 80 xs := sz.all (by omega)
    have big : SzM (d + 8) v (xs ++ sprM xs m l h) := (SzM.sprd sz lm mh l1 h1 s.1).1
    have hz0 := hz
    obtain ⟨vs, tz, hP⟩ := hz
    obtain ⟨ps, kvs, e, hp, mk⟩ := dpr_merge hP
    subst e
    refine ⟨_, rfl, p, ps, kvs, rfl, tz, hp, fun dd hd => ?_⟩
    have s0 := Same.new (o := .dK (mergeK [] kvs)) hd
    have D0 : DPr K (upd H dd (.dK (mergeK [] kvs))) (mergeK [] kvs) xs := (mk [] [] .nil nx).tk (tk_same s0)
    have hdk : (upd H dd (.dK (mergeK [] kvs))) dd = some (.dK (mergeK [] kvs)) := upd_same
    generalize mergeK [] kvs = kv at *
    generalize upd H dd (.dK kv) = H1 at *
    by_cases hm : m ∈ xs.map (·.1)
    · obtain ⟨r0, g1, g2⟩ := D0.val m hm
      have dg : DGet H1 dd (.int m) (some (.ref r0)) := by rw [← g1]; exact DGet.k (k := Sum.inl m) hdk
      refine ⟨_, rfl, _, rfl, dd, _, rfl, dg, _, rfl, iteF ⟨_, rfl, dd, rfl, .inl ⟨_, .inl hdk⟩, _, rfl, kv, Sum.inl m, .ref r0, hdk, rfl, g1, ?_⟩⟩
      have s1 : Same H (upd H1 dd (.dK (dropK kv (Sum.inl m : Key)))) := same_upd hd s0
      have D1 : DPr K (upd H1 dd (.dK (dropK kv (Sum.inl m : Key)))) (dropK kv (Sum.inl m : Key)) (rmv xs m) := (D0.drop m).tk (tk_dk hdk)
      have w1 : FT K (upd H1 dd (.dK (dropK kv (Sum.inl m : Key)))) r0 (lk xs m) := tk_dk hdk _ _ g2
      have hdk1 : (upd H1 dd (.dK (dropK kv (Sum.inl m : Key)))) dd = some (.dK (dropK kv (Sum.inl m : Key))) := upd_same
      generalize upd H1 dd (.dK (dropK kv (Sum.inl m : Key))) = H2 at *
      have fw := lk_fr a80 (by decide) m
      have n0 : h - l ≠ 0 := by omega
      have c1 : (m - l).natAbs < 2 ^ 8 := by omega
      have c2 : (h - l).natAbs < 2 ^ 8 := by omega
      have fu := low_fr (t := m - l) n0
      have su := low_sz n0 c1 c2
      have f11 : Fr ((1, 1) : Fx) := ⟨by decide, by decide⟩
      have s11 : Sz 2 ((1, 1) : Fx) := ⟨by decide, by decide⟩
      refine ⟨_, rfl, _, rfl, _, _, rfl, rfl, _, rfl, _, rfl, _, _, rfl, rfl, m - l, h - l, rfl, by omega, lt_up c1 (by decide), lt_up c2 (by decide), fun up nu => ?_⟩
      have au := Same.new (o := .tup [V.int (low (m - l) (h - l)).1, V.int (low (m - l) (h - l)).2]) nu
      have hu0 : FT K (upd H2 up (.tup [V.int (low (m - l) (h - l)).1, V.int (low (m - l) (h - l)).2])) up (low (m - l) (h - l)) := FT.new
      generalize upd H2 up (.tup [V.int (low (m - l) (h - l)).1, V.int (low (m - l) (h - l)).2]) = H3 at *
      refine ⟨_, rfl, _, rfl, (by show 2 ≤ sizeLine; decide), fun t1 n1 => ?_⟩
      have b1 := Same.new (o := .tup [V.int 1, V.int 1]) n1
      have h11 : FT K (upd H3 t1 (.tup [V.int 1, V.int 1])) t1 (1, 1) := FT.new (x := (1, 1))
      generalize upd H3 t1 (.tup [V.int 1, V.int 1]) = H4 at *
      refine ⟨_, rfl, t1, up, _, _, rfl, h11, b1.tup hu0, f11, fu, s11.up (by decide), su.up (by decide), trivial, fun t2 n2 => ?_⟩
      have b2 := Same.new (o := .tup [V.int (fsub (1, 1) (low (m - l) (h - l))).1, V.int (fsub (1, 1) (low (m - l) (h - l))).2]) n2
      have hs2 : FT K (upd H4 t2 (.tup [V.int (fsub (1, 1) (low (m - l) (h - l))).1, V.int (fsub (1, 1) (low (m - l) (h - l))).2])) t2 (fsub (1, 1) (low (m - l) (h - l))) := FT.new
      have c3 : (h - m).natAbs < 2 ^ 8 := by omega
      have fs : Fr (fsub (1, 1) (low (m - l) (h - l))) ∧ Sz 8 (fsub (1, 1) (low (m - l) (h - l))) := by rw [low_one_sub lm mh]; exact ⟨low_fr n0, low_sz n0 c3 c2⟩
      generalize upd H4 t2 (.tup [V.int (fsub (1, 1) (low (m - l) (h - l))).1, V.int (fsub (1, 1) (low (m - l) (h - l))).2]) = H5 at *
      have e25 := (au.trans b1).trans b2
      refine ⟨r0, t2, _, _, rfl, e25.tup w1, hs2, fw.1, fs.1, fw.2.up (by decide), fs.2.up (by decide), trivial, fun t3 n3 => ?_⟩
      have b3 := Same.new (o := .tup [V.int (fmul (lk xs m) (fsub (1, 1) (low (m - l) (h - l)))).1, V.int (fmul (lk xs m) (fsub (1, 1) (low (m - l) (h - l)))).2]) n3
      have hw3 : FT K (upd H5 t3 (.tup [V.int (fmul (lk xs m) (fsub (1, 1) (low (m - l) (h - l)))).1, V.int (fmul (lk xs m) (fsub (1, 1) (low (m - l) (h - l)))).2])) t3 (fmul (lk xs m) (fsub (1, 1) (low (m - l) (h - l)))) := FT.new
      generalize upd H5 t3 (.tup [V.int (fmul (lk xs m) (fsub (1, 1) (low (m - l) (h - l)))).1, V.int (fmul (lk xs m) (fsub (1, 1) (low (m - l) (h - l)))).2]) = H6 at *
      refine ⟨(by show 2 ≤ sizeLine; decide), fun t4 n4 => ?_⟩
      have b4 := Same.new (o := .tup [V.int l, V.ref t3]) n4
      have hp4 : SqT K (upd H6 t4 (.tup [V.int l, V.ref t3])) t4 [V.int l, V.ref t3] := SqT.of upd_same
      generalize upd H6 t4 (.tup [V.int l, V.ref t3]) = H7 at *
      have e27 := (e25.trans b3).trans b4
      have e37 := ((b1.trans b2).trans b3).trans b4
      refine ⟨_, rfl, _, rfl, _, rfl, r0, up, _, _, rfl, e27.tup w1, e37.tup hu0, fw.1, fu, fw.2.up (by decide), su.up (by decide), trivial, fun t5 n5 => ?_⟩
      have b5 := Same.new (o := .tup [V.int (fmul (lk xs m) (low (m - l) (h - l))).1, V.int (fmul (lk xs m) (low (m - l) (h - l))).2]) n5
      have hw5 : FT K (upd H7 t5 (.tup [V.int (fmul (lk xs m) (low (m - l) (h - l))).1, V.int (fmul (lk xs m) (low (m - l) (h - l))).2])) t5 (fmul (lk xs m) (low (m - l) (h - l))) := FT.new
      generalize upd H7 t5 (.tup [V.int (fmul (lk xs m) (low (m - l) (h - l))).1, V.int (fmul (lk xs m) (low (m - l) (h - l))).2]) = H8 at *
      refine ⟨(by show 2 ≤ sizeLine; decide), fun t6 n6 => ?_⟩
      have b6 := Same.new (o := .tup [V.int h, V.ref t5]) n6
      have hp6 : SqT K (upd H8 t6 (.tup [V.int h, V.ref t5])) t6 [V.int h, V.ref t5] := SqT.of upd_same
      generalize upd H8 t6 (.tup [V.int h, V.ref t5]) = H9 at *
      refine ⟨(by show 2 ≤ sizeLine; decide), fun t7 n7 => ?_⟩
      have b7 := Same.new (o := .tup [V.ref t4, V.ref t6]) n7
      have hq7 : SqT K (upd H9 t7 (.tup [V.ref t4, V.ref t6])) t7 [V.ref t4, V.ref t6] := SqT.of upd_same
      generalize upd H9 t7 (.tup [V.ref t4, V.ref t6]) = HA at *
      have e7A := (b5.trans b6).trans b7
      have e2A := e27.trans e7A
      refine ⟨_, rfl, dd, _, rmv xs m, rfl, e2A _ _ hdk1, D1.tk (tk_same e2A), rmv_nd m nx, by have := s.1; have := List.length_filter_le (fun a : Int × Fx => decide (a.1 ≠ m)) xs; unfold rmv; omega, fun HB r8 ys s8 hz8 is8 => ?_⟩
      have ey : ys = rmv xs m := is8.uniq (isS_asc (rmv_asc m s.2.2) (rmv_pos m s.pos)) fun _ => rfl
      subst ey
      have l8 : (rmv xs m).length ≤ 8 := by have := s.1; have := List.length_filter_le (fun a : Int × Fx => decide (a.1 ≠ m)) xs; unfold rmv; omega
      have eAB := e7A.trans s8
      have sh7 : ShAt K HB t7 (sprL xs m l h) := ⟨_, s8.tup hq7, .cons (eAB.tup hp4) (((b4.trans e7A).trans s8).tup hw3) (.cons ((b7.trans s8).tup hp6) (((b6.trans b7).trans s8).tup hw5) .nil)⟩
      have aL : AllF 80 (sprL xs m l h) := fun a ha => by
        have ha2 : a ∈ xs ++ sprM xs m l h := by
          unfold sprL at ha
          rw [low_one_sub lm mh] at ha
          refine List.mem_append_right _ ?_
          unfold sprM
          simp only [List.mem_cons, List.not_mem_nil, or_false] at ha ⊢
          rcases ha with rfl | rfl
          · exact .inr (.inl rfl)
          · exact .inr (.inr rfl)
        exact big.all (n := 80) (by omega) a ha2
      refine ⟨_, rfl, r8, t7, rmv xs m, sprL xs m l h, rfl, hz8, sh7, rmv_nd m nx, fun a ha => a80 a (mem_rmv.mp ha).1, aL, by omega, (by show 2 ≤ 16; decide), rmv_pos m s.pos, sprL_pos s lm mh hm, fun HC r9 s9 hr9 => ?_⟩
      rw [spr_in s lm mh l1 h1 hm] at hr9
      exact k HC r9 (((s1.trans e2A).trans s8).trans s9) hr9
    · have dg : DGet H1 dd (.int m) none := by rw [← D0.non m hm]; exact DGet.k (k := Sum.inl m) hdk
      refine ⟨_, rfl, _, rfl, dd, _, rfl, dg, _, rfl, iteT ⟨_, rfl, (by show 1 ≤ sizeLine; decide), fun r9 n9 => ?_⟩⟩
      have b9 := Same.new (o := .lst [V.ref p]) n9
      refine k _ r9 (s0.trans b9) ?_
      rw [← spr_out s lm mh hm]
      exact ⟨p, SqL.of upd_same, hz0.same (s0.trans b9)⟩
end
end CS
set_option Elab.async false
set_option maxRecDepth 100000
set_option maxHeartbeats 8000000
set_option linter.unusedVariables false
set_option pp.maxSteps 6000
/-! the law's own words: drawn -/
namespace CS
open PySem L2 RZ
section
variable {P : Program} {w : World} {K : PySem.W.Frag} {mg : Str → Option Value} {base : Heap}
theorem scLawOver : FnScope ["one", "other"] ["one", "other"] (defScope sLawOver) := ⟨rfl, rfl, rfl, by decide +kernel, rfl, by decide +kernel, by decide +kernel⟩
theorem ok_law_over {f : Addr} {fd : FuncData} (F : Df K mg "_law_over" sLawOver ["one", "other"] f fd) {fl : Addr} {fdl : FuncData} (L : Df K mg "_law_ratio" sLawRatio ["top", "bottom"] fl fdl) (T : Bt mg) : FnOk P w K mg base CX0 2 f fd ["one", "other"] (spF2 K (fun _ y => 0 < y.1) fdiv) := by
  have G : FnOk P w K mg base CX0 1 fl fdl ["top", "bottom"] spLowP := ok_law_ratio L T
  refine F.F.ok scLawOver (fun vs H Q E h => ?_) (fun cdv A outer s H vs Q E hr h => ?_)
  · obtain ⟨p, q, x, y, rfl, _⟩ := h
    rfl
  · obtain ⟨p, q, x, y, rfl, hp, hq, hx, hy, zx, zy, ok, k⟩ := h
    refine ⟨_, pss_one (ps_ret (pe_call G hr (by rfl) L.g L.F.kp L.b .nil pass0 (pa_cons (pe_op op_mulW (pe_fst 0) (pe_snd 1)) (pa_cons (pe_op op_mulW (pe_snd 0) (pe_fst 1)) pa_nil)))), ?_⟩
    refine ⟨p, x, rfl, hp, q, y, rfl, hq, _, _, rfl, rfl, cmw zx.1 zy.2, p, x, rfl, hp, q, y, rfl, hq, _, _, rfl, rfl, cmw zx.2 zy.1, _, _, rfl, Int.mul_pos hx.pos ok, lt_up (abs_mul_lt zx.1 zy.2) (by decide), lt_up (abs_mul_lt zx.2 zy.1) (by decide), k⟩
def spLDrw (K : PySem.W.Frag) : Sp := fun vs H Q _ => ∃ p xs l h d v, vs = [.ref p, .int l, .int h] ∧ ShZ K H p xs ∧ Shr xs ∧ SzM d v xs ∧ d + v ≤ 76 ∧ -100 ≤ l ∧ h ≤ 100 ∧
  ∀ H' r, Same H H' → LRes K H' r (okO (if innM xs l h = [] then some xs else if (meanM xs l h).2 = 1 then some (gS (drwL xs l h)) else none)) → Q (.ref r) H'
abbrev nsLawDrawn : List Str := ["one", "low", "high", "inner", "pair", "heft", "mean", "left"]
theorem scLawDrawn : FnScope nsLawDrawn ["one", "low", "high"] (defScope sLawDrawn) := ⟨rfl, rfl, rfl, by decide +kernel, rfl, by decide +kernel, by decide +kernel⟩
theorem ok_law_drawn {f : Addr} {fd : FuncData} (F : Df K mg "_law_drawn" sLawDrawn ["one", "low", "high"] f fd)
    {f1 : Addr} {fd1 : FuncData} (D1 : Df K mg "_law_joined" sLawJoined ["one", "other"] f1 fd1) (G1 : FnOk P w K mg base CX0 3 f1 fd1 ["one", "other"] (spJoin K))
    {f2 : Addr} {fd2 : FuncData} (D2 : Df K mg "_law_over" sLawOver ["one", "other"] f2 fd2) (G2 : FnOk P w K mg base CX0 2 f2 fd2 ["one", "other"] (spF2 K (fun _ y => 0 < y.1) fdiv))
    {f3 : Addr} {fd3 : FuncData} (D3 : Df K mg "_law_sum" sLawSum ["some"] f3 fd3) (G3 : FnOk P w K mg base CX0 3 f3 fd3 ["some"] (spSum K))
    {f4 : Addr} {fd4 : FuncData} (D4 : Df K mg "_law_times" sLawTimes ["one", "other"] f4 fd4) (G4 : FnOk P w K mg base CX0 2 f4 fd4 ["one", "other"] (spF2 K (fun _ _ => True) fmul))
    (T : Bt mg) : FnOk P w K mg base CX0 5 f fd ["one", "low", "high"] (spLDrw K) := by
  refine F.F.ok scLawDrawn (fun vs H Q E h => ?_) (fun cdv A outer s H vs Q E hr h => ?_)
  · obtain ⟨p, xs, l, h0, d, v, rfl, _⟩ := h
    rfl
  · obtain ⟨p, xs, l, h0, d, v, rfl, hz, s, sz, dv, l1, h1, k⟩ := h
    refine ⟨_, (pss_cons (ps_setLc (i := 3) (own := [("pair", 4)]) (g := gName 4) (tt := _) rfl scLawDrawn.nd rfl rfl (sw_true rfl rfl rfl (by decide +kernel)) (pi_tup (pv 0)) (blkOk_by (N := nsLawDrawn) (sc := defScope sLawDrawn) (by decide +kernel)) (fun _ _ _ _ _ => pg_name (i := 4) scLawDrawn.nd rfl (Or.inl rfl)) (fun _ _ _ _ _ => pts_one (pt_chain op_le op_le (pv 1) (pe_ix (r := rIxT K) ix_tup (pv 4) pe_int (fun _ _ => rfl)) (pv 2))) (fun _ _ _ _ _ => (pv 4)))
      (pss_cons (ps_if (pt_cmpR (op_eqD hr.units) (pv 3) (pe_lst pa_nil) (nomark _)) (pss_one (ps_ret (pe_lst (pa_cons (pv 0) pa_nil)))) pss_nil)
      (pss_cons (ps_set (i := 5) scLawDrawn.nd rfl (Or.inl rfl) (pe_call G3 (hr.mono (by decide)) (by rfl) D3.g D3.F.kp D3.b .nil pass0 (pa_cons (pe_lc (own := [("pair", 4)]) (g := gName 4) (tt := tYes) rfl scLawDrawn.nd (pi_list (pv 3)) (blkOk_by (N := nsLawDrawn) (sc := defScope sLawDrawn) (by decide +kernel)) (fun _ _ _ _ _ => pg_name (i := 4) scLawDrawn.nd rfl (Or.inl rfl)) (fun _ _ _ _ _ => pts_nil) (fun _ _ _ _ _ => (pe_ix (r := rIxT K) ix_tup (pv 4) pe_int (fun _ _ => rfl)))) pa_nil)))
      (pss_cons (ps_set (i := 6) scLawDrawn.nd rfl (Or.inl rfl) (pe_call G2 (hr.mono (by decide)) (by rfl) D2.g D2.F.kp D2.b .nil pass0 (pa_cons (pe_call G3 (hr.mono (by decide)) (by rfl) D3.g D3.F.kp D3.b .nil pass0 (pa_cons (pe_lc (own := [("pair", 4)]) (g := gName 4) (tt := tYes) rfl scLawDrawn.nd (pi_list (pv 3)) (blkOk_by (N := nsLawDrawn) (sc := defScope sLawDrawn) (by decide +kernel)) (fun _ _ _ _ _ => pg_name (i := 4) scLawDrawn.nd rfl (Or.inl rfl)) (fun _ _ _ _ _ => pts_nil) (fun _ _ _ _ _ => (pe_call G4 (hr.mono (by decide)) (by rfl) D4.g D4.F.kp D4.b .nil pass0 (pa_cons (pe_ix (r := rIxT K) ix_tup (pv 4) pe_int (fun _ _ => rfl)) (pa_cons (pe_tup (pa_cons (pe_ix (r := rIxT K) ix_tup (pv 4) pe_int (fun _ _ => rfl)) (pa_cons pe_int pa_nil))) pa_nil))))) pa_nil)) (pa_cons (pv 5) pa_nil))))
      (pss_cons (ps_set (i := 7) scLawDrawn.nd rfl (Or.inl rfl) (pe_callTy call_tuple_ofZ (by rfl) T.tuple (by decide +kernel) (pa_cons (pe_lc (own := [("pair", 4)]) (g := gName 4) (tt := _) rfl scLawDrawn.nd (pi_tup (pv 0)) (blkOk_by (N := nsLawDrawn) (sc := defScope sLawDrawn) (by decide +kernel)) (fun _ _ _ _ _ => pg_name (i := 4) scLawDrawn.nd rfl (Or.inl rfl)) (fun _ _ _ _ _ => pts_one (pt_not (pt_chain op_le op_le (pv 1) (pe_ix (r := rIxT K) ix_tup (pv 4) pe_int (fun _ _ => rfl)) (pv 2)))) (fun _ _ _ _ _ => (pv 4))) pa_nil)))
      (pss_one (ps_ret (pe_ifExp (pt_cmpR op_eq (pe_ix (r := rIxT K) ix_tup (pv 6) pe_int (fun _ _ => rfl)) pe_int (nomark _)) (pe_call G1 (hr.mono (by decide)) (by rfl) D1.g D1.F.kp D1.b .nil pass0 (pa_cons (pv 7) (pa_cons (pe_tup (pa_cons (pe_tup (pa_cons (pe_ix (r := rIxT K) ix_tup (pv 6) pe_int (fun _ _ => rfl)) (pa_cons (pv 5) pa_nil))) pa_nil)) pa_nil))) (pe_lst pa_nil))))))))), ?_⟩
    have hz0 := hz
    obtain ⟨vs, tz, hP⟩ := hz
    have hv := tz.sq (K := K)
    have lv := hP.len
    have l8 := s.1
    have li : (innM xs l h0).length ≤ 8 := Nat.le_trans (List.length_filter_le _ _) l8
    refine ⟨_, rfl, p, rfl, ⟨_, hv⟩, fun D nD => lc_it (walk_tup (K := K) (a := p) (xs := vs)) (fun i H' => LcP K H D (innM (xs.take i) l h0) H') (LcP.start nD) (fun i H' _ ⟨_, _, s2, _⟩ => s2.tup hv) ?_ ?_⟩
    · rintro i x H2 H3 hi ⟨us, h2, s2, c2⟩ ⟨rfl, hx⟩
      obtain ⟨q, r, m, y, rfl, hm, hq, hr⟩ := hP.get hx
      have lu := c2.len
      have lq : (innM (xs.take i) l h0).length ≤ 8 := Nat.le_trans (List.length_filter_le _ _) (by rw [List.length_take]; omega)
      refine ⟨rfl, _, rfl, _, rfl, q, _, _, _, rfl, rfl, s2.tup hq, rfl, _, _, rfl, rfl, _, rfl, ?_⟩
      by_cases c1 : l ≤ m
      · refine iteTe (decide_eq_true c1) ⟨_, rfl, _, _, rfl, rfl, _, rfl, ?_⟩
        by_cases c3 : m ≤ h0
        · refine iteTe (decide_eq_true c3) ⟨_, rfl, us, h2, small1000 (by omega), ?_⟩
          show LcP K H D _ _
          rw [inn_yes hm ⟨c1, c3⟩]
          exact LcP.step nD h2 s2 c2 (s2.tup hq) (s2.tup hr)
        · refine iteFe (decide_eq_false c3) ?_
          show LcP K H D _ _
          rw [inn_no hm fun z => c3 z.2]
          exact ⟨us, h2, s2, c2⟩
      · refine iteFe (decide_eq_false c1) ⟨_, rfl, iteF ?_⟩
        show LcP K H D _ _
        rw [inn_no hm fun z => c1 z.1]
        exact ⟨us, h2, s2, c2⟩
    rintro H2 ⟨us, h2, s2, c2⟩
    rw [lv, List.take_length] at c2
    refine ⟨_, rfl, (by show 0 ≤ sizeLine; decide), fun e0 n0 => ?_⟩
    have q0 := Same.new (o := .lst []) n0
    refine ⟨_, _, .lst (SqL.of (q0 _ _ h2)) (c2.tk (tk_same q0)).dp, .lst (ds := []) (SqL.of upd_same) .nil, prs_shaped _, by rfl, _, rfl, ?_⟩
    rw [prs_nil]
    have h3 := q0 _ _ h2
    have c3 := c2.tk (tk_same q0)
    have s3 := s2.trans q0
    generalize upd H2 e0 (.lst []) = H3 at *
    by_cases em : innM xs l h0 = []
    · refine iteTe (by rw [em]; rfl) ⟨_, rfl, (by show 1 ≤ sizeLine; decide), fun r9 n9 => k _ r9 (s3.trans (Same.new n9)) ?_⟩
      rw [if_pos em, okO_yes s]
      exact ⟨p, SqL.of upd_same, hz0.same (s3.trans (Same.new n9))⟩
    have io := innOk_of s em
    have dr := SzM.drawn sz s io
    have a80 : AllF 80 xs := sz.all (by omega)
    have ain : ∀ {a : Int × Fx}, a ∈ innM xs l h0 → Fr a.2 ∧ Sz 80 a.2 ∧ a.1.natAbs ≤ 100 := fun {a} ha => by
      have m := (List.mem_filter.mp ha).1
      have q := a80 a m
      have r := s.2.1 a m
      exact ⟨q.1, q.2, by omega⟩
    refine iteFe (by cases e : innM xs l h0 with | nil => exact absurd e em | cons _ _ => rfl) ?_
    have lu3 := c3.len
    refine ⟨_, rfl, D, rfl, ⟨_, SqL.of h3⟩, fun L1 nL1 => lc_it (walk_list (K := K) (a := D) (xs := us)) (fun i H' => LcF K H3 L1 (((innM xs l h0).take i).map (·.2)) H') (LcF.start nL1) (fun i H' _ ⟨_, _, s4, _⟩ => SqL.of (s4 _ _ h3)) ?_ ?_⟩
    · rintro i x H4 H5 hi ⟨ws, h4, s4, c4⟩ ⟨rfl, hx⟩
      obtain ⟨q, r, m, y, rfl, hm, hq, hr⟩ := c3.get hx
      have lw := c4.len
      rw [List.length_map, List.length_take] at lw
      refine ⟨rfl, ?_⟩
      dsimp only [tYes]
      rw [if_pos rfl]
      refine ⟨_, rfl, q, _, _, _, rfl, rfl, s4.tup hq, rfl, ws, h4, small1000 (by omega), ?_⟩
      show LcF K H3 L1 _ _
      rw [take_snoc hm, List.map_append]
      exact LcF.step nL1 h4 s4 c4 (s4.tup hr)
    rintro H4 ⟨ws, h4, s4, c4⟩
    rw [lu3, List.take_length] at c4
    refine ⟨L1, ws, _, rfl, SqL.of h4, c4, fun x hx => ?_, by rw [List.length_map]; omega, fun H5 r1 s5 t5 => ?_⟩
    · obtain ⟨a, ha, rfl⟩ := List.mem_map.mp hx
      have := ain ha
      exact ⟨this.1, this.2.1.up (by decide)⟩
    have t5 : FT K H5 r1 (ftot (innM xs l h0)) := t5
    have s35 := s4.trans s5
    have h5 := s35 _ _ h3
    have c5 := c3.tk (tk_same s35)
    refine ⟨_, rfl, D, rfl, ⟨_, SqL.of h5⟩, fun L2 nL2 => lc_it (walk_list (K := K) (a := D) (xs := us)) (fun i H' => LcF K H5 L2 (((innM xs l h0).take i).map fun a => scl a.2 a.1) H') (LcF.start nL2) (fun i H' _ ⟨_, _, s6, _⟩ => SqL.of (s6 _ _ h5)) ?_ ?_⟩
    · rintro i x H6 H7 hi ⟨ws, h6, s6, c6⟩ ⟨rfl, hx⟩
      obtain ⟨q, r, m, y, rfl, hm, hq, hr⟩ := c5.get hx
      have lw := c6.len
      rw [List.length_map, List.length_take] at lw
      have my := ain (List.mem_of_getElem? hm)
      refine ⟨rfl, ?_⟩
      dsimp only [tYes]
      rw [if_pos rfl]
      refine ⟨_, rfl, q, _, _, _, rfl, rfl, s6.tup hq, rfl, _, rfl, q, _, _, _, rfl, rfl, s6.tup hq, rfl, (by show 2 ≤ sizeLine; decide), fun t1 n1 => ?_⟩
      have b1 := Same.new (o := .tup [V.int m, V.int 1]) n1
      have hm1 : FT K (upd H7 t1 (.tup [V.int m, V.int 1])) t1 (m, 1) := FT.new (x := (m, 1))
      generalize upd H7 t1 (.tup [V.int m, V.int 1]) = H8 at *
      have fm : Fr ((m, 1) : Fx) := ⟨by show (0 : Int) < 1; decide, Int.gcd_one_right m⟩
      have zm : Sz 8 ((m, 1) : Fx) := ⟨by have := my.2.2; show m.natAbs < 2 ^ 8; dsimp only at this; omega, by show (1 : Int).natAbs < 2 ^ 8; decide⟩
      refine ⟨r, t1, _, _, rfl, (s6.trans b1).tup hr, hm1, my.1, fm, my.2.1.up (by decide), zm.up (by decide), trivial, fun t2 n2 => ?_⟩
      have b2 := Same.new (o := .tup [V.int (fmul y (m, 1)).1, V.int (fmul y (m, 1)).2]) n2
      refine ⟨ws, b2 _ _ (b1 _ _ h6), small1000 (by omega), ?_⟩
      show LcF K H5 L2 _ _
      rw [take_snoc hm, List.map_append]
      refine LcF.step nL2 (b2 _ _ (b1 _ _ h6)) (s6.trans (b1.trans b2)) ((c6.tk (tk_same b1)).tk (tk_same b2)) ?_
      show FT K _ t2 (scl y m)
      rw [← scl_mul]
      exact FT.new
    rintro H6 ⟨w6, h6, s6, c6⟩
    rw [lu3, List.take_length] at c6
    refine ⟨L2, w6, _, rfl, SqL.of h6, c6, fun x hx => ?_, by rw [List.length_map]; omega, fun H7 r2 s7 t7 => ?_⟩
    · obtain ⟨a, ha, rfl⟩ := List.mem_map.mp hx
      have q := ain ha
      exact ⟨scl_fr q.1 _, (scl_sz (m := 9) q.1 q.2.1 (by have := q.2.2; omega)).up (by decide)⟩
    have t7 : FT K H7 r2 (fmom (innM xs l h0)) := t7
    have s57 := s6.trans s7
    refine ⟨_, rfl, r2, r1, _, _, rfl, t7, s57.tup t5, io.fm, io.ft, dr.2.2.up (by omega), dr.2.1.up (by omega), io.t1, fun e ne => ?_⟩
    have q8 := Same.new (o := .tup [V.int (meanM xs l h0).1, V.int (meanM xs l h0).2]) ne
    rw [show fdiv (fmom (innM xs l h0)) (ftot (innM xs l h0)) = meanM xs l h0 from rfl]
    have hm8 : SqT K (upd H7 e (.tup [V.int (meanM xs l h0).1, V.int (meanM xs l h0).2])) e [V.int (meanM xs l h0).1, V.int (meanM xs l h0).2] := SqT.of upd_same
    generalize upd H7 e (.tup [V.int (meanM xs l h0).1, V.int (meanM xs l h0).2]) = H8 at *
    have s58 := s57.trans q8
    have t8 := s58.tup t5
    have s38 := s35.trans s58
    have s8 := s3.trans s38
    have hv8 := s8.tup hv
    have hP8 := hP.tk (tk_same s8)
    refine ⟨_, rfl, p, rfl, ⟨_, hv8⟩, fun L3 nL3 => lc_it (walk_tup (K := K) (a := p) (xs := vs)) (fun i H' => LcP K H8 L3 (outM (xs.take i) l h0) H') (LcP.start nL3) (fun i H' _ ⟨_, _, s9, _⟩ => s9.tup hv8) ?_ ?_⟩
    · rintro i x H9 HA hi ⟨ws, h9, s9, c9⟩ ⟨rfl, hx⟩
      obtain ⟨q, r, m, y, rfl, hm, hq, hr⟩ := hP8.get hx
      have lw := c9.len
      have lq : (outM (xs.take i) l h0).length ≤ 8 := Nat.le_trans (List.length_filter_le _ _) (by rw [List.length_take]; omega)
      refine ⟨rfl, _, rfl, _, rfl, q, _, _, _, rfl, rfl, s9.tup hq, rfl, _, _, rfl, rfl, _, rfl, ?_⟩
      by_cases c1 : l ≤ m
      · refine iteTe (decide_eq_true c1) ⟨_, rfl, _, _, rfl, rfl, _, rfl, ?_⟩
        by_cases c3 : m ≤ h0
        · rw [decide_eq_true c3]
          refine iteF ?_
          show LcP K H8 L3 _ _
          rw [out_no hm (by omega)]
          exact ⟨ws, h9, s9, c9⟩
        · rw [decide_eq_false c3]
          refine iteT ⟨_, rfl, ws, h9, small1000 (by omega), ?_⟩
          show LcP K H8 L3 _ _
          rw [out_yes hm (by omega)]
          exact LcP.step nL3 h9 s9 c9 (s9.tup hq) (s9.tup hr)
      · refine iteFe (decide_eq_false c1) ⟨_, rfl, iteT ⟨_, rfl, ws, h9, small1000 (by omega), ?_⟩⟩
        show LcP K H8 L3 _ _
        rw [out_yes hm (by omega)]
        exact LcP.step nL3 h9 s9 c9 (s9.tup hq) (s9.tup hr)
    rintro H9 ⟨w9, h9, s9, c9⟩
    rw [lv, List.take_length] at c9
    refine ⟨L3, w9, rfl, SqL.of h9, fun lz ob hl od => ?_⟩
    have bz := Same.new (o := .frz ob (.tup w9)) hl
    have hzL : ShZ K (upd H9 lz (.frz ob (.tup w9))) lz (outM xs l h0) := ⟨w9, ⟨ob, od, upd_same⟩, c9.tk (tk_same bz)⟩
    have s8B := s9.trans bz
    generalize upd H9 lz (.frz ob (.tup w9)) = HB at *
    refine ⟨_, rfl, e, _, _, _, rfl, rfl, s8B.tup hm8, rfl, rfl, _, rfl, ?_⟩
    by_cases one : (meanM xs l h0).2 = 1
    · refine iteTe (by rw [one]; rfl) ?_
      have lo : (outM xs l h0).length ≤ 8 := Nat.le_trans (List.length_filter_le _ _) l8
      refine ⟨_, rfl, _, rfl, e, _, _, _, rfl, rfl, s8B.tup hm8, rfl, _, rfl, (by show 2 ≤ sizeLine; decide), fun a na => ?_⟩
      have ba := Same.new (o := .tup [V.int (meanM xs l h0).1, V.ref r1]) na
      have ha : SqT K (upd HB a (.tup [V.int (meanM xs l h0).1, V.ref r1])) a [V.int (meanM xs l h0).1, V.ref r1] := SqT.of upd_same
      generalize upd HB a (.tup [V.int (meanM xs l h0).1, V.ref r1]) = HC at *
      refine ⟨(by show 1 ≤ sizeLine; decide), fun b nb => ?_⟩
      have bb := Same.new (o := .tup [V.ref a]) nb
      have hb : SqT K (upd HC b (.tup [V.ref a])) b [V.ref a] := SqT.of upd_same
      generalize upd HC b (.tup [V.ref a]) = HD at *
      have sBD := ba.trans bb
      have pd : Pos (drwL xs l h0) := drw_fr s io
      refine ⟨lz, b, outM xs l h0, [((meanM xs l h0).1, ftot (innM xs l h0))], rfl, hzL.same sBD, ⟨_, hb, .cons (bb.tup ha) ((s8B.trans sBD).tup t8) .nil⟩, s.nd.sublist (List.Sublist.map _ List.filter_sublist), fun z hz => a80 z (mem_out.mp hz).1, ?_, by omega, (by show 1 ≤ 16; decide), fun z hz => pd z (List.mem_append_left _ hz), fun z hz => pd z (List.mem_append_right _ hz), fun HE r9 s9E hr9 => ?_⟩
      · intro z hz
        rw [List.mem_singleton] at hz
        subst hz
        exact ⟨io.ft, dr.2.1.up (by omega)⟩
      · refine k HE r9 (((s8.trans s8B).trans sBD).trans s9E) ?_
        rw [if_neg em, if_pos one, ← drw_law s l1 h1 io one]
        exact hr9
    · refine iteFe (by show decide (V.int (meanM xs l h0).2 = V.int 1) = false; rw [dec_int]; exact decide_eq_false one) ⟨(by show 0 ≤ sizeLine; decide), fun r9 n9 => ?_⟩
      refine k _ r9 ((s8.trans s8B).trans (Same.new n9)) ?_
      rw [if_neg em, if_neg one]
      exact SqL.of upd_same
end
end CS
set_option Elab.async false
set_option maxRecDepth 100000
set_option maxHeartbeats 8000000
set_option linter.unusedVariables false
set_option pp.maxSteps 6000
/-! what the law makes of a word -/
namespace CS
open PySem L2 RZ
/-- how many lie too far out -/
def farN (xs : Shx) : Nat := (xs.filter fun a => decide (100 < (a.1.natAbs : Int))).length
theorem farN_le (xs : Shx) : farN xs ≤ xs.length := List.length_filter_le _ _
theorem farN_yes {xs : Shx} {i : Nat} {a : Int × Fx} (e : xs[i]? = some a) (c : 100 < (a.1.natAbs : Int)) : farN (xs.take (i + 1)) = farN (xs.take i) + 1 := by
  unfold farN
  rw [take_snoc e, List.filter_append, List.filter_cons_of_pos (by exact decide_eq_true c), List.filter_nil, List.length_append]
  rfl
theorem farN_no {xs : Shx} {i : Nat} {a : Int × Fx} (e : xs[i]? = some a) (c : ¬ 100 < (a.1.natAbs : Int)) : farN (xs.take (i + 1)) = farN (xs.take i) := by
  unfold farN
  rw [take_snoc e, List.filter_append, List.filter_cons_of_neg (by rw [decide_eq_true_eq]; exact c), List.filter_nil, List.append_nil]
theorem farN_zero (xs : Shx) : farN xs = 0 ↔ ∀ a ∈ xs, ¬ 100 < (a.1.natAbs : Int) := by
  unfold farN
  rw [List.length_eq_zero_iff, List.filter_eq_nil_iff]
  simp
theorem abs_nat (m : Int) : (if m < 0 then -m else m) = (m.natAbs : Int) := by
  split <;> omega
theorem ones_dp {K : PySem.W.Frag} {H : Hp} : ∀ n : Nat, DpAll K H (List.replicate n (V.int 1)) (List.replicate n (PyData.int 1))
  | 0 => .nil
  | n + 1 => .cons (.int 1) (ones_dp n)
theorem ones_shaped (n : Nat) (h : n < 9) : SeqAt.shaped (.list (List.replicate n (PyData.int 1))) = true :=
  (show ∀ n, n < 9 → SeqAt.shaped (.list (List.replicate n (PyData.int 1))) = true by decide +kernel) n h
theorem ones_nil (n : Nat) : PyData.eqv (.list (List.replicate n (PyData.int 1))) (.list []) = decide (n = 0) := by
  cases n <;> rfl
section
variable {P : Program} {w : World} {K : PySem.W.Frag} {mg : Str → Option Value} {base : Heap}
def spLOne (K : PySem.W.Frag) : Sp := fun vs H Q _ => ∃ v t L us ss, vs = [v, .ref L] ∧ Dp K H v (Mx.toD t) ∧ t.Ok ∧ t.tiny ∧ t.dB + t.vB ≤ 79 ∧ H L = some (.lst us) ∧ KdsAt K H us ss ∧ KidsOk t.kids ss ∧
  ∀ H' r, Same H H' → LRes K H' r (okO (t.md (ss.getD 0 []) (ss.getD 1 []))) → Q (.ref r) H'
abbrev nsLawOneOf : List Str := ["mix_so", "some", "word", "found", "mark", "heft"]
theorem scLawOneOf : FnScope nsLawOneOf ["mix_so", "some"] (defScope sLawOneOf) := ⟨rfl, rfl, rfl, by decide +kernel, rfl, by decide +kernel, by decide +kernel⟩
theorem ok_law_one_of {f : Addr} {fd : FuncData} (F : Df K mg "_law_one_of" sLawOneOf ["mix_so", "some"] f fd)
    {f1 : Addr} {fd1 : FuncData} (D1 : Df K mg "_law_drawn" sLawDrawn ["one", "low", "high"] f1 fd1) (G1 : FnOk P w K mg base CX0 5 f1 fd1 ["one", "low", "high"] (spLDrw K))
    {f2 : Addr} {fd2 : FuncData} (D2 : Df K mg "_law_spread" sLawSpread ["one", "mark", "low", "high"] f2 fd2) (G2 : FnOk P w K mg base CX0 4 f2 fd2 ["one", "mark", "low", "high"] (spLSpr K))
    {f3 : Addr} {fd3 : FuncData} (D3 : Df K mg "_law_times" sLawTimes ["one", "other"] f3 fd3) (G3 : FnOk P w K mg base CX0 2 f3 fd3 ["one", "other"] (spF2 K (fun _ _ => True) fmul))
    {f4 : Addr} {fd4 : FuncData} (D4 : Df K mg "_law_ratio" sLawRatio ["top", "bottom"] f4 fd4) (G4 : FnOk P w K mg base CX0 1 f4 fd4 ["top", "bottom"] (spLowP))
    {f5 : Addr} {fd5 : FuncData} (D5 : Df K mg "_law_joined" sLawJoined ["one", "other"] f5 fd5) (G5 : FnOk P w K mg base CX0 3 f5 fd5 ["one", "other"] (spJoin K))
    (T : Bt mg) (mabs : mg "abs" = none) : FnOk P w K mg base CX0 6 f fd ["mix_so", "some"] (spLOne K) := by
  refine F.F.ok scLawOneOf (fun vs H Q E h => ?_) (fun cdv A outer s H vs Q E hr h => ?_)
  · obtain ⟨v, t, L, us, ss, rfl, _⟩ := h
    rfl
  · obtain ⟨v, t, L, us, ss, rfl, hv, ok, ti, sz, hL, hK, hO, k⟩ := h
    refine ⟨_, (pss_cons (ps_set (i := 2) scLawOneOf.nd rfl (Or.inl rfl) (pe_ix ix_tup (pv 0) pe_int (fun _ _ => rfl)))
      (pss_cons (ps_if (pt_cmpR op_eq (pv 2) pe_str (nomark _)) (pss_one (ps_ret (pe_lst (pa_cons (pe_tupZ (pa_cons (pe_tup (pa_cons (pe_ix (r := rIxT K) ix_tup (pv 0) pe_int (fun _ _ => rfl)) (pa_cons (pe_call G4 (hr.mono (by decide)) (by rfl) D4.g D4.F.kp D4.b .nil pass0 (pa_cons (pe_ix (r := rIxT K) ix_tup (pv 0) pe_int (fun _ _ => rfl)) (pa_cons (pe_ix (r := rIxT K) ix_tup (pv 0) pe_int (fun _ _ => rfl)) pa_nil))) pa_nil))) pa_nil)) pa_nil)))) pss_nil)
      (pss_cons (ps_if (pt_cmpR op_eq (pv 2) pe_str (nomark _)) (pss_one (ps_ret (pe_lst (pa_cons (pe_tupZ pa_nil) pa_nil)))) pss_nil)
      (pss_cons (ps_if (pt_cmpR op_eq (pv 2) pe_str (nomark _)) (pss_one (ps_ret (pe_call G5 (hr.mono (by decide)) (by rfl) D5.g D5.F.kp D5.b .nil pass0 (pa_cons (pe_ix ix_list (pv 1) pe_int (fun _ _ => rfl)) (pa_cons (pe_ix ix_list (pv 1) pe_int (fun _ _ => rfl)) pa_nil))))) pss_nil)
      (pss_cons (ps_if (pt_cmpR op_eq (pv 2) pe_str (nomark _)) (pss_cons (ps_set (i := 3) scLawOneOf.nd rfl (Or.inl rfl) (pe_callTy call_tuple_ofZ (by rfl) T.tuple (by decide +kernel) (pa_cons (pe_lc (own := [("mark", 4), ("heft", 5)]) (g := gTup K 2 (gCons (gName 4) (gCons (gName 5) gNil))) (tt := tYes) rfl scLawOneOf.nd (pi_tup (pe_ix ix_list (pv 1) pe_int (fun _ _ => rfl))) (blkOk_by (N := nsLawOneOf) (sc := defScope sLawOneOf) (by decide +kernel)) (fun _ _ _ _ _ => pg_tup rfl (pgs_cons (pg_name (i := 4) scLawOneOf.nd rfl (Or.inl rfl)) (pgs_cons (pg_name (i := 5) scLawOneOf.nd rfl (Or.inl rfl)) pgs_nil))) (fun _ _ _ _ _ => pts_nil) (fun _ _ _ _ _ => (pe_tup (pa_cons (pe_op op_add (pv 4) (pe_ix (r := rIxT K) ix_tup (pv 0) pe_int (fun _ _ => rfl))) (pa_cons (pv 5) pa_nil))))) pa_nil)))
      (pss_one (ps_ret (pe_ifExp (pt_cmpR (op_eqD hr.units) (pe_lc (own := [("mark", 4), ("heft", 5)]) (g := gTup K 2 (gCons (gName 4) (gCons (gName 5) gNil))) (tt := _) rfl scLawOneOf.nd (pi_tup (pv 3)) (blkOk_by (N := nsLawOneOf) (sc := defScope sLawOneOf) (by decide +kernel)) (fun _ _ _ _ _ => pg_tup rfl (pgs_cons (pg_name (i := 4) scLawOneOf.nd rfl (Or.inl rfl)) (pgs_cons (pg_name (i := 5) scLawOneOf.nd rfl (Or.inl rfl)) pgs_nil))) (fun _ _ _ _ _ => pts_one (pt_cmpR op_gt (pe_callB call_abs (by rfl) T.abs (by decide +kernel) (pa_cons (pv 4) pa_nil)) pe_int (nomark _))) (fun _ _ _ _ _ => pe_int)) (pe_lst pa_nil) (nomark _)) (pe_lst (pa_cons (pv 3) pa_nil)) (pe_lst pa_nil))))) pss_nil)
      (pss_cons (ps_if (pt_cmpR op_eq (pv 2) pe_str (nomark _)) (pss_one (ps_ret (pe_lst (pa_cons (pe_callTy call_tuple_ofZ (by rfl) T.tuple (by decide +kernel) (pa_cons (pe_lc (own := [("mark", 4), ("heft", 5)]) (g := gTup K 2 (gCons (gName 4) (gCons (gName 5) gNil))) (tt := tYes) rfl scLawOneOf.nd (pi_tup (pe_ix ix_list (pv 1) pe_int (fun _ _ => rfl))) (blkOk_by (N := nsLawOneOf) (sc := defScope sLawOneOf) (by decide +kernel)) (fun _ _ _ _ _ => pg_tup rfl (pgs_cons (pg_name (i := 4) scLawOneOf.nd rfl (Or.inl rfl)) (pgs_cons (pg_name (i := 5) scLawOneOf.nd rfl (Or.inl rfl)) pgs_nil))) (fun _ _ _ _ _ => pts_nil) (fun _ _ _ _ _ => (pe_tup (pa_cons (pv 4) (pa_cons (pe_call G3 (hr.mono (by decide)) (by rfl) D3.g D3.F.kp D3.b .nil pass0 (pa_cons (pv 5) (pa_cons (pe_call G4 (hr.mono (by decide)) (by rfl) D4.g D4.F.kp D4.b .nil pass0 (pa_cons (pe_ix (r := rIxT K) ix_tup (pv 0) pe_int (fun _ _ => rfl)) (pa_cons (pe_ix (r := rIxT K) ix_tup (pv 0) pe_int (fun _ _ => rfl)) pa_nil))) pa_nil))) pa_nil))))) pa_nil)) pa_nil)))) pss_nil)
      (pss_cons (ps_if (pt_cmpR op_eq (pv 2) pe_str (nomark _)) (pss_one (ps_ret (pe_call G2 (hr.mono (by decide)) (by rfl) D2.g D2.F.kp D2.b .nil pass0 (pa_cons (pe_ix ix_list (pv 1) pe_int (fun _ _ => rfl)) (pa_cons (pe_ix (r := rIxT K) ix_tup (pv 0) pe_int (fun _ _ => rfl)) (pa_cons (pe_ix (r := rIxT K) ix_tup (pv 0) pe_int (fun _ _ => rfl)) (pa_cons (pe_ix (r := rIxT K) ix_tup (pv 0) pe_int (fun _ _ => rfl)) pa_nil))))))) pss_nil)
      (pss_one (ps_ret (pe_call G1 (hr.mono (by decide)) (by rfl) D1.g D1.F.kp D1.b .nil pass0 (pa_cons (pe_ix ix_list (pv 1) pe_int (fun _ _ => rfl)) (pa_cons (pe_ix (r := rIxT K) ix_tup (pv 0) pe_int (fun _ _ => rfl)) (pa_cons (pe_ix (r := rIxT K) ix_tup (pv 0) pe_int (fun _ _ => rfl)) pa_nil))))))))))))), ?_⟩
    obtain ⟨a, xs, rfl, hs, hx⟩ := mx_at hv
    refine ⟨_, rfl, a, _, 0, _, rfl, rfl, hs, atI_nat (j := 0) rfl, ?_⟩
    have sh8 : ∀ {kd : Nat × Mx} {zs : Shx}, kd ∈ t.kids → SzM kd.2.dB kd.2.vB zs → AllF 80 zs := fun hk g => by
      have q := Mx.kid_sz _ hk
      exact g.all (by omega)
    cases t with
    | point_ m n1 n2 =>
      obtain ⟨y1, h1, d1⟩ := DpAll.at hx (i := 0) rfl
      obtain ⟨y2, h2, d2⟩ := DpAll.at hx (i := 1) rfl
      obtain ⟨y3, h3, d3⟩ := DpAll.at hx (i := 2) rfl
      cases d1
      cases d2
      cases d3
      obtain ⟨⟨m1, m2⟩, ⟨a1, a2⟩, b1, b2⟩ := ok
      refine ⟨_, rfl, rfl, _, rfl, iteTe (show decide (V.str "point" = V.str "point") = true by decide +kernel) ⟨_, rfl, a, _, 1, _, rfl, rfl, hs, atI_nat (j := 1) (by simpa using h1), _, rfl, a, _, 2, _, rfl, rfl, hs, atI_nat (j := 2) (by simpa using h2), _, rfl, a, _, 3, _, rfl, rfl, hs, atI_nat (j := 3) (by simpa using h3), n1, n2, rfl, by omega, lt_up (m := 10) (by show _ < 1024; omega) (by decide), lt_up (m := 10) (by show _ < 1024; omega) (by decide), fun e1 w1 => ⟨(by show 2 ≤ sizeLine; decide), fun e2 w2 => ⟨(by show 1 ≤ sizeLine; decide), fun r H2 s2 hz => ⟨(by show 1 ≤ sizeLine; decide), fun l9 n9 => ?_⟩⟩⟩⟩⟩
      have q1 := Same.new (o := .tup [V.int (low n1 n2).1, V.int (low n1 n2).2]) w1
      have q2 := Same.new (o := .tup [V.int m, V.ref e1]) w2
      have q9 := Same.new (o := .lst [V.ref r]) n9
      refine k _ l9 (q1.trans (q2.trans (s2.trans q9))) ?_
      show LRes K _ l9 (okO (some [(m, low n1 n2)]))
      rw [okO_yes (shr_point m1 m2 a1 b1)]
      have hz2 : ShZ K H2 r [(m, low n1 n2)] := ⟨_, hz, .cons (s2.tup (SqT.of upd_same)) ((q2.trans s2).tup (SqT.of upd_same)) .nil⟩
      exact ⟨r, SqL.of upd_same, hz2.same q9⟩
    | none_ =>
      refine ⟨_, rfl, rfl, _, rfl, iteFe (show decide (V.str "none" = V.str "point") = false by decide +kernel) ⟨_, rfl, rfl, _, rfl, iteTe (show decide (V.str "none" = V.str "none") = true by decide +kernel) ⟨(by show 0 ≤ sizeLine; decide), fun r H2 s2 hz => ⟨(by show 1 ≤ sizeLine; decide), fun l9 n9 => ?_⟩⟩⟩⟩
      have q9 := Same.new (o := .lst [V.ref r]) n9
      refine k _ l9 (s2.trans q9) ?_
      show LRes K _ l9 (okO (some []))
      rw [okO_yes shr_nil]
      have hz2 : ShZ K H2 r [] := ⟨_, hz, .nil⟩
      exact ⟨r, SqL.of upd_same, hz2.same q9⟩
    | mixed_ s u =>
      cases hO with
      | @cons _ x1 _ _ f1 ro =>
      cases ro with
      | @cons _ x2 _ _ f2 ro =>
      cases ro
      cases hK with
      | cons g1 rk =>
      cases rk with
      | cons g2 rk =>
      cases rk
      obtain ⟨r1, rfl, z1⟩ := g1
      obtain ⟨r2, rfl, z2⟩ := g2
      have e1 := f1.1.1
      have e2 := f2.1.1
      have c1 := sh8 (kd := (1, s)) (by simp [Mx.kids]) f1.2
      have c2 := sh8 (kd := (2, u)) (by simp [Mx.kids]) f2.2
      have up80 : ∀ {zs : Shx}, AllF 80 zs → AllF 80 zs := fun g b hb => ⟨(g b hb).1, (g b hb).2.up (by decide)⟩
      refine ⟨_, rfl, rfl, _, rfl, iteFe (show decide (V.str "mixed" = V.str "point") = false by decide +kernel) ⟨_, rfl, rfl, _, rfl, iteFe (show decide (V.str "mixed" = V.str "none") = false by decide +kernel) ⟨_, rfl, rfl, _, rfl, iteTe (show decide (V.str "mixed" = V.str "mixed") = true by decide +kernel) ⟨_, rfl, L, _, 0, _, rfl, rfl, SqL.of hL, atI_nat (j := 0) rfl, _, rfl, L, _, 1, _, rfl, rfl, SqL.of hL, atI_nat (j := 1) rfl, r1, r2, x1, x2, rfl, z1, z2.sh, f1.1.nd, up80 c1, up80 c2, by omega, by omega, f1.1.pos, f2.1.pos, fun H2 l9 s2 h9 => k H2 l9 s2 ?_⟩⟩⟩⟩
      show LRes K H2 l9 (okO (some (gS (x1 ++ x2))))
      have ps : Pos (x1 ++ x2) := f1.1.pos.app f2.1.pos
      rw [← join_ok (fun b hb => ⟨ps.fr b hb, (List.mem_append.mp hb).elim (fun z => ⟨(f1.1.2.1 b z).1, (f1.1.2.1 b z).2.1⟩) (fun z => ⟨(f2.1.2.1 b z).1, (f2.1.2.1 b z).2.1⟩)⟩) ps.vfp_nn]
      exact h9
    | moved_ s n =>
      obtain ⟨y2, h2, d2⟩ := DpAll.at hx (i := 1) rfl
      cases d2
      cases hO with
      | @cons _ x1 _ _ f1 ro =>
      cases ro
      cases hK with
      | cons g1 rk =>
      cases rk
      obtain ⟨r1, rfl, z1⟩ := g1
      have e1 := f1.1.1
      obtain ⟨v1, tz1, P1⟩ := z1
      have hv1 := tz1.sq (K := K)
      have lv := P1.len
      refine ⟨_, rfl, rfl, _, rfl, iteFe (show decide (V.str "moved" = V.str "point") = false by decide +kernel) ⟨_, rfl, rfl, _, rfl, iteFe (show decide (V.str "moved" = V.str "none") = false by decide +kernel) ⟨_, rfl, rfl, _, rfl, iteFe (show decide (V.str "moved" = V.str "mixed") = false by decide +kernel) ⟨_, rfl, rfl, _, rfl, iteTe (show decide (V.str "moved" = V.str "moved") = true by decide +kernel) ⟨_, rfl, L, _, 0, _, rfl, rfl, SqL.of hL, atI_nat (j := 0) rfl, r1, rfl, ⟨_, hv1⟩, fun D nD => lc_it (walk_tup (K := K) (a := r1) (xs := v1)) (fun i H2 => LcP K H D (mvd n (x1.take i)) H2) (LcP.start nD) (fun i H2 _ ⟨_, _, s2, _⟩ => s2.tup hv1) ?_ ?_⟩⟩⟩⟩⟩
      · rintro i x H2 H3 hi ⟨ws, w2, s2, c2⟩ ⟨rfl, hx⟩
        obtain ⟨q, r, m, y, rfl, hm, hq, hr⟩ := P1.get hx
        have lw := c2.len
        have lq : (mvd n (x1.take i)).length ≤ 8 := by unfold mvd; rw [List.length_map, List.length_take]; omega
        refine ⟨q, _, rfl, s2.tup hq, rfl, _, _, rfl, _, _, rfl, rfl, rfl, ?_⟩
        dsimp only [tYes]
        rw [if_pos rfl]
        refine ⟨_, rfl, _, rfl, a, _, 2, _, rfl, rfl, s2.tup hs, atI_nat (j := 2) (by simpa using h2), _, _, rfl, rfl, _, rfl, (by show 2 ≤ sizeLine; decide), fun b nb => ?_⟩
        have q2 := Same.new (o := .tup [V.int (m + n), V.ref r]) nb
        refine ⟨ws, q2 _ _ w2, small1000 (by omega), ?_⟩
        show LcP K H D _ _
        rw [show mvd n (x1.take (i + 1)) = mvd n (x1.take i) ++ [(m + n, y)] by unfold mvd; rw [take_snoc hm, List.map_append]; rfl]
        exact LcP.step nD (q2 _ _ w2) (s2.trans q2) (c2.tk (tk_same q2)) (SqT.of upd_same) ((s2.trans q2).tup hr)
      rintro H2 ⟨ws, w2, s2, c2⟩
      rw [lv, List.take_length] at c2
      refine ⟨D, ws, rfl, SqL.of w2, fun lz ob hl od => ?_⟩
      have bz := Same.new (o := .frz ob (.tup ws)) hl
      have hzL : ShZ K (upd H2 lz (.frz ob (.tup ws))) lz (mvd n x1) := ⟨ws, ⟨ob, od, upd_same⟩, c2.tk (tk_same bz)⟩
      have s3 := s2.trans bz
      generalize upd H2 lz (.frz ob (.tup ws)) = H3 at *
      have hz3 := hzL
      obtain ⟨v3, tz3, P3⟩ := hzL
      have hv3 := tz3.sq (K := K)
      have lv3 := P3.len
      have lm3 : (mvd n x1).length ≤ 8 := by unfold mvd; rw [List.length_map]; exact e1
      refine ⟨_, rfl, lz, rfl, ⟨_, hv3⟩, fun E9 nE9 => lc_it (walk_tup (K := K) (a := lz) (xs := v3)) (fun i H4 => H4 E9 = some (.lst (List.replicate (farN ((mvd n x1).take i)) (V.int 1))) ∧ Same H3 H4) ⟨upd_same, Same.new nE9⟩ (fun i H4 _ ⟨_, s4⟩ => s4.tup hv3) ?_ ?_⟩
      · rintro i x H4 H5 hi ⟨w4, s4⟩ ⟨rfl, hx⟩
        obtain ⟨q, r, m, y, rfl, hm, hq, hr⟩ := P3.get hx
        have lq : farN ((mvd n x1).take i) ≤ 8 := Nat.le_trans (farN_le _) (by rw [List.length_take]; omega)
        refine ⟨q, _, rfl, s4.tup hq, rfl, _, _, rfl, _, _, rfl, rfl, rfl, ?_⟩
        refine ⟨_, rfl, _, rfl, _, _, rfl, rfl, _, rfl, ?_⟩
        rw [abs_nat m]
        by_cases c : 100 < (m.natAbs : Int)
        · rw [decide_eq_true c]
          refine iteT ⟨_, w4, small1000 (by rw [List.length_replicate]; omega), ?_, same_upd nE9 s4⟩
          rw [farN_yes hm c, List.replicate_succ']
          exact upd_same
        · rw [decide_eq_false c]
          refine iteF ⟨?_, s4⟩
          rw [farN_no hm c]
          exact w4
      rintro H4 ⟨w4, s4⟩
      rw [lv3, List.take_length] at w4
      have lf : farN (mvd n x1) ≤ 8 := Nat.le_trans (farN_le _) lm3
      refine ⟨(by show 0 ≤ sizeLine; decide), fun e0 n0 => ?_⟩
      have q0 := Same.new (o := .lst []) n0
      refine ⟨_, _, .lst (SqL.of (q0 _ _ w4)) (ones_dp _), .lst (ds := []) (SqL.of upd_same) .nil, ones_shaped _ (by omega), by rfl, _, rfl, ?_⟩
      rw [ones_nil]
      have s5 := (s3.trans s4).trans q0
      have key : (farN (mvd n x1) = 0) ↔ Shr (mvd n x1) := (farN_zero _).trans (shr_mvd f1.1 n).symm
      by_cases c : farN (mvd n x1) = 0
      · rw [decide_eq_true c]
        refine iteT ⟨_, rfl, (by show 1 ≤ sizeLine; decide), fun l9 n9 => ?_⟩
        have q9 := Same.new (o := .lst [V.ref lz]) n9
        refine k _ l9 (s5.trans q9) ?_
        show LRes K _ l9 (okO (some (mvd n x1)))
        rw [okO_yes (key.mp c)]
        exact ⟨lz, SqL.of upd_same, hz3.same ((s4.trans q0).trans q9)⟩
      · rw [decide_eq_false c]
        refine iteF ⟨(by show 0 ≤ sizeLine; decide), fun l9 n9 => ?_⟩
        refine k _ l9 (s5.trans (Same.new n9)) ?_
        show LRes K _ l9 (okO (some (mvd n x1)))
        rw [okO_no fun z => c (key.mpr z)]
        exact SqL.of upd_same
    | scaled_ s n1 n2 =>
      obtain ⟨y2, h2, d2⟩ := DpAll.at hx (i := 1) rfl
      obtain ⟨y3, h3, d3⟩ := DpAll.at hx (i := 2) rfl
      cases d2
      cases d3
      obtain ⟨_, ⟨a1, a2⟩, b1, b2⟩ := ok
      cases hO with
      | @cons _ x1 _ _ f1 ro =>
      cases ro
      cases hK with
      | cons g1 rk =>
      cases rk
      obtain ⟨r1, rfl, z1⟩ := g1
      have e1 := f1.1.1
      have al := sh8 (kd := (1, s)) (by simp [Mx.kids]) f1.2
      obtain ⟨v1, tz1, P1⟩ := z1
      have hv1 := tz1.sq (K := K)
      have lv := P1.len
      have n20 : n2 ≠ 0 := by omega
      refine ⟨_, rfl, rfl, _, rfl, iteFe (show decide (V.str "scaled" = V.str "point") = false by decide +kernel) ⟨_, rfl, rfl, _, rfl, iteFe (show decide (V.str "scaled" = V.str "none") = false by decide +kernel) ⟨_, rfl, rfl, _, rfl, iteFe (show decide (V.str "scaled" = V.str "mixed") = false by decide +kernel) ⟨_, rfl, rfl, _, rfl, iteFe (show decide (V.str "scaled" = V.str "moved") = false by decide +kernel) ⟨_, rfl, rfl, _, rfl, iteTe (show decide (V.str "scaled" = V.str "scaled") = true by decide +kernel) ⟨_, rfl, L, _, 0, _, rfl, rfl, SqL.of hL, atI_nat (j := 0) rfl, r1, rfl, ⟨_, hv1⟩, fun D nD => lc_it (walk_tup (K := K) (a := r1) (xs := v1)) (fun i H2 => LcP K H D (tms (low n1 n2) (x1.take i)) H2) (LcP.start nD) (fun i H2 _ ⟨_, _, s2, _⟩ => s2.tup hv1) ?_ ?_⟩⟩⟩⟩⟩⟩
      · rintro i x H2 H3 hi ⟨ws, w2, s2, c2⟩ ⟨rfl, hx⟩
        obtain ⟨q, r, m, y, rfl, hm, hq, hr⟩ := P1.get hx
        have lw := c2.len
        have lq : (tms (low n1 n2) (x1.take i)).length ≤ 8 := by unfold tms; rw [List.length_map, List.length_take]; omega
        have ay := al _ (List.mem_of_getElem? hm)
        refine ⟨q, _, rfl, s2.tup hq, rfl, _, _, rfl, _, _, rfl, rfl, rfl, ?_⟩
        dsimp only [tYes]
        rw [if_pos rfl]
        refine ⟨_, rfl, _, rfl, _, rfl, a, _, 2, _, rfl, rfl, s2.tup hs, atI_nat (j := 2) (by simpa using h2), _, rfl, a, _, 3, _, rfl, rfl, s2.tup hs, atI_nat (j := 3) (by simpa using h3), n1, n2, rfl, by omega, lt_up (m := 10) (by show _ < 1024; omega) (by decide), lt_up (m := 10) (by show _ < 1024; omega) (by decide), fun t1 m1 => ?_⟩
        have q1 := Same.new (o := .tup [V.int (low n1 n2).1, V.int (low n1 n2).2]) m1
        have hl1 : FT K (upd H3 t1 (.tup [V.int (low n1 n2).1, V.int (low n1 n2).2])) t1 (low n1 n2) := FT.new
        generalize upd H3 t1 (.tup [V.int (low n1 n2).1, V.int (low n1 n2).2]) = H4 at *
        refine ⟨r, t1, _, _, rfl, (s2.trans q1).tup hr, hl1, ay.1, low_fr n20, ay.2.up (by decide), (low_sz (n := 10) n20 (by show _ < 1024; omega) (by show _ < 1024; omega)).up (by decide), trivial, fun t2 m2 => ⟨(by show 2 ≤ sizeLine; decide), fun b nb => ?_⟩⟩
        have q2 := Same.new (o := .tup [V.int (fmul y (low n1 n2)).1, V.int (fmul y (low n1 n2)).2]) m2
        have hy2 : FT K (upd H4 t2 (.tup [V.int (fmul y (low n1 n2)).1, V.int (fmul y (low n1 n2)).2])) t2 (fmul y (low n1 n2)) := FT.new
        generalize upd H4 t2 (.tup [V.int (fmul y (low n1 n2)).1, V.int (fmul y (low n1 n2)).2]) = H5 at *
        have q3 := Same.new (o := .tup [V.int m, V.ref t2]) nb
        have q13 := (q1.trans q2).trans q3
        refine ⟨ws, q13 _ _ w2, small1000 (by omega), ?_⟩
        show LcP K H D _ _
        rw [show tms (low n1 n2) (x1.take (i + 1)) = tms (low n1 n2) (x1.take i) ++ [(m, fmul y (low n1 n2))] by unfold tms; rw [take_snoc hm, List.map_append]; rfl]
        exact LcP.step nD (q13 _ _ w2) (s2.trans q13) (c2.tk (tk_same q13)) (SqT.of upd_same) (q3.tup hy2)
      rintro H2 ⟨ws, w2, s2, c2⟩
      rw [lv, List.take_length] at c2
      refine ⟨D, ws, rfl, SqL.of w2, fun lz ob hl od => ⟨(by show 1 ≤ sizeLine; decide), fun l9 n9 => ?_⟩⟩
      have bz := Same.new (o := .frz ob (.tup ws)) hl
      have hzL : ShZ K (upd H2 lz (.frz ob (.tup ws))) lz (tms (low n1 n2) x1) := ⟨ws, ⟨ob, od, upd_same⟩, c2.tk (tk_same bz)⟩
      have s3 := s2.trans bz
      generalize upd H2 lz (.frz ob (.tup ws)) = H3 at *
      have q9 := Same.new (o := .lst [V.ref lz]) n9
      refine k _ l9 (s3.trans q9) ?_
      show LRes K _ l9 (okO (some (tms (low n1 n2) x1)))
      rw [okO_yes (shr_tms f1.1 a1 b1)]
      exact ⟨lz, SqL.of upd_same, hzL.same q9⟩
    | spread_ s m l h =>
      obtain ⟨y2, h2, d2⟩ := DpAll.at hx (i := 1) rfl
      obtain ⟨y3, h3, d3⟩ := DpAll.at hx (i := 2) rfl
      obtain ⟨y4, h4, d4⟩ := DpAll.at hx (i := 3) rfl
      cases d2
      cases d3
      cases d4
      obtain ⟨_, ⟨_, _⟩, ⟨b1, b2⟩, ⟨c1, c2⟩, o1, o2⟩ := ok
      cases hO with
      | @cons _ x1 _ _ f1 ro =>
      cases ro
      cases hK with
      | cons g1 rk =>
      cases rk
      obtain ⟨r1, rfl, z1⟩ := g1
      have e1 := f1.1.1
      have bz : (Mx.spread_ s m l h).dB = s.dB + 8 ∧ (Mx.spread_ s m l h).vB = s.vB + 4 := ⟨rfl, rfl⟩
      refine ⟨_, rfl, rfl, _, rfl, iteFe (show decide (V.str "spread" = V.str "point") = false by decide +kernel) ⟨_, rfl, rfl, _, rfl, iteFe (show decide (V.str "spread" = V.str "none") = false by decide +kernel) ⟨_, rfl, rfl, _, rfl, iteFe (show decide (V.str "spread" = V.str "mixed") = false by decide +kernel) ⟨_, rfl, rfl, _, rfl, iteFe (show decide (V.str "spread" = V.str "moved") = false by decide +kernel) ⟨_, rfl, rfl, _, rfl, iteFe (show decide (V.str "spread" = V.str "scaled") = false by decide +kernel) ⟨_, rfl, rfl, _, rfl, iteTe (show decide (V.str "spread" = V.str "spread") = true by decide +kernel) ⟨_, rfl, L, _, 0, _, rfl, rfl, SqL.of hL, atI_nat (j := 0) rfl, _, rfl, a, _, 2, _, rfl, rfl, hs, atI_nat (j := 2) (by simpa using h2), _, rfl, a, _, 3, _, rfl, rfl, hs, atI_nat (j := 3) (by simpa using h3), _, rfl, a, _, 4, _, rfl, rfl, hs, atI_nat (j := 4) (by simpa using h4), r1, x1, m, l, h, s.dB, s.vB, rfl, z1, f1.1, f1.2, by omega, o1, o2, b1, c2, fun H2 l9 s2 h9 => k H2 l9 s2 h9⟩⟩⟩⟩⟩⟩⟩
    | drawn_ s l h =>
      obtain ⟨y2, h2, d2⟩ := DpAll.at hx (i := 1) rfl
      obtain ⟨y3, h3, d3⟩ := DpAll.at hx (i := 2) rfl
      cases d2
      cases d3
      obtain ⟨_, ⟨b1, b2⟩, ⟨c1, c2⟩, o1⟩ := ok
      cases hO with
      | @cons _ x1 _ _ f1 ro =>
      cases ro
      cases hK with
      | cons g1 rk =>
      cases rk
      obtain ⟨r1, rfl, z1⟩ := g1
      have e1 := f1.1.1
      have bz : (Mx.drawn_ s l h).dB = s.dB ∧ (Mx.drawn_ s l h).vB = s.vB + 3 := ⟨rfl, rfl⟩
      refine ⟨_, rfl, rfl, _, rfl, iteFe (show decide (V.str "drawn" = V.str "point") = false by decide +kernel) ⟨_, rfl, rfl, _, rfl, iteFe (show decide (V.str "drawn" = V.str "none") = false by decide +kernel) ⟨_, rfl, rfl, _, rfl, iteFe (show decide (V.str "drawn" = V.str "mixed") = false by decide +kernel) ⟨_, rfl, rfl, _, rfl, iteFe (show decide (V.str "drawn" = V.str "moved") = false by decide +kernel) ⟨_, rfl, rfl, _, rfl, iteFe (show decide (V.str "drawn" = V.str "scaled") = false by decide +kernel) ⟨_, rfl, rfl, _, rfl, iteFe (show decide (V.str "drawn" = V.str "spread") = false by decide +kernel) ⟨_, rfl, L, _, 0, _, rfl, rfl, SqL.of hL, atI_nat (j := 0) rfl, _, rfl, a, _, 2, _, rfl, rfl, hs, atI_nat (j := 2) (by simpa using h2), _, rfl, a, _, 3, _, rfl, rfl, hs, atI_nat (j := 3) (by simpa using h3), r1, x1, l, h, s.dB, s.vB, rfl, z1, f1.1, f1.2, by omega, b1, c2, fun H2 l9 s2 h9 => k H2 l9 s2 h9⟩⟩⟩⟩⟩⟩⟩
end
end CS
set_option Elab.async false
set_option maxRecDepth 100000
set_option maxHeartbeats 8000000
set_option linter.unusedVariables false
set_option pp.maxSteps 6000
/-! the share that the law tells -/
namespace CS
open PySem L2 RZ
theorem oneSh_shaped (xs : Shx) : SeqAt.shaped (.list [shD xs]) = true := by
  have h1 := cl1 xs
  have h2 := dp1 xs
  simp [SeqAt.shaped, PyData.canLay0, PyData.canLayAll0, PyData.depth, PyData.depthAll, h1, shD]
  omega
def rCatS2 (K : PySem.W.Frag) : R2 := fun x y H Q => ∃ a b xs ys, x = .ref a ∧ y = .ref b ∧ SqT K H a xs ∧ SqT K H b ys ∧ xs.length + ys.length ≤ sizeLine ∧ ∀ c H', Same H H' → SqT K H' c (xs ++ ys) → Q (.ref c) H'
theorem op_catS2 {X : Cx} : OpR X (PySem.binaryOp .Add) (rCatS2 X.K) := fun pins s σ H x y v u Q I rx ry ⟨a, b, xs, ys, e1, e2, ha, hb, hz, q⟩ =>
  op_catA pins s σ H x y v u Q I rx ry ⟨a, b, xs, ys, e1, e2, ha, hb, hz, fun e => q b H (Same.refl H) (by rw [e]; exact hb), fun _ e => q a H (Same.refl H) (by rw [e, List.append_nil]; exact ha), fun _ _ p np => q p _ (Same.new np) (SqT.of upd_same)⟩
section
variable {P : Program} {w : World} {K : PySem.W.Frag} {mg : Str → Option Value} {base : Heap}
def spLInner (K : PySem.W.Frag) : Sp := fun vs H Q _ => ∃ v t, vs = [v] ∧ Dp K H v (Mx.toD t) ∧ ∀ H' r, Same H H' → SqT K H' r ((t.kids.map fun k => (k.1 : Int)).map V.int) → Q (.ref r) H'
abbrev nsLawInner : List Str := ["mix_so"]
theorem scLawInner : FnScope nsLawInner ["mix_so"] (defScope sLawInner) := ⟨rfl, rfl, rfl, by decide +kernel, rfl, by decide +kernel, by decide +kernel⟩
theorem ok_law_inner {f : Addr} {fd : FuncData} (F : Df K mg "_law_inner" sLawInner ["mix_so"] f fd) : FnOk P w K mg base CX0 1 f fd ["mix_so"] (spLInner K) := by
  refine F.F.ok scLawInner (fun vs H Q E h => ?_) (fun cdv A outer s H vs Q E hr h => ?_)
  · obtain ⟨v, t, rfl, _⟩ := h
    rfl
  · obtain ⟨v, t, rfl, hv, k⟩ := h
    refine ⟨_, (pss_cons (ps_if (pt_cmpR op_in_seq (pe_ix ix_tup (pv 0) pe_int (fun _ _ => rfl)) (pe_tup (pa_cons pe_str (pa_cons pe_str pa_nil))) (by rfl)) (pss_one (ps_ret (pe_tup pa_nil))) pss_nil)
      (pss_one (ps_ret (pe_ifExp (pt_cmpR op_eq (pe_ix ix_tup (pv 0) pe_int (fun _ _ => rfl)) pe_str (nomark _)) (pe_tup (pa_cons pe_int (pa_cons pe_int pa_nil))) (pe_tup (pa_cons pe_int pa_nil)))))), ?_⟩
    obtain ⟨a, xs, rfl, hs, hx⟩ := mx_at hv
    refine ⟨_, rfl, a, _, 0, _, rfl, rfl, hs, atI_nat (j := 0) rfl, (by show 2 ≤ sizeLine; decide), fun b nb => ?_⟩
    have q1 := Same.new (o := .tup [V.str "point", V.str "none"]) nb
    refine ⟨b, _, rfl, .inr (SqT.of upd_same), rfl, rfl, _, rfl, ?_⟩
    have fin : ∀ {H2 : Hp} {c : Addr} {xs : List V}, Same H H2 → H2 c = none → (t.kids.map fun k => (k.1 : Int)).map V.int = xs → Q (.ref c) (upd H2 c (.tup xs)) := fun s2 nc e => k _ _ (s2.trans (Same.new nc)) (by rw [e]; exact SqT.of upd_same)
    have hs1 := q1.tup hs
    cases t with
    | point_ m n1 n2 => exact iteTe (show inV (V.str "point") [V.str "point", V.str "none"] = true by decide +kernel) ⟨(by show 0 ≤ sizeLine; decide), fun c nc => fin q1 nc rfl⟩
    | none_ => exact iteTe (show inV (V.str "none") [V.str "point", V.str "none"] = true by decide +kernel) ⟨(by show 0 ≤ sizeLine; decide), fun c nc => fin q1 nc rfl⟩
    | mixed_ s u => exact iteFe (show inV (V.str "mixed") [V.str "point", V.str "none"] = false by decide +kernel) ⟨_, rfl, a, _, 0, _, rfl, rfl, hs1, atI_nat (j := 0) rfl, rfl, _, rfl, iteTe (show decide (V.str "mixed" = V.str "mixed") = true by decide +kernel) ⟨(by show 2 ≤ sizeLine; decide), fun c nc => fin q1 nc rfl⟩⟩
    | moved_ s n => exact iteFe (show inV (V.str "moved") [V.str "point", V.str "none"] = false by decide +kernel) ⟨_, rfl, a, _, 0, _, rfl, rfl, hs1, atI_nat (j := 0) rfl, rfl, _, rfl, iteFe (show decide (V.str "moved" = V.str "mixed") = false by decide +kernel) ⟨(by show 1 ≤ sizeLine; decide), fun c nc => fin q1 nc rfl⟩⟩
    | scaled_ s n1 n2 => exact iteFe (show inV (V.str "scaled") [V.str "point", V.str "none"] = false by decide +kernel) ⟨_, rfl, a, _, 0, _, rfl, rfl, hs1, atI_nat (j := 0) rfl, rfl, _, rfl, iteFe (show decide (V.str "scaled" = V.str "mixed") = false by decide +kernel) ⟨(by show 1 ≤ sizeLine; decide), fun c nc => fin q1 nc rfl⟩⟩
    | spread_ s m l h => exact iteFe (show inV (V.str "spread") [V.str "point", V.str "none"] = false by decide +kernel) ⟨_, rfl, a, _, 0, _, rfl, rfl, hs1, atI_nat (j := 0) rfl, rfl, _, rfl, iteFe (show decide (V.str "spread" = V.str "mixed") = false by decide +kernel) ⟨(by show 1 ≤ sizeLine; decide), fun c nc => fin q1 nc rfl⟩⟩
    | drawn_ s l h => exact iteFe (show inV (V.str "drawn") [V.str "point", V.str "none"] = false by decide +kernel) ⟨_, rfl, a, _, 0, _, rfl, rfl, hs1, atI_nat (j := 0) rfl, rfl, _, rfl, iteFe (show decide (V.str "drawn" = V.str "mixed") = false by decide +kernel) ⟨(by show 1 ≤ sizeLine; decide), fun c nc => fin q1 nc rfl⟩⟩
/-- a list of a share, or the path of the part that has none -/
def LSh (K : PySem.W.Frag) (H : Hp) (l : Addr) : Sum Shx (List Int) → Prop
  | .inl zs => ∃ r, SqL K H l [V.ref r] ∧ ShZ K H r zs
  | .inr f => ∃ q, SqT K H l [V.str "mix", V.ref q] ∧ SqT K H q (f.map V.int)
def spLShared (K : PySem.W.Frag) (h : Nat) : Sp := fun vs H Q _ => ∃ u t p path, vs = [u, .ref p] ∧ Dp K H u (Mx.toD t) ∧ t.Ok ∧ t.tiny ∧ t.dB + t.vB ≤ 79 ∧ t.height ≤ h ∧ SqT K H p (path.map V.int) ∧ path.length + t.height ≤ 12 ∧
  ∀ H' r, Same H H' → LSh K H' r (t.sh path) → Q (.ref r) H'
abbrev nsLawShared : List Str := ["mix_so", "path", "some", "place", "found"]
theorem scLawShared : FnScope nsLawShared ["mix_so", "path"] (defScope sLawShared) := ⟨rfl, rfl, rfl, by decide +kernel, rfl, by decide +kernel, by decide +kernel⟩
theorem ok_law_shared {f : Addr} {fd : FuncData} (F : Df K mg "_law_shared" sLawShared ["mix_so", "path"] f fd)
    {f1 : Addr} {fd1 : FuncData} (D1 : Df K mg "_law_one_of" sLawOneOf ["mix_so", "some"] f1 fd1) (G1 : FnOk P w K mg base CX0 6 f1 fd1 ["mix_so", "some"] (spLOne K))
    {f2 : Addr} {fd2 : FuncData} (D2 : Df K mg "_law_inner" sLawInner ["mix_so"] f2 fd2) (G2 : FnOk P w K mg base CX0 1 f2 fd2 ["mix_so"] (spLInner K))
    (T : Bt mg) {lv h : Nat} {f9 : Addr} {fd9 : FuncData} (D9 : Df K mg "_law_shared" sLawShared ["mix_so", "path"] f9 fd9) (G9 : FnOk P w K mg base CX0 (lv + 7) f9 fd9 ["mix_so", "path"] (spLShared K h)) : FnOk P w K mg base CX0 (lv+8) f fd ["mix_so", "path"] (spLShared K (h+1)) := by
  refine F.F.ok scLawShared (fun vs H Q E h => ?_) (fun cdv A outer s H vs Q E hr h => ?_)
  · obtain ⟨u, t, p, path, rfl, _⟩ := h
    rfl
  · obtain ⟨u, t, p, path, rfl, hu1, tok, ti, bz, hh, hp, h12, k⟩ := h
    refine ⟨_, (pss_cons (ps_set (i := 2) scLawShared.nd rfl (Or.inl rfl) (pe_lst pa_nil))
      (pss_cons (ps_for PassesOwn.never rfl (pi_tup (pe_call G2 (hr.mono (by omega)) (by rfl) D2.g D2.F.kp D2.b .nil pass0 (pa_cons (pv 0) pa_nil))) (pg_name (i := 3) scLawShared.nd rfl (Or.inl rfl)) (pss_cons (ps_set (i := 4) scLawShared.nd rfl (Or.inl rfl) (pe_call G9 (hr.mono (by omega)) (by rfl) D9.g D9.F.kp D9.b .nil pass0 (pa_cons (pe_ix (r := rIxT K) ix_tup (pv 0) (pv 3) (fun _ _ => rfl)) (pa_cons (pe_op op_catS2 (pv 1) (pe_tup (pa_cons (pv 3) pa_nil))) pa_nil))))
      (pss_cons (ps_if (pt_val (pe_callB call_isi (by rfl) T.isinstance (by decide +kernel) (pa_cons (pv 4) (pa_cons (pe_bltn (v := .ty "tuple") (by rfl) T.tuple (by decide +kernel) rfl) pa_nil)))) (pss_one (ps_ret (pv 4))) pss_nil)
      (pss_one (ps_expr (pe_bm PySem.F.plainAttrs_list PySem.F.slot_list_append PySem.F.type_list_append mt_append (pv 2) (pa_cons (pe_ix ix_list (pv 4) pe_int (fun _ _ => rfl)) pa_nil)))))))
      (pss_cons (ps_set (i := 4) scLawShared.nd rfl (Or.inl rfl) (pe_call G1 (hr.mono (by omega)) (by rfl) D1.g D1.F.kp D1.b .nil pass0 (pa_cons (pv 0) (pa_cons (pv 2) pa_nil))))
      (pss_one (ps_ret (pe_ifExp (pt_cmpR (op_neD hr.units) (pv 4) (pe_lst pa_nil) (nomark _)) (pv 4) (pe_tup (pa_cons pe_str (pa_cons (pv 1) pa_nil))))))))), ?_⟩
    obtain ⟨a, xs, rfl, hs, hx⟩ := mx_at hu1
    have tp := WTree.height_pos t
    have few : t.kids.length ≤ 2 := by cases t <;> simp [Mx.kids]
    refine ⟨(by show 0 ≤ sizeLine; decide), fun L nL => ?_⟩
    have sL := Same.new (o := .lst []) nL
    have hL0 : (upd H L (.lst [])) L = some (.lst []) := upd_same
    generalize hH0 : upd H L (.lst []) = H0 at *
    refine ⟨_, rfl, .ref a, t, rfl, Dp.same sL hu1, fun H1 pl s1 hpl => ⟨pl, rfl, ⟨_, hpl⟩, for_tup (K := K) (a := pl) (xs := (t.kids.map fun k => (k.1 : Int)).map V.int) (fun i σ H' => ∃ v3 v4 us ss, σ = [some (.ref a), some (.ref p), some (.ref L), v3, v4] ∧ Same H H' ∧ SqT K H' pl ((t.kids.map fun k => (k.1 : Int)).map V.int) ∧ H' L = some (.lst us) ∧ KdsAt K H' us ss ∧ KidSh path (t.kids.take i) ss) ⟨none, none, [], [], rfl, sL.trans s1, hpl, s1 _ _ hL0, .nil, .nil⟩ (fun i σ H' _ ⟨_, _, _, _, _, _, s2, _⟩ => s2) ?_ ?_⟩⟩
    · rintro i x σ H2 hi ⟨v3, v4, us, ss, rfl, s2, hpl2, hL2, c2, e2⟩
      rw [List.getElem?_map, List.getElem?_map] at hi
      obtain ⟨z, hz, rfl⟩ := Option.map_eq_some_iff.mp hi
      obtain ⟨kd, hk, rfl⟩ := Option.map_eq_some_iff.mp hz
      have mem : kd ∈ t.kids := List.mem_of_getElem? hk
      obtain ⟨child, hc, dc⟩ := DpAll.at (K := K) (H := H) (vs := .str t.word :: xs) (ds := .str t.word :: t.rest) (.cons (.str _) hx) (WTree.kids_at t kd mem)
      have kh : kd.2.height < t.height := WTree.kids_height t kd mem
      have kok : kd.2.Ok := WTree.kids_ok t tok kd mem
      have ks := Mx.kid_sz kd mem
      have lu := Paired.length c2
      have le := Paired.length e2
      rw [List.length_take] at le
      refine ⟨_, rfl, _, rfl, a, _, (kd.1 : Int), child, rfl, rfl, s2.tup hs, atI_nat hc, _, rfl, _, rfl, (by show 1 ≤ sizeLine; decide), fun b nb => ?_⟩
      have k3 := Same.new (o := .tup [V.int (kd.1 : Int)]) nb
      have hb : SqT K (upd H2 b (.tup [V.int (kd.1 : Int)])) b [V.int (kd.1 : Int)] := SqT.of upd_same
      have s23 := s2.trans k3
      generalize upd H2 b (.tup [V.int (kd.1 : Int)]) = H3 at *
      refine ⟨p, b, _, _, rfl, rfl, s23.tup hp, hb, (by rw [List.length_map]; exact Nat.le_trans (show _ ≤ 100 by simp; omega) (by decide)), fun c H4 s34 hc4 => ?_⟩
      have s24 := s23.trans s34
      refine ⟨child, kd.2, c, path ++ [(kd.1 : Int)], rfl, Dp.same s24 dc, kok, ks.2.2.1 ti, by omega, by omega, by rw [List.map_append]; exact hc4, by rw [List.length_append]; show path.length + 1 + _ ≤ 12; omega, fun H5 r s5 hr5 => ?_⟩
      have s25 := (k3.trans s34).trans s5
      have sH5 := s2.trans s25
      cases e : kd.2.sh (path ++ [(kd.1 : Int)]) with
      | inr f =>
        rw [e] at hr5
        have hr5 : ∃ q, SqT K H5 r [V.str "mix", V.ref q] ∧ SqT K H5 q (f.map V.int) := hr5
        obtain ⟨q, hr6, hq6⟩ := hr5
        refine ⟨_, rfl, _, _, _, _, true, rfl, .ty _, TyX.of_tup hr6, kit_ty (a := "tuple") (b := "tuple") (by decide +kernel), _, rfl, iteT ⟨_, rfl, k H5 r sH5 ?_⟩⟩
        rw [Mx.sh_bad e2 hk e]
        exact ⟨q, hr6, hq6⟩
      | inl zs =>
        rw [e] at hr5
        have hr5 : ∃ q, SqL K H5 r [V.ref q] ∧ ShZ K H5 q zs := hr5
        obtain ⟨q, hr6, hq6⟩ := hr5
        have hL5 := s25 _ _ hL2
        refine ⟨_, rfl, _, _, _, _, false, rfl, .ty _, TyX.of_lst hr6, kit_ty (a := "list") (b := "tuple") (by decide +kernel), _, rfl, iteF ?_⟩
        refine ⟨_, rfl, .inl ⟨rfl, _, SqL.of hL5⟩, _, rfl, r, _, 0, _, rfl, rfl, hr6, atI_nat (j := 0) rfl, L, _, _, rfl, rfl, hL5, small1000 (by omega), ?_⟩
        refine ⟨_, _, us ++ [.ref q], ss ++ [zs], rfl, same_upd nL sH5, ?_, upd_same, ?_, ?_⟩
        · exact tk_lst hL5 _ _ (s25.tup hpl2)
        · exact KdsAt.lst (Paired.snoc2 (F := fun (u : V) (xs : Shx) => ∃ r, u = .ref r ∧ ShZ K H5 r xs) ⟨q, rfl, hq6⟩ (c2.same s25)) hL5
        · rw [take_snoc hk]
          exact Paired.snoc2 (F := fun (kd : Nat × Mx) (xs : Shx) => kd.2.sh (path ++ [(kd.1 : Int)]) = .inl xs) e e2
    · rintro σ H2 ⟨v3, v4, us, ss, rfl, s2, hpl2, hL2, c2, e2⟩
      rw [List.length_map, List.length_map, List.take_length] at e2
      have whole := Mx.sh_all e2
      have kok : KidsOk t.kids ss := kidsOk_of e2 fun kd hk => ⟨WTree.kids_ok t tok kd hk, (Mx.kid_sz kd hk).2.2.1 ti⟩
      refine ⟨_, rfl, _, rfl, .ref a, t, L, us, ss, rfl, Dp.same s2 hu1, tok, ti, bz, hL2, c2, kok, fun H3 r s3 hr3 => ?_⟩
      refine ⟨_, rfl, (by show 0 ≤ sizeLine; decide), fun e0 n0 => ?_⟩
      have k5 := Same.new (o := .lst []) n0
      have s5 := (s2.trans s3).trans k5
      rw [resM_okO] at whole
      cases e : okO (t.md (ss.getD 0 []) (ss.getD 1 [])) with
      | some zs =>
        rw [e] at hr3 whole
        have hr3 : ∃ q, SqL K H3 r [V.ref q] ∧ ShZ K H3 q zs := hr3
        obtain ⟨q, h1, h2⟩ := hr3
        refine ⟨.list [shD zs], _, .lst (k5.seq h1) (.cons (h2.same k5).sh.dp .nil), .lst (ds := []) (SqL.of upd_same) .nil, oneSh_shaped _, by rfl, _, rfl, iteTe rfl ⟨_, rfl, k _ r s5 ?_⟩⟩
        rw [whole]
        exact ⟨q, k5.seq h1, h2.same k5⟩
      | none =>
        rw [e] at hr3 whole
        have hr3 : SqL K H3 r [] := hr3
        refine ⟨.list [], _, .lst (k5.seq hr3) .nil, .lst (ds := []) (SqL.of upd_same) .nil, by rfl, by rfl, _, rfl, iteFe rfl ⟨_, rfl, (by show 2 ≤ sizeLine; decide), fun b nb => ?_⟩⟩
        have k6 := Same.new (o := .tup [V.str "mix", V.ref p]) nb
        refine k _ b (s5.trans k6) ?_
        rw [whole]
        exact ⟨p, SqT.of upd_same, (s5.trans k6).tup hp⟩
end
end CS
set_option Elab.async false
set_option maxRecDepth 100000
set_option maxHeartbeats 8000000
set_option linter.unusedVariables false
set_option pp.maxSteps 6000
/-! the shares that the law tells at all heights; drawn mixes -/
namespace CS
open PySem L2 RZ
section
variable {P : Program} {w : World} {K : PySem.W.Frag} {mg : Str → Option Value} {base : Heap}
theorem lshared_all {f : Addr} {fd : FuncData} (F : Df K mg "_law_shared" sLawShared ["mix_so", "path"] f fd) {f1 : Addr} {fd1 : FuncData} (D1 : Df K mg "_law_one_of" sLawOneOf ["mix_so", "some"] f1 fd1) (G1 : FnOk P w K mg base CX0 6 f1 fd1 ["mix_so", "some"] (spLOne K))
    {f2 : Addr} {fd2 : FuncData} (D2 : Df K mg "_law_inner" sLawInner ["mix_so"] f2 fd2) (G2 : FnOk P w K mg base CX0 1 f2 fd2 ["mix_so"] (spLInner K)) (T : Bt mg) : ∀ h : Nat, FnOk P w K mg base CX0 (h + 7) f fd ["mix_so", "path"] (spLShared K h)
  | 0 => by
    refine F.F.ok scLawShared (fun vs H Q E h => ?_) (fun cdv A outer s H vs Q E hr h => ?_)
    · obtain ⟨u, t, p, path, rfl, _⟩ := h
      rfl
    · obtain ⟨u, t, p, path, rfl, hu1, tok, ti, bz, hh, _⟩ := h
      have := WTree.height_pos t
      have e : t.height = 0 := Nat.le_zero.mp hh
      exact absurd this (by show ¬ 1 ≤ t.height; omega)
  | h + 1 => by
    first
      | exact ok_law_shared F D1 G1 D2 G2 T F (lshared_all F D1 G1 D2 G2 T h)
      | exact ok_law_shared F D2 G2 D1 G1 T F (lshared_all F D1 G1 D2 G2 T h)
theorem ok_law_shared8 {f : Addr} {fd : FuncData} (F : Df K mg "_law_shared" sLawShared ["mix_so", "path"] f fd) {f1 : Addr} {fd1 : FuncData} (D1 : Df K mg "_law_one_of" sLawOneOf ["mix_so", "some"] f1 fd1) (G1 : FnOk P w K mg base CX0 6 f1 fd1 ["mix_so", "some"] (spLOne K))
    {f2 : Addr} {fd2 : FuncData} (D2 : Df K mg "_law_inner" sLawInner ["mix_so"] f2 fd2) (G2 : FnOk P w K mg base CX0 1 f2 fd2 ["mix_so"] (spLInner K)) (T : Bt mg) : FnOk P w K mg base CX0 15 f fd ["mix_so", "path"] (spLShared K 8) := lshared_all F D1 G1 D2 G2 T 8
/-- one of some numbers -/
def spOneOf (K : PySem.W.Frag) : Sp := fun vs H Q _ => ∃ (d c l a : Addr) (k : Nat) (ns : List Int), vs = [.ref d, .ref a] ∧ StAt H d c l k ∧ k ≤ 90000 ∧ H a = some (.lst (ns.map V.int)) ∧ a ≠ d ∧ a ≠ l ∧ 0 < ns.length ∧ ns.length ≤ 900 ∧
  ∀ x H', x ∈ ns → StAt H' d c l (k + 1) → Fm d l H H' → Q (.int x) H'
theorem scLawOf : FnScope ["state", "some"] ["state", "some"] (defScope sLawOf) := ⟨rfl, rfl, rfl, by decide +kernel, rfl, by decide +kernel, by decide +kernel⟩
theorem ok_law_of {f f1 : Addr} {fd fd1 : FuncData} (F : Df K mg "_law_of" sLawOf ["state", "some"] f fd) (D1 : Df K mg "_law_draw" sDraw ["state", "many"] f1 fd1) (G1 : FnOk P w K mg base CX0 2 f1 fd1 ["state", "many"] spDraw) (T : Bt mg) : FnOk P w K mg base CX0 3 f fd ["state", "some"] (spOneOf K) := by
  refine F.F.ok scLawOf (fun vs H Q E h => ?_) (fun cdv A outer s H vs Q E hr h => ?_)
  · obtain ⟨d, c, l, a, k, ns, rfl, _⟩ := h
    rfl
  · obtain ⟨d, c, l, a, k, ns, rfl, S, hk, ha, nd, nl, l0, l9, q⟩ := h
    refine ⟨_, pss_one (ps_ret (pe_ix ix_list (pv 1) (pe_call G1 hr (by rfl) D1.g D1.F.kp D1.b .nil pass0 (pa_cons (pv 0) (pa_cons (pe_callB (r := Evl.rLenS K) call_len_seq (by rfl) T.len PySem.boot_len (pa_cons (pv 1) pa_nil)) pa_nil))) (fun _ _ => rfl))), ?_⟩
    refine ⟨_, rfl, _, rfl, _, rfl, a, _, rfl, .inl (SqL.of ha), d, c, l, k, _, rfl, S, ?_, ?_, by omega, fun r H' r0 r1 S' fm => ?_⟩
    · rw [List.length_map]; omega
    · rw [List.length_map]
      have : (2 : Nat) ^ 200 > 900 := by decide
      omega
    · rw [List.length_map] at r1
      obtain ⟨j, rfl⟩ : ∃ j : Nat, r = (j : Int) := ⟨r.toNat, by omega⟩
      have lj : j < ns.length := by omega
      have hj : ns[j]? = some ns[j] := List.getElem?_eq_getElem lj
      refine ⟨a, _, _, _, rfl, rfl, SqL.of (fm _ _ ha nd nl), atI_nat (j := j) (by rw [List.getElem?_map, hj]; rfl), ?_⟩
      exact q _ _ (List.getElem_mem lj) S' fm
theorem or_pos {c : Bool} {A B : Prop} (hB : c = false → A → B) (hA : A) : if c = true then A else B := by
  cases c with
  | true => exact iteT hA
  | false => exact iteF (hB rfl hA)
theorem inM27 {x : Int} (h : x ∈ [(-4 : Int), -2, 0, 1, 2, 3, 6, 100]) : -4 ≤ x ∧ x ≤ 100 := by
  simp only [List.mem_cons, List.not_mem_nil, or_false] at h
  exact ⟨by omega, by omega⟩
theorem inB27 {x : Int} (h : x ∈ [(-3 : Int), 1, 2, 5, -200, 200]) : -200 ≤ x ∧ x ≤ 200 := by
  simp only [List.mem_cons, List.not_mem_nil, or_false] at h
  exact ⟨by omega, by omega⟩
/-- how many draws at most; how large the shares' lower numbers -/
def mixN : Nat → Nat
  | 0 => 4
  | m + 1 => 4 + 2 * mixN m
def dNM : Nat → Nat
  | 0 => 3
  | m + 1 => max (2 * dNM m) (dNM m + 8)
theorem mixN_four : ∀ n, 4 ≤ mixN n
  | 0 => Nat.le_refl _
  | m + 1 => by show 4 ≤ 4 + 2 * mixN m; omega
theorem dNM_three : ∀ n, 3 ≤ dNM n
  | 0 => Nat.le_refl _
  | m + 1 => by have := dNM_three m; show 3 ≤ max (2 * dNM m) (dNM m + 8); omega
theorem wrdM_succ (m : Nat) : 2 ^ (m + 1 + 1) - 1 = 1 + 2 * (2 ^ (m + 1) - 1) := by
  have h1 : 2 ^ (m + 1 + 1) = 2 * 2 ^ (m + 1) := by rw [Nat.pow_succ]; omega
  have h2 : 0 < 2 ^ (m + 1) := Nat.pow_pos (by decide)
  omega
theorem wrdM_pos (n : Nat) : 1 ≤ 2 ^ (n + 1) - 1 := by
  have h1 : 2 ^ (n + 1) = 2 * 2 ^ n := by rw [Nat.pow_succ]; omega
  have h2 : 0 < 2 ^ n := Nat.pow_pos (by decide)
  omega
def spMix (K : PySem.W.Frag) (n : Nat) : Sp := fun vs H Q _ => ∃ (d c l : Addr) (k : Nat), vs = [.ref d, .int (n : Int)] ∧ StAt H d c l k ∧ k + mixN n ≤ 80000 ∧
  ∀ H' u t k', t.Ok → t.tiny → t.height ≤ n + 1 → t.words ≤ 2 ^ (n + 1) - 1 → t.dB ≤ dNM n → t.vB ≤ 3 + 4 * n → k' ≤ k + mixN n → StAt H' d c l k' → Fm d l H H' → Dp K H' u (Mx.toD t) → Q u H'
def spMixP (K : PySem.W.Frag) (n : Nat) : Sp := fun vs H Q E => ∃ m, n = m + 1 ∧ spMix K m vs H Q E
abbrev nsLawMix : List Str := ["state", "deep", "choice", "mark", "top", "bottom", "one", "low", "high"]
theorem scLawMix : FnScope nsLawMix ["state", "deep"] (defScope sLawMix) := ⟨rfl, rfl, rfl, by decide +kernel, rfl, by decide +kernel, by decide +kernel⟩
theorem ok_law_mix {f : Addr} {fd : FuncData} (F : Df K mg "_law_mix" sLawMix ["state", "deep"] f fd)
    {f1 : Addr} {fd1 : FuncData} (D1 : Df K mg "_law_draw" sDraw ["state", "many"] f1 fd1) (G1 : FnOk P w K mg base CX0 2 f1 fd1 ["state", "many"] (spDraw))
    {f2 : Addr} {fd2 : FuncData} (D2 : Df K mg "_law_of" sLawOf ["state", "some"] f2 fd2) (G2 : FnOk P w K mg base CX0 3 f2 fd2 ["state", "some"] (spOneOf K))
    {n : Nat} (T : Bt mg) (mmin : mg "min" = none) {f9 : Addr} {fd9 : FuncData} (D9 : Df K mg "_law_mix" sLawMix ["state", "deep"] f9 fd9) (G9 : FnOk P w K mg base CX0 (n + 3) f9 fd9 ["state", "deep"] (spMixP K n)) (n3 : n ≤ 3) : FnOk P w K mg base CX0 (n+4) f fd ["state", "deep"] (spMix K n) := by
  refine F.F.ok scLawMix (fun vs H Q E h => ?_) (fun cdv A outer s H vs Q E hr h => ?_)
  · obtain ⟨d, c, l, k, rfl, _⟩ := h
    rfl
  · obtain ⟨d, c, l, k, rfl, S, hk, kk⟩ := h
    refine ⟨_, (pss_cons (ps_par (i := 2) (j := 3) (by rfl) scLawMix.nd rfl rfl (by decide) rfl rfl (pa_cons (pe_call G1 (hr.mono (by omega)) (by rfl) D1.g D1.F.kp D1.b .nil pass0 (pa_cons (pv 0) (pa_cons pe_int pa_nil))) (pa_cons (pe_call G2 (hr.mono (by omega)) (by rfl) D2.g D2.F.kp D2.b .nil pass0 (pa_cons (pv 0) (pa_cons (pe_lst (pa_cons (pe_un un_neg pe_int) (pa_cons (pe_un un_neg pe_int) (pa_cons pe_int (pa_cons pe_int (pa_cons pe_int (pa_cons pe_int (pa_cons pe_int (pa_cons pe_int pa_nil))))))))) pa_nil))) pa_nil)) (by rfl))
      (pss_cons (ps_if (PW.pt (pw_or (pt_cmpR op_eq (pv 1) pe_int (nomark _)) (pw_or1 (pt_cmpR op_lt (pv 2) pe_int (nomark _))))) (pss_cons (ps_par (i := 4) (j := 5) (by rfl) scLawMix.nd rfl rfl (by decide) rfl rfl (pa_cons (pe_op op_add pe_int (pe_call G1 (hr.mono (by omega)) (by rfl) D1.g D1.F.kp D1.b .nil pass0 (pa_cons (pv 0) (pa_cons pe_int pa_nil)))) (pa_cons (pe_op op_add pe_int (pe_call G1 (hr.mono (by omega)) (by rfl) D1.g D1.F.kp D1.b .nil pass0 (pa_cons (pv 0) (pa_cons pe_int pa_nil)))) pa_nil)) (by rfl))
      (pss_one (ps_ret (pe_ifExp (pt_cmpR op_eq (pv 2) pe_int (nomark _)) (pe_tup (pa_cons pe_str pa_nil)) (pe_tup (pa_cons pe_str (pa_cons (pv 3) (pa_cons (pv 4) (pa_cons (pv 5) pa_nil))))))))) pss_nil)
      (pss_cons (ps_set (i := 6) scLawMix.nd rfl (Or.inl rfl) (pe_call G9 (hr.mono (by omega)) (by rfl) D9.g D9.F.kp D9.b .nil pass0 (pa_cons (pv 0) (pa_cons (pe_op op_sub (pv 1) pe_int) pa_nil))))
      (pss_cons (ps_if (pt_cmpR op_lt (pv 2) pe_int (nomark _)) (pss_one (ps_ret (pe_tup (pa_cons pe_str (pa_cons (pv 6) (pa_cons (pe_call G9 (hr.mono (by omega)) (by rfl) D9.g D9.F.kp D9.b .nil pass0 (pa_cons (pv 0) (pa_cons (pe_op op_sub (pv 1) pe_int) pa_nil))) pa_nil)))))) pss_nil)
      (pss_cons (ps_if (pt_cmpR op_eq (pv 2) pe_int (nomark _)) (pss_one (ps_ret (pe_tup (pa_cons pe_str (pa_cons (pv 6) (pa_cons (pe_call G2 (hr.mono (by omega)) (by rfl) D2.g D2.F.kp D2.b .nil pass0 (pa_cons (pv 0) (pa_cons (pe_lst (pa_cons (pe_un un_neg pe_int) (pa_cons pe_int (pa_cons pe_int (pa_cons pe_int (pa_cons (pe_un un_neg pe_int) (pa_cons pe_int pa_nil))))))) pa_nil))) pa_nil)))))) pss_nil)
      (pss_cons (ps_if (pt_cmpR op_eq (pv 2) pe_int (nomark _)) (pss_one (ps_ret (pe_tup (pa_cons pe_str (pa_cons (pv 6) (pa_cons (pe_op op_add pe_int (pe_call G1 (hr.mono (by omega)) (by rfl) D1.g D1.F.kp D1.b .nil pass0 (pa_cons (pv 0) (pa_cons pe_int pa_nil)))) (pa_cons (pe_op op_add pe_int (pe_call G1 (hr.mono (by omega)) (by rfl) D1.g D1.F.kp D1.b .nil pass0 (pa_cons (pv 0) (pa_cons pe_int pa_nil)))) pa_nil))))))) pss_nil)
      (pss_cons (ps_set (i := 3) scLawMix.nd rfl (Or.inl rfl) (pe_callB (call_min2 rfl) (by rfl) mmin (by decide +kernel) (pa_cons (pv 3) (pa_cons pe_int pa_nil))))
      (pss_cons (ps_par (i := 7) (j := 8) (by rfl) scLawMix.nd rfl rfl (by decide) rfl rfl (pa_cons (pe_op op_sub (pe_op op_sub (pv 3) pe_int) (pe_call G1 (hr.mono (by omega)) (by rfl) D1.g D1.F.kp D1.b .nil pass0 (pa_cons (pv 0) (pa_cons pe_int pa_nil)))) (pa_cons (pe_op op_add (pe_op op_add (pv 3) pe_int) (pe_call G1 (hr.mono (by omega)) (by rfl) D1.g D1.F.kp D1.b .nil pass0 (pa_cons (pv 0) (pa_cons pe_int pa_nil)))) pa_nil)) (by rfl))
      (pss_one (ps_ret (pe_ifExp (pt_cmpR op_lt (pv 2) pe_int (nomark _)) (pe_tup (pa_cons pe_str (pa_cons (pv 6) (pa_cons (pv 3) (pa_cons (pv 7) (pa_cons (pv 8) pa_nil)))))) (pe_tup (pa_cons pe_str (pa_cons (pv 6) (pa_cons (pv 7) (pa_cons (pv 8) pa_nil)))))))))))))))), ?_⟩
    have d4 := mixN_four n
    have wp := wrdM_pos n
    have d3 := dNM_three n
    refine ⟨_, rfl, d, c, l, k, 14, rfl, S, by decide, by decide, by omega, fun r H1 r0 r1 S1 fm1 => ?_⟩
    refine ⟨_, rfl, _, rfl, _, rfl, (by show 8 ≤ sizeLine; decide), fun a1 n1 => ?_⟩
    have k1 := Same.new (o := .lst [V.int (-4), V.int (-2), V.int 0, V.int 1, V.int 2, V.int 3, V.int 6, V.int 100]) n1
    have N1 := S1.neD n1
    refine ⟨d, c, l, a1, _, [-4, -2, 0, 1, 2, 3, 6, 100], rfl, S1.same k1, by omega, upd_same, N1.1, N1.2.2, by decide, by decide, fun m H2 hm S2 fm2 => ⟨_, _, rfl, ?_⟩⟩
    have om := inM27 hm
    have fm : Fm d l H H2 := (fm1.same k1).trans fm2
    clear fm1 fm2 k1 N1 n1 S1 hm
    refine ⟨_, rfl, rfl, _, rfl, ?_⟩
    rw [dec_int]
    by_cases lf : (n : Int) = 0 ∨ r < 3
    · refine or_pos (fun z nx => ?_) (iteT ?_)
      · have z2 : ¬ (n : Int) = 0 := beq_eq_false_iff_ne.mp z
        refine ⟨_, rfl, _, _, rfl, rfl, _, rfl, ?_⟩
        rw [decide_eq_true (lf.resolve_left z2)]
        exact nx
      · refine ⟨_, rfl, d, c, l, _, 6, rfl, S2, by decide, by decide, by omega, fun t H3 t0 t1 S3 fm3 => ⟨_, _, rfl, rfl, _, rfl, d, c, l, _, 4, rfl, S3, by decide, by decide, by omega, fun b H4 b0 b1 S4 fm4 => ⟨_, _, rfl, rfl, _, _, rfl, ?_⟩⟩⟩
        have fm24 := (fm.trans fm3).trans fm4
        refine ⟨_, rfl, rfl, _, rfl, ?_⟩
        rw [dec_int]
        by_cases c2 : r = 2
        · refine iteTe (beq_iff_eq.mpr c2) ⟨(by show 1 ≤ sizeLine; decide), fun e ne => ?_⟩
          have q := Same.new (o := .tup [V.str "none"]) ne
          exact kk _ (.ref e) .none_ _ trivial trivial (by show 1 ≤ n + 1; omega) (by show 1 ≤ _; omega) (by show 0 ≤ _; omega) (by show 0 ≤ _; omega) (by omega) (S4.same q) (fm24.same q) (.tup (SqT.of upd_same) (.cons (.str _) .nil))
        · refine iteFe (beq_eq_false_iff_ne.mpr c2) ⟨_, rfl, _, rfl, _, rfl, (by show 4 ≤ sizeLine; decide), fun e ne => ?_⟩
          have q := Same.new (o := .tup [V.str "point", V.int m, V.int (1 + t), V.int (1 + b)]) ne
          exact kk _ (.ref e) (.point_ m (1 + t) (1 + b)) _ ⟨⟨by omega, by omega⟩, ⟨by omega, by omega⟩, ⟨by omega, by omega⟩⟩ ⟨by omega, by omega⟩ (by show 1 ≤ n + 1; omega) (by show 1 ≤ _; omega) (by show 3 ≤ _; omega) (by show 3 ≤ _; omega) (by omega) (S4.same q) (fm24.same q) (.tup (SqT.of upd_same) (.cons (.str _) (.cons (.int _) (.cons (.int _) (.cons (.int _) .nil)))))
    · obtain ⟨nz, r3⟩ := not_or.mp lf
      obtain ⟨n', rfl⟩ : ∃ n', n = n' + 1 := ⟨n - 1, by omega⟩
      have ds : mixN (n' + 1) = 4 + 2 * mixN n' := rfl
      have es : dNM (n' + 1) = max (2 * dNM n') (dNM n' + 8) := rfl
      have wsu := wrdM_succ n'
      have wp' := wrdM_pos n'
      refine iteFe (beq_eq_false_iff_ne.mpr nz) ⟨_, rfl, _, _, rfl, rfl, _, rfl, iteFe (decide_eq_false r3) ?_⟩
      refine ⟨_, rfl, _, rfl, _, _, rfl, rfl, n', rfl, d, c, l, _, (by rw [show (V.int (n' : Int)) = V.int (((n' + 1 : Nat) : Int) - 1) from congrArg V.int (by omega)]; rfl), S2, by omega, fun H3 u1 t1 k3 ok1 ti1 h1 w1 b1 v1 e1 S3 fm3 g1 => ?_⟩
      have fm13 := fm.trans fm3
      refine ⟨_, rfl, _, _, rfl, rfl, _, rfl, ?_⟩
      by_cases r8 : r < 8
      · refine iteTe (decide_eq_true r8) ⟨_, rfl, _, rfl, _, rfl, _, _, rfl, rfl, n', rfl, d, c, l, _, (by rw [show (V.int (n' : Int)) = V.int (((n' + 1 : Nat) : Int) - 1) from congrArg V.int (by omega)]; rfl), S3, by omega, fun H4 u2 t2 k4 ok2 ti2 h2 w2 b2 v2 e2 S4 fm4 g2 => ⟨(by show 3 ≤ sizeLine; decide), fun e ne => ?_⟩⟩
        have q := Same.new (o := .tup [V.str "mixed", u1, u2]) ne
        have g14 := Dp.tk (tk_fm fm4 S3) (Mx.flat_ t1) g1
        exact kk _ (.ref e) (.mixed_ t1 t2) _ ⟨ok1, ok2⟩ ⟨ti1, ti2⟩ (by show max t1.height t2.height + 1 ≤ _; omega) (by show t1.words + t2.words + 1 ≤ _; omega) (by show t1.dB + t2.dB ≤ _; omega) (by show max t1.vB t2.vB + 4 ≤ _; omega) (by omega) (S4.same q) ((fm13.trans fm4).same q) (.tup (SqT.of upd_same) (.cons (.str _) (.cons (Dp.same q g14) (.cons (Dp.same q g2) .nil))))
      refine iteFe (decide_eq_false r8) ⟨_, rfl, rfl, _, rfl, ?_⟩
      rw [dec_int]
      by_cases r8e : r = 8
      · refine iteTe (beq_iff_eq.mpr r8e) ⟨_, rfl, _, rfl, _, rfl, _, rfl, (by show 6 ≤ sizeLine; decide), fun a2 n2 => ?_⟩
        have k2 := Same.new (o := .lst [V.int (-3), V.int 1, V.int 2, V.int 5, V.int (-200), V.int 200]) n2
        have N2 := S3.neD n2
        refine ⟨d, c, l, a2, _, [-3, 1, 2, 5, -200, 200], rfl, S3.same k2, by omega, upd_same, N2.1, N2.2.2, by decide, by decide, fun x H4 hx S4 fm4 => ⟨(by show 3 ≤ sizeLine; decide), fun e ne => ?_⟩⟩
        have ox := inB27 hx
        have q := Same.new (o := .tup [V.str "moved", u1, V.int x]) ne
        have g14 := Dp.tk (tk_fm fm4 (S3.same k2)) (Mx.flat_ t1) (Dp.same k2 g1)
        exact kk _ (.ref e) (.moved_ t1 x) _ ⟨ok1, ox.1, ox.2⟩ ti1 (by show t1.height + 1 ≤ _; omega) (by show t1.words + 1 ≤ _; omega) (by show t1.dB ≤ _; omega) (by show t1.vB ≤ _; omega) (by omega) (S4.same q) (((fm13.same k2).trans fm4).same q) (.tup (SqT.of upd_same) (.cons (.str _) (.cons (Dp.same q g14) (.cons (.int _) .nil))))
      refine iteFe (beq_eq_false_iff_ne.mpr r8e) ⟨_, rfl, rfl, _, rfl, ?_⟩
      rw [dec_int]
      by_cases r9 : r = 9
      · refine iteTe (beq_iff_eq.mpr r9) ⟨_, rfl, _, rfl, d, c, l, _, 6, rfl, S3, by decide, by decide, by omega, fun x H4 x0 x1 S4 fm4 => ⟨_, _, rfl, rfl, _, rfl, d, c, l, _, 6, rfl, S4, by decide, by decide, by omega, fun y H5 y0 y1 S5 fm5 => ⟨_, _, rfl, rfl, (by show 4 ≤ sizeLine; decide), fun e ne => ?_⟩⟩⟩
        have q := Same.new (o := .tup [V.str "scaled", u1, V.int (1 + x), V.int (1 + y)]) ne
        have g15 := Dp.tk (tk_fm (fm4.trans fm5) S3) (Mx.flat_ t1) g1
        exact kk _ (.ref e) (.scaled_ t1 (1 + x) (1 + y)) _ ⟨ok1, ⟨by omega, by omega⟩, ⟨by omega, by omega⟩⟩ ⟨ti1, by omega, by omega⟩ (by show t1.height + 1 ≤ _; omega) (by show t1.words + 1 ≤ _; omega) (by show t1.dB + 3 ≤ _; omega) (by show t1.vB + 3 ≤ _; omega) (by omega) (S5.same q) (((fm13.trans fm4).trans fm5).same q) (.tup (SqT.of upd_same) (.cons (.str _) (.cons (Dp.same q g15) (.cons (.int _) (.cons (.int _) .nil)))))
      refine iteFe (beq_eq_false_iff_ne.mpr r9) ⟨_, rfl, _, _, rfl, ?_⟩
      have om2 : -4 ≤ (if (90 : Int) < m then 90 else m) ∧ (if (90 : Int) < m then 90 else m) ≤ 90 := by split <;> omega
      generalize (if (90 : Int) < m then 90 else m) = m2 at *
      refine ⟨_, rfl, _, _, rfl, rfl, _, rfl, d, c, l, _, 4, rfl, S3, by decide, by decide, by omega, fun x H4 x0 x1 S4 fm4 => ⟨_, _, rfl, rfl, _, rfl, _, _, rfl, rfl, _, rfl, d, c, l, _, 4, rfl, S4, by decide, by decide, by omega, fun y H5 y0 y1 S5 fm5 => ⟨_, _, rfl, rfl, _, _, rfl, ?_⟩⟩⟩
      have g15 := Dp.tk (tk_fm (fm4.trans fm5) S3) (Mx.flat_ t1) g1
      have fm15 := (fm13.trans fm4).trans fm5
      refine ⟨_, rfl, _, _, rfl, rfl, _, rfl, ?_⟩
      by_cases r12 : r < 12
      · refine iteTe (decide_eq_true r12) ⟨_, rfl, _, rfl, _, rfl, _, rfl, (by show 5 ≤ sizeLine; decide), fun e ne => ?_⟩
        have q := Same.new (o := .tup [V.str "spread", u1, V.int m2, V.int (m2 - 1 - x), V.int (m2 + 1 + y)]) ne
        exact kk _ (.ref e) (.spread_ t1 m2 (m2 - 1 - x) (m2 + 1 + y)) _ ⟨ok1, ⟨by omega, by omega⟩, ⟨by omega, by omega⟩, ⟨by omega, by omega⟩, by omega, by omega⟩ ti1 (by show t1.height + 1 ≤ _; omega) (by show t1.words + 1 ≤ _; omega) (by show t1.dB + 8 ≤ _; omega) (by show t1.vB + 4 ≤ _; omega) (by omega) (S5.same q) (fm15.same q) (.tup (SqT.of upd_same) (.cons (.str _) (.cons (Dp.same q g15) (.cons (.int _) (.cons (.int _) (.cons (.int _) .nil))))))
      · refine iteFe (decide_eq_false r12) ⟨_, rfl, _, rfl, _, rfl, (by show 4 ≤ sizeLine; decide), fun e ne => ?_⟩
        have q := Same.new (o := .tup [V.str "drawn", u1, V.int (m2 - 1 - x), V.int (m2 + 1 + y)]) ne
        exact kk _ (.ref e) (.drawn_ t1 (m2 - 1 - x) (m2 + 1 + y)) _ ⟨ok1, ⟨by omega, by omega⟩, ⟨by omega, by omega⟩, by omega⟩ ti1 (by show t1.height + 1 ≤ _; omega) (by show t1.words + 1 ≤ _; omega) (by show t1.dB ≤ _; omega) (by show t1.vB + 3 ≤ _; omega) (by omega) (S5.same q) (fm15.same q) (.tup (SqT.of upd_same) (.cons (.str _) (.cons (Dp.same q g15) (.cons (.int _) (.cons (.int _) .nil)))))
theorem ok_law_mixes {f : Addr} {fd : FuncData} (F : Df K mg "_law_mix" sLawMix ["state", "deep"] f fd)
    {f1 : Addr} {fd1 : FuncData} (D1 : Df K mg "_law_of" sLawOf ["state", "some"] f1 fd1) (G1 : FnOk P w K mg base CX0 3 f1 fd1 ["state", "some"] (spOneOf K))
    {f2 : Addr} {fd2 : FuncData} (D2 : Df K mg "_law_draw" sDraw ["state", "many"] f2 fd2) (G2 : FnOk P w K mg base CX0 2 f2 fd2 ["state", "many"] spDraw) (T : Bt mg) (mmin : mg "min" = none) :
    ∀ n : Nat, n ≤ 3 → FnOk P w K mg base CX0 (n + 4) f fd ["state", "deep"] (spMix K n)
  | 0, h => by
    refine ok_law_mix F D2 G2 D1 G1 T mmin F (n := 0) ?_ h
    refine F.F.ok scLawMix (fun vs H Q E h => ?_) (fun cdv A outer s H vs Q E hr h => ?_)
    · obtain ⟨m, e, _⟩ := h
      cases e
    · obtain ⟨m, e, _⟩ := h
      cases e
  | n + 1, h => by
    refine ok_law_mix F D2 G2 D1 G1 T mmin F (n := n + 1) ?_ h
    have e : spMixP K (n + 1) = spMix K n := by
      funext vs H Q E
      refine propext ⟨fun ⟨m, e, q⟩ => ?_, fun q => ⟨n, rfl, q⟩⟩
      cases e
      exact q
    rw [e]
    exact ok_law_mixes F D1 G1 D2 G2 T mmin n (by omega)
theorem ok_law_mix3 {f : Addr} {fd : FuncData} (F : Df K mg "_law_mix" sLawMix ["state", "deep"] f fd)
    {f1 : Addr} {fd1 : FuncData} (D1 : Df K mg "_law_of" sLawOf ["state", "some"] f1 fd1) (G1 : FnOk P w K mg base CX0 3 f1 fd1 ["state", "some"] (spOneOf K))
    {f2 : Addr} {fd2 : FuncData} (D2 : Df K mg "_law_draw" sDraw ["state", "many"] f2 fd2) (G2 : FnOk P w K mg base CX0 2 f2 fd2 ["state", "many"] spDraw) (T : Bt mg) (mmin : mg "min" = none) : FnOk P w K mg base CX0 7 f fd ["state", "deep"] (spMix K 3) := ok_law_mixes F D1 G1 D2 G2 T mmin 3 (Nat.le_refl _)
end
end CS
set_option Elab.async false
set_option maxRecDepth 100000
set_option maxHeartbeats 4000000
set_option linter.unusedVariables false
/-! A lambda whose parameter's name is a name of the def around it, too: its slot is not seen within. -/
namespace CS
open PySem PySem.Spec PyProof.Rows L2 LamX
def maskS (N : List Str) (scope : Scope) (σ : L2.St) : L2.St := List.zipWith (fun y v => if scope.names.lookup y = some .local then none else v) N σ
theorem maskS_len {N : List Str} {scope : Scope} {σ : L2.St} (h : σ.length = N.length) : (maskS N scope σ).length = N.length := by
  unfold maskS
  rw [List.length_zipWith, h, Nat.min_self]
theorem maskS_get {N : List Str} {scope : Scope} {σ : L2.St} {i : Nat} {y : Str} {v : Option V} (h : σ[i]? = some v) (hy : N[i]? = some y) (n : scope.names.lookup y ≠ some .local) : (maskS N scope σ)[i]? = some v := by
  unfold maskS
  rw [List.getElem?_zipWith, h, hy]
  show some (if scope.names.lookup y = some .local then none else v) = some v
  rw [if_neg n]
theorem maskS_inv {N : List Str} {scope : Scope} {σ : L2.St} {i : Nat} {y : Str} {v : V} (hy : N[i]? = some y) (h : (maskS N scope σ)[i]? = some (some v)) : σ[i]? = some (some v) ∧ scope.names.lookup y ≠ some .local := by
  unfold maskS at h
  rw [List.getElem?_zipWith, hy] at h
  cases e : σ[i]? with
  | none => rw [e] at h; cases h
  | some u =>
    rw [e] at h
    have h2 : (if scope.names.lookup y = some .local then none else u) = some v := Option.some.inj h
    by_cases c : scope.names.lookup y = some .local
    · rw [if_pos c] at h2; cases h2
    · rw [if_neg c] at h2; exact ⟨by rw [h2], c⟩
section
variable {X : Cx} {scope : Scope} {σ : L2.St} {l : Addr → Option Obj} {params : Arguments} {body : Expr} {f c' : Addr} {dV doc pm ctv : Value} {k : Nat} {binds : List (Str × Value)} {E : XK} {tb : TE}
theorem Held.mask (V : Held X scope σ l) : Held X scope (maskS X.N scope σ) l := ⟨V.all, fun i x v e1 e2 e3 => V.val i x v e1 (maskS_inv e1 e2).1 e3⟩
theorem lam_invM {A : Around} {outer : List Env} {s : Shared} {H : Hp} {h₁ : Heap} {tk : Nat} (ok : X.Ok) (L : LScope X.env.scope scope []) (own : ∀ (i : Nat) (y : Str) (v : V), X.N[i]? = some y → σ[i]? = some (some v) → scope.names.lookup y ≠ some .local) (V : Held X scope σ l) (hlen : σ.length = X.N.length) (C : Cin l H) (e0 : Env0 X.prog X.w X.K X.mg X.base A outer s H) (hd : A.handled = none)
    (hns : h₁.Ns s.heap.objs.size fun y => binds.reverse.lookup y) (kp : ∀ b o, s.heap.get? b = some o → h₁.get? b = some o) : Inv (lamCx X A outer s (subC l H) E scope f c') [] σ (subC l H) { s with heap := h₁, toks := tk } := by
  have hfree := L.has ok
  have at_ : ∀ {c o}, l c = some o → s.heap.get? c = some o := fun {c o} e => cellX_at e0.hok (C c o e)
  have hs := hok_sub C e0.hok
  refine {
    ok := {
      mod := e0.mod, kind := L.kind, glob := rfl, blt := rfl, above := Nat.le_refl _
      inj := fun y z c e1 e2 => ok.inj y z c (NdefX.clo_cm hfree e1) (NdefX.clo_cm hfree e2)
      has := fun y hy => ?_
      cab := fun y c z _ => absurd (show false = true from z) (by decide)
      hd := fun _ => hd
      frames := Around.frames_deeper e0.frames
      stk := .inr ⟨rfl, rfl⟩
      exf := fun b z => absurd (show b ∈ ([] : List Addr) from z) (by simp)
      bs := fun b o e => ⟨(e0.bs b o e).1, sub_none (e0.bs b o e).2⟩
      bsz := e0.bsz
      noex := fun b _ _ z => absurd (show b ∈ ([] : List Addr) from z) (by simp)
      exfs := fun b z => absurd (show b ∈ ([] : List Addr) from z) (by simp)
      funs := e0.funs
      frf := fun b hb => sub_none (e0.frf b hb) }
    os := rfl
    bare := e0.bare
    base := Un.kept kp
    loc := ⟨_, hns, fun i y v e1 e2 e3 => ?_⟩
    cell := fun y c e => ?_
    free := hs.fresh (Nat.le_refl _)
    freeC := fun y c e => ?_
    pin := fun q hq => absurd (show q ∈ ([] : List (Addr × Obj)) ++ [] from hq) (by simp)
    hok := hs.kept kp
    len := hlen }
  · have hy : scope.names.lookup y = some .cell ∨ scope.names.lookup y = some .free := hy
    rcases hy with hy | hy
    · exact absurd rfl (L.cell _ (PySem.mem_of_lookup hy))
    · obtain ⟨c, hc⟩ := hfree _ (PySem.mem_of_lookup hy) rfl
      exact ⟨c, NdefX.clo_has hfree (PySem.mem_of_lookup hy) hc⟩
  · have e3 : Vis scope y := e3
    have e1 : X.N[i]? = some y := e1
    rcases e3 with q | q | q
    · exact absurd q (own i y v e1 e2)
    · exact absurd rfl (L.cell _ (PySem.mem_of_lookup q))
    · obtain ⟨c, o, u, h1, h2, h3, r⟩ := V.val i y v e1 e2 q
      exact ⟨u, r, .inr ⟨.inr q, c, h1, o, kp _ _ (at_ h2), h3⟩⟩
  · obtain ⟨o, v, h1, h2⟩ := V.all y c e
    exact ⟨v, o, kp _ _ (at_ h1), h2⟩
  · obtain ⟨o, v, h1, h2⟩ := V.all y c e
    exact subC_in h1
theorem lact_okM {tb : XK → TE} (ok : X.Ok) (L : LScope X.env.scope scope []) (own : ∀ (i : Nat) (y : Str) (v : V), X.N[i]? = some y → σ[i]? = some (some v) → scope.names.lookup y ≠ some .local) (V : Held X scope σ l) (hlen : σ.length = X.N.length)
    (hb : ∀ (A : Around) (outer : List Env) (s : Shared) (H : Hp) (E : XK) (f c' : Addr), Room k (A.deeper (lamEnv X scope s.heap.objs.size f c')) → PE (lamCx X A outer s H E scope f c') body (tb E)) :
    ActOk X.prog X.w X.K X.mg X.base (k + 1) (lact X scope params body σ l tb) := by
  intro f A outer s H Q E hr e0 h
  obtain ⟨c', dV, doc, pm, ctv, H1, Q0, E0, rfl, F, hf, hc, hbind, q, hQ, hE⟩ := h
  have hf2 : addC l H1 f = some (FunO f (lfd X scope params body c' dV doc pm ctv)) := by rw [addC_out (F.out hf)]; exact hf
  have hc2 : addC l H1 c' = some (CodeO c' (X.env.qual ++ "<lambda>")) := by rw [addC_out (F.out hc)]; exact hc
  refine ⟨⟨_, hf2⟩, ?_⟩
  obtain ⟨od, sl, ho⟩ := funO_at e0.hok hf2
  have C : Cin l (addC l H1) := cin_add
  have es : subC l (addC l H1) = H1 := sub_add F
  obtain ⟨binds, hbi, hloc⟩ := hbind _ _ s c' doc pm ctv e0.hok
  refine PySem.W.kla_callFunE hr.depth ho rfl L.co L.gen rfl (NdefX.codeO_at e0.hok hc2) (hbi _ _ _ _ ?_)
  refine wpAny_newFunctionEnv L.cell hloc (fun h₁ hns hsb => ⟨((e0.mod.nolimit).keeps fun b o e => (e0.bs b o e).1).fresh _ hsb, ?_⟩) L.kind
  show codeAny _ _ (.expr body (lamEnv X scope s.heap.objs.size f c')) _ _
  have kp : ∀ b o, s.heap.get? b = some o → h₁.get? b = some o := fun b o e => hsb.extBut b o (Nat.ne_of_lt (Heap.lt_size e)) (Heap.get?_push_of_some _ e)
  have I := lam_invM (E := E0) (f := f) (c' := c') (tk := s.toks + binds.length) ok L own V hlen C e0 hr.hd hns kp
  rw [es] at I
  have nfr : ∀ b ∈ frs outer, addC l H1 b = none := e0.frf
  have cx : ∀ {e : Value} {s3 : Shared}, L2.CX X.prog X.w outer H1 s E0 e s3 → L2.CX X.prog X.w outer (addC l H1) s E e s3 := fun {e s3} hx => by
    refine cx_add C e0.hok nfr ?_
    rw [es]
    obtain ⟨a, B, H', cls, d, x1, x2, x3, x4, x5, x6, x7, x8⟩ := hx
    exact ⟨a, B, H', cls, d, x1, x2, x3, x4, x5, x6, x7, fun F' => hE cls d H' F' x8⟩
  refine PySem.W.kla_codeExpr (wpAny_mono ((hb A outer s H1 E0 f c' (hr.deeper _)).run [] _ σ H1 Q0 I q) (fun u s2 hq => ?_) fun e s2 he => wpAny_mono he (fun _ _ hx => cx hx) fun _ _ hx => cx hx)
  obtain ⟨v, H2, I2, r, q2⟩ := hq
  have F2 : Free l H2 := fun b o e => I2.base.free b o (cellX_at e0.hok (C b o e)) (F b o e) (by intro z; cases z)
  have un : Un (frs outer) [] (subC l (addC l H1)) H2 s.heap s2.heap := by rw [es]; exact I2.base
  refine ⟨v, addC l H2, I2.os, I2.bare, un_add C F2 un, hok_add F2 I2.hok fun b o e => ?_, r, hQ v H2 F2 q2⟩
  refine I2.base.keep b o (cellX_at e0.hok (C b o e)) (F b o e) (fun z => ?_) (by intro z; cases z)
  have := nfr b z
  rw [C b o e] at this
  cases this
end
section
variable {X : Cx} {pins : List (Addr × Obj)} {σ : L2.St} {H : Hp} {s : Shared} {scope : Scope} {params : Arguments} {body : Expr} {k : Nat}
theorem pe_lam0M {T : List (Addr × Str)} {c P : Addr} {pos : PySem.Pos} (TB : LamX.TabB X.base X.mg c P) (hcode : X.env.code = .ref c) (hm : (P, X.env.qual ++ "<lambda>") ∈ T)
    (hu : ∀ p ∈ T, p.1 = P → p.2 = X.env.qual ++ "<lambda>") (L : LScope X.env.scope scope []) (hp : params = ⟨[], [], none, [], [], none, []⟩) : PE X (.Lambda params body scope pos) (tLamV X scope params body T) := by
  subst hp
  refine ⟨fun pins s σ H Q I ⟨hT, h⟩ => ?_⟩
  refine PySem.W.kla_eval rfl ?_
  rw [makeFunction_eq]
  simp only [List.zip_nil_right, List.filterMap_nil, List.isEmpty_nil, if_true, pure_bind]
  refine lam_made I TB hcode hm hu hT (L.has I.ok) fun f H1 s' I1 m => ⟨.ref f, H1, I1, rfl, h f H1 .none m fun P w s c' doc pm ctv _ => ⟨[], .of_eq rfl, fun _ z => nomatch z⟩⟩
theorem pe_lam1M {T : List (Addr × Str)} {c P : Addr} {pos p1 p2 : PySem.Pos} {x : Str} {i : Int} {j : Nat} (TB : LamX.TabB X.base X.mg c P) (hcode : X.env.code = .ref c) (hm : (P, X.env.qual ++ "<lambda>") ∈ T)
    (hu : ∀ p ∈ T, p.1 = P → p.2 = X.env.qual ++ "<lambda>") (L : LScope X.env.scope scope []) (hx : scope.names.lookup x = some .local) (hp : params = ⟨[], [⟨x, none, p1⟩], none, [], [], none, [.Constant (.int i) j p2]⟩) : PE X (.Lambda params body scope pos) (tLamV X scope params body T) := by
  subst hp
  refine ⟨fun pins s σ H Q I ⟨hT, h⟩ => ?_⟩
  refine PySem.W.kdv_lam rfl rfl (evalAll_cons ?_)
  have h0 := (pe_int (X := X) (i := i) (j := j) (pos := p2)).run pins s σ H (fun v H1 => v = .int i ∧ H1 = H) I ⟨rfl, rfl⟩
  refine thn h0 fun u s1 ⟨v, H1, I1, r, ev, eH⟩ => ?_
  subst ev
  subst eH
  obtain ⟨t, rfl⟩ := r
  refine evalAll_nil ?_
  rw [makeFunction_eq]
  simp only [List.zip_nil_right, List.filterMap_nil, List.isEmpty_nil, if_true, pure_bind, List.isEmpty_cons, Bool.false_eq_true, if_false]
  refine wpAny_bind (wpAny_newTextTuple ?_)
  have nd : H1 s1.heap.objs.size = none := I1.hok.fresh (Nat.le_refl _)
  have I2 : Inv X pins σ (upd H1 s1.heap.objs.size (.tup [.int i])) { s1 with heap := s1.heap.push { cls := .type "tuple", data := .seq [Value.int i t].toArray } } :=
    I1.laid (t' := s1.toks) (fun b u e => Heap.get?_push_of_some _ e) (Nat.le_refl _) ⟨by show 1 ≤ sizeLine; decide, [Value.int i t], .cons ⟨t, rfl⟩ .nil, ⟨_, Heap.get?_push_size _ rfl, rfl, _, rfl⟩⟩
  have e2 : ∀ b o, H1 b = some o → upd H1 s1.heap.objs.size (.tup [.int i]) b = some o := fun b o e => by
    rw [upd_ne (ne_of_none e nd)]
    exact e
  have hT2 := hT.ext e2
  have ht : upd H1 s1.heap.objs.size (.tup [.int i]) s1.heap.objs.size = some (.tup [.int i]) := upd_same
  have n2 : ∀ b, upd H1 s1.heap.objs.size (.tup [.int i]) b = none → H1 b = none := fun b z => NdefX.upd_none z
  generalize upd H1 s1.heap.objs.size (.tup [.int i]) = H2 at *
  refine lam_made I2 TB hcode hm hu hT2 (L.has I2.ok) fun f H3 s' I3 m => ⟨.ref f, H3, I3, rfl, h f H3 _ (m.of_ext e2 n2) fun P w s c' doc pm ctv ok => ?_⟩
  have ht3 : H3 s1.heap.objs.size = some (.tup [.int i]) := m.1 _ _ ht fun _ z => by cases z
  obtain ⟨_, its, vs, o, h1, h2, n, h3⟩ := (show ObjOk P w H3 s.heap s1.heap.objs.size (.tup [.int i]) from ok _ _ ht3)
  cases vs with
  | @cons _ u _ ur ra rw' =>
    cases rw'
    exact ⟨[(x, u)], .of_defaults rfl h1 h3 rfl (by simp), fun y hy => by
      rw [List.mem_singleton.mp hy]
      exact hx⟩
theorem clo_memM (L : LScope X.env.scope scope []) (ok : X.Ok) {y : Str} {c : Addr} (e : (y, c) ∈ clo X scope) : X.env.cells.lookup y = some c := by
  rcases cloFrom_mem e with hm | ⟨h1, h2⟩
  · cases hm
  · obtain ⟨c1, hc⟩ := L.has ok _ h1 rfl
    have hc : X.env.cells.lookup y = some c1 := hc
    rw [h2, hc]
    rfl
theorem held_ofM {pins : List (Addr × Obj)} {σ : L2.St} {H : Hp} {s : Shared} (L : LScope X.env.scope scope []) (I : Inv X pins σ H s) : Held X scope σ (heldNow X scope s.heap) ∧ Free (heldNow X scope s.heap) H := by
  have hfree := L.has I.ok
  refine ⟨⟨fun y c e => ?_, fun i x v e1 e2 e3 => ?_⟩, fun c o e => ?_⟩
  · obtain ⟨v, o, ho, hd⟩ := I.cell y c (NdefX.clo_cm hfree e)
    exact ⟨o, v, by rw [held_in e]; exact ho, hd⟩
  · obtain ⟨m, hn, hl⟩ := I.loc
    have hm := PySem.mem_of_lookup e3
    have hvis : Vis X.env.scope x := (L.free _ hm rfl).elim (fun k => .inr (.inl k)) fun k => .inr (.inr k)
    obtain ⟨u, r, lo⟩ := hl i x v e1 e2 hvis
    rcases lo with ⟨k, _⟩ | ⟨_, c, ec, o, ho, hd⟩
    · rcases L.free _ hm rfl with k2 | k2 <;> (rw [show X.env.kindOf x = _ from k2] at k; cases k)
    · have e4 := NdefX.clo_has hfree hm ec
      exact ⟨c, o, u, e4, by rw [held_in e4]; exact ho, hd, r⟩
  · obtain ⟨⟨y, hy⟩, _⟩ := held_mem e
    exact I.freeC y c (clo_memM L I.ok hy)
theorem pe_giveM {Wx : Value → Option Addr → Hp → VK → Prop} {T : List (Addr × Str)} {x a : Str} {g : Addr} {fd : FuncData} {j : Nat} {tb : XK → TE} {p lpos pos : PySem.Pos} (nat : Nat1 Wx)
    (G : ∀ act, ActOk X.prog X.w X.K X.mg X.base (k + 1) act → FnOk X.prog X.w X.K X.mg X.base CX0 j g fd [a] (spGive Wx act)) (hr : Room j X.A) (hg : Gl X x) (hm : X.mg x = some (.ref g)) (hk : PySem.W.keepIn X.K (.ref g) = true) (hb : Binds X.K fd [a] [])
    (hfn : ∀ y, X.fn y = true) (L : LScope X.env.scope scope []) (he : PE X (.Lambda params body scope lpos) (tLamV X scope params body T))
    (hbody : ∀ (A : Around) (outer : List Env) (s : Shared) (H : Hp) (E : XK) (f c' : Addr), Room k (A.deeper (lamEnv X scope s.heap.objs.size f c')) → PE (lamCx X A outer s H E scope f c') body (tb E)) (hdb : (x == ("__debug__" : Str)) = false := by decide) :
    PE X (.Call (.Name x p) [.Lambda params body scope lpos] [] pos) (fun σ H Q => Tabs T H ∧ ∀ H1, ExtN H H1 → Tabs T H1 → tb (fun cls d H2 => Wx cls d H2 Q) (maskS X.N scope σ) H1 Q) := by
  refine ⟨fun pins s σ H Q I ⟨hT, h⟩ => ?_⟩
  refine wpAny_Call_Name_kw (ld_glob I hg hm ?_ hdb)
  refine PySem.W.callWith_K (h₀ := X.base) I.ok.mod.kin hk (thn ((pa_cons he pa_nil).run pos pins s σ H (fun vs H1 => ∃ f dV, vs = [.ref f] ∧ Made X scope params body T H dV f H1 ∧ BindL X scope params body dV H1) I ⟨hT, fun f H1 dV m b => ⟨f, dV, rfl, m, b⟩⟩) fun us s1 ⟨vs, H1, I1, r, f, dV, ev, m, bl⟩ => ⟨I1.kIn, ?_⟩) rfl rfl
  subst ev
  obtain ⟨V, F⟩ := held_ofM L I1
  obtain ⟨x1, t1, nf, c', doc, pm, ctv, hf, hc⟩ := m
  have q := h H1 x1 t1
  have hh : ∀ b o, heldNow X scope s1.heap b = some o → s1.heap.get? b = some o := fun b o e => (held_mem e).2
  have cell_hi : ∀ b o, heldNow X scope s1.heap b = some o → X.s_0.heap.objs.size ≤ b := fun b o e => by
    obtain ⟨⟨y, hy⟩, _⟩ := held_mem e
    exact I.ok.cab y b (hfn y) (clo_memM L I.ok hy)
  have cell_ne : ∀ b o, heldNow X scope s1.heap b = some o → b ≠ X.env.locals := fun b o e => by
    obtain ⟨⟨y, hy⟩, _⟩ := held_mem e
    exact I1.cne y b (clo_memM L I.ok hy)
  have okA := hok_add F I1.hok hh
  generalize heldNow X scope s1.heap = l at *
  have A := lact_okM (params := params) (body := body) I.ok L (fun i y v e1 e2 => (maskS_inv e1 e2).2) V.mask (maskS_len I1.len) hbody
  have e0 := I1.env0
  have none_of : ∀ b, H1 b = none → l b = none → addC l H1 b = none := fun b n e => by rw [addC_out e]; exact n
  have lbase : ∀ b o, X.base.get? b = some o → l b = none := fun b o e => by
    cases z : l b with
    | none => rfl
    | some o2 => exact absurd (Nat.lt_of_lt_of_le (Heap.lt_size e) I.ok.bsz) (Nat.not_lt.mpr (cell_hi b o2 z))
  have lfr : ∀ b ∈ frs X.stack, l b = none := fun b hb => by
    cases z : l b with
    | none => rfl
    | some o2 =>
      rcases List.mem_cons.mp (I1.stkSub b hb) with y | y
      · exact absurd y (cell_ne b o2 z)
      · obtain ⟨_, ob, hob, _⟩ := I1.ok.funs.mem y
        exact absurd (Heap.lt_size hob) (Nat.not_lt.mpr (cell_hi b o2 z))
  have e1 : Env0 X.prog X.w X.K X.mg X.base X.A X.stack s1 (addC l H1) := ⟨e0.frames, e0.mod, fun b o e => ⟨(e0.bs b o e).1, none_of b (e0.bs b o e).2 (lbase b o e)⟩, e0.bsz, e0.funs, fun b hb => none_of b (e0.frf b hb) (lfr b hb), okA, e0.bare⟩
  have hsp : spGive Wx (lact X scope params body (maskS X.N scope σ) l tb) [.ref f] (addC l H1) (fun v H2 => Cin l H2 ∧ Q v (subC l H2)) (fun _ _ _ => False) := by
    refine ⟨f, rfl, c', dV, doc, pm, ctv, H1, Q, _, rfl, F, hf, hc, fun P w s c' doc pm ctv ok => ?_, q, fun v H2 F2 q2 => ⟨cin_add, by rw [sub_add F2]; exact q2⟩, fun cls d H2 F2 q2 => nat l cls d H2 Q F2 q2⟩
    have := hok_sub (l := l) cin_add ok
    rw [sub_add F] at this
    exact bl P w s c' doc pm ctv this
  refine wpAny_call (codeAny_mono ((G _ A).run X.A X.stack s1 (addC l H1) ⟨us, []⟩ (us ++ []) [.ref f] _ _ hr e1 (hb s1 us I1.kIn (by rw [List.append_nil, ← r.length]; rfl)) (by rw [List.append_nil]; exact r) hsp) fun r s' hq => ?_)
  match r with
  | .error er => exact hq.elim
  | .ok (.ret u) =>
    obtain ⟨v, H2, os, bare, un, hok, r2, C2, q2⟩ := hq
    exact ⟨v, subC l H2, I1.call' (ch := []) os (un_sub F C2 hok hh un) (hok_sub C2 hok) bare (fun b z => absurd z (by simp)), r2, q2⟩
  | .ok .next => exact hq.elim
  | .ok .brk => exact hq.elim
  | .ok .cont => exact hq.elim
end
end CS
set_option Elab.async false
set_option maxRecDepth 100000
set_option maxHeartbeats 8000000
set_option linter.unusedVariables false
namespace CS
open PySem PySem.Spec PyProof.Rows L2 LamX
theorem addC_new {l : Addr → Option Obj} {H : Hp} {p : Addr} {o : HO} {Q : Hp → Prop} (F : Free l H) (n : addC l H p = none) (q : Q (upd H p o)) : Cin l (upd (addC l H) p o) ∧ Q (subC l (upd (addC l H) p o)) := by
  have lp : l p = none := by
    cases e : l p with
    | none => rfl
    | some b =>
      rw [addC_in e] at n
      cases n
  refine ⟨fun b ob e => ?_, ?_⟩
  · have : b ≠ p := fun z => by rw [z, lp] at e; cases e
    rw [upd_ne this, addC_in e]
  · have : subC l (upd (addC l H) p o) = upd H p o := by
      funext b
      cases e : l b with
      | none =>
        rw [subC_out e]
        by_cases z : b = p
        · rw [z, upd_same, upd_same]
        · rw [upd_ne z, upd_ne z, addC_out e]
      | some ob =>
        have : b ≠ p := fun z => by rw [z, lp] at e; cases e
        rw [subC_in e, upd_ne this, F b ob e]
    rw [this]
    exact q
/-- a weaker end -/
def actCD (act : Act) : Act := fun f H Q E => ∃ Q0 E0, act f H Q0 E0 ∧ (∀ v H', Q0 v H' → Q v H') ∧ ∀ c d H', E0 c d H' → E c d H'
theorem ActOk.closD {P : Program} {w : World} {K : PySem.W.Frag} {mg : Str → Option Value} {base : Heap} {k : Nat} {act : Act} (h : ActOk P w K mg base k act) : ActOk P w K mg base k (actCD act) := fun f A outer s H Q E hr e0 ⟨Q0, E0, a, hq, he⟩ => by
  obtain ⟨x, c⟩ := h f A outer s H Q0 E0 hr e0 a
  refine ⟨x, codeAny_mono c fun r s' z => ?_⟩
  match r with
  | .error er =>
    obtain ⟨a, B, H', cls, d, x1, x2, x3, x4, x5, x6, x7, x8⟩ := z
    exact ⟨a, B, H', cls, d, x1, x2, x3, x4, x5, x6, x7, he _ _ _ x8⟩
  | .ok (.ret u) =>
    obtain ⟨v, H', x1, x2, x3, x4, x5, x6⟩ := z
    exact ⟨v, H', x1, x2, x3, x4, x5, hq _ _ x6⟩
  | .ok .next => exact z.elim
  | .ok .brk => exact z.elim
  | .ok .cont => exact z.elim
/-- what is given out, in a new list -/
def putL (Q : VK) : VK := fun v H => ∀ p, H p = none → Q (.ref p) (upd H p (.lst [v]))
theorem addC_none {l : Addr → Option Obj} {H : Hp} {p : Addr} (n : addC l H p = none) : H p = none := by
  cases e : l p with
  | none => rw [addC_out e] at n; exact n
  | some b => rw [addC_in e] at n; cases n
def spGiveL (Wx : Value → Option Addr → Hp → VK → Prop) (act : Act) : Sp := fun vs H Q _ => ∃ f, vs = [.ref f] ∧ act f H (putL Q) (fun cls d H' => Wx cls d H' Q)
section
variable {X : Cx} {scope : Scope} {params : Arguments} {body : Expr} {k : Nat}
theorem pe_giveL {Wx : Value → Option Addr → Hp → VK → Prop} {T : List (Addr × Str)} {x a : Str} {g : Addr} {fd : FuncData} {j : Nat} {tb : XK → TE} {p lpos pos : PySem.Pos} (nat : Nat1 Wx)
    (G : ∀ act, ActOk X.prog X.w X.K X.mg X.base (k + 1) act → FnOk X.prog X.w X.K X.mg X.base CX0 j g fd [a] (spGiveL Wx act)) (hr : Room j X.A) (hg : Gl X x) (hm : X.mg x = some (.ref g)) (hk : PySem.W.keepIn X.K (.ref g) = true) (hb : Binds X.K fd [a] [])
    (hfn : ∀ y, X.fn y = true) (L : LScope X.env.scope scope X.N) (he : PE X (.Lambda params body scope lpos) (tLamV X scope params body T))
    (hbody : ∀ (A : Around) (outer : List Env) (s : Shared) (H : Hp) (E : XK) (f c' : Addr), Room k (A.deeper (lamEnv X scope s.heap.objs.size f c')) → PE (lamCx X A outer s H E scope f c') body (tb E)) (hdb : (x == ("__debug__" : Str)) = false := by decide) :
    PE X (.Call (.Name x p) [.Lambda params body scope lpos] [] pos) (fun σ H Q => Tabs T H ∧ ∀ H1, ExtN H H1 → Tabs T H1 → tb (fun cls d H2 => Wx cls d H2 Q) σ H1 (putL Q)) := by
  refine ⟨fun pins s σ H Q I ⟨hT, h⟩ => ?_⟩
  refine wpAny_Call_Name_kw (ld_glob I hg hm ?_ hdb)
  refine PySem.W.callWith_K (h₀ := X.base) I.ok.mod.kin hk (thn ((pa_cons he pa_nil).run pos pins s σ H (fun vs H1 => ∃ f dV, vs = [.ref f] ∧ Made X scope params body T H dV f H1 ∧ BindL X scope params body dV H1) I ⟨hT, fun f H1 dV m b => ⟨f, dV, rfl, m, b⟩⟩) fun us s1 ⟨vs, H1, I1, r, f, dV, ev, m, bl⟩ => ⟨I1.kIn, ?_⟩) rfl rfl
  subst ev
  obtain ⟨V, F⟩ := held_of L I1
  obtain ⟨x1, t1, nf, c', doc, pm, ctv, hf, hc⟩ := m
  have q := h H1 x1 t1
  have hh : ∀ b o, heldNow X scope s1.heap b = some o → s1.heap.get? b = some o := fun b o e => (held_mem e).2
  have cell_hi : ∀ b o, heldNow X scope s1.heap b = some o → X.s_0.heap.objs.size ≤ b := fun b o e => by
    obtain ⟨⟨y, hy⟩, _⟩ := held_mem e
    exact I.ok.cab y b (hfn y) (clo_mem L I.ok hy)
  have cell_ne : ∀ b o, heldNow X scope s1.heap b = some o → b ≠ X.env.locals := fun b o e => by
    obtain ⟨⟨y, hy⟩, _⟩ := held_mem e
    exact I1.cne y b (clo_mem L I.ok hy)
  have okA := hok_add F I1.hok hh
  generalize heldNow X scope s1.heap = l at *
  have A := lact_ok (params := params) (body := body) I.ok L V I1.len hbody
  have e0 := I1.env0
  have none_of : ∀ b, H1 b = none → l b = none → addC l H1 b = none := fun b n e => by rw [addC_out e]; exact n
  have lbase : ∀ b o, X.base.get? b = some o → l b = none := fun b o e => by
    cases z : l b with
    | none => rfl
    | some o2 => exact absurd (Nat.lt_of_lt_of_le (Heap.lt_size e) I.ok.bsz) (Nat.not_lt.mpr (cell_hi b o2 z))
  have lfr : ∀ b ∈ frs X.stack, l b = none := fun b hb => by
    cases z : l b with
    | none => rfl
    | some o2 =>
      rcases List.mem_cons.mp (I1.stkSub b hb) with y | y
      · exact absurd y (cell_ne b o2 z)
      · obtain ⟨_, ob, hob, _⟩ := I1.ok.funs.mem y
        exact absurd (Heap.lt_size hob) (Nat.not_lt.mpr (cell_hi b o2 z))
  have e1 : Env0 X.prog X.w X.K X.mg X.base X.A X.stack s1 (addC l H1) := ⟨e0.frames, e0.mod, fun b o e => ⟨(e0.bs b o e).1, none_of b (e0.bs b o e).2 (lbase b o e)⟩, e0.bsz, e0.funs, fun b hb => none_of b (e0.frf b hb) (lfr b hb), okA, e0.bare⟩
  have hsp : spGiveL Wx (lact X scope params body σ l tb) [.ref f] (addC l H1) (fun v H2 => Cin l H2 ∧ Q v (subC l H2)) (fun _ _ _ => False) := by
    refine ⟨f, rfl, c', dV, doc, pm, ctv, H1, putL Q, _, rfl, F, hf, hc, fun P w s c' doc pm ctv ok => ?_, q, fun v H2 F2 q2 p n => addC_new (Q := fun H3 => Q (.ref p) H3) F2 n (q2 p (addC_none n)), fun cls d H2 F2 q2 => nat l cls d H2 Q F2 q2⟩
    have := hok_sub (l := l) cin_add ok
    rw [sub_add F] at this
    exact bl P w s c' doc pm ctv this
  refine wpAny_call (codeAny_mono ((G _ A).run X.A X.stack s1 (addC l H1) ⟨us, []⟩ (us ++ []) [.ref f] _ _ hr e1 (hb s1 us I1.kIn (by rw [List.append_nil, ← r.length]; rfl)) (by rw [List.append_nil]; exact r) hsp) fun r s' hq => ?_)
  match r with
  | .error er => exact hq.elim
  | .ok (.ret u) =>
    obtain ⟨v, H2, os, bare, un, hok, r2, C2, q2⟩ := hq
    exact ⟨v, subC l H2, I1.call' (ch := []) os (un_sub F C2 hok hh un) (hok_sub C2 hok) bare (fun b z => absurd z (by simp)), r2, q2⟩
  | .ok .next => exact hq.elim
  | .ok .brk => exact hq.elim
  | .ok .cont => exact hq.elim
end
section
variable {X : Cx} {pins : List (Addr × Obj)} {σ : L2.St} {H : Hp} {s : Shared} {scope : Scope} {params : Arguments} {body : Expr} {k : Nat}
theorem pe_giveML {Wx : Value → Option Addr → Hp → VK → Prop} {T : List (Addr × Str)} {x a : Str} {g : Addr} {fd : FuncData} {j : Nat} {tb : XK → TE} {p lpos pos : PySem.Pos} (nat : Nat1 Wx)
    (G : ∀ act, ActOk X.prog X.w X.K X.mg X.base (k + 1) act → FnOk X.prog X.w X.K X.mg X.base CX0 j g fd [a] (spGiveL Wx act)) (hr : Room j X.A) (hg : Gl X x) (hm : X.mg x = some (.ref g)) (hk : PySem.W.keepIn X.K (.ref g) = true) (hb : Binds X.K fd [a] [])
    (hfn : ∀ y, X.fn y = true) (L : LScope X.env.scope scope []) (he : PE X (.Lambda params body scope lpos) (tLamV X scope params body T))
    (hbody : ∀ (A : Around) (outer : List Env) (s : Shared) (H : Hp) (E : XK) (f c' : Addr), Room k (A.deeper (lamEnv X scope s.heap.objs.size f c')) → PE (lamCx X A outer s H E scope f c') body (tb E)) (hdb : (x == ("__debug__" : Str)) = false := by decide) :
    PE X (.Call (.Name x p) [.Lambda params body scope lpos] [] pos) (fun σ H Q => Tabs T H ∧ ∀ H1, ExtN H H1 → Tabs T H1 → tb (fun cls d H2 => Wx cls d H2 Q) (maskS X.N scope σ) H1 (putL Q)) := by
  refine ⟨fun pins s σ H Q I ⟨hT, h⟩ => ?_⟩
  refine wpAny_Call_Name_kw (ld_glob I hg hm ?_ hdb)
  refine PySem.W.callWith_K (h₀ := X.base) I.ok.mod.kin hk (thn ((pa_cons he pa_nil).run pos pins s σ H (fun vs H1 => ∃ f dV, vs = [.ref f] ∧ Made X scope params body T H dV f H1 ∧ BindL X scope params body dV H1) I ⟨hT, fun f H1 dV m b => ⟨f, dV, rfl, m, b⟩⟩) fun us s1 ⟨vs, H1, I1, r, f, dV, ev, m, bl⟩ => ⟨I1.kIn, ?_⟩) rfl rfl
  subst ev
  obtain ⟨V, F⟩ := held_ofM L I1
  obtain ⟨x1, t1, nf, c', doc, pm, ctv, hf, hc⟩ := m
  have q := h H1 x1 t1
  have hh : ∀ b o, heldNow X scope s1.heap b = some o → s1.heap.get? b = some o := fun b o e => (held_mem e).2
  have cell_hi : ∀ b o, heldNow X scope s1.heap b = some o → X.s_0.heap.objs.size ≤ b := fun b o e => by
    obtain ⟨⟨y, hy⟩, _⟩ := held_mem e
    exact I.ok.cab y b (hfn y) (clo_memM L I.ok hy)
  have cell_ne : ∀ b o, heldNow X scope s1.heap b = some o → b ≠ X.env.locals := fun b o e => by
    obtain ⟨⟨y, hy⟩, _⟩ := held_mem e
    exact I1.cne y b (clo_memM L I.ok hy)
  have okA := hok_add F I1.hok hh
  generalize heldNow X scope s1.heap = l at *
  have A := lact_okM (params := params) (body := body) I.ok L (fun i y v e1 e2 => (maskS_inv e1 e2).2) V.mask (maskS_len I1.len) hbody
  have e0 := I1.env0
  have none_of : ∀ b, H1 b = none → l b = none → addC l H1 b = none := fun b n e => by rw [addC_out e]; exact n
  have lbase : ∀ b o, X.base.get? b = some o → l b = none := fun b o e => by
    cases z : l b with
    | none => rfl
    | some o2 => exact absurd (Nat.lt_of_lt_of_le (Heap.lt_size e) I.ok.bsz) (Nat.not_lt.mpr (cell_hi b o2 z))
  have lfr : ∀ b ∈ frs X.stack, l b = none := fun b hb => by
    cases z : l b with
    | none => rfl
    | some o2 =>
      rcases List.mem_cons.mp (I1.stkSub b hb) with y | y
      · exact absurd y (cell_ne b o2 z)
      · obtain ⟨_, ob, hob, _⟩ := I1.ok.funs.mem y
        exact absurd (Heap.lt_size hob) (Nat.not_lt.mpr (cell_hi b o2 z))
  have e1 : Env0 X.prog X.w X.K X.mg X.base X.A X.stack s1 (addC l H1) := ⟨e0.frames, e0.mod, fun b o e => ⟨(e0.bs b o e).1, none_of b (e0.bs b o e).2 (lbase b o e)⟩, e0.bsz, e0.funs, fun b hb => none_of b (e0.frf b hb) (lfr b hb), okA, e0.bare⟩
  have hsp : spGiveL Wx (lact X scope params body (maskS X.N scope σ) l tb) [.ref f] (addC l H1) (fun v H2 => Cin l H2 ∧ Q v (subC l H2)) (fun _ _ _ => False) := by
    refine ⟨f, rfl, c', dV, doc, pm, ctv, H1, putL Q, _, rfl, F, hf, hc, fun P w s c' doc pm ctv ok => ?_, q, fun v H2 F2 q2 p n => addC_new (Q := fun H3 => Q (.ref p) H3) F2 n (q2 p (addC_none n)), fun cls d H2 F2 q2 => nat l cls d H2 Q F2 q2⟩
    have := hok_sub (l := l) cin_add ok
    rw [sub_add F] at this
    exact bl P w s c' doc pm ctv this
  refine wpAny_call (codeAny_mono ((G _ A).run X.A X.stack s1 (addC l H1) ⟨us, []⟩ (us ++ []) [.ref f] _ _ hr e1 (hb s1 us I1.kIn (by rw [List.append_nil, ← r.length]; rfl)) (by rw [List.append_nil]; exact r) hsp) fun r s' hq => ?_)
  match r with
  | .error er => exact hq.elim
  | .ok (.ret u) =>
    obtain ⟨v, H2, os, bare, un, hok, r2, C2, q2⟩ := hq
    exact ⟨v, subC l H2, I1.call' (ch := []) os (un_sub F C2 hok hh un) (hok_sub C2 hok) bare (fun b z => absurd z (by simp)), r2, q2⟩
  | .ok .next => exact hq.elim
  | .ok .brk => exact hq.elim
  | .ok .cont => exact hq.elim
end
end CS
set_option Elab.async false
set_option maxRecDepth 100000
set_option maxHeartbeats 8000000
set_option linter.unusedVariables false
set_option pp.maxSteps 6000
/-! what is heard -/
namespace CS
open PySem L2 RZ LamX
/-- what _law_heard makes of a refused mix -/
def wxM (CB : Addr) : Value → Option Addr → Hp → VK → Prop := fun cls d H Q => cls = .ref CB ∧ ∃ dd q, d = some dd ∧ H dd = some (.xd [("path", .ref q)]) ∧ ∀ p, H p = none → Q (.ref p) (upd H p (.tup [.str "mix", .ref q]))
theorem natM (CB : Addr) : Nat1 (wxM CB) := fun l cls d H Q F h => by
  obtain ⟨e, dd, q, e2, hdd, k⟩ := h
  exact ⟨e, dd, q, e2, by rw [addC_out (F.out hdd)]; exact hdd, fun p n => addC_new (Q := fun H2 => Q (.ref p) H2) F n (k p (addC_none n))⟩
section
variable {P : Program} {w : World} {K : PySem.W.Frag} {mg : Str → Option Value} {base : Heap}
theorem scLawHeardM : FnScope ["call", "error"] ["call"] (defScope sLawHeard) := ⟨rfl, rfl, rfl, by decide +kernel, rfl, by decide +kernel, by decide +kernel⟩
theorem ok_law_heardM {k : Nat} {f CB fI : Addr} {fd fdI : FuncData} (F : Df K mg "_law_heard" sLawHeard ["call"] f fd) (Z : Xc K mg "BadMix" "path" CB fI bmV "ValueError.__new__" (inClass sBadMix 0) "BadMix.__init__" fdI)
    (xPP : PySem.W.exmOne K (.ref CB) (.ref CB) = some true) (act : Act) (ha : ActOk P w K mg base k act) : FnOk P w K mg base CX0 (k + 1) f fd ["call"] (spGiveL (wxM CB) act) := by
  refine F.F.ok scLawHeardM (fun vs H Q E h => ?_) (fun cdv A outer s H vs Q E hr h => ?_)
  · obtain ⟨g, rfl, _⟩ := h
    rfl
  · obtain ⟨g, rfl, h⟩ := h
    refine ⟨_, pss_one (ps_tryx rfl rfl scLawHeardM.nd L2.takes0 (.named (i := 1) ⟨rfl, by decide, .inl Z.T.gC⟩ rfl rfl (fun a oe cls d pn hz hf => pss_one (ps_ret (pe_tup (pa_cons pe_str (pa_cons (pe_xf Z.T.xf Z.T.noF hz hf (pv 1)) pa_nil))))) .nil)
        (fun W pn xe tk _ => pss_one (ps_ret (pe_lst (pa_cons (pe_act0 ha.closD hr (fun σ => passAt tk σ) (i := 0) rfl (Or.inl rfl)) pa_nil))))), ?_⟩
    refine ⟨g, rfl, putL Q, _, h, fun v H' q => ⟨(by show 1 ≤ sizeLine; decide), fun p hp => q p hp⟩, fun cls d H' q => ?_⟩
    obtain ⟨rfl, dd, q0, rfl, hdd, kq⟩ := q
    exact ⟨true, xPP, fun _ a na => ⟨_, rfl, rfl, rfl, dd, _, _, rfl, hdd, rfl, (by show 2 ≤ sizeLine; decide), fun p hp => kq p hp⟩, fun z => Bool.noConfusion z⟩
end
end CS
set_option Elab.async false
set_option maxRecDepth 100000
set_option maxHeartbeats 16000000
set_option linter.unusedVariables false
set_option pp.maxSteps 4000
/-! what one share lacks to be as wide as another one -/
namespace CS
open PySem L2
def LcKV (K : PySem.W.Frag) (H : Hp) (D : Addr) (kvs : List (Key × V)) (H' : Hp) : Prop := ∃ ps : List Addr, H' D = some (.lst (ps.map V.ref)) ∧ Same H H' ∧ Paired (fun p (kv : Key × V) => SqT K H' p [kV kv.1, kv.2]) ps kvs
theorem LcKV.start {K : PySem.W.Frag} {H : Hp} {D : Addr} (h : H D = none) : LcKV K H D [] (upd H D (.lst [])) := ⟨[], upd_same, Same.new h, .nil⟩
theorem LcKV.step {K : PySem.W.Frag} {H H4 : Hp} {D p : Addr} {kvs : List (Key × V)} {ps : List Addr} {kv : Key × V} (h0 : H D = none) (h1 : H4 D = some (.lst (ps.map V.ref))) (s : Same H H4) (f : Paired (fun p (kv : Key × V) => SqT K H4 p [kV kv.1, kv.2]) ps kvs) (hp : SqT K H4 p [kV kv.1, kv.2]) : LcKV K H D (kvs ++ [kv]) (upd H4 D (.lst (ps.map V.ref ++ [.ref p]))) := by
  refine ⟨ps ++ [p], by rw [upd_same, List.map_append]; rfl, same_upd h0 s, ?_⟩
  exact (f.snoc hp).mono fun q kv h => tk_lst h1 _ _ h
theorem addK_iff (ns : List Int) (m a : Int) : a ∈ addK ns m ↔ a ∈ ns ∨ a = m := by
  refine ⟨addK_mem, fun h => ?_⟩
  unfold addK
  split
  · next c => exact h.elim id fun e => e ▸ c
  · exact h.elim (List.mem_append_left _) fun e => by rw [e]; simp
def LcI (H : Hp) (D : Addr) (zs : List Int) (H' : Hp) : Prop := H' D = some (.lst (zs.map V.int)) ∧ Same H H'
theorem nabs {k : Int} (h : k ∈ PL) : k.natAbs ≤ 100 := by
  have := PL_mem.mp h
  omega
def NoLack (xs ys : Shx) : Prop := ftot xs = ftot ys ∧ fmom xs = fmom ys ∧ ∀ k : Int, (k ∈ xs.map (·.1) ∨ k ∈ ys.map (·.1)) → flt (frest ys k) (frest xs k) = false
theorem allF_rest {xs : Shx} (h : AllF 90 xs) (l : xs.length ≤ 16) (hk : ∀ a ∈ xs, a.1 ∈ PL) {k : Int} (hk2 : k ∈ PL) : Fr (frest xs k) ∧ Sz 1900 (frest xs k) := by
  have al : ∀ x ∈ ((xs.filter fun a => decide (k < a.1)).map fun a => scl a.2 (a.1 - k)), Fr x ∧ Sz 99 x := fun x hx => by
    obtain ⟨a, ha, rfl⟩ := List.mem_map.mp hx
    have m := (List.mem_filter.mp ha).1
    have q := h a m
    have h1 := PL_mem.mp (hk a m)
    have h2 := PL_mem.mp hk2
    exact ⟨scl_fr q.1 _, (scl_sz (m := 9) q.1 q.2 (by omega)).up (by decide)⟩
  have ln : ((xs.filter fun a => decide (k < a.1)).map fun a => scl a.2 (a.1 - k)).length ≤ 16 := by
    rw [List.length_map]
    exact Nat.le_trans (List.length_filter_le _ _) l
  refine ⟨fold_fr _ _ fr01 fun x hx => (al x hx).1, (fold_sz 99 _ _ 1 fr01 (sz01 (by decide)) al).up ?_⟩
  omega
section
variable {P : Program} {w : World} {K : PySem.W.Frag} {mg : Str → Option Value} {base : Heap}
theorem ShZ.same' {H H' : Hp} {p : Addr} {xs : List (Int × Fx)} (h : ShZ K H p xs) (e : Same H H') : ShZ K H' p xs := ShZ.same e h
def spLacks (K : PySem.W.Frag) : Sp := fun vs H Q _ => ∃ (p q : Addr) (xs ys : Shx), vs = [.ref p, .ref q] ∧ ShZ K H p xs ∧ ShZ K H q ys ∧ (∀ a ∈ xs, a.1 ∈ PL) ∧ (∀ a ∈ ys, a.1 ∈ PL) ∧ AllF 90 xs ∧ AllF 90 ys ∧ xs.length ≤ 16 ∧ ys.length ≤ 16 ∧
  ∀ H' r ds, Same H H' → Dp K H' (.ref r) (.list ds) → SeqAt.shaped (.list ds) = true → (ds = [] ↔ NoLack xs ys) → Q (.ref r) H'
abbrev nsLawLacks : List Str := ["one", "other", "marks", "mark", "heft", "at"]
theorem scLawLacks : FnScope nsLawLacks ["one", "other"] (defScope sLawLacks) := ⟨rfl, rfl, rfl, by decide +kernel, rfl, by decide +kernel, by decide +kernel⟩
theorem ok_law_lacks {f : Addr} {fd : FuncData} (F : Df K mg "_law_lacks" sLawLacks ["one", "other"] f fd)
    {f1 : Addr} {fd1 : FuncData} (D1 : Df K mg "_law_under" sLawUnder ["one", "other"] f1 fd1) (G1 : FnOk P w K mg base CX0 1 f1 fd1 ["one", "other"] (spB2 K flt))
    {f2 : Addr} {fd2 : FuncData} (D2 : Df K mg "_law_rest" sLawRest ["share_so", "at"] f2 fd2) (G2 : FnOk P w K mg base CX0 4 f2 fd2 ["share_so", "at"] (spShFk K frest))
    {f3 : Addr} {fd3 : FuncData} (D3 : Df K mg "_law_moment" sLawMoment ["share_so"] f3 fd3) (G3 : FnOk P w K mg base CX0 4 f3 fd3 ["share_so"] (spShF K fmom))
    {f4 : Addr} {fd4 : FuncData} (D4 : Df K mg "_law_total" sLawTotal ["share_so"] f4 fd4) (G4 : FnOk P w K mg base CX0 4 f4 fd4 ["share_so"] (spShF K ftot))
    (T : Bt mg) : FnOk P w K mg base CX0 5 f fd ["one", "other"] (spLacks K) := by
  refine F.F.ok scLawLacks (fun vs H Q E h => ?_) (fun cdv A outer s H vs Q E hr h => ?_)
  · obtain ⟨p, q, xs, ys, rfl, _⟩ := h
    rfl
  · obtain ⟨p, q, xs, ys, rfl, hp, hq, kx, ky, ox, oy, lx, ly, k⟩ := h
    refine ⟨_, (pss_cons (ps_if (pt_cmpR (op_neD hr.units) (pe_call G4 (hr.mono (by decide)) (by rfl) D4.g D4.F.kp D4.b .nil pass0 (pa_cons (pv 0) pa_nil)) (pe_call G4 (hr.mono (by decide)) (by rfl) D4.g D4.F.kp D4.b .nil pass0 (pa_cons (pv 1) pa_nil)) (nomark _)) (pss_one (ps_ret (pe_lst (pa_cons pe_str pa_nil)))) pss_nil)
      (pss_cons (ps_if (pt_cmpR (op_neD hr.units) (pe_call G3 (hr.mono (by decide)) (by rfl) D3.g D3.F.kp D3.b .nil pass0 (pa_cons (pv 0) pa_nil)) (pe_call G3 (hr.mono (by decide)) (by rfl) D3.g D3.F.kp D3.b .nil pass0 (pa_cons (pv 1) pa_nil)) (nomark _)) (pss_one (ps_ret (pe_lst (pa_cons pe_str pa_nil)))) pss_nil)
      (pss_cons (ps_set (i := 2) scLawLacks.nd rfl (Or.inl rfl) (pe_callB (call_sortedDI rfl) (by rfl) T.sorted (by decide +kernel) (pa_cons (pe_callTy (call_dictP rfl) (by rfl) T.dict (by decide +kernel) (pa_cons (pe_lc (own := [("mark", 3), ("heft", 4)]) (g := gTup K 2 (gCons (gName 3) (gCons (gName 4) gNil))) (tt := tYes) rfl scLawLacks.nd (pi_tup (pe_op op_catZ (pv 0) (pv 1))) (blkOk_by (N := nsLawLacks) (sc := defScope sLawLacks) (by decide +kernel)) (fun _ _ _ _ _ => pg_tup rfl (pgs_cons (pg_name (i := 3) scLawLacks.nd rfl (Or.inl rfl)) (pgs_cons (pg_name (i := 4) scLawLacks.nd rfl (Or.inl rfl)) pgs_nil))) (fun _ _ _ _ _ => pts_nil) (fun _ _ _ _ _ => (pe_tup (pa_cons (pv 3) (pa_cons pe_bl pa_nil))))) pa_nil)) pa_nil)))
      (pss_one (ps_ret (pe_lc (own := [("at", 5)]) (g := gName 5) (tt := _) rfl scLawLacks.nd (pi_list (pv 2)) (blkOk_by (N := nsLawLacks) (sc := defScope sLawLacks) (by decide +kernel)) (fun _ _ _ _ _ => pg_name (i := 5) scLawLacks.nd rfl (Or.inl rfl)) (fun _ _ _ _ _ => pts_one (pt_val (pe_call G1 (hr.mono (by decide)) (by rfl) D1.g D1.F.kp D1.b .nil pass0 (pa_cons (pe_call G2 (hr.mono (by decide)) (by rfl) D2.g D2.F.kp D2.b .nil pass0 (pa_cons (pv 1) (pa_cons (pv 5) pa_nil))) (pa_cons (pe_call G2 (hr.mono (by decide)) (by rfl) D2.g D2.F.kp D2.b .nil pass0 (pa_cons (pv 0) (pa_cons (pv 5) pa_nil))) pa_nil))))) (fun _ _ _ _ _ => (pv 5)))))))), ?_⟩
    have hps := hp.sh
    have hqs := hq.sh
    have x2 : ∀ a ∈ xs, a.1.natAbs ≤ 200 := fun a ha => Nat.le_trans (nabs (kx a ha)) (by decide)
    have y2 : ∀ a ∈ ys, a.1.natAbs ≤ 200 := fun a ha => Nat.le_trans (nabs (ky a ha)) (by decide)
    refine ⟨_, rfl, p, xs, rfl, hps, ox, x2, by omega, fun H1 r1 s1 h1 => ⟨_, rfl, q, ys, rfl, hqs.tk (tk_same s1), oy, y2, by omega, fun H2 r2 s2 h2 => ftNe (s2.tup h1) h2 ⟨_, rfl, ?_⟩⟩⟩
    have S2 := s1.trans s2
    by_cases c1 : ftot xs = ftot ys
    · rw [decide_eq_true c1]
      refine iteF ?_
      refine ⟨_, rfl, p, xs, rfl, hps.tk (tk_same S2), ox, x2, by omega, fun H3 r3 s3 h3 => ⟨_, rfl, q, ys, rfl, hqs.tk (tk_same (S2.trans s3)), oy, y2, by omega, fun H4 r4 s4 h4 => ftNe (s4.tup h3) h4 ⟨_, rfl, ?_⟩⟩⟩
      have S4 := S2.trans (s3.trans s4)
      by_cases c2 : fmom xs = fmom ys
      · rw [decide_eq_true c2]
        refine iteF ?_
        obtain ⟨vx, tx, hPx⟩ := hp.same' S4
        obtain ⟨vy, ty, hPy⟩ := hq.same' S4
        have lvx := hPx.len
        have lvy := hPy.len
        refine ⟨_, rfl, _, rfl, p, q, vx, vy, rfl, rfl, tx, ty, small (by omega), fun cc H5 s5 hc => ?_⟩
        have hall := (hPx.app hPy).tk (tk_same s5)
        have S5 := S4.trans s5
        generalize hzs : xs ++ ys = zs at *
        generalize hvz : vx ++ vy = vz at *
        have lz : zs.length ≤ 32 := by rw [← hzs, List.length_append]; omega
        have hcs := hc.sq (K := K)
        refine ⟨cc, rfl, ⟨_, hcs⟩, fun D0 nD0 => lc_tup (K := K) (a := cc) (xs := vz) (fun i H' => ∃ kvs ks, LcKV K H5 D0 kvs H' ∧ kvs.length = i ∧ (mergeK [] kvs).map (·.1) = ks.map Sum.inl ∧ ks.Nodup ∧ ks.length ≤ i ∧ ∀ x, x ∈ ks ↔ x ∈ (zs.take i).map (·.1)) ⟨[], [], LcKV.start nD0, rfl, rfl, List.nodup_nil, Nat.le_refl _, fun x => by simp⟩ (fun i H' _ ⟨_, _, ⟨_, _, s, _⟩, _⟩ => s.tup hcs) ?_ ?_⟩
        · rintro i v H' hi ⟨kvs, ks, ⟨ps, g1, g2, g3⟩, g4, g5, g6, g7, g8⟩
          obtain ⟨qq, rr, m, x, rfl, hzi, hqq, hrr⟩ := hall.get hi
          have li : i < zs.length := (List.getElem?_eq_some_iff.mp hzi).1
          refine ⟨qq, _, rfl, g2.tup hqq, rfl, _, _, rfl, _, _, rfl, rfl, rfl, ?_⟩
          dsimp only [tYes]
          rw [if_pos rfl]
          refine ⟨_, rfl, (by show 2 ≤ sizeLine; decide), fun t3 n3 => ?_⟩
          have k3 := Same.new (o := .tup [V.int m, V.bl true]) n3
          have hl := g3.length
          refine ⟨_, k3 _ _ g1, small1000 (by rw [List.length_map]; omega), kvs ++ [((.inl m : Key), V.bl true)], addK ks m, LcKV.step (kv := ((.inl m : Key), V.bl true)) nD0 (k3 _ _ g1) (g2.trans k3) (g3.mono fun q kv h => k3.tup h) (SqT.of upd_same), by rw [List.length_append, g4]; rfl, ?_, addK_nodup g6, by have := addK_len ks m; omega, fun z => ?_⟩
          · have e : mergeK [] (kvs ++ [((.inl m : Key), V.bl true)]) = putK (mergeK [] kvs) (.inl m : Key) (.bl true) := by
              unfold mergeK
              rw [List.foldl_append]
              rfl
            rw [e]
            exact keys_put g5
          · rw [addK_iff, take_snoc hzi, List.map_append, List.mem_append, g8]
            simp
        rintro H6 ⟨kvs, ks, ⟨ps, g1, g2, g3⟩, g4, g5, g6, g7, g8⟩
        rw [hall.len] at g7 g8
        rw [List.take_length] at g8
        refine ⟨D0, ps, kvs, rfl, SqL.of g1, g3, fun dd nd => ?_⟩
        have k4 := Same.new (o := .dK (mergeK [] kvs)) nd
        refine ⟨dd, _, ks, rfl, .inl upd_same, g5, by omega, fun gs g perm srt ng => ?_⟩
        have k5 := Same.new (o := .lst (gs.map V.int)) ng
        have hg : (upd (upd H6 dd (.dK (mergeK [] kvs))) g (.lst (gs.map V.int))) g = some (.lst (gs.map V.int)) := upd_same
        have S7 := S5.trans (g2.trans (k4.trans k5))
        generalize upd (upd H6 dd (.dK (mergeK [] kvs))) g (.lst (gs.map V.int)) = H7 at *
        have lgs : gs.length ≤ 32 := by rw [perm.length_eq]; omega
        have gmem : ∀ m ∈ gs, m ∈ PL := fun m hm => by
          have h := (g8 m).mp (perm.mem_iff.mp hm)
          rw [← hzs, List.map_append, List.mem_append] at h
          rcases h with h | h
          · obtain ⟨a, ha, rfl⟩ := List.mem_map.mp h
            exact kx a ha
          · obtain ⟨a, ha, rfl⟩ := List.mem_map.mp h
            exact ky a ha
        refine ⟨_, rfl, g, rfl, ⟨_, SqL.of hg⟩, fun D1 nD1 => lc_list (K := K) (a := g) (xs := gs.map V.int) (fun i H' => LcI H7 D1 ((gs.take i).filter fun m => flt (frest ys m) (frest xs m)) H') ⟨upd_same, Same.new nD1⟩ (fun i H' _ ⟨_, s⟩ => SqL.of (s _ _ hg)) ?_ ?_⟩
        · rintro i v H8 hi ⟨h8, s8⟩
          rw [List.getElem?_map] at hi
          obtain ⟨m, hmi, rfl⟩ : ∃ z, gs[i]? = some z ∧ v = V.int z := by
            cases e : gs[i]? with
            | none => rw [e] at hi; cases hi
            | some z => rw [e] at hi; exact ⟨z, rfl, (Option.some.inj hi).symm⟩
          have mPL := gmem m (List.mem_of_getElem? hmi)
          have m2 : m.natAbs ≤ 200 := Nat.le_trans (nabs mPL) (by decide)
          have S8 := S7.trans s8
          have ly2 := allF_rest oy ly ky mPL
          have lx2 := allF_rest ox lx kx mPL
          refine ⟨rfl, ?_⟩
          refine ⟨_, rfl, _, rfl, q, ys, m, rfl, hqs.tk (tk_same S8), oy, y2, m2, by omega, fun H9 r9 s9 h9 => ⟨_, rfl, _, rfl, p, xs, m, rfl, hps.tk (tk_same (S8.trans s9)), ox, x2, m2, by omega, fun H10 r10 s10 h10 => ⟨r9, r10, _, _, rfl, s10.tup h9, h10, ly2.1, lx2.1, ly2.2, lx2.2, _, rfl, ?_⟩⟩⟩
          have k10 := s9.trans s10
          have lf := List.length_filter_le (fun m => flt (frest ys m) (frest xs m)) (gs.take i)
          rw [List.length_take] at lf
          cases c : flt (frest ys m) (frest xs m) with
          | true =>
            dsimp only
            rw [if_pos rfl]
            refine ⟨_, rfl, _, k10 _ _ h8, small1000 (by rw [List.length_map]; omega), ?_⟩
            refine ⟨?_, same_upd nD1 (s8.trans k10)⟩
            rw [upd_same, take_snoc hmi, List.filter_append, List.filter_cons_of_pos (p := fun m => flt (frest ys m) (frest xs m)) c, List.map_append]
            rfl
          | false =>
            dsimp only
            rw [if_neg Bool.false_ne_true]
            show LcI H7 D1 _ _
            rw [take_snoc hmi, List.filter_append, List.filter_cons_of_neg (p := fun m => flt (frest ys m) (frest xs m)) (by rw [c]; exact Bool.false_ne_true)]
            show LcI H7 D1 (_ ++ []) _
            rw [List.append_nil]
            exact ⟨k10 _ _ h8, s8.trans k10⟩
        · rintro H8 ⟨h8, s8⟩
          rw [List.length_map, List.take_length] at h8
          refine k H8 D1 _ (S7.trans s8) (.lst (SqL.of h8) (dpInts _ _ _)) (shInts _) ?_
          rw [List.map_eq_nil_iff, List.filter_eq_nil_iff]
          constructor
          · intro h
            refine ⟨c1, c2, fun m hm => ?_⟩
            have hg2 : m ∈ gs := perm.mem_iff.mpr ((g8 m).mpr (by rw [← hzs, List.map_append, List.mem_append]; exact hm))
            cases c : flt (frest ys m) (frest xs m) with
            | false => rfl
            | true => exact absurd c (h m hg2)
          · rintro ⟨_, _, h⟩ m hm c
            have h2 := (g8 m).mp (perm.mem_iff.mp hm)
            rw [← hzs, List.map_append, List.mem_append] at h2
            rw [h m h2] at c
            cases c
      · rw [decide_eq_false c2]
        refine iteT ⟨(by show 1 ≤ sizeLine; decide), fun l nl => ?_⟩
        exact k _ l [.str "moment"] (S4.trans (Same.new nl)) (.lst (SqL.of upd_same) (.cons (.str _) .nil)) (by simp [SeqAt.shaped, PyData.canLay0, PyData.canLayAll0, PyData.depth, PyData.depthAll]; decide +kernel) ⟨fun z => (by cases z), fun z => absurd z.2.1 c2⟩
    · rw [decide_eq_false c1]
      refine iteT ⟨(by show 1 ≤ sizeLine; decide), fun l nl => ?_⟩
      exact k _ l [.str "total"] (S2.trans (Same.new nl)) (.lst (SqL.of upd_same) (.cons (.str _) .nil)) (by simp [SeqAt.shaped, PyData.canLay0, PyData.canLayAll0, PyData.depth, PyData.depthAll]; decide +kernel) ⟨fun z => (by cases z), fun z => absurd z.1 c1⟩
end
end CS
set_option Elab.async false
set_option maxRecDepth 100000
set_option maxHeartbeats 4000000
set_option linter.unusedVariables false
/-! what is spread is wider, what is drawn is narrower -/
namespace CS
open Cu PySem L2
def sumg (ps : Shx) (g : Int → Rat) : Rat := (ps.map fun a => val a.2 * g a.1).sum
theorem sumg_cons (a : Int × Fx) (ps : Shx) (g : Int → Rat) : sumg (a :: ps) g = val a.2 * g a.1 + sumg ps g := by unfold sumg; rw [List.map_cons, List.sum_cons]
theorem sumg_nil (g : Int → Rat) : sumg [] g = 0 := rfl
theorem sumg_app (ps qs : Shx) (g : Int → Rat) : sumg (ps ++ qs) g = sumg ps g + sumg qs g := by
  induction ps with
  | nil => rw [sumg_nil, List.nil_append]; grind
  | cons a ps ih => rw [List.cons_append, sumg_cons, sumg_cons, ih]; grind
theorem sm_vfp (g : Int → Rat) : ∀ {ps : Shx}, (∀ a ∈ ps, a.1 ∈ PL) → sm PL (fun k => vfp ps k * g k) = sumg ps g
  | [], _ => by
    rw [sumg_nil, sm_congr (g := fun _ => 0 * (0 : Rat)) fun x _ => by rw [vfp_nil]; grind, sm_mul]
    grind
  | a :: ps, h => by
    rw [sm_congr (g := fun k => (if k = a.1 then val a.2 else 0) * g k + vfp ps k * g k) fun x _ => by rw [vfp_cons]; grind, sm_add, sm_atom PL_nodup (h a List.mem_cons_self) (val a.2) g, sm_vfp g fun b hb => h b (List.mem_cons_of_mem _ hb), sumg_cons]
theorem sumg_gS {ps : Shx} (hf : ∀ a ∈ ps, Fr a.2) (hk : ∀ a ∈ ps, a.1 ∈ PL) (hy : Kys (gS ps)) (g : Int → Rat) : sumg (gS ps) g = sumg ps g := by
  have e : sm PL (fun k => vf (gS ps) k * g k) = sumg (gS ps) g := sm_vf hy g
  rw [← e, ← sm_vfp g hk]
  exact sm_congr fun k _ => by rw [vf_gS hf]
theorem tot_sumg {xs : Shx} (h : Kys xs) : val (ftot xs) = sumg xs fun _ => 1 := by
  rw [(ftot_val h).2]
  unfold tot
  have e : sm PL (fun k => vf xs k * (fun _ => (1 : Rat)) k) = sumg xs fun _ => 1 := sm_vf h fun _ => 1
  rw [← e]
  exact sm_congr fun x _ => by grind
theorem mom_sumg {xs : Shx} (h : Kys xs) : val (fmom xs) = sumg xs fun k => (k : Rat) := by
  rw [(fmom_val h).2]
  exact sm_vf h fun k => (k : Rat)
theorem rest_sumg {xs : Shx} (h : Kys xs) (k : Int) : val (frest xs k) = sumg xs fun x => pl x k := by
  rw [(frest_val h k).2]
  exact sm_vf h fun x => pl x k
theorem noLack_of {xs ys : Shx} (hx : Kys xs) (hy : Kys ys) (t : (sumg xs fun _ => 1) = sumg ys fun _ => 1) (m : (sumg xs fun k => (k : Rat)) = sumg ys fun k => (k : Rat)) (r : ∀ k, (sumg xs fun x => pl x k) ≤ sumg ys fun x => pl x k) : NoLack xs ys := by
  refine ⟨val_inj (ftot_val hx).1 (ftot_val hy).1 (by rw [tot_sumg hx, tot_sumg hy, t]), val_inj (fmom_val hx).1 (fmom_val hy).1 (by rw [mom_sumg hx, mom_sumg hy, m]), fun k _ => ?_⟩
  refine (val_le (frest_val hx k).1 (frest_val hy k).1).mp ?_
  rw [rest_sumg hx, rest_sumg hy]
  exact r k
theorem spr_sumg {xs : Shx} {m l h : Int} (s : Shr xs) (h1 : l < m) (h2 : m < h) (g : Int → Rat) : ∃ w a b : Rat, 0 ≤ w ∧ 0 ≤ a ∧ 0 ≤ b ∧ a + b = 1 ∧ a * (l : Rat) + b * (h : Rat) = (m : Rat) ∧ sumg (xs ++ sprM xs m l h) g = sumg xs g + w * (a * g l + b * g h - g m) := by
  have fw := lk_frM s.fr m
  have n : h - l ≠ 0 := by omega
  have c := cast_ne n
  have p1 := cast_pos (show (0 : Int) < h - l by omega)
  have p2 := cast_pos (show (0 : Int) < h - m by omega)
  have p3 := cast_pos (show (0 : Int) < m - l by omega)
  refine ⟨val (lk xs m), ((h - m : Int) : Rat) / ((h - l : Int) : Rat), ((m - l : Int) : Rat) / ((h - l : Int) : Rat), s.pos.nn m, ?_, ?_, ?_, ?_, ?_⟩
  · rw [← val_low n]; exact (val_nonneg (low_fr n)).mpr (Int.le_of_lt (low_pos (by omega) (by omega)))
  · rw [← val_low n]; exact (val_nonneg (low_fr n)).mpr (Int.le_of_lt (low_pos (by omega) (by omega)))
  · simp only [Rat.intCast_sub] at c ⊢; grind
  · simp only [Rat.intCast_sub] at c ⊢; grind
  · rw [sumg_app]
    unfold sprM
    simp only [sumg_cons, sumg_nil]
    rw [val_scl fw, val_mul fw (low_fr n), val_mul fw (low_fr n), val_low n, val_low n]
    simp only [Rat.intCast_neg]
    grind
theorem pl_up (x t : Int) : (x : Rat) - (t : Rat) ≤ pl x t := by
  by_cases c : t ≤ x
  · rw [pl_lt c]
    exact Rat.le_refl
  · have h : x ≤ t := by omega
    rw [pl_ge h]
    have := Rat.intCast_le_intCast.mpr h
    grind
theorem spr_wide {xs : Shx} {m l h : Int} (s : Shr xs) (h1 : l < m) (h2 : m < h) (h3 : -100 ≤ l) (h4 : h ≤ 100) (sy : Shr (gS (xs ++ sprM xs m l h))) : NoLack xs (gS (xs ++ sprM xs m l h)) := by
  have hf : ∀ a ∈ xs ++ sprM xs m l h, Fr a.2 := fun a ha => (List.mem_append.mp ha).elim (s.fr a) (sprM_fr s h1 h2 a)
  have hk : ∀ a ∈ xs ++ sprM xs m l h, a.1 ∈ PL := fun a ha => by
    refine PL_mem.mpr ?_
    rcases List.mem_append.mp ha with z | z
    · exact ⟨(s.2.1 a z).1, (s.2.1 a z).2.1⟩
    · simp only [sprM, List.mem_cons, List.not_mem_nil, or_false] at z
      rcases z with rfl | rfl | rfl <;> exact ⟨by dsimp only; omega, by dsimp only; omega⟩
  have e := fun g => sumg_gS hf hk sy.kys g
  refine noLack_of s.kys sy.kys ?_ ?_ fun k => ?_
  · obtain ⟨w, a, b, w0, a0, b0, ab, mid, q⟩ := spr_sumg s h1 h2 fun _ => 1
    rw [e, q]
    grind
  · obtain ⟨w, a, b, w0, a0, b0, ab, mid, q⟩ := spr_sumg s h1 h2 fun k => (k : Rat)
    rw [e, q]
    grind
  · obtain ⟨w, a, b, w0, a0, b0, ab, mid, q⟩ := spr_sumg s h1 h2 fun x => pl x k
    rw [e, q]
    have g0 : 0 ≤ a * pl l k + b * pl h k - pl m k := by
      have nl := pl_nonneg l k
      have nh := pl_nonneg h k
      have gl : (l : Rat) - (k : Rat) ≤ pl l k := pl_up l k
      have gh : (h : Rat) - (k : Rat) ≤ pl h k := pl_up h k
      have i1 := Rat.mul_le_mul_of_nonneg_left gl a0
      have i2 := Rat.mul_le_mul_of_nonneg_left gh b0
      have i3 := Rat.mul_nonneg a0 nl
      have i4 := Rat.mul_nonneg b0 nh
      generalize pl l k = L1 at *
      generalize pl h k = L2 at *
      by_cases c : k ≤ m
      · rw [pl_lt c]
        have e3 : a * ((l : Rat) - (k : Rat)) + b * ((h : Rat) - (k : Rat)) = (m : Rat) - (k : Rat) := by grind
        grind
      · rw [pl_ge (show m ≤ k by omega)]
        grind
    have := Rat.mul_nonneg w0 g0
    grind
theorem part_sumg (p : Int × Fx → Bool) (g : Int → Rat) : ∀ xs : Shx, sumg (xs.filter p) g + sumg (xs.filter fun a => !p a) g = sumg xs g
  | [] => by rw [List.filter_nil, List.filter_nil, sumg_nil]; grind
  | a :: xs => by
    have t := part_sumg p g xs
    cases c : p a with
    | true =>
      rw [List.filter_cons_of_pos c, List.filter_cons_of_neg (by simp [c]), sumg_cons, sumg_cons]
      grind
    | false =>
      rw [List.filter_cons_of_neg (by simp [c]), List.filter_cons_of_pos (by simp [c]), sumg_cons, sumg_cons]
      grind
theorem inn_out_sumg (xs : Shx) (l h : Int) (g : Int → Rat) : sumg (innM xs l h) g + sumg (outM xs l h) g = sumg xs g := by
  have e : outM xs l h = xs.filter fun a => !decide (l ≤ a.1 ∧ a.1 ≤ h) := by
    unfold outM
    refine List.filter_congr fun a _ => ?_
    by_cases c : l ≤ a.1 ∧ a.1 ≤ h
    · rw [decide_eq_true c, decide_eq_false (by omega)]
      rfl
    · rw [decide_eq_false c, decide_eq_true (by omega)]
      rfl
  rw [e]
  exact part_sumg _ g xs
theorem totR_sumg (ps : Shx) : totR ps = sumg ps fun _ => 1 := by
  induction ps with
  | nil => rfl
  | cons a ps ih => rw [totR_cons, sumg_cons, ih]; grind
theorem momR_sumg (ps : Shx) : momR ps = sumg ps fun k => (k : Rat) := by
  induction ps with
  | nil => rfl
  | cons a ps ih => rw [momR_cons, sumg_cons, ih]
theorem pl_sumg (k : Int) : ∀ {ps : Shx}, (∀ a ∈ ps, 0 ≤ val a.2) → 0 ≤ sumg ps (fun x => pl x k) ∧ momR ps - (k : Rat) * totR ps ≤ sumg ps fun x => pl x k
  | [], _ => by
    rw [sumg_nil, show momR [] = 0 from rfl, show totR [] = 0 from rfl]
    exact ⟨Rat.le_refl, by grind⟩
  | a :: ps, h => by
    obtain ⟨t1, t2⟩ := pl_sumg k (ps := ps) fun b hb => h b (List.mem_cons_of_mem _ hb)
    have p := h a List.mem_cons_self
    rw [sumg_cons, momR_cons, totR_cons]
    have i1 := Rat.mul_nonneg p (pl_nonneg a.1 k)
    have i2 := Rat.mul_le_mul_of_nonneg_left (pl_up a.1 k) p
    exact ⟨by grind, by grind⟩
theorem drw_narrow {xs : Shx} {l h : Int} (s : Shr xs) (h3 : -100 ≤ l) (h4 : h ≤ 100) (io : InnOk xs l h) (one : (meanM xs l h).2 = 1) (sy : Shr (gS (drwL xs l h))) : NoLack (gS (drwL xs l h)) xs := by
  have mn := io.mean s
  obtain ⟨lo, hi, ev⟩ := mn.2.2 one
  have pd : Pos (drwL xs l h) := drw_fr s io
  have hk : ∀ a ∈ drwL xs l h, a.1 ∈ PL := fun a ha => by
    refine PL_mem.mpr ?_
    rcases List.mem_append.mp ha with z | z
    · have := s.2.1 a (mem_out.mp z).1
      exact ⟨this.1, this.2.1⟩
    · rw [List.mem_singleton] at z
      subst z
      exact ⟨by dsimp only; omega, by dsimp only; omega⟩
  have e := fun g => sumg_gS pd.fr hk sy.kys g
  have q : ∀ g : Int → Rat, sumg (drwL xs l h) g = sumg (outM xs l h) g + totR (innM xs l h) * g (meanM xs l h).1 := fun g => by
    rw [sumg_app, sumg_cons, sumg_nil, io.tv]
    grind
  have me : ((meanM xs l h).1 : Rat) * totR (innM xs l h) = momR (innM xs l h) := by rw [← ev]; exact mn.2.1
  have nn : ∀ a ∈ innM xs l h, 0 ≤ val a.2 := fun a ha => by
    have := s.pos a (mem_inn.mp ha).1
    exact Rat.le_of_lt ((val_pos this.1).mpr this.2)
  have T0 : 0 ≤ totR (innM xs l h) := tot_nn nn
  refine noLack_of sy.kys s.kys ?_ ?_ fun k => ?_
  · have z := inn_out_sumg xs l h fun _ => 1
    rw [← totR_sumg (innM xs l h)] at z
    rw [e, q, ← z]
    grind
  · have z := inn_out_sumg xs l h fun k => (k : Rat)
    rw [← momR_sumg (innM xs l h)] at z
    rw [e, q, ← z, ← me]
    grind
  · rw [e, q, ← inn_out_sumg xs l h]
    obtain ⟨t1, t2⟩ := pl_sumg k nn
    by_cases c : k ≤ (meanM xs l h).1
    · rw [pl_lt c]
      grind
    · rw [pl_ge (show (meanM xs l h).1 ≤ k by omega)]
      grind
end CS
set_option Elab.async false
set_option maxRecDepth 100000
set_option maxHeartbeats 8000000
set_option linter.unusedVariables false
set_option pp.maxSteps 2000
/-! data that may be shown: mixes, shares -/
namespace CS
open PySem PySem.Spec PyProof.Rows L2
structure Shows (d : PyData) : Prop where
  ok : d.showable = true
  nd : d.hasDict = false
  dp : d.depth ≤ 60
  sz : d.shown.length + 64 ≤ sizeLine
/-- a datum of some depth and weight -/
structure Sh (dp wt : Nat) (d : PyData) : Prop where
  ok : d.showable = true
  nd : d.hasDict = false
  lv : d.leavesShort 100 = true
  dp : d.depth ≤ dp
  wt : d.weight ≤ wt
structure ShL (dp wt : Nat) (ds : List PyData) : Prop where
  ok : PyData.showableAll ds = true
  nd : PyData.hasDictAll ds = false
  lv : PyData.leavesShortAll 100 ds = true
  dp : PyData.depthAll ds ≤ dp
  wt : PyData.weightAll ds ≤ wt
theorem Sh.up {a b c e : Nat} {d : PyData} (h : Sh a b d) (h1 : a ≤ c) (h2 : b ≤ e) : Sh c e d := ⟨h.ok, h.nd, h.lv, Nat.le_trans h.dp h1, Nat.le_trans h.wt h2⟩
theorem Sh.shows {a b : Nat} {d : PyData} (h : Sh a b d) (h1 : a ≤ 60) (h2 : b ≤ 100000) : Shows d := by
  refine ⟨h.ok, h.nd, Nat.le_trans h.dp h1, ?_⟩
  have h3 := PyData.shown_le 100 (by decide) d h.lv
  have h4 : (100 + 2) * d.weight + 100 ≤ 102 * 100000 + 100 := Nat.add_le_add_right (Nat.mul_le_mul_left 102 (Nat.le_trans h.wt h2)) 100
  have h5 : 102 * 100000 + 100 + 64 ≤ sizeLine := by decide
  omega
theorem ShL.nil (dp : Nat) : ShL dp 0 [] := ⟨rfl, rfl, rfl, Nat.zero_le _, Nat.le_refl _⟩
theorem ShL.cons {dp a b : Nat} {d : PyData} {ds : List PyData} (h : Sh dp a d) (g : ShL dp b ds) : ShL dp (a + 1 + b) (d :: ds) := by
  refine ⟨?_, ?_, ?_, ?_, ?_⟩
  · simp only [PyData.showableAll, h.ok, g.ok, Bool.and_self]
  · simp only [PyData.hasDictAll, h.nd, g.nd, Bool.or_self]
  · simp only [PyData.leavesShortAll, h.lv, g.lv, Bool.and_self]
  · simp only [PyData.depthAll]
    exact Nat.max_le.mpr ⟨h.dp, g.dp⟩
  · simp only [PyData.weightAll]
    have := h.wt
    have := g.wt
    omega
theorem Sh.tup {dp b : Nat} {ds : List PyData} (g : ShL dp b ds) : Sh (dp + 1) b (.tuple ds) := by
  refine ⟨?_, ?_, ?_, ?_, ?_⟩
  · simp only [PyData.showable, g.ok]
  · simp only [PyData.hasDict, g.nd]
  · simp only [PyData.leavesShort, g.lv]
  · simp only [PyData.depth]
    have := g.dp
    omega
  · simp only [PyData.weight]
    exact g.wt
theorem Sh.lst {dp b : Nat} {ds : List PyData} (g : ShL dp b ds) : Sh (dp + 1) b (.list ds) := by
  refine ⟨?_, ?_, ?_, ?_, ?_⟩
  · simp only [PyData.showable, g.ok]
  · simp only [PyData.hasDict, g.nd]
  · simp only [PyData.leavesShort, g.lv]
  · simp only [PyData.depth]
    have := g.dp
    omega
  · simp only [PyData.weight]
    exact g.wt
theorem Sh.int {i : Int} (h : i.natAbs ≤ 1000000) : Sh 0 20 (.int i) := by
  have h1 : i.natAbs.log2 < 20 := PySem.Flt.log2_lt_of (by decide) (by omega)
  have h2 := PyData.shown_int_le (i := i) (by omega)
  refine ⟨?_, rfl, ?_, by simp [PyData.depth], ?_⟩
  · simp only [PyData.showable]
    exact decide_eq_true (by omega)
  · simp only [PyData.leavesShort]
    exact decide_eq_true (by omega)
  · simp only [PyData.weight]
    split <;> omega
theorem ShL.ints {dp : Nat} : ∀ {ns : List Int}, (∀ n ∈ ns, n.natAbs ≤ 1000000) → ShL dp (ns.length * 21) (ns.map .int)
  | [], _ => .nil dp
  | n :: ns, h => by
    have a := ShL.ints (dp := dp) fun m hm => h m (List.mem_cons_of_mem _ hm)
    have b := ShL.cons ((Sh.int (h n List.mem_cons_self)).up (Nat.zero_le dp) (Nat.le_refl _)) a
    rw [List.length_cons, Nat.succ_mul]
    rw [show ns.length * 21 + 21 = 20 + 1 + ns.length * 21 by omega]
    exact b
theorem ShL.all {dp w : Nat} : ∀ {ds : List PyData}, (∀ d ∈ ds, Sh dp w d) → ShL dp (ds.length * (w + 1)) ds
  | [], _ => by rw [List.length_nil, Nat.zero_mul]; exact .nil dp
  | d :: ds, h => by
    have a := ShL.all fun m hm => h m (List.mem_cons_of_mem _ hm)
    have b := ShL.cons (h d List.mem_cons_self) a
    rw [List.length_cons, Nat.succ_mul]
    rw [show ds.length * (w + 1) + (w + 1) = w + 1 + ds.length * (w + 1) by omega]
    exact b
theorem Sh.consL {dp a b : Nat} {d : PyData} {ds : List PyData} (h : Sh dp a d) (g : ShL dp b ds) : ShL dp (a + 1 + b) (d :: ds) := ShL.cons h g
theorem Sh.intW {i : Int} (h : i.natAbs < 2 ^ 90) : Sh 0 90 (.int i) := by
  have h1 : i.natAbs.log2 < 90 := PySem.Flt.log2_lt_of (by decide) h
  have h2 : (PyData.shown (.int i)).length ≤ 29 := by
    have e := int_text_length_le10 (a := i) (k := 28) (by decide) (Nat.lt_of_lt_of_le h (by decide))
    show (Str.ofString (toString i)).length ≤ 29
    rw [PySem.ofString_length]
    exact e
  refine ⟨?_, rfl, ?_, by simp [PyData.depth], ?_⟩
  · simp only [PyData.showable]
    exact decide_eq_true (by omega)
  · simp only [PyData.leavesShort]
    exact decide_eq_true (by omega)
  · simp only [PyData.weight]
    split <;> omega
theorem Sh.wordM (t : Mx) : Sh 0 10 (.str t.word) := by
  cases t <;> simp only [Mx.word] <;> exact ⟨by decide +kernel, by decide +kernel, by decide +kernel, by decide +kernel, by decide +kernel⟩
theorem Sh.mix : Sh 0 10 (.str "mix") := ⟨by decide +kernel, by decide +kernel, by decide +kernel, by decide +kernel, by decide +kernel⟩
theorem Mx.shows : ∀ {t : Mx}, t.Ok → Sh t.height (t.words * 100) t.toD
  | .point_ m a b, ⟨⟨m1, m2⟩, ⟨a1, a2⟩, b1, b2⟩ => (Sh.tup (dp := 0) ((Sh.wordM (.point_ m a b)).up (Nat.le_refl _) (Nat.le_refl _) |>.consL (.cons (.int (by omega)) (.cons (.int (by omega)) (.cons (.int (by omega)) (.nil 0)))))).up (Nat.le_refl _) (by show _ ≤ 1 * 100; omega)
  | .none_, _ => (Sh.tup (dp := 0) ((Sh.wordM .none_).consL (.nil 0))).up (Nat.le_refl _) (by show _ ≤ 1 * 100; omega)
  | .mixed_ s u, ⟨o1, o2⟩ => by
    have h1 := (Mx.shows o1).up (c := max s.height u.height) (Nat.le_max_left _ _) (Nat.le_refl _)
    have h2 := (Mx.shows o2).up (c := max s.height u.height) (Nat.le_max_right _ _) (Nat.le_refl _)
    exact (Sh.tup (((Sh.wordM (.mixed_ s u)).up (Nat.zero_le _) (Nat.le_refl _)).consL (h1.consL (h2.consL (.nil _))))).up (Nat.le_refl _) (by show _ ≤ (s.words + u.words + 1) * 100; omega)
  | .moved_ s n, ⟨o1, n1, n2⟩ => (Sh.tup (((Sh.wordM (.moved_ s n)).up (Nat.zero_le _) (Nat.le_refl _)).consL ((Mx.shows o1).consL (((Sh.int (by omega)).up (Nat.zero_le _) (Nat.le_refl _)).consL (.nil _))))).up (Nat.le_refl _) (by show _ ≤ (s.words + 1) * 100; omega)
  | .scaled_ s a b, ⟨o1, ⟨a1, a2⟩, b1, b2⟩ => (Sh.tup (((Sh.wordM (.scaled_ s a b)).up (Nat.zero_le _) (Nat.le_refl _)).consL ((Mx.shows o1).consL (((Sh.int (i := a) (by omega)).up (Nat.zero_le _) (Nat.le_refl _)).consL (((Sh.int (i := b) (by omega)).up (Nat.zero_le _) (Nat.le_refl _)).consL (.nil _)))))).up (Nat.le_refl _) (by show _ ≤ (s.words + 1) * 100; omega)
  | .spread_ s m l h, ⟨o1, ⟨m1, m2⟩, ⟨l1, l2⟩, ⟨h1, h2⟩, _⟩ => (Sh.tup (((Sh.wordM (.spread_ s m l h)).up (Nat.zero_le _) (Nat.le_refl _)).consL ((Mx.shows o1).consL (((Sh.int (i := m) (by omega)).up (Nat.zero_le _) (Nat.le_refl _)).consL (((Sh.int (i := l) (by omega)).up (Nat.zero_le _) (Nat.le_refl _)).consL (((Sh.int (i := h) (by omega)).up (Nat.zero_le _) (Nat.le_refl _)).consL (.nil _))))))).up (Nat.le_refl _) (by show _ ≤ (s.words + 1) * 100; omega)
  | .drawn_ s l h, ⟨o1, ⟨l1, l2⟩, ⟨h1, h2⟩, _⟩ => (Sh.tup (((Sh.wordM (.drawn_ s l h)).up (Nat.zero_le _) (Nat.le_refl _)).consL ((Mx.shows o1).consL (((Sh.int (i := l) (by omega)).up (Nat.zero_le _) (Nat.le_refl _)).consL (((Sh.int (i := h) (by omega)).up (Nat.zero_le _) (Nat.le_refl _)).consL (.nil _)))))).up (Nat.le_refl _) (by show _ ≤ (s.words + 1) * 100; omega)
theorem sh_fr {x : Fx} (h : Sz 90 x) : Sh 1 200 (frD x) := (Sh.tup (dp := 0) ((Sh.intW h.1).consL ((Sh.intW h.2).consL (.nil 0)))).up (Nat.le_refl _) (by omega)
theorem sh_prs : ∀ {xs : Shx}, Shr xs → AllF 90 xs → ShL 2 (xs.length * 300) (xs.map prD) := fun {xs} s al => by
  have h : ∀ d ∈ xs.map prD, Sh 2 299 d := fun d hd => by
    obtain ⟨a, ha, rfl⟩ := List.mem_map.mp hd
    have q := s.2.1 a ha
    exact (Sh.tup (dp := 1) (((Sh.int (i := a.1) (by omega)).up (Nat.zero_le _) (Nat.le_refl _)).consL ((sh_fr (al a ha).2).consL (.nil 1)))).up (Nat.le_refl _) (by omega)
  have := ShL.all h
  rw [List.length_map] at this
  exact this
theorem sh_share {xs : Shx} (s : Shr xs) (al : AllF 90 xs) : Sh 3 2400 (shD xs) := by
  have l := s.1
  exact (Sh.tup (sh_prs s al)).up (Nat.le_refl _) (by omega)
end CS
set_option Elab.async false
set_option maxRecDepth 100000
set_option maxHeartbeats 8000000
set_option linter.unusedVariables false
namespace CS
open PySem L2 LamX
/-! a def whose code object is told -/
structure FunC (K : PySem.W.Frag) (x qual : Str) (st : Stmt) (f : Addr) (fd : FuncData) (c : Addr) : Prop where
  ex : ∃ (oc : Value) (od : Option Addr) (kV doc pm : Value) (an : Option Addr) (ct : Value) (osl : Array (Option Value)),
    fd = PySem.W.fnOf x qual (defArgs st) (defBody st) (defScope st) .none kV doc pm an (.ref c) ct ∧ K.lookup f = some ⟨oc, od, .func fd, osl⟩ ∧ PySem.W.codeIn K (.ref c) qual = true
  kp : PySem.W.keepIn K (.ref f) = true
theorem FunC.fun_ {K : PySem.W.Frag} {x qual : Str} {st : Stmt} {f c : Addr} {fd : FuncData} (F : FunC K x qual st f fd c) : Fun K x qual st f fd := by
  obtain ⟨oc, od, kV, doc, pm, an, ct, osl, e, l, h⟩ := F.ex
  exact ⟨⟨oc, od, kV, doc, pm, an, _, ct, osl, e, l, h⟩, F.kp⟩
theorem FunC.ok {P : Program} {w : World} {K : PySem.W.Frag} {mg : Str → Option Value} {base : Heap} {x qual : Str} {st : Stmt} {f c : Addr} {fd : FuncData} {N ps : List Str} {k : Nat} {sp : Sp} (F : FunC K x qual st f fd c) (S : FnScope N ps (defScope st)) (len : ∀ vs H Q E, sp vs H Q E → vs.length = ps.length)
    (hbody : ∀ (A : Around) (outer : List Env) (s : Shared) (H : Hp) (vs : List V) (Q : VK) (E : XK), Room k (A.deeper (PyProof.Rows.envOfC qual (defScope st) s.heap.objs.size f (.ref c))) → sp vs H Q E →
      ∃ t, PSs (cxOf CX0 P w K mg base N qual (defScope st) f (.ref c) A outer s H E).nox (defBody st) t ∧ t { nx := fun _ H' => Q .non H', rt := Q } (start N vs) H) : FnOk P w K mg base CX0 (k + 1) f fd ps sp := by
  obtain ⟨oc, od, kV, doc, pm, an, ct, osl, rfl, l, h⟩ := F.ex
  refine fn_of l h S len fun A outer s H vs Q E hr hsp => ?_
  obtain ⟨t, ht, q⟩ := hbody A outer s H vs Q E hr hsp
  exact ⟨t, ht.nox, q⟩
/-! the scope of a lambda, looked at -/
def lscB (sc scope : Scope) (N : List Str) : Bool :=
  decide (scope.kind = .function) && !scope.isCoroutine && !scope.isGenerator && scope.names.all fun y => !decide (y.2 = .cell) && (!decide (y.2 = .local) || !decide (y.1 ∈ N)) && (!decide (y.2 = .free) || decide (sc.names.lookup y.1 = some .cell) || decide (sc.names.lookup y.1 = some .free))
theorem lsc_by {sc scope : Scope} {N : List Str} (h : lscB sc scope N = true) : LScope sc scope N := by
  unfold lscB at h
  simp only [Bool.and_eq_true, Bool.or_eq_true, Bool.not_eq_true', decide_eq_true_eq, decide_eq_false_iff_not, List.all_eq_true] at h
  obtain ⟨⟨⟨h1, h2⟩, h3⟩, h4⟩ := h
  refine ⟨h1, h2, h3, fun y hy => (h4 y hy).1.1, fun y hy e => ?_, fun y hy e => ?_⟩
  · rcases (h4 y hy).1.2 with z | z
    · exact absurd e z
    · exact z
  · rcases (h4 y hy).2 with (z | z) | z
    · exact absurd e z
    · exact .inl z
    · exact .inr z
/-! what stays -/
section
variable {K : PySem.W.Frag} {H H' : Hp}
theorem tk_ext (e : ExtN H H') : TK K H H' := fun p xs h => by
  rcases h with (h | ⟨o, h⟩) | h
  · exact .inl (.inl (e _ _ h fun _ z => by cases z))
  · exact .inl (.inr ⟨o, e _ _ h fun _ z => by cases z⟩)
  · exact .inr h
theorem StAt.ext {d c l : Addr} {k : Nat} (S : StAt H d c l k) (e : ExtN H H') : StAt H' d c l k := by
  obtain ⟨hd, ne, cs, ls, h1, h2, r⟩ := S
  exact ⟨e _ _ hd (fun _ z => by cases z), ne, cs, ls, e _ _ h1 (fun _ z => by cases z), e _ _ h2 (fun _ z => by cases z), r⟩
theorem ShZ.ext {p : Addr} {xs : List (Int × Fx)} (e : ExtN H H') (h : ShZ K H p xs) : ShZ K H' p xs := by
  obtain ⟨vs, ⟨o, d, a⟩, b⟩ := h
  exact ⟨vs, ⟨o, d, e _ _ a fun _ z => by cases z⟩, b.tk (tk_ext e)⟩
theorem ShZ.fm {p d c l : Addr} {k : Nat} {xs : List (Int × Fx)} (e : Fm d l H H') (S : StAt H d c l k) (h : ShZ K H p xs) : ShZ K H' p xs := by
  obtain ⟨vs, ⟨o, z, a⟩, b⟩ := h
  refine ⟨vs, ⟨o, z, e _ _ a (fun q => ?_) fun q => ?_⟩, b.tk (tk_fm e S)⟩
  · rw [q, S.hd] at a
    cases a
  · obtain ⟨_, _, cs, ls, h1, h2, _⟩ := S
    rw [q, h2] at a
    cases a
theorem tabs_fm {T : List (Addr × Str)} {d c l : Addr} {k : Nat} (h : Tabs T H) (e : Fm d l H H') (S : StAt H d c l k) : Tabs T H' := fun p hp => by
  obtain ⟨ps, b1, b2, b3⟩ := h p hp
  obtain ⟨hd, _, cs, ls, h1, h2, _⟩ := S
  refine ⟨ps, e _ _ b1 (fun q => by rw [q, hd] at b1; cases b1) (fun q => by rw [q, h2] at b1; cases b1), b2, fun pos cv z => ?_⟩
  obtain ⟨c0, rfl, y⟩ := b3 pos cv z
  refine ⟨c0, rfl, e _ _ y (fun q => ?_) fun q => ?_⟩
  · rw [q, hd] at y
    unfold CodeO at y
    cases y
  · rw [q, h2] at y
    unfold CodeO at y
    cases y
mutual
theorem Dp.keep (t : TK K H H') (l : ∀ a xs, SqL K H a xs → SqL K H' a xs) : ∀ {v : V} {d : PyData}, Dp K H v d → Dp K H' v d
  | _, _, .non => .non
  | _, _, .bl b => .bl b
  | _, _, .int i => .int i
  | _, _, .str x => .str x
  | _, _, .lst a b => .lst (l _ _ a) (DpAll.keep t l b)
  | _, _, .tup a b => .tup (t _ _ a) (DpAll.keep t l b)
theorem DpAll.keep (t : TK K H H') (l : ∀ a xs, SqL K H a xs → SqL K H' a xs) : ∀ {vs : List V} {ds : List PyData}, DpAll K H vs ds → DpAll K H' vs ds
  | _, _, .nil => .nil
  | _, _, .cons a b => .cons (Dp.keep t l a) (DpAll.keep t l b)
end
theorem dp_same {v : V} {d : PyData} (h : Dp K H v d) (e : Same H H') : Dp K H' v d := CS.Dp.keep (tk_same e) (fun _ _ z => e.seq z) h
theorem dp_ext {v : V} {d : PyData} (h : Dp K H v d) (e : ExtN H H') : Dp K H' v d := CS.Dp.keep (tk_ext e) (fun a xs z => by
  rcases z with (z | ⟨o, z⟩) | z
  · exact .inl (.inl (e _ _ z fun _ q => by cases q))
  · exact .inl (.inr ⟨o, e _ _ z fun _ q => by cases q⟩)
  · exact .inr z) h
end
open PySem PySem.Spec PyProof.Rows L2
section
variable {P : Program} {w : World} {K : PySem.W.Frag} {mg : Str → Option Value} {base : Heap} {CX : CXT} {k : Nat} {f : Addr} {fd : FuncData} {ps N : List Str} {sp : Sp} {x qual : Str} {st : Stmt}
theorem FunC.okG {c : Addr} (F : FunC K x qual st f fd c) (S : FnScope N ps (defScope st)) (many : ∀ vs H Q E, sp vs H Q E → vs.length = ps.length)
    (body : ∀ A outer s H vs Q E, A.guards = some [] → Room k (A.deeper (envOfC qual (defScope st) s.heap.objs.size f (.ref c))) → sp vs H Q E → ∃ t, PSs (cxOf CX P w K mg base N qual (defScope st) f (.ref c) A outer s H E) (defBody st) t ∧ t { nx := fun _ H' => Q .non H', rt := Q } (start N vs) H) :
    FnG P w K mg base CX (k + 1) f fd ps sp := by
  obtain ⟨oc, od, kV, doc, pm, an, ct, osl, efd, at_, code⟩ := F.ex
  subst efd
  constructor
  · exact many
  intro A outer s H args us vs Q E q h
  have kept := q.env.bs
  have inn : K.In s.heap := q.env.mod.kin.keeps fun b o e => (kept b o e).1
  have nolim : s.heap.NoLimit := q.env.mod.nolimit.keeps fun b o e => (kept b o e).1
  have pars : ∀ y ∈ ps.zip us, (defScope st).names.lookup y.1 = some .local ∨ ((defScope st).names.lookup y.1 = some .cell ∧ ((cellsFrom (s.heap.objs.size + 1) (defScope st).names []).lookup y.1).isSome = true) := by
    rintro ⟨n, v⟩ hy
    exact (S.par n (List.of_mem_zip hy).1).imp id fun c => ⟨c, PySem.W.cellsFrom_some _ _ _ (.inl c)⟩
  refine codeAny_call_function q.room.depth (inn _ _ at_) rfl S.co S.gen rfl (PySem.W.codeRec_of inn code) (q.bound _ _ _ _ (wpAny_newFunctionEnv_cells S.kind pars ?_))
  rintro env rfl s1 laid
  refine ⟨nolim.keeps laid.toInCall.keep, codeAny_func ?_⟩
  obtain ⟨t, run, now⟩ := body A outer s H vs Q E q.still (q.room.deeper _) h
  have I := inv_start (CX := CX) (E := E) S q.room.hd q.env (many _ _ _ _ h) q.vals laid
  refine wpAny_mono (run.run [] s1 _ H _ I now) (fun fl s' e => ?_) fun _ _ e => e
  obtain ⟨u, v, e1, _, e2⟩ := end_of_body e
  rcases e1 with rfl | ⟨rfl, rfl⟩
  · exact e2
  · exact e2
end
end CS
set_option Elab.async false
set_option maxRecDepth 100000
set_option maxHeartbeats 8000000
set_option linter.unusedVariables false
set_option pp.maxSteps 6000
/-! what is heard of a mix, as data -/
namespace CS
open PySem L2 RZ LamX
/-- the path of the part that has no share, as it is heard -/
def badM (f : List Int) : PyData := .tuple [.str "mix", .tuple (f.map .int)]
/-- what is heard of the share; of the need; of the parts -/
def dueM (t : Mx) : PyData := match t.sh [] with
  | .inl zs => .list [shD zs]
  | .inr f => badM f
def dueN (t : Mx) : PyData := match t.sh [] with
  | .inl _ => .list [t.toD]
  | .inr f => badM f
def dueP (t : Mx) : PyData := match t.sh [] with
  | .inl _ => .list [.tuple (t.kids.map fun k => k.2.toD)]
  | .inr f => badM f
theorem badM_shows {f : List Int} (h : ∀ n ∈ f, n.natAbs ≤ 1000000) (l : f.length ≤ 20) : Sh 2 500 (badM f) :=
  (Sh.tup (dp := 1) ((Sh.mix.up (Nat.zero_le _) (Nat.le_refl _)).consL ((Sh.tup (dp := 0) (ShL.ints h)).consL (.nil 1)))).up (Nat.le_refl _) (show 10 + 1 + (f.length * 21 + 1 + 0) ≤ 500 by omega)
theorem resM_inr {o : Option Shx} {p f : List Int} (h : resM o p = .inr f) : f = p := by
  cases o with
  | none => cases h; rfl
  | some ys =>
    simp only [resM] at h
    split at h
    · cases h
    · cases h; rfl
theorem path_up {p f : List Int} {n : Int} {k m : Nat} (hn : n.natAbs ≤ 2) (km : k < m) (h : ∃ g, f = p ++ [n] ++ g ∧ g.length ≤ k ∧ ∀ z ∈ g, z.natAbs ≤ 2) : ∃ g, f = p ++ g ∧ g.length ≤ m ∧ ∀ z ∈ g, z.natAbs ≤ 2 := by
  obtain ⟨g, e, l, a⟩ := h
  refine ⟨n :: g, by rw [e]; simp, by rw [List.length_cons]; omega, fun z hz => ?_⟩
  rcases List.mem_cons.mp hz with rfl | hz
  · exact hn
  · exact a z hz
theorem Mx.sh_path : ∀ {t : Mx} {p f : List Int}, t.sh p = .inr f → ∃ g, f = p ++ g ∧ g.length ≤ t.height ∧ ∀ z ∈ g, z.natAbs ≤ 2 := by
  have own : ∀ {p f : List Int} {m : Nat}, f = p → ∃ g, f = p ++ g ∧ g.length ≤ m ∧ ∀ z ∈ g, z.natAbs ≤ 2 := fun e => ⟨[], by rw [e, List.append_nil], Nat.zero_le _, fun _ h => (nomatch h)⟩
  intro t
  induction t with
  | point_ m a b => intro p f h; exact own (resM_inr h)
  | none_ => intro p f h; exact own (resM_inr h)
  | mixed_ s u i1 i2 =>
    intro p f h
    simp only [Mx.sh] at h
    split at h
    · next e => cases h; exact path_up (by decide) (by show s.height < max s.height u.height + 1; omega) (i1 e)
    · split at h
      · next e => cases h; exact path_up (by decide) (by show u.height < max s.height u.height + 1; omega) (i2 e)
      · exact own (resM_inr h)
  | moved_ s n i1 =>
    intro p f h
    simp only [Mx.sh] at h
    split at h
    · next e => cases h; exact path_up (by decide) (by show s.height < s.height + 1; omega) (i1 e)
    · exact own (resM_inr h)
  | scaled_ s a b i1 =>
    intro p f h
    simp only [Mx.sh] at h
    split at h
    · next e => cases h; exact path_up (by decide) (by show s.height < s.height + 1; omega) (i1 e)
    · exact own (resM_inr h)
  | spread_ s a b c i1 =>
    intro p f h
    simp only [Mx.sh] at h
    split at h
    · next e => cases h; exact path_up (by decide) (by show s.height < s.height + 1; omega) (i1 e)
    · exact own (resM_inr h)
  | drawn_ s a b i1 =>
    intro p f h
    simp only [Mx.sh] at h
    split at h
    · next e => cases h; exact path_up (by decide) (by show s.height < s.height + 1; omega) (i1 e)
    · exact own (resM_inr h)
theorem bad_shows {t : Mx} {f : List Int} (h8 : t.height ≤ 8) (e : t.sh [] = .inr f) : Sh 2 500 (badM f) := by
  obtain ⟨g, rfl, l, a⟩ := Mx.sh_path e
  exact badM_shows (fun n hn => Nat.le_trans (a n hn) (by decide)) (by omega)
theorem dueM_shows {t : Mx} (g : t.Good) : Sh 4 2500 (dueM t) := by
  obtain ⟨tok, ti, bz, w20, h8⟩ := g
  unfold dueM
  cases e : t.sh [] with
  | inl zs =>
    have al : AllF 90 zs := (Mx.sh_sz tok ti e).all (by omega)
    exact (Sh.lst ((sh_share (Mx.sh_shr e) al).consL (.nil 3))).up (Nat.le_refl _) (by omega)
  | inr f => exact (bad_shows h8 e).up (by decide) (by decide)
section
variable {K : PySem.W.Frag} {TT : List (Addr × Str)} {CB : Addr} {σ : L2.St} {H : Hp} {Q : VK} {i : Nat} {u : V} {t : Mx}
theorem bad_at {H1 H2 : Hp} {q d p : Addr} {f : List Int} {D : PyData} (e1 : ExtN H H1) (s2 : Same H1 H2) (t1 : Tabs TT H1) (eD : D = badM f) (hq : SqT K H2 q (f.map V.int)) (nd : H2 d = none) (np : (upd H2 d (.xd [("path", .ref q)])) p = none)
    (k : ∀ y H', ExtN H H' → Tabs TT H' → Dp K H' (.ref y) D → Q (.ref y) H') : Q (.ref p) (upd (upd H2 d (.xd [("path", .ref q)])) p (.tup [.str "mix", .ref q])) := by
  have a := Same.new (o := .xd [("path", .ref q)]) nd
  have b := Same.new (o := .tup [V.str "mix", V.ref q]) np
  have s := s2.trans (a.trans b)
  refine k p _ (e1.trans (.of s)) (t1.ext s) ?_
  rw [eD]
  exact .tup (SqT.of upd_same) (.cons (.str _) (.cons (.tup ((a.trans b).tup hq) (dpInts K _ f)) .nil))
theorem of_cut (hT : Tabs TT H) (hi : σ[i]? = some (some u)) (hu : Dp K H u t.toD) (good : t.Good) (k : ∀ y H', ExtN H H' → Tabs TT H' → Dp K H' (.ref y) (dueM t) → Q (.ref y) H') :
    Tabs TT H ∧ ∀ H1, ExtN H H1 → Tabs TT H1 → tCall (spShareOf K CB) [] (fun cls d H2 => wxM CB cls d H2 Q) (tCons (tVar i) tNil) σ H1 (putL Q) := by
  refine ⟨hT, fun H1 e1 t1 => ⟨_, hi, u, t, rfl, dp_ext hu e1, good, fun H2 s2 => ⟨fun f ef q d hq nd => ⟨rfl, d, q, rfl, upd_same, fun p np => ?_⟩, fun zs ez c hc p np => ?_⟩⟩⟩
  · exact bad_at e1 s2 t1 (by unfold dueM; rw [ef]) hq nd np k
  · have b := Same.new (o := .lst [V.ref c]) np
    refine k p _ (e1.trans (.of (s2.trans b))) (t1.ext (s2.trans b)) ?_
    unfold dueM
    rw [ez]
    exact .lst (SqL.of upd_same) (.cons (hc.same b).sh.dp .nil)
theorem need_cut (hT : Tabs TT H) (hi : σ[i]? = some (some u)) (hu : Dp K H u t.toD) (good : t.Good) (k : ∀ y H', ExtN H H' → Tabs TT H' → Dp K H' (.ref y) (dueN t) → Q (.ref y) H') :
    Tabs TT H ∧ ∀ H1, ExtN H H1 → Tabs TT H1 → tCall (spNeedMix K CB) [] (fun cls d H2 => wxM CB cls d H2 Q) (tCons (tVar i) tNil) σ H1 (putL Q) := by
  refine ⟨hT, fun H1 e1 t1 => ⟨_, hi, u, t, rfl, dp_ext hu e1, good, fun H2 s2 => ⟨fun f ef q d hq nd => ⟨rfl, d, q, rfl, upd_same, fun p np => ?_⟩, fun zs ez p np => ?_⟩⟩⟩
  · exact bad_at e1 s2 t1 (by unfold dueN; rw [ef]) hq nd np k
  · have b := Same.new (o := .lst [u]) np
    refine k p _ (e1.trans (.of (s2.trans b))) (t1.ext (s2.trans b)) ?_
    unfold dueN
    rw [ez]
    exact .lst (SqL.of upd_same) (.cons (Dp.same (s2.trans b) (dp_ext hu e1)) .nil)
theorem parts_cut (hT : Tabs TT H) (hi : σ[i]? = some (some u)) (hu : Dp K H u t.toD) (good : t.Good) (k : ∀ y H', ExtN H H' → Tabs TT H' → Dp K H' (.ref y) (dueP t) → Q (.ref y) H') :
    Tabs TT H ∧ ∀ H1, ExtN H H1 → Tabs TT H1 → tCall (spPartsOf K CB) [] (fun cls d H2 => wxM CB cls d H2 Q) (tCons (tVar i) tNil) σ H1 (putL Q) := by
  refine ⟨hT, fun H1 e1 t1 => ⟨_, hi, u, t, rfl, dp_ext hu e1, good, fun H2 s2 => ⟨fun f ef q d hq nd => ⟨rfl, d, q, rfl, upd_same, fun p np => ?_⟩, fun zs ez c xs hc hx p np => ?_⟩⟩⟩
  · exact bad_at e1 s2 t1 (by unfold dueP; rw [ef]) hq nd np k
  · have b := Same.new (o := .lst [V.ref c]) np
    refine k p _ (e1.trans (.of (s2.trans b))) (t1.ext (s2.trans b)) ?_
    unfold dueP
    rw [ez]
    exact .lst (SqL.of upd_same) (.cons (.tup (b.tup hc) (DpAll.same b hx)) .nil)
end
end CS
set_option Elab.async false
set_option maxRecDepth 100000
set_option maxHeartbeats 4000000
set_option linter.unusedVariables false
/-! the two mixes that the law makes of a drawn one -/
namespace CS
open Cu PySem L2
theorem resM_any {o : Option Shx} {p q : List Int} {zs : Shx} (h : resM o p = .inl zs) : resM o q = .inl zs := by
  obtain ⟨rfl, s⟩ := resM_inl h
  exact if_pos s
theorem Mx.sh_any : ∀ {t : Mx} {p q : List Int} {zs : Shx}, t.sh p = .inl zs → t.sh q = .inl zs := by
  intro t
  induction t with
  | point_ m a b => intro p q zs h; exact resM_any h
  | none_ => intro p q zs h; exact resM_any h
  | mixed_ s u i1 i2 =>
    intro p q zs h
    simp only [Mx.sh] at h ⊢
    split at h
    · cases h
    · next e1 =>
      split at h
      · cases h
      · next e2 => rw [i1 (q := q ++ [1]) e1, i2 (q := q ++ [2]) e2]; exact resM_any h
  | moved_ s n i1 =>
    intro p q zs h
    simp only [Mx.sh] at h ⊢
    split at h
    · cases h
    · next e1 => rw [i1 (q := q ++ [1]) e1]; exact resM_any h
  | scaled_ s a b i1 =>
    intro p q zs h
    simp only [Mx.sh] at h ⊢
    split at h
    · cases h
    · next e1 => rw [i1 (q := q ++ [1]) e1]; exact resM_any h
  | spread_ s a b c i1 =>
    intro p q zs h
    simp only [Mx.sh] at h ⊢
    split at h
    · cases h
    · next e1 => rw [i1 (q := q ++ [1]) e1]; exact resM_any h
  | drawn_ s a b i1 =>
    intro p q zs h
    simp only [Mx.sh] at h ⊢
    split at h
    · cases h
    · next e1 => rw [i1 (q := q ++ [1]) e1]; exact resM_any h
theorem noLack_self (xs : Shx) : NoLack xs xs := ⟨rfl, rfl, fun k _ => decide_eq_false (Int.lt_irrefl _)⟩
theorem far_spr {t : Mx} {zs ws : Shx} (e : t.sh [] = .inl zs) (ew : (Mx.spread_ t 1 (-3) 4).sh [] = .inl ws) : NoLack zs ws := by
  simp only [Mx.sh] at ew
  rw [Mx.sh_any (q := [] ++ [1]) e] at ew
  obtain ⟨e2, s⟩ := resM_inl ew
  simp only [Mx.md, Option.some.injEq] at e2
  subst e2
  exact spr_wide (Mx.sh_shr e) (by decide) (by decide) (by decide) (by decide) s
theorem far_drw {t : Mx} {zs ws : Shx} (e : t.sh [] = .inl zs) (ew : (Mx.drawn_ t (-2) 3).sh [] = .inl ws) : NoLack ws zs := by
  simp only [Mx.sh] at ew
  rw [Mx.sh_any (q := [] ++ [1]) e] at ew
  obtain ⟨e2, s⟩ := resM_inl ew
  simp only [Mx.md] at e2
  split at e2
  · cases e2
    exact noLack_self _
  · next ne =>
    split at e2
    · next one =>
      cases e2
      exact drw_narrow (Mx.sh_shr e) (by decide) (by decide) (innOk_of (Mx.sh_shr e) ne) one s
    · cases e2
theorem Mx.kid_words (t : Mx) : ∀ k ∈ t.kids, k.2.words < t.words := by
  cases t <;> (intro k hk; simp only [Mx.kids, List.mem_cons, List.not_mem_nil, or_false] at hk)
  all_goals (first | (rcases hk with rfl | rfl <;> simp only [Mx.words] <;> omega) | (rcases hk with rfl; simp only [Mx.words]; omega))
/-- the two mixes, by their place -/
def Mx.far (t : Mx) : Nat → Mx
  | 0 => .spread_ t 1 (-3) 4
  | _ => .drawn_ t (-2) 3
theorem Mx.far_good {t : Mx} (tok : t.Ok) (ti : t.tiny) (dB : t.dB ≤ 44) (vB : t.vB ≤ 15) (w15 : t.words ≤ 15) (h4 : t.height ≤ 4) : ∀ i, (t.far i).Good
  | 0 => ⟨⟨tok, ⟨by decide, by decide⟩, ⟨by decide, by decide⟩, ⟨by decide, by decide⟩, by decide, by decide⟩, ti, by show t.dB + 8 + (t.vB + 4) ≤ 79; omega, by show t.words + 1 ≤ 20; omega, by show t.height + 1 ≤ 8; omega⟩
  | _ + 1 => ⟨⟨tok, ⟨by decide, by decide⟩, ⟨by decide, by decide⟩, by decide⟩, ti, by show t.dB + (t.vB + 3) ≤ 79; omega, by show t.words + 1 ≤ 20; omega, by show t.height + 1 ≤ 8; omega⟩
end CS
set_option Elab.async false
set_option maxRecDepth 100000
set_option maxHeartbeats 8000000
set_option linter.unusedVariables false
set_option pp.maxSteps 6000
/-! the law on one drawn mix -/
namespace CS
open PySem L2 RZ LamX
section
variable {P : Program} {w : World} {K : PySem.W.Frag} {mg : Str → Option Value} {base : Heap}
theorem ne_str {s : Str} {H : Hp} {Q : VK} (h : Q (.bl false) H) : rNe (.str s) (.str s) H Q := ⟨rfl, by rw [decide_eq_true rfl]; exact h⟩
theorem eq_str {s : Str} {H : Hp} {Q : VK} (h : Q (.bl true) H) : rEq (.str s) (.str s) H Q := ⟨rfl, by rw [decide_eq_true rfl]; exact h⟩
theorem seq_ext {H H' : Hp} {a : Addr} {xs : List V} (e : ExtN H H') (h : SqL K H a xs) : SqL K H' a xs := by
  rcases h with (z | ⟨o, z⟩) | z
  · exact .inl (.inl (e _ _ z fun _ w => by cases w))
  · exact .inl (.inr ⟨o, e _ _ z fun _ w => by cases w⟩)
  · exact .inr z
theorem pl_of {xs : Shx} (s : Shr xs) : ∀ a ∈ xs, a.1 ∈ PL := fun a ha => PL_mem.mpr ⟨(s.2.1 a ha).1, (s.2.1 a ha).2.1⟩
def spLRight (K : PySem.W.Frag) (TT : List (Addr × Str)) : Sp := fun vs H Q _ => ∃ u t, vs = [u] ∧ Dp K H u (Mx.toD t) ∧ t.Ok ∧ t.tiny ∧ t.dB ≤ 44 ∧ t.vB ≤ 15 ∧ t.words ≤ 15 ∧ t.height ≤ 4 ∧ Tabs TT H ∧ ∀ H', ExtN H H' → Tabs TT H' → Q (.bl true) H'
variable {CB : Addr}
abbrev nsLawIsRight : List Str := ["mix_so", "was", "due", "inner", "place", "told_so", "far", "wide"]
theorem scLawIsRight : FnScope nsLawIsRight ["mix_so"] (defScope sLawIsRight) := ⟨rfl, rfl, rfl, by decide +kernel, rfl, by decide +kernel, by decide +kernel⟩
theorem ok_law_is_right {f : Addr} {fd : FuncData} {c0 p0 : Addr} {TT : List (Addr × Str)} (F : FunC K "_law_is_right" "_law_is_right" sLawIsRight f fd c0) (TB : LamX.TabB base mg c0 p0) (hm : (p0, (("_law_is_right" : Str) ++ ".<locals>.") ++ "<lambda>") ∈ TT) (hut : ∀ p ∈ TT, p.1 = p0 → p.2 = (("_law_is_right" : Str) ++ ".<locals>.") ++ "<lambda>")
    {f1 : Addr} {fd1 : FuncData} (D1 : Df K mg "_law_lacks" sLawLacks ["one", "other"] f1 fd1) (G1 : FnOk P w K mg base CX0 5 f1 fd1 ["one", "other"] (spLacks K))
    {f2 : Addr} {fd2 : FuncData} (D2 : Df K mg "share_of" sShareOf ["mix"] f2 fd2) (G2 : FnOk P w K mg base (L2.CX P w) 16 f2 fd2 ["mix"] (spShareOf K CB))
    {f3 : Addr} {fd3 : FuncData} (D3 : Df K mg "_law_shared" sLawShared ["mix_so", "path"] f3 fd3) (G3 : FnOk P w K mg base CX0 15 f3 fd3 ["mix_so", "path"] (spLShared K 8))
    {f4 : Addr} {fd4 : FuncData} (D4 : Df K mg "_law_inner" sLawInner ["mix_so"] f4 fd4) (G4 : FnOk P w K mg base CX0 1 f4 fd4 ["mix_so"] (spLInner K))
    {a_of a_need a_parts fheard : Addr} {fdof fdneed fdparts fdheard : FuncData} (T : Bt mg) (mrepr : mg "repr" = none) (Dof : Df K mg "share_of" sShareOf ["mix"] a_of fdof) (Gof : FnOk P w K mg base (L2.CX P w) 16 a_of fdof ["mix"] (spShareOf K CB)) (Dneed : Df K mg "need_mix" sNeedMix ["thing"] a_need fdneed) (Gneed : FnOk P w K mg base (L2.CX P w) 17 a_need fdneed ["thing"] (spNeedMix K CB)) (Dparts : Df K mg "parts_of" sPartsOf ["mix"] a_parts fdparts) (Gparts : FnOk P w K mg base (L2.CX P w) 18 a_parts fdparts ["mix"] (spPartsOf K CB)) (Dheard : Df K mg "_law_heard" sLawHeard ["call"] fheard fdheard) (Gheard : ∀ act, ActOk P w K mg base 17 act → FnOk P w K mg base CX0 18 fheard fdheard ["call"] (spGiveL (wxM CB) act)) (Gheard2 : ∀ act, ActOk P w K mg base 18 act → FnOk P w K mg base CX0 19 fheard fdheard ["call"] (spGiveL (wxM CB) act)) (Gheard3 : ∀ act, ActOk P w K mg base 19 act → FnOk P w K mg base CX0 20 fheard fdheard ["call"] (spGiveL (wxM CB) act)) : FnG P w K mg base CX0 21 f fd ["mix_so"] (spLRight K TT) := by
  refine F.okG scLawIsRight (fun vs H Q E h => ?_) (fun A outer s H vs Q E hq hr h => ?_)
  · obtain ⟨u, t, rfl, _⟩ := h
    rfl
  · obtain ⟨u, t, rfl, hu1, tok, ti, dB, vB, w15, h4, hT, k⟩ := h
    have hq2 : (A.deeper (PyProof.Rows.envOfC "_law_is_right" (defScope sLawIsRight) s.heap.objs.size f (.ref c0))).guards = some [] := hq
    refine ⟨_, PSs.nox (pss_cons (ps_par (i := 1) (j := 2) (by rfl) scLawIsRight.nd rfl rfl (by decide) rfl rfl (pa_cons (pe_callB (call_show hq2 hr.units) (by rfl) mrepr (by decide +kernel) (pa_cons (pv 0) pa_nil)) (pa_cons (pe_call G3 (hr.mono (by decide)) (by rfl) D3.g D3.F.kp D3.b .nil pass0 (pa_cons (pv 0) (pa_cons (pe_tup pa_nil) pa_nil))) pa_nil)) (by rfl))
      (pss_cons (ps_if (pt_cmpR op_ne (pe_callB (call_show hq2 hr.units) (by rfl) mrepr (by decide +kernel) (pa_cons (pe_lst (pa_cons (pe_giveL (k := 16) (Wx := wxM CB) (T := TT) (natM CB) Gheard (hr.mono (by omega)) (by rfl) Dheard.g Dheard.F.kp Dheard.b (fun _ => rfl) (lsc_by (by show lscB (defScope sLawIsRight) _ nsLawIsRight = true; decide +kernel)) (pe_lam0 TB rfl hm hut (lsc_by (by show lscB (defScope sLawIsRight) _ nsLawIsRight = true; decide +kernel)) rfl) (fun A outer s H E f c' hr2 => pe_call Gof hr2 (by rfl) Dof.g Dof.F.kp Dof.b .nil (passes_call (takes_of rfl rfl rfl rfl) (fun _ _ _ _ h => h)) (pa_cons (pv 0) pa_nil))) (pa_cons (pe_giveML (k := 16) (Wx := wxM CB) (T := TT) (natM CB) Gheard (hr.mono (by omega)) (by rfl) Dheard.g Dheard.F.kp Dheard.b (fun _ => rfl) (lsc_by (by show lscB (defScope sLawIsRight) _ [] = true; decide +kernel)) (pe_lam1M TB rfl hm hut (lsc_by (by show lscB (defScope sLawIsRight) _ [] = true; decide +kernel)) (by decide +kernel) rfl) (fun A outer s H E f c' hr2 => pe_call Gof hr2 (by rfl) Dof.g Dof.F.kp Dof.b .nil (passes_call (takes_of rfl rfl rfl rfl) (fun _ _ _ _ h => h)) (pa_cons (pv 0) pa_nil))) pa_nil))) pa_nil)) (pe_callB (call_show hq2 hr.units) (by rfl) mrepr (by decide +kernel) (pa_cons (pe_lst (pa_cons (pv 2) (pa_cons (pv 2) pa_nil))) pa_nil)) (nomark _)) (pss_one (ps_ret pe_bl)) pss_nil)
      (pss_cons (ps_set (i := 3) scLawIsRight.nd rfl (Or.inl rfl) (pe_callTy call_tuple_of (by rfl) T.tuple (by decide +kernel) (pa_cons (pe_lc (own := [("place", 4)]) (g := gName 4) (tt := tYes) rfl scLawIsRight.nd (pi_tup (pe_call G4 (hr.mono (by decide)) (by rfl) D4.g D4.F.kp D4.b .nil pass0 (pa_cons (pv 0) pa_nil))) (blkOk_by (N := nsLawIsRight) (sc := defScope sLawIsRight) (by decide +kernel)) (fun _ _ _ _ _ => pg_name (i := 4) scLawIsRight.nd rfl (Or.inl rfl)) (fun _ _ _ _ _ => pts_nil) (fun _ _ _ _ _ => (pe_ix (r := rIxT K) ix_tup (pv 0) (pv 4) (fun _ _ => rfl)))) pa_nil)))
      (pss_cons (ps_set (i := 5) scLawIsRight.nd rfl (Or.inl rfl) (pe_lst (pa_cons (pe_giveL (k := 17) (Wx := wxM CB) (T := TT) (natM CB) Gheard2 (hr.mono (by omega)) (by rfl) Dheard.g Dheard.F.kp Dheard.b (fun _ => rfl) (lsc_by (by show lscB (defScope sLawIsRight) _ nsLawIsRight = true; decide +kernel)) (pe_lam0 TB rfl hm hut (lsc_by (by show lscB (defScope sLawIsRight) _ nsLawIsRight = true; decide +kernel)) rfl) (fun A outer s H E f c' hr2 => pe_call Gneed hr2 (by rfl) Dneed.g Dneed.F.kp Dneed.b .nil (passes_call (takes_of rfl rfl rfl rfl) (fun _ _ _ _ h => h)) (pa_cons (pv 0) pa_nil))) (pa_cons (pe_giveML (k := 18) (Wx := wxM CB) (T := TT) (natM CB) Gheard3 (hr.mono (by omega)) (by rfl) Dheard.g Dheard.F.kp Dheard.b (fun _ => rfl) (lsc_by (by show lscB (defScope sLawIsRight) _ [] = true; decide +kernel)) (pe_lam1M TB rfl hm hut (lsc_by (by show lscB (defScope sLawIsRight) _ [] = true; decide +kernel)) (by decide +kernel) rfl) (fun A outer s H E f c' hr2 => pe_call Gparts hr2 (by rfl) Dparts.g Dparts.F.kp Dparts.b .nil (passes_call (takes_of rfl rfl rfl rfl) (fun _ _ _ _ h => h)) (pa_cons (pv 0) pa_nil))) pa_nil))))
      (pss_cons (ps_if (pt_val (pe_callB call_isi (by rfl) T.isinstance (by decide +kernel) (pa_cons (pv 2) (pa_cons (pe_bltn (v := .ty "tuple") (by rfl) T.tuple (by decide +kernel) rfl) pa_nil)))) (pss_one (ps_ret (pe_and (pe_cmpR op_eq (pe_callB (call_show hq2 hr.units) (by rfl) mrepr (by decide +kernel) (pa_cons (pv 5) pa_nil)) (pe_callB (call_show hq2 hr.units) (by rfl) mrepr (by decide +kernel) (pa_cons (pe_lst (pa_cons (pv 2) (pa_cons (pv 2) pa_nil))) pa_nil)) (nomark _)) (pe_one (pe_cmpR op_eq (pe_callB (call_show hq2 hr.units) (by rfl) mrepr (by decide +kernel) (pa_cons (pv 0) pa_nil)) (pv 1) (nomark _)))))) pss_nil)
      (pss_cons (ps_if (pt_cmpR op_ne (pe_callB (call_show hq2 hr.units) (by rfl) mrepr (by decide +kernel) (pa_cons (pv 5) pa_nil)) (pe_callB (call_show hq2 hr.units) (by rfl) mrepr (by decide +kernel) (pa_cons (pe_lst (pa_cons (pe_lst (pa_cons (pv 0) pa_nil)) (pa_cons (pe_lst (pa_cons (pv 3) pa_nil)) pa_nil))) pa_nil)) (nomark _)) (pss_one (ps_ret pe_bl)) pss_nil)
      (pss_cons (ps_for PassesOwn.never rfl (pi_tup (pe_tup (pa_cons (pe_tup (pa_cons pe_str (pa_cons (pv 0) (pa_cons pe_int (pa_cons (pe_un un_neg pe_int) (pa_cons pe_int pa_nil)))))) (pa_cons (pe_tup (pa_cons pe_str (pa_cons (pv 0) (pa_cons (pe_un un_neg pe_int) (pa_cons pe_int pa_nil))))) pa_nil)))) (pg_name (i := 6) scLawIsRight.nd rfl (Or.inl rfl)) (pss_cons (ps_set (i := 7) scLawIsRight.nd rfl (Or.inl rfl) (pe_call G3 (hr.mono (by decide)) (by rfl) D3.g D3.F.kp D3.b .nil pass0 (pa_cons (pv 6) (pa_cons (pe_tup pa_nil) pa_nil))))
      (pss_cons (ps_if (PW.pt (pw_and (pt_val (pe_callB call_isi (by rfl) T.isinstance (by decide +kernel) (pa_cons (pv 7) (pa_cons (pe_bltn (v := .ty "list") (by rfl) T.list (by decide +kernel) rfl) pa_nil)))) (pw_and1 (pt_cmpR (op_neD hr.units) (pe_call G2 (hr.mono (by decide)) (by rfl) D2.g D2.F.kp D2.b .nil passL (pa_cons (pv 6) pa_nil)) (pe_ix ix_list (pv 7) pe_int (fun _ _ => rfl)) (nomark _))))) (pss_one (ps_ret pe_bl)) pss_nil)
      (pss_cons (ps_if (PW.pt (pw_and (pt_val (pe_callB call_isi (by rfl) T.isinstance (by decide +kernel) (pa_cons (pv 7) (pa_cons (pe_bltn (v := .ty "list") (by rfl) T.list (by decide +kernel) rfl) pa_nil)))) (pw_and (pt_cmpR op_eq (pe_ix (r := rIxT K) ix_tup (pv 6) pe_int (fun _ _ => rfl)) pe_str (nomark _)) (pw_and1 (pt_cmpR (op_neD hr.units) (pe_call G1 (hr.mono (by decide)) (by rfl) D1.g D1.F.kp D1.b .nil pass0 (pa_cons (pe_ix ix_list (pv 2) pe_int (fun _ _ => rfl)) (pa_cons (pe_ix ix_list (pv 7) pe_int (fun _ _ => rfl)) pa_nil))) (pe_lst pa_nil) (nomark _)))))) (pss_one (ps_ret pe_bl)) pss_nil)
      (pss_one (ps_if (PW.pt (pw_and (pt_val (pe_callB call_isi (by rfl) T.isinstance (by decide +kernel) (pa_cons (pv 7) (pa_cons (pe_bltn (v := .ty "list") (by rfl) T.list (by decide +kernel) rfl) pa_nil)))) (pw_and (pt_cmpR op_eq (pe_ix (r := rIxT K) ix_tup (pv 6) pe_int (fun _ _ => rfl)) pe_str (nomark _)) (pw_and1 (pt_cmpR (op_neD hr.units) (pe_call G1 (hr.mono (by decide)) (by rfl) D1.g D1.F.kp D1.b .nil pass0 (pa_cons (pe_ix ix_list (pv 7) pe_int (fun _ _ => rfl)) (pa_cons (pe_ix ix_list (pv 2) pe_int (fun _ _ => rfl)) pa_nil))) (pe_lst pa_nil) (nomark _)))))) (pss_one (ps_ret pe_bl)) pss_nil))))))
      (pss_one (ps_ret (pe_cmpR op_eq (pe_callB (call_show hq2 hr.units) (by rfl) mrepr (by decide +kernel) (pa_cons (pv 0) pa_nil)) (pv 1) (nomark _))))))))))), ?_⟩
    have good : t.Good := ⟨tok, ti, by omega, by omega, by omega⟩
    have sT := ((Mx.shows tok).up h4 (Nat.le_refl _)).shows (by decide) (by omega)
    refine ⟨_, rfl, u, t.toD, rfl, hu1, sT.ok, sT.nd, sT.dp, sT.sz, _, rfl, (by show 0 ≤ sizeLine; decide), fun e0 n0 => ?_⟩
    have s0 := Same.new (o := .tup []) n0
    refine ⟨u, t, e0, [], rfl, Dp.same s0 hu1, tok, ti, by omega, by omega, SqT.of upd_same, by show 0 + t.height ≤ 12; omega, fun H1 r s01 hr => ⟨_, _, rfl, ?_⟩⟩
    have s1 := s0.trans s01
    have t1 := hT.ext s1
    have hu2 := dp_same hu1 s1
    have hD : Dp K H1 (.ref r) (dueM t) := by
      unfold dueM
      cases e : t.sh [] with
      | inl zs =>
        rw [e] at hr
        obtain ⟨q, h1, h2⟩ := (show ∃ q, SqL K H1 r [V.ref q] ∧ ShZ K H1 q zs from hr)
        exact .lst h1 (.cons h2.sh.dp .nil)
      | inr f =>
        rw [e] at hr
        obtain ⟨q, h1, h2⟩ := (show ∃ q, SqT K H1 r [V.str "mix", V.ref q] ∧ SqT K H1 q (f.map V.int) from hr)
        exact .tup h1 (.cons (.str _) (.cons (.tup h2 (dpInts K _ f)) .nil))
    refine of_cut t1 rfl hu2 good fun y1 H2 e2 t2 d1 => ?_
    refine of_cut t2 rfl (dp_ext hu2 e2) good fun y2 H3 e3 t3 d2 => ⟨(by show 2 ≤ sizeLine; decide), fun l3 n3 => ?_⟩
    have k3 := Same.new (o := .lst [V.ref y1, V.ref y2]) n3
    have sM := dueM_shows good
    have sP : Shows (.list [dueM t, dueM t]) := (Sh.lst (sM.consL (sM.consL (.nil 4)))).shows (by decide) (by omega)
    refine ⟨.ref l3, .list [dueM t, dueM t], rfl, .lst (SqL.of upd_same) (.cons (dp_same (dp_ext d1 e3) k3) (.cons (dp_same d2 k3) .nil)), sP.ok, sP.nd, sP.dp, sP.sz, ?_⟩
    have e13 : ExtN H1 (upd H3 l3 (.lst [V.ref y1, V.ref y2])) := (e2.trans e3).trans (.of k3)
    have t4 := t3.ext k3
    generalize upd H3 l3 (.lst [V.ref y1, V.ref y2]) = H4 at *
    refine ⟨_, rfl, _, rfl, (by show 2 ≤ sizeLine; decide), fun l4 n4 => ?_⟩
    have k4 := Same.new (o := .lst [V.ref r, V.ref r]) n4
    have hD5 := dp_same (dp_ext hD e13) k4
    refine ⟨.ref l4, .list [dueM t, dueM t], rfl, .lst (SqL.of upd_same) (.cons hD5 (.cons hD5 .nil)), sP.ok, sP.nd, sP.dp, sP.sz, rfl, _, rfl, ?_⟩
    have e15 := e13.trans (.of k4)
    have t5 := t4.ext k4
    generalize upd H4 l4 (.lst [V.ref r, V.ref r]) = H5 at *
    refine iteFe (by simp) ?_
    have hu5 := dp_ext hu2 e15
    refine ⟨_, rfl, u, t, rfl, hu5, fun H6 p6 s6 h6 => ?_⟩
    have e16 := e15.trans (.of s6)
    have t6 := t5.ext s6
    have hu6 := dp_same hu5 s6
    have few : t.kids.length ≤ 2 := by cases t <;> simp [Mx.kids]
    obtain ⟨a, xs, eu, hs, hx⟩ := mx_at hu6
    refine ⟨p6, rfl, ⟨_, h6⟩, fun L nL => lc_it (walk_tup (K := K) (a := p6) (xs := (t.kids.map fun k => (k.1 : Int)).map V.int)) (fun i H' => ∃ us, H' L = some (.lst us) ∧ Same H6 H' ∧ DpAll K H' us ((t.kids.take i).map fun k => k.2.toD)) ⟨[], upd_same, Same.new nL, .nil⟩ (fun i H' _ ⟨_, _, s, _⟩ => s.tup h6) ?_ ?_⟩
    · rintro i x H7 H8 hi ⟨us, h7, s7, c7⟩ ⟨rfl, hx0⟩
      rw [List.getElem?_map, List.getElem?_map] at hx0
      obtain ⟨z, hz, rfl⟩ := Option.map_eq_some_iff.mp hx0
      obtain ⟨kd, hk, rfl⟩ := Option.map_eq_some_iff.mp hz
      have mem : kd ∈ t.kids := List.mem_of_getElem? hk
      have hx56 := DpAll.same s7 hx
      have kat := WTree.kids_at t kd mem
      obtain ⟨child, hc, dc⟩ := DpAll.at (K := K) (H := H8) (vs := .str t.word :: xs) (ds := .str t.word :: t.rest) (.cons (.str _) hx56) kat
      have lu := c7.len
      rw [List.length_map, List.length_take] at lu
      refine ⟨rfl, ?_⟩
      dsimp only [tYes]
      rw [if_pos rfl]
      refine ⟨_, rfl, _, rfl, a, _, (kd.1 : Int), child, eu, rfl, s7.tup hs, atI_nat hc, us, h7, small1000 (by omega), us ++ [child], upd_same, same_upd nL s7, ?_⟩
      rw [take_snoc hk, List.map_append]
      refine DpAll.tk (tk_lst h7) ?_ (DpAll.app c7 (.cons dc .nil))
      rw [← List.map_append]
      exact flatKidsM _
    rintro H7 ⟨us, h7, s7, c7⟩
    rw [List.length_map, List.length_map, List.take_length] at c7
    refine ⟨L, us, rfl, .inl ⟨SqL.of h7, fun p8 n8 => ?_⟩⟩
    have k8 := s7.trans (Same.new (o := .tup us) n8)
    have hin : Dp K (upd H7 p8 (.tup us)) (.ref p8) (.tuple (t.kids.map fun k => k.2.toD)) := .tup (SqT.of upd_same) (DpAll.same (Same.new n8) c7)
    generalize upd H7 p8 (.tup us) = H8 at *
    have e18 := e16.trans (.of k8)
    have t8 := t6.ext k8
    refine need_cut t8 rfl (dp_same hu6 k8) good fun y3 H9 e9 t9 d3 => ?_
    refine parts_cut t9 rfl (dp_ext (dp_same hu6 k8) e9) good fun y4 HA eA tA d4 => ⟨(by show 2 ≤ sizeLine; decide), fun l5 n5 => ?_⟩
    have kB := Same.new (o := .lst [V.ref y3, V.ref y4]) n5
    have hto : Dp K (upd HA l5 (.lst [V.ref y3, V.ref y4])) (.ref l5) (.list [dueN t, dueP t]) := .lst (SqL.of upd_same) (.cons (dp_same (dp_ext d3 eA) kB) (.cons (dp_same d4 kB) .nil))
    have e8B := (e9.trans eA).trans (.of kB)
    have tB := tA.ext kB
    generalize upd HA l5 (.lst [V.ref y3, V.ref y4]) = HB at *
    have e1B := e18.trans e8B
    have hinB := dp_ext hin e8B
    have huB := dp_ext hu2 e1B
    have hDB := dp_ext hD e1B
    cases e : t.sh [] with
    | inr f =>
      have eM : dueM t = badM f := by unfold dueM; rw [e]
      have eN : dueN t = badM f := by unfold dueN; rw [e]
      have eP : dueP t = badM f := by unfold dueP; rw [e]
      rw [eM] at hDB sP
      rw [eN, eP] at hto
      have tyB : TyX K HB (.ref r) (.type "tuple") := hDB.ty
      refine ⟨_, rfl, _, _, _, _, true, rfl, .ty _, tyB, kit_ty (a := "tuple") (b := "tuple") (by decide +kernel), _, rfl, iteT ?_⟩
      refine ⟨_, rfl, .ref l5, .list [badM f, badM f], rfl, hto, sP.ok, sP.nd, sP.dp, sP.sz, _, rfl, _, rfl, (by show 2 ≤ sizeLine; decide), fun l6 n6 => ?_⟩
      have k6 := Same.new (o := .lst [V.ref r, V.ref r]) n6
      have hD6 := dp_same hDB k6
      refine ⟨.ref l6, .list [badM f, badM f], rfl, .lst (SqL.of upd_same) (.cons hD6 (.cons hD6 .nil)), sP.ok, sP.nd, sP.dp, sP.sz, eq_str ?_⟩
      refine ⟨_, rfl, iteT ⟨_, rfl, u, t.toD, rfl, dp_same huB k6, sT.ok, sT.nd, sT.dp, sT.sz, _, rfl, eq_str ?_⟩⟩
      exact k _ ((ExtN.of s1).trans (e1B.trans (.of k6))) (tB.ext k6)
    | inl zs =>
      have eM : dueM t = .list [shD zs] := by unfold dueM; rw [e]
      have eN : dueN t = .list [t.toD] := by unfold dueN; rw [e]
      have eP : dueP t = .list [.tuple (t.kids.map fun k => k.2.toD)] := by unfold dueP; rw [e]
      rw [eM] at hDB
      rw [eN, eP] at hto
      have tyB : TyX K HB (.ref r) (.type "list") := hDB.ty
      refine ⟨_, rfl, _, _, _, _, false, rfl, .ty _, tyB, kit_ty (a := "list") (b := "tuple") (by decide +kernel), _, rfl, iteF ?_⟩
      have sKid : ShL 4 (t.kids.length * 1501) (t.kids.map fun k => k.2.toD) := by
        have z := ShL.all (dp := 4) (w := 1500) (ds := t.kids.map fun k => k.2.toD) fun d hd => by
          obtain ⟨kd, hk, rfl⟩ := List.mem_map.mp hd
          have kok : kd.2.Ok := WTree.kids_ok t tok kd hk
          have kh : kd.2.height < t.height := WTree.kids_height t kd hk
          have kw : kd.2.words < t.words := Mx.kid_words t kd hk
          exact (Mx.shows kok).up (by omega) (by omega)
        rw [List.length_map] at z
        exact z
      generalize (t.kids.map fun k => k.2.toD) = kds at *
      have sIn : Sh 6 3500 (.list [.tuple kds]) := ((Sh.lst (dp := 5) ((Sh.tup (dp := 4) sKid).consL (.nil 5)))).up (Nat.le_refl _) (by omega)
      have sMx : Sh 6 1600 (.list [t.toD]) := (Sh.lst (dp := 5) (((Mx.shows tok).up (show t.height ≤ 5 by omega) (Nat.le_refl _)).consL (.nil 5))).up (Nat.le_refl _) (by omega)
      have sQ : Shows (.list [.list [t.toD], .list [.tuple kds]]) := (Sh.lst (sMx.consL (sIn.consL (.nil 6)))).shows (by decide) (by omega)
      have hz0 : ∃ q, SqL K HB r [V.ref q] ∧ ShZ K HB q zs := by
        rw [e] at hr
        obtain ⟨q, h1, h2⟩ := (show ∃ q, SqL K H1 r [V.ref q] ∧ ShZ K H1 q zs from hr)
        exact ⟨q, seq_ext e1B h1, h2.ext e1B⟩
      obtain ⟨qz, hrz, hqz⟩ := hz0
      refine ⟨_, rfl, .ref l5, .list [.list [t.toD], .list [.tuple kds]], rfl, hto, sQ.ok, sQ.nd, sQ.dp, sQ.sz, _, rfl, (by show 1 ≤ sizeLine; decide), fun l6 n6 => ⟨_, rfl, (by show 1 ≤ sizeLine; decide), fun l7 n7 => ⟨(by show 2 ≤ sizeLine; decide), fun l8 n8 => ?_⟩⟩⟩
      have k6 := Same.new (o := .lst [u]) n6
      have k7 := Same.new (o := .lst [V.ref p8]) n7
      have k8 := Same.new (o := .lst [V.ref l6, V.ref l7]) n8
      have kC := (k6.trans k7).trans k8
      refine ⟨.ref l8, .list [.list [t.toD], .list [.tuple kds]], rfl, .lst (SqL.of upd_same) (.cons (dp_same (.lst (SqL.of upd_same) (.cons (dp_same huB k6) .nil)) (k7.trans k8)) (.cons (dp_same (.lst (SqL.of upd_same) (.cons (dp_same hinB (k6.trans k7)) .nil)) k8) .nil)), sQ.ok, sQ.nd, sQ.dp, sQ.sz, ne_str ⟨_, rfl, iteF ?_⟩⟩
      have e1C := e1B.trans (.of kC)
      have tC_ := tB.ext kC
      have huC := dp_same huB kC
      have hrC := kC.seq hrz
      have hqC := hqz.same kC
      generalize (upd (upd (upd HB l6 (.lst [u])) l7 (.lst [V.ref p8])) l8 (.lst [V.ref l6, V.ref l7])) = HC at *
      refine ⟨_, rfl, _, rfl, (by show 5 ≤ sizeLine; decide), fun fa na => ⟨_, rfl, _, rfl, (by show 4 ≤ sizeLine; decide), fun fb nb => ⟨(by show 2 ≤ sizeLine; decide), fun fc nc => ?_⟩⟩⟩
      have ka := Same.new (o := .tup [V.str "spread", u, V.int 1, V.int (-3), V.int 4]) na
      have kb := Same.new (o := .tup [V.str "drawn", u, V.int (-2), V.int 3]) nb
      have kc := Same.new (o := .tup [V.ref fa, V.ref fb]) nc
      have kD := (ka.trans kb).trans kc
      have dfa : Dp K (upd (upd (upd HC fa (.tup [V.str "spread", u, V.int 1, V.int (-3), V.int 4])) fb (.tup [V.str "drawn", u, V.int (-2), V.int 3])) fc (.tup [V.ref fa, V.ref fb])) (.ref fa) (Mx.toD (.spread_ t 1 (-3) 4)) := dp_same (.tup (SqT.of upd_same) (.cons (.str _) (.cons (dp_same huC ka) (.cons (.int _) (.cons (.int _) (.cons (.int _) .nil)))))) (kb.trans kc)
      have dfb : Dp K (upd (upd (upd HC fa (.tup [V.str "spread", u, V.int 1, V.int (-3), V.int 4])) fb (.tup [V.str "drawn", u, V.int (-2), V.int 3])) fc (.tup [V.ref fa, V.ref fb])) (.ref fb) (Mx.toD (.drawn_ t (-2) 3)) := dp_same (.tup (SqT.of upd_same) (.cons (.str _) (.cons (dp_same huC (ka.trans kb)) (.cons (.int _) (.cons (.int _) .nil))))) kc
      have hfc : SqT K (upd (upd (upd HC fa (.tup [V.str "spread", u, V.int 1, V.int (-3), V.int 4])) fb (.tup [V.str "drawn", u, V.int (-2), V.int 3])) fc (.tup [V.ref fa, V.ref fb])) fc [V.ref fa, V.ref fb] := SqT.of upd_same
      have e1D := e1C.trans (.of kD)
      have tD_ := tC_.ext kD
      have huD := dp_same huC kD
      have hrD := kD.seq hrC
      have hqD := hqC.same kD
      generalize (upd (upd (upd HC fa (.tup [V.str "spread", u, V.int 1, V.int (-3), V.int 4])) fb (.tup [V.str "drawn", u, V.int (-2), V.int 3])) fc (.tup [V.ref fa, V.ref fb])) = HD at *
      have sz := Mx.sh_shr e
      have az : AllF 90 zs := (Mx.sh_sz tok ti e).all (by omega)
      clear hto hinB sQ sIn sMx sKid
      refine ⟨fc, rfl, ⟨_, hfc⟩, for_tup (K := K) (a := fc) (xs := [V.ref fa, V.ref fb]) (fun i σ H' => ∃ v6 v7, σ = [some u, some (.str t.toD.shown), some (.ref r), some (.ref p8), none, some (.ref l5), v6, v7] ∧ Same HD H') ⟨none, none, rfl, Same.refl _⟩ (fun i σ H' _ ⟨_, _, _, s⟩ => s.tup hfc) ?_ ?_⟩
      · rintro i x σ H' hi ⟨v6, v7, rfl, sl⟩
        rcases i with _ | _ | i
        · cases hi
          have dF : Dp K H' (.ref fa) (Mx.toD (.spread_ t 1 (-3) 4)) := dp_same dfa sl
          have gd : Mx.Good (.spread_ t 1 (-3) 4) := Mx.far_good tok ti dB vB w15 h4 0
          obtain ⟨ax, xs, ea, hs, hx⟩ := mx_at dF
          cases ea
          have hs : SqT K H' fa (V.str "spread" :: xs) := hs
          refine ⟨_, rfl, (by show 0 ≤ sizeLine; decide), fun pe ne => ?_⟩
          have ke := Same.new (o := .tup []) ne
          refine ⟨.ref fa, (.spread_ t 1 (-3) 4), pe, [], rfl, dp_same dF ke, gd.1, gd.2.1, gd.2.2.1, gd.2.2.2.2, SqT.of upd_same, (by have := gd.2.2.2.2; show 0 + Mx.height (.spread_ t 1 (-3) 4) ≤ 12; omega), fun H2 wr s2 hw => ?_⟩
          have s12 := ke.trans s2
          cases ew : Mx.sh (.spread_ t 1 (-3) 4) [] with
          | inr f =>
            rw [ew] at hw
            obtain ⟨qf, hw1, hw2⟩ := (show ∃ q, SqT K H2 wr [V.str "mix", V.ref q] ∧ SqT K H2 q (f.map V.int) from hw)
            have ty : TyX K H2 (.ref wr) (.type "tuple") := TyX.of_tup hw1
            refine ⟨_, rfl, _, _, _, _, false, rfl, .ty _, ty, kit_ty (a := "tuple") (b := "list") (by decide +kernel), _, rfl, iteF ?_⟩
            refine ⟨_, rfl, _, _, _, _, false, rfl, .ty _, ty, kit_ty (a := "tuple") (b := "list") (by decide +kernel), _, rfl, iteF ?_⟩
            refine ⟨_, rfl, _, _, _, _, false, rfl, .ty _, ty, kit_ty (a := "tuple") (b := "list") (by decide +kernel), _, rfl, iteF ?_⟩
            exact ⟨_, _, rfl, sl.trans s12⟩
          | inl ws =>
            rw [ew] at hw
            obtain ⟨qw, hw1, hw2⟩ := (show ∃ q, SqL K H2 wr [V.ref q] ∧ ShZ K H2 q ws from hw)
            have ty : TyX K H2 (.ref wr) (.type "list") := TyX.of_lst hw1
            have sw := Mx.sh_shr ew
            have aw : AllF 90 ws := (Mx.sh_sz gd.1 gd.2.1 ew).all (by have := gd.2.2.1; omega)
            refine ⟨_, rfl, _, _, _, _, true, rfl, .ty _, ty, kit_ty (a := "list") (b := "list") (by decide +kernel), _, rfl, iteT ?_⟩
            refine ⟨_, rfl, .ref fa, (.spread_ t 1 (-3) 4), rfl, dp_same dF s12, gd, fun H3 s3 => ⟨fun f ef => ?_, fun ws2 ew2 c hc => ?_⟩⟩
            · rw [ew] at ef
              cases ef
            have ews : ws2 = ws := by
              rw [ew] at ew2
              cases ew2
              rfl
            rw [ews] at hc
            refine ⟨_, rfl, wr, _, 0, _, rfl, rfl, s3.seq hw1, atI_nat (j := 0) rfl, _, _, hc.sh.dp, (hw2.same s3).sh.dp, shShaped _, shShaped _, _, rfl, iteFe (by rw [eqvSh, decide_eq_true rfl]; rfl) ?_⟩
            replace hw1 := s3.seq hw1
            replace hw2 := hw2.same s3
            have ty : TyX K H3 (.ref wr) (.type "list") := TyX.of_lst hw1
            have s13 := s12.trans s3
            have hr2 := (sl.trans s13).seq hrD
            have hz2 := hqD.same (sl.trans s13)
            have hs2 := s13.tup hs
            refine ⟨_, rfl, _, _, _, _, true, rfl, .ty _, ty, kit_ty (a := "list") (b := "list") (by decide +kernel), _, rfl, iteT ?_⟩
            refine ⟨_, rfl, fa, _, 0, _, rfl, rfl, hs2, atI_nat (j := 0) rfl, rfl, _, rfl, iteTe (by decide +kernel) ?_⟩
            refine ⟨_, rfl, r, _, 0, _, rfl, rfl, hr2, atI_nat (j := 0) rfl, _, rfl, wr, _, 0, _, rfl, rfl, hw1, atI_nat (j := 0) rfl, qz, qw, zs, ws, rfl, hz2, hw2, pl_of sz, pl_of sw, az, aw, by have := sz.1; omega, by have := sw.1; omega, fun H5 lr ds s5 hl shp iff => ⟨(by show 0 ≤ sizeLine; decide), fun nl nnl => ?_⟩⟩
            obtain rfl := iff.mpr (far_spr e ew)
            have kl := Same.new (o := .lst []) nnl
            refine ⟨_, _, dp_same hl kl, .lst (SqL.of upd_same) .nil, shp, shp, _, rfl, iteFe (by decide +kernel) ?_⟩
            have s14 := s13.trans (s5.trans kl)
            generalize upd H5 nl (.lst []) = H6 at *
            have ty : TyX K H6 (.ref wr) (.type "list") := TyX.of_lst ((s5.trans kl).seq hw1)
            have hs2 := (s5.trans kl).tup hs2
            refine ⟨_, rfl, _, _, _, _, true, rfl, .ty _, ty, kit_ty (a := "list") (b := "list") (by decide +kernel), _, rfl, iteT ?_⟩
            refine ⟨_, rfl, fa, _, 0, _, rfl, rfl, hs2, atI_nat (j := 0) rfl, rfl, _, rfl, iteFe (by decide +kernel) ?_⟩
            exact ⟨_, _, rfl, sl.trans s14⟩
        · cases hi
          have dF : Dp K H' (.ref fb) (Mx.toD (.drawn_ t (-2) 3)) := dp_same dfb sl
          have gd : Mx.Good (.drawn_ t (-2) 3) := Mx.far_good tok ti dB vB w15 h4 1
          obtain ⟨ax, xs, ea, hs, hx⟩ := mx_at dF
          cases ea
          have hs : SqT K H' fb (V.str "drawn" :: xs) := hs
          refine ⟨_, rfl, (by show 0 ≤ sizeLine; decide), fun pe ne => ?_⟩
          have ke := Same.new (o := .tup []) ne
          refine ⟨.ref fb, (.drawn_ t (-2) 3), pe, [], rfl, dp_same dF ke, gd.1, gd.2.1, gd.2.2.1, gd.2.2.2.2, SqT.of upd_same, (by have := gd.2.2.2.2; show 0 + Mx.height (.drawn_ t (-2) 3) ≤ 12; omega), fun H2 wr s2 hw => ?_⟩
          have s12 := ke.trans s2
          cases ew : Mx.sh (.drawn_ t (-2) 3) [] with
          | inr f =>
            rw [ew] at hw
            obtain ⟨qf, hw1, hw2⟩ := (show ∃ q, SqT K H2 wr [V.str "mix", V.ref q] ∧ SqT K H2 q (f.map V.int) from hw)
            have ty : TyX K H2 (.ref wr) (.type "tuple") := TyX.of_tup hw1
            refine ⟨_, rfl, _, _, _, _, false, rfl, .ty _, ty, kit_ty (a := "tuple") (b := "list") (by decide +kernel), _, rfl, iteF ?_⟩
            refine ⟨_, rfl, _, _, _, _, false, rfl, .ty _, ty, kit_ty (a := "tuple") (b := "list") (by decide +kernel), _, rfl, iteF ?_⟩
            refine ⟨_, rfl, _, _, _, _, false, rfl, .ty _, ty, kit_ty (a := "tuple") (b := "list") (by decide +kernel), _, rfl, iteF ?_⟩
            exact ⟨_, _, rfl, sl.trans s12⟩
          | inl ws =>
            rw [ew] at hw
            obtain ⟨qw, hw1, hw2⟩ := (show ∃ q, SqL K H2 wr [V.ref q] ∧ ShZ K H2 q ws from hw)
            have ty : TyX K H2 (.ref wr) (.type "list") := TyX.of_lst hw1
            have sw := Mx.sh_shr ew
            have aw : AllF 90 ws := (Mx.sh_sz gd.1 gd.2.1 ew).all (by have := gd.2.2.1; omega)
            refine ⟨_, rfl, _, _, _, _, true, rfl, .ty _, ty, kit_ty (a := "list") (b := "list") (by decide +kernel), _, rfl, iteT ?_⟩
            refine ⟨_, rfl, .ref fb, (.drawn_ t (-2) 3), rfl, dp_same dF s12, gd, fun H3 s3 => ⟨fun f ef => ?_, fun ws2 ew2 c hc => ?_⟩⟩
            · rw [ew] at ef
              cases ef
            have ews : ws2 = ws := by
              rw [ew] at ew2
              cases ew2
              rfl
            rw [ews] at hc
            refine ⟨_, rfl, wr, _, 0, _, rfl, rfl, s3.seq hw1, atI_nat (j := 0) rfl, _, _, hc.sh.dp, (hw2.same s3).sh.dp, shShaped _, shShaped _, _, rfl, iteFe (by rw [eqvSh, decide_eq_true rfl]; rfl) ?_⟩
            replace hw1 := s3.seq hw1
            replace hw2 := hw2.same s3
            have ty : TyX K H3 (.ref wr) (.type "list") := TyX.of_lst hw1
            have s13 := s12.trans s3
            have hr2 := (sl.trans s13).seq hrD
            have hz2 := hqD.same (sl.trans s13)
            have hs2 := s13.tup hs
            refine ⟨_, rfl, _, _, _, _, true, rfl, .ty _, ty, kit_ty (a := "list") (b := "list") (by decide +kernel), _, rfl, iteT ?_⟩
            refine ⟨_, rfl, fb, _, 0, _, rfl, rfl, hs2, atI_nat (j := 0) rfl, rfl, _, rfl, iteFe (by decide +kernel) ?_⟩
            refine ⟨_, rfl, _, _, _, _, true, rfl, .ty _, ty, kit_ty (a := "list") (b := "list") (by decide +kernel), _, rfl, iteT ?_⟩
            refine ⟨_, rfl, fb, _, 0, _, rfl, rfl, hs2, atI_nat (j := 0) rfl, rfl, _, rfl, iteTe (by decide +kernel) ?_⟩
            refine ⟨_, rfl, wr, _, 0, _, rfl, rfl, hw1, atI_nat (j := 0) rfl, _, rfl, r, _, 0, _, rfl, rfl, hr2, atI_nat (j := 0) rfl, qw, qz, ws, zs, rfl, hw2, hz2, pl_of sw, pl_of sz, aw, az, by have := sw.1; omega, by have := sz.1; omega, fun H5 lr ds s5 hl shp iff => ⟨(by show 0 ≤ sizeLine; decide), fun nl nnl => ?_⟩⟩
            obtain rfl := iff.mpr (far_drw e ew)
            have kl := Same.new (o := .lst []) nnl
            refine ⟨_, _, dp_same hl kl, .lst (SqL.of upd_same) .nil, shp, shp, _, rfl, iteFe (by decide +kernel) ?_⟩
            exact ⟨_, _, rfl, sl.trans (s13.trans (s5.trans kl))⟩
        · cases hi
      · rintro σ H' ⟨v6, v7, rfl, sl⟩
        refine ⟨_, rfl, u, t.toD, rfl, dp_same huD sl, sT.ok, sT.nd, sT.dp, sT.sz, _, rfl, eq_str ?_⟩
        exact k _ ((ExtN.of s1).trans (e1D.trans (.of sl))) (tD_.ext sl)
end
end CS
set_option Elab.async false
set_option maxRecDepth 100000
set_option maxHeartbeats 4000000
set_option linter.unusedVariables false
set_option pp.maxSteps 4000
/-! the mixes by hand, and their shares -/
namespace CS
open PySem L2
/-! a share's gathering that is looked at by sorting in -/
def insI (k : Int) : List Int → List Int
  | [] => [k]
  | a :: r => if k ≤ a then k :: a :: r else a :: insI k r
def srtI : List Int → List Int
  | [] => []
  | a :: r => insI a (srtI r)
theorem insI_perm (k : Int) : ∀ r : List Int, (insI k r).Perm (k :: r)
  | [] => .refl _
  | a :: r => by
    unfold insI
    split
    · exact .refl _
    · exact ((insI_perm k r).cons a).trans (.swap k a r)
theorem srtI_perm : ∀ r : List Int, (srtI r).Perm r
  | [] => .refl _
  | a :: r => (insI_perm a (srtI r)).trans ((srtI_perm r).cons a)
theorem insI_srt (k : Int) : ∀ {r : List Int}, r.Pairwise (· ≤ ·) → (insI k r).Pairwise (· ≤ ·)
  | [], _ => by unfold insI; simp
  | a :: r, h => by
    unfold insI
    rw [List.pairwise_cons] at h
    split
    · next c => exact List.pairwise_cons.mpr ⟨fun b hb => (List.mem_cons.mp hb).elim (fun e => e ▸ c) fun m => Int.le_trans c (h.1 b m), List.pairwise_cons.mpr h⟩
    · next c =>
      refine List.pairwise_cons.mpr ⟨fun b hb => ?_, insI_srt k h.2⟩
      rcases List.mem_cons.mp ((insI_perm k r).mem_iff.mp hb) with rfl | m
      · omega
      · exact h.1 b m
theorem srtI_srt : ∀ r : List Int, (srtI r).Pairwise (· ≤ ·)
  | [] => .nil
  | a :: r => insI_srt a (srtI_srt r)
def gI (ps : Shx) : Shx := ((srtI ((gat [] ps).map (·.1))).filter fun k => decide (lk (gat [] ps) k ≠ (0, 1))).map fun k => (k, lk (gat [] ps) k)
theorem gI_eq (ps : Shx) : gS ps = gI ps := (gS_eq (isS_of (srtI_perm _) (gat_nodup ps [] .nil) (srtI_srt _))).symm
def Mx.mdI : Mx → Shx → Shx → Option Shx
  | .point_ m a b, _, _ => some [(m, low a b)]
  | .none_, _, _ => some []
  | .mixed_ _ _, xs, ys => some (gI (xs ++ ys))
  | .moved_ _ n, xs, _ => some (mvd n xs)
  | .scaled_ _ a b, xs, _ => some (tms (low a b) xs)
  | .spread_ _ m l h, xs, _ => some (gI (xs ++ sprM xs m l h))
  | .drawn_ _ l h, xs, _ => if innM xs l h = [] then some xs else if (meanM xs l h).2 = 1 then some (gI (outM xs l h ++ [((meanM xs l h).1, ftot (innM xs l h))])) else none
theorem Mx.mdI_eq (t : Mx) (xs ys : Shx) : t.md xs ys = t.mdI xs ys := by
  cases t <;> simp only [Mx.md, Mx.mdI, gI_eq]
def Mx.shI : Mx → List Int → Sum Shx (List Int)
  | .mixed_ s t, p => match s.shI (p ++ [1]) with
    | .inr f => .inr f
    | .inl xs => match t.shI (p ++ [2]) with
      | .inr f => .inr f
      | .inl ys => resM (Mx.mdI (.mixed_ s t) xs ys) p
  | .moved_ s n, p => match s.shI (p ++ [1]) with
    | .inr f => .inr f
    | .inl xs => resM (Mx.mdI (.moved_ s n) xs []) p
  | .scaled_ s a b, p => match s.shI (p ++ [1]) with
    | .inr f => .inr f
    | .inl xs => resM (Mx.mdI (.scaled_ s a b) xs []) p
  | .spread_ s m l h, p => match s.shI (p ++ [1]) with
    | .inr f => .inr f
    | .inl xs => resM (Mx.mdI (.spread_ s m l h) xs []) p
  | .drawn_ s l h, p => match s.shI (p ++ [1]) with
    | .inr f => .inr f
    | .inl xs => resM (Mx.mdI (.drawn_ s l h) xs []) p
  | t, p => resM (t.mdI [] []) p
theorem Mx.shI_eq (t : Mx) : ∀ p, t.sh p = t.shI p := by
  induction t with
  | point_ m a b => intro p; rfl
  | none_ => intro p; rfl
  | mixed_ s u i1 i2 => intro p; simp only [Mx.sh, Mx.shI, i1, i2, Mx.mdI_eq]; all_goals (cases s.shI (p ++ [1]) <;> cases u.shI (p ++ [2]) <;> rfl)
  | moved_ s n i1 => intro p; simp only [Mx.sh, Mx.shI, i1, Mx.mdI_eq]; all_goals (cases s.shI (p ++ [1]) <;> rfl)
  | scaled_ s a b i1 => intro p; simp only [Mx.sh, Mx.shI, i1, Mx.mdI_eq]; all_goals (cases s.shI (p ++ [1]) <;> rfl)
  | spread_ s a b c i1 => intro p; simp only [Mx.sh, Mx.shI, i1, Mx.mdI_eq]; all_goals (cases s.shI (p ++ [1]) <;> rfl)
  | drawn_ s a b i1 => intro p; simp only [Mx.sh, Mx.shI, i1, Mx.mdI_eq]; all_goals (cases s.shI (p ++ [1]) <;> rfl)
def oneM : Mx := .point_ 2 3 6
def twoM : Mx := .point_ (-1) 4 2
def bothM : Mx := .mixed_ oneM twoM
def pairM : Mx := .mixed_ (.point_ 0 1 2) (.point_ 3 1 1)
def halfM : Mx := .drawn_ (.mixed_ (.point_ 0 1 1) (.point_ 1 1 1)) 0 1
def manyM : Nat → Mx
  | 0 => .none_
  | i + 1 => .mixed_ (.spread_ (.point_ (10 * (i : Int)) 1 1) (10 * (i : Int)) (10 * (i : Int) - 1) (10 * (i : Int) + 1)) (manyM i)
def dueH : Shx := [(-1, (2, 1)), (2, (1, 2))]
/-- the rows; none: what stands for both -/
def rowsM : List (Mx × Option Shx) := [(oneM, some [(2, (1, 2))]), (twoM, some [(-1, (2, 1))]), (.none_, some []), (bothM, some dueH), (.mixed_ oneM oneM, some [(2, (1, 1))]), (.moved_ bothM (-99), some [(-100, (2, 1)), (-97, (1, 2))]),
  (.scaled_ bothM 2 3, some [(-1, (4, 3)), (2, (1, 3))]), (.mixed_ oneM .none_, some [(2, (1, 2))]), (.spread_ bothM 2 0 8, some [(-1, (2, 1)), (0, (3, 8)), (8, (1, 8))]), (.spread_ bothM 1 0 8, none),
  (.spread_ bothM 2 (-1) 5, some [(-1, (9, 4)), (5, (1, 4))]), (.drawn_ bothM 0 9, none), (.drawn_ bothM 3 9, none), (.drawn_ pairM 0 3, some [(2, (3, 2))])]
instance {n : Int} : Decidable (Mx.okX n) := by unfold Mx.okX; infer_instance
instance {n : Int} : Decidable (Mx.okA n) := by unfold Mx.okA; infer_instance
def Mx.okB : Mx → Bool
  | .point_ m a b => decide (Mx.okX m) && decide (Mx.okA a) && decide (Mx.okA b)
  | .none_ => true
  | .mixed_ s t => s.okB && t.okB
  | .moved_ s n => s.okB && decide (-200 ≤ n) && decide (n ≤ 200)
  | .scaled_ s a b => s.okB && decide (Mx.okA a) && decide (Mx.okA b)
  | .spread_ s m l h => s.okB && decide (Mx.okX m) && decide (Mx.okX l) && decide (Mx.okX h) && decide (l < m) && decide (m < h)
  | .drawn_ s l h => s.okB && decide (Mx.okX l) && decide (Mx.okX h) && decide (l ≤ h)
def Mx.tinyB : Mx → Bool
  | .point_ _ a b => decide (a ≤ 8) && decide (b ≤ 8)
  | .none_ => true
  | .mixed_ s t => s.tinyB && t.tinyB
  | .moved_ s _ => s.tinyB
  | .scaled_ s a b => s.tinyB && decide (a ≤ 8) && decide (b ≤ 8)
  | .spread_ s _ _ _ => s.tinyB
  | .drawn_ s _ _ => s.tinyB
theorem Mx.ok_of {t : Mx} (h : t.okB = true) : t.Ok := by
  induction t <;> simp_all [Mx.okB, Mx.Ok]
theorem Mx.tiny_of {t : Mx} (h : t.tinyB = true) : t.tiny := by
  induction t <;> simp_all [Mx.tinyB, Mx.tiny]
def Mx.goodB (t : Mx) : Bool := t.okB && t.tinyB && decide (t.dB + t.vB ≤ 79) && decide (t.words ≤ 20) && decide (t.height ≤ 8)
theorem Mx.good_of {t : Mx} (h : t.goodB = true) : t.Good := by
  simp only [Mx.goodB, Bool.and_eq_true, decide_eq_true_eq] at h
  obtain ⟨⟨⟨⟨a, b⟩, c⟩, d⟩, e⟩ := h
  exact ⟨Mx.ok_of a, Mx.tiny_of b, c, d, e⟩
def rowOkM (p : Mx × Option Shx) : Bool := p.1.goodB && decide (p.1.shI [] = .inl (p.2.getD dueH))
theorem rows_okM : rowsM.all rowOkM = true := by decide +kernel
theorem half_sh : halfM.shI [] = .inr [] := by decide +kernel
theorem many_sh : ((manyM 4).shI []).elim (fun zs => zs.length) (fun _ => 0) = 8 := by decide +kernel
theorem far0 : (Mx.moved_ bothM 99).shI [] = .inr [] := by decide +kernel
theorem far1 : (Mx.drawn_ bothM (-1) 2).shI [] = .inr [] := by decide +kernel
theorem far2 : (Mx.mixed_ (.drawn_ bothM (-5) 5) (.moved_ oneM 200)).shI [] = .inr [1] := by decide +kernel
theorem far3 : (Mx.mixed_ oneM (.scaled_ (.moved_ oneM (-200)) 1 2)).shI [] = .inr [2, 1] := by decide +kernel
theorem far4 : (Mx.spread_ (manyM 4) 9 8 15).shI [] = .inr [] := by decide +kernel
theorem far5 : ((Mx.spread_ (manyM 4) 9 1 11).shI []).elim (fun zs => zs.length) (fun _ => 0) = 7 := by decide +kernel
theorem farM : (Mx.mixed_ (manyM 4) oneM).shI [] = .inr [] := by decide +kernel
theorem good_all : ([halfM, manyM 4, .moved_ bothM 99, .drawn_ bothM (-1) 2, .mixed_ (.drawn_ bothM (-5) 5) (.moved_ oneM 200), .mixed_ oneM (.scaled_ (.moved_ oneM (-200)) 1 2), .spread_ (manyM 4) 9 8 15, .spread_ (manyM 4) 9 1 11, .mixed_ (manyM 4) oneM] : List Mx).all Mx.goodB = true := by decide +kernel
end CS
set_option Elab.async false
set_option maxRecDepth 100000
set_option maxHeartbeats 4000000
set_option linter.unusedVariables false
/-! displays of data, with names in them that hold data -/
namespace CS
open PySem L2
theorem small_line {n : Nat} (h : n ≤ 1000) : n ≤ sizeLine := Nat.le_trans h (by decide)
/-- a state that news leave -/
def Stays (S : L2.St → Hp → Prop) : Prop := ∀ σ H H', S σ H → Same H H' → S σ H'
def tD (K : PySem.W.Frag) (S : L2.St → Hp → Prop) (d : PyData) : TE := fun σ H Q => S σ H ∧ ∀ H' v, Same H H' → Dp K H' v d → Q v H'
def tDs (K : PySem.W.Frag) (S : L2.St → Hp → Prop) (ds : List PyData) : TA := fun σ H Q => S σ H ∧ ∀ H' vs, Same H H' → DpAll K H' vs ds → Q vs H'
def tDL (K : PySem.W.Frag) (S : L2.St → Hp → Prop) (ds : List PyData) : TE := fun σ H Q => S σ H ∧ ∀ H' p vs, Same H H' → H' p = some (.lst vs) → DpAll K H' vs ds → Q (.ref p) H'
section
variable {X : Cx} {S : L2.St → Hp → Prop} {e : Expr} {es : List Expr} {d : PyData} {ds : List PyData} {pos : PySem.Pos} {k : Nat}
theorem pe_by {t t' : TE} (he : PE X e t) (h : ∀ σ H Q, t' σ H Q → t σ H Q) : PE X e t' := ⟨fun pins s σ H Q I q => he.run pins s σ H Q I (h σ H Q q)⟩
theorem pa_by {t t' : TA} (ha : PA X es t) (h : ∀ σ H Q, t' σ H Q → t σ H Q) : PA X es t' := ⟨fun pos pins s σ H Q I q => ha.run pos pins s σ H Q I (h σ H Q q)⟩
theorem d_int {i : Int} (he : PE X e (tC (.int i))) : PE X e (tD X.K S (.int i)) := pe_by he fun σ H Q q => q.2 H _ (Same.refl H) (.int i)
theorem d_neg {i : Int} (he : PE X e (tC (.int i))) : PE X (.UnaryOp .USub e pos) (tD X.K S (.int (-i))) := pe_by (pe_un un_neg he) fun σ H Q q => ⟨i, rfl, q.2 H _ (Same.refl H) (.int (-i))⟩
theorem d_str {x : Str} (he : PE X e (tC (.str x))) : PE X e (tD X.K S (.str x)) := pe_by he fun σ H Q q => q.2 H _ (Same.refl H) (.str x)
theorem d_var {i : Nat} (he : PE X e (tVar i)) (hS : ∀ σ H, S σ H → ∃ v, σ[i]? = some (some v) ∧ Dp X.K H v d) : PE X e (tD X.K S d) := pe_by he fun σ H Q q => by
  obtain ⟨v, h1, h2⟩ := hS σ H q.1
  exact ⟨v, h1, q.2 H v (Same.refl H) h2⟩
theorem d_nil : PA X [] (tDs X.K S []) := pa_by pa_nil fun σ H Q q => q.2 H [] (Same.refl H) .nil
theorem d_cons (st : Stays S) (he : PE X e (tD X.K S d)) (ha : PA X es (tDs X.K S ds)) (hs : starEach (e :: es) X.env = (false, eval e X.env) :: starEach es X.env := by rfl) : PA X (e :: es) (tDs X.K S (d :: ds)) :=
  pa_by (pa_cons he ha hs) fun σ H Q q => ⟨q.1, fun H1 v s1 h1 => ⟨st _ _ _ q.1 s1, fun H2 vs s2 h2 => q.2 H2 _ (s1.trans s2) (.cons (h1.same s2) h2)⟩⟩
theorem d_tup (ha : PA X es (tDs X.K S ds)) (l : ds.length ≤ 1000) : PE X (.Tuple es k pos) (tD X.K S (.tuple ds)) :=
  pe_by (pe_tup ha) fun σ H Q q => ⟨q.1, fun H1 vs s1 hv => ⟨small_line (by rw [hv.len]; exact l), fun p np => q.2 _ _ (s1.trans (Same.new np)) (Dp.new_tup np hv)⟩⟩
theorem d_lst (ha : PA X es (tDs X.K S ds)) (l : ds.length ≤ 1000) : PE X (.List es pos) (tDL X.K S ds) :=
  pe_by (pe_lst ha) fun σ H Q q => ⟨q.1, fun H1 vs s1 hv => ⟨small_line (by rw [hv.len]; exact l), fun p np => q.2 _ p vs (s1.trans (Same.new np)) upd_same (hv.same (Same.new np))⟩⟩
theorem d_lstD (ha : PA X es (tDs X.K S ds)) (l : ds.length ≤ 1000) : PE X (.List es pos) (tD X.K S (.list ds)) := pe_by (d_lst ha l) fun σ H Q q => ⟨q.1, fun H' p vs s h hv => q.2 H' (.ref p) s (.lst (SqL.of h) hv)⟩
/-- (e, ) * 6 -/
theorem d_six (st : Stays S) {b : Expr} {n : Int} (he : PE X e (tD X.K S (.int n))) (hb : PE X b (tC (.int 6))) (hs : starEach [e] X.env = (false, eval e X.env) :: starEach [] X.env := by rfl) {pos2 : PySem.Pos} : PE X (.BinOp (.Tuple [e] k pos) .Mult b pos2) (tD X.K S (.tuple [.int n, .int n, .int n, .int n, .int n, .int n])) :=
  pe_by (pe_op op_repT (d_tup (d_cons st he d_nil hs) (show 1 ≤ 1000 by decide)) hb) fun σ H Q q => ⟨q.1, fun H' v s dv => by
    obtain ⟨a, xs, rfl, h, hx⟩ := dv.tup_inv
    obtain rfl := DpAll.of_ints (ns := [n]) hx
    exact ⟨a, 6, _, rfl, rfl, h, by simp, by decide, by decide, by simp, fun p np => q.2 _ (.ref p) (s.trans (Same.new np)) (.tup (SqT.of upd_same) (DpAll.ints [n, n, n, n, n, n]))⟩⟩
end
end CS
set_option Elab.async false
set_option maxRecDepth 100000
set_option maxHeartbeats 8000000
set_option linter.unusedVariables false
set_option pp.maxSteps 6000
/-! mixes by hand -/
namespace CS
open PySem L2 RZ LamX
def HM0 : L2.St → Hp → Prop := fun _ _ => True
def HMs (K : PySem.W.Frag) (ns : List (Nat × Mx)) : L2.St → Hp → Prop := fun σ H => ∀ p ∈ ns, ∃ v, σ[p.1]? = some (some v) ∧ Dp K H v p.2.toD
theorem stM0 : Stays HM0 := fun _ _ _ _ _ => trivial
theorem stM {K : PySem.W.Frag} {ns : List (Nat × Mx)} : Stays (HMs K ns) := fun σ H H' h s p hp => by
  obtain ⟨v, a, b⟩ := h p hp
  exact ⟨v, a, dp_same b s⟩
theorem hm_at {K : PySem.W.Frag} {ns : List (Nat × Mx)} {σ : L2.St} {H : Hp} {p : Nat × Mx} (h : HMs K ns σ H) (hp : p ∈ ns) : ∃ v, σ[p.1]? = some (some v) ∧ Dp K H v p.2.toD := h p hp
theorem d_non {X : Cx} {S : L2.St → Hp → Prop} {e : Expr} (he : PE X e (tC .non)) : PE X e (tD X.K S .none) := pe_by he fun σ H Q q => q.2 H _ (Same.refl H) .non
theorem d_in {X : Cx} {K : PySem.W.Frag} {S : L2.St → Hp → Prop} {e : Expr} {d : PyData} (hK : X.K = K) (h : PE X e (tD X.K S d)) : PE X e (tD K S d) := hK ▸ h
theorem dp_two {K : PySem.W.Frag} {H : Hp} {xs : List V} {a b : PyData} (h : DpAll K H xs [a, b]) : ∃ u v, xs = [u, v] ∧ Dp K H u a ∧ Dp K H v b := by
  cases h with
  | cons h1 h =>
    cases h with
    | cons h2 h =>
      cases h
      exact ⟨_, _, rfl, h1, h2⟩
theorem rows_cat {K : PySem.W.Frag} {H : Hp} {q2 q3 : Addr} {w2 w3 : List V} {as bs : List PyData} {Q : VK} (g2 : H q2 = some (.lst w2)) (c2 : DpAll K H w2 as) (g3 : H q3 = some (.lst w3)) (c3 : DpAll K H w3 bs) (l : as.length + bs.length ≤ 100) (k : ∀ q w H', H q = none → Same H H' → H' q = some (.lst w) → DpAll K H' w (as ++ bs) → Q (.ref q) H') : rCat (.ref q2) (.ref q3) H Q :=
  ⟨q2, q3, w2, w3, rfl, rfl, g2, g3, small_line (by rw [c2.len, c3.len]; omega), fun q n => k q _ _ n (Same.new n) upd_same (DpAll.same (Same.new n) (DpAll.app c2 c3))⟩
section
variable {K : PySem.W.Frag} {TT : List (Addr × Str)} {H0 H H' : Hp}
theorem hm_nil {σ : L2.St} : HMs K [] σ H := fun _ h => nomatch h
theorem hm_cons {ns : List (Nat × Mx)} {σ : L2.St} {i : Nat} {m : Mx} {v : V} (h1 : σ[i]? = some (some v)) (h2 : Dp K H v m.toD) (h : HMs K ns σ H) : HMs K ((i, m) :: ns) σ H := fun p hp => (List.mem_cons.mp hp).elim (fun e => by rw [e]; exact ⟨v, h1, h2⟩) (h p)
theorem hm_ext {ns : List (Nat × Mx)} {σ : L2.St} (h : HMs K ns σ H) (e : ExtN H H') : HMs K ns σ H' := fun p hp => by
  obtain ⟨v, a, b⟩ := h p hp
  exact ⟨v, a, dp_ext b e⟩
theorem dpall_ext : ∀ {vs : List V} {ds : List PyData}, DpAll K H vs ds → ExtN H H' → DpAll K H' vs ds
  | _, _, .nil, _ => .nil
  | _, _, .cons a b, e => .cons (dp_ext a e) (dpall_ext b e)
/-- an address that nothing but a table can have stood at -/
def NewN (H : Hp) (q : Addr) : Prop := ∀ o, H q = some o → ∃ ps, o = .tbl ps
theorem newN_of (e : ExtN H0 H) {q : Addr} (n : H q = none) : NewN H0 q := fun o h => Classical.byContradiction fun c => by
  have := e q o h fun ps w => c ⟨ps, w⟩
  rw [n] at this
  cases this
theorem ext_lst (e : ExtN H0 H) {q : Addr} {o : HO} (n : NewN H0 q) : ExtN H0 (upd H q o) := fun b ob h nt => by
  by_cases c : b = q
  · obtain ⟨ps, w⟩ := n ob (c ▸ h)
    exact absurd w (nt ps)
  · rw [upd_ne c]
    exact e b ob h nt
theorem tabs_lst (h : Tabs TT H) {q : Addr} {xs ys : List V} (e : H q = some (.lst xs)) : Tabs TT (upd H q (.lst ys)) := fun p hp => by
  obtain ⟨ps, b1, b2, b3⟩ := h p hp
  refine ⟨ps, ?_, b2, fun pos cv z => ?_⟩
  · rw [upd_ne]
    · exact b1
    · intro w
      rw [w, e] at b1
      cases b1
  · obtain ⟨c0, rfl, y⟩ := b3 pos cv z
    refine ⟨c0, rfl, ?_⟩
    unfold CodeO at y ⊢
    rw [upd_ne]
    · exact y
    · intro w
      rw [w, e] at y
      cases y
/-- one, two, both stand -/
structure HG (K : PySem.W.Frag) (TT : List (Addr × Str)) (H0 H : Hp) (v0 v1 v2 : V) : Prop where
  e : ExtN H0 H
  t : Tabs TT H
  d0 : Dp K H v0 oneM.toD
  d1 : Dp K H v1 twoM.toD
  d2 : Dp K H v2 bothM.toD
variable {v0 v1 v2 : V}
theorem HG.ext (h : HG K TT H0 H v0 v1 v2) (e : ExtN H H') (t : Tabs TT H') : HG K TT H0 H' v0 v1 v2 := ⟨h.e.trans e, t, dp_ext h.d0 e, dp_ext h.d1 e, dp_ext h.d2 e⟩
theorem HG.same (h : HG K TT H0 H v0 v1 v2) (s : Same H H') : HG K TT H0 H' v0 v1 v2 := h.ext (.of s) (h.t.ext s)
theorem HG.lst (h : HG K TT H0 H v0 v1 v2) {q : Addr} {xs ys : List V} (n : NewN H0 q) (e : H q = some (.lst xs)) : HG K TT H0 (upd H q (.lst ys)) v0 v1 v2 :=
  ⟨ext_lst h.e n, tabs_lst h.t e, Dp.tk (tk_lst e) (Mx.flat_ _) h.d0, Dp.tk (tk_lst e) (Mx.flat_ _) h.d1, Dp.tk (tk_lst e) (Mx.flat_ _) h.d2⟩
theorem HG.s3 (h : HG K TT H0 H v0 v1 v2) {r : L2.St} : HMs K [(0, oneM), (1, twoM), (2, bothM)] (some v0 :: some v1 :: some v2 :: r) H := hm_cons rfl h.d0 (hm_cons rfl h.d1 (hm_cons rfl h.d2 hm_nil))
theorem HG.s2 (h : HG K TT H0 H v0 v1 v2) {r : L2.St} : HMs K [(0, oneM), (1, twoM)] (some v0 :: some v1 :: r) H := hm_cons rfl h.d0 (hm_cons rfl h.d1 hm_nil)
def rowMD (p : Mx × Option Shx) : PyData := .tuple [p.1.toD, match p.2 with | some xs => shD xs | none => .none]
theorem rowM_of {p : Mx × Option Shx} (h : p ∈ rowsM) : p.1.Good ∧ p.1.sh [] = .inl (p.2.getD dueH) := by
  have := List.all_eq_true.mp rows_okM p h
  simp only [rowOkM, Bool.and_eq_true, decide_eq_true_eq] at this
  exact ⟨Mx.good_of this.1, by rw [Mx.shI_eq]; exact this.2⟩
theorem share_shows {t : Mx} {zs : Shx} (g : t.Good) (e : t.sh [] = .inl zs) : Shows (shD zs) := (sh_share (Mx.sh_shr e) ((Mx.sh_sz g.1 g.2.1 e).all (by have := g.2.2.1; omega))).shows (by decide) (by decide)
theorem due_bad {t : Mx} {f : List Int} (e : t.shI [] = .inr f) : dueM t = badM f := by
  unfold dueM
  rw [Mx.shI_eq, e]
variable {CB : Addr} {σ : L2.St} {Q : VK} {S : L2.St → Hp → Prop} {t : Mx}
theorem bad_atN {H1 H2 : Hp} {q d p : Addr} {f : List Int} {D : PyData} (e1 : ExtN H H1) (s2 : Same H1 H2) (t1 : Tabs TT H1) (eD : D = badM f) (hq : SqT K H2 q (f.map V.int)) (nd : H2 d = none) (np : (upd H2 d (.xd [("path", .ref q)])) p = none)
    (k : ∀ H', ExtN H H' → Tabs TT H' → Dp K H' (.ref p) D → Q (.ref p) H') : Q (.ref p) (upd (upd H2 d (.xd [("path", .ref q)])) p (.tup [.str "mix", .ref q])) := by
  have a := Same.new (o := .xd [("path", .ref q)]) nd
  have b := Same.new (o := .tup [V.str "mix", V.ref q]) np
  have s := s2.trans (a.trans b)
  refine k _ (e1.trans (.of s)) (t1.ext s) ?_
  rw [eD]
  exact .tup (SqT.of upd_same) (.cons (.str _) (.cons (.tup ((a.trans b).tup hq) (dpInts K _ f)) .nil))
theorem of_cutD (hT : Tabs TT H) (hS : ∀ H1, ExtN H H1 → S σ H1) (good : t.Good) (k : ∀ y H', ExtN H H' → Tabs TT H' → NewN H y → Dp K H' (.ref y) (dueM t) → Q (.ref y) H') :
    Tabs TT H ∧ ∀ H1, ExtN H H1 → Tabs TT H1 → tCall (spShareOf K CB) [] (fun cls d H2 => wxM CB cls d H2 Q) (tCons (tD K S t.toD) tNil) σ H1 (putL Q) := by
  refine ⟨hT, fun H1 e1 t1 => ⟨hS H1 e1, fun Ha u sa du => ⟨u, t, rfl, du, good, fun H2 s2 => ⟨fun f ef q d hq nd => ⟨rfl, d, q, rfl, upd_same, fun p np => ?_⟩, fun zs ez c hc p np => ?_⟩⟩⟩⟩
  · have nn : NewN H p := newN_of ((e1.trans (.of (sa.trans s2))).trans (.of (Same.new nd))) np
    exact bad_atN (e1.trans (.of sa)) s2 (t1.ext sa) (by unfold dueM; rw [ef]) hq nd np fun H' a b c => k p H' a b nn c
  · have b := Same.new (o := .lst [V.ref c]) np
    refine k p _ (e1.trans (.of (sa.trans (s2.trans b)))) (t1.ext (sa.trans (s2.trans b))) (newN_of (e1.trans (.of (sa.trans s2))) np) ?_
    unfold dueM
    rw [ez]
    exact .lst (SqL.of upd_same) (.cons (hc.same b).sh.dp .nil)
theorem flat_share (xs : Shx) : flatD (shD xs) = true := by
  show flatDs (xs.map prD) = true
  induction xs with
  | nil => rfl
  | cons a xs ih =>
    rw [List.map_cons]
    unfold flatDs
    rw [ih]
    rfl
theorem dp_oneL {q y : Addr} {xs ys : List V} {d : PyData} (h : Dp K H (.ref y) (.list [d])) (fl : flatD d = true) (ne : y ≠ q) (g : H q = some (.lst xs)) : Dp K (upd H q (.lst ys)) (.ref y) (.list [d]) := by
  cases h with
  | lst a b =>
    refine .lst ?_ (DpAll.tk (tk_lst g) (by unfold flatDs; rw [fl]; rfl) b)
    rcases a with (z | ⟨o, z⟩) | z
    · exact .inl (.inl (by rw [upd_ne ne]; exact z))
    · exact .inl (.inr ⟨o, by rw [upd_ne ne]; exact z⟩)
    · exact .inr z
theorem newN_ne {y q : Addr} {xs : List V} (n : NewN H y) (g : H q = some (.lst xs)) : y ≠ q := fun e => by
  obtain ⟨ps, w⟩ := n _ (e ▸ g)
  cases w
theorem dp_one {ws : List V} {d : PyData} (h : DpAll K H ws [d]) : ∃ v, ws = [v] ∧ Dp K H v d := by
  cases h with
  | cons a b =>
    cases b
    exact ⟨_, rfl, a⟩
theorem dp_lst1 {y : Addr} {d : PyData} (h : Dp K H (.ref y) (.list [d])) : ∃ v, SqL K H y [v] ∧ Dp K H v d := by
  cases h with
  | lst a b =>
    obtain ⟨v, rfl, c⟩ := dp_one b
    exact ⟨v, a, c⟩
/-- what is told so far: a list at q, of flat data -/
structure TG (K : PySem.W.Frag) (H0 H : Hp) (q : Addr) (ws : List V) (ds : List PyData) : Prop where
  n : NewN H0 q
  g : H q = some (.lst ws)
  d : DpAll K H ws ds
  f : flatDs ds = true
theorem TG.ext {q : Addr} {ws : List V} {ds : List PyData} (h : TG K H0 H q ws ds) (e : ExtN H H') : TG K H0 H' q ws ds := ⟨h.n, e _ _ h.g (fun _ z => by cases z), dpall_ext h.d e, h.f⟩
theorem TG.add {q : Addr} {ws : List V} {ds : List PyData} {y : V} {d : PyData} (h : TG K H0 H q ws ds) (c : Dp K H y d) (fl : flatD d = true) : TG K H0 (upd H q (.lst (ws ++ [y]))) q (ws ++ [y]) (ds ++ [d]) := by
  have f2 : flatDs (ds ++ [d]) = true := flatDs_app h.f (by unfold flatDs; rw [fl]; rfl)
  exact ⟨h.n, upd_same, DpAll.tk (tk_lst h.g) f2 (DpAll.app h.d (.cons c .nil)), f2⟩
end
section
variable {P : Program} {w : World} {K : PySem.W.Frag} {mg : Str → Option Value} {base : Heap}
def spHandM (K : PySem.W.Frag) (TT : List (Addr × Str)) : Sp := fun vs H Q _ => ∃ _z : Unit, vs = [] ∧ Tabs TT H ∧ ∀ H', ExtN H H' → Tabs TT H' → Q (.bl true) H'
variable {CB : Addr}
abbrev nsLawHandRight : List Str := ["one", "two", "both", "rows", "pair", "mix_so", "due", "half", "many", "k", "told_so"]
theorem scLawHandRight : FnScope nsLawHandRight [] (defScope sLawHandRight) := ⟨rfl, rfl, rfl, by decide +kernel, rfl, by decide +kernel, by decide +kernel⟩
theorem ok_law_hand_right {f : Addr} {fd : FuncData} {c0 p0 : Addr} {TT : List (Addr × Str)} (F : FunC K "_law_hand_right" "_law_hand_right" sLawHandRight f fd c0) (TB : LamX.TabB base mg c0 p0) (hm : (p0, (("_law_hand_right" : Str) ++ ".<locals>.") ++ "<lambda>") ∈ TT) (hut : ∀ p ∈ TT, p.1 = p0 → p.2 = (("_law_hand_right" : Str) ++ ".<locals>.") ++ "<lambda>")
    {f1 : Addr} {fd1 : FuncData} (D1 : Df K mg "share_of" sShareOf ["mix"] f1 fd1) (G1 : FnOk P w K mg base (L2.CX P w) 16 f1 fd1 ["mix"] (spShareOf K CB))
    {a_of fheard : Addr} {fdof fdheard : FuncData} (T : Bt mg) (mrepr : mg "repr" = none) (Dof : Df K mg "share_of" sShareOf ["mix"] a_of fdof) (Gof : FnOk P w K mg base (L2.CX P w) 16 a_of fdof ["mix"] (spShareOf K CB)) (Dheard : Df K mg "_law_heard" sLawHeard ["call"] fheard fdheard) (Gheard : ∀ act, ActOk P w K mg base 17 act → FnOk P w K mg base CX0 18 fheard fdheard ["call"] (spGiveL (wxM CB) act)) : FnG P w K mg base CX0 21 f fd [] (spHandM K TT) := by
  refine F.okG scLawHandRight (fun vs H Q E h => ?_) (fun A outer s H vs Q E hq hr h => ?_)
  · obtain ⟨z, rfl, _⟩ := h
    rfl
  · obtain ⟨z, rfl, hT, k⟩ := h
    have hq2 : (A.deeper (PyProof.Rows.envOfC "_law_hand_right" (defScope sLawHandRight) s.heap.objs.size f (.ref c0))).guards = some [] := hq
    refine ⟨_, PSs.nox (pss_cons (ps_asg (d_tup (S := HM0) (d_cons stM0 (d_tup (S := HM0) (d_cons stM0 (d_str pe_str) (d_cons stM0 (d_int pe_int) (d_cons stM0 (d_int pe_int) (d_cons stM0 (d_int pe_int) d_nil)))) (by decide)) (d_cons stM0 (d_tup (S := HM0) (d_cons stM0 (d_str pe_str) (d_cons stM0 (d_neg pe_int) (d_cons stM0 (d_int pe_int) (d_cons stM0 (d_int pe_int) d_nil)))) (by decide)) d_nil)) (by decide)) (pg_tup rfl (pgs_cons (pg_name (i := 0) scLawHandRight.nd rfl (Or.inr rfl)) (pgs_cons (pg_name (i := 1) scLawHandRight.nd rfl (Or.inl rfl)) pgs_nil))))
      (pss_cons (ps_set (i := 2) scLawHandRight.nd rfl (Or.inr rfl) (d_tup (S := (HMs K [(0, oneM), (1, twoM)])) (d_cons stM (d_str pe_str) (d_cons stM (d_var (pv 0) (fun σ H h => hm_at (p := (0, oneM)) h (by simp))) (d_cons stM (d_var (pv 1) (fun σ H h => hm_at (p := (1, twoM)) h (by simp))) d_nil))) (by decide)))
      (pss_cons (ps_set (i := 3) scLawHandRight.nd rfl (Or.inl rfl) (d_lst (S := (HMs K [(0, oneM), (1, twoM), (2, bothM)])) (d_cons stM (d_tup (S := (HMs K [(0, oneM), (1, twoM), (2, bothM)])) (d_cons stM (d_var (pv 0) (fun σ H h => hm_at (p := (0, oneM)) h (by simp))) (d_cons stM (d_tup (S := (HMs K [(0, oneM), (1, twoM), (2, bothM)])) (d_cons stM (d_tup (S := (HMs K [(0, oneM), (1, twoM), (2, bothM)])) (d_cons stM (d_int pe_int) (d_cons stM (d_tup (S := (HMs K [(0, oneM), (1, twoM), (2, bothM)])) (d_cons stM (d_int pe_int) (d_cons stM (d_int pe_int) d_nil)) (by decide)) d_nil)) (by decide)) d_nil) (by decide)) d_nil)) (by decide)) (d_cons stM (d_tup (S := (HMs K [(0, oneM), (1, twoM), (2, bothM)])) (d_cons stM (d_var (pv 1) (fun σ H h => hm_at (p := (1, twoM)) h (by simp))) (d_cons stM (d_tup (S := (HMs K [(0, oneM), (1, twoM), (2, bothM)])) (d_cons stM (d_tup (S := (HMs K [(0, oneM), (1, twoM), (2, bothM)])) (d_cons stM (d_neg pe_int) (d_cons stM (d_tup (S := (HMs K [(0, oneM), (1, twoM), (2, bothM)])) (d_cons stM (d_int pe_int) (d_cons stM (d_int pe_int) d_nil)) (by decide)) d_nil)) (by decide)) d_nil) (by decide)) d_nil)) (by decide)) (d_cons stM (d_tup (S := (HMs K [(0, oneM), (1, twoM), (2, bothM)])) (d_cons stM (d_tup (S := (HMs K [(0, oneM), (1, twoM), (2, bothM)])) (d_cons stM (d_str pe_str) d_nil) (by decide)) (d_cons stM (d_tup (S := (HMs K [(0, oneM), (1, twoM), (2, bothM)])) d_nil (by decide)) d_nil)) (by decide)) (d_cons stM (d_tup (S := (HMs K [(0, oneM), (1, twoM), (2, bothM)])) (d_cons stM (d_var (pv 2) (fun σ H h => hm_at (p := (2, bothM)) h (by simp))) (d_cons stM (d_tup (S := (HMs K [(0, oneM), (1, twoM), (2, bothM)])) (d_cons stM (d_tup (S := (HMs K [(0, oneM), (1, twoM), (2, bothM)])) (d_cons stM (d_neg pe_int) (d_cons stM (d_tup (S := (HMs K [(0, oneM), (1, twoM), (2, bothM)])) (d_cons stM (d_int pe_int) (d_cons stM (d_int pe_int) d_nil)) (by decide)) d_nil)) (by decide)) (d_cons stM (d_tup (S := (HMs K [(0, oneM), (1, twoM), (2, bothM)])) (d_cons stM (d_int pe_int) (d_cons stM (d_tup (S := (HMs K [(0, oneM), (1, twoM), (2, bothM)])) (d_cons stM (d_int pe_int) (d_cons stM (d_int pe_int) d_nil)) (by decide)) d_nil)) (by decide)) d_nil)) (by decide)) d_nil)) (by decide)) d_nil)))) (by decide)))
      (pss_cons (ps_set (i := 3) scLawHandRight.nd rfl (Or.inl rfl) (pe_op op_cat (pv 3) (d_lst (S := (HMs K [(0, oneM), (1, twoM), (2, bothM)])) (d_cons stM (d_tup (S := (HMs K [(0, oneM), (1, twoM), (2, bothM)])) (d_cons stM (d_tup (S := (HMs K [(0, oneM), (1, twoM), (2, bothM)])) (d_cons stM (d_str pe_str) (d_cons stM (d_var (pv 0) (fun σ H h => hm_at (p := (0, oneM)) h (by simp))) (d_cons stM (d_var (pv 0) (fun σ H h => hm_at (p := (0, oneM)) h (by simp))) d_nil))) (by decide)) (d_cons stM (d_tup (S := (HMs K [(0, oneM), (1, twoM), (2, bothM)])) (d_cons stM (d_tup (S := (HMs K [(0, oneM), (1, twoM), (2, bothM)])) (d_cons stM (d_int pe_int) (d_cons stM (d_tup (S := (HMs K [(0, oneM), (1, twoM), (2, bothM)])) (d_cons stM (d_int pe_int) (d_cons stM (d_int pe_int) d_nil)) (by decide)) d_nil)) (by decide)) d_nil) (by decide)) d_nil)) (by decide)) (d_cons stM (d_tup (S := (HMs K [(0, oneM), (1, twoM), (2, bothM)])) (d_cons stM (d_tup (S := (HMs K [(0, oneM), (1, twoM), (2, bothM)])) (d_cons stM (d_str pe_str) (d_cons stM (d_var (pv 2) (fun σ H h => hm_at (p := (2, bothM)) h (by simp))) (d_cons stM (d_neg pe_int) d_nil))) (by decide)) (d_cons stM (d_tup (S := (HMs K [(0, oneM), (1, twoM), (2, bothM)])) (d_cons stM (d_tup (S := (HMs K [(0, oneM), (1, twoM), (2, bothM)])) (d_cons stM (d_neg pe_int) (d_cons stM (d_tup (S := (HMs K [(0, oneM), (1, twoM), (2, bothM)])) (d_cons stM (d_int pe_int) (d_cons stM (d_int pe_int) d_nil)) (by decide)) d_nil)) (by decide)) (d_cons stM (d_tup (S := (HMs K [(0, oneM), (1, twoM), (2, bothM)])) (d_cons stM (d_neg pe_int) (d_cons stM (d_tup (S := (HMs K [(0, oneM), (1, twoM), (2, bothM)])) (d_cons stM (d_int pe_int) (d_cons stM (d_int pe_int) d_nil)) (by decide)) d_nil)) (by decide)) d_nil)) (by decide)) d_nil)) (by decide)) d_nil)) (by decide))))
      (pss_cons (ps_set (i := 3) scLawHandRight.nd rfl (Or.inl rfl) (pe_op op_cat (pv 3) (d_lst (S := (HMs K [(0, oneM), (1, twoM), (2, bothM)])) (d_cons stM (d_tup (S := (HMs K [(0, oneM), (1, twoM), (2, bothM)])) (d_cons stM (d_tup (S := (HMs K [(0, oneM), (1, twoM), (2, bothM)])) (d_cons stM (d_str pe_str) (d_cons stM (d_var (pv 2) (fun σ H h => hm_at (p := (2, bothM)) h (by simp))) (d_cons stM (d_int pe_int) (d_cons stM (d_int pe_int) d_nil)))) (by decide)) (d_cons stM (d_tup (S := (HMs K [(0, oneM), (1, twoM), (2, bothM)])) (d_cons stM (d_tup (S := (HMs K [(0, oneM), (1, twoM), (2, bothM)])) (d_cons stM (d_neg pe_int) (d_cons stM (d_tup (S := (HMs K [(0, oneM), (1, twoM), (2, bothM)])) (d_cons stM (d_int pe_int) (d_cons stM (d_int pe_int) d_nil)) (by decide)) d_nil)) (by decide)) (d_cons stM (d_tup (S := (HMs K [(0, oneM), (1, twoM), (2, bothM)])) (d_cons stM (d_int pe_int) (d_cons stM (d_tup (S := (HMs K [(0, oneM), (1, twoM), (2, bothM)])) (d_cons stM (d_int pe_int) (d_cons stM (d_int pe_int) d_nil)) (by decide)) d_nil)) (by decide)) d_nil)) (by decide)) d_nil)) (by decide)) (d_cons stM (d_tup (S := (HMs K [(0, oneM), (1, twoM), (2, bothM)])) (d_cons stM (d_tup (S := (HMs K [(0, oneM), (1, twoM), (2, bothM)])) (d_cons stM (d_str pe_str) (d_cons stM (d_var (pv 0) (fun σ H h => hm_at (p := (0, oneM)) h (by simp))) (d_cons stM (d_tup (S := (HMs K [(0, oneM), (1, twoM), (2, bothM)])) (d_cons stM (d_str pe_str) d_nil) (by decide)) d_nil))) (by decide)) (d_cons stM (d_tup (S := (HMs K [(0, oneM), (1, twoM), (2, bothM)])) (d_cons stM (d_tup (S := (HMs K [(0, oneM), (1, twoM), (2, bothM)])) (d_cons stM (d_int pe_int) (d_cons stM (d_tup (S := (HMs K [(0, oneM), (1, twoM), (2, bothM)])) (d_cons stM (d_int pe_int) (d_cons stM (d_int pe_int) d_nil)) (by decide)) d_nil)) (by decide)) d_nil) (by decide)) d_nil)) (by decide)) d_nil)) (by decide))))
      (pss_cons (ps_set (i := 3) scLawHandRight.nd rfl (Or.inl rfl) (pe_op op_cat (pv 3) (d_lst (S := (HMs K [(0, oneM), (1, twoM), (2, bothM)])) (d_cons stM (d_tup (S := (HMs K [(0, oneM), (1, twoM), (2, bothM)])) (d_cons stM (d_tup (S := (HMs K [(0, oneM), (1, twoM), (2, bothM)])) (d_cons stM (d_str pe_str) (d_cons stM (d_var (pv 2) (fun σ H h => hm_at (p := (2, bothM)) h (by simp))) (d_cons stM (d_int pe_int) (d_cons stM (d_int pe_int) (d_cons stM (d_int pe_int) d_nil))))) (by decide)) (d_cons stM (d_tup (S := (HMs K [(0, oneM), (1, twoM), (2, bothM)])) (d_cons stM (d_tup (S := (HMs K [(0, oneM), (1, twoM), (2, bothM)])) (d_cons stM (d_neg pe_int) (d_cons stM (d_tup (S := (HMs K [(0, oneM), (1, twoM), (2, bothM)])) (d_cons stM (d_int pe_int) (d_cons stM (d_int pe_int) d_nil)) (by decide)) d_nil)) (by decide)) (d_cons stM (d_tup (S := (HMs K [(0, oneM), (1, twoM), (2, bothM)])) (d_cons stM (d_int pe_int) (d_cons stM (d_tup (S := (HMs K [(0, oneM), (1, twoM), (2, bothM)])) (d_cons stM (d_int pe_int) (d_cons stM (d_int pe_int) d_nil)) (by decide)) d_nil)) (by decide)) (d_cons stM (d_tup (S := (HMs K [(0, oneM), (1, twoM), (2, bothM)])) (d_cons stM (d_int pe_int) (d_cons stM (d_tup (S := (HMs K [(0, oneM), (1, twoM), (2, bothM)])) (d_cons stM (d_int pe_int) (d_cons stM (d_int pe_int) d_nil)) (by decide)) d_nil)) (by decide)) d_nil))) (by decide)) d_nil)) (by decide)) d_nil) (by decide))))
      (pss_cons (ps_expr (pe_bm PySem.F.plainAttrs_list PySem.F.slot_list_append PySem.F.type_list_append mt_append (pv 3) (pa_cons (d_tup (S := (HMs K [(0, oneM), (1, twoM), (2, bothM)])) (d_cons stM (d_tup (S := (HMs K [(0, oneM), (1, twoM), (2, bothM)])) (d_cons stM (d_str pe_str) (d_cons stM (d_var (pv 2) (fun σ H h => hm_at (p := (2, bothM)) h (by simp))) (d_cons stM (d_int pe_int) (d_cons stM (d_int pe_int) (d_cons stM (d_int pe_int) d_nil))))) (by decide)) (d_cons stM (d_non pe_non) d_nil)) (by decide)) pa_nil)))
      (pss_cons (ps_set (i := 3) scLawHandRight.nd rfl (Or.inl rfl) (pe_op op_cat (pv 3) (d_lst (S := (HMs K [(0, oneM), (1, twoM), (2, bothM)])) (d_cons stM (d_tup (S := (HMs K [(0, oneM), (1, twoM), (2, bothM)])) (d_cons stM (d_tup (S := (HMs K [(0, oneM), (1, twoM), (2, bothM)])) (d_cons stM (d_str pe_str) (d_cons stM (d_var (pv 2) (fun σ H h => hm_at (p := (2, bothM)) h (by simp))) (d_cons stM (d_int pe_int) (d_cons stM (d_neg pe_int) (d_cons stM (d_int pe_int) d_nil))))) (by decide)) (d_cons stM (d_tup (S := (HMs K [(0, oneM), (1, twoM), (2, bothM)])) (d_cons stM (d_tup (S := (HMs K [(0, oneM), (1, twoM), (2, bothM)])) (d_cons stM (d_neg pe_int) (d_cons stM (d_tup (S := (HMs K [(0, oneM), (1, twoM), (2, bothM)])) (d_cons stM (d_int pe_int) (d_cons stM (d_int pe_int) d_nil)) (by decide)) d_nil)) (by decide)) (d_cons stM (d_tup (S := (HMs K [(0, oneM), (1, twoM), (2, bothM)])) (d_cons stM (d_int pe_int) (d_cons stM (d_tup (S := (HMs K [(0, oneM), (1, twoM), (2, bothM)])) (d_cons stM (d_int pe_int) (d_cons stM (d_int pe_int) d_nil)) (by decide)) d_nil)) (by decide)) d_nil)) (by decide)) d_nil)) (by decide)) (d_cons stM (d_tup (S := (HMs K [(0, oneM), (1, twoM), (2, bothM)])) (d_cons stM (d_tup (S := (HMs K [(0, oneM), (1, twoM), (2, bothM)])) (d_cons stM (d_str pe_str) (d_cons stM (d_var (pv 2) (fun σ H h => hm_at (p := (2, bothM)) h (by simp))) (d_cons stM (d_int pe_int) (d_cons stM (d_int pe_int) d_nil)))) (by decide)) (d_cons stM (d_non pe_non) d_nil)) (by decide)) d_nil)) (by decide))))
      (pss_cons (ps_set (i := 4) scLawHandRight.nd rfl (Or.inl rfl) (d_tup (S := HM0) (d_cons stM0 (d_str pe_str) (d_cons stM0 (d_tup (S := HM0) (d_cons stM0 (d_str pe_str) (d_cons stM0 (d_int pe_int) (d_cons stM0 (d_int pe_int) (d_cons stM0 (d_int pe_int) d_nil)))) (by decide)) (d_cons stM0 (d_tup (S := HM0) (d_cons stM0 (d_str pe_str) (d_cons stM0 (d_int pe_int) (d_cons stM0 (d_int pe_int) (d_cons stM0 (d_int pe_int) d_nil)))) (by decide)) d_nil))) (by decide)))
      (pss_cons (ps_set (i := 3) scLawHandRight.nd rfl (Or.inl rfl) (pe_op op_cat (pv 3) (d_lst (S := (HMs K [(2, bothM), (4, pairM)])) (d_cons stM (d_tup (S := (HMs K [(2, bothM), (4, pairM)])) (d_cons stM (d_tup (S := (HMs K [(2, bothM), (4, pairM)])) (d_cons stM (d_str pe_str) (d_cons stM (d_var (pv 2) (fun σ H h => hm_at (p := (2, bothM)) h (by simp))) (d_cons stM (d_int pe_int) (d_cons stM (d_int pe_int) d_nil)))) (by decide)) (d_cons stM (d_non pe_non) d_nil)) (by decide)) (d_cons stM (d_tup (S := (HMs K [(2, bothM), (4, pairM)])) (d_cons stM (d_tup (S := (HMs K [(2, bothM), (4, pairM)])) (d_cons stM (d_str pe_str) (d_cons stM (d_var (pv 4) (fun σ H h => hm_at (p := (4, pairM)) h (by simp))) (d_cons stM (d_int pe_int) (d_cons stM (d_int pe_int) d_nil)))) (by decide)) (d_cons stM (d_tup (S := (HMs K [(2, bothM), (4, pairM)])) (d_cons stM (d_tup (S := (HMs K [(2, bothM), (4, pairM)])) (d_cons stM (d_int pe_int) (d_cons stM (d_tup (S := (HMs K [(2, bothM), (4, pairM)])) (d_cons stM (d_int pe_int) (d_cons stM (d_int pe_int) d_nil)) (by decide)) d_nil)) (by decide)) d_nil) (by decide)) d_nil)) (by decide)) d_nil)) (by decide))))
      (pss_cons (ps_for PassesOwn.never rfl (pi_list (pv 3)) (pg_tup rfl (pgs_cons (pg_name (i := 5) scLawHandRight.nd rfl (Or.inl rfl)) (pgs_cons (pg_name (i := 6) scLawHandRight.nd rfl (Or.inl rfl)) pgs_nil))) (pss_cons (ps_set (i := 6) scLawHandRight.nd rfl (Or.inl rfl) (pe_ifExp (pt_cmpR op_isN (pv 6) pe_non (nomark _)) (d_tup (S := HM0) (d_cons stM0 (d_tup (S := HM0) (d_cons stM0 (d_neg pe_int) (d_cons stM0 (d_tup (S := HM0) (d_cons stM0 (d_int pe_int) (d_cons stM0 (d_int pe_int) d_nil)) (by decide)) d_nil)) (by decide)) (d_cons stM0 (d_tup (S := HM0) (d_cons stM0 (d_int pe_int) (d_cons stM0 (d_tup (S := HM0) (d_cons stM0 (d_int pe_int) (d_cons stM0 (d_int pe_int) d_nil)) (by decide)) d_nil)) (by decide)) d_nil)) (by decide)) (pv 6)))
      (pss_one (ps_if (pt_cmpR op_ne (pe_callB (call_show hq2 hr.units) (by rfl) mrepr (by decide +kernel) (pa_cons (pe_call G1 (hr.mono (by decide)) (by rfl) D1.g D1.F.kp D1.b .nil passL (pa_cons (pv 5) pa_nil)) pa_nil)) (pe_callB (call_show hq2 hr.units) (by rfl) mrepr (by decide +kernel) (pa_cons (pv 6) pa_nil)) (nomark _)) (pss_one (ps_ret pe_bl)) pss_nil))))
      (pss_cons (ps_set (i := 7) scLawHandRight.nd rfl (Or.inr rfl) (d_tup (S := HM0) (d_cons stM0 (d_str pe_str) (d_cons stM0 (d_tup (S := HM0) (d_cons stM0 (d_str pe_str) (d_cons stM0 (d_tup (S := HM0) (d_cons stM0 (d_str pe_str) (d_cons stM0 (d_int pe_int) (d_cons stM0 (d_int pe_int) (d_cons stM0 (d_int pe_int) d_nil)))) (by decide)) (d_cons stM0 (d_tup (S := HM0) (d_cons stM0 (d_str pe_str) (d_cons stM0 (d_int pe_int) (d_cons stM0 (d_int pe_int) (d_cons stM0 (d_int pe_int) d_nil)))) (by decide)) d_nil))) (by decide)) (d_cons stM0 (d_int pe_int) (d_cons stM0 (d_int pe_int) d_nil)))) (by decide)))
      (pss_cons (ps_if (pt_cmpR (op_neD hr.units) (pe_giveL (k := 16) (Wx := wxM CB) (T := TT) (natM CB) Gheard (hr.mono (by omega)) (by rfl) Dheard.g Dheard.F.kp Dheard.b (fun _ => rfl) (lsc_by (by show lscB (defScope sLawHandRight) _ nsLawHandRight = true; decide +kernel)) (pe_lam0 TB rfl hm hut (lsc_by (by show lscB (defScope sLawHandRight) _ nsLawHandRight = true; decide +kernel)) rfl) (fun A outer s H E f c' hr2 => pe_call Gof hr2 (by rfl) Dof.g Dof.F.kp Dof.b .nil (passes_call (takes_of rfl rfl rfl rfl) (fun _ _ _ _ h => h)) (pa_cons (pv 7) pa_nil))) (d_tup (S := HM0) (d_cons stM0 (d_str pe_str) (d_cons stM0 (d_tup (S := HM0) d_nil (by decide)) d_nil)) (by decide)) (nomark _)) (pss_one (ps_ret pe_bl)) pss_nil)
      (pss_cons (ps_set (i := 8) scLawHandRight.nd rfl (Or.inr rfl) (d_tup (S := HM0) (d_cons stM0 (d_str pe_str) d_nil) (by decide)))
      (pss_cons (ps_for PassesOwn.never rfl (pi_range1 (by rfl) T.range (pa_cons pe_int pa_nil)) (pg_name (i := 9) scLawHandRight.nd rfl (Or.inl rfl)) (pss_one (ps_set (i := 8) scLawHandRight.nd rfl (Or.inr rfl) (pe_tup (pa_cons pe_str (pa_cons (pe_tup (pa_cons pe_str (pa_cons (pe_tup (pa_cons pe_str (pa_cons (pe_op op_mul pe_int (pv 9)) (pa_cons pe_int (pa_cons pe_int pa_nil))))) (pa_cons (pe_op op_mul pe_int (pv 9)) (pa_cons (pe_op op_sub (pe_op op_mul pe_int (pv 9)) pe_int) (pa_cons (pe_op op_add (pe_op op_mul pe_int (pv 9)) pe_int) pa_nil)))))) (pa_cons (pv 8) pa_nil)))))))
      (pss_cons (ps_if (PW.pt (pw_or (pt_cmpR op_ne (pe_callB call_len_seq (by rfl) T.len PySem.boot_len (pa_cons (pe_call G1 (hr.mono (by decide)) (by rfl) D1.g D1.F.kp D1.b .nil passL (pa_cons (pv 8) pa_nil)) pa_nil)) pe_int (nomark _)) (pw_or1 (pt_cmpR (op_neD hr.units) (pe_giveL (k := 16) (Wx := wxM CB) (T := TT) (natM CB) Gheard (hr.mono (by omega)) (by rfl) Dheard.g Dheard.F.kp Dheard.b (fun _ => rfl) (lsc_by (by show lscB (defScope sLawHandRight) _ nsLawHandRight = true; decide +kernel)) (pe_lam0 TB rfl hm hut (lsc_by (by show lscB (defScope sLawHandRight) _ nsLawHandRight = true; decide +kernel)) rfl) (fun A outer s H E f c' hr2 => pe_call Gof hr2 (by rfl) Dof.g Dof.F.kp Dof.b .nil (passes_call (takes_of rfl rfl rfl rfl) (fun _ _ _ _ h => h)) (pa_cons (d_in (K := K) (d := Mx.toD (.mixed_ (manyM 4) oneM)) rfl (d_tup (S := (HMs K [(8, manyM 4), (0, oneM)])) (d_cons stM (d_str pe_str) (d_cons stM (d_var (pv 8) (fun σ H h => hm_at (p := (8, manyM 4)) h (by simp))) (d_cons stM (d_var (pv 0) (fun σ H h => hm_at (p := (0, oneM)) h (by simp))) d_nil))) (by decide))) pa_nil))) (d_tup (S := HM0) (d_cons stM0 (d_str pe_str) (d_cons stM0 (d_tup (S := HM0) d_nil (by decide)) d_nil)) (by decide)) (nomark _))))) (pss_one (ps_ret pe_bl)) pss_nil)
      (pss_cons (ps_set (i := 10) scLawHandRight.nd rfl (Or.inl rfl) (pe_lst (pa_cons (pe_giveL (k := 16) (Wx := wxM CB) (T := TT) (natM CB) Gheard (hr.mono (by omega)) (by rfl) Dheard.g Dheard.F.kp Dheard.b (fun _ => rfl) (lsc_by (by show lscB (defScope sLawHandRight) _ nsLawHandRight = true; decide +kernel)) (pe_lam0 TB rfl hm hut (lsc_by (by show lscB (defScope sLawHandRight) _ nsLawHandRight = true; decide +kernel)) rfl) (fun A outer s H E f c' hr2 => pe_call Gof hr2 (by rfl) Dof.g Dof.F.kp Dof.b .nil (passes_call (takes_of rfl rfl rfl rfl) (fun _ _ _ _ h => h)) (pa_cons (d_in (K := K) (d := Mx.toD (.moved_ bothM 99)) rfl (d_tup (S := (HMs K [(0, oneM), (1, twoM), (2, bothM)])) (d_cons stM (d_str pe_str) (d_cons stM (d_var (pv 2) (fun σ H h => hm_at (p := (2, bothM)) h (by simp))) (d_cons stM (d_int pe_int) d_nil))) (by decide))) pa_nil))) pa_nil)))
      (pss_cons (ps_expr (pe_bm PySem.F.plainAttrs_list PySem.F.slot_list_append PySem.F.type_list_append mt_append (pv 10) (pa_cons (pe_giveL (k := 16) (Wx := wxM CB) (T := TT) (natM CB) Gheard (hr.mono (by omega)) (by rfl) Dheard.g Dheard.F.kp Dheard.b (fun _ => rfl) (lsc_by (by show lscB (defScope sLawHandRight) _ nsLawHandRight = true; decide +kernel)) (pe_lam0 TB rfl hm hut (lsc_by (by show lscB (defScope sLawHandRight) _ nsLawHandRight = true; decide +kernel)) rfl) (fun A outer s H E f c' hr2 => pe_call Gof hr2 (by rfl) Dof.g Dof.F.kp Dof.b .nil (passes_call (takes_of rfl rfl rfl rfl) (fun _ _ _ _ h => h)) (pa_cons (d_in (K := K) (d := Mx.toD (.drawn_ bothM (-1) 2)) rfl (d_tup (S := (HMs K [(0, oneM), (1, twoM), (2, bothM)])) (d_cons stM (d_str pe_str) (d_cons stM (d_var (pv 2) (fun σ H h => hm_at (p := (2, bothM)) h (by simp))) (d_cons stM (d_neg pe_int) (d_cons stM (d_int pe_int) d_nil)))) (by decide))) pa_nil))) pa_nil)))
      (pss_cons (ps_expr (pe_bm PySem.F.plainAttrs_list PySem.F.slot_list_append PySem.F.type_list_append mt_append (pv 10) (pa_cons (pe_giveL (k := 16) (Wx := wxM CB) (T := TT) (natM CB) Gheard (hr.mono (by omega)) (by rfl) Dheard.g Dheard.F.kp Dheard.b (fun _ => rfl) (lsc_by (by show lscB (defScope sLawHandRight) _ nsLawHandRight = true; decide +kernel)) (pe_lam0 TB rfl hm hut (lsc_by (by show lscB (defScope sLawHandRight) _ nsLawHandRight = true; decide +kernel)) rfl) (fun A outer s H E f c' hr2 => pe_call Gof hr2 (by rfl) Dof.g Dof.F.kp Dof.b .nil (passes_call (takes_of rfl rfl rfl rfl) (fun _ _ _ _ h => h)) (pa_cons (d_in (K := K) (d := Mx.toD (.mixed_ (.drawn_ bothM (-5) 5) (.moved_ oneM 200))) rfl (d_tup (S := (HMs K [(0, oneM), (1, twoM), (2, bothM)])) (d_cons stM (d_str pe_str) (d_cons stM (d_tup (S := (HMs K [(0, oneM), (1, twoM), (2, bothM)])) (d_cons stM (d_str pe_str) (d_cons stM (d_var (pv 2) (fun σ H h => hm_at (p := (2, bothM)) h (by simp))) (d_cons stM (d_neg pe_int) (d_cons stM (d_int pe_int) d_nil)))) (by decide)) (d_cons stM (d_tup (S := (HMs K [(0, oneM), (1, twoM), (2, bothM)])) (d_cons stM (d_str pe_str) (d_cons stM (d_var (pv 0) (fun σ H h => hm_at (p := (0, oneM)) h (by simp))) (d_cons stM (d_int pe_int) d_nil))) (by decide)) d_nil))) (by decide))) pa_nil))) pa_nil)))
      (pss_cons (ps_expr (pe_bm PySem.F.plainAttrs_list PySem.F.slot_list_append PySem.F.type_list_append mt_append (pv 10) (pa_cons (pe_giveL (k := 16) (Wx := wxM CB) (T := TT) (natM CB) Gheard (hr.mono (by omega)) (by rfl) Dheard.g Dheard.F.kp Dheard.b (fun _ => rfl) (lsc_by (by show lscB (defScope sLawHandRight) _ nsLawHandRight = true; decide +kernel)) (pe_lam0 TB rfl hm hut (lsc_by (by show lscB (defScope sLawHandRight) _ nsLawHandRight = true; decide +kernel)) rfl) (fun A outer s H E f c' hr2 => pe_call Gof hr2 (by rfl) Dof.g Dof.F.kp Dof.b .nil (passes_call (takes_of rfl rfl rfl rfl) (fun _ _ _ _ h => h)) (pa_cons (d_in (K := K) (d := Mx.toD (.mixed_ oneM (.scaled_ (.moved_ oneM (-200)) 1 2))) rfl (d_tup (S := (HMs K [(0, oneM), (1, twoM)])) (d_cons stM (d_str pe_str) (d_cons stM (d_var (pv 0) (fun σ H h => hm_at (p := (0, oneM)) h (by simp))) (d_cons stM (d_tup (S := (HMs K [(0, oneM), (1, twoM)])) (d_cons stM (d_str pe_str) (d_cons stM (d_tup (S := (HMs K [(0, oneM), (1, twoM)])) (d_cons stM (d_str pe_str) (d_cons stM (d_var (pv 0) (fun σ H h => hm_at (p := (0, oneM)) h (by simp))) (d_cons stM (d_neg pe_int) d_nil))) (by decide)) (d_cons stM (d_int pe_int) (d_cons stM (d_int pe_int) d_nil)))) (by decide)) d_nil))) (by decide))) pa_nil))) pa_nil)))
      (pss_cons (ps_expr (pe_bm PySem.F.plainAttrs_list PySem.F.slot_list_append PySem.F.type_list_append mt_append (pv 10) (pa_cons (pe_giveL (k := 16) (Wx := wxM CB) (T := TT) (natM CB) Gheard (hr.mono (by omega)) (by rfl) Dheard.g Dheard.F.kp Dheard.b (fun _ => rfl) (lsc_by (by show lscB (defScope sLawHandRight) _ nsLawHandRight = true; decide +kernel)) (pe_lam0 TB rfl hm hut (lsc_by (by show lscB (defScope sLawHandRight) _ nsLawHandRight = true; decide +kernel)) rfl) (fun A outer s H E f c' hr2 => pe_call Gof hr2 (by rfl) Dof.g Dof.F.kp Dof.b .nil (passes_call (takes_of rfl rfl rfl rfl) (fun _ _ _ _ h => h)) (pa_cons (d_in (K := K) (d := Mx.toD (.spread_ (manyM 4) 9 8 15)) rfl (d_tup (S := (HMs K [(8, manyM 4), (0, oneM)])) (d_cons stM (d_str pe_str) (d_cons stM (d_var (pv 8) (fun σ H h => hm_at (p := (8, manyM 4)) h (by simp))) (d_cons stM (d_int pe_int) (d_cons stM (d_int pe_int) (d_cons stM (d_int pe_int) d_nil))))) (by decide))) pa_nil))) pa_nil)))
      (pss_cons (ps_expr (pe_bm PySem.F.plainAttrs_list PySem.F.slot_list_append PySem.F.type_list_append mt_append (pv 10) (pa_cons (pe_giveL (k := 16) (Wx := wxM CB) (T := TT) (natM CB) Gheard (hr.mono (by omega)) (by rfl) Dheard.g Dheard.F.kp Dheard.b (fun _ => rfl) (lsc_by (by show lscB (defScope sLawHandRight) _ nsLawHandRight = true; decide +kernel)) (pe_lam0 TB rfl hm hut (lsc_by (by show lscB (defScope sLawHandRight) _ nsLawHandRight = true; decide +kernel)) rfl) (fun A outer s H E f c' hr2 => pe_call Gof hr2 (by rfl) Dof.g Dof.F.kp Dof.b .nil (passes_call (takes_of rfl rfl rfl rfl) (fun _ _ _ _ h => h)) (pa_cons (d_in (K := K) (d := Mx.toD (.spread_ (manyM 4) 9 1 11)) rfl (d_tup (S := (HMs K [(8, manyM 4), (0, oneM)])) (d_cons stM (d_str pe_str) (d_cons stM (d_var (pv 8) (fun σ H h => hm_at (p := (8, manyM 4)) h (by simp))) (d_cons stM (d_int pe_int) (d_cons stM (d_int pe_int) (d_cons stM (d_int pe_int) d_nil))))) (by decide))) pa_nil))) pa_nil)))
      (pss_cons (ps_if (pt_cmpR (op_neD hr.units) (pe_slice sl_list (pv 10) po_none (po_some pe_int)) (pe_op op_cat (pe_op op_rep (d_lst (S := HM0) (d_cons stM0 (d_tup (S := HM0) (d_cons stM0 (d_str pe_str) (d_cons stM0 (d_tup (S := HM0) d_nil (by decide)) d_nil)) (by decide)) d_nil) (by decide)) pe_int) (d_lst (S := HM0) (d_cons stM0 (d_tup (S := HM0) (d_cons stM0 (d_str pe_str) (d_cons stM0 (d_tup (S := HM0) (d_cons stM0 (d_int pe_int) d_nil) (by decide)) d_nil)) (by decide)) (d_cons stM0 (d_tup (S := HM0) (d_cons stM0 (d_str pe_str) (d_cons stM0 (d_tup (S := HM0) (d_cons stM0 (d_int pe_int) (d_cons stM0 (d_int pe_int) d_nil)) (by decide)) d_nil)) (by decide)) d_nil)) (by decide))) (nomark _)) (pss_one (ps_ret pe_bl)) pss_nil)
      (pss_one (ps_ret (pe_and (pe_cmpR (op_eqD hr.units) (pe_ix ix_list (pv 10) pe_int (fun _ _ => rfl)) (d_tup (S := HM0) (d_cons stM0 (d_str pe_str) (d_cons stM0 (d_tup (S := HM0) d_nil (by decide)) d_nil)) (by decide)) (nomark _)) (pe_one (pe_cmpR op_eq (pe_callB call_len_seq (by rfl) T.len PySem.boot_len (pa_cons (pe_ix ix_list (pe_ix ix_list (pv 10) pe_int (fun _ _ => rfl)) pe_int (fun _ _ => rfl)) pa_nil)) pe_int (nomark _))))))))))))))))))))))))))))), ?_⟩
    refine ⟨trivial, fun H1 w0 s1 d0 => ?_⟩
    obtain ⟨p1, x0, rfl, h0, hx0⟩ := d0.tup_inv
    obtain ⟨v0, v1, rfl, e0, e1⟩ := dp_two hx0
    have e0 : Dp K H1 v0 oneM.toD := e0
    have e1 : Dp K H1 v1 twoM.toD := e1
    refine ⟨p1, _, rfl, h0, rfl, _, _, rfl, _, _, rfl, rfl, ?_⟩
    refine ⟨hm_cons rfl e0 (hm_cons rfl e1 hm_nil), fun H2 v2 s2 e2 => ?_⟩
    have F2 : HG K TT H H2 v0 v1 v2 := ⟨.of (s1.trans s2), hT.ext (s1.trans s2), dp_same e0 s2, dp_same e1 s2, e2⟩
    refine ⟨F2.s3, fun H3 q3 w3 s3 g3 c3 => ?_⟩
    have F3 := F2.same s3
    refine ⟨_, rfl, F3.s3, fun H4 q4 w4 s4 g4 c4 => rows_cat (s4 _ _ g3) (DpAll.same s4 c3) g4 c4 (by decide) fun q5 w5 H5 n5 s5 g5 c5 => ?_⟩
    have F5 := F3.same (s4.trans s5)
    refine ⟨_, rfl, F5.s3, fun H6 q6 w6 s6 g6 c6 => rows_cat (s6 _ _ g5) (DpAll.same s6 c5) g6 c6 (by decide) fun q7 w7 H7 n7 s7 g7 c7 => ?_⟩
    have F7 := F5.same (s6.trans s7)
    refine ⟨_, rfl, F7.s3, fun H8 q8 w8 s8 g8 c8 => rows_cat (s8 _ _ g7) (DpAll.same s8 c7) g8 c8 (by decide) fun q9 w9 H9 n9 s9 g9 c9 => ?_⟩
    have F8 := F7.same s8
    have F9 := F8.same s9
    have N9 := newN_of F8.e n9
    refine ⟨_, rfl, .inl ⟨rfl, _, SqL.of g9⟩, F9.s3, fun HA yA sA dA => ⟨q9, _, yA, rfl, rfl, sA _ _ g9, small1000 (by rw [c9.len]; decide), ?_⟩⟩
    have FA := (F9.same sA).lst (ys := w9 ++ [yA]) N9 (sA _ _ g9)
    have cA := DpAll.tk (tk_lst (ys := w9 ++ [yA]) (sA _ _ g9)) (by rfl) (DpAll.app (DpAll.same sA c9) (.cons dA .nil))
    have gA : (upd HA q9 (.lst (w9 ++ [yA]))) q9 = some (.lst (w9 ++ [yA])) := upd_same
    generalize upd HA q9 (.lst (w9 ++ [yA])) = HB at *
    generalize w9 ++ [yA] = wB at *
    refine ⟨_, rfl, FA.s3, fun HC qC wC sC gC cC => rows_cat (sC _ _ gA) (DpAll.same sC cA) gC cC (by decide) fun qD wD HD nD sD gD cD => ?_⟩
    have FD := FA.same (sC.trans sD)
    refine ⟨trivial, fun HE v4 sE dE => ?_⟩
    have FE := FD.same sE
    have dE : Dp K HE v4 pairM.toD := dE
    refine ⟨_, rfl, hm_cons rfl FE.d2 (hm_cons rfl dE hm_nil), fun HF qF wF sF gF cF => rows_cat (sF _ _ (sE _ _ gD)) (DpAll.same sF (DpAll.same sE cD)) gF cF (by decide) fun qG wG HG_ nG sG gG cG => ?_⟩
    have FG := FE.same (sF.trans sG)
    have cR : DpAll K HG_ wG (rowsM.map rowMD) := cG
    clear cG cF cD cC cA c9 c8 c7 c6 c5 c4 c3
    refine ⟨_, rfl, qG, rfl, ⟨_, SqL.of gG⟩, for_list (K := K) (a := qG) (xs := wG) (fun i σ H' => ∃ v5 v6, σ = [some v0, some v1, some v2, some (.ref qG), some v4, v5, v6, none, none, none, none] ∧ Same HG_ H') ⟨none, none, rfl, Same.refl _⟩ (fun i σ H' _ ⟨_, _, _, s⟩ => SqL.of (s _ _ gG)) ?_ ?_⟩
    · rintro i x σ H' hi ⟨v5, v6, rfl, sl⟩
      obtain ⟨d, hd, dv⟩ := DpAll.get cR hi
      rw [List.getElem?_map] at hd
      obtain ⟨row, hrow, rfl⟩ := Option.map_eq_some_iff.mp hd
      have rk := rowM_of (List.mem_of_getElem? hrow)
      obtain ⟨pr, xr, rfl, hpr, hxr⟩ := dv.tup_inv
      obtain ⟨a, b, rfl, da, db⟩ := dp_two hxr
      refine ⟨pr, _, rfl, sl.tup hpr, rfl, _, _, rfl, _, _, rfl, rfl, ?_⟩
      have sh := share_shows rk.1 rk.2
      have no : ∀ f, row.1.sh [] = .inr f → False := fun f ef => by rw [rk.2] at ef; cases ef
      have yes : ∀ zs, row.1.sh [] = .inl zs → zs = row.2.getD dueH := fun zs ez => by rw [rk.2] at ez; cases ez; rfl
      cases e2 : row.2 with
      | none =>
        rw [e2] at db sh yes
        cases db
        refine ⟨_, rfl, rfl, _, rfl, iteTe (decide_eq_true rfl) ⟨trivial, fun H2 u s2 du => ?_⟩⟩
        have du : Dp K H2 u (shD dueH) := du
        refine ⟨_, rfl, a, row.1, rfl, dp_same da (sl.trans s2), rk.1, fun H3 s3 => ⟨fun f ef => (no f ef).elim, fun zs ez c hc => ?_⟩⟩
        obtain rfl := yes zs ez
        exact ⟨.ref c, shD dueH, rfl, hc.sh.dp, sh.ok, sh.nd, sh.dp, sh.sz, _, rfl, u, shD dueH, rfl, dp_same du s3, sh.ok, sh.nd, sh.dp, sh.sz, rfl, _, rfl, iteFe (by simp) ⟨_, _, rfl, sl.trans (s2.trans s3)⟩⟩
      | some xs =>
        rw [e2] at db sh yes
        have db : Dp K HG_ b (shD xs) := db
        obtain ⟨bb, xb, rfl, _, _⟩ := db.tup_inv
        refine ⟨_, rfl, rfl, _, rfl, iteFe (decide_eq_false fun z => by cases z) ⟨_, rfl, ?_⟩⟩
        refine ⟨_, rfl, a, row.1, rfl, dp_same da sl, rk.1, fun H3 s3 => ⟨fun f ef => (no f ef).elim, fun zs ez c hc => ?_⟩⟩
        obtain rfl := yes zs ez
        exact ⟨.ref c, shD zs, rfl, hc.sh.dp, sh.ok, sh.nd, sh.dp, sh.sz, _, rfl, .ref bb, shD zs, rfl, dp_same db (sl.trans s3), sh.ok, sh.nd, sh.dp, sh.sz, rfl, _, rfl, iteFe (by simp) ⟨_, _, rfl, sl.trans s3⟩⟩
    rintro σ HI ⟨v5, v6, rfl, sI⟩
    have FI := FG.same sI
    have ga : ∀ t ∈ ([halfM, manyM 4, .moved_ bothM 99, .drawn_ bothM (-1) 2, .mixed_ (.drawn_ bothM (-5) 5) (.moved_ oneM 200), .mixed_ oneM (.scaled_ (.moved_ oneM (-200)) 1 2), .spread_ (manyM 4) 9 8 15, .spread_ (manyM 4) 9 1 11, .mixed_ (manyM 4) oneM] : List Mx), t.Good := fun t ht => Mx.good_of (List.all_eq_true.mp good_all t ht)
    refine ⟨trivial, fun HJ v7 sJ d7 => ?_⟩
    have d7 : Dp K HJ v7 halfM.toD := d7
    have FJ := FI.same sJ
    refine of_cut FJ.t rfl d7 (ga _ (by simp)) fun y8 HK e8 t8 d8 => ⟨trivial, fun HL uL sL dL => ?_⟩
    rw [due_bad half_sh] at d8
    refine ⟨_, _, dp_same d8 sL, dL, by decide +kernel, by decide +kernel, _, rfl, iteFe (by decide +kernel) ?_⟩
    have FL := (FJ.ext e8 t8).same sL
    refine ⟨trivial, fun HM vM sM dM => ?_⟩
    have FM := FL.same sM
    have dM : Dp K HM vM (manyM 0).toD := dM
    refine ⟨_, rfl, by decide, by decide, for_range (lo := 0) (n := 4) (fun i σ H' => ∃ v8 v9, σ = [some v0, some v1, some v2, some (.ref qG), some v4, v5, v6, some v7, some v8, v9, none] ∧ Same HM H' ∧ Dp K H' v8 (manyM i).toD) ⟨vM, none, rfl, Same.refl _, dM⟩ ?_ ?_⟩
    · rintro i σ HN hi ⟨v8, v9, rfl, sl, dm⟩
      rw [show (0 : Int) + (i : Int) = (i : Int) from Int.zero_add _]
      refine ⟨_, rfl, _, _, rfl, rfl, .inl (by decide), (by show 4 ≤ sizeLine; decide), fun a na => ?_⟩
      have ka := Same.new (o := .tup [V.str "point", V.int (10 * (i : Int)), V.int 1, V.int 1]) na
      refine ⟨_, rfl, _, _, rfl, rfl, .inl (by decide), _, rfl, _, _, rfl, rfl, .inl (by decide), _, _, rfl, rfl, _, rfl, _, _, rfl, rfl, .inl (by decide), _, _, rfl, rfl, (by show 5 ≤ sizeLine; decide), fun b nb => ⟨_, rfl, (by show 3 ≤ sizeLine; decide), fun c nc => ?_⟩⟩
      have kb := Same.new (o := .tup [V.str "spread", V.ref a, V.int (10 * (i : Int)), V.int (10 * (i : Int) - 1), V.int (10 * (i : Int) + 1)]) nb
      have kc := Same.new (o := .tup [V.str "mixed", V.ref b, v8]) nc
      refine ⟨_, _, rfl, sl.trans (ka.trans (kb.trans kc)), ?_⟩
      exact .tup (SqT.of upd_same) (.cons (.str _) (.cons (dp_same (.tup (SqT.of upd_same) (.cons (.str _) (.cons (dp_same (.tup (SqT.of upd_same) (.cons (.str _) (.cons (.int _) (.cons (.int _) (.cons (.int _) .nil))))) kb) (.cons (.int _) (.cons (.int _) (.cons (.int _) .nil)))))) kc) (.cons (dp_same dm (ka.trans (kb.trans kc))) .nil)))
    rintro σ HO ⟨v8, v9, rfl, sO, dO⟩
    have FO := FM.same sO
    refine ⟨_, rfl, v8, manyM 4, rfl, dO, ga _ (by simp), fun HP sP => ⟨fun f ef => ?_, fun zs ez c hc => ?_⟩⟩
    · exfalso
      have := many_sh
      rw [← Mx.shI_eq, ef] at this
      cases this
    have l8 : zs.length = 8 := by
      have := many_sh
      rw [← Mx.shI_eq, ez] at this
      exact this
    obtain ⟨c', xc, ec, hc1, hc2⟩ := hc.sh.dp.tup_inv
    cases ec
    have lx := hc2.len
    rw [List.length_map, l8] at lx
    refine ⟨c, xc, rfl, .inr hc1, ?_⟩
    refine ⟨rfl, _, rfl, iteFe (by rw [lx]; rfl) ?_⟩
    have FP := FO.same sP
    have dP := dp_same dO sP
    refine of_cutD FP.t (fun H1 e1 => hm_ext (hm_cons rfl dP (hm_cons rfl FP.d0 hm_nil)) e1) (ga _ (by simp)) fun y9 HQ e9 t9 _ d9 => ⟨trivial, fun HR uR sR dR => ?_⟩
    rw [due_bad farM] at d9
    refine ⟨_, _, dp_same d9 sR, dR, by decide +kernel, by decide +kernel, _, rfl, iteFe (by decide +kernel) ?_⟩
    have FR := (FP.ext e9 t9).same sR
    have dR8 := dp_same (dp_ext dP e9) sR
    clear dR d9 dL d8 hc1 hc2 hc lx xc
    refine of_cutD FR.t (fun H1 e1 => hm_ext FR.s3 e1) (ga _ (by simp)) fun z0 HS eS tS _ dS => ⟨(by show 1 ≤ sizeLine; decide), fun q nq => ?_⟩
    rw [due_bad far0] at dS
    have kT := Same.new (o := .lst [V.ref z0]) nq
    have F0 := (FR.ext eS tS).same kT
    have m0 := dp_same (dp_ext dR8 eS) kT
    have T0 : TG K H (upd HS q (.lst [V.ref z0])) q [V.ref z0] [badM []] := ⟨newN_of (FR.ext eS tS).e nq, upd_same, .cons (dp_same dS kT) .nil, by decide +kernel⟩
    generalize upd HS q (.lst [V.ref z0]) = G0 at *
    refine ⟨_, rfl, .inl ⟨rfl, _, SqL.of T0.g⟩, of_cutD F0.t (fun H1 e1 => hm_ext F0.s3 e1) (ga _ (by simp)) fun z1 X1 x1 tx1 nz1 dz1 => ⟨q, _, .ref z1, rfl, rfl, (T0.ext x1).g, (by show 1 < sizeLine; decide), ?_⟩⟩
    rw [due_bad far1] at dz1
    have F1 := (F0.ext x1 tx1).lst (ys := [V.ref z0] ++ [V.ref z1]) T0.n (T0.ext x1).g
    have m1 := Dp.tk (tk_lst (ys := [V.ref z0] ++ [V.ref z1]) (T0.ext x1).g) (Mx.flat_ _) (dp_ext m0 x1)
    have T1 := (T0.ext x1).add dz1 (by decide +kernel)
    generalize upd X1 q (.lst ([V.ref z0] ++ [V.ref z1])) = G1 at *
    refine ⟨_, rfl, .inl ⟨rfl, _, SqL.of T1.g⟩, of_cutD F1.t (fun H1 e1 => hm_ext F1.s3 e1) (ga _ (by simp)) fun z2 X2 x2 tx2 nz2 dz2 => ⟨q, _, .ref z2, rfl, rfl, (T1.ext x2).g, (by show 2 < sizeLine; decide), ?_⟩⟩
    rw [due_bad far2] at dz2
    have F2 := (F1.ext x2 tx2).lst (ys := ([V.ref z0] ++ [V.ref z1]) ++ [V.ref z2]) T1.n (T1.ext x2).g
    have m2 := Dp.tk (tk_lst (ys := ([V.ref z0] ++ [V.ref z1]) ++ [V.ref z2]) (T1.ext x2).g) (Mx.flat_ _) (dp_ext m1 x2)
    have T2 := (T1.ext x2).add dz2 (by decide +kernel)
    generalize upd X2 q (.lst (([V.ref z0] ++ [V.ref z1]) ++ [V.ref z2])) = G2 at *
    refine ⟨_, rfl, .inl ⟨rfl, _, SqL.of T2.g⟩, of_cutD F2.t (fun H1 e1 => hm_ext F2.s2 e1) (ga _ (by simp)) fun z3 X3 x3 tx3 nz3 dz3 => ⟨q, _, .ref z3, rfl, rfl, (T2.ext x3).g, (by show 3 < sizeLine; decide), ?_⟩⟩
    rw [due_bad far3] at dz3
    have F3 := (F2.ext x3 tx3).lst (ys := (([V.ref z0] ++ [V.ref z1]) ++ [V.ref z2]) ++ [V.ref z3]) T2.n (T2.ext x3).g
    have m3 := Dp.tk (tk_lst (ys := (([V.ref z0] ++ [V.ref z1]) ++ [V.ref z2]) ++ [V.ref z3]) (T2.ext x3).g) (Mx.flat_ _) (dp_ext m2 x3)
    have T3 := (T2.ext x3).add dz3 (by decide +kernel)
    generalize upd X3 q (.lst ((([V.ref z0] ++ [V.ref z1]) ++ [V.ref z2]) ++ [V.ref z3])) = G3 at *
    refine ⟨_, rfl, .inl ⟨rfl, _, SqL.of T3.g⟩, of_cutD F3.t (fun H1 e1 => hm_ext (hm_cons rfl m3 (hm_cons rfl F3.d0 hm_nil)) e1) (ga _ (by simp)) fun z4 X4 x4 tx4 nz4 dz4 => ⟨q, _, .ref z4, rfl, rfl, (T3.ext x4).g, (by show 4 < sizeLine; decide), ?_⟩⟩
    rw [due_bad far4] at dz4
    have F4 := (F3.ext x4 tx4).lst (ys := ((([V.ref z0] ++ [V.ref z1]) ++ [V.ref z2]) ++ [V.ref z3]) ++ [V.ref z4]) T3.n (T3.ext x4).g
    have m4 := Dp.tk (tk_lst (ys := ((([V.ref z0] ++ [V.ref z1]) ++ [V.ref z2]) ++ [V.ref z3]) ++ [V.ref z4]) (T3.ext x4).g) (Mx.flat_ _) (dp_ext m3 x4)
    have T4 := (T3.ext x4).add dz4 (by decide +kernel)
    generalize upd X4 q (.lst (((([V.ref z0] ++ [V.ref z1]) ++ [V.ref z2]) ++ [V.ref z3]) ++ [V.ref z4])) = G4 at *
    refine ⟨_, rfl, .inl ⟨rfl, _, SqL.of T4.g⟩, of_cutD F4.t (fun H1 e1 => hm_ext (hm_cons rfl m4 (hm_cons rfl F4.d0 hm_nil)) e1) (ga _ (by simp)) fun z5 X5 x5 tx5 nz5 dz5 => ⟨q, _, .ref z5, rfl, rfl, (T4.ext x5).g, (by show 5 < sizeLine; decide), ?_⟩⟩
    obtain ⟨zs, ez, l7⟩ : ∃ zs, (Mx.spread_ (manyM 4) 9 1 11).sh [] = .inl zs ∧ List.length zs = 7 := by
      have := far5
      rw [← Mx.shI_eq] at this
      cases e : (Mx.spread_ (manyM 4) 9 1 11).sh [] with
      | inl zs =>
        rw [e] at this
        exact ⟨zs, rfl, this⟩
      | inr f =>
        rw [e] at this
        cases this
    have dz5 : Dp K X5 (V.ref z5) (.list [shD zs]) := by
      have h := dz5
      unfold dueM at h
      rw [ez] at h
      exact h
    have g5 := (T4.ext x5).g
    have F5 := (F4.ext x5 tx5).lst (ys := ([V.ref z0] ++ [V.ref z1] ++ [V.ref z2] ++ [V.ref z3] ++ [V.ref z4]) ++ [V.ref z5]) T4.n g5
    have c5 := DpAll.tk (tk_lst (ys := ([V.ref z0] ++ [V.ref z1] ++ [V.ref z2] ++ [V.ref z3] ++ [V.ref z4]) ++ [V.ref z5]) g5) T4.f (T4.ext x5).d
    have y5 := dp_oneL (ys := ([V.ref z0] ++ [V.ref z1] ++ [V.ref z2] ++ [V.ref z3] ++ [V.ref z4]) ++ [V.ref z5]) dz5 (flat_share zs) (newN_ne nz5 T4.g) g5
    have g6 : (upd X5 q (.lst (([V.ref z0] ++ [V.ref z1] ++ [V.ref z2] ++ [V.ref z3] ++ [V.ref z4]) ++ [V.ref z5]))) q = some (.lst [V.ref z0, V.ref z1, V.ref z2, V.ref z3, V.ref z4, V.ref z5]) := upd_same
    generalize upd X5 q (.lst (([V.ref z0] ++ [V.ref z1] ++ [V.ref z2] ++ [V.ref z3] ++ [V.ref z4]) ++ [V.ref z5])) = G5 at *
    have c5 : DpAll K G5 [V.ref z0, V.ref z1, V.ref z2, V.ref z3, V.ref z4] [badM [], badM [], badM [1], badM [2, 1], badM []] := c5
    clear T0 T1 T2 T3 T4 F0 F1 F2 F3 F4 m0 m1 m2 m3 m4 dz1 dz2 dz3 dz4 dz5
    refine ⟨_, rfl, 4, rfl, q, _, rfl, SqL.of g6, fun p np => ?_⟩
    have k1 := Same.new (o := .lst (cutV [V.ref z0, V.ref z1, V.ref z2, V.ref z3, V.ref z4, V.ref z5] none (some 4))) np
    have b1 : (upd G5 p (.lst (cutV [V.ref z0, V.ref z1, V.ref z2, V.ref z3, V.ref z4, V.ref z5] none (some 4)))) p = some (.lst [V.ref z0, V.ref z1, V.ref z2, V.ref z3]) := by
      rw [upd_same]
      rfl
    generalize upd G5 p (.lst (cutV [V.ref z0, V.ref z1, V.ref z2, V.ref z3, V.ref z4, V.ref z5] none (some 4))) = G6 at *
    have c6 := DpAll.same k1 c5
    refine ⟨trivial, fun Ha qa wa sa ga2 ca => ?_⟩
    obtain ⟨wv, rfl, cw⟩ := dp_one ca
    refine ⟨qa, 2, _, rfl, rfl, ga2, by decide, by decide, (by show 2 ≤ sizeLine; decide), fun pb nb => ⟨trivial, fun Hc qc wc sc gc cc => ?_⟩⟩
    have kb := Same.new (o := .lst [wv, wv]) nb
    have gb : (upd Ha pb (.lst [wv, wv])) pb = some (.lst [wv, wv]) := upd_same
    have cwb := dp_same cw (kb.trans sc)
    refine rows_cat (sc _ _ gb) (.cons cwb (.cons cwb .nil)) gc cc (by decide) fun qd wd Hd nd sd gd cd => ?_
    have sAll := ((sa.trans kb).trans sc).trans sd
    have cD := DpAll.same sAll c6
    have told : Dp K Hd (.ref p) (.list [badM [], badM [], badM [1], badM [2, 1]]) := .lst (SqL.of (sAll _ _ b1)) (by
      cases cD with
      | cons x0 cD =>
        cases cD with
        | cons x1 cD =>
          cases cD with
          | cons x2 cD =>
            cases cD with
            | cons x3 cD => exact .cons x0 (.cons x1 (.cons x2 (.cons x3 .nil))))
    refine ⟨_, _, told, .lst (SqL.of gd) cd, by decide +kernel, by decide +kernel, _, rfl, iteFe (by decide +kernel) ?_⟩
    have gq := (k1.trans sAll) _ _ g6
    have x4 : Dp K Hd (.ref z4) (badM []) := by
      obtain ⟨d, hd, h⟩ := DpAll.get cD (i := 4) (v := .ref z4) rfl
      cases hd
      exact h
    have y6 := dp_same y5 (k1.trans sAll)
    refine ⟨_, rfl, q, _, 4, _, rfl, rfl, SqL.of gq, atI_nat (j := 4) rfl, trivial, fun Hf uf sf df => ?_⟩
    refine ⟨_, _, dp_same x4 sf, df, by decide +kernel, by decide +kernel, true, by decide +kernel, iteT ?_⟩
    obtain ⟨v, hv, dv⟩ := dp_lst1 (dp_same y6 sf)
    obtain ⟨cv, xv, rfl, hcv, hxv⟩ := dv.tup_inv
    have lv := hxv.len
    rw [List.length_map, l7] at lv
    refine ⟨_, rfl, q, _, 5, _, rfl, rfl, SqL.of (sf _ _ gq), atI_nat (j := 5) rfl, z5, _, 0, _, rfl, rfl, hv, atI_nat (j := 0) rfl, cv, xv, rfl, .inr hcv, ?_⟩
    rw [lv]
    have sF := (k1.trans sAll).trans sf
    exact ⟨rfl, k _ (F5.same sF).e (F5.same sF).t⟩
end
end CS
set_option Elab.async false
set_option maxRecDepth 100000
set_option maxHeartbeats 4000000
set_option linter.unusedVariables false
/-! the end of a law whose defs make lambdas and call repr -/
namespace CS
open PySem PySem.Spec PyProof.Rows L2 LamX
/-- what is tracked ahead of the law's call: its script, and the tables of code objects -/
def scriptT (K : PySem.W.Frag) (a : Addr) (vs : List Value) (ns : List Int) (cs : List (Addr × Addr)) : Hp := fun b => if b = a ∧ K.lookup a = none then some (.frz { cls := .type "list", data := .seq vs.toArray } (.lst (ns.map V.int))) else if b ∈ cs.map (·.2) then some (.tbl #[]) else none
section
variable {P : Program} {w : World} {K : PySem.W.Frag} {mg mb : Str → Option Value} {k : Nat} {fa a : Addr} {fd : FuncData} {x : Str} {sp : Sp} {s₁ : Shared} {vs : List Value} {ns : List Int} {cs : List (Addr × Addr)}
theorem scriptT_of {b : Addr} {u : HO} (e : scriptT K a vs ns cs b = some u) : (b = a ∧ K.lookup a = none ∧ u = .frz { cls := .type "list", data := .seq vs.toArray } (.lst (ns.map V.int))) ∨ ∃ p ∈ cs, p.2 = b ∧ u = .tbl #[] := by
  unfold scriptT at e
  split at e
  · next z => exact .inl ⟨z.1, z.2, (Option.some.inj e).symm⟩
  · split at e
    · next z =>
      obtain ⟨p, hp, q⟩ := List.mem_map.mp z
      exact .inr ⟨p, hp, q, (Option.some.inj e).symm⟩
    · cases e
theorem scriptT_sq (KX : K.In s₁.heap) (ha : s₁.heap.get? a = some { cls := .type "list", data := .seq vs.toArray }) (hi : IntsAre vs ns) (hl : ns.length ≤ sizeLine) : SqL K (scriptT K a vs ns cs) a (ns.map V.int) := by
  cases e : K.lookup a with
  | none => exact .inl (.inr ⟨_, if_pos ⟨rfl, e⟩⟩)
  | some o =>
    have g := KX a o e
    rw [ha] at g
    cases g
    have l := hi.length
    exact .inr ⟨_, vs.toArray, _, e, rfl, rfl, rfl, by rw [List.size_toArray]; omega, by simpa using vals_ints hi⟩
/-- the law's call ends with True, and what stood stands, but for the tables -/
theorem law_stillTs (KX : K.In s₁.heap) (hns : s₁.heap.Ns mainGlobals mg) (hb : s₁.heap.Ns builtinsNs mb) (hbb : ∀ x : Str, x ≠ "__name__" → mb x = bootBuiltins x) (hlim : s₁.heap.NoLimit) (hg : s₁.gens = #[])
    (ht : ∀ p ∈ cs, s₁.heap.get? p.2 = some { cls := .none, data := .fields #[] }) (hk : ∀ p ∈ cs, K.lookup p.2 = none) (hc : ∀ p ∈ cs, PySem.W.CodeHd s₁.heap p.1 p.2)
    (hbm : ∃ bm ob, mg "__builtins__" = some (.ref bm) ∧ bm ≠ builtinsNs ∧ s₁.heap.get? bm = some ob ∧ ob.cls = .type "module" ∧ ob.dict = some builtinsNs ∧ ob.data = .plain)
    (ha : s₁.heap.get? a = some { cls := .type "list", data := .seq vs.toArray }) (hi : IntsAre vs ns) (hl : ns.length ≤ sizeLine) (hr : Room k callerA)
    (F : ∀ base : Heap, K.In base → base.Ns mainGlobals mg → (∀ p ∈ cs, TabB base mg p.1 p.2) → FnG P w K mg base CX0 k fa fd [x] sp) (bind : ∀ (s : Shared) (u : Value), BindsTo s fd ⟨[u], []⟩ [(x, u)])
    (hsp : ∀ H : Hp, (∀ p ∈ cs, H p.2 = some (.tbl #[])) → SqL K H a (ns.map V.int) → sp [.ref a] H (fun v _ => v = .bl true) E0) :
    codeAny (model P w) callerA (.call (.ref fa) ⟨[.ref a], []⟩) (fun r s' => r = .ok (.ret (.bool true)) ∧ OldK s₁.heap s'.heap ∧ s'.os = s₁.os ∧ AllBare s'.gens) s₁ := by
  obtain ⟨H, eH⟩ : ∃ H, H = scriptT K a vs ns cs := ⟨_, rfl⟩
  have sq : SqL K H a (ns.map V.int) := by rw [eH]; exact scriptT_sq KX ha hi hl
  have only : ∀ {b u}, H b = some u → (b = a ∧ K.lookup a = none ∧ u = .frz { cls := .type "list", data := .seq vs.toArray } (.lst (ns.map V.int))) ∨ ∃ p ∈ cs, p.2 = b ∧ u = .tbl #[] := fun e => scriptT_of (by rw [← eH]; exact e)
  have nea : ∀ p ∈ cs, p.2 ≠ a := fun p hp e => by
    have := ht p hp
    rw [e, ha] at this
    cases this
  have tbl : ∀ p ∈ cs, H p.2 = some (.tbl #[]) := fun p hp => by
    rw [eH]
    unfold scriptT
    rw [if_neg fun z => nea p hp z.1, if_pos (List.mem_map.mpr ⟨p, hp, rfl⟩)]
  have ok : HOk P w H s₁.heap := by
    intro b u e
    rcases only e with ⟨rfl, _, rfl⟩ | ⟨p, hp, rfl, rfl⟩
    · exact ⟨ha, by rw [List.length_map]; exact hl, vs, _, vals_ints hi, ha⟩
    · exact ht p hp
  have stays : ∀ {b : Addr} {ob : Obj}, s₁.heap.get? b = some ob → (b = a → K.lookup a ≠ none) → (∀ p ∈ cs, p.2 ≠ b) → (hidT s₁.heap H).get? b = some ob := fun {b ob} e n n2 => hidT_get e (by
    cases q : H b with
    | none => rfl
    | some u =>
      rcases only q with ⟨e1, e2, _⟩ | ⟨p, hp, e1, _⟩
      · exact absurd e2 (n e1)
      · exact absurd e1 (n2 p hp))
  have names : ∀ {b : Addr} {m : Str → Option Value}, s₁.heap.Ns b m → (hidT s₁.heap H).Ns b m := by
    rintro b m ⟨ob, es, ep, e, ed, r⟩
    refine ⟨ob, es, ep, stays e (fun z => ?_) (fun p hp z => ?_), ed, r⟩
    · subst z
      rw [ha] at e
      cases e
      cases ed
    · subst z
      rw [ht p hp] at e
      cases e
      cases ed
  have inn : K.In (hidT s₁.heap H) := fun b ob e => stays (KX b ob e) (fun z => by rw [← z, e]; exact fun y => nomatch y) fun p hp z => by
    have := hk p hp
    rw [z, e] at this
    cases this
  have codes : ∀ p ∈ cs, PySem.W.CodeHd (hidT s₁.heap H) p.1 p.2 := fun p hp => by
    obtain ⟨o, vs1, file, tf, flags, tg, inF, text, tt, g, cl, r⟩ := hc p hp
    refine ⟨o, vs1, file, tf, flags, tg, inF, text, tt, stays g (fun z => ?_) (fun p2 hp2 z => ?_), cl, r⟩
    · rw [z, ha] at g
      cases g
      exact absurd (show Value.type "list" = Value.type "code" from cl) (by decide +kernel)
    · rw [← z, ht p2 hp2] at g
      cases g
      exact absurd (show Value.none = Value.type "code" from cl) (by decide +kernel)
  have tabs : ∀ p ∈ cs, TabB (hidT s₁.heap H) mg p.1 p.2 := fun p hp => by
    obtain ⟨bm, ob, m1, m2, m3, m4, m5, m6⟩ := hbm
    have glob : ∀ {q : Addr} {o : Obj}, s₁.heap.get? q = some o → (∀ es ep, o.data ≠ .dict es ep) → mainGlobals ≠ q := by
      rintro q o e n rfl
      obtain ⟨ob2, es, ep, e2, ed, _⟩ := hns
      rw [e] at e2
      cases e2
      exact n _ _ ed
    refine ⟨codes p hp, ⟨bm, ob, m1, m2, ?_, ?_, stays m3 (fun z => ?_) (fun p2 hp2 z => ?_), m4, m5, m6⟩, glob (ht p hp) fun _ _ z => by cases z⟩
    · exact (glob m3 fun es ep z => by rw [m6] at z; cases z).symm
    · intro z
      rw [z, ht p hp] at m3
      cases m3
      cases m6
    · rw [z, ha] at m3
      cases m3
      cases m6
    · rw [← z, ht p2 hp2] at m3
      cases m3
      cases m6
  obtain ⟨mc, l1, l2⟩ := hlim
  have env : Env0 P w K mg (hidT s₁.heap H) callerA [] s₁ H := by
    refine ⟨rfl, ⟨inn, names hns, ⟨mb, names hb, hbb⟩, ⟨mc, names l1, l2⟩⟩, fun b ob e => of_hidT e, Nat.le_of_eq (hidT_size _ _), trivial, fun b hb => ?_, ok, .of_eq hg⟩
    exact (List.not_mem_nil hb).elim
  have ready : Quiet P w K mg (hidT s₁.heap H) k fd [x] callerA [] s₁ H ⟨[.ref a], []⟩ [.ref a] [.ref a] := ⟨still_caller, hr, env, bind s₁ (.ref a), .cons rfl .nil⟩
  refine codeAny_mono ((F _ inn (names hns) tabs).go ready (hsp H tbl sq)) fun r s' z => ?_
  match r, z with
  | .error _, z => exact z.elim
  | .ok .next, z => exact z.elim
  | .ok .brk, z => exact z.elim
  | .ok .cont, z => exact z.elim
  | .ok (.ret u), ⟨v, H', os, bare, un, ok', rv, ev⟩ =>
    subst ev
    cases rv
    have it : ∀ (b : Addr) (o : Obj), s₁.heap.get? b = some o → asItWas s₁.heap s'.heap b o := fun b ob e => by
      cases q : H b with
      | none => exact .inl (un.keep b ob e q (fun z => (List.not_mem_nil z).elim) (by simp))
      | some u =>
        rcases only q with ⟨rfl, _, rfl⟩ | ⟨p, hp, rfl, rfl⟩
        · rw [ha] at e
          cases e
          exact .inl (ok' _ _ (un.frzs _ _ _ q)).1
        · rw [ht p hp] at e
          cases e
          obtain ⟨more, hm⟩ := un.tbls _ _ q
          have hm2 := ok' _ _ hm
          refine .inr (.inl ⟨?_, rfl, #[], more, rfl, hm2⟩)
          obtain ⟨o, vs1, file, tf, flags, tg, inF, text, tt, g, cl, dt, pl, r⟩ := hc p hp
          exact ⟨p.1, o, vs1, g, cl, dt, pl⟩
    refine ⟨rfl, ⟨it, fun b ob e => ?_⟩, os, bare⟩
    rcases it b ob e with z | ⟨_, _, _, _, _, z⟩ | ⟨_, _, ⟨o', _, _, z, _⟩, _⟩
    · exact ⟨_, z⟩
    · exact ⟨_, z⟩
    · exact ⟨_, z⟩
end
/-- what is to be told of a law's def, for its end -/
def LawAtG (l : PySem.W.OpenLaw) (w : World) (K : PySem.W.Frag) (k n : Nat) (x : Str) (mg : Str → Option Value) (fa : Addr) (h : Heap) : Prop :=
  ∃ (fd : FuncData) (cs : List (Addr × Addr)) (sp : Sp), (∀ p ∈ cs, h.get? p.2 = some { cls := .none, data := .fields #[] }) ∧ (∀ p ∈ cs, K.lookup p.2 = none) ∧ (∀ p ∈ cs, PySem.W.CodeHd h p.1 p.2) ∧
    (∀ (s : Shared) (u : Value), BindsTo s fd ⟨[u], []⟩ [(x, u)]) ∧ (∀ (H : Hp) (a : Addr) (ns : List Int), ns.length ≤ n → (∀ p ∈ cs, H p.2 = some (.tbl #[])) → SqL K H a (ns.map V.int) → sp [.ref a] H (fun v _ => v = .bl true) E0) ∧
    ∀ base : Heap, K.In base → base.Ns mainGlobals mg → (∀ p ∈ cs, TabB base mg p.1 p.2) → FnG l.prog w K mg base CX0 k fa fd [x] sp
theorem walk_stillTs {l : PySem.W.OpenLaw} {n k : Nat} {q : Program} {loose : List Str} {XP : (Str → Option Value) → Heap → Prop} {YP : World → Heap → Prop} {d : DefRec} {K : Params → PySem.W.Frag} {x : Str} (hn : l.most = some n) (hn2 : n ≤ sizeLine) (hdf : d.params.defaults = []) (hr : Room k callerA)
    (hY : ∀ (w : World) (h : Heap), YP w h → (K w.params).In h)
    (F : ∀ (w : World) (mg : Str → Option Value) (fa : Addr) (h : Heap), YP w h → (K w.params).In h → h.Ns mainGlobals mg → mg d.name = some (.ref fa) → LawAtG l w (K w.params) k n x mg fa h) :
    PySem.W.WalkO q loose XP YP l.row.toRowW d [] (fun f vs => PySem.call f vs) := by
  refine Att.attach_call hn hdf fun w s₀ s₁ mg mb fa o pm cd doc a vs ns gr y ho hd hcd hmg hobj hints hlen hg => ?_
  obtain ⟨fd, cs, sp, t1, t2, t3, hb, hs, hF⟩ := F w mg fa _ y (hY w _ y) gr.T.g hmg
  exact law_stillTs (hY w _ y) gr.T.g gr.T.b gr.T.builtins gr.T.nolimit hg t1 t2 t3 gr.T.bmain hobj hints (Nat.le_trans hlen hn2) hr hF hb fun H hT hS => hs H a ns hlen hT hS
end CS
set_option Elab.async false
set_option maxRecDepth 100000
set_option maxHeartbeats 8000000
set_option linter.unusedVariables false
set_option pp.maxSteps 6000
/-! the law -/
namespace CS
open PySem L2 RZ LamX
section
variable {X : Cx} {CX : CXT} {k : Nat} {f : Addr} {fd : FuncData} {sp : Sp} {E : XK} {x : Str} {p pos : PySem.Pos}
/-- f() where no repr is under way -/
theorem pe_callG0 (F : FnG X.prog X.w X.K X.mg X.base CX k f fd [] sp) (hq : X.A.guards = some []) (hr : Room k X.A) (hg : Gl X x) (hm : X.mg x = some (.ref f)) (hk : PySem.W.keepIn X.K (.ref f) = true) (hb : Binds X.K fd [] []) (hx : Passes CX X E)
    (hdb : (x == ("__debug__" : Str)) = false := by decide) : PE X (.Call (.Name x p) [] [] pos) (tCall sp [] E tNil) := by
  constructor
  intro pins s σ H Q I h
  have now2 : sp [] H Q E := h
  have b2 : BindsTo s fd ⟨[], []⟩ [] := hb s [] I.kIn rfl
  refine wpAny_Call_Name_kw (ld_glob I hg hm (PySem.W.callWith_K0 I.kIn hk ?_) hdb)
  refine wpAny_call (codeAny_mono (F.go (us := []) (vs := []) ⟨hq, hr, I.env0, b2, .nil⟩ now2) fun r s' z => ?_)
  match r, z with
  | .error er, z => exact hx pins σ H s er s' I z
  | .ok (.ret u), z => exact I.after z
  | .ok .next, z => exact z.elim
  | .ok .brk, z => exact z.elim
  | .ok .cont, z => exact z.elim
end
section
variable {P : Program} {w : World} {K : PySem.W.Frag} {mg : Str → Option Value} {base : Heap}
def spLaw27 (K : PySem.W.Frag) (TT : List (Addr × Str)) : Sp := fun vs H Q _ => ∃ (a : Addr) (ns : List Int), vs = [.ref a] ∧ SqL K H a (ns.map V.int) ∧ ns.length ≤ 63 ∧ Tabs TT H ∧ ∀ H', Q (.bl true) H'
variable {TT : List (Addr × Str)}
abbrev nsLaw : List Str := ["script", "state", "turn"]
theorem scLaw : FnScope nsLaw ["script"] (defScope sLaw) := ⟨rfl, rfl, rfl, by decide +kernel, rfl, by decide +kernel, by decide +kernel⟩
theorem ok_law {f : Addr} {fd : FuncData} (F : Df K mg "law" sLaw ["script"] f fd)
    {f1 : Addr} {fd1 : FuncData} (D1 : Df K mg "_law_hand_right" sLawHandRight [] f1 fd1) (G1 : FnG P w K mg base CX0 21 f1 fd1 [] (spHandM K TT))
    {f2 : Addr} {fd2 : FuncData} (D2 : Df K mg "_law_is_right" sLawIsRight ["mix_so"] f2 fd2) (G2 : FnG P w K mg base CX0 21 f2 fd2 ["mix_so"] (spLRight K TT))
    {f3 : Addr} {fd3 : FuncData} (D3 : Df K mg "_law_mix" sLawMix ["state", "deep"] f3 fd3) (G3 : FnOk P w K mg base CX0 7 f3 fd3 ["state", "deep"] (spMix K 3))
    {f4 : Addr} {fd4 : FuncData} (D4 : Df K mg "_law_begin" sBegin ["script"] f4 fd4) (G4 : FnOk P w K mg base CX0 1 f4 fd4 ["script"] (spBegin K))
    (T : Bt mg) (mmin : mg "min" = none) : FnG P w K mg base CX0 22 f fd ["script"] (spLaw27 K TT) := by
  refine FnG.of_body F.F scLaw (fun vs H Q E h => ?_) (fun cdv A outer s H vs Q E hq hr h => ?_)
  · obtain ⟨a, ns, rfl, _⟩ := h
    rfl
  · obtain ⟨a, ns, rfl, hS, hlen, hT, k⟩ := h
    have hq2 : (A.deeper (PyProof.Rows.envOfC "law" (defScope sLaw) s.heap.objs.size f cdv)).guards = some [] := hq
    refine ⟨_, PSs.nox (pss_cons (ps_set (i := 1) scLaw.nd rfl (Or.inl rfl) (pe_call G4 (hr.mono (by decide)) (by rfl) D4.g D4.F.kp D4.b .nil pass0 (pa_cons (pv 0) pa_nil)))
      (pss_cons (ps_for PassesOwn.never rfl (pi_range1 (by rfl) T.range (pa_cons (pe_op op_add pe_int (pe_callB (call_min2 rfl) (by rfl) mmin (by decide +kernel) (pa_cons (pe_callB call_len_seq (by rfl) T.len PySem.boot_len (pa_cons (pv 0) pa_nil)) (pa_cons pe_int pa_nil)))) pa_nil)) (pg_name (i := 2) scLaw.nd rfl (Or.inl rfl)) (pss_one (ps_if (pt_not (pt_val (pe_callG G2 hq2 (hr.mono (by decide)) (by rfl) D2.g D2.F.kp D2.b pass0 (pa_cons (pe_call G3 (hr.mono (by decide)) (by rfl) D3.g D3.F.kp D3.b .nil pass0 (pa_cons (pv 1) (pa_cons pe_int pa_nil))) pa_nil)))) (pss_one (ps_ret pe_bl)) pss_nil)))
      (pss_one (ps_ret (pe_callG0 G1 hq2 (hr.mono (by decide)) (by rfl) D1.g D1.F.kp D1.b pass0))))), ?_⟩
    refine ⟨_, rfl, a, ns, rfl, hS, hlen, fun d c l H1 nd s1 S1 => ?_⟩
    have m10 : (if (10 : Int) < ((ns.length : Nat) : Int) then (10 : Int) else ((ns.length : Nat) : Int)) ≤ 10 ∧ 0 ≤ (if (10 : Int) < ((ns.length : Nat) : Int) then (10 : Int) else ((ns.length : Nat) : Int)) := by split <;> omega
    have t60 : mixN 3 = 60 := by decide
    have d44 : dNM 3 = 44 := by decide
    refine ⟨_, rfl, a, _, rfl, .inl (s1.seq hS), _, 10, rfl, _, _, rfl, rfl, _, rfl, ?_, ?_, for_range (lo := 0) (fun i σ H' => ∃ v2 kk, σ = [some (.ref a), some (.ref d), v2] ∧ StAt H' d c l kk ∧ kk ≤ 60 * i ∧ Tabs TT H') ⟨none, 0, rfl, S1, by omega, hT.ext s1⟩ ?_ ?_⟩
    · rw [List.length_map]
      have := m10
      omega
    · rw [List.length_map]
      have := m10
      omega
    · rintro i σ H2 hi ⟨v2, kk, rfl, S2, hk, t2⟩
      rw [List.length_map] at hi
      refine ⟨_, rfl, d, c, l, kk, rfl, S2, by omega, fun H3 u t k3 tok ti h4 w15 dB vB hk3 S3 fm du => ?_⟩
      exact ⟨u, t, rfl, du, tok, ti, by omega, by omega, by omega, by omega, tabs_fm t2 fm S2, fun H4 e4 t4 => ⟨_, rfl, iteF ⟨_, k3, rfl, S3.ext e4, by omega, t4⟩⟩⟩
    · rintro σ H2 ⟨v2, kk, rfl, S2, hk, t2⟩
      exact ⟨(), rfl, t2, fun H' _ _ => k H'⟩
end
end CS
set_option Elab.async false
set_option maxRecDepth 100000
set_option linter.unusedVariables false
namespace CS
open PySem L2 LamX
set_option maxHeartbeats 16000000 in
theorem all_mk {l : PySem.W.OpenLaw} {w : World} {K : PySem.W.Frag} {h : Heap} {mg : Str → Option Value} {fa fAscends fIsRowOf fIsRow fIsWholeWithin fIsWhole fIsNumber fIsFraction fIsWeight fIsSharePair fIsShare fAdded fLowered fGathered fDivided fSumOf fScaled fMomentOf fTotalOf fDrawn fMultiplied fSpread fMultipliedAll fMoved fMade fKidPlaces fShareAt fIsInOrder fMayStand fIsWord fIsFormed fFaultIn fShareOf fLawHandRight fLawHeard fLawUnder fLawPlus fLawRatio fLawSum fLawTimes fLawRest fLawMoment fLawTotal fLawLacks fLawShareOf fLawJoined fLawOver fLawDrawn fLawLess fLawSpread fLawOneOf fLawInner fLawShared fNeedMix fPartsOf fLawIsRight fDraw fMixed fLawOf fLawMix fBegin fLaw fN aB bN bD bX bA bM aT : Addr} (X : K.In h) (G : h.Ns mainGlobals mg) (hfa : mg "law" = some (.ref fa))
    {odAscends anAscends : Option Addr} {slAscends : Array (Option Value)} {ocAscends kVAscends dcAscends pmAscends ctAscends : Value} {cdAscends : Value} (aAscends : PySem.W.nsIn K mainGlobals "ascends" = some (some (.ref fAscends))) (lAscends : K.lookup fAscends = some ⟨ocAscends, odAscends, .func (PySem.W.fnOf "ascends" "ascends" (defArgs sAscends) (defBody sAscends) (defScope sAscends) .none kVAscends dcAscends pmAscends anAscends cdAscends ctAscends), slAscends⟩) (cAscends : PySem.W.codeIn K cdAscends "ascends" = true) (kAscends : PySem.W.keepIn K (.ref fAscends) = true)
    {odIsRowOf anIsRowOf : Option Addr} {slIsRowOf : Array (Option Value)} {ocIsRowOf kVIsRowOf dcIsRowOf pmIsRowOf ctIsRowOf : Value} {cdIsRowOf : Value} (aIsRowOf : PySem.W.nsIn K mainGlobals "is_row_of" = some (some (.ref fIsRowOf))) (lIsRowOf : K.lookup fIsRowOf = some ⟨ocIsRowOf, odIsRowOf, .func (PySem.W.fnOf "is_row_of" "is_row_of" (defArgs sIsRowOf) (defBody sIsRowOf) (defScope sIsRowOf) .none kVIsRowOf dcIsRowOf pmIsRowOf anIsRowOf cdIsRowOf ctIsRowOf), slIsRowOf⟩) (cIsRowOf : PySem.W.codeIn K cdIsRowOf "is_row_of" = true) (kIsRowOf : PySem.W.keepIn K (.ref fIsRowOf) = true)
    {odIsRow anIsRow : Option Addr} {slIsRow : Array (Option Value)} {ocIsRow kVIsRow dcIsRow pmIsRow ctIsRow : Value} {cdIsRow : Value} (aIsRow : PySem.W.nsIn K mainGlobals "is_row" = some (some (.ref fIsRow))) (lIsRow : K.lookup fIsRow = some ⟨ocIsRow, odIsRow, .func (PySem.W.fnOf "is_row" "is_row" (defArgs sIsRow) (defBody sIsRow) (defScope sIsRow) .none kVIsRow dcIsRow pmIsRow anIsRow cdIsRow ctIsRow), slIsRow⟩) (cIsRow : PySem.W.codeIn K cdIsRow "is_row" = true) (kIsRow : PySem.W.keepIn K (.ref fIsRow) = true)
    {odIsWholeWithin anIsWholeWithin : Option Addr} {slIsWholeWithin : Array (Option Value)} {ocIsWholeWithin kVIsWholeWithin dcIsWholeWithin pmIsWholeWithin ctIsWholeWithin : Value} {cdIsWholeWithin : Value} (aIsWholeWithin : PySem.W.nsIn K mainGlobals "is_whole_within" = some (some (.ref fIsWholeWithin))) (lIsWholeWithin : K.lookup fIsWholeWithin = some ⟨ocIsWholeWithin, odIsWholeWithin, .func (PySem.W.fnOf "is_whole_within" "is_whole_within" (defArgs sIsWholeWithin) (defBody sIsWholeWithin) (defScope sIsWholeWithin) .none kVIsWholeWithin dcIsWholeWithin pmIsWholeWithin anIsWholeWithin cdIsWholeWithin ctIsWholeWithin), slIsWholeWithin⟩) (cIsWholeWithin : PySem.W.codeIn K cdIsWholeWithin "is_whole_within" = true) (kIsWholeWithin : PySem.W.keepIn K (.ref fIsWholeWithin) = true)
    {odIsWhole anIsWhole : Option Addr} {slIsWhole : Array (Option Value)} {ocIsWhole kVIsWhole dcIsWhole pmIsWhole ctIsWhole : Value} {cdIsWhole : Value} (aIsWhole : PySem.W.nsIn K mainGlobals "is_whole" = some (some (.ref fIsWhole))) (lIsWhole : K.lookup fIsWhole = some ⟨ocIsWhole, odIsWhole, .func (PySem.W.fnOf "is_whole" "is_whole" (defArgs sIsWhole) (defBody sIsWhole) (defScope sIsWhole) .none kVIsWhole dcIsWhole pmIsWhole anIsWhole cdIsWhole ctIsWhole), slIsWhole⟩) (cIsWhole : PySem.W.codeIn K cdIsWhole "is_whole" = true) (kIsWhole : PySem.W.keepIn K (.ref fIsWhole) = true)
    {odIsNumber anIsNumber : Option Addr} {slIsNumber : Array (Option Value)} {ocIsNumber kVIsNumber dcIsNumber pmIsNumber ctIsNumber : Value} {cdIsNumber : Value} (aIsNumber : PySem.W.nsIn K mainGlobals "is_number" = some (some (.ref fIsNumber))) (lIsNumber : K.lookup fIsNumber = some ⟨ocIsNumber, odIsNumber, .func (PySem.W.fnOf "is_number" "is_number" (defArgs sIsNumber) (defBody sIsNumber) (defScope sIsNumber) .none kVIsNumber dcIsNumber pmIsNumber anIsNumber cdIsNumber ctIsNumber), slIsNumber⟩) (cIsNumber : PySem.W.codeIn K cdIsNumber "is_number" = true) (kIsNumber : PySem.W.keepIn K (.ref fIsNumber) = true)
    {odIsFraction anIsFraction : Option Addr} {slIsFraction : Array (Option Value)} {ocIsFraction kVIsFraction dcIsFraction pmIsFraction ctIsFraction : Value} {cdIsFraction : Value} (aIsFraction : PySem.W.nsIn K mainGlobals "is_fraction" = some (some (.ref fIsFraction))) (lIsFraction : K.lookup fIsFraction = some ⟨ocIsFraction, odIsFraction, .func (PySem.W.fnOf "is_fraction" "is_fraction" (defArgs sIsFraction) (defBody sIsFraction) (defScope sIsFraction) .none kVIsFraction dcIsFraction pmIsFraction anIsFraction cdIsFraction ctIsFraction), slIsFraction⟩) (cIsFraction : PySem.W.codeIn K cdIsFraction "is_fraction" = true) (kIsFraction : PySem.W.keepIn K (.ref fIsFraction) = true)
    {odIsWeight anIsWeight : Option Addr} {slIsWeight : Array (Option Value)} {ocIsWeight kVIsWeight dcIsWeight pmIsWeight ctIsWeight : Value} {cdIsWeight : Value} (aIsWeight : PySem.W.nsIn K mainGlobals "is_weight" = some (some (.ref fIsWeight))) (lIsWeight : K.lookup fIsWeight = some ⟨ocIsWeight, odIsWeight, .func (PySem.W.fnOf "is_weight" "is_weight" (defArgs sIsWeight) (defBody sIsWeight) (defScope sIsWeight) .none kVIsWeight dcIsWeight pmIsWeight anIsWeight cdIsWeight ctIsWeight), slIsWeight⟩) (cIsWeight : PySem.W.codeIn K cdIsWeight "is_weight" = true) (kIsWeight : PySem.W.keepIn K (.ref fIsWeight) = true)
    {odIsSharePair anIsSharePair : Option Addr} {slIsSharePair : Array (Option Value)} {ocIsSharePair kVIsSharePair dcIsSharePair pmIsSharePair ctIsSharePair : Value} {cdIsSharePair : Value} (aIsSharePair : PySem.W.nsIn K mainGlobals "is_share_pair" = some (some (.ref fIsSharePair))) (lIsSharePair : K.lookup fIsSharePair = some ⟨ocIsSharePair, odIsSharePair, .func (PySem.W.fnOf "is_share_pair" "is_share_pair" (defArgs sIsSharePair) (defBody sIsSharePair) (defScope sIsSharePair) .none kVIsSharePair dcIsSharePair pmIsSharePair anIsSharePair cdIsSharePair ctIsSharePair), slIsSharePair⟩) (cIsSharePair : PySem.W.codeIn K cdIsSharePair "is_share_pair" = true) (kIsSharePair : PySem.W.keepIn K (.ref fIsSharePair) = true)
    {odIsShare anIsShare : Option Addr} {slIsShare : Array (Option Value)} {ocIsShare kVIsShare dcIsShare pmIsShare ctIsShare : Value} {cdIsShare : Value} (aIsShare : PySem.W.nsIn K mainGlobals "is_share" = some (some (.ref fIsShare))) (lIsShare : K.lookup fIsShare = some ⟨ocIsShare, odIsShare, .func (PySem.W.fnOf "is_share" "is_share" (defArgs sIsShare) (defBody sIsShare) (defScope sIsShare) .none kVIsShare dcIsShare pmIsShare anIsShare cdIsShare ctIsShare), slIsShare⟩) (cIsShare : PySem.W.codeIn K cdIsShare "is_share" = true) (kIsShare : PySem.W.keepIn K (.ref fIsShare) = true)
    {odAdded anAdded : Option Addr} {slAdded : Array (Option Value)} {ocAdded kVAdded dcAdded pmAdded ctAdded : Value} {cdAdded : Value} (aAdded : PySem.W.nsIn K mainGlobals "added" = some (some (.ref fAdded))) (lAdded : K.lookup fAdded = some ⟨ocAdded, odAdded, .func (PySem.W.fnOf "added" "added" (defArgs sAdded) (defBody sAdded) (defScope sAdded) .none kVAdded dcAdded pmAdded anAdded cdAdded ctAdded), slAdded⟩) (cAdded : PySem.W.codeIn K cdAdded "added" = true) (kAdded : PySem.W.keepIn K (.ref fAdded) = true)
    {odLowered anLowered : Option Addr} {slLowered : Array (Option Value)} {ocLowered kVLowered dcLowered pmLowered ctLowered : Value} {cdLowered : Value} (aLowered : PySem.W.nsIn K mainGlobals "lowered" = some (some (.ref fLowered))) (lLowered : K.lookup fLowered = some ⟨ocLowered, odLowered, .func (PySem.W.fnOf "lowered" "lowered" (defArgs sLowered) (defBody sLowered) (defScope sLowered) .none kVLowered dcLowered pmLowered anLowered cdLowered ctLowered), slLowered⟩) (cLowered : PySem.W.codeIn K cdLowered "lowered" = true) (kLowered : PySem.W.keepIn K (.ref fLowered) = true)
    {odGathered anGathered : Option Addr} {slGathered : Array (Option Value)} {ocGathered kVGathered dcGathered pmGathered ctGathered : Value} {cdGathered : Value} (aGathered : PySem.W.nsIn K mainGlobals "gathered" = some (some (.ref fGathered))) (lGathered : K.lookup fGathered = some ⟨ocGathered, odGathered, .func (PySem.W.fnOf "gathered" "gathered" (defArgs sGathered) (defBody sGathered) (defScope sGathered) .none kVGathered dcGathered pmGathered anGathered cdGathered ctGathered), slGathered⟩) (cGathered : PySem.W.codeIn K cdGathered "gathered" = true) (kGathered : PySem.W.keepIn K (.ref fGathered) = true)
    {odDivided anDivided : Option Addr} {slDivided : Array (Option Value)} {ocDivided kVDivided dcDivided pmDivided ctDivided : Value} {cdDivided : Value} (aDivided : PySem.W.nsIn K mainGlobals "divided" = some (some (.ref fDivided))) (lDivided : K.lookup fDivided = some ⟨ocDivided, odDivided, .func (PySem.W.fnOf "divided" "divided" (defArgs sDivided) (defBody sDivided) (defScope sDivided) .none kVDivided dcDivided pmDivided anDivided cdDivided ctDivided), slDivided⟩) (cDivided : PySem.W.codeIn K cdDivided "divided" = true) (kDivided : PySem.W.keepIn K (.ref fDivided) = true)
    {odSumOf anSumOf : Option Addr} {slSumOf : Array (Option Value)} {ocSumOf kVSumOf dcSumOf pmSumOf ctSumOf : Value} {cdSumOf : Value} (aSumOf : PySem.W.nsIn K mainGlobals "sum_of" = some (some (.ref fSumOf))) (lSumOf : K.lookup fSumOf = some ⟨ocSumOf, odSumOf, .func (PySem.W.fnOf "sum_of" "sum_of" (defArgs sSumOf) (defBody sSumOf) (defScope sSumOf) .none kVSumOf dcSumOf pmSumOf anSumOf cdSumOf ctSumOf), slSumOf⟩) (cSumOf : PySem.W.codeIn K cdSumOf "sum_of" = true) (kSumOf : PySem.W.keepIn K (.ref fSumOf) = true)
    {odScaled anScaled : Option Addr} {slScaled : Array (Option Value)} {ocScaled kVScaled dcScaled pmScaled ctScaled : Value} {cdScaled : Value} (aScaled : PySem.W.nsIn K mainGlobals "scaled" = some (some (.ref fScaled))) (lScaled : K.lookup fScaled = some ⟨ocScaled, odScaled, .func (PySem.W.fnOf "scaled" "scaled" (defArgs sScaled) (defBody sScaled) (defScope sScaled) .none kVScaled dcScaled pmScaled anScaled cdScaled ctScaled), slScaled⟩) (cScaled : PySem.W.codeIn K cdScaled "scaled" = true) (kScaled : PySem.W.keepIn K (.ref fScaled) = true)
    {odMomentOf anMomentOf : Option Addr} {slMomentOf : Array (Option Value)} {ocMomentOf kVMomentOf dcMomentOf pmMomentOf ctMomentOf : Value} {cdMomentOf : Value} (aMomentOf : PySem.W.nsIn K mainGlobals "moment_of" = some (some (.ref fMomentOf))) (lMomentOf : K.lookup fMomentOf = some ⟨ocMomentOf, odMomentOf, .func (PySem.W.fnOf "moment_of" "moment_of" (defArgs sMomentOf) (defBody sMomentOf) (defScope sMomentOf) .none kVMomentOf dcMomentOf pmMomentOf anMomentOf cdMomentOf ctMomentOf), slMomentOf⟩) (cMomentOf : PySem.W.codeIn K cdMomentOf "moment_of" = true) (kMomentOf : PySem.W.keepIn K (.ref fMomentOf) = true)
    {odTotalOf anTotalOf : Option Addr} {slTotalOf : Array (Option Value)} {ocTotalOf kVTotalOf dcTotalOf pmTotalOf ctTotalOf : Value} {cdTotalOf : Value} (aTotalOf : PySem.W.nsIn K mainGlobals "total_of" = some (some (.ref fTotalOf))) (lTotalOf : K.lookup fTotalOf = some ⟨ocTotalOf, odTotalOf, .func (PySem.W.fnOf "total_of" "total_of" (defArgs sTotalOf) (defBody sTotalOf) (defScope sTotalOf) .none kVTotalOf dcTotalOf pmTotalOf anTotalOf cdTotalOf ctTotalOf), slTotalOf⟩) (cTotalOf : PySem.W.codeIn K cdTotalOf "total_of" = true) (kTotalOf : PySem.W.keepIn K (.ref fTotalOf) = true)
    {odDrawn anDrawn : Option Addr} {slDrawn : Array (Option Value)} {ocDrawn kVDrawn dcDrawn pmDrawn ctDrawn : Value} {cdDrawn : Value} (aDrawn : PySem.W.nsIn K mainGlobals "drawn" = some (some (.ref fDrawn))) (lDrawn : K.lookup fDrawn = some ⟨ocDrawn, odDrawn, .func (PySem.W.fnOf "drawn" "drawn" (defArgs sDrawn) (defBody sDrawn) (defScope sDrawn) .none kVDrawn dcDrawn pmDrawn anDrawn cdDrawn ctDrawn), slDrawn⟩) (cDrawn : PySem.W.codeIn K cdDrawn "drawn" = true) (kDrawn : PySem.W.keepIn K (.ref fDrawn) = true)
    {odMultiplied anMultiplied : Option Addr} {slMultiplied : Array (Option Value)} {ocMultiplied kVMultiplied dcMultiplied pmMultiplied ctMultiplied : Value} {cdMultiplied : Value} (aMultiplied : PySem.W.nsIn K mainGlobals "multiplied" = some (some (.ref fMultiplied))) (lMultiplied : K.lookup fMultiplied = some ⟨ocMultiplied, odMultiplied, .func (PySem.W.fnOf "multiplied" "multiplied" (defArgs sMultiplied) (defBody sMultiplied) (defScope sMultiplied) .none kVMultiplied dcMultiplied pmMultiplied anMultiplied cdMultiplied ctMultiplied), slMultiplied⟩) (cMultiplied : PySem.W.codeIn K cdMultiplied "multiplied" = true) (kMultiplied : PySem.W.keepIn K (.ref fMultiplied) = true)
    {odSpread anSpread : Option Addr} {slSpread : Array (Option Value)} {ocSpread kVSpread dcSpread pmSpread ctSpread : Value} {cdSpread : Value} (aSpread : PySem.W.nsIn K mainGlobals "spread" = some (some (.ref fSpread))) (lSpread : K.lookup fSpread = some ⟨ocSpread, odSpread, .func (PySem.W.fnOf "spread" "spread" (defArgs sSpread) (defBody sSpread) (defScope sSpread) .none kVSpread dcSpread pmSpread anSpread cdSpread ctSpread), slSpread⟩) (cSpread : PySem.W.codeIn K cdSpread "spread" = true) (kSpread : PySem.W.keepIn K (.ref fSpread) = true)
    {odMultipliedAll anMultipliedAll : Option Addr} {slMultipliedAll : Array (Option Value)} {ocMultipliedAll kVMultipliedAll dcMultipliedAll pmMultipliedAll ctMultipliedAll : Value} {cdMultipliedAll : Value} (aMultipliedAll : PySem.W.nsIn K mainGlobals "multiplied_all" = some (some (.ref fMultipliedAll))) (lMultipliedAll : K.lookup fMultipliedAll = some ⟨ocMultipliedAll, odMultipliedAll, .func (PySem.W.fnOf "multiplied_all" "multiplied_all" (defArgs sMultipliedAll) (defBody sMultipliedAll) (defScope sMultipliedAll) .none kVMultipliedAll dcMultipliedAll pmMultipliedAll anMultipliedAll cdMultipliedAll ctMultipliedAll), slMultipliedAll⟩) (cMultipliedAll : PySem.W.codeIn K cdMultipliedAll "multiplied_all" = true) (kMultipliedAll : PySem.W.keepIn K (.ref fMultipliedAll) = true)
    {odMoved anMoved : Option Addr} {slMoved : Array (Option Value)} {ocMoved kVMoved dcMoved pmMoved ctMoved : Value} {cdMoved : Value} (aMoved : PySem.W.nsIn K mainGlobals "moved" = some (some (.ref fMoved))) (lMoved : K.lookup fMoved = some ⟨ocMoved, odMoved, .func (PySem.W.fnOf "moved" "moved" (defArgs sMoved) (defBody sMoved) (defScope sMoved) .none kVMoved dcMoved pmMoved anMoved cdMoved ctMoved), slMoved⟩) (cMoved : PySem.W.codeIn K cdMoved "moved" = true) (kMoved : PySem.W.keepIn K (.ref fMoved) = true)
    {odMade anMade : Option Addr} {slMade : Array (Option Value)} {ocMade kVMade dcMade pmMade ctMade : Value} {cdMade : Value} (aMade : PySem.W.nsIn K mainGlobals "made" = some (some (.ref fMade))) (lMade : K.lookup fMade = some ⟨ocMade, odMade, .func (PySem.W.fnOf "made" "made" (defArgs sMade) (defBody sMade) (defScope sMade) .none kVMade dcMade pmMade anMade cdMade ctMade), slMade⟩) (cMade : PySem.W.codeIn K cdMade "made" = true) (kMade : PySem.W.keepIn K (.ref fMade) = true)
    {odKidPlaces anKidPlaces : Option Addr} {slKidPlaces : Array (Option Value)} {ocKidPlaces kVKidPlaces dcKidPlaces pmKidPlaces ctKidPlaces : Value} {cdKidPlaces : Value} (aKidPlaces : PySem.W.nsIn K mainGlobals "kid_places" = some (some (.ref fKidPlaces))) (lKidPlaces : K.lookup fKidPlaces = some ⟨ocKidPlaces, odKidPlaces, .func (PySem.W.fnOf "kid_places" "kid_places" (defArgs sKidPlaces) (defBody sKidPlaces) (defScope sKidPlaces) .none kVKidPlaces dcKidPlaces pmKidPlaces anKidPlaces cdKidPlaces ctKidPlaces), slKidPlaces⟩) (cKidPlaces : PySem.W.codeIn K cdKidPlaces "kid_places" = true) (kKidPlaces : PySem.W.keepIn K (.ref fKidPlaces) = true)
    {odShareAt anShareAt : Option Addr} {slShareAt : Array (Option Value)} {ocShareAt kVShareAt dcShareAt pmShareAt ctShareAt : Value} {cdShareAt : Value} (aShareAt : PySem.W.nsIn K mainGlobals "share_at" = some (some (.ref fShareAt))) (lShareAt : K.lookup fShareAt = some ⟨ocShareAt, odShareAt, .func (PySem.W.fnOf "share_at" "share_at" (defArgs sShareAt) (defBody sShareAt) (defScope sShareAt) .none kVShareAt dcShareAt pmShareAt anShareAt cdShareAt ctShareAt), slShareAt⟩) (cShareAt : PySem.W.codeIn K cdShareAt "share_at" = true) (kShareAt : PySem.W.keepIn K (.ref fShareAt) = true)
    {odIsInOrder anIsInOrder : Option Addr} {slIsInOrder : Array (Option Value)} {ocIsInOrder kVIsInOrder dcIsInOrder pmIsInOrder ctIsInOrder : Value} {cdIsInOrder : Value} (aIsInOrder : PySem.W.nsIn K mainGlobals "is_in_order" = some (some (.ref fIsInOrder))) (lIsInOrder : K.lookup fIsInOrder = some ⟨ocIsInOrder, odIsInOrder, .func (PySem.W.fnOf "is_in_order" "is_in_order" (defArgs sIsInOrder) (defBody sIsInOrder) (defScope sIsInOrder) .none kVIsInOrder dcIsInOrder pmIsInOrder anIsInOrder cdIsInOrder ctIsInOrder), slIsInOrder⟩) (cIsInOrder : PySem.W.codeIn K cdIsInOrder "is_in_order" = true) (kIsInOrder : PySem.W.keepIn K (.ref fIsInOrder) = true)
    {odMayStand anMayStand : Option Addr} {slMayStand : Array (Option Value)} {ocMayStand kVMayStand dcMayStand pmMayStand ctMayStand : Value} {cdMayStand : Value} (aMayStand : PySem.W.nsIn K mainGlobals "may_stand" = some (some (.ref fMayStand))) (lMayStand : K.lookup fMayStand = some ⟨ocMayStand, odMayStand, .func (PySem.W.fnOf "may_stand" "may_stand" (defArgs sMayStand) (defBody sMayStand) (defScope sMayStand) .none kVMayStand dcMayStand pmMayStand anMayStand cdMayStand ctMayStand), slMayStand⟩) (cMayStand : PySem.W.codeIn K cdMayStand "may_stand" = true) (kMayStand : PySem.W.keepIn K (.ref fMayStand) = true)
    {odIsWord anIsWord : Option Addr} {slIsWord : Array (Option Value)} {ocIsWord kVIsWord dcIsWord pmIsWord ctIsWord : Value} {cdIsWord : Value} (aIsWord : PySem.W.nsIn K mainGlobals "is_word" = some (some (.ref fIsWord))) (lIsWord : K.lookup fIsWord = some ⟨ocIsWord, odIsWord, .func (PySem.W.fnOf "is_word" "is_word" (defArgs sIsWord) (defBody sIsWord) (defScope sIsWord) .none kVIsWord dcIsWord pmIsWord anIsWord cdIsWord ctIsWord), slIsWord⟩) (cIsWord : PySem.W.codeIn K cdIsWord "is_word" = true) (kIsWord : PySem.W.keepIn K (.ref fIsWord) = true)
    {odIsFormed anIsFormed : Option Addr} {slIsFormed : Array (Option Value)} {ocIsFormed kVIsFormed dcIsFormed pmIsFormed ctIsFormed : Value} {cdIsFormed : Value} (aIsFormed : PySem.W.nsIn K mainGlobals "is_formed" = some (some (.ref fIsFormed))) (lIsFormed : K.lookup fIsFormed = some ⟨ocIsFormed, odIsFormed, .func (PySem.W.fnOf "is_formed" "is_formed" (defArgs sIsFormed) (defBody sIsFormed) (defScope sIsFormed) .none kVIsFormed dcIsFormed pmIsFormed anIsFormed cdIsFormed ctIsFormed), slIsFormed⟩) (cIsFormed : PySem.W.codeIn K cdIsFormed "is_formed" = true) (kIsFormed : PySem.W.keepIn K (.ref fIsFormed) = true)
    {odFaultIn anFaultIn : Option Addr} {slFaultIn : Array (Option Value)} {ocFaultIn kVFaultIn dcFaultIn pmFaultIn ctFaultIn : Value} {cdFaultIn : Value} (aFaultIn : PySem.W.nsIn K mainGlobals "fault_in" = some (some (.ref fFaultIn))) (lFaultIn : K.lookup fFaultIn = some ⟨ocFaultIn, odFaultIn, .func (PySem.W.fnOf "fault_in" "fault_in" (defArgs sFaultIn) (defBody sFaultIn) (defScope sFaultIn) .none kVFaultIn dcFaultIn pmFaultIn anFaultIn cdFaultIn ctFaultIn), slFaultIn⟩) (cFaultIn : PySem.W.codeIn K cdFaultIn "fault_in" = true) (kFaultIn : PySem.W.keepIn K (.ref fFaultIn) = true)
    {odShareOf anShareOf : Option Addr} {slShareOf : Array (Option Value)} {ocShareOf kVShareOf dcShareOf pmShareOf ctShareOf : Value} {cdShareOf : Value} (aShareOf : PySem.W.nsIn K mainGlobals "share_of" = some (some (.ref fShareOf))) (lShareOf : K.lookup fShareOf = some ⟨ocShareOf, odShareOf, .func (PySem.W.fnOf "share_of" "share_of" (defArgs sShareOf) (defBody sShareOf) (defScope sShareOf) .none kVShareOf dcShareOf pmShareOf anShareOf cdShareOf ctShareOf), slShareOf⟩) (cShareOf : PySem.W.codeIn K cdShareOf "share_of" = true) (kShareOf : PySem.W.keepIn K (.ref fShareOf) = true)
    {odLawHandRight anLawHandRight : Option Addr} {slLawHandRight : Array (Option Value)} {ocLawHandRight kVLawHandRight dcLawHandRight pmLawHandRight ctLawHandRight : Value} {c0LawHandRight p0LawHandRight : Addr} (aLawHandRight : PySem.W.nsIn K mainGlobals "_law_hand_right" = some (some (.ref fLawHandRight))) (lLawHandRight : K.lookup fLawHandRight = some ⟨ocLawHandRight, odLawHandRight, .func (PySem.W.fnOf "_law_hand_right" "_law_hand_right" (defArgs sLawHandRight) (defBody sLawHandRight) (defScope sLawHandRight) .none kVLawHandRight dcLawHandRight pmLawHandRight anLawHandRight (.ref c0LawHandRight) ctLawHandRight), slLawHandRight⟩) (cLawHandRight : PySem.W.codeIn K (.ref c0LawHandRight) "_law_hand_right" = true) (kLawHandRight : PySem.W.keepIn K (.ref fLawHandRight) = true)
    {odLawHeard anLawHeard : Option Addr} {slLawHeard : Array (Option Value)} {ocLawHeard kVLawHeard dcLawHeard pmLawHeard ctLawHeard : Value} {cdLawHeard : Value} (aLawHeard : PySem.W.nsIn K mainGlobals "_law_heard" = some (some (.ref fLawHeard))) (lLawHeard : K.lookup fLawHeard = some ⟨ocLawHeard, odLawHeard, .func (PySem.W.fnOf "_law_heard" "_law_heard" (defArgs sLawHeard) (defBody sLawHeard) (defScope sLawHeard) .none kVLawHeard dcLawHeard pmLawHeard anLawHeard cdLawHeard ctLawHeard), slLawHeard⟩) (cLawHeard : PySem.W.codeIn K cdLawHeard "_law_heard" = true) (kLawHeard : PySem.W.keepIn K (.ref fLawHeard) = true)
    {odLawUnder anLawUnder : Option Addr} {slLawUnder : Array (Option Value)} {ocLawUnder kVLawUnder dcLawUnder pmLawUnder ctLawUnder : Value} {cdLawUnder : Value} (aLawUnder : PySem.W.nsIn K mainGlobals "_law_under" = some (some (.ref fLawUnder))) (lLawUnder : K.lookup fLawUnder = some ⟨ocLawUnder, odLawUnder, .func (PySem.W.fnOf "_law_under" "_law_under" (defArgs sLawUnder) (defBody sLawUnder) (defScope sLawUnder) .none kVLawUnder dcLawUnder pmLawUnder anLawUnder cdLawUnder ctLawUnder), slLawUnder⟩) (cLawUnder : PySem.W.codeIn K cdLawUnder "_law_under" = true) (kLawUnder : PySem.W.keepIn K (.ref fLawUnder) = true)
    {odLawPlus anLawPlus : Option Addr} {slLawPlus : Array (Option Value)} {ocLawPlus kVLawPlus dcLawPlus pmLawPlus ctLawPlus : Value} {cdLawPlus : Value} (aLawPlus : PySem.W.nsIn K mainGlobals "_law_plus" = some (some (.ref fLawPlus))) (lLawPlus : K.lookup fLawPlus = some ⟨ocLawPlus, odLawPlus, .func (PySem.W.fnOf "_law_plus" "_law_plus" (defArgs sLawPlus) (defBody sLawPlus) (defScope sLawPlus) .none kVLawPlus dcLawPlus pmLawPlus anLawPlus cdLawPlus ctLawPlus), slLawPlus⟩) (cLawPlus : PySem.W.codeIn K cdLawPlus "_law_plus" = true) (kLawPlus : PySem.W.keepIn K (.ref fLawPlus) = true)
    {odLawRatio anLawRatio : Option Addr} {slLawRatio : Array (Option Value)} {ocLawRatio kVLawRatio dcLawRatio pmLawRatio ctLawRatio : Value} {cdLawRatio : Value} (aLawRatio : PySem.W.nsIn K mainGlobals "_law_ratio" = some (some (.ref fLawRatio))) (lLawRatio : K.lookup fLawRatio = some ⟨ocLawRatio, odLawRatio, .func (PySem.W.fnOf "_law_ratio" "_law_ratio" (defArgs sLawRatio) (defBody sLawRatio) (defScope sLawRatio) .none kVLawRatio dcLawRatio pmLawRatio anLawRatio cdLawRatio ctLawRatio), slLawRatio⟩) (cLawRatio : PySem.W.codeIn K cdLawRatio "_law_ratio" = true) (kLawRatio : PySem.W.keepIn K (.ref fLawRatio) = true)
    {odLawSum anLawSum : Option Addr} {slLawSum : Array (Option Value)} {ocLawSum kVLawSum dcLawSum pmLawSum ctLawSum : Value} {cdLawSum : Value} (aLawSum : PySem.W.nsIn K mainGlobals "_law_sum" = some (some (.ref fLawSum))) (lLawSum : K.lookup fLawSum = some ⟨ocLawSum, odLawSum, .func (PySem.W.fnOf "_law_sum" "_law_sum" (defArgs sLawSum) (defBody sLawSum) (defScope sLawSum) .none kVLawSum dcLawSum pmLawSum anLawSum cdLawSum ctLawSum), slLawSum⟩) (cLawSum : PySem.W.codeIn K cdLawSum "_law_sum" = true) (kLawSum : PySem.W.keepIn K (.ref fLawSum) = true)
    {odLawTimes anLawTimes : Option Addr} {slLawTimes : Array (Option Value)} {ocLawTimes kVLawTimes dcLawTimes pmLawTimes ctLawTimes : Value} {cdLawTimes : Value} (aLawTimes : PySem.W.nsIn K mainGlobals "_law_times" = some (some (.ref fLawTimes))) (lLawTimes : K.lookup fLawTimes = some ⟨ocLawTimes, odLawTimes, .func (PySem.W.fnOf "_law_times" "_law_times" (defArgs sLawTimes) (defBody sLawTimes) (defScope sLawTimes) .none kVLawTimes dcLawTimes pmLawTimes anLawTimes cdLawTimes ctLawTimes), slLawTimes⟩) (cLawTimes : PySem.W.codeIn K cdLawTimes "_law_times" = true) (kLawTimes : PySem.W.keepIn K (.ref fLawTimes) = true)
    {odLawRest anLawRest : Option Addr} {slLawRest : Array (Option Value)} {ocLawRest kVLawRest dcLawRest pmLawRest ctLawRest : Value} {cdLawRest : Value} (aLawRest : PySem.W.nsIn K mainGlobals "_law_rest" = some (some (.ref fLawRest))) (lLawRest : K.lookup fLawRest = some ⟨ocLawRest, odLawRest, .func (PySem.W.fnOf "_law_rest" "_law_rest" (defArgs sLawRest) (defBody sLawRest) (defScope sLawRest) .none kVLawRest dcLawRest pmLawRest anLawRest cdLawRest ctLawRest), slLawRest⟩) (cLawRest : PySem.W.codeIn K cdLawRest "_law_rest" = true) (kLawRest : PySem.W.keepIn K (.ref fLawRest) = true)
    {odLawMoment anLawMoment : Option Addr} {slLawMoment : Array (Option Value)} {ocLawMoment kVLawMoment dcLawMoment pmLawMoment ctLawMoment : Value} {cdLawMoment : Value} (aLawMoment : PySem.W.nsIn K mainGlobals "_law_moment" = some (some (.ref fLawMoment))) (lLawMoment : K.lookup fLawMoment = some ⟨ocLawMoment, odLawMoment, .func (PySem.W.fnOf "_law_moment" "_law_moment" (defArgs sLawMoment) (defBody sLawMoment) (defScope sLawMoment) .none kVLawMoment dcLawMoment pmLawMoment anLawMoment cdLawMoment ctLawMoment), slLawMoment⟩) (cLawMoment : PySem.W.codeIn K cdLawMoment "_law_moment" = true) (kLawMoment : PySem.W.keepIn K (.ref fLawMoment) = true)
    {odLawTotal anLawTotal : Option Addr} {slLawTotal : Array (Option Value)} {ocLawTotal kVLawTotal dcLawTotal pmLawTotal ctLawTotal : Value} {cdLawTotal : Value} (aLawTotal : PySem.W.nsIn K mainGlobals "_law_total" = some (some (.ref fLawTotal))) (lLawTotal : K.lookup fLawTotal = some ⟨ocLawTotal, odLawTotal, .func (PySem.W.fnOf "_law_total" "_law_total" (defArgs sLawTotal) (defBody sLawTotal) (defScope sLawTotal) .none kVLawTotal dcLawTotal pmLawTotal anLawTotal cdLawTotal ctLawTotal), slLawTotal⟩) (cLawTotal : PySem.W.codeIn K cdLawTotal "_law_total" = true) (kLawTotal : PySem.W.keepIn K (.ref fLawTotal) = true)
    {odLawLacks anLawLacks : Option Addr} {slLawLacks : Array (Option Value)} {ocLawLacks kVLawLacks dcLawLacks pmLawLacks ctLawLacks : Value} {cdLawLacks : Value} (aLawLacks : PySem.W.nsIn K mainGlobals "_law_lacks" = some (some (.ref fLawLacks))) (lLawLacks : K.lookup fLawLacks = some ⟨ocLawLacks, odLawLacks, .func (PySem.W.fnOf "_law_lacks" "_law_lacks" (defArgs sLawLacks) (defBody sLawLacks) (defScope sLawLacks) .none kVLawLacks dcLawLacks pmLawLacks anLawLacks cdLawLacks ctLawLacks), slLawLacks⟩) (cLawLacks : PySem.W.codeIn K cdLawLacks "_law_lacks" = true) (kLawLacks : PySem.W.keepIn K (.ref fLawLacks) = true)
    {odLawShareOf anLawShareOf : Option Addr} {slLawShareOf : Array (Option Value)} {ocLawShareOf kVLawShareOf dcLawShareOf pmLawShareOf ctLawShareOf : Value} {cdLawShareOf : Value} (aLawShareOf : PySem.W.nsIn K mainGlobals "_law_share_of" = some (some (.ref fLawShareOf))) (lLawShareOf : K.lookup fLawShareOf = some ⟨ocLawShareOf, odLawShareOf, .func (PySem.W.fnOf "_law_share_of" "_law_share_of" (defArgs sLawShareOf) (defBody sLawShareOf) (defScope sLawShareOf) .none kVLawShareOf dcLawShareOf pmLawShareOf anLawShareOf cdLawShareOf ctLawShareOf), slLawShareOf⟩) (cLawShareOf : PySem.W.codeIn K cdLawShareOf "_law_share_of" = true) (kLawShareOf : PySem.W.keepIn K (.ref fLawShareOf) = true)
    {odLawJoined anLawJoined : Option Addr} {slLawJoined : Array (Option Value)} {ocLawJoined kVLawJoined dcLawJoined pmLawJoined ctLawJoined : Value} {cdLawJoined : Value} (aLawJoined : PySem.W.nsIn K mainGlobals "_law_joined" = some (some (.ref fLawJoined))) (lLawJoined : K.lookup fLawJoined = some ⟨ocLawJoined, odLawJoined, .func (PySem.W.fnOf "_law_joined" "_law_joined" (defArgs sLawJoined) (defBody sLawJoined) (defScope sLawJoined) .none kVLawJoined dcLawJoined pmLawJoined anLawJoined cdLawJoined ctLawJoined), slLawJoined⟩) (cLawJoined : PySem.W.codeIn K cdLawJoined "_law_joined" = true) (kLawJoined : PySem.W.keepIn K (.ref fLawJoined) = true)
    {odLawOver anLawOver : Option Addr} {slLawOver : Array (Option Value)} {ocLawOver kVLawOver dcLawOver pmLawOver ctLawOver : Value} {cdLawOver : Value} (aLawOver : PySem.W.nsIn K mainGlobals "_law_over" = some (some (.ref fLawOver))) (lLawOver : K.lookup fLawOver = some ⟨ocLawOver, odLawOver, .func (PySem.W.fnOf "_law_over" "_law_over" (defArgs sLawOver) (defBody sLawOver) (defScope sLawOver) .none kVLawOver dcLawOver pmLawOver anLawOver cdLawOver ctLawOver), slLawOver⟩) (cLawOver : PySem.W.codeIn K cdLawOver "_law_over" = true) (kLawOver : PySem.W.keepIn K (.ref fLawOver) = true)
    {odLawDrawn anLawDrawn : Option Addr} {slLawDrawn : Array (Option Value)} {ocLawDrawn kVLawDrawn dcLawDrawn pmLawDrawn ctLawDrawn : Value} {cdLawDrawn : Value} (aLawDrawn : PySem.W.nsIn K mainGlobals "_law_drawn" = some (some (.ref fLawDrawn))) (lLawDrawn : K.lookup fLawDrawn = some ⟨ocLawDrawn, odLawDrawn, .func (PySem.W.fnOf "_law_drawn" "_law_drawn" (defArgs sLawDrawn) (defBody sLawDrawn) (defScope sLawDrawn) .none kVLawDrawn dcLawDrawn pmLawDrawn anLawDrawn cdLawDrawn ctLawDrawn), slLawDrawn⟩) (cLawDrawn : PySem.W.codeIn K cdLawDrawn "_law_drawn" = true) (kLawDrawn : PySem.W.keepIn K (.ref fLawDrawn) = true)
    {odLawLess anLawLess : Option Addr} {slLawLess : Array (Option Value)} {ocLawLess kVLawLess dcLawLess pmLawLess ctLawLess : Value} {cdLawLess : Value} (aLawLess : PySem.W.nsIn K mainGlobals "_law_less" = some (some (.ref fLawLess))) (lLawLess : K.lookup fLawLess = some ⟨ocLawLess, odLawLess, .func (PySem.W.fnOf "_law_less" "_law_less" (defArgs sLawLess) (defBody sLawLess) (defScope sLawLess) .none kVLawLess dcLawLess pmLawLess anLawLess cdLawLess ctLawLess), slLawLess⟩) (cLawLess : PySem.W.codeIn K cdLawLess "_law_less" = true) (kLawLess : PySem.W.keepIn K (.ref fLawLess) = true)
    {odLawSpread anLawSpread : Option Addr} {slLawSpread : Array (Option Value)} {ocLawSpread kVLawSpread dcLawSpread pmLawSpread ctLawSpread : Value} {cdLawSpread : Value} (aLawSpread : PySem.W.nsIn K mainGlobals "_law_spread" = some (some (.ref fLawSpread))) (lLawSpread : K.lookup fLawSpread = some ⟨ocLawSpread, odLawSpread, .func (PySem.W.fnOf "_law_spread" "_law_spread" (defArgs sLawSpread) (defBody sLawSpread) (defScope sLawSpread) .none kVLawSpread dcLawSpread pmLawSpread anLawSpread cdLawSpread ctLawSpread), slLawSpread⟩) (cLawSpread : PySem.W.codeIn K cdLawSpread "_law_spread" = true) (kLawSpread : PySem.W.keepIn K (.ref fLawSpread) = true)
    {odLawOneOf anLawOneOf : Option Addr} {slLawOneOf : Array (Option Value)} {ocLawOneOf kVLawOneOf dcLawOneOf pmLawOneOf ctLawOneOf : Value} {cdLawOneOf : Value} (aLawOneOf : PySem.W.nsIn K mainGlobals "_law_one_of" = some (some (.ref fLawOneOf))) (lLawOneOf : K.lookup fLawOneOf = some ⟨ocLawOneOf, odLawOneOf, .func (PySem.W.fnOf "_law_one_of" "_law_one_of" (defArgs sLawOneOf) (defBody sLawOneOf) (defScope sLawOneOf) .none kVLawOneOf dcLawOneOf pmLawOneOf anLawOneOf cdLawOneOf ctLawOneOf), slLawOneOf⟩) (cLawOneOf : PySem.W.codeIn K cdLawOneOf "_law_one_of" = true) (kLawOneOf : PySem.W.keepIn K (.ref fLawOneOf) = true)
    {odLawInner anLawInner : Option Addr} {slLawInner : Array (Option Value)} {ocLawInner kVLawInner dcLawInner pmLawInner ctLawInner : Value} {cdLawInner : Value} (aLawInner : PySem.W.nsIn K mainGlobals "_law_inner" = some (some (.ref fLawInner))) (lLawInner : K.lookup fLawInner = some ⟨ocLawInner, odLawInner, .func (PySem.W.fnOf "_law_inner" "_law_inner" (defArgs sLawInner) (defBody sLawInner) (defScope sLawInner) .none kVLawInner dcLawInner pmLawInner anLawInner cdLawInner ctLawInner), slLawInner⟩) (cLawInner : PySem.W.codeIn K cdLawInner "_law_inner" = true) (kLawInner : PySem.W.keepIn K (.ref fLawInner) = true)
    {odLawShared anLawShared : Option Addr} {slLawShared : Array (Option Value)} {ocLawShared kVLawShared dcLawShared pmLawShared ctLawShared : Value} {cdLawShared : Value} (aLawShared : PySem.W.nsIn K mainGlobals "_law_shared" = some (some (.ref fLawShared))) (lLawShared : K.lookup fLawShared = some ⟨ocLawShared, odLawShared, .func (PySem.W.fnOf "_law_shared" "_law_shared" (defArgs sLawShared) (defBody sLawShared) (defScope sLawShared) .none kVLawShared dcLawShared pmLawShared anLawShared cdLawShared ctLawShared), slLawShared⟩) (cLawShared : PySem.W.codeIn K cdLawShared "_law_shared" = true) (kLawShared : PySem.W.keepIn K (.ref fLawShared) = true)
    {odNeedMix anNeedMix : Option Addr} {slNeedMix : Array (Option Value)} {ocNeedMix kVNeedMix dcNeedMix pmNeedMix ctNeedMix : Value} {cdNeedMix : Value} (aNeedMix : PySem.W.nsIn K mainGlobals "need_mix" = some (some (.ref fNeedMix))) (lNeedMix : K.lookup fNeedMix = some ⟨ocNeedMix, odNeedMix, .func (PySem.W.fnOf "need_mix" "need_mix" (defArgs sNeedMix) (defBody sNeedMix) (defScope sNeedMix) .none kVNeedMix dcNeedMix pmNeedMix anNeedMix cdNeedMix ctNeedMix), slNeedMix⟩) (cNeedMix : PySem.W.codeIn K cdNeedMix "need_mix" = true) (kNeedMix : PySem.W.keepIn K (.ref fNeedMix) = true)
    {odPartsOf anPartsOf : Option Addr} {slPartsOf : Array (Option Value)} {ocPartsOf kVPartsOf dcPartsOf pmPartsOf ctPartsOf : Value} {cdPartsOf : Value} (aPartsOf : PySem.W.nsIn K mainGlobals "parts_of" = some (some (.ref fPartsOf))) (lPartsOf : K.lookup fPartsOf = some ⟨ocPartsOf, odPartsOf, .func (PySem.W.fnOf "parts_of" "parts_of" (defArgs sPartsOf) (defBody sPartsOf) (defScope sPartsOf) .none kVPartsOf dcPartsOf pmPartsOf anPartsOf cdPartsOf ctPartsOf), slPartsOf⟩) (cPartsOf : PySem.W.codeIn K cdPartsOf "parts_of" = true) (kPartsOf : PySem.W.keepIn K (.ref fPartsOf) = true)
    {odLawIsRight anLawIsRight : Option Addr} {slLawIsRight : Array (Option Value)} {ocLawIsRight kVLawIsRight dcLawIsRight pmLawIsRight ctLawIsRight : Value} {c0LawIsRight p0LawIsRight : Addr} (aLawIsRight : PySem.W.nsIn K mainGlobals "_law_is_right" = some (some (.ref fLawIsRight))) (lLawIsRight : K.lookup fLawIsRight = some ⟨ocLawIsRight, odLawIsRight, .func (PySem.W.fnOf "_law_is_right" "_law_is_right" (defArgs sLawIsRight) (defBody sLawIsRight) (defScope sLawIsRight) .none kVLawIsRight dcLawIsRight pmLawIsRight anLawIsRight (.ref c0LawIsRight) ctLawIsRight), slLawIsRight⟩) (cLawIsRight : PySem.W.codeIn K (.ref c0LawIsRight) "_law_is_right" = true) (kLawIsRight : PySem.W.keepIn K (.ref fLawIsRight) = true)
    {odDraw anDraw : Option Addr} {slDraw : Array (Option Value)} {ocDraw kVDraw dcDraw pmDraw ctDraw : Value} {cdDraw : Value} (aDraw : PySem.W.nsIn K mainGlobals "_law_draw" = some (some (.ref fDraw))) (lDraw : K.lookup fDraw = some ⟨ocDraw, odDraw, .func (PySem.W.fnOf "_law_draw" "_law_draw" (defArgs sDraw) (defBody sDraw) (defScope sDraw) .none kVDraw dcDraw pmDraw anDraw cdDraw ctDraw), slDraw⟩) (cDraw : PySem.W.codeIn K cdDraw "_law_draw" = true) (kDraw : PySem.W.keepIn K (.ref fDraw) = true)
    {odMixed anMixed : Option Addr} {slMixed : Array (Option Value)} {ocMixed kVMixed dcMixed pmMixed ctMixed : Value} {cdMixed : Value} (aMixed : PySem.W.nsIn K mainGlobals "_law_mixed" = some (some (.ref fMixed))) (lMixed : K.lookup fMixed = some ⟨ocMixed, odMixed, .func (PySem.W.fnOf "_law_mixed" "_law_mixed" (defArgs sMixed) (defBody sMixed) (defScope sMixed) .none kVMixed dcMixed pmMixed anMixed cdMixed ctMixed), slMixed⟩) (cMixed : PySem.W.codeIn K cdMixed "_law_mixed" = true) (kMixed : PySem.W.keepIn K (.ref fMixed) = true)
    {odLawOf anLawOf : Option Addr} {slLawOf : Array (Option Value)} {ocLawOf kVLawOf dcLawOf pmLawOf ctLawOf : Value} {cdLawOf : Value} (aLawOf : PySem.W.nsIn K mainGlobals "_law_of" = some (some (.ref fLawOf))) (lLawOf : K.lookup fLawOf = some ⟨ocLawOf, odLawOf, .func (PySem.W.fnOf "_law_of" "_law_of" (defArgs sLawOf) (defBody sLawOf) (defScope sLawOf) .none kVLawOf dcLawOf pmLawOf anLawOf cdLawOf ctLawOf), slLawOf⟩) (cLawOf : PySem.W.codeIn K cdLawOf "_law_of" = true) (kLawOf : PySem.W.keepIn K (.ref fLawOf) = true)
    {odLawMix anLawMix : Option Addr} {slLawMix : Array (Option Value)} {ocLawMix kVLawMix dcLawMix pmLawMix ctLawMix : Value} {cdLawMix : Value} (aLawMix : PySem.W.nsIn K mainGlobals "_law_mix" = some (some (.ref fLawMix))) (lLawMix : K.lookup fLawMix = some ⟨ocLawMix, odLawMix, .func (PySem.W.fnOf "_law_mix" "_law_mix" (defArgs sLawMix) (defBody sLawMix) (defScope sLawMix) .none kVLawMix dcLawMix pmLawMix anLawMix cdLawMix ctLawMix), slLawMix⟩) (cLawMix : PySem.W.codeIn K cdLawMix "_law_mix" = true) (kLawMix : PySem.W.keepIn K (.ref fLawMix) = true)
    {odBegin anBegin : Option Addr} {slBegin : Array (Option Value)} {ocBegin kVBegin dcBegin pmBegin ctBegin : Value} {cdBegin : Value} (aBegin : PySem.W.nsIn K mainGlobals "_law_begin" = some (some (.ref fBegin))) (lBegin : K.lookup fBegin = some ⟨ocBegin, odBegin, .func (PySem.W.fnOf "_law_begin" "_law_begin" (defArgs sBegin) (defBody sBegin) (defScope sBegin) .none kVBegin dcBegin pmBegin anBegin cdBegin ctBegin), slBegin⟩) (cBegin : PySem.W.codeIn K cdBegin "_law_begin" = true) (kBegin : PySem.W.keepIn K (.ref fBegin) = true)
    {odLaw anLaw : Option Addr} {slLaw : Array (Option Value)} {ocLaw kVLaw dcLaw pmLaw ctLaw : Value} {cdLaw : Value} (aLaw : PySem.W.nsIn K mainGlobals "law" = some (some (.ref fLaw))) (lLaw : K.lookup fLaw = some ⟨ocLaw, odLaw, .func (PySem.W.fnOf "law" "law" (defArgs sLaw) (defBody sLaw) (defScope sLaw) .none kVLaw dcLaw pmLaw anLaw cdLaw ctLaw), slLaw⟩) (cLaw : PySem.W.codeIn K cdLaw "law" = true) (kLaw : PySem.W.keepIn K (.ref fLaw) = true)
    {oqLawIsRight : Option Addr} {sqLawIsRight : Array (Option Value)} {vsLawIsRight : Array Value} (tLawIsRight : K.lookup c0LawIsRight = some ⟨.type "code", oqLawIsRight, .fields vsLawIsRight, sqLawIsRight⟩) (uLawIsRight : vsLawIsRight[11]? = some (.ref p0LawIsRight)) (hLawIsRight : PySem.W.codeHdIn K c0LawIsRight p0LawIsRight = true) (nLawIsRight : K.lookup p0LawIsRight = none) (mLawIsRight : h.get? p0LawIsRight = some { cls := .none, data := .fields #[] })
    {oqLawHandRight : Option Addr} {sqLawHandRight : Array (Option Value)} {vsLawHandRight : Array Value} (tLawHandRight : K.lookup c0LawHandRight = some ⟨.type "code", oqLawHandRight, .fields vsLawHandRight, sqLawHandRight⟩) (uLawHandRight : vsLawHandRight[11]? = some (.ref p0LawHandRight)) (hLawHandRight : PySem.W.codeHdIn K c0LawHandRight p0LawHandRight = true) (nLawHandRight : K.lookup p0LawHandRight = none) (mLawHandRight : h.get? p0LawHandRight = some { cls := .none, data := .fields #[] })
    (pne0_1 : p0LawIsRight ≠ p0LawHandRight)
    (z_isinstance : PySem.W.nsIn K mainGlobals "isinstance" = some none) (z_int : PySem.W.nsIn K mainGlobals "int" = some none) (z_tuple : PySem.W.nsIn K mainGlobals "tuple" = some none) (z_len : PySem.W.nsIn K mainGlobals "len" = some none) (z_abs : PySem.W.nsIn K mainGlobals "abs" = some none) (z_range : PySem.W.nsIn K mainGlobals "range" = some none) (z_list : PySem.W.nsIn K mainGlobals "list" = some none) (z_sorted : PySem.W.nsIn K mainGlobals "sorted" = some none) (z_zip : PySem.W.nsIn K mainGlobals "zip" = some none) (z_all : PySem.W.nsIn K mainGlobals "all" = some none) (z_dict : PySem.W.nsIn K mainGlobals "dict" = some none) (z_enumerate : PySem.W.nsIn K mainGlobals "enumerate" = some none) (z_str : PySem.W.nsIn K mainGlobals "str" = some none) (z_repr : PySem.W.nsIn K mainGlobals "repr" = some none) (z_min : PySem.W.nsIn K mainGlobals "min" = some none) (z_gcd : PySem.W.nsIn K mainGlobals "gcd" = some (some (.builtin "math.gcd")))
    {odN : Option Addr} {slN : Array (Option Value)} {t1N t2N : Tok} {nN : Nat} (aN : PySem.W.nsIn K mainGlobals "NOUGHT" = some (some (.ref fN))) (lN : K.lookup fN = some ⟨.type "tuple", odN, .seq #[.int 0 t1N, .int 1 t2N] nN, slN⟩)
    {tK_MOST_PAIRS : Tok} (aK_MOST_PAIRS : PySem.W.nsIn K mainGlobals "MOST_PAIRS" = some (some (.int 8 tK_MOST_PAIRS)))
    {tK_MOST_WORDS : Tok} (aK_MOST_WORDS : PySem.W.nsIn K mainGlobals "MOST_WORDS" = some (some (.int 20 tK_MOST_WORDS)))
    {tK_MOST_WITHIN : Tok} (aK_MOST_WITHIN : PySem.W.nsIn K mainGlobals "MOST_WITHIN" = some (some (.int 8 tK_MOST_WITHIN)))
    {tS_KID : Tok} (aZ_KID : PySem.W.nsIn K mainGlobals "KID" = some (some (.str "S" tS_KID)))
    {esaB : Array DictEntry} {naB : Nat} {uaB0 uaB1 uaB2 uaB3 uaB4 : Value} (gaB : PySem.W.nsIn K mainGlobals "BOUNDS" = some (some (.ref aB))) (laB : K.lookup aB = some ⟨.type "dict", none, .dict esaB naB, #[]⟩) (eaB : Ents w esaB.toList [("N", .ref bN), ("D", .ref bD), ("X", .ref bX), ("A", .ref bA), ("M", .ref bM)] [(Sum.inr "N", uaB0), (Sum.inr "D", uaB1), (Sum.inr "X", uaB2), (Sum.inr "A", uaB3), (Sum.inr "M", uaB4)]) (waB : (aB == sysModules) = false)
    {odbN : Option Addr} {nbN : Nat} {slbN : Array (Option Value)} {tbN0 tbN1 : Tok} (lbN : K.lookup bN = some ⟨.type "tuple", odbN, .seq #[.int (-1000) tbN0, .int 1000 tbN1] nbN, slbN⟩)
    {odbD : Option Addr} {nbD : Nat} {slbD : Array (Option Value)} {tbD0 tbD1 : Tok} (lbD : K.lookup bD = some ⟨.type "tuple", odbD, .seq #[.int 0 tbD0, .int 3 tbD1] nbD, slbD⟩)
    {odbX : Option Addr} {nbX : Nat} {slbX : Array (Option Value)} {tbX0 tbX1 : Tok} (lbX : K.lookup bX = some ⟨.type "tuple", odbX, .seq #[.int (-100) tbX0, .int 100 tbX1] nbX, slbX⟩)
    {odbA : Option Addr} {nbA : Nat} {slbA : Array (Option Value)} {tbA0 tbA1 : Tok} (lbA : K.lookup bA = some ⟨.type "tuple", odbA, .seq #[.int 1 tbA0, .int 1000 tbA1] nbA, slbA⟩)
    {odbM : Option Addr} {nbM : Nat} {slbM : Array (Option Value)} {tbM0 tbM1 : Tok} (lbM : K.lookup bM = some ⟨.type "tuple", odbM, .seq #[.int (-200) tbM0, .int 200 tbM1] nbM, slbM⟩)
    {esaT : Array DictEntry} {naT : Nat} {uaT0 uaT1 uaT2 uaT3 uaT4 uaT5 uaT6 : Value} (gaT : PySem.W.nsIn K mainGlobals "MIX_SHAPES" = some (some (.ref aT))) (laT : K.lookup aT = some ⟨.type "dict", none, .dict esaT naT, #[]⟩) (eaT : Ents w esaT.toList [("point", .str "XAA"), ("none", .str ""), ("mixed", .str "SS"), ("moved", .str "SM"), ("scaled", .str "SAA"), ("spread", .str "SXXX"), ("drawn", .str "SXX")] [(Sum.inr "point", uaT0), (Sum.inr "none", uaT1), (Sum.inr "mixed", uaT2), (Sum.inr "moved", uaT3), (Sum.inr "scaled", uaT4), (Sum.inr "spread", uaT5), (Sum.inr "drawn", uaT6)]) (waT : (aT == sysModules) = false)
    {CXe0 gXe0 : Addr} {odXe0 anXe0 : Option Addr} {slXe0 : Array (Option Value)} {ocXe0 kVXe0 dcXe0 pmXe0 cdXe0 ctXe0 : Value} (aXe0 : PySem.W.nsIn K mainGlobals "BadMix" = some (some (.ref CXe0))) (iXe0 : PySem.W.excInitIn K CXe0 bmV "ValueError.__new__" = true) (oXe0 : PySem.W.excOver K CXe0 bmV = true) (sXe0 : PySem.W.findIn K (.ref CXe0) "__setattr__" = some (some (.builtin "object.__setattr__"))) (tXe0 : PySem.W.takerIn K CXe0 "path" = some none)
    (xXe0 : xfB K CXe0 = true) (nXe0 : PySem.W.findIn K (.ref CXe0) "path" = some none) (jXe0 : PySem.W.findIn K (.ref CXe0) "__init__" = some (some (.ref gXe0))) (vXe0 : PySem.W.typeIn K (.ref gXe0) = some (.type "function")) (qXe0 : PySem.W.keepIn K (.ref CXe0) = true) (yXe0 : PySem.W.typeIn K (.ref CXe0) = some (.type "type"))
    (lXe0 : K.lookup gXe0 = some ⟨ocXe0, odXe0, .func (PySem.W.fnOf "__init__" "BadMix.__init__" (defArgs (inClass sBadMix 0)) (defBody (inClass sBadMix 0)) (defScope (inClass sBadMix 0)) .none kVXe0 dcXe0 pmXe0 anXe0 cdXe0 ctXe0), slXe0⟩) (cXe0 : PySem.W.codeIn K cdXe0 "BadMix.__init__" = true) (kXe0 : PySem.W.keepIn K (.ref gXe0) = true)
    (e0_0 : PySem.W.exmOne K (.ref CXe0) (.ref CXe0) = some true) :
    LawAtG l w K 22 63 "script" mg fa h := by
  have e := hfa.symm.trans (PySem.W.mg_of X G aLaw)
  cases e
  have T : Bt mg := ⟨PySem.W.mg_of X G z_gcd, PySem.W.mg_none_of X G z_isinstance, PySem.W.mg_none_of X G z_int, PySem.W.mg_none_of X G z_tuple, PySem.W.mg_none_of X G z_len, PySem.W.mg_none_of X G z_abs, PySem.W.mg_none_of X G z_range, PySem.W.mg_none_of X G z_list, PySem.W.mg_none_of X G z_sorted, PySem.W.mg_none_of X G z_zip, PySem.W.mg_none_of X G z_all, PySem.W.mg_none_of X G z_dict⟩
  have gN := PySem.W.mg_of X G aN
  have hN : ∀ H, FT K H fN (0, 1) := fun H => .inr ⟨_, _, _, lN, rfl, rfl, (by show 2 ≤ sizeLine; decide), .cons ⟨t1N, rfl⟩ (.cons ⟨t2N, rfl⟩ .nil)⟩
  have gK_MOST_PAIRS := PySem.W.mg_of X G aK_MOST_PAIRS
  have gK_MOST_WORDS := PySem.W.mg_of X G aK_MOST_WORDS
  have gK_MOST_WITHIN := PySem.W.mg_of X G aK_MOST_WITHIN
  have gZ_KID := PySem.W.mg_of X G aZ_KID
  have g2aB := PySem.W.mg_of X G gaB
  have kdaB : KD l.prog w K aB (bndKV bN bD bX bA bM) := kd_of waB laB eaB (show (["N", "D", "X", "A", "M"] : List Str).Nodup by decide +kernel) (show 5 ≤ 1000 by decide)
  have sqbN : ∀ H, SqT K H bN [.int (-1000), .int 1000] := fun H => .inr ⟨_, _, _, lbN, rfl, rfl, (by show 2 ≤ sizeLine; decide), .cons ⟨tbN0, rfl⟩ (.cons ⟨tbN1, rfl⟩ (.nil))⟩
  have sqbD : ∀ H, SqT K H bD [.int 0, .int 3] := fun H => .inr ⟨_, _, _, lbD, rfl, rfl, (by show 2 ≤ sizeLine; decide), .cons ⟨tbD0, rfl⟩ (.cons ⟨tbD1, rfl⟩ (.nil))⟩
  have sqbX : ∀ H, SqT K H bX [.int (-100), .int 100] := fun H => .inr ⟨_, _, _, lbX, rfl, rfl, (by show 2 ≤ sizeLine; decide), .cons ⟨tbX0, rfl⟩ (.cons ⟨tbX1, rfl⟩ (.nil))⟩
  have sqbA : ∀ H, SqT K H bA [.int 1, .int 1000] := fun H => .inr ⟨_, _, _, lbA, rfl, rfl, (by show 2 ≤ sizeLine; decide), .cons ⟨tbA0, rfl⟩ (.cons ⟨tbA1, rfl⟩ (.nil))⟩
  have sqbM : ∀ H, SqT K H bM [.int (-200), .int 200] := fun H => .inr ⟨_, _, _, lbM, rfl, rfl, (by show 2 ≤ sizeLine; decide), .cons ⟨tbM0, rfl⟩ (.cons ⟨tbM1, rfl⟩ (.nil))⟩
  have g2aT := PySem.W.mg_of X G gaT
  have kdaT : KD l.prog w K aT mxKV := kd_of waT laT eaT (show (["point", "none", "mixed", "moved", "scaled", "spread", "drawn"] : List Str).Nodup by decide +kernel) (show 7 ≤ 1000 by decide)
  have FXe0 := fun_mk (st := inClass sBadMix 0) lXe0 cXe0 kXe0
  have ZXe0 : Xc K mg "BadMix" "path" CXe0 gXe0 bmV "ValueError.__new__" (inClass sBadMix 0) "BadMix.__init__" _ := ⟨⟨PySem.W.mg_of X G aXe0, iXe0, oXe0, sXe0, tXe0, xfB_ok xXe0, nXe0, jXe0, vXe0, qXe0, yXe0⟩, FXe0, FXe0.binds (ps := ["self", "path"]) fun _ _ _ _ _ _ us hl => match us, hl with | [_, _], _ => rfl⟩
  have FAscends := fun_mk (st := sAscends) lAscends cAscends kAscends
  have DAscends : Df K mg "ascends" sAscends ["things"] fAscends _ := ⟨FAscends, FAscends.binds (ps := ["things"]) fun _ _ _ _ _ _ us hl => match us, hl with | [_], _ => rfl, PySem.W.mg_of X G aAscends⟩
  have FIsRowOf := fun_mk (st := sIsRowOf) lIsRowOf cIsRowOf kIsRowOf
  have DIsRowOf : Df K mg "is_row_of" sIsRowOf ["thing", "many"] fIsRowOf _ := ⟨FIsRowOf, FIsRowOf.binds (ps := ["thing", "many"]) fun _ _ _ _ _ _ us hl => match us, hl with | [_, _], _ => rfl, PySem.W.mg_of X G aIsRowOf⟩
  have FIsRow := fun_mk (st := sIsRow) lIsRow cIsRow kIsRow
  have DIsRow : Df K mg "is_row" sIsRow ["thing"] fIsRow _ := ⟨FIsRow, FIsRow.binds (ps := ["thing"]) fun _ _ _ _ _ _ us hl => match us, hl with | [_], _ => rfl, PySem.W.mg_of X G aIsRow⟩
  have FIsWholeWithin := fun_mk (st := sIsWholeWithin) lIsWholeWithin cIsWholeWithin kIsWholeWithin
  have DIsWholeWithin : Df K mg "is_whole_within" sIsWholeWithin ["thing", "least", "most"] fIsWholeWithin _ := ⟨FIsWholeWithin, FIsWholeWithin.binds (ps := ["thing", "least", "most"]) fun _ _ _ _ _ _ us hl => match us, hl with | [_, _, _], _ => rfl, PySem.W.mg_of X G aIsWholeWithin⟩
  have FIsWhole := fun_mk (st := sIsWhole) lIsWhole cIsWhole kIsWhole
  have DIsWhole : Df K mg "is_whole" sIsWhole ["thing"] fIsWhole _ := ⟨FIsWhole, FIsWhole.binds (ps := ["thing"]) fun _ _ _ _ _ _ us hl => match us, hl with | [_], _ => rfl, PySem.W.mg_of X G aIsWhole⟩
  have FIsNumber := fun_mk (st := sIsNumber) lIsNumber cIsNumber kIsNumber
  have DIsNumber : Df K mg "is_number" sIsNumber ["thing"] fIsNumber _ := ⟨FIsNumber, FIsNumber.binds (ps := ["thing"]) fun _ _ _ _ _ _ us hl => match us, hl with | [_], _ => rfl, PySem.W.mg_of X G aIsNumber⟩
  have FIsFraction := fun_mk (st := sIsFraction) lIsFraction cIsFraction kIsFraction
  have DIsFraction : Df K mg "is_fraction" sIsFraction ["thing"] fIsFraction _ := ⟨FIsFraction, FIsFraction.binds (ps := ["thing"]) fun _ _ _ _ _ _ us hl => match us, hl with | [_], _ => rfl, PySem.W.mg_of X G aIsFraction⟩
  have FIsWeight := fun_mk (st := sIsWeight) lIsWeight cIsWeight kIsWeight
  have DIsWeight : Df K mg "is_weight" sIsWeight ["thing"] fIsWeight _ := ⟨FIsWeight, FIsWeight.binds (ps := ["thing"]) fun _ _ _ _ _ _ us hl => match us, hl with | [_], _ => rfl, PySem.W.mg_of X G aIsWeight⟩
  have FIsSharePair := fun_mk (st := sIsSharePair) lIsSharePair cIsSharePair kIsSharePair
  have DIsSharePair : Df K mg "is_share_pair" sIsSharePair ["thing"] fIsSharePair _ := ⟨FIsSharePair, FIsSharePair.binds (ps := ["thing"]) fun _ _ _ _ _ _ us hl => match us, hl with | [_], _ => rfl, PySem.W.mg_of X G aIsSharePair⟩
  have FIsShare := fun_mk (st := sIsShare) lIsShare cIsShare kIsShare
  have DIsShare : Df K mg "is_share" sIsShare ["thing"] fIsShare _ := ⟨FIsShare, FIsShare.binds (ps := ["thing"]) fun _ _ _ _ _ _ us hl => match us, hl with | [_], _ => rfl, PySem.W.mg_of X G aIsShare⟩
  have FAdded := fun_mk (st := sAdded) lAdded cAdded kAdded
  have DAdded : Df K mg "added" sAdded ["one", "other"] fAdded _ := ⟨FAdded, FAdded.binds (ps := ["one", "other"]) fun _ _ _ _ _ _ us hl => match us, hl with | [_, _], _ => rfl, PySem.W.mg_of X G aAdded⟩
  have FLowered := fun_mk (st := sLowered) lLowered cLowered kLowered
  have DLowered : Df K mg "lowered" sLowered ["top", "bottom"] fLowered _ := ⟨FLowered, FLowered.binds (ps := ["top", "bottom"]) fun _ _ _ _ _ _ us hl => match us, hl with | [_, _], _ => rfl, PySem.W.mg_of X G aLowered⟩
  have FGathered := fun_mk (st := sGathered) lGathered cGathered kGathered
  have DGathered : Df K mg "gathered" sGathered ["pairs"] fGathered _ := ⟨FGathered, FGathered.binds (ps := ["pairs"]) fun _ _ _ _ _ _ us hl => match us, hl with | [_], _ => rfl, PySem.W.mg_of X G aGathered⟩
  have FDivided := fun_mk (st := sDivided) lDivided cDivided kDivided
  have DDivided : Df K mg "divided" sDivided ["one", "other"] fDivided _ := ⟨FDivided, FDivided.binds (ps := ["one", "other"]) fun _ _ _ _ _ _ us hl => match us, hl with | [_, _], _ => rfl, PySem.W.mg_of X G aDivided⟩
  have FSumOf := fun_mk (st := sSumOf) lSumOf cSumOf kSumOf
  have DSumOf : Df K mg "sum_of" sSumOf ["fractions"] fSumOf _ := ⟨FSumOf, FSumOf.binds (ps := ["fractions"]) fun _ _ _ _ _ _ us hl => match us, hl with | [_], _ => rfl, PySem.W.mg_of X G aSumOf⟩
  have FScaled := fun_mk (st := sScaled) lScaled cScaled kScaled
  have DScaled : Df K mg "scaled" sScaled ["fraction", "by"] fScaled _ := ⟨FScaled, FScaled.binds (ps := ["fraction", "by"]) fun _ _ _ _ _ _ us hl => match us, hl with | [_, _], _ => rfl, PySem.W.mg_of X G aScaled⟩
  have FMomentOf := fun_mk (st := sMomentOf) lMomentOf cMomentOf kMomentOf
  have DMomentOf : Df K mg "moment_of" sMomentOf ["share"] fMomentOf _ := ⟨FMomentOf, FMomentOf.binds (ps := ["share"]) fun _ _ _ _ _ _ us hl => match us, hl with | [_], _ => rfl, PySem.W.mg_of X G aMomentOf⟩
  have FTotalOf := fun_mk (st := sTotalOf) lTotalOf cTotalOf kTotalOf
  have DTotalOf : Df K mg "total_of" sTotalOf ["share"] fTotalOf _ := ⟨FTotalOf, FTotalOf.binds (ps := ["share"]) fun _ _ _ _ _ _ us hl => match us, hl with | [_], _ => rfl, PySem.W.mg_of X G aTotalOf⟩
  have FDrawn := fun_mk (st := sDrawn) lDrawn cDrawn kDrawn
  have DDrawn : Df K mg "drawn" sDrawn ["share", "low", "high"] fDrawn _ := ⟨FDrawn, FDrawn.binds (ps := ["share", "low", "high"]) fun _ _ _ _ _ _ us hl => match us, hl with | [_, _, _], _ => rfl, PySem.W.mg_of X G aDrawn⟩
  have FMultiplied := fun_mk (st := sMultiplied) lMultiplied cMultiplied kMultiplied
  have DMultiplied : Df K mg "multiplied" sMultiplied ["one", "other"] fMultiplied _ := ⟨FMultiplied, FMultiplied.binds (ps := ["one", "other"]) fun _ _ _ _ _ _ us hl => match us, hl with | [_, _], _ => rfl, PySem.W.mg_of X G aMultiplied⟩
  have FSpread := fun_mk (st := sSpread) lSpread cSpread kSpread
  have DSpread : Df K mg "spread" sSpread ["share", "number", "low", "high"] fSpread _ := ⟨FSpread, FSpread.binds (ps := ["share", "number", "low", "high"]) fun _ _ _ _ _ _ us hl => match us, hl with | [_, _, _, _], _ => rfl, PySem.W.mg_of X G aSpread⟩
  have FMultipliedAll := fun_mk (st := sMultipliedAll) lMultipliedAll cMultipliedAll kMultipliedAll
  have DMultipliedAll : Df K mg "multiplied_all" sMultipliedAll ["share", "fraction"] fMultipliedAll _ := ⟨FMultipliedAll, FMultipliedAll.binds (ps := ["share", "fraction"]) fun _ _ _ _ _ _ us hl => match us, hl with | [_, _], _ => rfl, PySem.W.mg_of X G aMultipliedAll⟩
  have FMoved := fun_mk (st := sMoved) lMoved cMoved kMoved
  have DMoved : Df K mg "moved" sMoved ["share", "by"] fMoved _ := ⟨FMoved, FMoved.binds (ps := ["share", "by"]) fun _ _ _ _ _ _ us hl => match us, hl with | [_, _], _ => rfl, PySem.W.mg_of X G aMoved⟩
  have FMade := fun_mk (st := sMade) lMade cMade kMade
  have DMade : Df K mg "made" sMade ["mix", "kids"] fMade _ := ⟨FMade, FMade.binds (ps := ["mix", "kids"]) fun _ _ _ _ _ _ us hl => match us, hl with | [_, _], _ => rfl, PySem.W.mg_of X G aMade⟩
  have FKidPlaces := fun_mk (st := sKidPlaces) lKidPlaces cKidPlaces kKidPlaces
  have DKidPlaces : Df K mg "kid_places" sKidPlaces ["shape"] fKidPlaces _ := ⟨FKidPlaces, FKidPlaces.binds (ps := ["shape"]) fun _ _ _ _ _ _ us hl => match us, hl with | [_], _ => rfl, PySem.W.mg_of X G aKidPlaces⟩
  have FShareAt := fun_mk (st := sShareAt) lShareAt cShareAt kShareAt
  have DShareAt : Df K mg "share_at" sShareAt ["mix", "path"] fShareAt _ := ⟨FShareAt, FShareAt.binds (ps := ["mix", "path"]) fun _ _ _ _ _ _ us hl => match us, hl with | [_, _], _ => rfl, PySem.W.mg_of X G aShareAt⟩
  have FIsInOrder := fun_mk (st := sIsInOrder) lIsInOrder cIsInOrder kIsInOrder
  have DIsInOrder : Df K mg "is_in_order" sIsInOrder ["thing"] fIsInOrder _ := ⟨FIsInOrder, FIsInOrder.binds (ps := ["thing"]) fun _ _ _ _ _ _ us hl => match us, hl with | [_], _ => rfl, PySem.W.mg_of X G aIsInOrder⟩
  have FMayStand := fun_mk (st := sMayStand) lMayStand cMayStand kMayStand
  have DMayStand : Df K mg "may_stand" sMayStand ["kind", "thing"] fMayStand _ := ⟨FMayStand, FMayStand.binds (ps := ["kind", "thing"]) fun _ _ _ _ _ _ us hl => match us, hl with | [_, _], _ => rfl, PySem.W.mg_of X G aMayStand⟩
  have FIsWord := fun_mk (st := sIsWord) lIsWord cIsWord kIsWord
  have DIsWord : Df K mg "is_word" sIsWord ["thing"] fIsWord _ := ⟨FIsWord, FIsWord.binds (ps := ["thing"]) fun _ _ _ _ _ _ us hl => match us, hl with | [_], _ => rfl, PySem.W.mg_of X G aIsWord⟩
  have FIsFormed := fun_mk (st := sIsFormed) lIsFormed cIsFormed kIsFormed
  have DIsFormed : Df K mg "is_formed" sIsFormed ["thing", "shapes"] fIsFormed _ := ⟨FIsFormed, FIsFormed.binds (ps := ["thing", "shapes"]) fun _ _ _ _ _ _ us hl => match us, hl with | [_, _], _ => rfl, PySem.W.mg_of X G aIsFormed⟩
  have FFaultIn := fun_mk (st := sFaultIn) lFaultIn cFaultIn kFaultIn
  have DFaultIn : Df K mg "fault_in" sFaultIn ["whole", "shapes"] fFaultIn _ := ⟨FFaultIn, FFaultIn.binds (ps := ["whole", "shapes"]) fun _ _ _ _ _ _ us hl => match us, hl with | [_, _], _ => rfl, PySem.W.mg_of X G aFaultIn⟩
  have FShareOf := fun_mk (st := sShareOf) lShareOf cShareOf kShareOf
  have DShareOf : Df K mg "share_of" sShareOf ["mix"] fShareOf _ := ⟨FShareOf, FShareOf.binds (ps := ["mix"]) fun _ _ _ _ _ _ us hl => match us, hl with | [_], _ => rfl, PySem.W.mg_of X G aShareOf⟩
  have ELawHandRight : FunC K "_law_hand_right" "_law_hand_right" sLawHandRight fLawHandRight _ c0LawHandRight := ⟨⟨_, _, _, _, _, _, _, _, rfl, lLawHandRight, cLawHandRight⟩, kLawHandRight⟩
  have FLawHandRight := ELawHandRight.fun_
  have DLawHandRight : Df K mg "_law_hand_right" sLawHandRight [] fLawHandRight _ := ⟨FLawHandRight, FLawHandRight.binds (ps := []) fun _ _ _ _ _ _ us hl => match us, hl with | [], _ => rfl, PySem.W.mg_of X G aLawHandRight⟩
  have FLawHeard := fun_mk (st := sLawHeard) lLawHeard cLawHeard kLawHeard
  have DLawHeard : Df K mg "_law_heard" sLawHeard ["call"] fLawHeard _ := ⟨FLawHeard, FLawHeard.binds (ps := ["call"]) fun _ _ _ _ _ _ us hl => match us, hl with | [_], _ => rfl, PySem.W.mg_of X G aLawHeard⟩
  have FLawUnder := fun_mk (st := sLawUnder) lLawUnder cLawUnder kLawUnder
  have DLawUnder : Df K mg "_law_under" sLawUnder ["one", "other"] fLawUnder _ := ⟨FLawUnder, FLawUnder.binds (ps := ["one", "other"]) fun _ _ _ _ _ _ us hl => match us, hl with | [_, _], _ => rfl, PySem.W.mg_of X G aLawUnder⟩
  have FLawPlus := fun_mk (st := sLawPlus) lLawPlus cLawPlus kLawPlus
  have DLawPlus : Df K mg "_law_plus" sLawPlus ["one", "other"] fLawPlus _ := ⟨FLawPlus, FLawPlus.binds (ps := ["one", "other"]) fun _ _ _ _ _ _ us hl => match us, hl with | [_, _], _ => rfl, PySem.W.mg_of X G aLawPlus⟩
  have FLawRatio := fun_mk (st := sLawRatio) lLawRatio cLawRatio kLawRatio
  have DLawRatio : Df K mg "_law_ratio" sLawRatio ["top", "bottom"] fLawRatio _ := ⟨FLawRatio, FLawRatio.binds (ps := ["top", "bottom"]) fun _ _ _ _ _ _ us hl => match us, hl with | [_, _], _ => rfl, PySem.W.mg_of X G aLawRatio⟩
  have FLawSum := fun_mk (st := sLawSum) lLawSum cLawSum kLawSum
  have DLawSum : Df K mg "_law_sum" sLawSum ["some"] fLawSum _ := ⟨FLawSum, FLawSum.binds (ps := ["some"]) fun _ _ _ _ _ _ us hl => match us, hl with | [_], _ => rfl, PySem.W.mg_of X G aLawSum⟩
  have FLawTimes := fun_mk (st := sLawTimes) lLawTimes cLawTimes kLawTimes
  have DLawTimes : Df K mg "_law_times" sLawTimes ["one", "other"] fLawTimes _ := ⟨FLawTimes, FLawTimes.binds (ps := ["one", "other"]) fun _ _ _ _ _ _ us hl => match us, hl with | [_, _], _ => rfl, PySem.W.mg_of X G aLawTimes⟩
  have FLawRest := fun_mk (st := sLawRest) lLawRest cLawRest kLawRest
  have DLawRest : Df K mg "_law_rest" sLawRest ["share_so", "at"] fLawRest _ := ⟨FLawRest, FLawRest.binds (ps := ["share_so", "at"]) fun _ _ _ _ _ _ us hl => match us, hl with | [_, _], _ => rfl, PySem.W.mg_of X G aLawRest⟩
  have FLawMoment := fun_mk (st := sLawMoment) lLawMoment cLawMoment kLawMoment
  have DLawMoment : Df K mg "_law_moment" sLawMoment ["share_so"] fLawMoment _ := ⟨FLawMoment, FLawMoment.binds (ps := ["share_so"]) fun _ _ _ _ _ _ us hl => match us, hl with | [_], _ => rfl, PySem.W.mg_of X G aLawMoment⟩
  have FLawTotal := fun_mk (st := sLawTotal) lLawTotal cLawTotal kLawTotal
  have DLawTotal : Df K mg "_law_total" sLawTotal ["share_so"] fLawTotal _ := ⟨FLawTotal, FLawTotal.binds (ps := ["share_so"]) fun _ _ _ _ _ _ us hl => match us, hl with | [_], _ => rfl, PySem.W.mg_of X G aLawTotal⟩
  have FLawLacks := fun_mk (st := sLawLacks) lLawLacks cLawLacks kLawLacks
  have DLawLacks : Df K mg "_law_lacks" sLawLacks ["one", "other"] fLawLacks _ := ⟨FLawLacks, FLawLacks.binds (ps := ["one", "other"]) fun _ _ _ _ _ _ us hl => match us, hl with | [_, _], _ => rfl, PySem.W.mg_of X G aLawLacks⟩
  have FLawShareOf := fun_mk (st := sLawShareOf) lLawShareOf cLawShareOf kLawShareOf
  have DLawShareOf : Df K mg "_law_share_of" sLawShareOf ["hefts"] fLawShareOf _ := ⟨FLawShareOf, FLawShareOf.binds (ps := ["hefts"]) fun _ _ _ _ _ _ us hl => match us, hl with | [_], _ => rfl, PySem.W.mg_of X G aLawShareOf⟩
  have FLawJoined := fun_mk (st := sLawJoined) lLawJoined cLawJoined kLawJoined
  have DLawJoined : Df K mg "_law_joined" sLawJoined ["one", "other"] fLawJoined _ := ⟨FLawJoined, FLawJoined.binds (ps := ["one", "other"]) fun _ _ _ _ _ _ us hl => match us, hl with | [_, _], _ => rfl, PySem.W.mg_of X G aLawJoined⟩
  have FLawOver := fun_mk (st := sLawOver) lLawOver cLawOver kLawOver
  have DLawOver : Df K mg "_law_over" sLawOver ["one", "other"] fLawOver _ := ⟨FLawOver, FLawOver.binds (ps := ["one", "other"]) fun _ _ _ _ _ _ us hl => match us, hl with | [_, _], _ => rfl, PySem.W.mg_of X G aLawOver⟩
  have FLawDrawn := fun_mk (st := sLawDrawn) lLawDrawn cLawDrawn kLawDrawn
  have DLawDrawn : Df K mg "_law_drawn" sLawDrawn ["one", "low", "high"] fLawDrawn _ := ⟨FLawDrawn, FLawDrawn.binds (ps := ["one", "low", "high"]) fun _ _ _ _ _ _ us hl => match us, hl with | [_, _, _], _ => rfl, PySem.W.mg_of X G aLawDrawn⟩
  have FLawLess := fun_mk (st := sLawLess) lLawLess cLawLess kLawLess
  have DLawLess : Df K mg "_law_less" sLawLess ["one", "other"] fLawLess _ := ⟨FLawLess, FLawLess.binds (ps := ["one", "other"]) fun _ _ _ _ _ _ us hl => match us, hl with | [_, _], _ => rfl, PySem.W.mg_of X G aLawLess⟩
  have FLawSpread := fun_mk (st := sLawSpread) lLawSpread cLawSpread kLawSpread
  have DLawSpread : Df K mg "_law_spread" sLawSpread ["one", "mark", "low", "high"] fLawSpread _ := ⟨FLawSpread, FLawSpread.binds (ps := ["one", "mark", "low", "high"]) fun _ _ _ _ _ _ us hl => match us, hl with | [_, _, _, _], _ => rfl, PySem.W.mg_of X G aLawSpread⟩
  have FLawOneOf := fun_mk (st := sLawOneOf) lLawOneOf cLawOneOf kLawOneOf
  have DLawOneOf : Df K mg "_law_one_of" sLawOneOf ["mix_so", "some"] fLawOneOf _ := ⟨FLawOneOf, FLawOneOf.binds (ps := ["mix_so", "some"]) fun _ _ _ _ _ _ us hl => match us, hl with | [_, _], _ => rfl, PySem.W.mg_of X G aLawOneOf⟩
  have FLawInner := fun_mk (st := sLawInner) lLawInner cLawInner kLawInner
  have DLawInner : Df K mg "_law_inner" sLawInner ["mix_so"] fLawInner _ := ⟨FLawInner, FLawInner.binds (ps := ["mix_so"]) fun _ _ _ _ _ _ us hl => match us, hl with | [_], _ => rfl, PySem.W.mg_of X G aLawInner⟩
  have FLawShared := fun_mk (st := sLawShared) lLawShared cLawShared kLawShared
  have DLawShared : Df K mg "_law_shared" sLawShared ["mix_so", "path"] fLawShared _ := ⟨FLawShared, FLawShared.binds (ps := ["mix_so", "path"]) fun _ _ _ _ _ _ us hl => match us, hl with | [_, _], _ => rfl, PySem.W.mg_of X G aLawShared⟩
  have FNeedMix := fun_mk (st := sNeedMix) lNeedMix cNeedMix kNeedMix
  have DNeedMix : Df K mg "need_mix" sNeedMix ["thing"] fNeedMix _ := ⟨FNeedMix, FNeedMix.binds (ps := ["thing"]) fun _ _ _ _ _ _ us hl => match us, hl with | [_], _ => rfl, PySem.W.mg_of X G aNeedMix⟩
  have FPartsOf := fun_mk (st := sPartsOf) lPartsOf cPartsOf kPartsOf
  have DPartsOf : Df K mg "parts_of" sPartsOf ["mix"] fPartsOf _ := ⟨FPartsOf, FPartsOf.binds (ps := ["mix"]) fun _ _ _ _ _ _ us hl => match us, hl with | [_], _ => rfl, PySem.W.mg_of X G aPartsOf⟩
  have ELawIsRight : FunC K "_law_is_right" "_law_is_right" sLawIsRight fLawIsRight _ c0LawIsRight := ⟨⟨_, _, _, _, _, _, _, _, rfl, lLawIsRight, cLawIsRight⟩, kLawIsRight⟩
  have FLawIsRight := ELawIsRight.fun_
  have DLawIsRight : Df K mg "_law_is_right" sLawIsRight ["mix_so"] fLawIsRight _ := ⟨FLawIsRight, FLawIsRight.binds (ps := ["mix_so"]) fun _ _ _ _ _ _ us hl => match us, hl with | [_], _ => rfl, PySem.W.mg_of X G aLawIsRight⟩
  have FDraw := fun_mk (st := sDraw) lDraw cDraw kDraw
  have DDraw : Df K mg "_law_draw" sDraw ["state", "many"] fDraw _ := ⟨FDraw, FDraw.binds (ps := ["state", "many"]) fun _ _ _ _ _ _ us hl => match us, hl with | [_, _], _ => rfl, PySem.W.mg_of X G aDraw⟩
  have FMixed := fun_mk (st := sMixed) lMixed cMixed kMixed
  have DMixed : Df K mg "_law_mixed" sMixed ["cell", "k"] fMixed _ := ⟨FMixed, FMixed.binds (ps := ["cell", "k"]) fun _ _ _ _ _ _ us hl => match us, hl with | [_, _], _ => rfl, PySem.W.mg_of X G aMixed⟩
  have FLawOf := fun_mk (st := sLawOf) lLawOf cLawOf kLawOf
  have DLawOf : Df K mg "_law_of" sLawOf ["state", "some"] fLawOf _ := ⟨FLawOf, FLawOf.binds (ps := ["state", "some"]) fun _ _ _ _ _ _ us hl => match us, hl with | [_, _], _ => rfl, PySem.W.mg_of X G aLawOf⟩
  have FLawMix := fun_mk (st := sLawMix) lLawMix cLawMix kLawMix
  have DLawMix : Df K mg "_law_mix" sLawMix ["state", "deep"] fLawMix _ := ⟨FLawMix, FLawMix.binds (ps := ["state", "deep"]) fun _ _ _ _ _ _ us hl => match us, hl with | [_, _], _ => rfl, PySem.W.mg_of X G aLawMix⟩
  have FBegin := fun_mk (st := sBegin) lBegin cBegin kBegin
  have DBegin : Df K mg "_law_begin" sBegin ["script"] fBegin _ := ⟨FBegin, FBegin.binds (ps := ["script"]) fun _ _ _ _ _ _ us hl => match us, hl with | [_], _ => rfl, PySem.W.mg_of X G aBegin⟩
  have FLaw := fun_mk (st := sLaw) lLaw cLaw kLaw
  have DLaw : Df K mg "law" sLaw ["script"] _ _ := ⟨FLaw, FLaw.binds (ps := ["script"]) fun _ _ _ _ _ _ us hl => match us, hl with | [_], _ => rfl, PySem.W.mg_of X G aLaw⟩
  refine ⟨PySem.W.fnOf "law" "law" (defArgs sLaw) (defBody sLaw) (defScope sLaw) .none kVLaw dcLaw pmLaw anLaw cdLaw ctLaw, [(c0LawIsRight, p0LawIsRight), (c0LawHandRight, p0LawHandRight)], spLaw27 K [(p0LawIsRight, ((("_law_is_right" : Str) ++ ".<locals>.") ++ "<lambda>" : Str)), (p0LawHandRight, ((("_law_hand_right" : Str) ++ ".<locals>.") ++ "<lambda>" : Str))], ?_, ?_, ?_, fun s v => ?_, ?_, fun base _ _ TB => ?_⟩
  · exact List.forall_mem_cons.mpr ⟨mLawIsRight, List.forall_mem_cons.mpr ⟨mLawHandRight, fun _ z => nomatch z⟩⟩
  · exact List.forall_mem_cons.mpr ⟨nLawIsRight, List.forall_mem_cons.mpr ⟨nLawHandRight, fun _ z => nomatch z⟩⟩
  · exact List.forall_mem_cons.mpr ⟨PySem.W.codeHd_of_K X hLawIsRight, List.forall_mem_cons.mpr ⟨PySem.W.codeHd_of_K X hLawHandRight, fun _ z => nomatch z⟩⟩
  · exact .of_eq rfl
  · exact fun H a ns hl hT hS => ⟨a, ns, rfl, hS, hl, List.forall_mem_cons.mpr ⟨.nil (hT _ (.head _)), List.forall_mem_cons.mpr ⟨.nil (hT _ (.tail _ (.head _))), fun _ z => nomatch z⟩⟩, fun _ => rfl⟩
  have TB0 := TB _ (.head _)
  have TB1 := TB _ (.tail _ (.head _))
  have Gh19 := ok_law_heardM (P := l.prog) (w := w) (base := base) (k := 19) DLawHeard ZXe0 e0_0
  have Gh18 := ok_law_heardM (P := l.prog) (w := w) (base := base) (k := 18) DLawHeard ZXe0 e0_0
  have Gh17 := ok_law_heardM (P := l.prog) (w := w) (base := base) (k := 17) DLawHeard ZXe0 e0_0
  have g0_ := ok_ascends (P := l.prog) (w := w) (base := base) DAscends T
  have g1_ := ok_is_row_of (P := l.prog) (w := w) (base := base) DIsRowOf DIsRow T
  have g2_ := ok_is_whole_within (P := l.prog) (w := w) (base := base) DIsWholeWithin DIsWhole T
  have g3_ := ok_is_number (P := l.prog) (w := w) (base := base) DIsNumber DIsWholeWithin g2_
  have g4_ := ok_is_fraction (P := l.prog) (w := w) (base := base) DIsFraction DIsRowOf DIsRow DIsWhole T
  have g5_ := ok_is_weight (P := l.prog) (w := w) (base := base) DIsWeight DIsFraction g4_
  have g6_ := ok_is_share_pair (P := l.prog) (w := w) (base := base) DIsSharePair DIsRowOf g1_ DIsNumber g3_ DIsWeight g5_
  have g7_ := ok_rowD (P := l.prog) (w := w) (base := base) DIsRow T
  have g8_ := ok_is_row (P := l.prog) (w := w) (base := base) DIsRow T
  have g9_ := ok_is_shareO (P := l.prog) (w := w) (base := base) DIsShare DAscends g0_ DIsSharePair g6_ DIsRow g7_ g8_ gK_MOST_PAIRS T
  have g10_ := ok_added (P := l.prog) (w := w) (base := base) DAdded DLowered T
  have g11_ := ok_gatheredLZ (P := l.prog) (w := w) (base := base) DGathered DAdded g10_ gN hN T
  have g12_ := ok_lowered (P := l.prog) (w := w) (base := base) DLowered T
  have g13_ := ok_divided (P := l.prog) (w := w) (base := base) DDivided DLowered g12_
  have g14_ := ok_sum_of (P := l.prog) (w := w) (base := base) DSumOf DAdded g10_ gN hN
  have g15_ := ok_scaled (P := l.prog) (w := w) (base := base) DScaled DLowered T
  have g16_ := ok_moment_ofL (P := l.prog) (w := w) (base := base) DMomentOf DSumOf g14_ DScaled g15_
  have g17_ := ok_total_ofL (P := l.prog) (w := w) (base := base) DTotalOf DSumOf g14_
  have g18_ := ok_drawn (P := l.prog) (w := w) (base := base) DDrawn DGathered g11_ DDivided g13_ DMomentOf g16_ DTotalOf g17_ T
  have g19_ := ok_multiplied (P := l.prog) (w := w) (base := base) DMultiplied DLowered g12_
  have g20_ := ok_spread (P := l.prog) (w := w) (base := base) DSpread DGathered g11_ DScaled g15_ DMultiplied g19_ DLowered g12_ gN hN T
  have g21_ := ok_multiplied_all (P := l.prog) (w := w) (base := base) DMultipliedAll DMultiplied g19_ T
  have g22_ := ok_moved (P := l.prog) (w := w) (base := base) DMoved T
  have g23_ := ok_gatheredTZ (P := l.prog) (w := w) (base := base) DGathered DAdded g10_ gN hN T
  have g24_ := ok_made (P := l.prog) (w := w) (base := base) DMade DDrawn g18_ DSpread g20_ DMultipliedAll g21_ DLowered g12_ DMoved g22_ DGathered g23_
  have g25_ := ok_kid_places (P := l.prog) (w := w) (base := base) DKidPlaces gZ_KID T (PySem.W.mg_none_of X G z_enumerate)
  have g26_ := ok_share_at8 (P := l.prog) (w := w) (base := base) DShareAt DIsShare g9_ DMade g24_ DKidPlaces g25_ g2aT kdaT T ZXe0
  have g27_ := ok_is_in_order (P := l.prog) (w := w) (base := base) DIsInOrder
  have g28_ := ok_may_stand (P := l.prog) (w := w) (base := base) DMayStand DIsWholeWithin g2_ gZ_KID g2aB kdaB sqbN sqbD sqbX sqbA sqbM T
  have g29_ := ok_wordD (P := l.prog) (w := w) (base := base) DIsWord T (PySem.W.mg_none_of X G z_str)
  have g30_ := ok_is_formed (α := Mx) (P := l.prog) (w := w) (base := base) DIsFormed DIsInOrder g27_ DMayStand g28_ DIsWord g29_ DIsRow g7_ T
  have g31_ := ok_fault_in (α := Mx) (P := l.prog) (w := w) (base := base) DFaultIn DKidPlaces g25_ DIsFormed g30_ gK_MOST_WORDS gK_MOST_WITHIN T
  have g32_ := ok_share_of (P := l.prog) (w := w) (base := base) DShareOf DShareAt g26_ DFaultIn g31_ g2aT kdaT T
  have g33_ := ok_law_hand_right (P := l.prog) (w := w) (base := base) (TT := [(p0LawIsRight, ((("_law_is_right" : Str) ++ ".<locals>.") ++ "<lambda>" : Str)), (p0LawHandRight, ((("_law_hand_right" : Str) ++ ".<locals>.") ++ "<lambda>" : Str))]) ELawHandRight TB1 (.tail _ (.head _)) (List.forall_mem_cons.mpr ⟨fun z => absurd z pne0_1, List.forall_mem_cons.mpr ⟨fun _ => rfl, fun _ z => nomatch z⟩⟩) DShareOf g32_ T (PySem.W.mg_none_of X G z_repr) DShareOf g32_ DLawHeard Gh17
  have g34_ := ok_law_under (P := l.prog) (w := w) (base := base) DLawUnder T
  have g35_ := ok_law_plus (P := l.prog) (w := w) (base := base) DLawPlus DLawRatio T
  have g36_ := ok_law_sum (P := l.prog) (w := w) (base := base) DLawSum DLawPlus g35_
  have g37_ := ok_law_times (P := l.prog) (w := w) (base := base) DLawTimes DLawRatio T
  have g38_ := ok_law_rest (P := l.prog) (w := w) (base := base) DLawRest DLawSum g36_ DLawTimes g37_
  have g39_ := ok_law_moment (P := l.prog) (w := w) (base := base) DLawMoment DLawSum g36_ DLawTimes g37_
  have g40_ := ok_law_total (P := l.prog) (w := w) (base := base) DLawTotal DLawSum g36_
  have g41_ := ok_law_lacks (P := l.prog) (w := w) (base := base) DLawLacks DLawUnder g34_ DLawRest g38_ DLawMoment g39_ DLawTotal g40_ T
  have g42_ := ok_law_share_ofZ (P := l.prog) (w := w) (base := base) DLawShareOf T
  have g43_ := ok_law_joined (P := l.prog) (w := w) (base := base) DLawJoined DLawShareOf g42_ DLawPlus g35_ T
  have g44_ := ok_law_over (P := l.prog) (w := w) (base := base) DLawOver DLawRatio T
  have g45_ := ok_law_drawn (P := l.prog) (w := w) (base := base) DLawDrawn DLawJoined g43_ DLawOver g44_ DLawSum g36_ DLawTimes g37_ T
  have g46_ := ok_law_less (P := l.prog) (w := w) (base := base) DLawLess DLawRatio T
  have g47_ := ok_law_ratio (P := l.prog) (w := w) (base := base) DLawRatio T
  have g48_ := ok_law_spread (P := l.prog) (w := w) (base := base) DLawSpread DLawJoined g43_ DLawShareOf g42_ DLawTimes g37_ DLawLess g46_ DLawRatio g47_ T
  have g49_ := ok_law_one_of (P := l.prog) (w := w) (base := base) DLawOneOf DLawDrawn g45_ DLawSpread g48_ DLawTimes g37_ DLawRatio g47_ DLawJoined g43_ T (PySem.W.mg_none_of X G z_abs)
  have g50_ := ok_law_inner (P := l.prog) (w := w) (base := base) DLawInner
  have g51_ := ok_law_shared8 (P := l.prog) (w := w) (base := base) DLawShared DLawOneOf g49_ DLawInner g50_ T
  have g52_ := ok_need_mix (P := l.prog) (w := w) (base := base) DNeedMix DShareOf g32_
  have g53_ := ok_parts_of (P := l.prog) (w := w) (base := base) DPartsOf DKidPlaces g25_ DNeedMix g52_ g2aT kdaT T
  have g54_ := ok_law_is_right (P := l.prog) (w := w) (base := base) (TT := [(p0LawIsRight, ((("_law_is_right" : Str) ++ ".<locals>.") ++ "<lambda>" : Str)), (p0LawHandRight, ((("_law_hand_right" : Str) ++ ".<locals>.") ++ "<lambda>" : Str))]) ELawIsRight TB0 (.head _) (List.forall_mem_cons.mpr ⟨fun _ => rfl, List.forall_mem_cons.mpr ⟨fun z => absurd z.symm pne0_1, fun _ z => nomatch z⟩⟩) DLawLacks g41_ DShareOf g32_ DLawShared g51_ DLawInner g50_ T (PySem.W.mg_none_of X G z_repr) DShareOf g32_ DNeedMix g52_ DPartsOf g53_ DLawHeard Gh17 Gh18 Gh19
  have g55_ := ok_draw (P := l.prog) (w := w) (base := base) DDraw DMixed T
  have g56_ := ok_law_of (P := l.prog) (w := w) (base := base) DLawOf DDraw g55_ T
  have g57_ := ok_law_mix3 (P := l.prog) (w := w) (base := base) DLawMix DLawOf g56_ DDraw g55_ T (PySem.W.mg_none_of X G z_min)
  have g58_ := ok_begin (P := l.prog) (w := w) (base := base) DBegin T
  exact ok_law DLaw DLawHandRight g33_ DLawIsRight g54_ DLawMix g57_ DBegin g58_ T (PySem.W.mg_none_of X G z_min)
end CS
open PySem PySem.W PyProof.Rows
set_option maxRecDepth 100000 in
set_option maxHeartbeats 0 in
theorem PySem.Challenge.cw_curtainsteps_k27_whole_mixes_holds : PySem.Challenge.rw_curtainsteps_k27_whole_mixes.Holds := by
  w_on; o_law; k_head; (case hw => w_witness2)
  k_fill
  refine CS.walk_stillTs (n := 63) (k := 22) (x := "script") (l := PySem.Challenge.rw_curtainsteps_k27_whole_mixes) rfl (by decide) rfl ⟨rfl, by decide, by decide⟩ (fun w h Y => PySem.W.km_in_of Y) ?F
  case F =>
    intro w mg fa h Y KX G hmg
    refine' CS.all_mk KX G hmg ?aAscends ?lAscends ?cAscends ?kAscends ?aIsRowOf ?lIsRowOf ?cIsRowOf ?kIsRowOf ?aIsRow ?lIsRow ?cIsRow ?kIsRow ?aIsWholeWithin ?lIsWholeWithin ?cIsWholeWithin ?kIsWholeWithin ?aIsWhole ?lIsWhole ?cIsWhole ?kIsWhole ?aIsNumber ?lIsNumber ?cIsNumber ?kIsNumber ?aIsFraction ?lIsFraction ?cIsFraction ?kIsFraction ?aIsWeight ?lIsWeight ?cIsWeight ?kIsWeight ?aIsSharePair ?lIsSharePair ?cIsSharePair ?kIsSharePair ?aIsShare ?lIsShare ?cIsShare ?kIsShare ?aAdded ?lAdded ?cAdded ?kAdded ?aLowered ?lLowered ?cLowered ?kLowered ?aGathered ?lGathered ?cGathered ?kGathered ?aDivided ?lDivided ?cDivided ?kDivided ?aSumOf ?lSumOf ?cSumOf ?kSumOf ?aScaled ?lScaled ?cScaled ?kScaled ?aMomentOf ?lMomentOf ?cMomentOf ?kMomentOf ?aTotalOf ?lTotalOf ?cTotalOf ?kTotalOf ?aDrawn ?lDrawn ?cDrawn ?kDrawn ?aMultiplied ?lMultiplied ?cMultiplied ?kMultiplied ?aSpread ?lSpread ?cSpread ?kSpread ?aMultipliedAll ?lMultipliedAll ?cMultipliedAll ?kMultipliedAll ?aMoved ?lMoved ?cMoved ?kMoved ?aMade ?lMade ?cMade ?kMade ?aKidPlaces ?lKidPlaces ?cKidPlaces ?kKidPlaces ?aShareAt ?lShareAt ?cShareAt ?kShareAt ?aIsInOrder ?lIsInOrder ?cIsInOrder ?kIsInOrder ?aMayStand ?lMayStand ?cMayStand ?kMayStand ?aIsWord ?lIsWord ?cIsWord ?kIsWord ?aIsFormed ?lIsFormed ?cIsFormed ?kIsFormed ?aFaultIn ?lFaultIn ?cFaultIn ?kFaultIn ?aShareOf ?lShareOf ?cShareOf ?kShareOf ?aLawHandRight ?lLawHandRight ?cLawHandRight ?kLawHandRight ?aLawHeard ?lLawHeard ?cLawHeard ?kLawHeard ?aLawUnder ?lLawUnder ?cLawUnder ?kLawUnder ?aLawPlus ?lLawPlus ?cLawPlus ?kLawPlus ?aLawRatio ?lLawRatio ?cLawRatio ?kLawRatio ?aLawSum ?lLawSum ?cLawSum ?kLawSum ?aLawTimes ?lLawTimes ?cLawTimes ?kLawTimes ?aLawRest ?lLawRest ?cLawRest ?kLawRest ?aLawMoment ?lLawMoment ?cLawMoment ?kLawMoment ?aLawTotal ?lLawTotal ?cLawTotal ?kLawTotal ?aLawLacks ?lLawLacks ?cLawLacks ?kLawLacks ?aLawShareOf ?lLawShareOf ?cLawShareOf ?kLawShareOf ?aLawJoined ?lLawJoined ?cLawJoined ?kLawJoined ?aLawOver ?lLawOver ?cLawOver ?kLawOver ?aLawDrawn ?lLawDrawn ?cLawDrawn ?kLawDrawn ?aLawLess ?lLawLess ?cLawLess ?kLawLess ?aLawSpread ?lLawSpread ?cLawSpread ?kLawSpread ?aLawOneOf ?lLawOneOf ?cLawOneOf ?kLawOneOf ?aLawInner ?lLawInner ?cLawInner ?kLawInner ?aLawShared ?lLawShared ?cLawShared ?kLawShared ?aNeedMix ?lNeedMix ?cNeedMix ?kNeedMix ?aPartsOf ?lPartsOf ?cPartsOf ?kPartsOf ?aLawIsRight ?lLawIsRight ?cLawIsRight ?kLawIsRight ?aDraw ?lDraw ?cDraw ?kDraw ?aMixed ?lMixed ?cMixed ?kMixed ?aLawOf ?lLawOf ?cLawOf ?kLawOf ?aLawMix ?lLawMix ?cLawMix ?kLawMix ?aBegin ?lBegin ?cBegin ?kBegin ?aLaw ?lLaw ?cLaw ?kLaw ?tLawIsRight ?uLawIsRight ?hLawIsRight ?nLawIsRight ?mLawIsRight ?tLawHandRight ?uLawHandRight ?hLawHandRight ?nLawHandRight ?mLawHandRight ?pne0_1 ?z_isinstance ?z_int ?z_tuple ?z_len ?z_abs ?z_range ?z_list ?z_sorted ?z_zip ?z_all ?z_dict ?z_enumerate ?z_str ?z_repr ?z_min ?z_gcd ?aN ?lN ?aK_MOST_PAIRS ?aK_MOST_WORDS ?aK_MOST_WITHIN ?aZ_KID ?gaB ?laB ?eaB ?waB ?lbN ?lbD ?lbX ?lbA ?lbM ?gaT ?laT ?eaT ?waT ?aXe0 ?iXe0 ?oXe0 ?sXe0 ?tXe0 ?xXe0 ?nXe0 ?jXe0 ?vXe0 ?qXe0 ?yXe0 ?lXe0 ?cXe0 ?kXe0 ?e0_0
    (case aAscends => k_is)
    (case lAscends => k_is)
    (case cAscends => k_is)
    (case kAscends => k_is)
    (case aIsRowOf => k_is)
    (case lIsRowOf => k_is)
    (case cIsRowOf => k_is)
    (case kIsRowOf => k_is)
    (case aIsRow => k_is)
    (case lIsRow => k_is)
    (case cIsRow => k_is)
    (case kIsRow => k_is)
    (case aIsWholeWithin => k_is)
    (case lIsWholeWithin => k_is)
    (case cIsWholeWithin => k_is)
    (case kIsWholeWithin => k_is)
    (case aIsWhole => k_is)
    (case lIsWhole => k_is)
    (case cIsWhole => k_is)
    (case kIsWhole => k_is)
    (case aIsNumber => k_is)
    (case lIsNumber => k_is)
    (case cIsNumber => k_is)
    (case kIsNumber => k_is)
    (case aIsFraction => k_is)
    (case lIsFraction => k_is)
    (case cIsFraction => k_is)
    (case kIsFraction => k_is)
    (case aIsWeight => k_is)
    (case lIsWeight => k_is)
    (case cIsWeight => k_is)
    (case kIsWeight => k_is)
    (case aIsSharePair => k_is)
    (case lIsSharePair => k_is)
    (case cIsSharePair => k_is)
    (case kIsSharePair => k_is)
    (case aIsShare => k_is)
    (case lIsShare => k_is)
    (case cIsShare => k_is)
    (case kIsShare => k_is)
    (case aAdded => k_is)
    (case lAdded => k_is)
    (case cAdded => k_is)
    (case kAdded => k_is)
    (case aLowered => k_is)
    (case lLowered => k_is)
    (case cLowered => k_is)
    (case kLowered => k_is)
    (case aGathered => k_is)
    (case lGathered => k_is)
    (case cGathered => k_is)
    (case kGathered => k_is)
    (case aDivided => k_is)
    (case lDivided => k_is)
    (case cDivided => k_is)
    (case kDivided => k_is)
    (case aSumOf => k_is)
    (case lSumOf => k_is)
    (case cSumOf => k_is)
    (case kSumOf => k_is)
    (case aScaled => k_is)
    (case lScaled => k_is)
    (case cScaled => k_is)
    (case kScaled => k_is)
    (case aMomentOf => k_is)
    (case lMomentOf => k_is)
    (case cMomentOf => k_is)
    (case kMomentOf => k_is)
    (case aTotalOf => k_is)
    (case lTotalOf => k_is)
    (case cTotalOf => k_is)
    (case kTotalOf => k_is)
    (case aDrawn => k_is)
    (case lDrawn => k_is)
    (case cDrawn => k_is)
    (case kDrawn => k_is)
    (case aMultiplied => k_is)
    (case lMultiplied => k_is)
    (case cMultiplied => k_is)
    (case kMultiplied => k_is)
    (case aSpread => k_is)
    (case lSpread => k_is)
    (case cSpread => k_is)
    (case kSpread => k_is)
    (case aMultipliedAll => k_is)
    (case lMultipliedAll => k_is)
    (case cMultipliedAll => k_is)
    (case kMultipliedAll => k_is)
    (case aMoved => k_is)
    (case lMoved => k_is)
    (case cMoved => k_is)
    (case kMoved => k_is)
    (case aMade => k_is)
    (case lMade => k_is)
    (case cMade => k_is)
    (case kMade => k_is)
    (case aKidPlaces => k_is)
    (case lKidPlaces => k_is)
    (case cKidPlaces => k_is)
    (case kKidPlaces => k_is)
    (case aShareAt => k_is)
    (case lShareAt => k_is)
    (case cShareAt => k_is)
    (case kShareAt => k_is)
    (case aIsInOrder => k_is)
    (case lIsInOrder => k_is)
    (case cIsInOrder => k_is)
    (case kIsInOrder => k_is)
    (case aMayStand => k_is)
    (case lMayStand => k_is)
    (case cMayStand => k_is)
    (case kMayStand => k_is)
    (case aIsWord => k_is)
    (case lIsWord => k_is)
    (case cIsWord => k_is)
    (case kIsWord => k_is)
    (case aIsFormed => k_is)
    (case lIsFormed => k_is)
    (case cIsFormed => k_is)
    (case kIsFormed => k_is)
    (case aFaultIn => k_is)
    (case lFaultIn => k_is)
    (case cFaultIn => k_is)
    (case kFaultIn => k_is)
    (case aShareOf => k_is)
    (case lShareOf => k_is)
    (case cShareOf => k_is)
    (case kShareOf => k_is)
    (case aLawHandRight => k_is)
    (case lLawHandRight => k_is)
    (case cLawHandRight => k_is)
    (case kLawHandRight => k_is)
    (case aLawHeard => k_is)
    (case lLawHeard => k_is)
    (case cLawHeard => k_is)
    (case kLawHeard => k_is)
    (case aLawUnder => k_is)
    (case lLawUnder => k_is)
    (case cLawUnder => k_is)
    (case kLawUnder => k_is)
    (case aLawPlus => k_is)
    (case lLawPlus => k_is)
    (case cLawPlus => k_is)
    (case kLawPlus => k_is)
    (case aLawRatio => k_is)
    (case lLawRatio => k_is)
    (case cLawRatio => k_is)
    (case kLawRatio => k_is)
    (case aLawSum => k_is)
    (case lLawSum => k_is)
    (case cLawSum => k_is)
    (case kLawSum => k_is)
    (case aLawTimes => k_is)
    (case lLawTimes => k_is)
    (case cLawTimes => k_is)
    (case kLawTimes => k_is)
    (case aLawRest => k_is)
    (case lLawRest => k_is)
    (case cLawRest => k_is)
    (case kLawRest => k_is)
    (case aLawMoment => k_is)
    (case lLawMoment => k_is)
    (case cLawMoment => k_is)
    (case kLawMoment => k_is)
    (case aLawTotal => k_is)
    (case lLawTotal => k_is)
    (case cLawTotal => k_is)
    (case kLawTotal => k_is)
    (case aLawLacks => k_is)
    (case lLawLacks => k_is)
    (case cLawLacks => k_is)
    (case kLawLacks => k_is)
    (case aLawShareOf => k_is)
    (case lLawShareOf => k_is)
    (case cLawShareOf => k_is)
    (case kLawShareOf => k_is)
    (case aLawJoined => k_is)
    (case lLawJoined => k_is)
    (case cLawJoined => k_is)
    (case kLawJoined => k_is)
    (case aLawOver => k_is)
    (case lLawOver => k_is)
    (case cLawOver => k_is)
    (case kLawOver => k_is)
    (case aLawDrawn => k_is)
    (case lLawDrawn => k_is)
    (case cLawDrawn => k_is)
    (case kLawDrawn => k_is)
    (case aLawLess => k_is)
    (case lLawLess => k_is)
    (case cLawLess => k_is)
    (case kLawLess => k_is)
    (case aLawSpread => k_is)
    (case lLawSpread => k_is)
    (case cLawSpread => k_is)
    (case kLawSpread => k_is)
    (case aLawOneOf => k_is)
    (case lLawOneOf => k_is)
    (case cLawOneOf => k_is)
    (case kLawOneOf => k_is)
    (case aLawInner => k_is)
    (case lLawInner => k_is)
    (case cLawInner => k_is)
    (case kLawInner => k_is)
    (case aLawShared => k_is)
    (case lLawShared => k_is)
    (case cLawShared => k_is)
    (case kLawShared => k_is)
    (case aNeedMix => k_is)
    (case lNeedMix => k_is)
    (case cNeedMix => k_is)
    (case kNeedMix => k_is)
    (case aPartsOf => k_is)
    (case lPartsOf => k_is)
    (case cPartsOf => k_is)
    (case kPartsOf => k_is)
    (case aLawIsRight => k_is)
    (case lLawIsRight => k_is)
    (case cLawIsRight => k_is)
    (case kLawIsRight => k_is)
    (case aDraw => k_is)
    (case lDraw => k_is)
    (case cDraw => k_is)
    (case kDraw => k_is)
    (case aMixed => k_is)
    (case lMixed => k_is)
    (case cMixed => k_is)
    (case kMixed => k_is)
    (case aLawOf => k_is)
    (case lLawOf => k_is)
    (case cLawOf => k_is)
    (case kLawOf => k_is)
    (case aLawMix => k_is)
    (case lLawMix => k_is)
    (case cLawMix => k_is)
    (case kLawMix => k_is)
    (case aBegin => k_is)
    (case lBegin => k_is)
    (case cBegin => k_is)
    (case kBegin => k_is)
    (case aLaw => k_is)
    (case lLaw => k_is)
    (case cLaw => k_is)
    (case kLaw => k_is)
    (case tLawIsRight => k_is)
    (case uLawIsRight => exact rfl)
    (case hLawIsRight => kernel_rfl)
    (case nLawIsRight => kernel_rfl)
    (case mLawIsRight => exact PySem.W.km_tabs_of Y _ (by decide))
    (case tLawHandRight => k_is)
    (case uLawHandRight => exact rfl)
    (case hLawHandRight => kernel_rfl)
    (case nLawHandRight => kernel_rfl)
    (case mLawHandRight => exact PySem.W.km_tabs_of Y _ (by decide))
    (case pne0_1 => decide)
    (case z_isinstance => k_is)
    (case z_int => k_is)
    (case z_tuple => k_is)
    (case z_len => k_is)
    (case z_abs => k_is)
    (case z_range => k_is)
    (case z_list => k_is)
    (case z_sorted => k_is)
    (case z_zip => k_is)
    (case z_all => k_is)
    (case z_dict => k_is)
    (case z_enumerate => k_is)
    (case z_str => k_is)
    (case z_repr => k_is)
    (case z_min => k_is)
    (case z_gcd => k_is)
    (case aN => k_is)
    (case lN => k_is)
    (case aK_MOST_PAIRS => k_is)
    (case aK_MOST_WORDS => k_is)
    (case aK_MOST_WITHIN => k_is)
    (case aZ_KID => k_is)
    (case gaB => k_is)
    (case laB => k_is)
    (case eaB => exact ⟨⟨_, rfl⟩, rfl, rfl, rfl, rfl, ⟨_, rfl⟩, rfl, rfl, rfl, rfl, ⟨_, rfl⟩, rfl, rfl, rfl, rfl, ⟨_, rfl⟩, rfl, rfl, rfl, rfl, ⟨_, rfl⟩, rfl, rfl, rfl, rfl, trivial⟩)
    (case waB => decide +kernel)
    (case lbN => k_is)
    (case lbD => k_is)
    (case lbX => k_is)
    (case lbA => k_is)
    (case lbM => k_is)
    (case gaT => k_is)
    (case laT => k_is)
    (case eaT => exact ⟨⟨_, rfl⟩, rfl, rfl, rfl, ⟨_, rfl⟩, ⟨_, rfl⟩, rfl, rfl, rfl, ⟨_, rfl⟩, ⟨_, rfl⟩, rfl, rfl, rfl, ⟨_, rfl⟩, ⟨_, rfl⟩, rfl, rfl, rfl, ⟨_, rfl⟩, ⟨_, rfl⟩, rfl, rfl, rfl, ⟨_, rfl⟩, ⟨_, rfl⟩, rfl, rfl, rfl, ⟨_, rfl⟩, ⟨_, rfl⟩, rfl, rfl, rfl, ⟨_, rfl⟩, trivial⟩)
    (case waT => decide +kernel)
    (case aXe0 => k_is)
    (case iXe0 => kernel_rfl)
    (case oXe0 => kernel_rfl)
    (case sXe0 => k_is)
    (case tXe0 => k_is)
    (case xXe0 => kernel_rfl)
    (case nXe0 => k_is)
    (case jXe0 => k_is)
    (case vXe0 => k_is)
    (case qXe0 => k_is)
    (case yXe0 => k_is)
    (case lXe0 => k_is)
    (case cXe0 => k_is)
    (case kXe0 => k_is)
    (case e0_0 => kernel_rfl)
