import PyProof.Rows.All
import Wide.All
import OpenK.AllK
import Wide.FinOn
import HandS.ForMost
import HandS.Gcd
import HandS.Wide
import HandS.IsInst
import KE.KTypeName
import HandS.Flow
import HandS.Style
import HandS.Evl
import HandS.Conv
import HandS.Zip
import HandS.TupAny
import HandS.Star
import HandS.Walk
import HandS.More
import HandS.Lambda
import HandS.Nested
import HandS.CallSlots
import KE.KDflt
import HandS.ExcInit
import HandS.ExcField
import HandS.ExcOwn
import HandS.WordsExc
import KE.KExcInit
import HandS.TryMany
import HandS.Dict
import KE.KDictPairs
import KE.KNestM
import HandS.EndTab
import PySem.Challenge.RW_curtainsteps_k03_whole_shares
set_option Elab.async false
set_option maxRecDepth 100000
set_option maxHeartbeats 4000000
/-! x.__class__.__name__ of whole numbers, truth values and tuples; // by any divisor that is not too great. -/
namespace CS
open PySem
section
variable {P : Program} {w : World} {A : Around} {E : Value → Shared → Prop} {hp : Heap} {gs : Array GenState} {dr : Drawn} {tk : Nat} {os : OsState}
theorem cls_of_int {i : Int} {u : Tok} {Q : Value → Shared → Prop} (q : Q (.type "int") ⟨hp, gs, dr, tk + 1, os⟩) : wpAny (model P w) A (getAttr (.int i u) "__class__" true) Q E ⟨hp, gs, dr, tk, os⟩ := by
  have ty : Shared.TypeIs ⟨hp, gs, dr, tk, os⟩ (.int i u) "int" := rfl
  have lo := F.slot_int_getattribute.lookup
  have bi := F.slot_int_getattribute.bind (.int i u)
  unfold getAttr
  all_goals (repeat' first | assumption | wp_step)
  refine class_call_int ?_
  all_goals (repeat' first | assumption | wp_step)
theorem cls_of_bool {b : Bool} {Q : Value → Shared → Prop} (q : Q (.type "bool") ⟨hp, gs, dr, tk + 1, os⟩) : wpAny (model P w) A (getAttr (.bool b) "__class__" true) Q E ⟨hp, gs, dr, tk, os⟩ := by
  have ty : Shared.TypeIs ⟨hp, gs, dr, tk, os⟩ (.bool b) "bool" := rfl
  have lo := F.slot_bool_getattribute.lookup
  have bi := F.slot_bool_getattribute.bind (.bool b)
  unfold getAttr
  all_goals (repeat' first | assumption | wp_step)
  refine class_call_bool ?_
  all_goals (repeat' first | assumption | wp_step)
theorem cls_of_tuple {a : Addr} {od : Option Addr} {dt : Data} {sl : Array (Option Value)} {Q : Value → Shared → Prop} (ha : hp.get? a = some ⟨.type "tuple", od, dt, sl⟩) (q : Q (.type "tuple") ⟨hp, gs, dr, tk + 1, os⟩) :
    wpAny (model P w) A (getAttr (.ref a) "__class__" true) Q E ⟨hp, gs, dr, tk, os⟩ := by
  have ty : Shared.TypeIs ⟨hp, gs, dr, tk, os⟩ (.ref a) "tuple" := ⟨_, ha, rfl⟩
  have lo := F.slot_tuple_getattribute.lookup
  have bi := F.slot_tuple_getattribute.bind (.ref a)
  unfold getAttr
  all_goals (repeat' first | assumption | wp_step)
  refine class_call_tuple ha rfl ?_
  all_goals (repeat' first | assumption | wp_step)
end
end CS
set_option Elab.async false
set_option maxRecDepth 100000
set_option maxHeartbeats 4000000
namespace CS
open PySem L2
/-- the name of a plain value's class -/
inductive CN (K : PySem.W.Frag) (H : Hp) : V → Str → Prop where
  | int (i : Int) : CN K H (.int i) "int"
  | bl (b : Bool) : CN K H (.bl b) "bool"
  | tup {a : Addr} {xs : List V} (h : SqT K H a xs) : CN K H (.ref a) "tuple"
def tCN (K : PySem.W.Frag) (te : TE) : TE := fun σ H Q => te σ H fun x H1 => ∃ nm, CN K H1 x nm ∧ Q (.str nm) H1
section
variable {X : Cx} {pins : List (Addr × Obj)} {σ : St} {H : Hp} {s : Shared}
/-- a built-in class's __name__ -/
theorem name_ok {T q : String} {Q : VK} (I : Inv X pins σ H s) (ht : PySem.W.kitMeta T = true) (hs : Manifest.isStub T = false)
    (e : PySem.W.findCls X.K (.type T) (.type "type") "__name__" = some (.get (.builtin "getset_descriptor.__get__") (.builtin "type.__name__") (.type T) (.type "type"))) (hq : PySem.W.ktynFast T = q) (hz : (Str.ofString q).length ≤ sizeLine)
    (h : Q (.str (Str.ofString q)) H) : wpAny (model X.prog X.w) X.A (getAttr (.type T) "__name__" true) (EP X pins σ Q) X.xe s := by
  obtain ⟨m, Fm⟩ := I.fr
  exact PySem.W.ktyn_attr Fm I.ok.mod.kin ht hs e hq hz fun tk u => ⟨.str _, H, I.tok u, ⟨tk, rfl⟩, h⟩
theorem cn_ok {x : V} {u : Value} {nm : Str} {Q : VK} (I : Inv X pins σ H s) (r : RelV x u) (c : CN X.K H x nm) (h : Q (.str nm) H) :
    wpAny (model X.prog X.w) X.A (getAttr u "__class__" true) (fun v s1 => wpAny (model X.prog X.w) X.A (getAttr v "__name__" true) (EP X pins σ Q) X.xe s1) X.xe s := by
  cases c with
  | int i =>
    obtain ⟨t, rfl⟩ := r
    obtain ⟨hh, g, d, tt, os⟩ := s
    exact cls_of_int (name_ok (I.tok (tt + 1)) (by decide +kernel) (by decide +kernel) (by first | kernel_rfl | rfl) (by decide +kernel) (by decide +kernel) h)
  | bl b =>
    cases (show u = Value.bool b from r)
    obtain ⟨hh, g, d, tt, os⟩ := s
    exact cls_of_bool (name_ok (I.tok (tt + 1)) (by decide +kernel) (by decide +kernel) (by first | kernel_rfl | rfl) (by decide +kernel) (by decide +kernel) h)
  | @tup a xs hT =>
    cases (show u = Value.ref a from r)
    obtain ⟨its, _, ⟨o, h1, h2, _⟩, _⟩ := I.tuple hT
    obtain ⟨oc, od, dt, sl⟩ := o
    simp only at h2
    subst h2
    obtain ⟨hh, g, d, tt, os⟩ := s
    exact cls_of_tuple h1 (name_ok (I.tok (tt + 1)) (by decide +kernel) (by decide +kernel) (by first | kernel_rfl | rfl) (by decide +kernel) (by decide +kernel) h)
/-- e.__class__.__name__ -/
theorem pe_cn {e : Expr} {te : TE} {p1 p2 : Pos} (he : PE X e te) (hb1 : attributeBase e "__class__" X.env (eval e X.env) = eval e X.env := by rfl)
    (hb2 : attributeBase (.Attribute e "__class__" p1) "__name__" X.env (eval (.Attribute e "__class__" p1) X.env) = eval (.Attribute e "__class__" p1) X.env := by rfl) :
    PE X (.Attribute (.Attribute e "__class__" p1) "__name__" p2) (tCN X.K te) :=
  ⟨fun pins s σ H Q I h => attr_of hb2 (attr_of hb1 (thn (he.run pins s σ H _ I h) fun u s1 ⟨x, H1, I1, rx, nm, c, q⟩ => cn_ok I1 rx c q))⟩
/-- // by any divisor below 2 ^ 9000 in size -/
def CDivX (_ j : Int) : Prop := j ≠ 0 ∧ j.natAbs.log2 < 9000
theorem op_fdivX : OpR X (binaryOp .FloorDiv) (rI CDivX fun i j => .int (i.fdiv j)) := opI fun _ _ _ _ _ _ _ hc q =>
  PyProof.Rows.floordiv_int hc.1 q (.inl (PyProof.noPylong_of_log2 hc.2))
end
end CS
set_option maxHeartbeats 1000000
namespace CS
/-- in least terms, the lower one positive -/
def Fr (x : Int × Int) : Prop := 1 ≤ x.2 ∧ Int.gcd x.1 x.2 = 1
instance (x : Int × Int) : Decidable (Fr x) := by unfold Fr; infer_instance
def Sz (n : Nat) (x : Int × Int) : Prop := x.1.natAbs < 2 ^ n ∧ x.2.natAbs < 2 ^ n
def cm (t b : Int) : Int := if b < 0 then -(Int.gcd t b : Int) else (Int.gcd t b : Int)
def low (t b : Int) : Int × Int := (t.fdiv (cm t b), b.fdiv (cm t b))
theorem gcd_pos {t b : Int} (hb : b ≠ 0) : 0 < Int.gcd t b := Int.gcd_pos_of_ne_zero_right t hb
theorem cm_ne {t b : Int} (hb : b ≠ 0) : cm t b ≠ 0 := by
  have := gcd_pos (t := t) hb
  unfold cm
  split <;> omega
theorem cm_dvd (t b : Int) : cm t b ∣ t ∧ cm t b ∣ b := by
  unfold cm
  split
  · exact ⟨Int.neg_dvd.mpr (Int.gcd_dvd_left t b), Int.neg_dvd.mpr (Int.gcd_dvd_right t b)⟩
  · exact ⟨Int.gcd_dvd_left t b, Int.gcd_dvd_right t b⟩
theorem cm_abs (t b : Int) : (cm t b).natAbs = Int.gcd t b := by
  unfold cm
  split <;> omega
theorem low_parts {t b : Int} (hb : b ≠ 0) : t = cm t b * (low t b).1 ∧ b = cm t b * (low t b).2 := by
  obtain ⟨⟨t', ht⟩, ⟨b', hb'⟩⟩ := cm_dvd t b
  have hg := cm_ne (t := t) hb
  have e1 : t.fdiv (cm t b) = t' := by
    conv => lhs; lhs; rw [ht]
    exact Int.mul_fdiv_cancel_left t' hg
  have e2 : b.fdiv (cm t b) = b' := by
    conv => lhs; lhs; rw [hb']
    exact Int.mul_fdiv_cancel_left b' hg
  unfold low
  simp only [e1, e2]
  exact ⟨ht, hb'⟩
theorem low_fr {t b : Int} (hb : b ≠ 0) : Fr (low t b) := by
  obtain ⟨h1, h2⟩ := low_parts (t := t) hb
  have hp := gcd_pos (t := t) hb
  have hs : (b < 0 → cm t b < 0) ∧ (0 < b → 0 < cm t b) := by
    unfold cm
    split <;> constructor <;> intro h <;> omega
  have e : Int.gcd t b = (cm t b).natAbs * Int.gcd (low t b).1 (low t b).2 := by
    have z : ∀ g a c : Int, t = g * a → b = g * c → Int.gcd t b = g.natAbs * Int.gcd a c := by
      intro g a c e1 e2
      rw [e1, e2, Int.gcd_mul_left]
    exact z _ _ _ h1 h2
  rw [cm_abs] at e
  constructor
  · rcases Int.lt_or_gt_of_ne hb with h | h
    · have hc := hs.1 h
      rcases Int.lt_or_le 0 (low t b).2 with q | q
      · omega
      · have : 0 ≤ cm t b * (low t b).2 := Int.mul_nonneg_of_nonpos_of_nonpos (by omega) q
        omega
    · have hc := hs.2 h
      rcases Int.lt_or_le 0 (low t b).2 with q | q
      · omega
      · have : cm t b * (low t b).2 ≤ 0 := Int.mul_nonpos_of_nonneg_of_nonpos (by omega) q
        omega
  · have e' : Int.gcd t b * 1 = Int.gcd t b * Int.gcd (low t b).1 (low t b).2 := by omega
    exact (Nat.eq_of_mul_eq_mul_left hp e').symm
theorem low_cross {t b : Int} (hb : b ≠ 0) : (low t b).1 * b = t * (low t b).2 := by
  obtain ⟨h1, h2⟩ := low_parts (t := t) hb
  generalize low t b = y at *
  generalize cm t b = g at *
  subst h1
  subst h2
  grind
theorem low_le {t b : Int} (hb : b ≠ 0) : (low t b).1.natAbs ≤ t.natAbs ∧ (low t b).2.natAbs ≤ b.natAbs := by
  obtain ⟨h1, h2⟩ := low_parts (t := t) hb
  have hg : 0 < (cm t b).natAbs := by have := cm_ne (t := t) hb; omega
  constructor
  · conv => rhs; rw [h1, Int.natAbs_mul]
    exact Nat.le_mul_of_pos_left _ hg
  · conv => rhs; rw [h2, Int.natAbs_mul]
    exact Nat.le_mul_of_pos_left _ hg
theorem cop_dvd {k m n : Int} (h : k ∣ m * n) (c : Int.gcd k m = 1) : k ∣ n := by
  have h2 : k.natAbs ∣ m.natAbs * n.natAbs := by
    rw [← Int.natAbs_mul]
    exact Int.natAbs_dvd_natAbs.mpr h
  exact Int.natAbs_dvd_natAbs.mp (Nat.Coprime.dvd_of_dvd_mul_left (show Nat.Coprime k.natAbs m.natAbs from c) h2)
theorem Fr.uniq {x y : Int × Int} (hx : Fr x) (hy : Fr y) (h : x.1 * y.2 = y.1 * x.2) : x = y := by
  obtain ⟨a, b⟩ := x
  obtain ⟨c, d⟩ := y
  obtain ⟨hb, hab⟩ := hx
  obtain ⟨hd, hcd⟩ := hy
  simp only at *
  have d1 : b ∣ d := by
    have : b ∣ a * d := ⟨c, by grind⟩
    exact cop_dvd this (by rw [Int.gcd_comm]; exact hab)
  have d2 : d ∣ b := by
    have : d ∣ c * b := ⟨a, by grind⟩
    exact cop_dvd this (by rw [Int.gcd_comm]; exact hcd)
  have e : b = d := Int.dvd_antisymm (by omega) (by omega) d1 d2
  subst e
  have : a = c := Int.eq_of_mul_eq_mul_right (by omega) h
  rw [this]
theorem low_uniq {t b : Int} {x : Int × Int} (hb : b ≠ 0) (hx : Fr x) (h : x.1 * b = t * x.2) : low t b = x := by
  refine (low_fr hb).uniq hx ?_
  have c := low_cross (t := t) hb
  have : b * ((low t b).1 * x.2) = b * (x.1 * (low t b).2) := by
    generalize low t b = y at *
    grind
  exact Int.eq_of_mul_eq_mul_left hb this
def fadd (x y : Int × Int) : Int × Int := low (x.1 * y.2 + y.1 * x.2) (x.2 * y.2)
def fsub (x y : Int × Int) : Int × Int := low (x.1 * y.2 - y.1 * x.2) (x.2 * y.2)
def fmul (x y : Int × Int) : Int × Int := low (x.1 * y.1) (x.2 * y.2)
def fdiv (x y : Int × Int) : Int × Int := low (x.1 * y.2) (x.2 * y.1)
def flt (x y : Int × Int) : Bool := decide (x.1 * y.2 < y.1 * x.2)
theorem Fr.pos {x : Int × Int} (h : Fr x) : 0 < x.2 := by have := h.1; omega
theorem Fr.ne {x : Int × Int} (h : Fr x) : x.2 ≠ 0 := by have := h.1; omega
theorem dd {x y : Int × Int} (hx : Fr x) (hy : Fr y) : x.2 * y.2 ≠ 0 := Int.mul_ne_zero hx.ne hy.ne
theorem dd0 {x y : Int × Int} (hx : Fr x) (hy : Fr y) : 0 < x.2 * y.2 := Int.mul_pos hx.pos hy.pos
theorem fadd_fr {x y : Int × Int} (hx : Fr x) (hy : Fr y) : Fr (fadd x y) := low_fr (dd hx hy)
theorem fsub_fr {x y : Int × Int} (hx : Fr x) (hy : Fr y) : Fr (fsub x y) := low_fr (dd hx hy)
theorem fmul_fr {x y : Int × Int} (hx : Fr x) (hy : Fr y) : Fr (fmul x y) := low_fr (dd hx hy)
theorem fdiv_fr {x y : Int × Int} (hx : Fr x) (h : y.1 ≠ 0) : Fr (fdiv x y) := low_fr (Int.mul_ne_zero hx.ne h)
theorem fadd_comm (x y : Int × Int) : fadd x y = fadd y x := by
  unfold fadd
  rw [Int.add_comm, Int.mul_comm x.2 y.2]
theorem fsub_fadd {x y : Int × Int} (hx : Fr x) (hy : Fr y) : fsub (fadd x y) y = x := by
  have hp := fadd_fr hx hy
  have c : (fadd x y).1 * (x.2 * y.2) = (x.1 * y.2 + y.1 * x.2) * (fadd x y).2 := low_cross (dd hx hy)
  refine low_uniq (dd hp hy) hx ?_
  generalize fadd x y = p at *
  grind
theorem fmul_fdiv {x y : Int × Int} (hx : Fr x) (hy : Fr y) (h : y.1 ≠ 0) : fmul (fdiv x y) y = x := by
  have hp := fdiv_fr hx h
  have c : (fdiv x y).1 * (x.2 * y.1) = (x.1 * y.2) * (fdiv x y).2 := low_cross (Int.mul_ne_zero hx.ne h)
  refine low_uniq (dd hp hy) hx ?_
  generalize fdiv x y = p at *
  grind
theorem low_neg {t b : Int} (hb : b ≠ 0) : low (-t) (-b) = low t b := by
  refine low_uniq (by omega) (low_fr hb) ?_
  have c := low_cross (t := t) hb
  grind
theorem due_eq {x y : Int × Int} (h : y.1 ≠ 0) (hx : Fr x) : low (x.1 * y.2 * (if 0 < y.1 then 1 else -1)) (x.2 * (y.1.natAbs : Int)) = fdiv x y := by
  unfold fdiv
  split
  · next q =>
    rw [show ((y.1.natAbs : Nat) : Int) = y.1 by omega]
    congr 1
    omega
  · next q =>
    rw [show ((y.1.natAbs : Nat) : Int) = -y.1 by omega]
    have := low_neg (t := x.1 * y.2) (b := x.2 * y.1) (Int.mul_ne_zero hx.ne h)
    rw [← this]
    congr 1
    · omega
    · grind
theorem flt_sub {x y : Int × Int} (hx : Fr x) (hy : Fr y) : flt x y = flt (fsub x y) (0, 1) := by
  have hp := fsub_fr hx hy
  have c : (fsub x y).1 * (x.2 * y.2) = (x.1 * y.2 - y.1 * x.2) * (fsub x y).2 := low_cross (dd hx hy)
  have k := dd0 hx hy
  have m := hp.pos
  unfold flt
  simp only [Int.mul_one, Int.zero_mul]
  generalize fsub x y = p at *
  generalize hk : x.2 * y.2 = kk at *
  generalize hd : x.1 * y.2 - y.1 * x.2 = dl at *
  rw [decide_eq_decide]
  constructor
  · intro q
    have q2 : dl < 0 := by omega
    have : dl * p.2 < 0 := Int.mul_neg_of_neg_of_pos q2 m
    rcases Int.lt_or_le p.1 0 with z | z
    · exact z
    · have := Int.mul_nonneg z (Int.le_of_lt k)
      omega
  · intro q
    have : p.1 * kk < 0 := Int.mul_neg_of_neg_of_pos q k
    rcases Int.lt_or_le dl 0 with z | z
    · omega
    · have := Int.mul_nonneg z (Int.le_of_lt m)
      omega
theorem fadd_zero {x : Int × Int} (hx : Fr x) : fadd x (0, 1) = x := by
  unfold fadd
  refine low_uniq ?_ hx ?_
  · have := hx.ne
    simp only [Int.mul_one]
    exact this
  · grind
/-! sizes -/
theorem abs_mul_lt {a b : Int} {m n : Nat} (ha : a.natAbs < 2 ^ m) (hb : b.natAbs < 2 ^ n) : (a * b).natAbs < 2 ^ (m + n) := by
  rw [Int.natAbs_mul, Nat.pow_add]
  exact Nat.mul_lt_mul'' ha hb
theorem abs_add_lt {a b : Int} {m : Nat} (ha : a.natAbs < 2 ^ m) (hb : b.natAbs < 2 ^ m) : (a + b).natAbs < 2 ^ (m + 1) := by
  rw [Nat.pow_succ]
  omega
theorem abs_sub_lt {a b : Int} {m : Nat} (ha : a.natAbs < 2 ^ m) (hb : b.natAbs < 2 ^ m) : (a - b).natAbs < 2 ^ (m + 1) := by
  rw [Nat.pow_succ]
  omega
theorem lt_up {a : Nat} {m n : Nat} (ha : a < 2 ^ m) (h : m ≤ n) : a < 2 ^ n := Nat.lt_of_lt_of_le ha (Nat.pow_le_pow_right (by decide) h)
theorem Sz.up {x : Int × Int} {m n : Nat} (h : Sz m x) (q : m ≤ n) : Sz n x := ⟨lt_up h.1 q, lt_up h.2 q⟩
theorem low_sz {t b : Int} {n : Nat} (hb : b ≠ 0) (h1 : t.natAbs < 2 ^ n) (h2 : b.natAbs < 2 ^ n) : Sz n (low t b) :=
  ⟨Nat.lt_of_le_of_lt (low_le hb).1 h1, Nat.lt_of_le_of_lt (low_le hb).2 h2⟩
theorem fadd_sz {x y : Int × Int} {m n : Nat} (hx : Fr x) (hy : Fr y) (sx : Sz m x) (sy : Sz n y) : Sz (m + n + 1) (fadd x y) := by
  refine low_sz (dd hx hy) ?_ ?_
  · refine abs_add_lt (abs_mul_lt sx.1 sy.2) ?_
    rw [Int.mul_comm]
    exact abs_mul_lt sx.2 sy.1
  · exact lt_up (abs_mul_lt sx.2 sy.2) (by omega)
theorem fsub_sz {x y : Int × Int} {m n : Nat} (hx : Fr x) (hy : Fr y) (sx : Sz m x) (sy : Sz n y) : Sz (m + n + 1) (fsub x y) := by
  refine low_sz (dd hx hy) ?_ ?_
  · refine abs_sub_lt (abs_mul_lt sx.1 sy.2) ?_
    rw [Int.mul_comm]
    exact abs_mul_lt sx.2 sy.1
  · exact lt_up (abs_mul_lt sx.2 sy.2) (by omega)
theorem fmul_sz {x y : Int × Int} {m n : Nat} (hx : Fr x) (hy : Fr y) (sx : Sz m x) (sy : Sz n y) : Sz (m + n) (fmul x y) :=
  low_sz (dd hx hy) (abs_mul_lt sx.1 sy.1) (abs_mul_lt sx.2 sy.2)
theorem fdiv_sz {x y : Int × Int} {m n : Nat} (hx : Fr x) (h : y.1 ≠ 0) (sx : Sz m x) (sy : Sz n y) : Sz (m + n) (fdiv x y) :=
  low_sz (Int.mul_ne_zero hx.ne h) (abs_mul_lt sx.1 sy.2) (abs_mul_lt sx.2 sy.1)
/-! Euclid's loop -/
theorem euclid_step {a b : Int} (h : 0 ≤ a) (hb : 0 < b) : Int.gcd b (a % b) = Int.gcd a b := by
  obtain ⟨m, rfl⟩ := Int.eq_ofNat_of_zero_le h
  obtain ⟨n, rfl⟩ := Int.eq_ofNat_of_zero_le (Int.le_of_lt hb)
  show Nat.gcd n ((m : Int) % (n : Int)).natAbs = Nat.gcd m n
  rw [← Int.natCast_emod, Int.natAbs_natCast, Nat.gcd_comm m n, Nat.gcd_rec n m, Nat.gcd_comm]
end CS
set_option Elab.async false
set_option maxRecDepth 100000
set_option maxHeartbeats 4000000
set_option linter.unusedVariables false
namespace CS
open PySem L2
theorem PE.imp {X : Cx} {e : Expr} {t t1 : TE} (h : PE X e t) (k : ∀ σ H Q, t1 σ H Q → t σ H Q) : PE X e t1 := ⟨fun pins s σ H Q I q => h.run pins s σ H Q I (k σ H Q q)⟩
/-- a fraction's tuple stands at p -/
abbrev FT (K : PySem.W.Frag) (H : Hp) (p : Addr) (x : Int × Int) : Prop := SqT K H p [.int x.1, .int x.2]
/-- slot i holds a fraction's tuple: its item 0, its item 1 -/
def tFst (K : PySem.W.Frag) (i : Nat) : TE := fun σ H Q => ∃ p x, σ[i]? = some (some (.ref p)) ∧ FT K H p x ∧ Q (.int x.1) H
def tSnd (K : PySem.W.Frag) (i : Nat) : TE := fun σ H Q => ∃ p x, σ[i]? = some (some (.ref p)) ∧ FT K H p x ∧ Q (.int x.2) H
section
variable {X : Cx}
theorem pe_fst (i : Nat) {x : Str} {pos p2 pos' : Pos} {j : Nat} (hN : X.N[i]? = some x := by rfl) (hv : Vis X.env.scope x := by first | exact Or.inl rfl | exact Or.inr (Or.inl rfl) | exact Or.inr (Or.inr rfl)) (hd : (x == ("__debug__" : Str)) = false := by decide)
    (hcd : (x == ("__classdict__" : Str)) = false := by decide) : PE X (.Subscript (.Name x pos) (.Constant (.int 0) j p2) pos') (tFst X.K i) :=
  PE.imp (pe_ix ix_tup (pe_var hN hv hd hcd) pe_int (fun _ _ => rfl)) fun σ H Q ⟨p, x, e, h, q⟩ => ⟨_, e, p, _, 0, .int x.1, rfl, rfl, h, atI_nat (j := 0) rfl, q⟩
theorem pe_snd (i : Nat) {x : Str} {pos p2 pos' : Pos} {j : Nat} (hN : X.N[i]? = some x := by rfl) (hv : Vis X.env.scope x := by first | exact Or.inl rfl | exact Or.inr (Or.inl rfl) | exact Or.inr (Or.inr rfl)) (hd : (x == ("__debug__" : Str)) = false := by decide)
    (hcd : (x == ("__classdict__" : Str)) = false := by decide) : PE X (.Subscript (.Name x pos) (.Constant (.int 1) j p2) pos') (tSnd X.K i) :=
  PE.imp (pe_ix ix_tup (pe_var hN hv hd hcd) pe_int (fun _ _ => rfl)) fun σ H Q ⟨p, x, e, h, q⟩ => ⟨_, e, p, _, 1, .int x.2, rfl, rfl, h, atI_nat (j := 1) rfl, q⟩
end
theorem cmw {a b : Int} (ha : a.natAbs < 2 ^ 1900) (hb : b.natAbs < 2 ^ 1900) : CMulW a b := wide_mul ha hb (by decide) (by decide) (by decide)
end CS
set_option maxHeartbeats 1000000
set_option linter.unusedVariables false
namespace CS
abbrev Fx := Int × Int
def lk (f : List (Int × Fx)) (k : Int) : Fx := (f.lookup k).getD (0, 1)
def ups : List (Int × Fx) → Int → Fx → List (Int × Fx)
  | [], k, x => [(k, x)]
  | (j, y) :: f, k, x => if j = k then (j, x) :: f else (j, y) :: ups f k x
def gat (f : List (Int × Fx)) (xs : List (Int × Fx)) : List (Int × Fx) := xs.foldl (fun f kx => ups f kx.1 (fadd (lk f kx.1) kx.2)) f
theorem lk_cons (j : Int) (y : Fx) (f : List (Int × Fx)) (k : Int) : lk ((j, y) :: f) k = if k = j then y else lk f k := by
  unfold lk
  rw [List.lookup_cons]
  by_cases h : k = j
  · subst h
    simp
  · have : (k == j) = false := by simpa using h
    simp [this, h]
theorem lk_ups : ∀ (f : List (Int × Fx)) (k : Int) (x : Fx) (j : Int), lk (ups f k x) j = if j = k then x else lk f j
  | [], k, x, j => by
    show lk [(k, x)] j = _
    rw [lk_cons]
  | (i, y) :: f, k, x, j => by
    show lk (if i = k then (i, x) :: f else (i, y) :: ups f k x) j = _
    by_cases h : i = k
    · subst h
      rw [if_pos rfl, lk_cons, lk_cons]
      by_cases q : j = i <;> simp [q]
    · rw [if_neg h, lk_cons, lk_cons, lk_ups f k x j]
      by_cases q : j = i
      · subst q
        simp [h]
      · simp [q]
theorem ups_keys (f : List (Int × Fx)) (k : Int) (x : Fx) : ∀ j, j ∈ (ups f k x).map (·.1) ↔ j = k ∨ j ∈ f.map (·.1) := by
  induction f with
  | nil =>
    intro j
    simp [ups]
  | cons a f ih =>
    obtain ⟨i, y⟩ := a
    intro j
    by_cases h : i = k
    · subst h
      simp [ups]
    · have := ih j
      simp [ups, h] at *
      grind
theorem ups_nodup (f : List (Int × Fx)) (k : Int) (x : Fx) (h : (f.map (·.1)).Nodup) : ((ups f k x).map (·.1)).Nodup := by
  induction f with
  | nil => simp [ups]
  | cons a f ih =>
    obtain ⟨i, y⟩ := a
    by_cases q : i = k
    · subst q
      simpa [ups] using h
    · rw [List.map_cons, List.nodup_cons] at h
      have e : ups ((i, y) :: f) k x = (i, y) :: ups f k x := by simp [ups, q]
      rw [e, List.map_cons, List.nodup_cons]
      refine ⟨fun m => ?_, ih h.2⟩
      rcases (ups_keys f k x i).mp m with z | z
      · exact q z
      · exact h.1 z
theorem ups_len (f : List (Int × Fx)) (k : Int) (x : Fx) : (ups f k x).length ≤ f.length + 1 := by
  induction f with
  | nil => simp [ups]
  | cons a f ih =>
    obtain ⟨i, y⟩ := a
    by_cases q : i = k
    · simp [ups, q]
    · simp [ups, q]; omega
/-- the strictly ascending list of what is not nought in a table -/
def IsS (f r : List (Int × Fx)) : Prop := (r.map (·.1)).Pairwise (· < ·) ∧ ∀ k x, (k, x) ∈ r ↔ (lk f k = x ∧ x ≠ (0, 1))
theorem asc_same : ∀ {r q : List (Int × Fx)}, (r.map (·.1)).Pairwise (· < ·) → (q.map (·.1)).Pairwise (· < ·) → (∀ a, a ∈ r ↔ a ∈ q) → r = q
  | [], [], _, _, _ => rfl
  | [], b :: q, _, _, h => absurd ((h b).mpr List.mem_cons_self) (by simp)
  | a :: r, [], _, _, h => absurd ((h a).mp List.mem_cons_self) (by simp)
  | a :: r, b :: q, h1, h2, h => by
    rw [List.map_cons, List.pairwise_cons] at h1 h2
    have low1 : ∀ c ∈ r, a.1 < c.1 := fun c hc => h1.1 _ (List.mem_map.mpr ⟨c, hc, rfl⟩)
    have low2 : ∀ c ∈ q, b.1 < c.1 := fun c hc => h2.1 _ (List.mem_map.mpr ⟨c, hc, rfl⟩)
    have e : a = b := by
      rcases List.mem_cons.mp ((h a).mp List.mem_cons_self) with z | z
      · exact z
      · rcases List.mem_cons.mp ((h b).mpr List.mem_cons_self) with y | y
        · exact y.symm
        · have := low1 b y
          have := low2 a z
          omega
    subst e
    have : r = q := asc_same h1.2 h2.2 fun c => by
      constructor
      · intro hc
        rcases List.mem_cons.mp ((h c).mp (List.mem_cons_of_mem _ hc)) with z | z
        · subst z
          have := low1 c hc
          omega
        · exact z
      · intro hc
        rcases List.mem_cons.mp ((h c).mpr (List.mem_cons_of_mem _ hc)) with z | z
        · subst z
          have := low2 c hc
          omega
        · exact z
    rw [this]
theorem IsS.uniq {f g r q : List (Int × Fx)} (h1 : IsS f r) (h2 : IsS g q) (h : ∀ k, lk f k = lk g k) : r = q := by
  refine asc_same h1.1 h2.1 fun ⟨k, x⟩ => ?_
  rw [h1.2 k x, h2.2 k x, h k]
theorem lk_mem {f : List (Int × Fx)} {k : Int} (h : lk f k ≠ (0, 1)) : k ∈ f.map (·.1) := by
  induction f with
  | nil => exact absurd rfl h
  | cons a f ih =>
    obtain ⟨j, y⟩ := a
    rw [lk_cons] at h
    by_cases q : k = j
    · simp [q]
    · rw [if_neg q] at h
      have := ih h
      simp at *
      grind
theorem isS_of {f : List (Int × Fx)} {ys : List Int} (hp : ys.Perm (f.map (·.1))) (hn : (f.map (·.1)).Nodup) (hs : ys.Pairwise (· ≤ ·)) : IsS f ((ys.filter fun k => decide (lk f k ≠ (0, 1))).map fun k => (k, lk f k)) := by
  have hn2 : ys.Nodup := hp.nodup_iff.mpr hn
  have hlt : ys.Pairwise (· < ·) := by
    have := List.Pairwise.and hs hn2
    refine this.imp ?_
    rintro a b ⟨h1, h2⟩
    omega
  constructor
  · rw [List.map_map]
    have : ((fun x : Int × Fx => x.1) ∘ fun k => (k, lk f k)) = id := rfl
    rw [this, List.map_id]
    exact hlt.filter _
  · intro k x
    rw [List.mem_map]
    constructor
    · rintro ⟨j, hj, e⟩
      injection e with e1 e2
      subst e1
      rw [List.mem_filter] at hj
      exact ⟨e2, by rw [← e2]; exact of_decide_eq_true hj.2⟩
    · rintro ⟨e, hx⟩
      subst e
      exact ⟨k, List.mem_filter.mpr ⟨hp.mem_iff.mpr (lk_mem hx), decide_eq_true hx⟩, rfl⟩
/-- a share's parts -/
def AllF (n : Nat) (xs : List (Int × Fx)) : Prop := ∀ a ∈ xs, Fr a.2 ∧ Sz n a.2
theorem fr01 : Fr ((0, 1) : Fx) := by decide
theorem sz01 {n : Nat} (h : 0 < n) : Sz n ((0, 1) : Fx) := ⟨Nat.two_pow_pos _, Nat.one_lt_two_pow (by omega)⟩
theorem zero_fadd {x : Fx} (hx : Fr x) : fadd (0, 1) x = x := by rw [fadd_comm, fadd_zero hx]
theorem lk_fr {n : Nat} {f : List (Int × Fx)} (h : AllF n f) (h0 : 0 < n) (k : Int) : Fr (lk f k) ∧ Sz n (lk f k) := by
  induction f with
  | nil => exact ⟨fr01, sz01 h0⟩
  | cons a f ih =>
    obtain ⟨j, y⟩ := a
    rw [lk_cons]
    by_cases q : k = j
    · rw [if_pos q]
      exact h _ List.mem_cons_self
    · rw [if_neg q]
      exact ih fun b hb => h b (List.mem_cons_of_mem _ hb)
theorem lk_gat : ∀ (xs f : List (Int × Fx)) (j : Int), lk (gat f xs) j = xs.foldl (fun a kx => if j = kx.1 then fadd a kx.2 else a) (lk f j)
  | [], f, j => rfl
  | (k, x) :: xs, f, j => by
    show lk (gat (ups f k (fadd (lk f k) x)) xs) j = xs.foldl _ _
    rw [lk_gat xs, lk_ups]
    by_cases h : j = k
    · subst h
      simp
    · simp [h]
theorem gat_nodup : ∀ (xs f : List (Int × Fx)), (f.map (·.1)).Nodup → ((gat f xs).map (·.1)).Nodup
  | [], _, h => h
  | (k, x) :: xs, f, h => gat_nodup xs _ (ups_nodup f k _ h)
theorem gat_len : ∀ (xs f : List (Int × Fx)), (gat f xs).length ≤ f.length + xs.length
  | [], _ => Nat.le_refl _
  | (k, x) :: xs, f => by
    have h1 := gat_len xs (ups f k (fadd (lk f k) x))
    have h2 := ups_len f k (fadd (lk f k) x)
    show (gat (ups f k (fadd (lk f k) x)) xs).length ≤ _
    rw [List.length_cons]
    omega
theorem fold_none : ∀ (xs : List (Int × Fx)) (j : Int) (a : Fx), j ∉ xs.map (·.1) → xs.foldl (fun a kx => if j = kx.1 then fadd a kx.2 else a) a = a
  | [], _, _, _ => rfl
  | (k, x) :: xs, j, a, h => by
    simp only [List.map_cons, List.mem_cons, not_or] at h
    show xs.foldl _ (if j = k then fadd a x else a) = a
    rw [if_neg h.1]
    exact fold_none xs j a h.2
theorem lk_none {xs : List (Int × Fx)} {j : Int} (h : j ∉ xs.map (·.1)) : lk xs j = (0, 1) := by
  by_cases q : lk xs j = (0, 1)
  · exact q
  · exact absurd (lk_mem q) h
/-- one more share gathered: each key's sum -/
theorem fold_nodup : ∀ (xs : List (Int × Fx)) (j : Int) (a : Fx), Fr a → (xs.map (·.1)).Nodup → xs.foldl (fun a kx => if j = kx.1 then fadd a kx.2 else a) a = fadd a (lk xs j)
  | [], j, a, ha, _ => (fadd_zero ha).symm
  | (k, x) :: xs, j, a, ha, hn => by
    simp only [List.map_cons, List.nodup_cons] at hn
    show xs.foldl _ (if j = k then fadd a x else a) = _
    rw [lk_cons]
    by_cases h : j = k
    · subst h
      rw [if_pos rfl, if_pos rfl]
      exact fold_none xs j _ hn.1
    · rw [if_neg h, if_neg h]
      exact fold_nodup xs j a ha hn.2
theorem lk_gat_nodup {xs f : List (Int × Fx)} {n : Nat} (hf : AllF n f) (h0 : 0 < n) (hn : (xs.map (·.1)).Nodup) (j : Int) : lk (gat f xs) j = fadd (lk f j) (lk xs j) := by
  rw [lk_gat, fold_nodup xs j _ (lk_fr hf h0 j).1 hn]
/-! sums -/
def fsum (l : List Fx) : Fx := l.foldl fadd (0, 1)
def scl (x : Fx) (k : Int) : Fx := low (x.1 * k) x.2
theorem scl_fr {x : Fx} (h : Fr x) (k : Int) : Fr (scl x k) := low_fr h.ne
theorem scl_sz {x : Fx} {n m : Nat} {k : Int} (h : Fr x) (z : Sz n x) (hk : k.natAbs < 2 ^ m) : Sz (n + m) (scl x k) :=
  low_sz h.ne (abs_mul_lt z.1 hk) (lt_up z.2 (by omega))
theorem scl_mul (x : Fx) (k : Int) : fmul x (k, 1) = scl x k := by
  unfold fmul scl
  simp only [Int.mul_one]
theorem fold_fr : ∀ (l : List Fx) (a : Fx), Fr a → (∀ x ∈ l, Fr x) → Fr (l.foldl fadd a)
  | [], _, h, _ => h
  | x :: l, a, h, g => fold_fr l _ (fadd_fr h (g x List.mem_cons_self)) fun y hy => g y (List.mem_cons_of_mem _ hy)
theorem fold_sz (n : Nat) : ∀ (l : List Fx) (a : Fx) (m : Nat), Fr a → Sz m a → (∀ x ∈ l, Fr x ∧ Sz n x) → Sz (m + l.length * (n + 1)) (l.foldl fadd a)
  | [], a, m, _, z, _ => z.up (by simp)
  | x :: l, a, m, h, z, g => by
    have hx := g x List.mem_cons_self
    have := fold_sz n l (fadd a x) (m + n + 1) (fadd_fr h hx.1) (fadd_sz h hx.1 z hx.2) fun y hy => g y (List.mem_cons_of_mem _ hy)
    refine this.up ?_
    rw [List.length_cons, Nat.succ_mul]
    omega
end CS
namespace CS
def ftot (xs : List (Int × Fx)) : Fx := fsum (xs.map (·.2))
def fmom (xs : List (Int × Fx)) : Fx := fsum (xs.map fun a => scl a.2 a.1)
def frest (xs : List (Int × Fx)) (k : Int) : Fx := fsum ((xs.filter fun a => decide (k < a.1)).map fun a => scl a.2 (a.1 - k))
end CS
namespace CS
theorem cfold_fr (j : Int) : ∀ (xs : List (Int × Fx)) (a : Fx), Fr a → (∀ x ∈ xs, Fr x.2) → Fr (xs.foldl (fun a kx => if j = kx.1 then fadd a kx.2 else a) a)
  | [], a, h, _ => h
  | x :: l, a, h, g => by
    refine cfold_fr j l _ ?_ fun y hy => g y (List.mem_cons_of_mem _ hy)
    show Fr (if j = x.1 then fadd a x.2 else a)
    split
    · exact fadd_fr h (g x List.mem_cons_self)
    · exact h
theorem cfold_sz (n : Nat) (j : Int) : ∀ (xs : List (Int × Fx)) (a : Fx) (m : Nat), Fr a → Sz m a → (∀ x ∈ xs, Fr x.2 ∧ Sz n x.2) → Sz (m + xs.length * (n + 1)) (xs.foldl (fun a kx => if j = kx.1 then fadd a kx.2 else a) a)
  | [], a, m, _, z, _ => z.up (by simp)
  | x :: l, a, m, h, z, g => by
    have hx := g x List.mem_cons_self
    have h2 : Fr (if j = x.1 then fadd a x.2 else a) ∧ Sz (m + n + 1) (if j = x.1 then fadd a x.2 else a) := by
      split
      · exact ⟨fadd_fr h hx.1, fadd_sz h hx.1 z hx.2⟩
      · exact ⟨h, z.up (by omega)⟩
    have := cfold_sz n j l _ (m + n + 1) h2.1 h2.2 fun y hy => g y (List.mem_cons_of_mem _ hy)
    refine this.up ?_
    rw [List.length_cons, Nat.succ_mul]
    omega
theorem gat_fr {n : Nat} {xs : List (Int × Fx)} (h : AllF n xs) (j : Int) : Fr (lk (gat [] xs) j) := by
  rw [lk_gat]
  exact cfold_fr j xs _ fr01 fun x hx => (h x hx).1
theorem gat_sz {n : Nat} {xs : List (Int × Fx)} (h : AllF n xs) (j : Int) : Sz (1 + xs.length * (n + 1)) (lk (gat [] xs) j) := by
  rw [lk_gat]
  exact cfold_sz n j xs _ 1 fr01 (sz01 (by decide)) h
theorem gat_snoc (xs : List (Int × Fx)) (f : List (Int × Fx)) (a : Int × Fx) : gat f (xs ++ [a]) = ups (gat f xs) a.1 (fadd (lk (gat f xs) a.1) a.2) := by
  unfold gat
  rw [List.foldl_append]
  rfl
theorem AllF.take {n i : Nat} {xs : List (Int × Fx)} (h : AllF n xs) : AllF n (xs.take i) := fun a ha => h a (List.mem_of_mem_take ha)
/-- what a share is -/
def Shr (xs : List (Int × Fx)) : Prop := xs.length ≤ 8 ∧ (∀ a ∈ xs, -100 ≤ a.1 ∧ a.1 ≤ 100 ∧ Fr a.2 ∧ 0 < a.2.1) ∧ (xs.map (·.1)).Pairwise (· < ·)
instance (xs : List (Int × Fx)) : Decidable (Shr xs) := by unfold Shr; infer_instance
theorem asc_zip : ∀ (ns : List Int), (List.zipWith (fun a b => decide (a < b)) ns (ns.drop 1)).all id = decide (ns.Pairwise (· < ·))
  | [] => by simp
  | [a] => by simp
  | a :: b :: ns => by
    have ih := asc_zip (b :: ns)
    simp only [List.drop_succ_cons, List.drop_zero] at *
    rw [List.zipWith_cons_cons, List.all_cons, ih, Bool.eq_iff_iff]
    simp only [id, Bool.and_eq_true, decide_eq_true_eq, List.pairwise_cons]
    constructor
    · rintro ⟨h1, h2, h3⟩
      refine ⟨?_, h2, h3⟩
      intro c hc
      rcases List.mem_cons.mp hc with q | q
      · omega
      · have := h2 c q
        omega
    · rintro ⟨h1, h2⟩
      exact ⟨h1 b List.mem_cons_self, h2⟩
end CS
set_option Elab.async false
set_option maxRecDepth 100000
set_option maxHeartbeats 4000000
set_option linter.unusedVariables false
namespace CS
open PySem L2
/-- a def of the text, how its arguments bind, where its name leads -/
structure Df (K : PySem.W.Frag) (mg : Str → Option Value) (x : Str) (st : Stmt) (ps : List Str) (f : Addr) (fd : FuncData) : Prop where
  F : Fun K x x st f fd
  b : Binds K fd ps []
  g : mg x = some (.ref f)
/-- what the walk asks of the module's names -/
structure Bt (mg : Str → Option Value) : Prop where
  gcd : mg "gcd" = some (.builtin "math.gcd")
  isinstance : mg "isinstance" = none
  int : mg "int" = none
  tuple : mg "tuple" = none
  len : mg "len" = none
  abs : mg "abs" = none
  range : mg "range" = none
  list : mg "list" = none
  sorted : mg "sorted" = none
  zip : mg "zip" = none
  all : mg "all" = none
  dict : mg "dict" = none
end CS
namespace L2
open PySem
theorem Same.tup {K : PySem.W.Frag} {H H' : Hp} {a : Addr} {xs : List V} (e : Same H H') (h : SqT K H a xs) : SqT K H' a xs := by
  rcases h with (h | ⟨o, h⟩) | h
  · exact .inl (.inl (e _ _ h))
  · exact .inl (.inr ⟨o, e _ _ h⟩)
  · exact .inr h
theorem Same.new {H : Hp} {p : Addr} {o : HO} (h : H p = none) : Same H (upd H p o) := fun b u e => by
  rw [upd_ne (ne_of_none e h)]
  exact e
end L2
namespace CS
open PySem L2
/-! promises -/
def spLow : Sp := fun vs H Q _ => ∃ t b : Int, vs = [.int t, .int b] ∧ b ≠ 0 ∧ t.natAbs < 2 ^ 4000 ∧ b.natAbs < 2 ^ 4000 ∧
  ∀ p, H p = none → Q (.ref p) (upd H p (.tup [.int (low t b).1, .int (low t b).2]))
/-- two fractions in, a new one out -/
def spF2 (K : PySem.W.Frag) (ok : Int × Int → Int × Int → Prop) (f : Int × Int → Int × Int → Int × Int) : Sp := fun vs H Q _ => ∃ p q x y, vs = [.ref p, .ref q] ∧ FT K H p x ∧ FT K H q y ∧ Fr x ∧ Fr y ∧ Sz 1900 x ∧ Sz 1900 y ∧ ok x y ∧
  ∀ r, H r = none → Q (.ref r) (upd H r (.tup [.int (f x y).1, .int (f x y).2]))
def spB2 (K : PySem.W.Frag) (f : Int × Int → Int × Int → Bool) : Sp := fun vs H Q _ => ∃ p q x y, vs = [.ref p, .ref q] ∧ FT K H p x ∧ FT K H q y ∧ Fr x ∧ Fr y ∧ Sz 1900 x ∧ Sz 1900 y ∧ Q (.bl (f x y)) H
def spWhole (K : PySem.W.Frag) : Sp := fun vs H Q _ => ∃ i : Int, vs = [.int i] ∧ Q (.bl true) H
def spRow (K : PySem.W.Frag) : Sp := fun vs H Q _ => ∃ p xs, vs = [.ref p] ∧ SqT K H p xs ∧ Q (.bl true) H
def spRowOf (K : PySem.W.Frag) : Sp := fun vs H Q _ => ∃ p xs n, vs = [.ref p, .int n] ∧ SqT K H p xs ∧ Q (.bl (decide ((xs.length : Int) = n))) H
def spIsFr (K : PySem.W.Frag) : Sp := fun vs H Q _ => ∃ p x, vs = [.ref p] ∧ FT K H p x ∧ Q (.bl (decide (Fr x))) H
def spNeedFr (K : PySem.W.Frag) : Sp := fun vs H Q _ => ∃ p x, vs = [.ref p] ∧ FT K H p x ∧ Fr x ∧ Q (.ref p) H

end CS
namespace CS
open PySem L2
/-- the pairs of a state of draws -/
def stD (c l : Addr) (k : Int) : List (Key × V) := [(Sum.inr "cells", .ref c), (Sum.inr "lefts", .ref l), (Sum.inr "at", .int k), (Sum.inr "room", .int 0)]
theorem kn1 : ¬ (("cells" : Str) = "lefts") := by decide +kernel
theorem kn2 : ¬ (("cells" : Str) = "at") := by decide +kernel
theorem kn3 : ¬ (("cells" : Str) = "room") := by decide +kernel
theorem kn4 : ¬ (("lefts" : Str) = "at") := by decide +kernel
theorem kn5 : ¬ (("lefts" : Str) = "room") := by decide +kernel
theorem kn6 : ¬ (("at" : Str) = "room") := by decide +kernel
theorem kn7 : ¬ (("room" : Str) = "at") := by decide +kernel
theorem stD_cells (c l : Addr) (k : Int) : valV (stD c l k) (Sum.inr ("cells" : Str)) = some (.ref c) := valV_pos rfl
theorem stD_lefts (c l : Addr) (k : Int) : valV (stD c l k) (Sum.inr ("lefts" : Str)) = some (.ref l) := by
  simp [stD, valV, List.find?_cons, kn1]
theorem stD_at (c l : Addr) (k : Int) : valV (stD c l k) (Sum.inr ("at" : Str)) = some (.int k) := by
  simp [stD, valV, List.find?_cons, kn2, kn4]
theorem stD_put (c l : Addr) (k k' : Int) : putK (stD c l k) (Sum.inr ("at" : Str)) (.int k') = stD c l k' := by
  simp [stD, putK, kn2, kn4, kn7]
theorem stD_make (c l : Addr) : mergeK [] [((Sum.inr ("cells" : Str) : Key), V.ref c), (Sum.inr ("lefts" : Str), .ref l), (Sum.inr ("at" : Str), .int 0), (Sum.inr ("room" : Str), .int 0)] = stD c l 0 := by
  simp [mergeK, putK, stD, kn1, kn2, kn3, kn4, kn5, kn6]
/-- a state of draws, k of them done -/
structure StAt (H : Hp) (d c l : Addr) (k : Nat) : Prop where
  hd : H d = some (.dK (stD c l k))
  ne : c ≠ l
  ex : ∃ cs ls : List Int, H c = some (.lst (cs.map V.int)) ∧ H l = some (.lst (ls.map V.int)) ∧ cs.length = ls.length ∧ 0 < cs.length ∧ cs.length ≤ 64 ∧ ∀ v ∈ ls, 0 ≤ v
/-- what does not belong to the state is as it was -/
def Fm (d l : Addr) (H H' : Hp) : Prop := ∀ b o, H b = some o → b ≠ d → b ≠ l → H' b = some o
theorem Fm.refl (d l : Addr) (H : Hp) : Fm d l H H := fun _ _ e _ _ => e
theorem Fm.trans {d l : Addr} {H H1 H2 : Hp} (a : Fm d l H H1) (b : Fm d l H1 H2) : Fm d l H H2 := fun c o h n m => b c o (a c o h n m) n m
theorem Fm.same {d l : Addr} {H H1 H2 : Hp} (a : Fm d l H H1) (b : Same H1 H2) : Fm d l H H2 := fun c o h n m => b c o (a c o h n m)
theorem same_fm {d l : Addr} {H H1 : Hp} (a : Same H H1) : Fm d l H H1 := fun c o h _ _ => a c o h
theorem StAt.same {H H' : Hp} {d c l : Addr} {k : Nat} (S : StAt H d c l k) (e : Same H H') : StAt H' d c l k := by
  obtain ⟨hd, ne, cs, ls, h1, h2, r⟩ := S
  exact ⟨e _ _ hd, ne, cs, ls, e _ _ h1, e _ _ h2, r⟩
/-- a tuple that stood stands -/
theorem Fm.tup {K : PySem.W.Frag} {H H' : Hp} {d c l p : Addr} {k : Nat} {xs : List V} (e : Fm d l H H') (S : StAt H d c l k) (h : SqT K H p xs) : SqT K H' p xs := by
  obtain ⟨hd, ne, cs, ls, h1, h2, r⟩ := S
  rcases h with (h | ⟨o, h⟩) | h
  · exact .inl (.inl (e _ _ h (fun q => by subst q; rw [hd] at h; cases h) (fun q => by subst q; rw [h2] at h; cases h)))
  · exact .inl (.inr ⟨o, e _ _ h (fun q => by subst q; rw [hd] at h; cases h) (fun q => by subst q; rw [h2] at h; cases h)⟩)
  · exact .inr h
def spMixed : Sp := fun vs H Q _ => ∃ c k : Int, vs = [.int c, .int k] ∧ 0 ≤ k ∧ k ≤ 1000000 ∧ ∀ r : Int, 0 ≤ r → r < 2147483629 → Q (.int r) H
def spBegin (K : PySem.W.Frag) : Sp := fun vs H Q _ => ∃ (a : Addr) (ns : List Int), vs = [.ref a] ∧ SqL K H a (ns.map V.int) ∧ ns.length ≤ 63 ∧ ∀ d c l H', H d = none → Same H H' → StAt H' d c l 0 → Q (.ref d) H'
def spDraw : Sp := fun vs H Q _ => ∃ (d c l : Addr) (k : Nat) (m : Int), vs = [.ref d, .int m] ∧ StAt H d c l k ∧ 0 < m ∧ m.natAbs < 2 ^ 200 ∧ k ≤ 100000 ∧ ∀ r H', 0 ≤ r → r < m → StAt H' d c l (k + 1) → Fm d l H H' → Q (.int r) H'

end CS
namespace CS
open PySem L2
def spLowP : Sp := fun vs H Q _ => ∃ t b : Int, vs = [.int t, .int b] ∧ 0 < b ∧ t.natAbs < 2 ^ 4000 ∧ b.natAbs < 2 ^ 4000 ∧
  ∀ p, H p = none → Q (.ref p) (upd H p (.tup [.int (low t b).1, .int (low t b).2]))
def spDrawn (K : PySem.W.Frag) : Sp := fun vs H Q _ => ∃ (d c l : Addr) (k : Nat), vs = [.ref d] ∧ StAt H d c l k ∧ k ≤ 90000 ∧
  ∀ p H' x, Fr x → Sz 70 x → StAt H' d c l (k + 3) → Fm d l H H' → FT K H' p x → Q (.ref p) H'

end CS
namespace CS
open PySem L2
section
variable {K : PySem.W.Frag}
theorem eqv2 (x : Int × Int) : PyData.eqv (.tuple [.int x.1, .int x.2]) (.tuple [.int x.1, .int x.2]) = true := by
  simp [PyData.eqv, PyData.eqvAll]
theorem ne_same {H : Hp} {p q : Addr} {x y : Int × Int} {Q : VK} (hp : FT K H p x) (hq : FT K H q y) (e : x = y) (h : Q (.bl false) H) : rNeD K (.ref p) (.ref q) H Q := by
  subst e
  refine ⟨.tuple [.int x.1, .int x.2], .tuple [.int x.1, .int x.2], .tup hp (.cons (.int _) (.cons (.int _) .nil)), .tup hq (.cons (.int _) (.cons (.int _) .nil)), rfl, rfl, ?_⟩
  rw [eqv2]
  exact h
theorem eq_same {H : Hp} {p q : Addr} {x y : Int × Int} {Q : VK} (hp : FT K H p x) (hq : FT K H q y) (e : x = y) (h : Q (.bl true) H) : rEqD K (.ref p) (.ref q) H Q := by
  subst e
  refine ⟨.tuple [.int x.1, .int x.2], .tuple [.int x.1, .int x.2], .tup hp (.cons (.int _) (.cons (.int _) .nil)), .tup hq (.cons (.int _) (.cons (.int _) .nil)), rfl, rfl, ?_⟩
  rw [eqv2]
  exact h
theorem FT.new {H : Hp} {r : Addr} {x : Int × Int} : FT K (upd H r (.tup [.int x.1, .int x.2])) r x := SqT.of upd_same
theorem abs_if (z : Int) : (if z < 0 then -z else z) = ((z.natAbs : Nat) : Int) := by split <;> omega
end
/-! shares in the heap -/
/-- refs to pairs of a number and a fraction -/
inductive PrsAt (K : PySem.W.Frag) (H : Hp) : List V → List (Int × Fx) → Prop where
  | nil : PrsAt K H [] []
  | cons {q r : Addr} {m : Int} {x : Fx} {vs : List V} {xs : List (Int × Fx)} (h1 : SqT K H q [.int m, .ref r]) (h2 : FT K H r x) (h3 : PrsAt K H vs xs) : PrsAt K H (.ref q :: vs) ((m, x) :: xs)
def ShAt (K : PySem.W.Frag) (H : Hp) (p : Addr) (xs : List (Int × Fx)) : Prop := ∃ vs, SqT K H p vs ∧ PrsAt K H vs xs
/-- refs to fractions -/
inductive FsAt (K : PySem.W.Frag) (H : Hp) : List V → List Fx → Prop where
  | nil : FsAt K H [] []
  | cons {r : Addr} {x : Fx} {vs : List V} {xs : List Fx} (h2 : FT K H r x) (h3 : FsAt K H vs xs) : FsAt K H (.ref r :: vs) (x :: xs)
section
variable {K : PySem.W.Frag} {H H' : Hp}
/-- what keeps tuples -/
def TK (K : PySem.W.Frag) (H H' : Hp) : Prop := ∀ (p : Addr) (xs : List V), SqT K H p xs → SqT K H' p xs
theorem tk_same (e : Same H H') : TK K H H' := fun _ _ h => e.tup h
theorem tk_fm {d c l : Addr} {k : Nat} (e : Fm d l H H') (S : StAt H d c l k) : TK K H H' := fun _ _ h => e.tup S h
theorem TK.trans {H1 : Hp} (a : TK K H H1) (b : TK K H1 H') : TK K H H' := fun p xs h => b p xs (a p xs h)
theorem PrsAt.tk (e : TK K H H') : ∀ {vs : List V} {xs : List (Int × Fx)}, PrsAt K H vs xs → PrsAt K H' vs xs
  | _, _, .nil => .nil
  | _, _, .cons a b c => .cons (e _ _ a) (e _ _ b) (PrsAt.tk e c)
theorem ShAt.tk {p : Addr} {xs : List (Int × Fx)} (e : TK K H H') (h : ShAt K H p xs) : ShAt K H' p xs := by
  obtain ⟨vs, a, b⟩ := h
  exact ⟨vs, e _ _ a, b.tk e⟩
theorem FsAt.tk (e : TK K H H') : ∀ {vs : List V} {xs : List Fx}, FsAt K H vs xs → FsAt K H' vs xs
  | _, _, .nil => .nil
  | _, _, .cons a b => .cons (e _ _ a) (FsAt.tk e b)
theorem PrsAt.len : ∀ {vs : List V} {xs : List (Int × Fx)}, PrsAt K H vs xs → vs.length = xs.length
  | _, _, .nil => rfl
  | _, _, .cons _ _ c => by simp [c.len]
theorem FsAt.len : ∀ {vs : List V} {xs : List Fx}, FsAt K H vs xs → vs.length = xs.length
  | _, _, .nil => rfl
  | _, _, .cons _ c => by simp [c.len]
theorem PrsAt.get : ∀ {vs : List V} {xs : List (Int × Fx)} {i : Nat} {v : V}, PrsAt K H vs xs → vs[i]? = some v → ∃ q r m x, v = .ref q ∧ xs[i]? = some (m, x) ∧ SqT K H q [.int m, .ref r] ∧ FT K H r x
  | _, _, 0, _, .cons a b c, e => by
    cases e
    exact ⟨_, _, _, _, rfl, rfl, a, b⟩
  | _, _, i + 1, _, .cons a b c, e => by
    obtain ⟨q, r, m, x, h1, h2, h3, h4⟩ := PrsAt.get c (by simpa using e)
    exact ⟨q, r, m, x, h1, by simpa using h2, h3, h4⟩
theorem FsAt.get : ∀ {vs : List V} {xs : List Fx} {i : Nat} {v : V}, FsAt K H vs xs → vs[i]? = some v → ∃ r x, v = .ref r ∧ xs[i]? = some x ∧ FT K H r x
  | _, _, 0, _, .cons a b, e => by
    cases e
    exact ⟨_, _, rfl, rfl, a⟩
  | _, _, i + 1, _, .cons a c, e => by
    obtain ⟨r, x, h1, h2, h4⟩ := FsAt.get c (by simpa using e)
    exact ⟨r, x, h1, by simpa using h2, h4⟩
theorem PrsAt.app {vs ws : List V} {xs ys : List (Int × Fx)} (a : PrsAt K H vs xs) (b : PrsAt K H ws ys) : PrsAt K H (vs ++ ws) (xs ++ ys) := by
  induction a with
  | nil => exact b
  | cons h1 h2 h3 ih => exact .cons h1 h2 ih
theorem FsAt.app {vs ws : List V} {xs ys : List Fx} (a : FsAt K H vs xs) (b : FsAt K H ws ys) : FsAt K H (vs ++ ws) (xs ++ ys) := by
  induction a with
  | nil => exact b
  | cons h1 h3 ih => exact .cons h1 ih
/-! shares as data -/
def prD (a : Int × Fx) : PyData := .tuple [.int a.1, .tuple [.int a.2.1, .int a.2.2]]
def shD (xs : List (Int × Fx)) : PyData := .tuple (xs.map prD)
theorem PrsAt.dp : ∀ {vs : List V} {xs : List (Int × Fx)}, PrsAt K H vs xs → DpAll K H vs (xs.map prD)
  | _, _, .nil => .nil
  | _, _, .cons a b c => .cons (.tup a (.cons (.int _) (.cons (.tup b (.cons (.int _) (.cons (.int _) .nil))) .nil))) c.dp
theorem ShAt.dp {p : Addr} {xs : List (Int × Fx)} (h : ShAt K H p xs) : Dp K H (.ref p) (shD xs) := by
  obtain ⟨vs, a, b⟩ := h
  exact .tup a b.dp
theorem cl1 : ∀ xs : List (Int × Fx), PyData.canLayAll0 (xs.map prD) = true
  | [] => rfl
  | n :: ns => by
    show (PyData.canLay0 (prD n) && PyData.canLayAll0 (ns.map prD)) = true
    rw [cl1 ns]
    rfl
theorem dp1 : ∀ xs : List (Int × Fx), PyData.depthAll (xs.map prD) ≤ 2
  | [] => by decide
  | n :: ns => by
    have := dp1 ns
    simp [PyData.depthAll, PyData.depth, prD] at *
    omega
theorem shShaped (xs : List (Int × Fx)) : SeqAt.shaped (shD xs) = true := by
  have h1 := cl1 xs
  have h2 := dp1 xs
  simp [SeqAt.shaped, PyData.canLay0, PyData.depth, h1, shD]
  omega
theorem eqvPr (a b : Int × Fx) : PyData.eqv (prD a) (prD b) = decide (a = b) := by
  obtain ⟨m, x, y⟩ := a
  obtain ⟨n, z, w⟩ := b
  simp only [prD, PyData.eqv, PyData.eqvAll, Bool.and_true]
  by_cases h1 : m = n <;> by_cases h2 : x = z <;> by_cases h3 : y = w <;> simp [h1, h2, h3]
theorem eqvPrs : ∀ xs ys : List (Int × Fx), PyData.eqvAll (xs.map prD) (ys.map prD) = decide (xs = ys)
  | [], [] => by simp [PyData.eqvAll]
  | [], _ :: _ => by simp [PyData.eqvAll]
  | _ :: _, [] => by simp [PyData.eqvAll]
  | a :: xs, b :: ys => by
    simp only [List.map_cons, PyData.eqvAll, eqvPr, eqvPrs xs ys]
    by_cases h1 : a = b <;> by_cases h2 : xs = ys <;> simp [h1, h2]
theorem eqvSh (xs ys : List (Int × Fx)) : PyData.eqv (shD xs) (shD ys) = decide (xs = ys) := eqvPrs xs ys
theorem shNe {p q : Addr} {xs ys : List (Int × Fx)} {Q : VK} (hp : ShAt K H p xs) (hq : ShAt K H q ys) (h : Q (.bl (!decide (xs = ys))) H) : rNeD K (.ref p) (.ref q) H Q :=
  ⟨shD xs, shD ys, hp.dp, hq.dp, shShaped _, shShaped _, by rw [eqvSh]; exact h⟩
theorem shEq {p q : Addr} {xs ys : List (Int × Fx)} {Q : VK} (hp : ShAt K H p xs) (hq : ShAt K H q ys) (h : Q (.bl (decide (xs = ys))) H) : rEqD K (.ref p) (.ref q) H Q :=
  ⟨shD xs, shD ys, hp.dp, hq.dp, shShaped _, shShaped _, by rw [eqvSh]; exact h⟩
theorem eqvF (x y : Fx) : PyData.eqv (.tuple [.int x.1, .int x.2]) (.tuple [.int y.1, .int y.2]) = decide (x = y) := by
  obtain ⟨a, b⟩ := x
  obtain ⟨c, d⟩ := y
  simp only [PyData.eqv, PyData.eqvAll, Bool.and_true]
  by_cases h1 : a = c <;> by_cases h2 : b = d <;> simp [h1, h2]
def frD (x : Fx) : PyData := .tuple [.int x.1, .int x.2]
theorem ftDp {p : Addr} {x : Fx} (h : FT K H p x) : Dp K H (.ref p) (frD x) := .tup h (.cons (.int _) (.cons (.int _) .nil))
theorem eqvFr (x y : Fx) : PyData.eqv (frD x) (frD y) = decide (x = y) := eqvF x y
theorem ftNe {p q : Addr} {x y : Fx} {Q : VK} (hp : FT K H p x) (hq : FT K H q y) (h : Q (.bl (!decide (x = y))) H) : rNeD K (.ref p) (.ref q) H Q :=
  ⟨.tuple [.int x.1, .int x.2], .tuple [.int y.1, .int y.2], .tup hp (.cons (.int _) (.cons (.int _) .nil)), .tup hq (.cons (.int _) (.cons (.int _) .nil)), rfl, rfl, by rw [eqvF]; exact h⟩
/-! tables from numbers to fractions -/
inductive DPr (K : PySem.W.Frag) (H : Hp) : List (Key × V) → List (Int × Fx) → Prop where
  | nil : DPr K H [] []
  | cons {k : Int} {r : Addr} {x : Fx} {kvs : List (Key × V)} {f : List (Int × Fx)} (h : FT K H r x) (t : DPr K H kvs f) : DPr K H ((Sum.inl k, .ref r) :: kvs) ((k, x) :: f)
theorem DPr.tk (e : TK K H H') : ∀ {kvs : List (Key × V)} {f : List (Int × Fx)}, DPr K H kvs f → DPr K H' kvs f
  | _, _, .nil => .nil
  | _, _, .cons a b => .cons (e _ _ a) (DPr.tk e b)
theorem DPr.keys : ∀ {kvs : List (Key × V)} {f : List (Int × Fx)}, DPr K H kvs f → kvs.map (·.1) = (f.map (·.1)).map Sum.inl
  | _, _, .nil => rfl
  | _, _, .cons _ b => by simp [b.keys]
theorem DPr.len {kvs : List (Key × V)} {f : List (Int × Fx)} (h : DPr K H kvs f) : kvs.length = f.length := by
  have := congrArg List.length h.keys
  simpa using this
theorem DPr.val : ∀ {kvs : List (Key × V)} {f : List (Int × Fx)}, DPr K H kvs f → ∀ k : Int, k ∈ f.map (·.1) → ∃ r, valV kvs (Sum.inl k : Key) = some (.ref r) ∧ FT K H r (lk f k)
  | _, _, .nil, k, hm => by cases hm
  | _, _, @DPr.cons _ _ j r x kvs f a b, k, hm => by
    by_cases h : k = j
    · subst h
      refine ⟨r, valV_pos rfl, ?_⟩
      rw [lk_cons, if_pos rfl]
      exact a
    · have hm2 : k ∈ f.map (·.1) := by
        simp only [List.map_cons, List.mem_cons] at hm
        rcases hm with q | q
        · exact absurd q h
        · exact q
      obtain ⟨r', h1, h2⟩ := b.val k hm2
      refine ⟨r', ?_, ?_⟩
      · rw [valV_neg (by intro z; exact h (Sum.inl.inj z).symm)]
        exact h1
      · rw [lk_cons, if_neg h]
        exact h2
theorem DPr.non : ∀ {kvs : List (Key × V)} {f : List (Int × Fx)}, DPr K H kvs f → ∀ k : Int, k ∉ f.map (·.1) → valV kvs (Sum.inl k : Key) = none
  | _, _, .nil, k, hm => rfl
  | _, _, @DPr.cons _ _ j r x kvs f a b, k, hm => by
    simp only [List.map_cons, List.mem_cons, not_or] at hm
    rw [valV_neg (by intro z; exact hm.1 (Sum.inl.inj z).symm)]
    exact b.non k hm.2
theorem putK_c1 {k : Key} {u v : V} {kvs : List (Key × V)} (hn : ∀ p ∈ kvs, p.1 ≠ k) : putK ((k, u) :: kvs) k v = (k, v) :: kvs := by
  unfold putK
  have : (((k, u) :: kvs).any fun kv => decide (kv.1 = k)) = true := by simp
  rw [if_pos this]
  simp only [List.map_cons, if_pos]
  congr 1
  conv => rhs; rw [← List.map_id kvs]
  apply List.map_congr_left
  intro p hp
  simp [hn p hp]
theorem putK_c2 {j k : Key} {u v : V} {kvs : List (Key × V)} (h : j ≠ k) : putK ((j, u) :: kvs) k v = (j, u) :: putK kvs k v := by
  unfold putK
  by_cases q : (kvs.any fun kv => decide (kv.1 = k)) = true
  · have : (((j, u) :: kvs).any fun kv => decide (kv.1 = k)) = true := by simp only [List.any_cons, q, Bool.or_true]
    rw [if_pos this, if_pos q]
    simp [h]
  · have : ¬ (((j, u) :: kvs).any fun kv => decide (kv.1 = k)) = true := by
      simp only [List.any_cons, Bool.or_eq_true, not_or]
      exact ⟨by simp [h], q⟩
    rw [if_neg this, if_neg q]
    rfl
theorem DPr.put {kvs : List (Key × V)} {f : List (Int × Fx)} (h : DPr K H kvs f) (hn : (f.map (·.1)).Nodup) {k : Int} {r : Addr} {x : Fx} (hr : FT K H r x) : DPr K H (putK kvs (Sum.inl k : Key) (.ref r)) (ups f k x) := by
  induction h with
  | nil =>
    show DPr K H [(Sum.inl k, .ref r)] [(k, x)]
    exact .cons hr .nil
  | @cons j r' y kvs f a b ih =>
    rw [List.map_cons, List.nodup_cons] at hn
    by_cases q : j = k
    · subst q
      rw [putK_c1 (by
        intro p hp e
        have : p.1 ∈ kvs.map (·.1) := List.mem_map.mpr ⟨p, hp, rfl⟩
        rw [b.keys, e] at this
        obtain ⟨z, hz, ez⟩ := List.mem_map.mp this
        exact hn.1 ((Sum.inl.inj ez) ▸ hz))]
      have : ups ((j, y) :: f) j x = (j, x) :: f := by simp [ups]
      rw [this]
      exact .cons hr b
    · rw [putK_c2 (by intro z; exact q (Sum.inl.inj z))]
      have : ups ((j, y) :: f) k x = (j, y) :: ups f k x := by simp [ups, q]
      rw [this]
      exact .cons a (ih hn.2)
end
section
variable {K : PySem.W.Frag} {H H4 : Hp} {D : Addr}
theorem tk_lst {xs ys : List V} (h : H D = some (.lst xs)) : TK K H (upd H D (.lst ys)) := fun p zs hp => by
  rcases hp with (hp | ⟨o, hp⟩) | hp
  · exact .inl (.inl (by rw [upd_ne (fun z => by rw [z, h] at hp; cases hp)]; exact hp))
  · exact .inl (.inr ⟨o, by rw [upd_ne (fun z => by rw [z, h] at hp; cases hp)]; exact hp⟩)
  · exact .inr hp
theorem tk_dk {xs ys : List (Key × V)} (h : H D = some (.dK xs)) : TK K H (upd H D (.dK ys)) := fun p zs hp => by
  rcases hp with (hp | ⟨o, hp⟩) | hp
  · exact .inl (.inl (by rw [upd_ne (fun z => by rw [z, h] at hp; cases hp)]; exact hp))
  · exact .inl (.inr ⟨o, by rw [upd_ne (fun z => by rw [z, h] at hp; cases hp)]; exact hp⟩)
  · exact .inr hp
theorem same_upd {H0 : Hp} {o : HO} (h0 : H0 D = none) (s : Same H0 H4) : Same H0 (upd H4 D o) := fun b u e => by
  rw [upd_ne (ne_of_none e h0)]
  exact s b u e
/-- a list of fractions that is being made at D -/
def LcF (K : PySem.W.Frag) (H : Hp) (D : Addr) (zs : List Fx) (H' : Hp) : Prop := ∃ ws, H' D = some (.lst ws) ∧ Same H H' ∧ FsAt K H' ws zs
theorem LcF.start (h : H D = none) : LcF K H D [] (upd H D (.lst [])) := ⟨[], upd_same, Same.new h, .nil⟩
theorem LcF.step {zs : List Fx} {ws : List V} {y : Addr} {x : Fx} (h0 : H D = none) (h1 : H4 D = some (.lst ws)) (s : Same H H4) (f : FsAt K H4 ws zs) (hx : FT K H4 y x) : LcF K H D (zs ++ [x]) (upd H4 D (.lst (ws ++ [.ref y]))) :=
  ⟨_, upd_same, same_upd h0 s, (f.app (.cons hx .nil)).tk (tk_lst h1)⟩
/-- a list of pairs that is being made at D -/
def LcP (K : PySem.W.Frag) (H : Hp) (D : Addr) (zs : List (Int × Fx)) (H' : Hp) : Prop := ∃ ws, H' D = some (.lst ws) ∧ Same H H' ∧ PrsAt K H' ws zs
theorem LcP.start (h : H D = none) : LcP K H D [] (upd H D (.lst [])) := ⟨[], upd_same, Same.new h, .nil⟩
theorem LcP.step {zs : List (Int × Fx)} {ws : List V} {q r : Addr} {m : Int} {x : Fx} (h0 : H D = none) (h1 : H4 D = some (.lst ws)) (s : Same H H4) (f : PrsAt K H4 ws zs) (hq : SqT K H4 q [.int m, .ref r]) (hx : FT K H4 r x) :
    LcP K H D (zs ++ [(m, x)]) (upd H4 D (.lst (ws ++ [.ref q]))) :=
  ⟨_, upd_same, same_upd h0 s, (f.app (.cons hq hx .nil)).tk (tk_lst h1)⟩
theorem take_snoc {α : Type} {l : List α} {i : Nat} {a : α} (h : l[i]? = some a) : l.take (i + 1) = l.take i ++ [a] := by
  rw [List.take_add_one, h]
  rfl
theorem small {n : Nat} (h : n ≤ 1000) : n ≤ sizeLine := Nat.le_of_lt (small1000 h)
end
/-! promises -/
def spScaled (K : PySem.W.Frag) : Sp := fun vs H Q _ => ∃ p x k, vs = [.ref p, .int k] ∧ FT K H p x ∧ Fr x ∧ Sz 1900 x ∧ k.natAbs < 2 ^ 20 ∧ ∀ r, H r = none → Q (.ref r) (upd H r (.tup [.int (scl x k).1, .int (scl x k).2]))
def spSum (K : PySem.W.Frag) : Sp := fun vs H Q _ => ∃ a ws xs, vs = [.ref a] ∧ SqL K H a ws ∧ FsAt K H ws xs ∧ (∀ x ∈ xs, Fr x ∧ Sz 100 x) ∧ xs.length ≤ 16 ∧ ∀ H' p, Same H H' → FT K H' p (fsum xs) → Q (.ref p) H'
/-- of a share: a fraction -/
def spShF (K : PySem.W.Frag) (f : List (Int × Fx) → Fx) : Sp := fun vs H Q _ => ∃ p xs, vs = [.ref p] ∧ ShAt K H p xs ∧ AllF 90 xs ∧ (∀ a ∈ xs, a.1.natAbs ≤ 200) ∧ xs.length ≤ 16 ∧ ∀ H' r, Same H H' → FT K H' r (f xs) → Q (.ref r) H'
def spShFk (K : PySem.W.Frag) (f : List (Int × Fx) → Int → Fx) : Sp := fun vs H Q _ => ∃ p xs k, vs = [.ref p, .int k] ∧ ShAt K H p xs ∧ AllF 90 xs ∧ (∀ a ∈ xs, a.1.natAbs ≤ 200) ∧ k.natAbs ≤ 200 ∧ xs.length ≤ 16 ∧ ∀ H' r, Same H H' → FT K H' r (f xs k) → Q (.ref r) H'
end CS
set_option Elab.async false
set_option maxRecDepth 100000
set_option maxHeartbeats 4000000
set_option linter.unusedVariables false
namespace CS
open PySem L2
def top (i : Nat) : Stmt := PySem.Challenge.pw_curtainsteps_k03_whole_shares.main.body.getD i (.Pass ⟨0, 0, 0, 0⟩)
abbrev sLowered : Stmt := top 3
abbrev sAdded : Stmt := top 4
abbrev sScaled : Stmt := top 5
abbrev sSumOf : Stmt := top 6
abbrev sGathered : Stmt := top 8
abbrev sTotalOf : Stmt := top 9
abbrev sMomentOf : Stmt := top 10
abbrev sRestOf : Stmt := top 11
abbrev sSteperror : Stmt := top 13
abbrev sBadshare : Stmt := top 14
abbrev sBadnumber : Stmt := top 15
abbrev sToomany : Stmt := top 16
abbrev sIsWhole : Stmt := top 19
abbrev sIsRow : Stmt := top 20
abbrev sIsRowOf : Stmt := top 21
abbrev sIsWholeWithin : Stmt := top 22
abbrev sIsNumber : Stmt := top 23
abbrev sIsFraction : Stmt := top 24
abbrev sIsWeight : Stmt := top 25
abbrev sAscends : Stmt := top 26
abbrev sIsSharePair : Stmt := top 27
abbrev sIsShare : Stmt := top 28
abbrev sNeedNumber : Stmt := top 30
abbrev sNeedShare : Stmt := top 32
abbrev sTotal : Stmt := top 33
abbrev sMoment : Stmt := top 34
abbrev sRestAbove : Stmt := top 35
abbrev sPutTogether : Stmt := top 36
abbrev sTakenFrom : Stmt := top 37
abbrev sMixed : Stmt := top 39
abbrev sBegin : Stmt := top 40
abbrev sDraw : Stmt := top 41
abbrev sLawOf : Stmt := top 42
abbrev sLawRatio : Stmt := top 43
abbrev sLawPlus : Stmt := top 44
abbrev sLawLess : Stmt := top 45
abbrev sLawTimes : Stmt := top 46
abbrev sLawOver : Stmt := top 47
abbrev sLawUnder : Stmt := top 48
abbrev sLawSum : Stmt := top 49
abbrev sLawTotal : Stmt := top 50
abbrev sLawMoment : Stmt := top 51
abbrev sLawRest : Stmt := top 52
abbrev sLawLacks : Stmt := top 53
abbrev sLawShareOf : Stmt := top 54
abbrev sLawSide : Stmt := top 55
abbrev sLawIsFair : Stmt := top 56
abbrev sLawWindows : Stmt := top 57
abbrev sLawTaken : Stmt := top 58
abbrev sLawTableBy : Stmt := top 59
abbrev sLawCrossings : Stmt := top 60
abbrev sLawHeft : Stmt := top 61
abbrev sLawMarks : Stmt := top 62
abbrev sLawShare : Stmt := top 63
abbrev sLawSteps : Stmt := top 64
abbrev sLawHeard : Stmt := top 65
abbrev sLawBoth : Stmt := top 66
abbrev sLawTwoRight : Stmt := top 67
abbrev sLaw : Stmt := top 68
section
variable {P : Program} {w : World} {K : PySem.W.Frag} {mg : Str → Option Value} {base : Heap}
theorem scLowered : FnScope ["top", "bottom", "common"] ["top", "bottom"] (defScope sLowered) := ⟨rfl, rfl, rfl, by decide +kernel, rfl, by decide +kernel, by decide +kernel⟩
theorem ok_lowered {f : Addr} {fd : FuncData} (F : Df K mg "lowered" sLowered ["top", "bottom"] f fd) (T : Bt mg) : FnOk P w K mg base CX0 1 f fd ["top", "bottom"] spLow := by
  refine F.F.ok scLowered (fun vs H Q E h => ?_) (fun cdv A outer s H vs Q E hr h => ?_)
  · obtain ⟨t, b, rfl, _⟩ := h
    rfl
  · obtain ⟨t, b, rfl, hb, h1, h2, k⟩ := h
    refine ⟨_, pss_cons (ps_set (i := 2) scLowered.nd rfl (Or.inl rfl) (pe_callBfun cr_gcd (by rfl) T.gcd (pa_cons (pv 0) (pa_cons (pv 1) pa_nil))))
      (pss_cons (ps_if (pt_cmpR op_lt (pv 1) pe_int (nomark _)) (pss_one (ps_set (i := 2) scLowered.nd rfl (Or.inl rfl) (pe_un un_neg (pv 2)))) pss_nil)
      (pss_one (ps_ret (pe_tup (pa_cons (pe_op op_fdivX (pv 0) (pv 2)) (pa_cons (pe_op op_fdivX (pv 1) (pv 2)) pa_nil)))))), ?_⟩
    have hc := cm_ne (t := t) hb
    have hz : (cm t b).natAbs.log2 < 9000 := by
      rw [cm_abs]
      have : Int.gcd t b ≤ b.natAbs := Nat.le_of_dvd (by omega) (Nat.gcd_dvd_right _ _)
      exact Nat.lt_of_lt_of_le (PySem.Flt.log2_lt_of (by decide) (Nat.lt_of_le_of_lt this h2)) (by decide)
    refine ⟨_, rfl, _, rfl, t, b, rfl, _, rfl, _, _, rfl, rfl, _, rfl, ?_⟩
    by_cases hlt : b < 0
    · have e : cm t b = -(Int.gcd t b : Int) := if_pos hlt
      rw [decide_eq_true hlt]
      refine iteT ?_
      refine ⟨_, rfl, _, rfl, ?_⟩
      refine ⟨_, rfl, _, rfl, t, _, rfl, rfl, ⟨e ▸ hc, e ▸ hz⟩, _, rfl, _, rfl, b, _, rfl, rfl, ⟨e ▸ hc, e ▸ hz⟩, (by show 2 ≤ sizeLine; decide), fun p hp => ?_⟩
      have := k p hp
      unfold low at this
      rw [e] at this
      exact this
    · have e : cm t b = (Int.gcd t b : Int) := if_neg hlt
      rw [decide_eq_false hlt]
      refine iteF ?_
      refine ⟨_, rfl, _, rfl, t, _, rfl, rfl, ⟨e ▸ hc, e ▸ hz⟩, _, rfl, _, rfl, b, _, rfl, rfl, ⟨e ▸ hc, e ▸ hz⟩, (by show 2 ≤ sizeLine; decide), fun p hp => ?_⟩
      have := k p hp
      unfold low at this
      rw [e] at this
      exact this
theorem scAdded : FnScope ["one", "other"] ["one", "other"] (defScope sAdded) := ⟨rfl, rfl, rfl, by decide +kernel, rfl, by decide +kernel, by decide +kernel⟩
theorem ok_added {f fl : Addr} {fd fdl : FuncData} (F : Df K mg "added" sAdded ["one", "other"] f fd) (L : Df K mg "lowered" sLowered ["top", "bottom"] fl fdl) (T : Bt mg) : FnOk P w K mg base CX0 2 f fd ["one", "other"] (spF2 K (fun _ _ => True) fadd) := by
  have G : FnOk P w K mg base CX0 1 fl fdl ["top", "bottom"] spLow := ok_lowered L T
  refine F.F.ok scAdded (fun vs H Q E h => ?_) (fun cdv A outer s H vs Q E hr h => ?_)
  · obtain ⟨p, q, x, y, rfl, _⟩ := h
    rfl
  · obtain ⟨p, q, x, y, rfl, hp, hq, hx, hy, zx, zy, ok, k⟩ := h
    refine ⟨_, pss_one (ps_ret (pe_call G hr (by rfl) L.g L.F.kp L.b .nil pass0 (pa_cons (pe_op op_add (pe_op op_mulW (pe_fst 0) (pe_snd 1)) (pe_op op_mulW (pe_fst 1) (pe_snd 0))) (pa_cons (pe_op op_mulW (pe_snd 0) (pe_snd 1)) pa_nil)))), ?_⟩
    refine ⟨p, x, rfl, hp, q, y, rfl, hq, _, _, rfl, rfl, cmw zx.1 zy.2, q, y, rfl, hq, p, x, rfl, hp, _, _, rfl, rfl, cmw zy.1 zx.2, _, _, rfl, rfl, p, x, rfl, hp, q, y, rfl, hq, _, _, rfl, rfl, cmw zx.2 zy.2, _, _, rfl, dd hx hy, lt_up (abs_add_lt (abs_mul_lt zx.1 zy.2) (abs_mul_lt zy.1 zx.2)) (by decide), lt_up (abs_mul_lt zx.2 zy.2) (by decide), k⟩
theorem scIsWhole : FnScope ["thing"] ["thing"] (defScope sIsWhole) := ⟨rfl, rfl, rfl, by decide +kernel, rfl, by decide +kernel, by decide +kernel⟩
theorem ok_is_whole {f : Addr} {fd : FuncData} (F : Df K mg "is_whole" sIsWhole ["thing"] f fd) (T : Bt mg) : FnOk P w K mg base CX0 1 f fd ["thing"] (spWhole K) := by
  refine F.F.ok scIsWhole (fun vs H Q E h => ?_) (fun cdv A outer s H vs Q E hr h => ?_)
  · obtain ⟨i, rfl, _⟩ := h
    rfl
  · obtain ⟨i, rfl, k⟩ := h
    refine ⟨_, pss_one (ps_ret (pe_and (pe_callB call_isi (by rfl) T.isinstance (by decide +kernel) (pa_cons (pv 0) (pa_cons (pe_bltn (v := .ty "int") (by rfl) T.int (by decide +kernel) rfl) pa_nil))) (pe_one (pe_cmpR op_eq (pe_cn (pv 0)) pe_str (nomark _))))), ?_⟩
    refine ⟨_, rfl, _, _, _, _, true, rfl, .ty _, .base (.int i), kit_ty (a := "int") (b := "int") (by decide +kernel), _, rfl, iteT ?_⟩
    refine ⟨_, rfl, _, .int i, rfl, ?_⟩
    exact k
theorem scIsRow : FnScope ["thing"] ["thing"] (defScope sIsRow) := ⟨rfl, rfl, rfl, by decide +kernel, rfl, by decide +kernel, by decide +kernel⟩
theorem TyX.of_tup {K : PySem.W.Frag} {H : Hp} {p : Addr} {xs : List V} (h : SqT K H p xs) : TyX K H (.ref p) (.type "tuple") := by
  rcases h with (h | ⟨o, h⟩) | ⟨o, its, n, h, c, _⟩
  · exact .base (.tup h)
  · exact .fTuple h
  · exact .kTuple h c
theorem ok_is_row {f : Addr} {fd : FuncData} (F : Df K mg "is_row" sIsRow ["thing"] f fd) (T : Bt mg) : FnOk P w K mg base CX0 1 f fd ["thing"] (spRow K) := by
  refine F.F.ok scIsRow (fun vs H Q E h => ?_) (fun cdv A outer s H vs Q E hr h => ?_)
  · obtain ⟨i, xs, rfl, _⟩ := h
    rfl
  · obtain ⟨i, xs, rfl, hp, k⟩ := h
    refine ⟨_, pss_one (ps_ret (pe_and (pe_callB call_isi (by rfl) T.isinstance (by decide +kernel) (pa_cons (pv 0) (pa_cons (pe_bltn (v := .ty "tuple") (by rfl) T.tuple (by decide +kernel) rfl) pa_nil))) (pe_one (pe_cmpR op_eq (pe_cn (pv 0)) pe_str (nomark _))))), ?_⟩
    refine ⟨_, rfl, _, _, _, _, true, rfl, .ty _, TyX.of_tup hp, kit_ty (a := "tuple") (b := "tuple") (by decide +kernel), _, rfl, iteT ?_⟩
    refine ⟨_, rfl, _, .tup hp, rfl, ?_⟩
    exact k
theorem scIsRowOf : FnScope ["thing", "many"] ["thing", "many"] (defScope sIsRowOf) := ⟨rfl, rfl, rfl, by decide +kernel, rfl, by decide +kernel, by decide +kernel⟩
theorem ok_is_row_of {f f1 : Addr} {fd fd1 : FuncData} (F : Df K mg "is_row_of" sIsRowOf ["thing", "many"] f fd) (F1 : Df K mg "is_row" sIsRow ["thing"] f1 fd1) (T : Bt mg) : FnOk P w K mg base CX0 2 f fd ["thing", "many"] (spRowOf K) := by
  have G1 : FnOk P w K mg base CX0 1 f1 fd1 ["thing"] (spRow K) := ok_is_row F1 T
  refine F.F.ok scIsRowOf (fun vs H Q E h => ?_) (fun cdv A outer s H vs Q E hr h => ?_)
  · obtain ⟨i, xs, n, rfl, _⟩ := h
    rfl
  · obtain ⟨i, xs, n, rfl, hp, k⟩ := h
    refine ⟨_, pss_one (ps_ret (pe_and (pe_call G1 hr (by rfl) F1.g F1.F.kp F1.b .nil pass0 (pa_cons (pv 0) pa_nil)) (pe_one (pe_cmpR op_eq (pe_callB call_len_seq (by rfl) T.len PySem.boot_len (pa_cons (pv 0) pa_nil)) (pv 1) (nomark _))))), ?_⟩
    refine ⟨_, rfl, _, _, rfl, hp, _, rfl, iteT ?_⟩
    refine ⟨_, rfl, _, _, rfl, .inr hp, _, rfl, rfl, ?_⟩
    have e : decide (V.int (xs.length : Int) = V.int n) = decide ((xs.length : Int) = n) := by
      rw [decide_eq_decide]
      constructor
      · intro h; injection h
      · intro h; rw [h]
    rw [e]
    exact k
theorem scIsFraction : FnScope ["thing"] ["thing"] (defScope sIsFraction) := ⟨rfl, rfl, rfl, by decide +kernel, rfl, by decide +kernel, by decide +kernel⟩
theorem ok_is_fraction {f f1 f2 f3 : Addr} {fd fd1 fd2 fd3 : FuncData} (F : Df K mg "is_fraction" sIsFraction ["thing"] f fd) (F1 : Df K mg "is_row_of" sIsRowOf ["thing", "many"] f1 fd1) (F2 : Df K mg "is_row" sIsRow ["thing"] f2 fd2)
    (F3 : Df K mg "is_whole" sIsWhole ["thing"] f3 fd3) (T : Bt mg) : FnOk P w K mg base CX0 3 f fd ["thing"] (spIsFr K) := by
  have G1 : FnOk P w K mg base CX0 2 f1 fd1 ["thing", "many"] (spRowOf K) := ok_is_row_of F1 F2 T
  have G3 : FnOk P w K mg base CX0 1 f3 fd3 ["thing"] (spWhole K) := ok_is_whole F3 T
  refine F.F.ok scIsFraction (fun vs H Q E h => ?_) (fun cdv A outer s H vs Q E hr h => ?_)
  · obtain ⟨p, x, rfl, _⟩ := h
    rfl
  · obtain ⟨p, x, rfl, hp, k⟩ := h
    have hr1 : Room 1 _ := hr.mono (by decide)
    refine ⟨_, pss_cons (ps_if (PW.pt (pw_or (pt_not (pt_val (pe_call G1 hr (by rfl) F1.g F1.F.kp F1.b .nil pass0 (pa_cons (pv 0) (pa_cons pe_int pa_nil))))) (pw_or (pt_not (pt_val (pe_call G3 hr1 (by rfl) F3.g F3.F.kp F3.b .nil pass0 (pa_cons (pe_fst 0) pa_nil)))) (pw_or1 (pt_not (pt_val (pe_call G3 hr1 (by rfl) F3.g F3.F.kp F3.b .nil pass0 (pa_cons (pe_snd 0) pa_nil))))))))
        (pss_one (ps_ret pe_bl)) pss_nil)
      (pss_one (ps_ret (pe_and (pe_cmpR op_ge (pe_snd 0) pe_int (nomark _)) (pe_one (pe_cmpR op_eq (pe_callBfun cr_gcd (by rfl) T.gcd (pa_cons (pe_fst 0) (pa_cons (pe_snd 0) pa_nil))) pe_int (nomark _)))))), ?_⟩
    refine ⟨_, rfl, _, _, _, rfl, hp, _, rfl, iteF ?_⟩
    refine ⟨p, x, rfl, hp, _, rfl, _, rfl, iteF ?_⟩
    refine ⟨p, x, rfl, hp, _, rfl, _, rfl, iteF ?_⟩
    refine ⟨p, x, rfl, hp, _, _, rfl, rfl, _, rfl, ?_⟩
    by_cases h1 : 1 ≤ x.2
    · rw [decide_eq_true h1]
      refine iteT ?_
      refine ⟨p, x, rfl, hp, p, x, rfl, hp, _, _, rfl, rfl, ?_⟩
      have e : decide (V.int ((Nat.gcd x.1.natAbs x.2.natAbs : Nat) : Int) = V.int 1) = decide (Fr x) := by
        rw [decide_eq_decide]
        constructor
        · intro h
          injection h with h
          refine ⟨h1, ?_⟩
          show Nat.gcd x.1.natAbs x.2.natAbs = 1
          omega
        · intro h
          have := h.2
          show V.int ((Int.gcd x.1 x.2 : Nat) : Int) = V.int 1
          rw [this]
          rfl
      rw [e]
      exact k
    · rw [decide_eq_false h1]
      refine iteF ?_
      rw [decide_eq_false (fun h : Fr x => h1 h.1)] at k
      exact k
theorem scMixed : FnScope ["cell", "k"] ["cell", "k"] (defScope sMixed) := ⟨rfl, rfl, rfl, by decide +kernel, rfl, by decide +kernel, by decide +kernel⟩
theorem ok_mixed {f : Addr} {fd : FuncData} (F : Df K mg "_law_mixed" sMixed ["cell", "k"] f fd) (T : Bt mg) : FnOk P w K mg base CX0 1 f fd ["cell", "k"] spMixed := by
  refine F.F.ok scMixed (fun vs H Q E h => ?_) (fun cdv A outer s H vs Q E hr h => ?_)
  · obtain ⟨c, k, rfl, _⟩ := h
    rfl
  · obtain ⟨c, k, rfl, k0, k1, q⟩ := h
    refine ⟨_, pss_cons (ps_set (i := 0) scMixed.nd rfl (Or.inl rfl) (pe_op op_mod (pe_callTy call_int1 (by rfl) T.int (by decide +kernel) (pa_cons (pv 0) pa_nil)) pe_int))
      (pss_one (ps_ret (pe_op op_mod (pe_op op_mul (pe_op op_mod (pe_op op_add (pe_op op_add
        (pe_op op_mul (pv 0) (pe_op op_add pe_int (pe_op op_mul (pe_op op_mul pe_int (pv 1)) (pv 1))))
        (pe_op op_mul pe_int (pv 1))) pe_int) pe_int) pe_int) pe_int))), ?_⟩
    have hc0 : 0 ≤ c % 2147483647 := Int.emod_nonneg _ (by decide)
    have hc1 : c % 2147483647 < 2147483647 := Int.emod_lt_of_pos _ (by decide)
    refine ⟨_, rfl, .inl ⟨c, rfl, _, _, rfl, rfl, (by show (0 : Int) < 2147483647; decide), ?_⟩⟩
    generalize hcc : c % 2147483647 = cc at *
    refine ⟨_, rfl, _, rfl, _, _, rfl, rfl, .inl ⟨by decide, by decide⟩, _, rfl, _, _, rfl, rfl, .inr ⟨by omega, by omega⟩, _, _, rfl, rfl, ?_⟩
    generalize 48271 + 2 * k * k = z
    refine ⟨_, _, rfl, rfl, .inl ⟨by omega, by omega⟩, _, rfl, _, _, rfl, rfl, .inl ⟨by decide, by decide⟩, _, _, rfl, rfl, _, _, rfl, rfl, _, _, rfl, rfl, (by show (0 : Int) < 2147483647; decide), ?_⟩
    generalize hy : (cc * z + 69621 * k + 11) = y
    have hy0 : 0 ≤ y % 2147483647 := Int.emod_nonneg _ (by decide)
    have hy1 : y % 2147483647 < 2147483647 := Int.emod_lt_of_pos _ (by decide)
    refine ⟨_, _, rfl, rfl, .inl ⟨by omega, by omega⟩, _, _, rfl, rfl, (by show (0 : Int) < 2147483629; decide), ?_⟩
    exact q _ (Int.emod_nonneg _ (by decide)) (Int.emod_lt_of_pos _ (by decide))
theorem dpInts (K : PySem.W.Frag) (H : Hp) : ∀ ns : List Int, DpAll K H (ns.map V.int) (ns.map PyData.int)
  | [] => .nil
  | n :: ns => .cons (.int n) (dpInts K H ns)
theorem cl0 : ∀ ns : List Int, PyData.canLayAll0 (ns.map PyData.int) = true
  | [] => rfl
  | n :: ns => by
    show (PyData.canLay0 (.int n) && PyData.canLayAll0 (ns.map PyData.int)) = true
    rw [cl0 ns]
    rfl
theorem dp0 : ∀ ns : List Int, PyData.depthAll (ns.map PyData.int) ≤ 1
  | [] => by decide
  | n :: ns => by
    have := dp0 ns
    simp [PyData.depthAll, PyData.depth] at *
    omega
theorem shInts (ns : List Int) : SeqAt.shaped (.list (ns.map PyData.int)) = true := by
  have h1 := cl0 ns
  have h2 := dp0 ns
  simp [SeqAt.shaped, PyData.canLay0, PyData.depth, h1]
  omega
theorem scBegin : FnScope ["script", "cells", "cell"] ["script"] (defScope sBegin) := ⟨rfl, rfl, rfl, by decide +kernel, rfl, by decide +kernel, by decide +kernel⟩
theorem ok_begin {f : Addr} {fd : FuncData} (F : Df K mg "_law_begin" sBegin ["script"] f fd) (T : Bt mg) : FnOk P w K mg base CX0 1 f fd ["script"] (spBegin K) := by
  refine F.F.ok scBegin (fun vs H Q E h => ?_) (fun cdv A outer s H vs Q E hr h => ?_)
  · obtain ⟨a, ns, rfl, _⟩ := h
    rfl
  · obtain ⟨a, ns, rfl, hS, hlen, k⟩ := h
    refine ⟨_, Evl.pss_cut (ps_set (i := 1) scBegin.nd rfl (Or.inl rfl) (pe_ifExp (pt_cmpR (op_neD hr.units) (pv 0) (pe_lst pa_nil) (nomark _)) (pe_callTy call_list_of (by rfl) T.list (by decide +kernel) (pa_cons (pv 0) pa_nil)) (pe_lst (pa_cons pe_int pa_nil))))
      (pss_one (ps_ret (pe_disp (pps_cons pe_str (pv 1) (pps_cons pe_str
        (pe_lc (own := [("cell", 2)]) (g := gName 2) (tt := tYes) rfl scBegin.nd (pi_list (pv 1)) (blkOk_by (N := ["script", "cells", "cell"]) (sc := defScope sBegin) (by decide +kernel)) (fun _ _ _ _ _ => pg_name (i := 2) scBegin.nd rfl (Or.inl rfl)) (fun _ _ _ _ _ => pts_nil)
          (fun _ _ _ _ _ => pe_ifExp (pt_cmpR op_ge (pv 2) (pe_op op_pow pe_int pe_int) (nomark _)) (pv 2) pe_int))
        (pps_cons pe_str pe_int (pps_cons pe_str pe_int pps_nil)))) (by rfl) (by rfl) (fun z => by cases z) (by decide)))), ?_⟩
    refine ⟨fun σ' H' => ∃ (c : Addr) (cs : List Int), σ' = [some (.ref a), some (.ref c), none] ∧ Same H H' ∧ H c = none ∧ H' c = some (.lst (cs.map V.int)) ∧ 0 < cs.length ∧ cs.length ≤ 64, ?_, ?_⟩
    · refine ⟨_, rfl, (by show 0 ≤ sizeLine; decide), fun q0 hq0 => ?_⟩
      refine ⟨.list (ns.map PyData.int), .list [], .lst ((Same.new hq0).seq hS) (dpInts _ _ ns), .lst (SqL.of upd_same) .nil, shInts ns, rfl, _, rfl, ?_⟩
      cases ns with
      | nil =>
        refine iteF ?_
        refine ⟨(by show 1 ≤ sizeLine; decide), fun c hc => ?_⟩
        exact ⟨c, [0], rfl, (Same.new hq0).trans (Same.new hc), (Same.new hq0).free hc, upd_same, by decide, by decide⟩
      | cons n ns =>
        refine iteT ?_
        refine ⟨_, rfl, a, _, rfl, .inl ((Same.new hq0).seq hS), fun c hc => ?_⟩
        exact ⟨c, n :: ns, rfl, (Same.new hq0).trans (Same.new hc), (Same.new hq0).free hc, upd_same, by simp, by omega⟩
    · rintro σ' H1 ⟨c, cs, rfl, s1, nc, hc, c0, c64⟩
      intro p hp
      have ncp : c ≠ p := ne_of_none hc hp
      have hcp : (upd H1 p (.dK [])) c = some (.lst (cs.map V.int)) := by rw [upd_ne ncp]; exact hc
      refine ⟨_, rfl, _, rfl, c, rfl, ⟨_, SqL.of hcp⟩, fun D hD => ?_⟩
      have ncD : c ≠ D := ne_of_none hcp hD
      have npD : p ≠ D := ne_of_none upd_same hD
      refine lc_list (K := K) (a := c) (xs := cs.map V.int) (fun i H' => ∃ acc : List Int, H' = upd (upd H1 p (.dK [])) D (.lst (acc.map V.int)) ∧ acc.length = i ∧ ∀ v ∈ acc, 0 ≤ v) ⟨[], rfl, rfl, fun v hv => by cases hv⟩ ?_ ?_ ?_
      · rintro i H' hi ⟨acc, rfl, _, _⟩
        exact SqL.of (by rw [upd_ne ncD]; exact hcp)
      · rintro i x H' hx ⟨acc, rfl, hl, h0⟩
        have hil : i < (cs.map V.int).length := (List.getElem?_eq_some_iff.mp hx).1
        rw [List.length_map] at hil
        obtain ⟨z, rfl⟩ : ∃ z, x = V.int z := by
          rw [List.getElem?_map] at hx
          cases e : cs[i]? with
          | none =>
            rw [e] at hx
            cases hx
          | some z =>
            rw [e] at hx
            exact ⟨z, (Option.some.inj hx).symm⟩
        refine ⟨rfl, ?_⟩
        dsimp only [tYes]
        rw [if_pos rfl]
        refine ⟨_, rfl, 10, 18, rfl, rfl, ⟨by decide, by decide, by decide⟩, _, _, rfl, rfl, _, rfl, ?_⟩
        by_cases hz : (10 : Int) ^ (18 : Int).toNat ≤ z
        · rw [decide_eq_true hz]
          refine iteT ⟨_, rfl, _, upd_same, ?_, acc ++ [z], ?_, ?_, ?_⟩
          · rw [List.length_map]; exact small1000 (by omega)
          · rw [upd_upd, List.map_append]; rfl
          · rw [List.length_append]; simp [hl]
          · intro v hv
            rcases List.mem_append.mp hv with q | q
            · exact h0 v q
            · have := List.mem_singleton.mp q
              have h18 : (0 : Int) ≤ (10 : Int) ^ (18 : Int).toNat := by decide
              omega
        · rw [decide_eq_false hz]
          refine iteF ⟨_, upd_same, ?_, acc ++ [0], ?_, ?_, ?_⟩
          · rw [List.length_map]; exact small1000 (by omega)
          · rw [upd_upd, List.map_append]; rfl
          · rw [List.length_append]; simp [hl]
          · intro v hv
            rcases List.mem_append.mp hv with q | q
            · exact h0 v q
            · have := List.mem_singleton.mp q
              omega
      · rintro H' ⟨acc, rfl, hl, h0⟩
        refine ⟨by rw [upd_ne npD]; exact upd_same, [(Sum.inr ("cells" : Str), V.ref c), (Sum.inr ("lefts" : Str), .ref D), (Sum.inr ("at" : Str), .int 0), (Sum.inr ("room" : Str), .int 0)], rfl, (by show 4 ≤ 15; decide), ?_⟩
        rw [stD_make]
        have hD1 : H1 D = none := (Same.new hp).free hD
        refine k p c D _ (s1.free hp) (s1.trans ?_) ?_
        · intro b o e
          rw [upd_ne (ne_of_none e hp), upd_ne (ne_of_none e hD1), upd_ne (ne_of_none e hp)]
          exact e
        · refine ⟨upd_same, ncD, cs, acc, ?_, ?_, ?_, c0, c64, h0⟩
          · rw [upd_ne ncp, upd_ne ncD]; exact hcp
          · rw [upd_ne npD.symm, upd_same]
          · rw [hl, List.length_map]
theorem scDraw : FnScope ["state", "many", "at", "place", "left", "number"] ["state", "many"] (defScope sDraw) := ⟨rfl, rfl, rfl, by decide +kernel, rfl, by decide +kernel, by decide +kernel⟩
theorem ok_draw {f f1 : Addr} {fd fd1 : FuncData} (F : Df K mg "_law_draw" sDraw ["state", "many"] f fd) (F1 : Df K mg "_law_mixed" sMixed ["cell", "k"] f1 fd1) (T : Bt mg) : FnOk P w K mg base CX0 2 f fd ["state", "many"] spDraw := by
  have G1 : FnOk P w K mg base CX0 1 f1 fd1 ["cell", "k"] spMixed := ok_mixed F1 T
  refine F.F.ok scDraw (fun vs H Q E h => ?_) (fun cdv A outer s H vs Q E hr h => ?_)
  · obtain ⟨d, c, l, k, m, rfl, _⟩ := h
    rfl
  · obtain ⟨d, c, l, n, m, rfl, S, m0, m1, n1, k⟩ := h
    have hu := hu_of hr
    refine ⟨_, pss_cons (ps_set (i := 2) scDraw.nd rfl (Or.inl rfl) (pe_dget hu (pv 0) pe_str (fun _ _ => rfl)))
      (pss_cons (ps_dput hu (pv 0) pe_str (pe_op op_add (pv 2) pe_int) rfl)
      (pss_cons (ps_set (i := 3) scDraw.nd rfl (Or.inl rfl) (pe_op op_mod (pe_callTy call_int1 (by rfl) T.int (by decide +kernel) (pa_cons (pv 2) pa_nil)) (pe_callB call_len_seq (by rfl) T.len PySem.boot_len (pa_cons (pe_dget hu (pv 0) pe_str (fun _ _ => rfl)) pa_nil))))
      (pss_cons (ps_set (i := 4) scDraw.nd rfl (Or.inl rfl) (pe_ix ix_list (pe_dget hu (pv 0) pe_str (fun _ _ => rfl)) (pv 3) (fun _ _ => rfl)))
      (pss_cons (ps_if (pt_cmpR op_gt (pv 4) pe_int (nomark _))
        (pss_cons (ps_asg (pe_op op_fdivW (pv 4) (pv 1)) (pg_sub (pe_dget hu (pv 0) pe_str (fun _ _ => rfl)) (pv 3) set_list))
        (pss_one (ps_ret (pe_op op_mod (pe_callTy call_int1 (by rfl) T.int (by decide +kernel) (pa_cons (pv 4) pa_nil)) (pv 1))))) pss_nil)
      (pss_cons (ps_set (i := 5) scDraw.nd rfl (Or.inl rfl) (pe_call G1 hr (by rfl) F1.g F1.F.kp F1.b .nil pass0 (pa_cons (pe_call G1 hr (by rfl) F1.g F1.F.kp F1.b .nil pass0 (pa_cons (pe_ix ix_list (pe_dget hu (pv 0) pe_str (fun _ _ => rfl)) (pv 3) (fun _ _ => rfl)) (pa_cons (pv 2) pa_nil))) (pa_cons (pe_op op_add pe_int (pv 2)) pa_nil))))
      (pss_one (ps_ret (pe_op op_mod (pe_op op_fdiv (pe_callTy call_int1 (by rfl) T.int (by decide +kernel) (pa_cons (pe_op op_add (pe_op op_mul (pv 5) pe_int) (pe_call G1 hr (by rfl) F1.g F1.F.kp F1.b .nil pass0 (pa_cons (pv 5) (pa_cons (pe_op op_add pe_int (pv 2)) pa_nil)))) pa_nil)) pe_int) (pv 1))))))))), ?_⟩
    obtain ⟨hd, ncl, cs, ls, hc, hl, hcl, c0, c64, hls⟩ := S
    have ndc : d ≠ c := ne_of hd hc (by intro z; cases z)
    have ndl : d ≠ l := ne_of hd hl (by intro z; cases z)
    refine ⟨_, rfl, d, _, rfl, (stD_at c l n) ▸ DGet.k (k := Sum.inr ("at" : Str)) hd, ?_⟩
    refine ⟨_, rfl, _, _, rfl, rfl, _, rfl, d, _, rfl, DPut.k (k := Sum.inr ("at" : Str)) hd (by show 4 < sizeLine; decide), ?_⟩
    rw [stD_put]
    have hd2 : (upd H d (.dK (stD c l ((n : Int) + 1)))) d = some (.dK (stD c l ((n + 1 : Nat) : Int))) := upd_same
    have hc2 : (upd H d (.dK (stD c l ((n : Int) + 1)))) c = some (.lst (cs.map V.int)) := by rw [upd_ne ndc.symm]; exact hc
    have hl2 : (upd H d (.dK (stD c l ((n : Int) + 1)))) l = some (.lst (ls.map V.int)) := by rw [upd_ne ndl.symm]; exact hl
    have fm2 : Fm d l H (upd H d (.dK (stD c l ((n : Int) + 1)))) := fun b o e nb _ => by rw [upd_ne nb]; exact e
    generalize upd H d (.dK (stD c l ((n : Int) + 1))) = H2 at *
    have el : ((n : Int) % ((cs.map V.int).length : Int)) = ((n % cs.length : Nat) : Int) := by
      rw [List.length_map]
      omega
    refine ⟨_, rfl, .inl ⟨_, rfl, _, rfl, d, _, rfl, (stD_cells c l _) ▸ DGet.k (k := Sum.inr ("cells" : Str)) hd2, c, _, rfl, .inl (SqL.of hc2), _, _, rfl, rfl, (by show (0 : Int) < ((cs.map V.int).length : Int); rw [List.length_map]; omega), ?_⟩⟩
    simp only [el]
    have hj : n % cs.length < cs.length := Nat.mod_lt _ c0
    generalize n % cs.length = j at *
    obtain ⟨y, hy⟩ : ∃ y, ls[j]? = some y := ⟨ls[j]'(by omega), by simp⟩
    obtain ⟨x, hx⟩ : ∃ x, cs[j]? = some x := ⟨cs[j]'(by omega), by simp⟩
    have y0 : 0 ≤ y := hls y (List.mem_of_getElem? hy)
    have hyv : atI (ls.map V.int) ((j : Nat) : Int) = some (.int y) := atI_nat (by rw [List.getElem?_map, hy]; rfl)
    have hxv : atI (cs.map V.int) ((j : Nat) : Int) = some (.int x) := atI_nat (by rw [List.getElem?_map, hx]; rfl)
    refine ⟨_, rfl, d, _, rfl, (stD_lefts c l _) ▸ DGet.k (k := Sum.inr ("lefts" : Str)) hd2, _, rfl, l, _, _, _, rfl, rfl, SqL.of hl2, hyv, ?_⟩
    refine ⟨_, rfl, _, _, rfl, rfl, _, rfl, ?_⟩
    by_cases hy1 : 0 < y
    · rw [decide_eq_true hy1]
      refine iteT ?_
      refine ⟨_, rfl, _, rfl, _, _, rfl, rfl, wide_div m0 m1 (by decide) (by decide), ?_⟩
      refine ⟨_, rfl, d, _, rfl, (stD_lefts c l _) ▸ DGet.k (k := Sum.inr ("lefts" : Str)) hd2, _, rfl, l, _, _, j, rfl, rfl, hl2, ?_, ?_⟩
      · rw [List.length_map]
        unfold ixN
        rw [if_pos (by omega), if_pos (by omega)]
        simp
      refine ⟨_, rfl, .inl ⟨_, rfl, _, rfl, _, _, rfl, rfl, m0, ?_⟩⟩
      refine k _ _ (Int.emod_nonneg _ (by omega)) (Int.emod_lt_of_pos _ m0) ⟨by rw [upd_ne ndl]; exact hd2, ncl, cs, ls.set j (y / m), by rw [upd_ne ncl]; exact hc2, ?_, by rw [List.length_set]; exact hcl, c0, c64, ?_⟩ ?_
      · rw [upd_same, List.map_set]
      · intro v hv
        rcases List.mem_or_eq_of_mem_set hv with q | q
        · exact hls v q
        · rw [q]; exact Int.ediv_nonneg y0 (by omega)
      · intro b o e n1 n2
        rw [upd_ne n2]
        exact fm2 b o e n1 n2
    · rw [decide_eq_false hy1]
      refine iteF ?_
      refine ⟨_, rfl, d, _, rfl, (stD_cells c l _) ▸ DGet.k (k := Sum.inr ("cells" : Str)) hd2, _, rfl, c, _, _, _, rfl, rfl, SqL.of hc2, hxv, _, rfl, x, n, rfl, by omega, by omega, fun r1 a0 a1 => ?_⟩
      refine ⟨_, rfl, _, _, rfl, rfl, _, _, rfl, by omega, by omega, fun r2 b0 b1 => ?_⟩
      refine ⟨_, rfl, _, _, rfl, rfl, .inl ⟨by omega, by omega⟩, _, rfl, _, rfl, _, _, rfl, rfl, _, _, rfl, by omega, by omega, fun r3 e0 e1 => ?_⟩
      refine ⟨_, _, rfl, rfl, .inl ⟨_, rfl, _, _, rfl, rfl, ⟨by decide, by decide⟩, _, rfl, _, _, rfl, rfl, m0, ?_⟩⟩
      exact k _ _ (Int.emod_nonneg _ (by omega)) (Int.emod_lt_of_pos _ m0) ⟨hd2, ncl, cs, ls, hc2, hl2, hcl, c0, c64, hls⟩ fm2
theorem scLawRatio : FnScope ["top", "bottom", "one", "other"] ["top", "bottom"] (defScope sLawRatio) := ⟨rfl, rfl, rfl, by decide +kernel, rfl, by decide +kernel, by decide +kernel⟩
theorem ok_law_ratio {f : Addr} {fd : FuncData} (F : Df K mg "_law_ratio" sLawRatio ["top", "bottom"] f fd) (T : Bt mg) : FnOk P w K mg base CX0 1 f fd ["top", "bottom"] spLowP := by
  refine F.F.ok scLawRatio (fun vs H Q E h => ?_) (fun cdv A outer s H vs Q E hr h => ?_)
  · obtain ⟨t, b, rfl, _⟩ := h
    rfl
  · obtain ⟨t, b, rfl, hb, h1, h2, k⟩ := h
    refine ⟨_, pss_cons (ps_par (i := 2) (j := 3) (by rfl) scLawRatio.nd rfl rfl (by decide) rfl rfl (pa_cons (pe_callB call_abs (by rfl) T.abs (by decide +kernel) (pa_cons (pv 0) pa_nil)) (pa_cons (pv 1) pa_nil)) (by rfl))
      (pss_cons (ps_while PassesOwn.never (pt_cmpR op_ne (pv 3) pe_int (nomark _)) (pss_one (ps_par (i := 2) (j := 3) (by rfl) scLawRatio.nd rfl rfl (by decide) rfl rfl (pa_cons (pv 3) (pa_cons (pe_op op_mod (pe_callTy call_int1 (by rfl) T.int (by decide +kernel) (pa_cons (pv 2) pa_nil)) (pv 3)) pa_nil)) (by rfl))))
      (pss_one (ps_ret (pe_tup (pa_cons (pe_op op_fdivX (pv 0) (pv 2)) (pa_cons (pe_op op_fdivX (pv 1) (pv 2)) pa_nil)))))), ?_⟩
    refine ⟨_, rfl, t, rfl, _, rfl, _, _, rfl, ?_⟩
    have ha : (if t < 0 then -t else t) = ((t.natAbs : Nat) : Int) := by split <;> omega
    refine while_by (fun σ H' => H' = H ∧ ∃ a c : Int, σ = [some (.int t), some (.int b), some (.int a), some (.int c)] ∧ 0 ≤ a ∧ 0 ≤ c ∧ Int.gcd a c = Int.gcd t b) (fun σ _ => match σ with | [_, _, _, some (.int c)] => c.natAbs | _ => 0) ?_ ?_ ?_
    · refine ⟨rfl, _, b, rfl, ?_, Int.le_of_lt hb, ?_⟩
      · rw [ha]; omega
      · rw [ha]
        show Nat.gcd ((t.natAbs : Nat) : Int).natAbs b.natAbs = Nat.gcd t.natAbs b.natAbs
        rw [Int.natAbs_natCast]
    · rintro σ H' ⟨rfl, a, c, rfl, a0, c0, e⟩
      refine ⟨_, rfl, rfl, _, rfl, ?_⟩
      by_cases hc : c = 0
      · subst hc
        refine iteNS rfl ?_
        have hg : a = cm t b := by
          have e2 : cm t b = (Int.gcd t b : Int) := if_neg (by omega)
          rw [e2, ← e, Int.gcd_zero_right]
          omega
        subst hg
        have hcn := cm_ne (t := t) (b := b) (by omega)
        have hz : (cm t b).natAbs.log2 < 9000 := by
          rw [cm_abs]
          have : Int.gcd t b ≤ b.natAbs := Nat.le_of_dvd (by omega) (Nat.gcd_dvd_right _ _)
          exact Nat.lt_of_lt_of_le (PySem.Flt.log2_lt_of (by decide) (Nat.lt_of_le_of_lt this h2)) (by decide)
        exact ⟨_, rfl, _, rfl, _, _, rfl, rfl, ⟨hcn, hz⟩, _, rfl, _, rfl, _, _, rfl, rfl, ⟨hcn, hz⟩, (by show 2 ≤ sizeLine; decide), fun p hp => k p hp⟩
      · rw [decide_eq_false (fun h => hc (by injection h))]
        refine iteT ?_
        have c1 : 0 < c := by omega
        refine ⟨_, rfl, _, rfl, .inl ⟨_, rfl, _, rfl, _, _, rfl, rfl, c1, _, _, rfl, ?_⟩⟩
        have m0 := Int.emod_nonneg a (by omega : c ≠ 0)
        have m1 := Int.emod_lt_of_pos a c1
        refine ⟨⟨rfl, c, a % c, rfl, c0, m0, ?_⟩, ?_⟩
        · rw [euclid_step a0 c1]; exact e
        · show (a % c).natAbs < c.natAbs
          omega
    · exact fun σ H' Q Q' i ⟨v, e, sc, kk, ek, q⟩ => ⟨v, e, sc, kk, ek, i _ _ q⟩
theorem scLawPlus : FnScope ["one", "other"] ["one", "other"] (defScope sLawPlus) := ⟨rfl, rfl, rfl, by decide +kernel, rfl, by decide +kernel, by decide +kernel⟩
theorem ok_law_plus {f fl : Addr} {fd fdl : FuncData} (F : Df K mg "_law_plus" sLawPlus ["one", "other"] f fd) (L : Df K mg "_law_ratio" sLawRatio ["top", "bottom"] fl fdl) (T : Bt mg) : FnOk P w K mg base CX0 2 f fd ["one", "other"] (spF2 K (fun _ _ => True) fadd) := by
  have G : FnOk P w K mg base CX0 1 fl fdl ["top", "bottom"] spLowP := ok_law_ratio L T
  refine F.F.ok scLawPlus (fun vs H Q E h => ?_) (fun cdv A outer s H vs Q E hr h => ?_)
  · obtain ⟨p, q, x, y, rfl, _⟩ := h
    rfl
  · obtain ⟨p, q, x, y, rfl, hp, hq, hx, hy, zx, zy, ok, k⟩ := h
    refine ⟨_, pss_one (ps_ret (pe_call G hr (by rfl) L.g L.F.kp L.b .nil pass0 (pa_cons (pe_op op_add (pe_op op_mulW (pe_fst 0) (pe_snd 1)) (pe_op op_mulW (pe_fst 1) (pe_snd 0))) (pa_cons (pe_op op_mulW (pe_snd 0) (pe_snd 1)) pa_nil)))), ?_⟩
    refine ⟨p, x, rfl, hp, q, y, rfl, hq, _, _, rfl, rfl, cmw zx.1 zy.2, q, y, rfl, hq, p, x, rfl, hp, _, _, rfl, rfl, cmw zy.1 zx.2, _, _, rfl, rfl, p, x, rfl, hp, q, y, rfl, hq, _, _, rfl, rfl, cmw zx.2 zy.2, _, _, rfl, dd0 hx hy, lt_up (abs_add_lt (abs_mul_lt zx.1 zy.2) (abs_mul_lt zy.1 zx.2)) (by decide), lt_up (abs_mul_lt zx.2 zy.2) (by decide), k⟩
theorem scLawLess : FnScope ["one", "other"] ["one", "other"] (defScope sLawLess) := ⟨rfl, rfl, rfl, by decide +kernel, rfl, by decide +kernel, by decide +kernel⟩
theorem ok_law_less {f fl : Addr} {fd fdl : FuncData} (F : Df K mg "_law_less" sLawLess ["one", "other"] f fd) (L : Df K mg "_law_ratio" sLawRatio ["top", "bottom"] fl fdl) (T : Bt mg) : FnOk P w K mg base CX0 2 f fd ["one", "other"] (spF2 K (fun _ _ => True) fsub) := by
  have G : FnOk P w K mg base CX0 1 fl fdl ["top", "bottom"] spLowP := ok_law_ratio L T
  refine F.F.ok scLawLess (fun vs H Q E h => ?_) (fun cdv A outer s H vs Q E hr h => ?_)
  · obtain ⟨p, q, x, y, rfl, _⟩ := h
    rfl
  · obtain ⟨p, q, x, y, rfl, hp, hq, hx, hy, zx, zy, ok, k⟩ := h
    refine ⟨_, pss_one (ps_ret (pe_call G hr (by rfl) L.g L.F.kp L.b .nil pass0 (pa_cons (pe_op op_sub (pe_op op_mulW (pe_fst 0) (pe_snd 1)) (pe_op op_mulW (pe_fst 1) (pe_snd 0))) (pa_cons (pe_op op_mulW (pe_snd 0) (pe_snd 1)) pa_nil)))), ?_⟩
    refine ⟨p, x, rfl, hp, q, y, rfl, hq, _, _, rfl, rfl, cmw zx.1 zy.2, q, y, rfl, hq, p, x, rfl, hp, _, _, rfl, rfl, cmw zy.1 zx.2, _, _, rfl, rfl, p, x, rfl, hp, q, y, rfl, hq, _, _, rfl, rfl, cmw zx.2 zy.2, _, _, rfl, dd0 hx hy, lt_up (abs_sub_lt (abs_mul_lt zx.1 zy.2) (abs_mul_lt zy.1 zx.2)) (by decide), lt_up (abs_mul_lt zx.2 zy.2) (by decide), k⟩
theorem scLawTimes : FnScope ["one", "other"] ["one", "other"] (defScope sLawTimes) := ⟨rfl, rfl, rfl, by decide +kernel, rfl, by decide +kernel, by decide +kernel⟩
theorem ok_law_times {f fl : Addr} {fd fdl : FuncData} (F : Df K mg "_law_times" sLawTimes ["one", "other"] f fd) (L : Df K mg "_law_ratio" sLawRatio ["top", "bottom"] fl fdl) (T : Bt mg) : FnOk P w K mg base CX0 2 f fd ["one", "other"] (spF2 K (fun _ _ => True) fmul) := by
  have G : FnOk P w K mg base CX0 1 fl fdl ["top", "bottom"] spLowP := ok_law_ratio L T
  refine F.F.ok scLawTimes (fun vs H Q E h => ?_) (fun cdv A outer s H vs Q E hr h => ?_)
  · obtain ⟨p, q, x, y, rfl, _⟩ := h
    rfl
  · obtain ⟨p, q, x, y, rfl, hp, hq, hx, hy, zx, zy, ok, k⟩ := h
    refine ⟨_, pss_one (ps_ret (pe_call G hr (by rfl) L.g L.F.kp L.b .nil pass0 (pa_cons (pe_op op_mulW (pe_fst 0) (pe_fst 1)) (pa_cons (pe_op op_mulW (pe_snd 0) (pe_snd 1)) pa_nil)))), ?_⟩
    refine ⟨p, x, rfl, hp, q, y, rfl, hq, _, _, rfl, rfl, cmw zx.1 zy.1, p, x, rfl, hp, q, y, rfl, hq, _, _, rfl, rfl, cmw zx.2 zy.2, _, _, rfl, dd0 hx hy, lt_up (abs_mul_lt zx.1 zy.1) (by decide), lt_up (abs_mul_lt zx.2 zy.2) (by decide), k⟩
theorem scLawUnder : FnScope ["one", "other"] ["one", "other"] (defScope sLawUnder) := ⟨rfl, rfl, rfl, by decide +kernel, rfl, by decide +kernel, by decide +kernel⟩
theorem ok_law_under {f : Addr} {fd : FuncData} (F : Df K mg "_law_under" sLawUnder ["one", "other"] f fd) (T : Bt mg) : FnOk P w K mg base CX0 1 f fd ["one", "other"] (spB2 K flt) := by
  refine F.F.ok scLawUnder (fun vs H Q E h => ?_) (fun cdv A outer s H vs Q E hr h => ?_)
  · obtain ⟨p, q, x, y, rfl, _⟩ := h
    rfl
  · obtain ⟨p, q, x, y, rfl, hp, hq, hx, hy, zx, zy, k⟩ := h
    refine ⟨_, pss_one (ps_ret (pe_cmpR op_lt (pe_op op_mulW (pe_fst 0) (pe_snd 1)) (pe_op op_mulW (pe_fst 1) (pe_snd 0)) (nomark _))), ?_⟩
    refine ⟨p, x, rfl, hp, q, y, rfl, hq, _, _, rfl, rfl, cmw zx.1 zy.2, q, y, rfl, hq, p, x, rfl, hp, _, _, rfl, rfl, cmw zy.1 zx.2, _, _, rfl, rfl, k⟩
end
end CS
set_option Elab.async false
set_option maxRecDepth 100000
set_option maxHeartbeats 8000000
set_option linter.unusedVariables false
namespace CS
open PySem L2
section
variable {P : Program} {w : World} {K : PySem.W.Frag} {mg : Str → Option Value} {base : Heap}
theorem scScaled : FnScope ["fraction", "by"] ["fraction", "by"] (defScope sScaled) := ⟨rfl, rfl, rfl, by decide +kernel, rfl, by decide +kernel, by decide +kernel⟩
theorem ok_scaled {f fl : Addr} {fd fdl : FuncData} (F : Df K mg "scaled" sScaled ["fraction", "by"] f fd) (L : Df K mg "lowered" sLowered ["top", "bottom"] fl fdl) (T : Bt mg) : FnOk P w K mg base CX0 2 f fd ["fraction", "by"] (spScaled K) := by
  have G : FnOk P w K mg base CX0 1 fl fdl ["top", "bottom"] spLow := ok_lowered L T
  refine F.F.ok scScaled (fun vs H Q E h => ?_) (fun cdv A outer s H vs Q E hr h => ?_)
  · obtain ⟨p, x, k, rfl, _⟩ := h
    rfl
  · obtain ⟨p, x, k, rfl, hp, hx, zx, hk, q⟩ := h
    have hk2 : k.natAbs < 2 ^ 1900 := lt_up hk (by decide)
    refine ⟨_, pss_one (ps_ret (pe_call G hr (by rfl) L.g L.F.kp L.b .nil pass0 (pa_cons (pe_op op_mulW (pe_fst 0) (pv 1)) (pa_cons (pe_snd 0) pa_nil)))), ?_⟩
    exact ⟨p, x, rfl, hp, _, rfl, _, _, rfl, rfl, cmw zx.1 hk2, p, x, rfl, hp, _, _, rfl, hx.ne, lt_up (abs_mul_lt zx.1 hk2) (by decide), lt_up zx.2 (by decide), q⟩
theorem scSumOf : FnScope ["fractions", "whole", "fraction"] ["fractions"] (defScope sSumOf) := ⟨rfl, rfl, rfl, by decide +kernel, rfl, by decide +kernel, by decide +kernel⟩
theorem ok_sum_of {f f1 aN : Addr} {fd fd1 : FuncData} (F : Df K mg "sum_of" sSumOf ["fractions"] f fd) (D1 : Df K mg "added" sAdded ["one", "other"] f1 fd1) (G1 : FnOk P w K mg base CX0 2 f1 fd1 ["one", "other"] (spF2 K (fun _ _ => True) fadd)) (gN : mg "NOUGHT" = some (.ref aN)) (hN : ∀ H, FT K H aN (0, 1)) : FnOk P w K mg base CX0 3 f fd ["fractions"] (spSum K) := by
  refine F.F.ok scSumOf (fun vs H Q E h => ?_) (fun cdv A outer s H vs Q E hr h => ?_)
  · obtain ⟨a, ws, xs, rfl, _⟩ := h
    rfl
  · obtain ⟨a, ws, xs, rfl, hS, hF, hx, hlen, k⟩ := h
    refine ⟨_, pss_cons (ps_set (i := 1) scSumOf.nd rfl (Or.inl rfl) (pe_glob (v := .ref aN) (by rfl) gN rfl))
      (pss_cons (ps_for PassesOwn.never rfl (pi_list (pv 0)) (pg_name (i := 2) scSumOf.nd rfl (Or.inl rfl)) (pss_one (ps_set (i := 1) scSumOf.nd rfl (Or.inl rfl) (pe_call G1 hr (by rfl) D1.g D1.F.kp D1.b .nil pass0 (pa_cons (pv 1) (pa_cons (pv 2) pa_nil))))))
      (pss_one (ps_ret (pv 1)))), ?_⟩
    refine ⟨_, rfl, a, rfl, ⟨_, hS⟩, for_list (K := K) (a := a) (xs := ws) (fun i σ H' => ∃ p v, σ = [some (.ref a), some (.ref p), v] ∧ Same H H' ∧ FT K H' p ((xs.take i).foldl fadd (0, 1))) ⟨aN, none, rfl, Same.refl H, hN H⟩ (fun i σ H' _ ⟨_, _, _, s, _⟩ => s.seq hS) ?_ ?_⟩
    · rintro i v σ H' hi ⟨p, u, rfl, s1, hp⟩
      obtain ⟨r, x, rfl, hxi, hr'⟩ := hF.get hi
      have hi2 : i < xs.length := (List.getElem?_eq_some_iff.mp hxi).1
      have hxm := hx x (List.mem_of_getElem? hxi)
      have hz : Sz 1900 ((xs.take i).foldl fadd (0, 1)) := by
        refine (fold_sz 100 (xs.take i) (0, 1) 1 fr01 (sz01 (by decide)) fun y hy => hx y (List.mem_of_mem_take hy)).up ?_
        rw [List.length_take]
        omega
      have hf : Fr ((xs.take i).foldl fadd (0, 1)) := fold_fr _ _ fr01 fun y hy => (hx y (List.mem_of_mem_take hy)).1
      refine ⟨_, rfl, _, rfl, p, r, _, x, rfl, hp, s1.tup hr', hf, hxm.1, hz, hxm.2.up (by decide), trivial, fun q hq => ?_⟩
      refine ⟨q, _, rfl, s1.trans (Same.new hq), ?_⟩
      rw [take_snoc hxi, List.foldl_append]
      exact FT.new
    · rintro σ H' ⟨p, u, rfl, s1, hp⟩
      rw [hF.len, List.take_length] at hp
      exact ⟨_, rfl, k _ _ s1 hp⟩
theorem scTotalOf : FnScope ["share", "_", "weight"] ["share"] (defScope sTotalOf) := ⟨rfl, rfl, rfl, by decide +kernel, rfl, by decide +kernel, by decide +kernel⟩
theorem ok_total_of {f f1 : Addr} {fd fd1 : FuncData} (F : Df K mg "total_of" sTotalOf ["share"] f fd) (D1 : Df K mg "sum_of" sSumOf ["fractions"] f1 fd1) (G1 : FnOk P w K mg base CX0 3 f1 fd1 ["fractions"] (spSum K)) : FnOk P w K mg base CX0 4 f fd ["share"] (spShF K ftot) := by
  refine F.F.ok scTotalOf (fun vs H Q E h => ?_) (fun cdv A outer s H vs Q E hr h => ?_)
  · obtain ⟨p, xs, rfl, _⟩ := h
    rfl
  · obtain ⟨p, xs, rfl, ⟨vs, hp, hP⟩, hx, hm, hlen, k⟩ := h
    refine ⟨_, pss_one (ps_ret (pe_call G1 hr (by rfl) D1.g D1.F.kp D1.b .nil pass0 (pa_cons (pe_lc (own := [("_", 1), ("weight", 2)]) (g := gTup K 2 (gCons (gName 1) (gCons (gName 2) gNil))) (tt := tYes) rfl scTotalOf.nd (pi_tup (pv 0)) (blkOk_by (N := ["share", "_", "weight"]) (sc := defScope sTotalOf) (by decide +kernel)) (fun _ _ _ _ _ => pg_tup rfl (pgs_cons (pg_name (i := 1) scTotalOf.nd rfl (Or.inl rfl)) (pgs_cons (pg_name (i := 2) scTotalOf.nd rfl (Or.inl rfl)) pgs_nil))) (fun _ _ _ _ _ => pts_nil) (fun _ _ _ _ _ => pv 2)) pa_nil))), ?_⟩
    refine ⟨_, rfl, p, rfl, ⟨_, hp⟩, fun D hD => lc_tup (K := K) (a := p) (xs := vs) (fun i H' => LcF K H D ((xs.take i).map (·.2)) H') (LcF.start hD) (fun i H' _ ⟨ws, _, s1, _⟩ => s1.tup hp) ?_ ?_⟩
    · rintro i v H' hi ⟨ws, h1, s1, hf⟩
      obtain ⟨q, r, m, x, rfl, hxi, hq, hr'⟩ := hP.get hi
      have hi2 : i < xs.length := (List.getElem?_eq_some_iff.mp hxi).1
      refine ⟨q, _, rfl, s1.tup hq, rfl, _, _, rfl, _, _, rfl, rfl, rfl, ?_⟩
      dsimp only [tYes]
      rw [if_pos rfl]
      refine ⟨_, rfl, ws, h1, small1000 ?_, ?_⟩
      · rw [hf.len, List.length_map, List.length_take]; omega
      · show LcF K H D _ _
        rw [take_snoc hxi, List.map_append]
        exact LcF.step hD h1 s1 hf (s1.tup hr')
    · rintro H' ⟨ws, h1, s1, hf⟩
      rw [hP.len, List.take_length] at hf
      refine ⟨D, ws, _, rfl, SqL.of h1, hf, ?_, by rw [List.length_map]; exact hlen, fun H2 r s2 hr2 => k _ _ (s1.trans s2) hr2⟩
      intro x hxm
      obtain ⟨a, ha, rfl⟩ := List.mem_map.mp hxm
      exact ⟨(hx a ha).1, (hx a ha).2.up (by decide)⟩
theorem scMomentOf : FnScope ["share", "number", "weight"] ["share"] (defScope sMomentOf) := ⟨rfl, rfl, rfl, by decide +kernel, rfl, by decide +kernel, by decide +kernel⟩
theorem ok_moment_of {f f1 f2 : Addr} {fd fd1 fd2 : FuncData} (F : Df K mg "moment_of" sMomentOf ["share"] f fd) (D1 : Df K mg "sum_of" sSumOf ["fractions"] f1 fd1) (G1 : FnOk P w K mg base CX0 3 f1 fd1 ["fractions"] (spSum K)) (D2 : Df K mg "scaled" sScaled ["fraction", "by"] f2 fd2) (G2 : FnOk P w K mg base CX0 2 f2 fd2 ["fraction", "by"] (spScaled K)) : FnOk P w K mg base CX0 4 f fd ["share"] (spShF K fmom) := by
  refine F.F.ok scMomentOf (fun vs H Q E h => ?_) (fun cdv A outer s H vs Q E hr h => ?_)
  · obtain ⟨p, xs, rfl, _⟩ := h
    rfl
  · obtain ⟨p, xs, rfl, ⟨vs, hp, hP⟩, hx, hm, hlen, k⟩ := h
    refine ⟨_, pss_one (ps_ret (pe_call G1 hr (by rfl) D1.g D1.F.kp D1.b .nil pass0 (pa_cons (pe_lc (own := [("number", 1), ("weight", 2)]) (g := gTup K 2 (gCons (gName 1) (gCons (gName 2) gNil))) (tt := tYes) rfl scMomentOf.nd (pi_tup (pv 0)) (blkOk_by (N := ["share", "number", "weight"]) (sc := defScope sMomentOf) (by decide +kernel)) (fun _ _ _ _ _ => pg_tup rfl (pgs_cons (pg_name (i := 1) scMomentOf.nd rfl (Or.inl rfl)) (pgs_cons (pg_name (i := 2) scMomentOf.nd rfl (Or.inl rfl)) pgs_nil))) (fun _ _ _ _ _ => pts_nil) (fun _ _ _ _ _ => pe_call G2 (hr.mono (by decide)) (by rfl) D2.g D2.F.kp D2.b .nil pass0 (pa_cons (pv 2) (pa_cons (pv 1) pa_nil)))) pa_nil))), ?_⟩
    refine ⟨_, rfl, p, rfl, ⟨_, hp⟩, fun D hD => lc_tup (K := K) (a := p) (xs := vs) (fun i H' => LcF K H D ((xs.take i).map fun a => scl a.2 a.1) H') (LcF.start hD) (fun i H' _ ⟨ws, _, s1, _⟩ => s1.tup hp) ?_ ?_⟩
    · rintro i v H' hi ⟨ws, h1, s1, hf⟩
      obtain ⟨q, r, m, x, rfl, hxi, hq, hr'⟩ := hP.get hi
      have hi2 : i < xs.length := (List.getElem?_eq_some_iff.mp hxi).1
      have hxm := hx _ (List.mem_of_getElem? hxi)
      have hmm := hm _ (List.mem_of_getElem? hxi)
      refine ⟨q, _, rfl, s1.tup hq, rfl, _, _, rfl, _, _, rfl, rfl, rfl, ?_⟩
      dsimp only [tYes]
      rw [if_pos rfl]
      refine ⟨_, rfl, _, rfl, r, x, m, rfl, s1.tup hr', hxm.1, hxm.2.up (by decide), by simp only at hmm; omega, fun t ht => ?_⟩
      have k1 := Same.new (o := .tup [.int (scl x m).1, .int (scl x m).2]) ht
      refine ⟨ws, k1 _ _ h1, small1000 ?_, ?_⟩
      · rw [hf.len, List.length_map, List.length_take]; omega
      · show LcF K H D _ _
        rw [take_snoc hxi, List.map_append]
        exact LcF.step hD (k1 _ _ h1) (s1.trans k1) (hf.tk (tk_same k1)) FT.new
    · rintro H' ⟨ws, h1, s1, hf⟩
      rw [hP.len, List.take_length] at hf
      refine ⟨D, ws, _, rfl, SqL.of h1, hf, ?_, by rw [List.length_map]; exact hlen, fun H2 r s2 hr2 => k _ _ (s1.trans s2) hr2⟩
      intro x hxm
      obtain ⟨a, ha, rfl⟩ := List.mem_map.mp hxm
      refine ⟨scl_fr (hx a ha).1 _, (scl_sz (m := 8) (hx a ha).1 (hx a ha).2 ?_).up (by decide)⟩
      have := hm a ha
      omega
theorem scRestOf : FnScope ["share", "mark", "number", "weight"] ["share", "mark"] (defScope sRestOf) := ⟨rfl, rfl, rfl, by decide +kernel, rfl, by decide +kernel, by decide +kernel⟩
theorem ok_rest_of {f f1 f2 : Addr} {fd fd1 fd2 : FuncData} (F : Df K mg "rest_of" sRestOf ["share", "mark"] f fd) (D1 : Df K mg "sum_of" sSumOf ["fractions"] f1 fd1) (G1 : FnOk P w K mg base CX0 3 f1 fd1 ["fractions"] (spSum K)) (D2 : Df K mg "scaled" sScaled ["fraction", "by"] f2 fd2) (G2 : FnOk P w K mg base CX0 2 f2 fd2 ["fraction", "by"] (spScaled K)) : FnOk P w K mg base CX0 4 f fd ["share", "mark"] (spShFk K frest) := by
  refine F.F.ok scRestOf (fun vs H Q E h => ?_) (fun cdv A outer s H vs Q E hr h => ?_)
  · obtain ⟨p, xs, n, rfl, _⟩ := h
    rfl
  · obtain ⟨p, xs, n, rfl, ⟨vs, hp, hP⟩, hx, hm, hn, hlen, k⟩ := h
    refine ⟨_, pss_one (ps_ret (pe_call G1 hr (by rfl) D1.g D1.F.kp D1.b .nil pass0 (pa_cons (pe_lc (own := [("number", 2), ("weight", 3)]) (g := gTup K 2 (gCons (gName 2) (gCons (gName 3) gNil))) (tt := _) rfl scRestOf.nd (pi_tup (pv 0)) (blkOk_by (N := ["share", "mark", "number", "weight"]) (sc := defScope sRestOf) (by decide +kernel)) (fun _ _ _ _ _ => pg_tup rfl (pgs_cons (pg_name (i := 2) scRestOf.nd rfl (Or.inl rfl)) (pgs_cons (pg_name (i := 3) scRestOf.nd rfl (Or.inl rfl)) pgs_nil))) (fun _ _ _ _ _ => pts_one (pt_cmpR op_gt (pv 2) (pv 1) (nomark _))) (fun _ _ _ _ _ => pe_call G2 (hr.mono (by decide)) (by rfl) D2.g D2.F.kp D2.b .nil pass0 (pa_cons (pv 3) (pa_cons (pe_op op_sub (pv 2) (pv 1)) pa_nil)))) pa_nil))), ?_⟩
    refine ⟨_, rfl, p, rfl, ⟨_, hp⟩, fun D hD => lc_tup (K := K) (a := p) (xs := vs) (fun i H' => LcF K H D (((xs.take i).filter fun a => decide (n < a.1)).map fun a => scl a.2 (a.1 - n)) H') (LcF.start hD) (fun i H' _ ⟨ws, _, s1, _⟩ => s1.tup hp) ?_ ?_⟩
    · rintro i v H' hi ⟨ws, h1, s1, hf⟩
      obtain ⟨q, r, m, x, rfl, hxi, hq, hr'⟩ := hP.get hi
      have hi2 : i < xs.length := (List.getElem?_eq_some_iff.mp hxi).1
      have hxm := hx _ (List.mem_of_getElem? hxi)
      have hmm := hm _ (List.mem_of_getElem? hxi)
      refine ⟨q, _, rfl, s1.tup hq, rfl, _, _, rfl, _, _, rfl, rfl, rfl, ?_⟩
      refine ⟨_, rfl, _, rfl, _, _, rfl, rfl, _, rfl, ?_⟩
      by_cases hc : n < m
      · dsimp only
        rw [if_pos (decide_eq_true hc)]
        refine ⟨_, rfl, _, rfl, _, rfl, _, _, rfl, rfl, r, x, m - n, rfl, s1.tup hr', hxm.1, hxm.2.up (by decide), by simp only at hmm; omega, fun t ht => ?_⟩
        have k1 := Same.new (o := .tup [.int (scl x (m - n)).1, .int (scl x (m - n)).2]) ht
        refine ⟨ws, k1 _ _ h1, small1000 ?_, ?_⟩
        · rw [hf.len, List.length_map]
          have := List.length_filter_le (fun a : Int × Fx => decide (n < a.1)) (xs.take i)
          rw [List.length_take] at this
          omega
        · show LcF K H D _ _
          rw [take_snoc hxi, List.filter_append, List.map_append, List.filter_cons_of_pos (by simpa using hc)]
          exact LcF.step hD (k1 _ _ h1) (s1.trans k1) (hf.tk (tk_same k1)) FT.new
      · dsimp only
        rw [if_neg (by rw [decide_eq_false hc]; exact Bool.false_ne_true)]
        show LcF K H D _ _
        rw [take_snoc hxi, List.filter_append, List.map_append, List.filter_cons_of_neg (by simpa using hc)]
        show LcF K H D (_ ++ []) _
        rw [List.append_nil]
        exact ⟨ws, h1, s1, hf⟩
    · rintro H' ⟨ws, h1, s1, hf⟩
      rw [hP.len, List.take_length] at hf
      refine ⟨D, ws, _, rfl, SqL.of h1, hf, ?_, ?_, fun H2 r s2 hr2 => k _ _ (s1.trans s2) hr2⟩
      · intro x hxm
        obtain ⟨a, ha, rfl⟩ := List.mem_map.mp hxm
        have ha2 := (List.mem_filter.mp ha).1
        refine ⟨scl_fr (hx a ha2).1 _, (scl_sz (m := 9) (hx a ha2).1 (hx a ha2).2 ?_).up (by decide)⟩
        have := hm a ha2
        omega
      · rw [List.length_map]
        exact Nat.le_trans (List.length_filter_le _ _) hlen
end
end CS
set_option Elab.async false
set_option maxRecDepth 100000
set_option maxHeartbeats 8000000
set_option linter.unusedVariables false
namespace CS
open PySem L2
section
variable {P : Program} {w : World} {K : PySem.W.Frag} {mg : Str → Option Value} {base : Heap}
theorem dget_or {H : Hp} {d aN : Addr} {kvs : List (Key × V)} {f : List (Int × Fx)} (hd : H d = some (.dK kvs)) (hD : DPr K H kvs f) (hN : FT K H aN (0, 1)) (k : Int) : ∃ (o : Option V) (r : Addr), DGet H d (.int k) o ∧ o.getD (.ref aN) = .ref r ∧ FT K H r (lk f k) := by
  by_cases hm : k ∈ f.map (·.1)
  · obtain ⟨r, h1, h2⟩ := hD.val k hm
    refine ⟨some (.ref r), r, ?_, rfl, h2⟩
    rw [← h1]
    exact DGet.k (k := Sum.inl k) hd
  · have h1 := hD.non k hm
    refine ⟨none, aN, ?_, rfl, ?_⟩
    · rw [← h1]
      exact DGet.k (k := Sum.inl k) hd
    · rw [lk_none hm]
      exact hN
def spGatT (K : PySem.W.Frag) : Sp := fun vs H Q _ => ∃ p ws xs, vs = [.ref p] ∧ SqT K H p ws ∧ PrsAt K H ws xs ∧ AllF 90 xs ∧ xs.length ≤ 16 ∧ ∀ H' r ys, Same H H' → ShAt K H' r ys → IsS (gat [] xs) ys → Q (.ref r) H'
def spGatL (K : PySem.W.Frag) : Sp := fun vs H Q _ => ∃ p ws xs, vs = [.ref p] ∧ SqL K H p ws ∧ PrsAt K H ws xs ∧ AllF 90 xs ∧ xs.length ≤ 16 ∧ ∀ H' r ys, Same H H' → ShAt K H' r ys → IsS (gat [] xs) ys → Q (.ref r) H'
theorem scGathered : FnScope ["pairs", "sums", "key", "fraction"] ["pairs"] (defScope sGathered) := ⟨rfl, rfl, rfl, by decide +kernel, rfl, by decide +kernel, by decide +kernel⟩
theorem ok_gatheredT {f f1 aN : Addr} {fd fd1 : FuncData} (F : Df K mg "gathered" sGathered ["pairs"] f fd) (D1 : Df K mg "added" sAdded ["one", "other"] f1 fd1) (G1 : FnOk P w K mg base CX0 2 f1 fd1 ["one", "other"] (spF2 K (fun _ _ => True) fadd)) (gN : mg "NOUGHT" = some (.ref aN)) (hN : ∀ H, FT K H aN (0, 1)) (T : Bt mg) : FnOk P w K mg base CX0 3 f fd ["pairs"] (spGatT K) := by
  refine F.F.ok scGathered (fun vs H Q E h => ?_) (fun cdv A outer s H vs Q E hr h => ?_)
  · obtain ⟨p, ws, xs, rfl, _⟩ := h
    rfl
  · obtain ⟨p, ws, xs, rfl, hp, hP, hx, hlen, k⟩ := h
    have hu := hu_of hr
    refine ⟨_, pss_cons (ps_set (i := 1) scGathered.nd rfl (Or.inr rfl) pe_dnewK)
      (pss_cons (ps_for PassesOwn.never rfl (pi_tup (pv 0)) (pg_tup rfl (pgs_cons (pg_name (i := 2) scGathered.nd rfl (Or.inl rfl)) (pgs_cons (pg_name (i := 3) scGathered.nd rfl (Or.inl rfl)) pgs_nil))) (pss_one (ps_dput hu (pv 1) (pv 2) (pe_call G1 hr (by rfl) D1.g D1.F.kp D1.b .nil pass0 (pa_cons (pe_dget2 hu (pv 1) (pv 2) (pe_glob (v := .ref aN) (by rfl) gN rfl) ⟨rfl, rfl, rfl, rfl⟩) (pa_cons (pv 3) pa_nil))) rfl)))
      (pss_one (ps_ret (pe_callTy call_tuple_of (by rfl) T.tuple (by decide +kernel) (pa_cons (pe_lc (own := [("key", 2)]) (g := gName 2) (tt := tTest (tOp (rNeD K) (tDGet (tVar 1) (tVar 2)) (tC (.ref aN)))) rfl scGathered.nd (pi_list (pe_callB (call_sortedDI rfl) (by rfl) T.sorted (by decide +kernel) (pa_cons (pv 1) pa_nil))) (blkOk_by (N := ["pairs", "sums", "key", "fraction"]) (sc := defScope sGathered) (by decide +kernel)) (fun _ _ _ _ _ => pg_name (i := 2) scGathered.nd rfl (Or.inl rfl)) (fun _ _ _ _ _ => pts_one (pt_cmpR (op_neD hr.units) (pe_dget hu (pv 1) (pv 2) (fun _ _ => rfl)) (pe_glob (v := .ref aN) (by rfl) gN rfl) (nomark _))) (fun _ _ _ _ _ => pe_tup (pa_cons (pv 2) (pa_cons (pe_dget hu (pv 1) (pv 2) (fun _ _ => rfl)) pa_nil)))) pa_nil))))), ?_⟩
    intro d hd
    have s0 : Same H (upd H d (.dK [])) := Same.new hd
    refine ⟨_, rfl, p, rfl, ⟨_, (fun s1 : Same H _ => s1.tup hp) s0⟩, for_tup (K := K) (a := p) (xs := ws) (fun i σ H' => ∃ u v kvs, σ = [some (.ref p), some (.ref d), u, v] ∧ Same H H' ∧ H' d = some (.dK kvs) ∧ DPr K H' kvs (gat [] (xs.take i))) ⟨none, none, [], rfl, s0, upd_same, .nil⟩ (fun i σ H' _ ⟨_, _, _, _, s1, _⟩ => s1.tup hp) ?_ ?_⟩
    · rintro i v σ H' hi ⟨u1, u2, kvs, rfl, s1, hdk, hD⟩
      obtain ⟨q, r, m, x, rfl, hxi, hq, hr'⟩ := hP.get hi
      have hi2 : i < xs.length := (List.getElem?_eq_some_iff.mp hxi).1
      have hxm := hx _ (List.mem_of_getElem? hxi)
      refine ⟨q, _, rfl, s1.tup hq, rfl, _, _, rfl, _, _, rfl, rfl, ?_⟩
      obtain ⟨o, a, g1, g2, g3⟩ := dget_or hdk hD (hN H') m
      have hz : Sz 1900 (lk (gat [] (xs.take i)) m) := by
        refine (gat_sz (n := 90) hx.take m).up ?_
        rw [List.length_take]
        omega
      refine ⟨_, rfl, d, rfl, .inl ⟨kvs, .inl hdk⟩, _, rfl, o, g1, ?_⟩
      rw [g2]
      refine ⟨_, rfl, a, r, _, x, rfl, g3, s1.tup hr', gat_fr (n := 90) hx.take m, hxm.1, hz, hxm.2.up (by decide), trivial, fun t ht => ?_⟩
      have k1 := Same.new (o := .tup [.int (fadd (lk (gat [] (xs.take i)) m) x).1, .int (fadd (lk (gat [] (xs.take i)) m) x).2]) ht
      have hl : kvs.length < sizeLine := by
        refine small1000 ?_
        rw [hD.len]
        have := gat_len (xs.take i) []
        rw [List.length_take, List.length_nil] at this
        omega
      refine ⟨_, rfl, _, rfl, d, _, rfl, DPut.k (k := Sum.inl m) (k1 _ _ hdk) hl, ?_⟩
      refine ⟨_, _, _, rfl, same_upd hd (s1.trans k1), upd_same, ?_⟩
      rw [take_snoc hxi, gat_snoc]
      have hn := gat_nodup (xs.take i) [] List.nodup_nil
      exact ((hD.tk (tk_same k1)).put hn FT.new).tk (tk_dk (k1 _ _ hdk))
    · rintro σ H1 ⟨u1, u2, kvs, rfl, s1, hdk, hD⟩
      rw [hP.len, List.take_length] at hD
      have hn := gat_nodup xs [] List.nodup_nil
      have hl : ((gat [] xs).map (·.1)).length < 64 := by
        have := gat_len xs []
        rw [List.length_nil] at this
        rw [List.length_map]
        omega
      refine ⟨_, rfl, d, kvs, (gat [] xs).map (·.1), rfl, .inl hdk, hD.keys, hl, fun ys t perm srt ht => ?_⟩
      have k1 := Same.new (o := .lst (ys.map V.int)) ht
      have hlen2 : ys.length ≤ 16 := by
        rw [perm.length_eq, List.length_map]
        have := gat_len xs []
        rw [List.length_nil] at this
        omega
      have hT : (upd H1 t (.lst (ys.map V.int))) t = some (.lst (ys.map V.int)) := upd_same
      have hD2 := hD.tk (tk_same k1)
      have hdk2 := k1 _ _ hdk
      have s2 := s1.trans k1
      generalize upd H1 t (.lst (ys.map V.int)) = H2 at *
      refine ⟨t, rfl, ⟨_, SqL.of hT⟩, fun D hDn => lc_list (K := K) (a := t) (xs := ys.map V.int) (fun i H' => LcP K H2 D ((((ys.take i).filter fun k => decide (lk (gat [] xs) k ≠ (0, 1))).map fun k => (k, lk (gat [] xs) k))) H') (LcP.start hDn) (fun i H' _ ⟨_, _, s3, _⟩ => SqL.of (s3 _ _ hT)) ?_ ?_⟩
      · rintro i v H' hi ⟨us, h1, s3, hf⟩
        rw [List.getElem?_map] at hi
        obtain ⟨m, hmi, rfl⟩ : ∃ m, ys[i]? = some m ∧ v = V.int m := by
          cases e : ys[i]? with
          | none => rw [e] at hi; cases hi
          | some z => rw [e] at hi; exact ⟨z, rfl, (Option.some.inj hi).symm⟩
        have hmem : m ∈ (gat [] xs).map (·.1) := perm.mem_iff.mp (List.mem_of_getElem? hmi)
        obtain ⟨r, g1, g2⟩ := (hD2.tk (tk_same s3)).val m hmem
        have hg : DGet H' d (.int m) (some (.ref r)) := by
          rw [← g1]
          exact DGet.k (k := Sum.inl m) (s3 _ _ hdk2)
        refine ⟨rfl, ?_⟩
        refine ⟨_, rfl, _, rfl, d, _, rfl, hg, ?_⟩
        refine ⟨frD (lk (gat [] xs) m), frD (0, 1), ftDp g2, ftDp (hN _), rfl, rfl, _, rfl, ?_⟩
        dsimp only
        rw [eqvFr]
        have hsz : us.length ≤ 1000 := by
          rw [hf.len, List.length_map]
          have := List.length_filter_le (fun k => decide (lk (gat [] xs) k ≠ (0, 1))) (ys.take i)
          rw [List.length_take] at this
          omega
        by_cases hc : lk (gat [] xs) m = (0, 1)
        · rw [if_neg (by simp [hc])]
          show LcP K H2 D _ _
          rw [take_snoc hmi, List.filter_append, List.map_append, List.filter_cons_of_neg (by simp [hc])]
          show LcP K H2 D (_ ++ []) _
          rw [List.append_nil]
          exact ⟨us, h1, s3, hf⟩
        · rw [if_pos (by simp [hc])]
          refine ⟨_, rfl, _, rfl, _, rfl, d, _, rfl, hg, (by show 2 ≤ sizeLine; decide), fun t2 ht2 => ?_⟩
          have k2 := Same.new (o := .tup [V.int m, .ref r]) ht2
          refine ⟨us, k2 _ _ h1, small1000 hsz, ?_⟩
          show LcP K H2 D _ _
          rw [take_snoc hmi, List.filter_append, List.map_append, List.filter_cons_of_pos (by simp [hc])]
          exact LcP.step hDn (k2 _ _ h1) (s3.trans k2) (hf.tk (tk_same k2)) (SqT.of upd_same) (k2.tup g2)
      · rintro H' ⟨us, h1, s3, hf⟩
        rw [List.length_map, List.take_length] at hf
        refine ⟨D, us, rfl, .inl ⟨SqL.of h1, fun l hl => ?_⟩⟩
        have k3 := Same.new (o := .tup us) hl
        exact k _ l _ (s2.trans (s3.trans k3)) ⟨us, SqT.of upd_same, hf.tk (tk_same k3)⟩ (isS_of perm hn srt)
theorem ok_gatheredL {f f1 aN : Addr} {fd fd1 : FuncData} (F : Df K mg "gathered" sGathered ["pairs"] f fd) (D1 : Df K mg "added" sAdded ["one", "other"] f1 fd1) (G1 : FnOk P w K mg base CX0 2 f1 fd1 ["one", "other"] (spF2 K (fun _ _ => True) fadd)) (gN : mg "NOUGHT" = some (.ref aN)) (hN : ∀ H, FT K H aN (0, 1)) (T : Bt mg) : FnOk P w K mg base CX0 3 f fd ["pairs"] (spGatL K) := by
  refine F.F.ok scGathered (fun vs H Q E h => ?_) (fun cdv A outer s H vs Q E hr h => ?_)
  · obtain ⟨p, ws, xs, rfl, _⟩ := h
    rfl
  · obtain ⟨p, ws, xs, rfl, hp, hP, hx, hlen, k⟩ := h
    have hu := hu_of hr
    refine ⟨_, pss_cons (ps_set (i := 1) scGathered.nd rfl (Or.inr rfl) pe_dnewK)
      (pss_cons (ps_for PassesOwn.never rfl (pi_list (pv 0)) (pg_tup rfl (pgs_cons (pg_name (i := 2) scGathered.nd rfl (Or.inl rfl)) (pgs_cons (pg_name (i := 3) scGathered.nd rfl (Or.inl rfl)) pgs_nil))) (pss_one (ps_dput hu (pv 1) (pv 2) (pe_call G1 hr (by rfl) D1.g D1.F.kp D1.b .nil pass0 (pa_cons (pe_dget2 hu (pv 1) (pv 2) (pe_glob (v := .ref aN) (by rfl) gN rfl) ⟨rfl, rfl, rfl, rfl⟩) (pa_cons (pv 3) pa_nil))) rfl)))
      (pss_one (ps_ret (pe_callTy call_tuple_of (by rfl) T.tuple (by decide +kernel) (pa_cons (pe_lc (own := [("key", 2)]) (g := gName 2) (tt := tTest (tOp (rNeD K) (tDGet (tVar 1) (tVar 2)) (tC (.ref aN)))) rfl scGathered.nd (pi_list (pe_callB (call_sortedDI rfl) (by rfl) T.sorted (by decide +kernel) (pa_cons (pv 1) pa_nil))) (blkOk_by (N := ["pairs", "sums", "key", "fraction"]) (sc := defScope sGathered) (by decide +kernel)) (fun _ _ _ _ _ => pg_name (i := 2) scGathered.nd rfl (Or.inl rfl)) (fun _ _ _ _ _ => pts_one (pt_cmpR (op_neD hr.units) (pe_dget hu (pv 1) (pv 2) (fun _ _ => rfl)) (pe_glob (v := .ref aN) (by rfl) gN rfl) (nomark _))) (fun _ _ _ _ _ => pe_tup (pa_cons (pv 2) (pa_cons (pe_dget hu (pv 1) (pv 2) (fun _ _ => rfl)) pa_nil)))) pa_nil))))), ?_⟩
    intro d hd
    have s0 : Same H (upd H d (.dK [])) := Same.new hd
    refine ⟨_, rfl, p, rfl, ⟨_, (fun s1 : Same H _ => s1.seq hp) s0⟩, for_list (K := K) (a := p) (xs := ws) (fun i σ H' => ∃ u v kvs, σ = [some (.ref p), some (.ref d), u, v] ∧ Same H H' ∧ H' d = some (.dK kvs) ∧ DPr K H' kvs (gat [] (xs.take i))) ⟨none, none, [], rfl, s0, upd_same, .nil⟩ (fun i σ H' _ ⟨_, _, _, _, s1, _⟩ => s1.seq hp) ?_ ?_⟩
    · rintro i v σ H' hi ⟨u1, u2, kvs, rfl, s1, hdk, hD⟩
      obtain ⟨q, r, m, x, rfl, hxi, hq, hr'⟩ := hP.get hi
      have hi2 : i < xs.length := (List.getElem?_eq_some_iff.mp hxi).1
      have hxm := hx _ (List.mem_of_getElem? hxi)
      refine ⟨q, _, rfl, s1.tup hq, rfl, _, _, rfl, _, _, rfl, rfl, ?_⟩
      obtain ⟨o, a, g1, g2, g3⟩ := dget_or hdk hD (hN H') m
      have hz : Sz 1900 (lk (gat [] (xs.take i)) m) := by
        refine (gat_sz (n := 90) hx.take m).up ?_
        rw [List.length_take]
        omega
      refine ⟨_, rfl, d, rfl, .inl ⟨kvs, .inl hdk⟩, _, rfl, o, g1, ?_⟩
      rw [g2]
      refine ⟨_, rfl, a, r, _, x, rfl, g3, s1.tup hr', gat_fr (n := 90) hx.take m, hxm.1, hz, hxm.2.up (by decide), trivial, fun t ht => ?_⟩
      have k1 := Same.new (o := .tup [.int (fadd (lk (gat [] (xs.take i)) m) x).1, .int (fadd (lk (gat [] (xs.take i)) m) x).2]) ht
      have hl : kvs.length < sizeLine := by
        refine small1000 ?_
        rw [hD.len]
        have := gat_len (xs.take i) []
        rw [List.length_take, List.length_nil] at this
        omega
      refine ⟨_, rfl, _, rfl, d, _, rfl, DPut.k (k := Sum.inl m) (k1 _ _ hdk) hl, ?_⟩
      refine ⟨_, _, _, rfl, same_upd hd (s1.trans k1), upd_same, ?_⟩
      rw [take_snoc hxi, gat_snoc]
      have hn := gat_nodup (xs.take i) [] List.nodup_nil
      exact ((hD.tk (tk_same k1)).put hn FT.new).tk (tk_dk (k1 _ _ hdk))
    · rintro σ H1 ⟨u1, u2, kvs, rfl, s1, hdk, hD⟩
      rw [hP.len, List.take_length] at hD
      have hn := gat_nodup xs [] List.nodup_nil
      have hl : ((gat [] xs).map (·.1)).length < 64 := by
        have := gat_len xs []
        rw [List.length_nil] at this
        rw [List.length_map]
        omega
      refine ⟨_, rfl, d, kvs, (gat [] xs).map (·.1), rfl, .inl hdk, hD.keys, hl, fun ys t perm srt ht => ?_⟩
      have k1 := Same.new (o := .lst (ys.map V.int)) ht
      have hlen2 : ys.length ≤ 16 := by
        rw [perm.length_eq, List.length_map]
        have := gat_len xs []
        rw [List.length_nil] at this
        omega
      have hT : (upd H1 t (.lst (ys.map V.int))) t = some (.lst (ys.map V.int)) := upd_same
      have hD2 := hD.tk (tk_same k1)
      have hdk2 := k1 _ _ hdk
      have s2 := s1.trans k1
      generalize upd H1 t (.lst (ys.map V.int)) = H2 at *
      refine ⟨t, rfl, ⟨_, SqL.of hT⟩, fun D hDn => lc_list (K := K) (a := t) (xs := ys.map V.int) (fun i H' => LcP K H2 D ((((ys.take i).filter fun k => decide (lk (gat [] xs) k ≠ (0, 1))).map fun k => (k, lk (gat [] xs) k))) H') (LcP.start hDn) (fun i H' _ ⟨_, _, s3, _⟩ => SqL.of (s3 _ _ hT)) ?_ ?_⟩
      · rintro i v H' hi ⟨us, h1, s3, hf⟩
        rw [List.getElem?_map] at hi
        obtain ⟨m, hmi, rfl⟩ : ∃ m, ys[i]? = some m ∧ v = V.int m := by
          cases e : ys[i]? with
          | none => rw [e] at hi; cases hi
          | some z => rw [e] at hi; exact ⟨z, rfl, (Option.some.inj hi).symm⟩
        have hmem : m ∈ (gat [] xs).map (·.1) := perm.mem_iff.mp (List.mem_of_getElem? hmi)
        obtain ⟨r, g1, g2⟩ := (hD2.tk (tk_same s3)).val m hmem
        have hg : DGet H' d (.int m) (some (.ref r)) := by
          rw [← g1]
          exact DGet.k (k := Sum.inl m) (s3 _ _ hdk2)
        refine ⟨rfl, ?_⟩
        refine ⟨_, rfl, _, rfl, d, _, rfl, hg, ?_⟩
        refine ⟨frD (lk (gat [] xs) m), frD (0, 1), ftDp g2, ftDp (hN _), rfl, rfl, _, rfl, ?_⟩
        dsimp only
        rw [eqvFr]
        have hsz : us.length ≤ 1000 := by
          rw [hf.len, List.length_map]
          have := List.length_filter_le (fun k => decide (lk (gat [] xs) k ≠ (0, 1))) (ys.take i)
          rw [List.length_take] at this
          omega
        by_cases hc : lk (gat [] xs) m = (0, 1)
        · rw [if_neg (by simp [hc])]
          show LcP K H2 D _ _
          rw [take_snoc hmi, List.filter_append, List.map_append, List.filter_cons_of_neg (by simp [hc])]
          show LcP K H2 D (_ ++ []) _
          rw [List.append_nil]
          exact ⟨us, h1, s3, hf⟩
        · rw [if_pos (by simp [hc])]
          refine ⟨_, rfl, _, rfl, _, rfl, d, _, rfl, hg, (by show 2 ≤ sizeLine; decide), fun t2 ht2 => ?_⟩
          have k2 := Same.new (o := .tup [V.int m, .ref r]) ht2
          refine ⟨us, k2 _ _ h1, small1000 hsz, ?_⟩
          show LcP K H2 D _ _
          rw [take_snoc hmi, List.filter_append, List.map_append, List.filter_cons_of_pos (by simp [hc])]
          exact LcP.step hDn (k2 _ _ h1) (s3.trans k2) (hf.tk (tk_same k2)) (SqT.of upd_same) (k2.tup g2)
      · rintro H' ⟨us, h1, s3, hf⟩
        rw [List.length_map, List.take_length] at hf
        refine ⟨D, us, rfl, .inl ⟨SqL.of h1, fun l hl => ?_⟩⟩
        have k3 := Same.new (o := .tup us) hl
        exact k _ l _ (s2.trans (s3.trans k3)) ⟨us, SqT.of upd_same, hf.tk (tk_same k3)⟩ (isS_of perm hn srt)
end
end CS
set_option Elab.async false
set_option maxRecDepth 100000
set_option maxHeartbeats 8000000
set_option linter.unusedVariables false
namespace CS
open PySem L2
section
variable {P : Program} {w : World} {K : PySem.W.Frag} {mg : Str → Option Value} {base : Heap}
def GoodP (a : Int × Fx) : Prop := -100 ≤ a.1 ∧ a.1 ≤ 100 ∧ Fr a.2 ∧ 0 < a.2.1
instance (a : Int × Fx) : Decidable (GoodP a) := by unfold GoodP; infer_instance
def spWW : Sp := fun vs H Q _ => ∃ i l m : Int, vs = [.int i, .int l, .int m] ∧ Q (.bl (decide (l ≤ i ∧ i ≤ m))) H
def spNum : Sp := fun vs H Q _ => ∃ i : Int, vs = [.int i] ∧ Q (.bl (decide (-100 ≤ i ∧ i ≤ 100))) H
def spWt (K : PySem.W.Frag) : Sp := fun vs H Q _ => ∃ p x, vs = [.ref p] ∧ FT K H p x ∧ Q (.bl (decide (Fr x ∧ 0 < x.1))) H
def spShP (K : PySem.W.Frag) : Sp := fun vs H Q _ => ∃ q r m x, vs = [.ref q] ∧ SqT K H q [.int m, .ref r] ∧ FT K H r x ∧ Q (.bl (decide (GoodP (m, x)))) H
def spAsc (K : PySem.W.Frag) : Sp := fun vs H Q _ => ∃ (a : Addr) (ns : List Int), vs = [.ref a] ∧ SqL K H a (ns.map V.int) ∧ ns.length ≤ 900 ∧ ∀ H', Same H H' → Q (.bl (decide (ns.Pairwise (· < ·)))) H'
def spIsSh (K : PySem.W.Frag) : Sp := fun vs H Q _ => ∃ p xs, vs = [.ref p] ∧ ShAt K H p xs ∧ xs.length ≤ 900 ∧ ∀ H', Same H H' → Q (.bl (decide (Shr xs))) H'
def spNeedSh (K : PySem.W.Frag) : Sp := fun vs H Q _ => ∃ p xs, vs = [.ref p] ∧ ShAt K H p xs ∧ Shr xs ∧ ∀ H', Same H H' → Q (.ref p) H'
def spNeedNum : Sp := fun vs H Q _ => ∃ i : Int, vs = [.int i] ∧ -100 ≤ i ∧ i ≤ 100 ∧ Q (.int i) H
def spTot (K : PySem.W.Frag) (f : List (Int × Fx) → Fx) : Sp := fun vs H Q _ => ∃ p xs, vs = [.ref p] ∧ ShAt K H p xs ∧ Shr xs ∧ AllF 90 xs ∧ ∀ H' r, Same H H' → FT K H' r (f xs) → Q (.ref r) H'
def spRest (K : PySem.W.Frag) : Sp := fun vs H Q _ => ∃ p xs k, vs = [.ref p, .int k] ∧ ShAt K H p xs ∧ Shr xs ∧ AllF 90 xs ∧ -100 ≤ k ∧ k ≤ 100 ∧ ∀ H' r, Same H H' → FT K H' r (frest xs k) → Q (.ref r) H'
theorem Shr.abs {xs : List (Int × Fx)} (h : Shr xs) : ∀ a ∈ xs, a.1.natAbs ≤ 200 := fun a ha => by
  have := h.2.1 a ha
  omega
theorem Shr.len {xs : List (Int × Fx)} (h : Shr xs) : xs.length ≤ 16 := by have := h.1; omega
theorem scIsWholeWithin : FnScope ["thing", "least", "most"] ["thing", "least", "most"] (defScope sIsWholeWithin) := ⟨rfl, rfl, rfl, by decide +kernel, rfl, by decide +kernel, by decide +kernel⟩
theorem ok_is_whole_within {f f1 : Addr} {fd fd1 : FuncData} (F : Df K mg "is_whole_within" sIsWholeWithin ["thing", "least", "most"] f fd) (D1 : Df K mg "is_whole" sIsWhole ["thing"] f1 fd1) (T : Bt mg) : FnOk P w K mg base CX0 2 f fd ["thing", "least", "most"] spWW := by
  have G1 : FnOk P w K mg base CX0 1 f1 fd1 ["thing"] (spWhole K) := ok_is_whole D1 T
  refine F.F.ok scIsWholeWithin (fun vs H Q E h => ?_) (fun cdv A outer s H vs Q E hr h => ?_)
  · obtain ⟨i, l, m, rfl, _⟩ := h
    rfl
  · obtain ⟨i, l, m, rfl, k⟩ := h
    refine ⟨_, pss_one (ps_ret (pe_and (pe_call G1 hr (by rfl) D1.g D1.F.kp D1.b .nil pass0 (pa_cons (pv 0) pa_nil)) (pe_and (pe_cmpR op_le (pv 1) (pv 0) (nomark _)) (pe_one (pe_cmpR op_le (pv 0) (pv 2) (nomark _)))))), ?_⟩
    refine ⟨_, rfl, _, rfl, _, rfl, iteT ?_⟩
    refine ⟨_, rfl, _, rfl, _, _, rfl, rfl, _, rfl, ?_⟩
    by_cases h1 : l ≤ i
    · rw [decide_eq_true h1]
      refine iteT ⟨_, rfl, _, rfl, _, _, rfl, rfl, ?_⟩
      have e : decide (i ≤ m) = decide (l ≤ i ∧ i ≤ m) := by simp [h1]
      rw [← e] at k
      exact k
    · rw [decide_eq_false h1]
      refine iteF ?_
      rw [decide_eq_false (fun h => h1 h.1)] at k
      exact k
theorem scIsNumber : FnScope ["thing"] ["thing"] (defScope sIsNumber) := ⟨rfl, rfl, rfl, by decide +kernel, rfl, by decide +kernel, by decide +kernel⟩
theorem ok_is_number {f f1 : Addr} {fd fd1 : FuncData} (F : Df K mg "is_number" sIsNumber ["thing"] f fd) (D1 : Df K mg "is_whole_within" sIsWholeWithin ["thing", "least", "most"] f1 fd1) (G1 : FnOk P w K mg base CX0 2 f1 fd1 ["thing", "least", "most"] spWW) : FnOk P w K mg base CX0 3 f fd ["thing"] spNum := by
  refine F.F.ok scIsNumber (fun vs H Q E h => ?_) (fun cdv A outer s H vs Q E hr h => ?_)
  · obtain ⟨i, rfl, _⟩ := h
    rfl
  · obtain ⟨i, rfl, k⟩ := h
    refine ⟨_, pss_one (ps_ret (pe_call G1 hr (by rfl) D1.g D1.F.kp D1.b .nil pass0 (pa_cons (pv 0) (pa_cons (pe_un un_neg pe_int) (pa_cons (pe_int) pa_nil))))), ?_⟩
    exact ⟨_, rfl, _, rfl, i, _, _, rfl, k⟩
theorem scIsWeight : FnScope ["thing"] ["thing"] (defScope sIsWeight) := ⟨rfl, rfl, rfl, by decide +kernel, rfl, by decide +kernel, by decide +kernel⟩
theorem ok_is_weight {f f1 : Addr} {fd fd1 : FuncData} (F : Df K mg "is_weight" sIsWeight ["thing"] f fd) (D1 : Df K mg "is_fraction" sIsFraction ["thing"] f1 fd1) (G1 : FnOk P w K mg base CX0 3 f1 fd1 ["thing"] (spIsFr K)) : FnOk P w K mg base CX0 4 f fd ["thing"] (spWt K) := by
  refine F.F.ok scIsWeight (fun vs H Q E h => ?_) (fun cdv A outer s H vs Q E hr h => ?_)
  · obtain ⟨p, x, rfl, _⟩ := h
    rfl
  · obtain ⟨p, x, rfl, hp, k⟩ := h
    refine ⟨_, pss_one (ps_ret (pe_and (pe_call G1 hr (by rfl) D1.g D1.F.kp D1.b .nil pass0 (pa_cons (pv 0) pa_nil)) (pe_one (pe_cmpR op_gt (pe_fst 0) pe_int (nomark _))))), ?_⟩
    refine ⟨_, rfl, p, x, rfl, hp, _, rfl, ?_⟩
    by_cases h1 : Fr x
    · rw [decide_eq_true h1]
      refine iteT ⟨p, x, rfl, hp, _, _, rfl, rfl, ?_⟩
      have e : decide (0 < x.1) = decide (Fr x ∧ 0 < x.1) := by simp [h1]
      rw [← e] at k
      exact k
    · rw [decide_eq_false h1]
      refine iteF ?_
      rw [decide_eq_false (fun h => h1 h.1)] at k
      exact k
theorem scIsSharePair : FnScope ["thing"] ["thing"] (defScope sIsSharePair) := ⟨rfl, rfl, rfl, by decide +kernel, rfl, by decide +kernel, by decide +kernel⟩
theorem ok_is_share_pair {f f1 f2 f3 : Addr} {fd fd1 fd2 fd3 : FuncData} (F : Df K mg "is_share_pair" sIsSharePair ["thing"] f fd) (D1 : Df K mg "is_row_of" sIsRowOf ["thing", "many"] f1 fd1) (G1 : FnOk P w K mg base CX0 2 f1 fd1 ["thing", "many"] (spRowOf K)) (D2 : Df K mg "is_number" sIsNumber ["thing"] f2 fd2) (G2 : FnOk P w K mg base CX0 3 f2 fd2 ["thing"] spNum)
    (D3 : Df K mg "is_weight" sIsWeight ["thing"] f3 fd3) (G3 : FnOk P w K mg base CX0 4 f3 fd3 ["thing"] (spWt K)) : FnOk P w K mg base CX0 5 f fd ["thing"] (spShP K) := by
  refine F.F.ok scIsSharePair (fun vs H Q E h => ?_) (fun cdv A outer s H vs Q E hr h => ?_)
  · obtain ⟨q, r, m, x, rfl, _⟩ := h
    rfl
  · obtain ⟨q, r, m, x, rfl, hq, hr2, k⟩ := h
    refine ⟨_, pss_one (ps_ret (pe_and (pe_call G1 (hr.mono (by decide)) (by rfl) D1.g D1.F.kp D1.b .nil pass0 (pa_cons (pv 0) (pa_cons (pe_int) pa_nil))) (pe_and (pe_call G2 (hr.mono (by decide)) (by rfl) D2.g D2.F.kp D2.b .nil pass0 (pa_cons (pe_ix ix_tup (pv 0) pe_int (fun _ _ => rfl)) pa_nil)) (pe_one (pe_call G3 hr (by rfl) D3.g D3.F.kp D3.b .nil pass0 (pa_cons (pe_ix ix_tup (pv 0) pe_int (fun _ _ => rfl)) pa_nil)))))), ?_⟩
    refine ⟨_, rfl, q, _, 2, rfl, hq, _, rfl, iteT ?_⟩
    refine ⟨_, rfl, q, _, 0, .int m, rfl, rfl, hq, atI_nat (j := 0) rfl, m, rfl, _, rfl, ?_⟩
    by_cases h1 : -100 ≤ m ∧ m ≤ 100
    · rw [decide_eq_true h1]
      refine iteT ⟨_, rfl, q, _, 1, .ref r, rfl, rfl, hq, atI_nat (j := 1) rfl, r, x, rfl, hr2, ?_⟩
      have e : decide (Fr x ∧ 0 < x.1) = decide (GoodP (m, x)) := by simp [GoodP, h1]
      rw [← e] at k
      exact k
    · rw [decide_eq_false h1]
      refine iteF ?_
      rw [decide_eq_false (fun h : GoodP (m, x) => h1 ⟨h.1, h.2.1⟩)] at k
      exact k
theorem cut1 (xs : List V) : cutV xs (some 1) none = xs.drop 1 := by
  unfold cutV
  have e1 : HT.sIx xs.length 0 (some 1) = min 1 xs.length := HT.sIx_nat xs.length 0 1
  rw [e1, HT.sIx_none]
  cases xs with
  | nil => rfl
  | cons a t =>
    have : min 1 (a :: t).length = 1 := by simp
    rw [this]
    simp
theorem scAscends : FnScope ["things", "low", "high"] ["things"] (defScope sAscends) := ⟨rfl, rfl, rfl, by decide +kernel, rfl, by decide +kernel, by decide +kernel⟩
theorem ok_ascends {f : Addr} {fd : FuncData} (F : Df K mg "ascends" sAscends ["things"] f fd) (T : Bt mg) : FnOk P w K mg base CX0 1 f fd ["things"] (spAsc K) := by
  refine F.F.ok scAscends (fun vs H Q E h => ?_) (fun cdv A outer s H vs Q E hr h => ?_)
  · obtain ⟨a, ns, rfl, _⟩ := h
    rfl
  · obtain ⟨a, ns, rfl, hS, hlen, k⟩ := h
    refine ⟨_, pss_one (ps_ret (pe_callB (cr_all rfl) (by rfl) T.all (by decide +kernel) (pa_cons (pe_lc (own := [("low", 1), ("high", 2)]) (g := gTup K 2 (gCons (gName 1) (gCons (gName 2) gNil))) (tt := tYes) rfl scAscends.nd (pi_zip (by rfl) T.zip (pa_cons (pv 0) (pa_cons (pe_slice sl_list (pv 0) (po_some pe_int) po_none) pa_nil))) (blkOk_by (N := ["things", "low", "high"]) (sc := defScope sAscends) (by decide +kernel)) (fun _ _ _ _ _ => pg_tup rfl (pgs_cons (pg_name (i := 1) scAscends.nd rfl (Or.inl rfl)) (pgs_cons (pg_name (i := 2) scAscends.nd rfl (Or.inl rfl)) pgs_nil))) (fun _ _ _ _ _ => pts_nil) (fun _ _ _ _ _ => pe_cmpR op_lt (pv 1) (pv 2) (nomark _))) pa_nil))), ?_⟩
    refine ⟨_, rfl, _, rfl, _, rfl, a, _, rfl, hS, fun b hb => ?_⟩
    rw [cut1]
    have k1 := Same.new (o := .lst ((ns.map V.int).drop 1)) hb
    have hB : (upd H b (.lst ((ns.map V.int).drop 1))) b = some (.lst ((ns.map V.int).drop 1)) := upd_same
    have hS1 := k1.seq hS
    generalize upd H b (.lst ((ns.map V.int).drop 1)) = H1 at *
    refine ⟨a, b, _, _, rfl, hS1, SqL.of hB, fun D hD => lc_it (walk_zip (xs := ns.map V.int) (ys := (ns.map V.int).drop 1) (n := ns.length - 1) (by simp)) (fun i H' => H' D = some (.lst (((List.zipWith (fun a b => decide (a < b)) ns (ns.drop 1)).take i).map V.bl)) ∧ Same H1 H') ⟨upd_same, Same.new hD⟩ (fun i H' _ ⟨_, s1⟩ => ⟨s1.seq hS1, SqL.of (s1 _ _ hB)⟩) ?_ ?_⟩
    · rintro i v H2 H3 hi ⟨h1, s1⟩ ⟨t, x, y, rfl, ht, rfl, hx, hy⟩
      have e1 : ns[i]? = some (ns[i]'(by omega)) := by simp
      have e2 : (ns.drop 1)[i]? = some (ns[i + 1]'(by omega)) := by
        rw [List.getElem?_drop]
        have : 1 + i = i + 1 := by omega
        rw [this]
        simp
      dsimp only at hx hy
      rw [List.getElem?_map, e1] at hx
      rw [← List.map_drop, List.getElem?_map, e2] at hy
      obtain rfl : V.int _ = x := Option.some.inj hx
      obtain rfl : V.int _ = y := Option.some.inj hy
      have k2 := Same.new (o := .tup [V.int (ns[i]'(by omega)), V.int (ns[i + 1]'(by omega))]) ht
      refine ⟨t, _, rfl, SqT.of upd_same, rfl, _, _, rfl, _, _, rfl, rfl, rfl, ?_⟩
      dsimp only [tYes]
      rw [if_pos rfl]
      refine ⟨_, rfl, _, rfl, _, _, rfl, rfl, _, k2 _ _ h1, small1000 ?_, ?_, ?_⟩
      · rw [List.length_map, List.length_take]; omega
      · rw [upd_same]
        have : (List.zipWith (fun a b => decide (a < b)) ns (ns.drop 1))[i]? = some (decide (ns[i]'(by omega) < ns[i + 1]'(by omega))) := by
          rw [List.getElem?_zipWith, e1, e2]
        rw [take_snoc this, List.map_append]
        rfl
      · exact same_upd hD (s1.trans k2)
    · rintro H2 ⟨h1, s1⟩
      rw [List.take_of_length_le (by rw [List.length_zipWith, List.length_drop]; omega)] at h1
      refine ⟨D, _, rfl, SqL.of h1, ?_⟩
      rw [asc_zip]
      exact k _ (k1.trans s1)
theorem scIsShare : FnScope ["thing", "pair", "number", "_"] ["thing"] (defScope sIsShare) := ⟨rfl, rfl, rfl, by decide +kernel, rfl, by decide +kernel, by decide +kernel⟩
theorem ok_is_share {f f1 f2 f3 : Addr} {fd fd1 fd2 fd3 : FuncData} {t8 : Tok} (F : Df K mg "is_share" sIsShare ["thing"] f fd) (D1 : Df K mg "is_row" sIsRow ["thing"] f1 fd1) (G1 : FnOk P w K mg base CX0 1 f1 fd1 ["thing"] (spRow K)) (D2 : Df K mg "is_share_pair" sIsSharePair ["thing"] f2 fd2) (G2 : FnOk P w K mg base CX0 5 f2 fd2 ["thing"] (spShP K))
    (D3 : Df K mg "ascends" sAscends ["things"] f3 fd3) (G3 : FnOk P w K mg base CX0 1 f3 fd3 ["things"] (spAsc K)) (g8 : mg "MOST_PAIRS" = some (.int 8 t8)) (T : Bt mg) : FnOk P w K mg base CX0 6 f fd ["thing"] (spIsSh K) := by
  refine F.F.ok scIsShare (fun vs H Q E h => ?_) (fun cdv A outer s H vs Q E hr h => ?_)
  · obtain ⟨p, xs, rfl, _⟩ := h
    rfl
  · obtain ⟨p, xs, rfl, ⟨vs, hp, hP⟩, hlen, k⟩ := h
    refine ⟨_, pss_cons (ps_if (PW.pt (pw_or (pt_not (pt_val (pe_call G1 (hr.mono (by decide)) (by rfl) D1.g D1.F.kp D1.b .nil pass0 (pa_cons (pv 0) pa_nil)))) (pw_or1 (pt_cmpR op_gt (pe_callB call_len_seq (by rfl) T.len PySem.boot_len (pa_cons (pv 0) pa_nil)) (pe_glob (v := .int 8) (by rfl) g8 ⟨_, rfl⟩) (nomark _))))) (pss_one (ps_ret pe_bl)) pss_nil)
      (pss_cons (ps_if (pt_not (pt_val (pe_callB (cr_all rfl) (by rfl) T.all (by decide +kernel) (pa_cons (pe_lc (own := [("pair", 1)]) (g := gName 1) (tt := tYes) rfl scIsShare.nd (pi_tup (pv 0)) (blkOk_by (N := ["thing", "pair", "number", "_"]) (sc := defScope sIsShare) (by decide +kernel)) (fun _ _ _ _ _ => pg_name (i := 1) scIsShare.nd rfl (Or.inl rfl)) (fun _ _ _ _ _ => pts_nil) (fun _ _ _ _ _ => pe_call G2 hr (by rfl) D2.g D2.F.kp D2.b .nil pass0 (pa_cons (pv 1) pa_nil))) pa_nil)))) (pss_one (ps_ret pe_bl)) pss_nil)
      (pss_one (ps_ret (pe_call G3 (hr.mono (by decide)) (by rfl) D3.g D3.F.kp D3.b .nil pass0 (pa_cons (pe_lc (own := [("number", 2), ("_", 3)]) (g := gTup K 2 (gCons (gName 2) (gCons (gName 3) gNil))) (tt := tYes) rfl scIsShare.nd (pi_tup (pv 0)) (blkOk_by (N := ["thing", "pair", "number", "_"]) (sc := defScope sIsShare) (by decide +kernel)) (fun _ _ _ _ _ => pg_tup rfl (pgs_cons (pg_name (i := 2) scIsShare.nd rfl (Or.inl rfl)) (pgs_cons (pg_name (i := 3) scIsShare.nd rfl (Or.inl rfl)) pgs_nil))) (fun _ _ _ _ _ => pts_nil) (fun _ _ _ _ _ => pv 2)) pa_nil))))), ?_⟩
    refine ⟨_, rfl, p, _, rfl, hp, _, rfl, iteF ?_⟩
    refine ⟨_, rfl, p, _, rfl, .inr hp, _, _, rfl, rfl, _, rfl, ?_⟩
    rw [hP.len]
    by_cases h8 : (8 : Int) < (xs.length : Int)
    · rw [decide_eq_true h8]
      refine iteT ?_
      have := k H (Same.refl H)
      rw [decide_eq_false (fun h : Shr xs => by have := h.1; omega)] at this
      exact this
    rw [decide_eq_false h8]
    refine iteF ?_
    refine ⟨_, rfl, p, rfl, ⟨_, hp⟩, fun D hD => lc_tup (K := K) (a := p) (xs := vs) (fun i H' => H' D = some (.lst (((xs.take i).map fun a => decide (GoodP a)).map V.bl)) ∧ Same H H') ⟨upd_same, Same.new hD⟩ (fun i H' _ ⟨_, s1⟩ => s1.tup hp) ?_ ?_⟩
    · rintro i v H' hi ⟨h1, s1⟩
      obtain ⟨q, r, m, x, rfl, hxi, hq, hr'⟩ := hP.get hi
      have hi2 : i < xs.length := (List.getElem?_eq_some_iff.mp hxi).1
      refine ⟨rfl, ?_⟩
      dsimp only [tYes]
      rw [if_pos rfl]
      refine ⟨_, rfl, q, r, m, x, rfl, s1.tup hq, s1.tup hr', _, h1, small1000 ?_, ?_, same_upd hD s1⟩
      · rw [List.length_map, List.length_map, List.length_take]; omega
      · rw [upd_same, take_snoc hxi, List.map_append, List.map_append]
        rfl
    · rintro H1 ⟨h1, s1⟩
      rw [hP.len, List.take_length] at h1
      refine ⟨D, _, rfl, SqL.of h1, _, rfl, ?_⟩
      by_cases hg : ∀ a ∈ xs, GoodP a
      · have e : ((xs.map fun a => decide (GoodP a)).all id) = true := by
          rw [List.all_map, List.all_eq_true]
          intro a ha
          exact decide_eq_true (hg a ha)
        rw [e]
        refine iteF ?_
        refine ⟨_, rfl, p, rfl, ⟨_, s1.tup hp⟩, fun D2 hD2 => lc_tup (K := K) (a := p) (xs := vs) (fun i H' => H' D2 = some (.lst (((xs.take i).map (·.1)).map V.int)) ∧ Same H1 H') ⟨upd_same, Same.new hD2⟩ (fun i H' _ ⟨_, s2⟩ => s2.tup (s1.tup hp)) ?_ ?_⟩
        · rintro i v H' hi ⟨h2, s2⟩
          obtain ⟨q, r, m, x, rfl, hxi, hq, hr'⟩ := hP.get hi
          have hi2 : i < xs.length := (List.getElem?_eq_some_iff.mp hxi).1
          refine ⟨q, _, rfl, s2.tup (s1.tup hq), rfl, _, _, rfl, _, _, rfl, rfl, rfl, ?_⟩
          dsimp only [tYes]
          rw [if_pos rfl]
          refine ⟨_, rfl, _, h2, small1000 ?_, ?_, same_upd hD2 s2⟩
          · rw [List.length_map, List.length_map, List.length_take]; omega
          · rw [upd_same, take_snoc hxi, List.map_append, List.map_append]
            rfl
        · rintro H2 ⟨h2, s2⟩
          rw [hP.len, List.take_length] at h2
          refine ⟨D2, xs.map (·.1), rfl, SqL.of h2, by rw [List.length_map]; exact hlen, fun H3 s3 => ?_⟩
          have := k H3 (s1.trans (s2.trans s3))
          have e2 : decide (Shr xs) = decide ((xs.map (·.1)).Pairwise (· < ·)) := by
            rw [decide_eq_decide]
            exact ⟨fun h => h.2.2, fun h => ⟨by omega, hg, h⟩⟩
          rw [e2] at this
          exact this
      · have e : ((xs.map fun a => decide (GoodP a)).all id) = false := by
          rw [Bool.eq_false_iff]
          intro h
          rw [List.all_map, List.all_eq_true] at h
          exact hg fun a ha => of_decide_eq_true (h a ha)
        rw [e]
        refine iteT ?_
        have := k H1 s1
        rw [decide_eq_false (fun h : Shr xs => hg h.2.1)] at this
        exact this
theorem scNeedShare : FnScope ["thing"] ["thing"] (defScope sNeedShare) := ⟨rfl, rfl, rfl, by decide +kernel, rfl, by decide +kernel, by decide +kernel⟩
theorem ok_need_share {f f1 : Addr} {fd fd1 : FuncData} (F : Df K mg "need_share" sNeedShare ["thing"] f fd) (D1 : Df K mg "is_share" sIsShare ["thing"] f1 fd1) (G1 : FnOk P w K mg base CX0 6 f1 fd1 ["thing"] (spIsSh K)) : FnOk P w K mg base CX0 7 f fd ["thing"] (spNeedSh K) := by
  refine F.F.ok scNeedShare (fun vs H Q E h => ?_) (fun cdv A outer s H vs Q E hr h => ?_)
  · obtain ⟨p, xs, rfl, _⟩ := h
    rfl
  · obtain ⟨p, xs, rfl, hp, hx, k⟩ := h
    refine ⟨_, pss_cons (ps_if (pt_not (pt_val (pe_call G1 hr (by rfl) D1.g D1.F.kp D1.b .nil pass0 (pa_cons (pv 0) pa_nil)))) (pss_one ps_never) pss_nil) (pss_one (ps_ret (pv 0))), ?_⟩
    refine ⟨_, rfl, p, xs, rfl, hp, by have := hx.1; omega, fun H' s' => ⟨_, rfl, ?_⟩⟩
    rw [decide_eq_true hx]
    exact iteF ⟨_, rfl, k _ s'⟩
theorem scNeedNumber : FnScope ["thing"] ["thing"] (defScope sNeedNumber) := ⟨rfl, rfl, rfl, by decide +kernel, rfl, by decide +kernel, by decide +kernel⟩
theorem ok_need_number {f f1 : Addr} {fd fd1 : FuncData} (F : Df K mg "need_number" sNeedNumber ["thing"] f fd) (D1 : Df K mg "is_number" sIsNumber ["thing"] f1 fd1) (G1 : FnOk P w K mg base CX0 3 f1 fd1 ["thing"] spNum) : FnOk P w K mg base CX0 4 f fd ["thing"] spNeedNum := by
  refine F.F.ok scNeedNumber (fun vs H Q E h => ?_) (fun cdv A outer s H vs Q E hr h => ?_)
  · obtain ⟨i, rfl, _⟩ := h
    rfl
  · obtain ⟨i, rfl, h1, h2, k⟩ := h
    refine ⟨_, pss_cons (ps_if (pt_not (pt_val (pe_call G1 hr (by rfl) D1.g D1.F.kp D1.b .nil pass0 (pa_cons (pv 0) pa_nil)))) (pss_one ps_never) pss_nil) (pss_one (ps_ret (pv 0))), ?_⟩
    refine ⟨_, rfl, i, rfl, _, rfl, ?_⟩
    rw [decide_eq_true ⟨h1, h2⟩]
    exact iteF ⟨_, rfl, k⟩
theorem scTotal : FnScope ["share"] ["share"] (defScope sTotal) := ⟨rfl, rfl, rfl, by decide +kernel, rfl, by decide +kernel, by decide +kernel⟩
theorem ok_total {f f1 f2 : Addr} {fd fd1 fd2 : FuncData} (F : Df K mg "total" sTotal ["share"] f fd) (D1 : Df K mg "need_share" sNeedShare ["thing"] f1 fd1) (G1 : FnOk P w K mg base CX0 7 f1 fd1 ["thing"] (spNeedSh K)) (D2 : Df K mg "total_of" sTotalOf ["share"] f2 fd2) (G2 : FnOk P w K mg base CX0 4 f2 fd2 ["share"] (spShF K ftot)) : FnOk P w K mg base CX0 8 f fd ["share"] (spTot K ftot) := by
  refine F.F.ok scTotal (fun vs H Q E h => ?_) (fun cdv A outer s H vs Q E hr h => ?_)
  · obtain ⟨p, xs, rfl, _⟩ := h
    rfl
  · obtain ⟨p, xs, rfl, hp, hx, hf, k⟩ := h
    refine ⟨_, pss_one (ps_ret (pe_call G2 (hr.mono (by decide)) (by rfl) D2.g D2.F.kp D2.b .nil pass0 (pa_cons (pe_call G1 hr (by rfl) D1.g D1.F.kp D1.b .nil pass0 (pa_cons (pv 0) pa_nil)) pa_nil))), ?_⟩
    exact ⟨_, rfl, p, xs, rfl, hp, hx, fun H' s' => ⟨p, xs, rfl, hp.tk (tk_same s'), hf, hx.abs, hx.len, fun H2 r s2 h2 => k _ _ (s'.trans s2) h2⟩⟩
theorem scMoment : FnScope ["share"] ["share"] (defScope sMoment) := ⟨rfl, rfl, rfl, by decide +kernel, rfl, by decide +kernel, by decide +kernel⟩
theorem ok_moment {f f1 f2 : Addr} {fd fd1 fd2 : FuncData} (F : Df K mg "moment" sMoment ["share"] f fd) (D1 : Df K mg "need_share" sNeedShare ["thing"] f1 fd1) (G1 : FnOk P w K mg base CX0 7 f1 fd1 ["thing"] (spNeedSh K)) (D2 : Df K mg "moment_of" sMomentOf ["share"] f2 fd2) (G2 : FnOk P w K mg base CX0 4 f2 fd2 ["share"] (spShF K fmom)) : FnOk P w K mg base CX0 8 f fd ["share"] (spTot K fmom) := by
  refine F.F.ok scMoment (fun vs H Q E h => ?_) (fun cdv A outer s H vs Q E hr h => ?_)
  · obtain ⟨p, xs, rfl, _⟩ := h
    rfl
  · obtain ⟨p, xs, rfl, hp, hx, hf, k⟩ := h
    refine ⟨_, pss_one (ps_ret (pe_call G2 (hr.mono (by decide)) (by rfl) D2.g D2.F.kp D2.b .nil pass0 (pa_cons (pe_call G1 hr (by rfl) D1.g D1.F.kp D1.b .nil pass0 (pa_cons (pv 0) pa_nil)) pa_nil))), ?_⟩
    exact ⟨_, rfl, p, xs, rfl, hp, hx, fun H' s' => ⟨p, xs, rfl, hp.tk (tk_same s'), hf, hx.abs, hx.len, fun H2 r s2 h2 => k _ _ (s'.trans s2) h2⟩⟩
theorem scRestAbove : FnScope ["share", "number"] ["share", "number"] (defScope sRestAbove) := ⟨rfl, rfl, rfl, by decide +kernel, rfl, by decide +kernel, by decide +kernel⟩
theorem ok_rest_above {f f1 f2 f3 : Addr} {fd fd1 fd2 fd3 : FuncData} (F : Df K mg "rest_above" sRestAbove ["share", "number"] f fd) (D1 : Df K mg "need_share" sNeedShare ["thing"] f1 fd1) (G1 : FnOk P w K mg base CX0 7 f1 fd1 ["thing"] (spNeedSh K)) (D2 : Df K mg "rest_of" sRestOf ["share", "mark"] f2 fd2) (G2 : FnOk P w K mg base CX0 4 f2 fd2 ["share", "mark"] (spShFk K frest)) (D3 : Df K mg "need_number" sNeedNumber ["thing"] f3 fd3) (G3 : FnOk P w K mg base CX0 4 f3 fd3 ["thing"] spNeedNum) : FnOk P w K mg base CX0 8 f fd ["share", "number"] (spRest K) := by
  refine F.F.ok scRestAbove (fun vs H Q E h => ?_) (fun cdv A outer s H vs Q E hr h => ?_)
  · obtain ⟨p, xs, n, rfl, _⟩ := h
    rfl
  · obtain ⟨p, xs, n, rfl, hp, hx, hf, n1, n2, k⟩ := h
    refine ⟨_, pss_one (ps_ret (pe_call G2 (hr.mono (by decide)) (by rfl) D2.g D2.F.kp D2.b .nil pass0 (pa_cons (pe_call G1 hr (by rfl) D1.g D1.F.kp D1.b .nil pass0 (pa_cons (pv 0) pa_nil)) (pa_cons (pe_call G3 (hr.mono (by decide)) (by rfl) D3.g D3.F.kp D3.b .nil pass0 (pa_cons (pv 1) pa_nil)) pa_nil)))), ?_⟩
    exact ⟨_, rfl, p, xs, rfl, hp, hx, fun H' s' => ⟨_, rfl, n, rfl, n1, n2, p, xs, n, rfl, hp.tk (tk_same s'), hf, hx.abs, by omega, hx.len, fun H2 r s2 h2 => k _ _ (s'.trans s2) h2⟩⟩
end
end CS
set_option Elab.async false
set_option maxRecDepth 100000
set_option maxHeartbeats 4000000
set_option linter.unusedVariables false
/-! A function object as a value: what its call without arguments does is told by a promise over the abstract heap, in which the cells that it captured are tracked, too. -/
namespace CS
open PySem PySem.Spec PyProof.Rows L2 LamX
/-- the function object at f -/
def FunO (f : Addr) (fd : FuncData) : HO := .ext fun h => ∃ od sl, h.get? f = some (⟨.type "function", od, .func fd, sl⟩ : Obj)
/-- the very object at c -/
def CellX (c : Addr) (o : Obj) : HO := .ext fun h => h.get? c = some o
theorem funO_at {P : Program} {w : World} {H : Hp} {h : Heap} {f : Addr} {fd : FuncData} (ok : HOk P w H h) (e : H f = some (FunO f fd)) : ∃ od sl, h.get? f = some (⟨.type "function", od, .func fd, sl⟩ : Obj) := by
  have x : ObjOk P w H h f (FunO f fd) := ok f _ e
  exact x.1
theorem cellX_at {P : Program} {w : World} {H : Hp} {h : Heap} {c : Addr} {o : Obj} (ok : HOk P w H h) (e : H c = some (CellX c o)) : h.get? c = some o := by
  have x : ObjOk P w H h c (CellX c o) := ok c _ e
  exact x.1
theorem cellX_ok {P : Program} {w : World} {H : Hp} {h : Heap} {c : Addr} {o : Obj} (e : h.get? c = some o) : ObjOk P w H h c (CellX c o) := ⟨e, ⟨o, e⟩, fun _ _ z k => k _ z⟩
/-- with the objects of l tracked, without them -/
def addC (l : Addr → Option Obj) (H : Hp) : Hp := fun b => match l b with
  | some o => some (CellX b o)
  | none => H b
def Free (l : Addr → Option Obj) (H : Hp) : Prop := ∀ b o, l b = some o → H b = none
def Cin (l : Addr → Option Obj) (H : Hp) : Prop := ∀ b o, l b = some o → H b = some (CellX b o)
def subC (l : Addr → Option Obj) (H : Hp) : Hp := fun b => if (l b).isSome then none else H b
section
variable {l : Addr → Option Obj} {H H2 : Hp} {b : Addr} {o : Obj}
theorem addC_in (e : l b = some o) : addC l H b = some (CellX b o) := by
  unfold addC
  rw [e]
theorem addC_out (e : l b = none) : addC l H b = H b := by
  unfold addC
  rw [e]
theorem subC_in (e : l b = some o) : subC l H b = none := by
  unfold subC
  rw [e]
  rfl
theorem subC_out (e : l b = none) : subC l H b = H b := by
  unfold subC
  rw [e]
  rfl
theorem cin_add : Cin l (addC l H) := fun _ _ e => addC_in e
theorem free_sub : Free l (subC l H) := fun _ _ e => subC_in e
theorem sub_add (F : Free l H) : subC l (addC l H) = H := by
  funext b
  cases e : l b with
  | none => rw [subC_out e, addC_out e]
  | some o => rw [subC_in e, F b o e]
theorem add_sub (C : Cin l H) : addC l (subC l H) = H := by
  funext b
  cases e : l b with
  | none => rw [addC_out e, subC_out e]
  | some o => rw [addC_in e, C b o e]
theorem Cin.out (C : Cin l H) {u : HO} (e : H b = some u) (n : ∀ c o, u ≠ CellX c o) : l b = none := by
  cases q : l b with
  | none => rfl
  | some o =>
    have := C b o q
    rw [e] at this
    exact absurd (Option.some.inj this) (n b o)
theorem Free.out (F : Free l H) {u : HO} (e : H b = some u) : l b = none := by
  cases q : l b with
  | none => rfl
  | some o =>
    rw [F b o q] at e
    cases e
theorem cx_tup {c : Addr} {o : Obj} {xs : List V} : (HO.tup xs) ≠ CellX c o := fun z => by
  unfold CellX at z
  cases z
theorem cx_frz {c : Addr} {o o2 : Obj} {u : HO} : (HO.frz o2 u) ≠ CellX c o := fun z => by
  unfold CellX at z
  cases z
theorem cx_tbl {c : Addr} {o : Obj} {ps : Array Value} : (HO.tbl ps) ≠ CellX c o := fun z => by
  unfold CellX at z
  cases z
theorem sub_none (n : H b = none) : subC l H b = none := by
  unfold subC
  split
  · rfl
  · exact n
end
section
variable {P : Program} {w : World} {l : Addr → Option Obj} {H H2 : Hp} {h h' : Heap} {fs : List Addr}
theorem hok_sub (C : Cin l H) (ok : HOk P w H h) : HOk P w (subC l H) h := fun b u e => by
  have hb : l b = none := free_sub.out e
  rw [subC_out hb] at e
  refine (ok b u e).stay (fun _ _ _ q => q) (fun c hc => ?_) (fun c xs hc => ?_)
  · rw [subC_out (C.out hc fun _ _ z => by unfold CellX at z; cases z)]
    exact hc
  · rw [subC_out (C.out hc fun _ _ => cx_tup)]
    exact hc
theorem hok_add (F : Free l H2) (ok : HOk P w H2 h) (k : ∀ b o, l b = some o → h.get? b = some o) : HOk P w (addC l H2) h := fun b u e => by
  cases q : l b with
  | some o =>
    rw [addC_in q] at e
    cases e
    exact cellX_ok (k b o q)
  | none =>
    rw [addC_out q] at e
    refine (ok b u e).stay (fun _ _ _ q => q) (fun c hc => ?_) (fun c xs hc => ?_)
    · rw [addC_out (F.out hc)]
      exact hc
    · rw [addC_out (F.out hc)]
      exact hc
/-- the step of a body, told with the cells -/
theorem un_add (C : Cin l H) (F : Free l H2) (u : Un fs [] (subC l H) H2 h h') : Un fs [] H (addC l H2) h h' where
  keep := fun b o q n hb hx => u.keep b o q (sub_none n) hb hx
  slot := fun b o q n hb hx => u.slot b o q (sub_none n) hb hx
  free := fun b o q n hx => by
    have e : l b = none := by
      cases z : l b with
      | none => rfl
      | some o2 =>
        rw [C b o2 z] at n
        cases n
    rw [addC_out e]
    exact u.free b o q (sub_none n) hx
  there := u.there
  tups := fun b xs e => by
    have q := C.out e fun _ _ => cx_tup
    rw [addC_out q]
    exact u.tups b xs (by rw [subC_out q]; exact e)
  frzs := fun b o2 x e => by
    have q := C.out e fun _ _ => cx_frz
    rw [addC_out q]
    exact u.frzs b o2 x (by rw [subC_out q]; exact e)
  tbls := fun b ps e => by
    have q := C.out e fun _ _ => cx_tbl
    rw [addC_out q]
    exact u.tbls b ps (by rw [subC_out q]; exact e)
/-- .. and a caller's, told without them -/
theorem un_sub (F : Free l H) (C : Cin l H2) (hk : HOk P w H2 h') (hh : ∀ b o, l b = some o → h.get? b = some o) (u : Un fs [] (addC l H) H2 h h') : Un fs [] H (subC l H2) h h' where
  keep := fun b o q n hb hx => by
    cases z : l b with
    | none => exact u.keep b o q (by rw [addC_out z]; exact n) hb hx
    | some o2 =>
      have e := hh b o2 z
      rw [q] at e
      cases e
      exact cellX_at hk (C b _ z)
  slot := fun b o q n hb hx => by
    cases z : l b with
    | none => exact u.slot b o q (by rw [addC_out z]; exact n) hb hx
    | some o2 =>
      have e := hh b o2 z
      rw [q] at e
      cases e
      exact ⟨o.slots, cellX_at hk (C b _ z)⟩
  free := fun b o q n hx => by
    cases z : l b with
    | none => exact sub_none (u.free b o q (by rw [addC_out z]; exact n) hx)
    | some o2 => exact subC_in z
  there := u.there
  tups := fun b xs e => by
    have q := F.out e
    have := u.tups b xs (by rw [addC_out q]; exact e)
    rw [subC_out q]
    exact this
  frzs := fun b o2 x e => by
    have q := F.out e
    have := u.frzs b o2 x (by rw [addC_out q]; exact e)
    rw [subC_out q]
    exact this
  tbls := fun b ps e => by
    have q := F.out e
    have := u.tbls b ps (by rw [addC_out q]; exact e)
    rw [subC_out q]
    exact this
/-- an exception that leaves a body, told with the cells -/
theorem cx_add {outer : List Env} {s s' : Shared} {E : XK} {u : Value} (C : Cin l H) (ok : HOk P w H s.heap) (nf : ∀ b ∈ frs outer, H b = none) (c : L2.CX P w outer (subC l H) s (fun cls d H' => Free l H' → E cls d (addC l H')) u s') : L2.CX P w outer H s E u s' := by
  obtain ⟨a, B, H', cls, d, rfl, fl, hok, ub, na, os, ag, hE⟩ := c
  have hh : ∀ b o, l b = some o → s.heap.get? b = some o := fun b o e => cellX_at ok (C b o e)
  have nfr : ∀ b o, l b = some o → b ∉ frs outer := fun b o e z => by
    have := nf b z
    rw [C b o e] at this
    cases this
  have F : Free l H' := fun b o e => ub.free b o (hh b o e) (subC_in e)
  have kB : ∀ b o, l b = some o → B.get? b = some o := fun b o e => ub.keep b o (hh b o e) (subC_in e) (nfr b o e)
  refine ⟨a, B, addC l H', cls, d, rfl, fl, hok_add F hok kB, ⟨fun b o q n hb => ub.keep b o q (sub_none n) hb, ub.slot, fun b o q n => ?_, ub.there, fun b xs e => ?_, fun b o2 x e => ?_, fun b ps e => ?_⟩, ?_, os, ag, hE F⟩
  · have e : l b = none := by
      cases z : l b with
      | none => rfl
      | some o2 =>
        rw [C b o2 z] at n
        cases n
    rw [addC_out e]
    exact ub.free b o q (sub_none n)
  · have q := C.out e fun _ _ => cx_tup
    rw [addC_out q]
    exact ub.tups b xs (by rw [subC_out q]; exact e)
  · have q := C.out e fun _ _ => cx_frz
    rw [addC_out q]
    exact ub.frzs b o2 x (by rw [subC_out q]; exact e)
  · have q := C.out e fun _ _ => cx_tbl
    rw [addC_out q]
    exact ub.tbls b ps (by rw [subC_out q]; exact e)
  · cases z : l a with
    | none => rw [addC_out z]; exact na
    | some o =>
      have e1 := kB a o z
      have e2 : B.get? a = none := fl.2.1
      rw [e1] at e2
      cases e2
end
/-! what a function object's call does -/
abbrev Act := Addr → Hp → VK → XK → Prop
def ActOk (P : Program) (w : World) (K : PySem.W.Frag) (mg : Str → Option Value) (base : Heap) (k : Nat) (act : Act) : Prop :=
  ∀ (f : Addr) (A : Around) (outer : List Env) (s : Shared) (H : Hp) (Q : VK) (E : XK), Room k A → Env0 P w K mg base A outer s H → act f H Q E →
    (∃ fd, H f = some (FunO f fd)) ∧ codeAny (model P w) A (.call (.ref f) ⟨[], []⟩) (CR (L2.CX P w) outer P w H s Q E) s
section
variable {X : Cx} {act : Act} {k i : Nat} {x : Str} {E : L2.St → XK} {p pos : Pos}
def tAct (act : Act) (i : Nat) (E : L2.St → XK) : TE := fun σ H Q => ∃ f, σ[i]? = some (some (.ref f)) ∧ act f H Q (E σ)
/-- x(), x a name that holds such an object -/
theorem pe_act0 (ha : ActOk X.prog X.w X.K X.mg X.base k act) (hr : Room k X.A) (hx : ∀ σ, PassesAt (L2.CX X.prog X.w) X σ (E σ)) (hN : X.N[i]? = some x) (hv : Vis X.env.scope x) (hd : (x == ("__debug__" : Str)) = false := by decide) (hcd : (x == ("__classdict__" : Str)) = false := by decide) :
    PE X (.Call (.Name x p) [] [] pos) (tAct act i E) := by
  refine ⟨fun pins s σ H Q I h => ?_⟩
  obtain ⟨f, hs, q⟩ := h
  obtain ⟨⟨fd, hf⟩, hc⟩ := ha f X.A X.stack s H Q (E σ) hr I.env0 q
  have hv2 := (pe_var (pos := p) hN hv hd hcd).run pins s σ H (fun v H1 => v = .ref f ∧ H1 = H ∧ act f H Q (E σ)) I ⟨.ref f, hs, rfl, rfl, q⟩
  refine wpAny_Call_Name_kw (thn hv2 fun u s1 ⟨v, H1, I1, r1, ev, eH, q1⟩ => ?_)
  subst ev
  subst eH
  obtain rfl : u = Value.ref f := r1
  obtain ⟨⟨fd, hf⟩, hc⟩ := ha f X.A X.stack s1 H1 Q (E σ) hr I1.env0 q1
  obtain ⟨od, sl, ho⟩ := funO_at I1.hok hf
  refine PySem.W.callWith_F0 (first := []) ⟨_, od, _, sl, ho⟩ ?_
  show wpAny _ _ (call (.ref f) []) _ _ _
  refine wpAny_call (codeAny_mono hc fun r s' hq => ?_)
  match r with
  | .error er => exact hx σ pins H1 s1 er s' I1 hq
  | .ok (.ret u) => exact I1.after hq
  | .ok .next => exact hq.elim
  | .ok .brk => exact hq.elim
  | .ok .cont => exact hq.elim
end
/-! a lambda's call -/
/-- the scope of a lambda whose own names (its parameters) are none of N -/
structure LScope (sc scope : Scope) (N : List Str) : Prop where
  kind : scope.kind = .function
  co : scope.isCoroutine = false
  gen : scope.isGenerator = false
  cell : ∀ y ∈ scope.names, y.2 ≠ .cell
  own : ∀ y ∈ scope.names, y.2 = .local → y.1 ∉ N
  free : ∀ y ∈ scope.names, y.2 = .free → sc.names.lookup y.1 = some .cell ∨ sc.names.lookup y.1 = some .free
theorem LScope.has {X : Cx} {scope : Scope} {N : List Str} (L : LScope X.env.scope scope N) (ok : X.Ok) : ∀ y ∈ scope.names, y.2 = .free → ∃ c, X.env.cells.lookup y.1 = some c := fun y hy e =>
  (L.free y hy e).elim (fun k => ok.has _ (.inl k)) fun k => ok.has _ (.inr k)
abbrev clo (X : Cx) (scope : Scope) : List (Str × Addr) := cloFrom X.env.cells scope.names []
abbrev lfd (X : Cx) (scope : Scope) (params : Arguments) (body : Expr) (c' : Addr) (dV doc pm ctv : Value) : FuncData :=
  PySem.W.kdv_fn "<lambda>" (X.env.qual ++ "<lambda>") params (.expr body) scope (clo X scope) dV doc pm (.ref c') ctv
/-- the objects of l are the captured cells, with what the slots tell -/
structure Held (X : Cx) (scope : Scope) (σ : L2.St) (l : Addr → Option Obj) : Prop where
  all : ∀ y c, (clo X scope).lookup y = some c → ∃ o v, l c = some o ∧ o.data = .cell v
  val : ∀ (i : Nat) (x : Str) (v : V), X.N[i]? = some x → σ[i]? = some (some v) → scope.names.lookup x = some .free → ∃ c o u, (clo X scope).lookup x = some c ∧ l c = some o ∧ o.data = .cell (some u) ∧ RelV v u
section
variable {X : Cx} {scope : Scope} {σ : L2.St} {l : Addr → Option Obj} {params : Arguments} {body : Expr} {f c' : Addr} {dV doc pm ctv : Value} {k : Nat} {binds : List (Str × Value)} {E : XK} {tb : TE}
theorem lam_inv {A : Around} {outer : List Env} {s : Shared} {H : Hp} {h₁ : Heap} {tk : Nat} (ok : X.Ok) (L : LScope X.env.scope scope X.N) (V : Held X scope σ l) (hlen : σ.length = X.N.length) (C : Cin l H) (e0 : Env0 X.prog X.w X.K X.mg X.base A outer s H) (hd : A.handled = none)
    (hns : h₁.Ns s.heap.objs.size fun y => binds.reverse.lookup y) (kp : ∀ b o, s.heap.get? b = some o → h₁.get? b = some o) : Inv (lamCx X A outer s (subC l H) E scope f c') [] σ (subC l H) { s with heap := h₁, toks := tk } := by
  have hfree := L.has ok
  have at_ : ∀ {c o}, l c = some o → s.heap.get? c = some o := fun {c o} e => cellX_at e0.hok (C c o e)
  have hs := hok_sub C e0.hok
  refine {
    ok := {
      mod := e0.mod, kind := L.kind, glob := rfl, blt := rfl, above := Nat.le_refl _
      inj := fun y z c e1 e2 => ok.inj y z c (NdefX.clo_cm hfree e1) (NdefX.clo_cm hfree e2)
      has := fun y hy => ?_
      cab := fun y c z _ => absurd (show false = true from z) (by decide)
      hd := fun _ => hd
      frames := Around.frames_deeper e0.frames
      stk := .inr ⟨rfl, rfl⟩
      exf := fun b z => absurd (show b ∈ ([] : List Addr) from z) (by simp)
      bs := fun b o e => ⟨(e0.bs b o e).1, sub_none (e0.bs b o e).2⟩
      bsz := e0.bsz
      noex := fun b _ _ z => absurd (show b ∈ ([] : List Addr) from z) (by simp)
      exfs := fun b z => absurd (show b ∈ ([] : List Addr) from z) (by simp)
      funs := e0.funs
      frf := fun b hb => sub_none (e0.frf b hb) }
    os := rfl
    bare := e0.bare
    base := Un.kept kp
    loc := ⟨_, hns, fun i y v e1 e2 e3 => ?_⟩
    cell := fun y c e => ?_
    free := hs.fresh (Nat.le_refl _)
    freeC := fun y c e => ?_
    pin := fun q hq => absurd (show q ∈ ([] : List (Addr × Obj)) ++ [] from hq) (by simp)
    hok := hs.kept kp
    len := hlen }
  · have hy : scope.names.lookup y = some .cell ∨ scope.names.lookup y = some .free := hy
    rcases hy with hy | hy
    · exact absurd rfl (L.cell _ (PySem.mem_of_lookup hy))
    · obtain ⟨c, hc⟩ := hfree _ (PySem.mem_of_lookup hy) rfl
      exact ⟨c, NdefX.clo_has hfree (PySem.mem_of_lookup hy) hc⟩
  · have e3 : Vis scope y := e3
    have e1 : X.N[i]? = some y := e1
    rcases e3 with q | q | q
    · exact absurd (List.mem_of_getElem? e1) (L.own _ (PySem.mem_of_lookup q) rfl)
    · exact absurd rfl (L.cell _ (PySem.mem_of_lookup q))
    · obtain ⟨c, o, u, h1, h2, h3, r⟩ := V.val i y v e1 e2 q
      exact ⟨u, r, .inr ⟨.inr q, c, h1, o, kp _ _ (at_ h2), h3⟩⟩
  · obtain ⟨o, v, h1, h2⟩ := V.all y c e
    exact ⟨v, o, kp _ _ (at_ h1), h2⟩
  · obtain ⟨o, v, h1, h2⟩ := V.all y c e
    exact subC_in h1
/-- how its parameters are bound where nothing is passed -/
def BindL (X : Cx) (scope : Scope) (params : Arguments) (body : Expr) (dV : Value) (H : Hp) : Prop := ∀ (P : Program) (w : World) (s : Shared) (c' : Addr) (doc pm ctv : Value), HOk P w H s.heap →
  ∃ binds, BindsTo s (lfd X scope params body c' dV doc pm ctv) ⟨[], []⟩ binds ∧ ∀ y ∈ binds, scope.names.lookup y.1 = some .local
/-- what such an object's call does: the body's reading, over what is tracked but the cells -/
def lact (X : Cx) (scope : Scope) (params : Arguments) (body : Expr) (σ : L2.St) (l : Addr → Option Obj) (tb : XK → TE) : Act := fun f H Q E =>
  ∃ (c' : Addr) (dV doc pm ctv : Value) (H1 : Hp) (Q0 : VK) (E0 : XK), H = addC l H1 ∧ Free l H1 ∧ H1 f = some (FunO f (lfd X scope params body c' dV doc pm ctv)) ∧ H1 c' = some (CodeO c' (X.env.qual ++ "<lambda>")) ∧
    BindL X scope params body dV H ∧ tb E0 σ H1 Q0 ∧ (∀ v H2, Free l H2 → Q0 v H2 → Q v (addC l H2)) ∧ ∀ cls d H2, Free l H2 → E0 cls d H2 → E cls d (addC l H2)
theorem lact_ok {tb : XK → TE} (ok : X.Ok) (L : LScope X.env.scope scope X.N) (V : Held X scope σ l) (hlen : σ.length = X.N.length)
    (hb : ∀ (A : Around) (outer : List Env) (s : Shared) (H : Hp) (E : XK) (f c' : Addr), Room k (A.deeper (lamEnv X scope s.heap.objs.size f c')) → PE (lamCx X A outer s H E scope f c') body (tb E)) :
    ActOk X.prog X.w X.K X.mg X.base (k + 1) (lact X scope params body σ l tb) := by
  intro f A outer s H Q E hr e0 h
  obtain ⟨c', dV, doc, pm, ctv, H1, Q0, E0, rfl, F, hf, hc, hbind, q, hQ, hE⟩ := h
  have hf2 : addC l H1 f = some (FunO f (lfd X scope params body c' dV doc pm ctv)) := by rw [addC_out (F.out hf)]; exact hf
  have hc2 : addC l H1 c' = some (CodeO c' (X.env.qual ++ "<lambda>")) := by rw [addC_out (F.out hc)]; exact hc
  refine ⟨⟨_, hf2⟩, ?_⟩
  obtain ⟨od, sl, ho⟩ := funO_at e0.hok hf2
  have C : Cin l (addC l H1) := cin_add
  have es : subC l (addC l H1) = H1 := sub_add F
  obtain ⟨binds, hbi, hloc⟩ := hbind _ _ s c' doc pm ctv e0.hok
  refine PySem.W.kla_callFunE hr.depth ho rfl L.co L.gen rfl (NdefX.codeO_at e0.hok hc2) (hbi _ _ _ _ ?_)
  refine wpAny_newFunctionEnv L.cell hloc (fun h₁ hns hsb => ⟨((e0.mod.nolimit).keeps fun b o e => (e0.bs b o e).1).fresh _ hsb, ?_⟩) L.kind
  show codeAny _ _ (.expr body (lamEnv X scope s.heap.objs.size f c')) _ _
  have kp : ∀ b o, s.heap.get? b = some o → h₁.get? b = some o := fun b o e => hsb.extBut b o (Nat.ne_of_lt (Heap.lt_size e)) (Heap.get?_push_of_some _ e)
  have I := lam_inv (E := E0) (f := f) (c' := c') (tk := s.toks + binds.length) ok L V hlen C e0 hr.hd hns kp
  rw [es] at I
  have nfr : ∀ b ∈ frs outer, addC l H1 b = none := e0.frf
  have cx : ∀ {e : Value} {s3 : Shared}, L2.CX X.prog X.w outer H1 s E0 e s3 → L2.CX X.prog X.w outer (addC l H1) s E e s3 := fun {e s3} hx => by
    refine cx_add C e0.hok nfr ?_
    rw [es]
    obtain ⟨a, B, H', cls, d, x1, x2, x3, x4, x5, x6, x7, x8⟩ := hx
    exact ⟨a, B, H', cls, d, x1, x2, x3, x4, x5, x6, x7, fun F' => hE cls d H' F' x8⟩
  refine PySem.W.kla_codeExpr (wpAny_mono ((hb A outer s H1 E0 f c' (hr.deeper _)).run [] _ σ H1 Q0 I q) (fun u s2 hq => ?_) fun e s2 he => wpAny_mono he (fun _ _ hx => cx hx) fun _ _ hx => cx hx)
  obtain ⟨v, H2, I2, r, q2⟩ := hq
  have F2 : Free l H2 := fun b o e => I2.base.free b o (cellX_at e0.hok (C b o e)) (F b o e) (by intro z; cases z)
  have un : Un (frs outer) [] (subC l (addC l H1)) H2 s.heap s2.heap := by rw [es]; exact I2.base
  refine ⟨v, addC l H2, I2.os, I2.bare, un_add C F2 un, hok_add F2 I2.hok fun b o e => ?_, r, hQ v H2 F2 q2⟩
  refine I2.base.keep b o (cellX_at e0.hok (C b o e)) (F b o e) (fun z => ?_) (by intro z; cases z)
  have := nfr b z
  rw [C b o e] at this
  cases this
end
end CS
set_option Elab.async false
set_option maxRecDepth 100000
set_option maxHeartbeats 4000000
set_option linter.unusedVariables false
namespace CS
open PySem PySem.Spec PyProof.Rows L2 LamX
/-! the making of such an object; a def that is handed it -/
theorem funO_ok {P : Program} {w : World} {H : Hp} {h : Heap} {f : Addr} {fd : FuncData} {od : Option Addr} {sl : Array (Option Value)} (e : h.get? f = some (⟨.type "function", od, .func fd, sl⟩ : Obj)) : ObjOk P w H h f (FunO f fd) :=
  ⟨⟨od, sl, e⟩, ⟨_, e⟩, fun _ _ ⟨a, b, z⟩ k => ⟨a, b, k _ z⟩⟩
/-- one more code object of the name q in the table -/
theorem tabs_more {T : List (Addr × Str)} {H : Hp} {P c' : Addr} {q : Str} {ps : Array Value} {pos : Pos} (hT : Tabs T H) (hP : H P = some (.tbl ps)) (ht : TriplesOk ps.toList) (hn : H c' = none) (hu : ∀ p ∈ T, p.1 = P → p.2 = q) :
    Tabs T (upd (upd H P (.tbl (ps ++ #[rawInt pos.line, rawInt pos.col, .ref c']))) c' (CodeO c' q)) := by
  have nP : P ≠ c' := ne_of_none hP hn
  rintro ⟨B, z⟩ hp
  obtain ⟨bs, b1, b2, b3⟩ := hT _ hp
  have nB : B ≠ c' := ne_of_none b1 hn
  have old : ∀ c, H c = some (CodeO c z) → upd (upd H P (.tbl (ps ++ #[rawInt pos.line, rawInt pos.col, .ref c']))) c' (CodeO c' q) c = some (CodeO c z) := fun c hc => by
    rw [upd_ne (ne_of_none hc hn), upd_ne (fun y => by rw [y, hP] at hc; exact codeO_ne _ (Option.some.inj hc).symm)]
    exact hc
  by_cases e : B = P
  · subst e
    obtain rfl : z = q := hu _ hp rfl
    rw [show H B = _ from b1] at hP
    cases hP
    refine ⟨_, by show upd _ _ _ B = _; rw [upd_ne nB, upd_same], ?_, fun p2 cv hcv => ?_⟩
    · rw [Array.toList_append]
      exact PySem.TriplesOk_snoc _ _ _ _ b2
    · rw [Array.toList_append] at hcv
      rcases among_app _ b2 hcv with y | y
      · obtain ⟨c, rfl, hc⟩ := b3 p2 cv y
        exact ⟨c, rfl, old c hc⟩
      · exact ⟨c', y, upd_same⟩
  · refine ⟨bs, by show upd _ _ _ B = _; rw [upd_ne nB, upd_ne e]; exact b1, b2, fun p2 cv hcv => ?_⟩
    obtain ⟨c, rfl, hc⟩ := b3 p2 cv hcv
    exact ⟨c, rfl, old c hc⟩
section
variable {X : Cx} {pins : List (Addr × Obj)} {σ : L2.St} {H : Hp} {s : Shared} {scope : Scope} {params : Arguments} {body : Expr}
/-- the object alone is new -/
theorem fun_new {c' : Addr} {dV doc pm ctv : Value} {tk : Nat} (I : Inv X pins σ H s) : Inv X pins σ (upd H s.heap.objs.size (FunO s.heap.objs.size (lfd X scope params body c' dV doc pm ctv))) { s with heap := s.heap.push (PySem.W.kdv_obj "<lambda>" (X.env.qual ++ "<lambda>") params (.expr body) scope (clo X scope) dV doc pm c' ctv), toks := tk } :=
  I.laid (fun b u e => Heap.get?_push_of_some _ e) (Nat.le_refl _) (funO_ok (Heap.get?_push_size _ rfl))
/-- what is known behind the making -/
def Made (X : Cx) (scope : Scope) (params : Arguments) (body : Expr) (T : List (Addr × Str)) (H : Hp) (dV : Value) (f : Addr) (H1 : Hp) : Prop :=
  ExtN H H1 ∧ Tabs T H1 ∧ H f = none ∧ ∃ (c' : Addr) (doc pm ctv : Value), H1 f = some (FunO f (lfd X scope params body c' dV doc pm ctv)) ∧ H1 c' = some (CodeO c' (X.env.qual ++ "<lambda>"))
theorem lam_made {T : List (Addr × Str)} {c P : Addr} {pos : Pos} {dV : Value} {E : Value → Shared → Prop} {Q : Value → Shared → Prop} (I : Inv X pins σ H s) (TB : TabB X.base X.mg c P) (hcode : X.env.code = .ref c) (hm : (P, X.env.qual ++ "<lambda>") ∈ T)
    (hu : ∀ p ∈ T, p.1 = P → p.2 = X.env.qual ++ "<lambda>") (hT : Tabs T H) (hfree : ∀ y ∈ scope.names, y.2 = .free → ∃ c, X.env.cells.lookup y.1 = some c) (h : ∀ f H1 s', Inv X pins σ H1 s' → Made X scope params body T H dV f H1 → Q (.ref f) s') :
    wpAny (model X.prog X.w) X.A (makeTail "<lambda>" (X.env.qual ++ "<lambda>") params (.expr body) scope X.env dV .none none pos pos.line) Q E s := by
  obtain ⟨ps, hP, ht, ha⟩ := hT _ hm
  have gP : s.heap.get? P = some (PySem.W.tabObj ps) := I.hok P _ hP
  cases hc : codeAmong pos ps.toList with
  | some cv =>
    obtain ⟨c', rfl, hc'⟩ := ha pos cv hc
    refine PySem.W.kdv_makeTailHit (closure_ok hfree) I.ok.glob (I.mod.glob.keeps I.bk) hcode (TB.code.keeps I.bk) gP ht hc (TB.bm.keeps I.bk) fun ctv doc h' tk hx hge => ?_
    have I1 : Inv X pins σ H { s with heap := h', toks := tk } := I.kept hx
    have n1 : H h'.objs.size = none := I1.hok.fresh (Nat.le_refl _)
    refine h _ _ _ (fun_new (c' := c') (tk := tk) I1) ⟨fun b o e _ => by rw [upd_ne (ne_of_none e n1)]; exact e, hT.ext fun b o e => by rw [upd_ne (ne_of_none e n1)]; exact e, n1, c', doc, _, ctv, upd_same, by rw [upd_ne (ne_of_none hc' n1)]; exact hc'⟩
  | none =>
    refine PySem.W.kdv_makeTail (closure_ok hfree) I.ok.glob (I.mod.glob.keeps I.bk) hcode (TB.code.keeps I.bk) gP ht hc TB.gP (TB.bm.keeps I.bk) fun c' ctv doc h' tk hx hge _ hrec htb => ?_
    obtain ⟨c2, oc, vs, t, e2, r1, r2, r3⟩ := hrec
    cases e2
    have nC : H c' = none := I.hok.fresh hge
    have I1 := inv_table (t' := tk) I hP (fun b o hb e => hx b o hb e) htb hge ⟨oc, vs, t, r1, r2, r3⟩
    have n1 := I1.hok.fresh (a := h'.objs.size) (Nat.le_refl _)
    have T1 := tabs_more (pos := pos) hT hP ht nC hu
    have X1 : ExtN H (upd (upd H P (.tbl (ps ++ #[rawInt pos.line, rawInt pos.col, .ref c']))) c' (CodeO c' (X.env.qual ++ "<lambda>"))) := fun b o e n => by
      rw [upd_ne (ne_of_none e nC), upd_ne (fun y => by rw [y, hP] at e; cases e; exact n _ rfl)]
      exact e
    have hc' : upd (upd H P (.tbl (ps ++ #[rawInt pos.line, rawInt pos.col, .ref c']))) c' (CodeO c' (X.env.qual ++ "<lambda>")) c' = some (CodeO c' (X.env.qual ++ "<lambda>")) := upd_same
    have nH : H h'.objs.size = none := by
      by_cases y : h'.objs.size = c'
      · rw [y]; exact nC
      · by_cases y2 : h'.objs.size = P
        · rw [y2, upd_ne (ne_of_none hP nC), upd_same] at n1
          cases n1
        · rw [upd_ne y, upd_ne y2] at n1
          exact n1
    generalize upd (upd H P (.tbl (ps ++ #[rawInt pos.line, rawInt pos.col, .ref c']))) c' (CodeO c' (X.env.qual ++ "<lambda>")) = H2 at *
    refine h _ _ _ (fun_new (c' := c') (tk := tk) I1) ⟨X1.trans fun b o e _ => by rw [upd_ne (ne_of_none e n1)]; exact e, T1.ext fun b o e => by rw [upd_ne (ne_of_none e n1)]; exact e, nH, c', doc, _, ctv, upd_same, by rw [upd_ne (ne_of_none hc' n1)]; exact hc'⟩
/-- lambda: body -/
def tLamV (X : Cx) (scope : Scope) (params : Arguments) (body : Expr) (T : List (Addr × Str)) : TE := fun _ H Q => Tabs T H ∧ ∀ f H1 dV, Made X scope params body T H dV f H1 → BindL X scope params body dV H1 → Q (.ref f) H1
theorem Made.of_ext {T : List (Addr × Str)} {H0 H1 : Hp} {dV : Value} {f : Addr} (e : ∀ b o, H b = some o → H0 b = some o) (n : ∀ b, H0 b = none → H b = none) (m : Made X scope params body T H0 dV f H1) : Made X scope params body T H dV f H1 :=
  ⟨(ExtN.of e).trans m.1, m.2.1, n _ m.2.2.1, m.2.2.2⟩
theorem pe_lam0 {T : List (Addr × Str)} {c P : Addr} {pos : Pos} (TB : TabB X.base X.mg c P) (hcode : X.env.code = .ref c) (hm : (P, X.env.qual ++ "<lambda>") ∈ T)
    (hu : ∀ p ∈ T, p.1 = P → p.2 = X.env.qual ++ "<lambda>") (L : LScope X.env.scope scope X.N) (hp : params = ⟨[], [], none, [], [], none, []⟩) : PE X (.Lambda params body scope pos) (tLamV X scope params body T) := by
  subst hp
  refine ⟨fun pins s σ H Q I ⟨hT, h⟩ => ?_⟩
  refine PySem.W.kla_eval rfl ?_
  rw [makeFunction_eq]
  simp only [List.zip_nil_right, List.filterMap_nil, List.isEmpty_nil, if_true, pure_bind]
  refine lam_made I TB hcode hm hu hT (L.has I.ok) fun f H1 s' I1 m => ⟨.ref f, H1, I1, rfl, h f H1 .none m fun P w s c' doc pm ctv _ => ⟨[], .of_eq rfl, fun _ z => nomatch z⟩⟩
theorem pe_lam1 {T : List (Addr × Str)} {c P : Addr} {pos p1 p2 : Pos} {x : Str} {i : Int} {j : Nat} (TB : TabB X.base X.mg c P) (hcode : X.env.code = .ref c) (hm : (P, X.env.qual ++ "<lambda>") ∈ T)
    (hu : ∀ p ∈ T, p.1 = P → p.2 = X.env.qual ++ "<lambda>") (L : LScope X.env.scope scope X.N) (hx : scope.names.lookup x = some .local) (hp : params = ⟨[], [⟨x, none, p1⟩], none, [], [], none, [.Constant (.int i) j p2]⟩) : PE X (.Lambda params body scope pos) (tLamV X scope params body T) := by
  subst hp
  refine ⟨fun pins s σ H Q I ⟨hT, h⟩ => ?_⟩
  refine PySem.W.kdv_lam rfl rfl (evalAll_cons ?_)
  have h0 := (pe_int (X := X) (i := i) (j := j) (pos := p2)).run pins s σ H (fun v H1 => v = .int i ∧ H1 = H) I ⟨rfl, rfl⟩
  refine thn h0 fun u s1 ⟨v, H1, I1, r, ev, eH⟩ => ?_
  subst ev
  subst eH
  obtain ⟨t, rfl⟩ := r
  refine evalAll_nil ?_
  rw [makeFunction_eq]
  simp only [List.zip_nil_right, List.filterMap_nil, List.isEmpty_nil, if_true, pure_bind, List.isEmpty_cons, Bool.false_eq_true, if_false]
  refine wpAny_bind (wpAny_newTextTuple ?_)
  have nd : H1 s1.heap.objs.size = none := I1.hok.fresh (Nat.le_refl _)
  have I2 : Inv X pins σ (upd H1 s1.heap.objs.size (.tup [.int i])) { s1 with heap := s1.heap.push { cls := .type "tuple", data := .seq [Value.int i t].toArray } } :=
    I1.laid (t' := s1.toks) (fun b u e => Heap.get?_push_of_some _ e) (Nat.le_refl _) ⟨by show 1 ≤ sizeLine; decide, [Value.int i t], .cons ⟨t, rfl⟩ .nil, ⟨_, Heap.get?_push_size _ rfl, rfl, _, rfl⟩⟩
  have e2 : ∀ b o, H1 b = some o → upd H1 s1.heap.objs.size (.tup [.int i]) b = some o := fun b o e => by
    rw [upd_ne (ne_of_none e nd)]
    exact e
  have hT2 := hT.ext e2
  have ht : upd H1 s1.heap.objs.size (.tup [.int i]) s1.heap.objs.size = some (.tup [.int i]) := upd_same
  have n2 : ∀ b, upd H1 s1.heap.objs.size (.tup [.int i]) b = none → H1 b = none := fun b z => NdefX.upd_none z
  generalize upd H1 s1.heap.objs.size (.tup [.int i]) = H2 at *
  refine lam_made I2 TB hcode hm hu hT2 (L.has I2.ok) fun f H3 s' I3 m => ⟨.ref f, H3, I3, rfl, h f H3 _ (m.of_ext e2 n2) fun P w s c' doc pm ctv ok => ?_⟩
  have ht3 : H3 s1.heap.objs.size = some (.tup [.int i]) := m.1 _ _ ht fun _ z => by cases z
  obtain ⟨_, its, vs, o, h1, h2, n, h3⟩ := (show ObjOk P w H3 s.heap s1.heap.objs.size (.tup [.int i]) from ok _ _ ht3)
  cases vs with
  | @cons _ u _ ur ra rw' =>
    cases rw'
    exact ⟨[(x, u)], .of_defaults rfl h1 h3 rfl (by simp), fun y hy => by
      rw [List.mem_singleton.mp hy]
      exact hx⟩
end
section
variable {X : Cx} {scope : Scope} {params : Arguments} {body : Expr} {k : Nat}
/-- the captured cells' objects, now -/
def heldNow (X : Cx) (scope : Scope) (h : Heap) : Addr → Option Obj := fun c => if (clo X scope).any (fun p => decide (p.2 = c)) then h.get? c else none
theorem held_mem {h : Heap} {c : Addr} {o : Obj} (e : heldNow X scope h c = some o) : (∃ y, (y, c) ∈ clo X scope) ∧ h.get? c = some o := by
  unfold heldNow at e
  split at e
  · rename_i q
    obtain ⟨⟨y, c2⟩, hp, z⟩ := List.any_eq_true.mp q
    exact ⟨⟨y, of_decide_eq_true z ▸ hp⟩, e⟩
  · cases e
theorem held_in {h : Heap} {y : Str} {c : Addr} (e : (clo X scope).lookup y = some c) : heldNow X scope h c = h.get? c := by
  unfold heldNow
  rw [if_pos (List.any_eq_true.mpr ⟨(y, c), PySem.mem_of_lookup e, decide_eq_true rfl⟩)]
theorem clo_mem (L : LScope X.env.scope scope X.N) (ok : X.Ok) {y : Str} {c : Addr} (e : (y, c) ∈ clo X scope) : X.env.cells.lookup y = some c := by
  rcases cloFrom_mem e with hm | ⟨h1, h2⟩
  · cases hm
  · obtain ⟨c1, hc⟩ := L.has ok _ h1 rfl
    have hc : X.env.cells.lookup y = some c1 := hc
    rw [h2, hc]
    rfl
theorem held_of {pins : List (Addr × Obj)} {σ : L2.St} {H : Hp} {s : Shared} (L : LScope X.env.scope scope X.N) (I : Inv X pins σ H s) : Held X scope σ (heldNow X scope s.heap) ∧ Free (heldNow X scope s.heap) H := by
  have hfree := L.has I.ok
  refine ⟨⟨fun y c e => ?_, fun i x v e1 e2 e3 => ?_⟩, fun c o e => ?_⟩
  · obtain ⟨v, o, ho, hd⟩ := I.cell y c (NdefX.clo_cm hfree e)
    exact ⟨o, v, by rw [held_in e]; exact ho, hd⟩
  · obtain ⟨m, hn, hl⟩ := I.loc
    have hm := PySem.mem_of_lookup e3
    have hvis : Vis X.env.scope x := (L.free _ hm rfl).elim (fun k => .inr (.inl k)) fun k => .inr (.inr k)
    obtain ⟨u, r, lo⟩ := hl i x v e1 e2 hvis
    rcases lo with ⟨k, _⟩ | ⟨_, c, ec, o, ho, hd⟩
    · rcases L.free _ hm rfl with k2 | k2 <;> (rw [show X.env.kindOf x = _ from k2] at k; cases k)
    · have e4 := NdefX.clo_has hfree hm ec
      exact ⟨c, o, u, e4, by rw [held_in e4]; exact ho, hd, r⟩
  · obtain ⟨⟨y, hy⟩, _⟩ := held_mem e
    exact I.freeC y c (clo_mem L I.ok hy)
/-- what a def makes of the exceptions of what it is handed, is the same with cells tracked -/
def Nat1 (Wx : Value → Option Addr → Hp → VK → Prop) : Prop := ∀ (l : Addr → Option Obj) (cls : Value) (d : Option Addr) (H : Hp) (Q : VK), Free l H → Wx cls d H Q → Wx cls d (addC l H) (fun v H2 => Cin l H2 ∧ Q v (subC l H2))
/-- the promise of a def that calls what it is handed, gives out what that gives, and makes Wx of its exceptions -/
def spGive (Wx : Value → Option Addr → Hp → VK → Prop) (act : Act) : Sp := fun vs H Q _ => ∃ f, vs = [.ref f] ∧ act f H Q (fun cls d H' => Wx cls d H' Q)
/-- x(lambda: body) -/
theorem pe_give {Wx : Value → Option Addr → Hp → VK → Prop} {T : List (Addr × Str)} {x a : Str} {g : Addr} {fd : FuncData} {j : Nat} {tb : XK → TE} {p lpos pos : Pos} (nat : Nat1 Wx)
    (G : ∀ act, ActOk X.prog X.w X.K X.mg X.base (k + 1) act → FnOk X.prog X.w X.K X.mg X.base CX0 j g fd [a] (spGive Wx act)) (hr : Room j X.A) (hg : Gl X x) (hm : X.mg x = some (.ref g)) (hk : PySem.W.keepIn X.K (.ref g) = true) (hb : Binds X.K fd [a] [])
    (hfn : ∀ y, X.fn y = true) (L : LScope X.env.scope scope X.N) (he : PE X (.Lambda params body scope lpos) (tLamV X scope params body T))
    (hbody : ∀ (A : Around) (outer : List Env) (s : Shared) (H : Hp) (E : XK) (f c' : Addr), Room k (A.deeper (lamEnv X scope s.heap.objs.size f c')) → PE (lamCx X A outer s H E scope f c') body (tb E)) (hdb : (x == ("__debug__" : Str)) = false := by decide) :
    PE X (.Call (.Name x p) [.Lambda params body scope lpos] [] pos) (fun σ H Q => Tabs T H ∧ ∀ H1, ExtN H H1 → Tabs T H1 → tb (fun cls d H2 => Wx cls d H2 Q) σ H1 Q) := by
  refine ⟨fun pins s σ H Q I ⟨hT, h⟩ => ?_⟩
  refine wpAny_Call_Name_kw (ld_glob I hg hm ?_ hdb)
  refine PySem.W.callWith_K (h₀ := X.base) I.ok.mod.kin hk (thn ((pa_cons he pa_nil).run pos pins s σ H (fun vs H1 => ∃ f dV, vs = [.ref f] ∧ Made X scope params body T H dV f H1 ∧ BindL X scope params body dV H1) I ⟨hT, fun f H1 dV m b => ⟨f, dV, rfl, m, b⟩⟩) fun us s1 ⟨vs, H1, I1, r, f, dV, ev, m, bl⟩ => ⟨I1.kIn, ?_⟩) rfl rfl
  subst ev
  obtain ⟨V, F⟩ := held_of L I1
  obtain ⟨x1, t1, nf, c', doc, pm, ctv, hf, hc⟩ := m
  have q := h H1 x1 t1
  have hh : ∀ b o, heldNow X scope s1.heap b = some o → s1.heap.get? b = some o := fun b o e => (held_mem e).2
  have cell_hi : ∀ b o, heldNow X scope s1.heap b = some o → X.s_0.heap.objs.size ≤ b := fun b o e => by
    obtain ⟨⟨y, hy⟩, _⟩ := held_mem e
    exact I.ok.cab y b (hfn y) (clo_mem L I.ok hy)
  have cell_ne : ∀ b o, heldNow X scope s1.heap b = some o → b ≠ X.env.locals := fun b o e => by
    obtain ⟨⟨y, hy⟩, _⟩ := held_mem e
    exact I1.cne y b (clo_mem L I.ok hy)
  have okA := hok_add F I1.hok hh
  generalize heldNow X scope s1.heap = l at *
  have A := lact_ok (params := params) (body := body) I.ok L V I1.len hbody
  have e0 := I1.env0
  have none_of : ∀ b, H1 b = none → l b = none → addC l H1 b = none := fun b n e => by rw [addC_out e]; exact n
  have lbase : ∀ b o, X.base.get? b = some o → l b = none := fun b o e => by
    cases z : l b with
    | none => rfl
    | some o2 => exact absurd (Nat.lt_of_lt_of_le (Heap.lt_size e) I.ok.bsz) (Nat.not_lt.mpr (cell_hi b o2 z))
  have lfr : ∀ b ∈ frs X.stack, l b = none := fun b hb => by
    cases z : l b with
    | none => rfl
    | some o2 =>
      rcases List.mem_cons.mp (I1.stkSub b hb) with y | y
      · exact absurd y (cell_ne b o2 z)
      · obtain ⟨_, ob, hob, _⟩ := I1.ok.funs.mem y
        exact absurd (Heap.lt_size hob) (Nat.not_lt.mpr (cell_hi b o2 z))
  have e1 : Env0 X.prog X.w X.K X.mg X.base X.A X.stack s1 (addC l H1) := ⟨e0.frames, e0.mod, fun b o e => ⟨(e0.bs b o e).1, none_of b (e0.bs b o e).2 (lbase b o e)⟩, e0.bsz, e0.funs, fun b hb => none_of b (e0.frf b hb) (lfr b hb), okA, e0.bare⟩
  have hsp : spGive Wx (lact X scope params body σ l tb) [.ref f] (addC l H1) (fun v H2 => Cin l H2 ∧ Q v (subC l H2)) (fun _ _ _ => False) := by
    refine ⟨f, rfl, c', dV, doc, pm, ctv, H1, Q, _, rfl, F, hf, hc, fun P w s c' doc pm ctv ok => ?_, q, fun v H2 F2 q2 => ⟨cin_add, by rw [sub_add F2]; exact q2⟩, fun cls d H2 F2 q2 => nat l cls d H2 Q F2 q2⟩
    have := hok_sub (l := l) cin_add ok
    rw [sub_add F] at this
    exact bl P w s c' doc pm ctv this
  refine wpAny_call (codeAny_mono ((G _ A).run X.A X.stack s1 (addC l H1) ⟨us, []⟩ (us ++ []) [.ref f] _ _ hr e1 (hb s1 us I1.kIn (by rw [List.append_nil, ← r.length]; rfl)) (by rw [List.append_nil]; exact r) hsp) fun r s' hq => ?_)
  match r with
  | .error er => exact hq.elim
  | .ok (.ret u) =>
    obtain ⟨v, H2, os, bare, un, hok, r2, C2, q2⟩ := hq
    exact ⟨v, subC l H2, I1.call' (ch := []) os (un_sub F C2 hok hh un) (hok_sub C2 hok) bare (fun b z => absurd z (by simp)), r2, q2⟩
  | .ok .next => exact hq.elim
  | .ok .brk => exact hq.elim
  | .ok .cont => exact hq.elim
end
end CS
set_option Elab.async false
set_option maxRecDepth 100000
set_option maxHeartbeats 4000000
set_option linter.unusedVariables false
/-! An exception class of the program's own over any built-in one, whose __init__ stores its one argument. -/
namespace CS
open PySem PySem.Spec PyProof.Rows L2
/-- what the written part says of it: x its name, f the field, bmB the built-in classes above -/
structure OwnX (K : PySem.W.Frag) (mg : Str → Option Value) (x f : Str) (C fI : Addr) (bmB : List Value) (newId : String) : Prop where
  gC : mg x = some (.ref C)
  ini : PySem.W.excInitIn K C bmB newId = true
  ovr : PySem.W.excOver K C bmB = true
  sa : PySem.W.findIn K (.ref C) "__setattr__" = some (some (.builtin "object.__setattr__"))
  tk : PySem.W.takerIn K C f = some none
  xf : XfC K C
  noF : PySem.W.findIn K (.ref C) f = some none
  iC : PySem.W.findIn K (.ref C) "__init__" = some (some (.ref fI))
  tI : PySem.W.typeIn K (.ref fI) = some (.type "function")
  kC : PySem.W.keepIn K (.ref C) = true
  tyC : PySem.W.typeIn K (.ref C) = some (.type "type")
section
variable {X : Cx} {pins : List (Addr × Obj)} {σ : L2.St} {H : Hp} {s : Shared} {a C fI : Addr} {x f : Str} {y : V} {u : Value} {bmB : List Value} {B newId initId : String}
/-- what the store leaves -/
def Stored (H : Hp) (a C : Addr) (f : Str) (y : V) (dx : Addr) (H' : Hp) : Prop := H dx = none ∧ dx ≠ a ∧ H' a = some (exo a C (some dx)) ∧ H' dx = some (exd dx [(f, y)]) ∧ ∀ b, b ≠ a → b ≠ dx → H' b = H b
theorem put_new {A : Around} {Q : Unit → Shared → Prop} {E : Value → Shared → Prop} (SF : StoreFacts B bmB "object.__setattr__" "object") (T : OwnX X.K X.mg x f C fI bmB newId) (I : Inv X pins σ H s) (e : H a = some (exo a C none)) (ry : RelV y u)
    (h : ∀ dx H' s', Stored H a C f y dx H' → Inv X pins σ H' s' → Q () s') : wpAny (model X.prog X.w) A (setAttr (.ref a) f u) Q E s := by
  obtain ⟨t1, ho⟩ := exo_at I.hok e
  obtain ⟨hp, g, d, t, os⟩ := s
  have hnd : H hp.objs.size = none := I.hok.fresh (Nat.le_refl _)
  have lt : a < hp.objs.size := Heap.lt_size ho
  have dne : hp.objs.size ≠ a := Nat.ne_of_gt lt
  obtain ⟨cd, hc, hd⟩ := PySem.W.any_some T.xf.hdC
  refine PySem.W.set_plain I.kIn (od := none) ⟨ho, rfl, rfl, trivial⟩ T.sa ?_
  refine PySem.W.osa_openX SF I.kIn (od := none) ⟨ho, rfl, rfl, trivial⟩ T.ovr T.tk fun b => ?_
  refine wpAny_bind (wpAny_pure (wpAny_bind (PySem.W.instanceDict_exc ho (PySem.W.looks_clsIn I.kIn hc) hd ?_)))
  have e1 : (hp.push (PySem.W.dictOf [] 0)).get? hp.objs.size = some (PySem.W.dictOf [] 0) := Heap.get?_push_size _ rfl
  have n1 : (hp.push (PySem.W.dictOf [] 0)).Ns hp.objs.size (fun _ => none) := ⟨_, _, _, e1, rfl, fun q hq => absurd hq (by simp), fun _ => rfl⟩
  have I1 : Inv X pins σ (upd H hp.objs.size (exd hp.objs.size [])) ⟨hp.push (PySem.W.dictOf [] 0), g, d, t, os⟩ := I.laid (fun b o q => Heap.get?_push_of_some _ q) (Nat.le_refl _) (exd_ok (Heap.Ns1.of_empty n1) fun _ => True.intro)
  have ea : upd H hp.objs.size (exd hp.objs.size []) a = some (exo a C none) := by rw [upd_ne (Ne.symm dne)]; exact e
  have ho1 := Heap.get?_push_of_some (PySem.W.dictOf [] 0) ho
  have ho2 := Heap.get?_update_self (fun o : Obj => { o with dict := some hp.objs.size }) ho1 rfl
  have I2 := I1.write (x := a) (e := a) (o := exo a C (some hp.objs.size)) (t' := t) (h' := (hp.push (PySem.W.dictOf [] 0)).update a fun o => { o with dict := some hp.objs.size }) (by rw [ea]; exact True.intro) (.inl rfl)
    (fun b o hb q => by rw [Heap.get?_update_other _ _ (Ne.symm hb)]; exact q) ⟨_, ho2⟩ (exo_ok ho2)
  have n2 : ((hp.push (PySem.W.dictOf [] 0)).update a fun o => { o with dict := some hp.objs.size }).Ns hp.objs.size (fun _ => none) :=
    ⟨_, _, _, by rw [Heap.get?_update_other _ _ (Ne.symm dne)]; exact e1, rfl, fun q hq => absurd hq (by simp), fun _ => rfl⟩
  have ed : upd (upd H hp.objs.size (exd hp.objs.size [])) a (exo a C (some hp.objs.size)) hp.objs.size = some (exd hp.objs.size []) := by rw [upd_ne dne, upd_same]
  show wpAny _ _ (Builtin.ObjectAttr.storeInDict hp.objs.size _ f u) _ _ _
  refine PySem.HandSPX.store_in_new n2 fun h3 tk3 hn3 hs3 => ?_
  obtain ⟨o3, es3, ep3, q3, r3⟩ := id hn3
  have I3 := I2.write (x := hp.objs.size) (e := hp.objs.size) (o := exd hp.objs.size [(f, y)]) (t' := tk3) (h' := h3) (by rw [ed]; exact True.intro) (.inl rfl) (fun b o hb q => (hs3.2 b hb).trans q) ⟨_, q3⟩
    (exd_ok hn3 (relO_put (fs := []) ry fun g => True.intro))
  exact h _ _ _ ⟨hnd, dne, by rw [upd_ne (Ne.symm dne), upd_same], upd_same, fun b h1 h2 => by rw [upd_ne h2, upd_ne h1, upd_ne h2]⟩ I3
/-- self.f = e, self an exception that has no field yet -/
def tPut (C : Addr) (f : Str) (to te : TE) : TS := fun D σ H => te σ H fun y H1 => to σ H1 fun x H2 => ∃ a, x = .ref a ∧ H2 a = some (exo a C none) ∧ ∀ dx H', Stored H2 a C f y dx H' → D.nx σ H'
theorem ps_put {o e : Expr} {to te : TE} {p' pos : Pos} (SF : StoreFacts B bmB "object.__setattr__" "object") (T : OwnX X.K X.mg x f C fI bmB newId) (ho : PE X o to) (he : PE X e te) (hs : swapsWith e (some (.Attribute o f p')) pos.line X.env = pure false := by rfl) : PS X (.Assign [.Attribute o f p'] e pos) (tPut C f to te) := by
  refine ⟨fun pins s σ H D I h => plainObj_wpAny_Assign_Attribute (thn (he.run pins s σ H _ I h) fun v s1 ⟨y, H1, I1, r1, q1⟩ => thn (ho.run pins s1 σ H1 _ I1 q1) fun w2 s2 ⟨z, H2, I2, r2, a, ez, ea, q⟩ => ?_) hs⟩
  subst ez
  obtain rfl : w2 = Value.ref a := r2
  exact put_new SF T I2 ea r1 fun dx H' s' st J => ⟨σ, H', J, q dx H' st⟩
/-- the promise of such an __init__ -/
def spPut (C : Addr) (f : Str) : Sp := fun vs H Q _ => ∃ a y, vs = [.ref a, y] ∧ H a = some (exo a C none) ∧ ∀ dx H', Stored H a C f y dx H' → Q .non H'
theorem ok_put {P : Program} {w : World} {K : PySem.W.Frag} {mg : Str → Option Value} {base : Heap} {st : Stmt} {qual : Str} {fd : FuncData} {p1 p2 p3 p4 : Pos} (SF : StoreFacts B bmB "object.__setattr__" "object") (T : OwnX K mg x f C fI bmB newId)
    (F : Fun K "__init__" qual st fI fd) (S : FnScope ["self", f] ["self", f] (defScope st)) (hb : defBody st = [.Assign [.Attribute (.Name "self" p1) f p2] (.Name f p3) p4]) (hf : (defScope st).names.lookup f = some .local) (hs : (defScope st).names.lookup ("self" : Str) = some .local)
    (hd : (f == ("__debug__" : Str)) = false) (hcd : (f == ("__classdict__" : Str)) = false) (hsw : ∀ env : Env, swapsWith (.Name f p3) (some (.Attribute (.Name "self" p1) f p2)) p4.line env = pure false) : FnOk P w K mg base CX0 1 fI fd ["self", f] (spPut C f) := by
  refine F.ok S (fun vs H Q E h => ?_) (fun cdv A outer s H vs Q E hr h => ?_)
  · obtain ⟨a, y, rfl, _⟩ := h
    rfl
  · obtain ⟨a, y, rfl, ea, k⟩ := h
    rw [hb]
    refine ⟨_, pss_one (ps_put SF T (pe_var (i := 0) rfl (.inl hs) (by decide) (by decide)) (pe_var (i := 1) rfl (.inl hf) hd hcd) (hsw _)), ?_⟩
    exact ⟨_, rfl, _, rfl, a, rfl, ea, fun dx H' st => k dx H' st⟩
/-- C(e) as an exception that is raised -/
def tMkX (C : Addr) (f : Str) (ta : TA) : L2.St → Hp → XK → Prop := fun σ H Q => ta σ H fun vs H1 => ∃ v, vs = [v] ∧ ∀ d, H1 d = none → Q (.ref C) (some d) (upd H1 d (.xd [(f, v)]))
theorem pmk_own1 {e : Expr} {ta : TA} {p pos : Pos} {k : Nat} {fd : FuncData} (FB : ExcBaseFacts B newId initId bmB) (T : OwnX X.K X.mg x f C fI bmB newId) (G : FnOk X.prog X.w X.K X.mg X.base CX0 k fI fd ["self", f] (spPut C f)) (hb : Binds X.K fd ["self", f] []) (hr : Room (k + 1) X.A) (hg : Gl X x) (ha : PA X [e] ta)
    (hdb : (x == ("__debug__" : Str)) = false := by decide) (he : starEach [e] X.env = (false, eval e X.env) :: starEach [] X.env := by rfl) (hpl : (backTo pos (starEach [] X.env)).any (·.1) = false := by rfl) : PMk X (.Call (.Name x p) [e] [] pos) (tMkX C f ta) := fun pins s σ H Q I h => by
  refine wpAny_Call_Name_kw (ld_glob I hg T.gC (PySem.W.callWith_K (h₀ := X.base) I.ok.mod.kin T.kC (thn (ha.run pos pins s σ H _ I h) fun us s1 ⟨vs, H1, I1, r1, v, ev, q⟩ => ⟨I1.kIn, ?_⟩) he hpl) hdb)
  subst ev
  obtain ⟨nm, N, qn, bs, bm, hdct, sn, sub, ab, col, dd, k0, k1, k2, k3, k5, hC, hT⟩ := PySem.W.excInit_of I1.kIn T.ini
  have hus : us.length ≤ sizeLine := by
    rw [← r1.length]
    show 1 ≤ sizeLine
    decide
  obtain ⟨hp, g, dr, tk, os⟩ := s1
  obtain ⟨a, ea⟩ : ∃ a, a = hp.objs.size + 1 := ⟨_, rfl⟩
  obtain ⟨h2, eh⟩ : ∃ h2, h2 = (hp.push (PySem.W.kdv_tup us)).push (PySem.HandSPX.excO C hp.objs.size) := ⟨_, rfl⟩
  have big : hp.objs.size ≤ a := by rw [ea]; exact Nat.le_succ _
  have kp : ∀ b o, hp.get? b = some o → h2.get? b = some o := fun b o z => by
    rw [eh]
    exact Heap.get?_push_of_some _ (Heap.get?_push_of_some _ z)
  have at_ : h2.get? a = some (PySem.HandSPX.excO C hp.objs.size) := by
    rw [eh, ea]
    heap_get
  have na : H1 a = none := I1.hok.fresh big
  have I2 : Inv X pins σ (upd H1 a (exo a C none)) ⟨h2, g, dr, tk, os⟩ := I1.laid (t' := tk) kp big (exo_ok at_)
  have hsp : spPut C f [.ref a, v] (upd H1 a (exo a C none)) (fun v2 H2 => v2 = .non ∧ ∃ dx, Stored (upd H1 a (exo a C none)) a C f v dx H2) (fun _ _ _ => False) := ⟨a, v, rfl, upd_same, fun dx H' st => ⟨rfl, dx, st⟩⟩
  have run := G.run (A := X.A.under (.builtin "type.__call__" ⟨.ref C :: us, []⟩)) (outer := X.stack) (s := ⟨h2, g, dr, tk, os⟩) (args := ⟨.ref a :: us, []⟩) (us := .ref a :: us) (vs := [.ref a, v]) (Q := _) (E := fun _ _ _ => False) (H := upd H1 a (exo a C none)) (hr.make C us []) (I2.env0.make C us [])
    (by have := hb ⟨h2, g, dr, tk, os⟩ (.ref a :: us) I2.kIn (by rw [List.append_nil, List.length_cons, ← r1.length]; rfl); rw [List.append_nil] at this; exact this) (.cons rfl r1) hsp
  show wpAny _ _ (call (.ref C) us) _ _ _
  refine wpAny_call (PySem.HandSPX.call_own FB hT hC (PySem.W.looks_findIn I1.kIn T.iC) (fun self => PySem.W.bind_fn I1.kIn self T.tI) hus ?_)
  rw [← ea, ← eh]
  refine codeAny_mono run fun r s' hq => ?_
  match r with
  | .error er => exact hq.elim
  | .ok .next => exact hq.elim
  | .ok .brk => exact hq.elim
  | .ok .cont => exact hq.elim
  | .ok (.ret z) =>
    obtain ⟨v2, H2, os2, bare2, un2, hok2, rv, ev2, dx, st1, st2, st3, st4, st5⟩ := hq
    have nd : H1 dx = none := by rw [upd_ne st2] at st1; exact st1
    have eq : upd (del H2 a) dx (.xd [(f, v)]) = upd H1 dx (.xd [(f, v)]) := by
      funext b
      by_cases h1 : b = dx
      · rw [h1, upd_same, upd_same]
      · rw [upd_ne h1, upd_ne h1]
        by_cases h2 : b = a
        · rw [h2, del_same, na]
        · rw [del_ne h2, st5 b h2 h1, upd_ne h2]
    obtain ⟨h3, g3, d3, t3, os3⟩ := s'
    have fin := mk_end (Q := Q) (d2 := d3) (t2 := t3) (raises_own T.xf.exC T.tyC) I1 big kp un2 hok2 os2 bare2 st3 st4 nd (by rw [eq]; exact q dx nd)
    subst ev2
    exact ⟨rv, fin⟩
end
end CS
set_option Elab.async false
set_option maxRecDepth 100000
set_option maxHeartbeats 4000000
set_option linter.unusedVariables false
/-! try with several except clauses, some with a name, some without. -/
namespace CS
open PySem PySem.Spec PyProof.Rows L2
/-- the exception at a, of the class cls with the dict d, has landed; W0 is what is wanted of one that no clause takes -/
structure Landed (X : Cx) (pins : List (Addr × Obj)) (σ : L2.St) (H : Hp) (a : Addr) (cls : Value) (d : Option Addr) (s : Shared) : Prop where
  go : ∃ (B : Heap) (sI : Shared), HandSPX.FlyingZ B (X.env :: X.outer) a (Zc cls d) s.heap ∧ Inv X pins σ H sI ∧ (∀ b o, sI.heap.get? b = some o → b ∉ frs X.stack → B.get? b = some o) ∧ sI.heap.UpToSlots s.heap ∧ s.os = sI.os ∧ AllBare s.gens
  no : H a = none
abbrev TSx := Addr → Value → Option Addr → TS
section
variable {X : Cx} {pins : List (Addr × Obj)} {σ : L2.St} {H : Hp} {s : Shared} {a : Addr} {cls : Value} {d : Option Addr}
theorem Landed.inv (L : Landed X pins σ H a cls d s) : Inv X pins σ H s := by
  obtain ⟨B, sI, fl, J, nb, up, os, ag⟩ := L.go
  exact J.landed nb fl.1 up os ag
/-- the state within a suite -/
theorem Landed.suite (L : Landed X pins σ H a cls d s) (hf : X.env.frame = some X.env.locals) : ∃ oe, Zc cls d oe ∧ (∃ vs, oe.data = .fields vs) ∧ s.heap.get? a = some oe ∧ Inv (X.suite a ((a, oe) :: (X.pn ++ pins))) [] σ H s := by
  have J := L.inv
  obtain ⟨B, sI, fl, _⟩ := L.go
  obtain ⟨oe, vs, he, hz, hd⟩ := fl.there
  have no : a ∉ frs (X.env :: X.outer) := fun hm => by
    obtain ⟨_, o, e, n⟩ := fl.2.2.1.mem hm
    rw [he] at e
    cases e
    exact n _ hd
  have in_ : ∀ e ∈ X.env :: X.outer, e.frame ≠ some a := fun e he q => no (List.mem_filterMap.mpr ⟨e, he, q⟩)
  refine ⟨oe, hz, ⟨vs, hd⟩, he, J.suite he hd L.no (fun z => in_ _ List.mem_cons_self (by rw [hf, z])) fun hm => ?_⟩
  obtain ⟨e, h1, h2⟩ := List.mem_filterMap.mp hm
  exact in_ e (List.mem_cons_of_mem _ h1) h2
/-- it is looked at once more -/
theorem Landed.again {M : Model} {A : Around} {E : Value → Shared → Prop} {Q : Unit → Shared → Prop} (L : Landed X pins σ H a cls d s) (h : ∀ s', Landed X pins σ H a cls d s' → Q () s') :
    ∃ B, HandSPX.FlyingZ B (X.env :: X.outer) a (Zc cls d) s.heap ∧ ∀ h', HandSPX.FlyingZ B (X.env :: X.outer) a (Zc cls d) h' → s.heap.UpToSlots h' → Q () { s with heap := h' } := by
  obtain ⟨B, sI, fl, J, nb, up, os, ag⟩ := L.go
  exact ⟨B, fl, fun h' fl' up' => h _ ⟨⟨B, sI, fl', J, nb, up.trans up', os, ag⟩, L.no⟩⟩
end
/-- clauses with a name or without; what they wish of an exception, the wish W0 where none takes it -/
inductive Clauses (X : Cx) (W0 : WX) : List ExceptHandler → (Ends → WX) → Prop
  | nil : Clauses X W0 [] (fun _ => W0)
  | plain {x : Str} {c : Value} {ts : TSx} {b₀ : Stmt} {suite : List Stmt} {np pos' : Pos} {hds : List ExceptHandler} {W : Ends → WX} (hc : Names X x c)
      (hsu : ∀ (a : Addr) (oe : Obj) (cls : Value) (d : Option Addr) (pn : List (Addr × Obj)), Zc cls d oe → (∃ vs, oe.data = .fields vs) → PSs (X.suite a ((a, oe) :: pn)) (b₀ :: suite) (ts a cls d)) (r : Clauses X W0 hds W) :
      Clauses X W0 (.ExceptHandler (some (.Name x np)) none (b₀ :: suite) pos' :: hds) (fun D cls d σ H => ∃ b, PySem.W.exmOne X.K cls c = some b ∧ (b = true → ∀ a, H a = none → ts a cls d D σ H) ∧ (b = false → W D cls d σ H))
  | named {x n : Str} {c : Value} {i : Nat} {ts : TSx} {b₀ : Stmt} {suite : List Stmt} {np pos' : Pos} {hds : List ExceptHandler} {W : Ends → WX} (hc : Names X x c) (hi : X.N[i]? = some n) (hln : X.env.kindOf n = some .local)
      (hsu : ∀ (a : Addr) (oe : Obj) (cls : Value) (d : Option Addr) (pn : List (Addr × Obj)), Zc cls d oe → (∃ vs, oe.data = .fields vs) → PSs (X.suite a ((a, oe) :: pn)) (b₀ :: suite) (ts a cls d)) (r : Clauses X W0 hds W) :
      Clauses X W0 (.ExceptHandler (some (.Name x np)) (some n) (b₀ :: suite) pos' :: hds) (fun D cls d σ H => ∃ b, PySem.W.exmOne X.K cls c = some b ∧
        (b = true → ∀ a, H a = none → ts a cls d { nx := fun σ' H' => D.nx (σ'.set i none) H', rt := D.rt, bk := fun σ' H' => D.bk (σ'.set i none) H', ct := fun σ' H' => D.ct (σ'.set i none) H' } (σ.set i (some (.ref a))) H) ∧ (b = false → W D cls d σ H))
section
variable {X : Cx} {pins : List (Addr × Obj)} {σ : L2.St} {H : Hp} {s : Shared} {a : Addr} {cls : Value} {d : Option Addr} {W0 : WX}
/-- a clause's test -/
theorem Landed.test (L : Landed X pins σ H a cls d s) (hf : X.env.frame = some X.env.locals) {x : Str} {c : Value} {np : Pos} (hc : Names X x c) {b : Bool} (hb : PySem.W.exmOne X.K cls c = some b) {Q E : Value → Shared → Prop}
    (q : (∀ (A : Around) (Q E : Bool → Shared → Prop), True) → ∀ M, PySem.W.Looks M s.heap (typeOf (.ref a)) cls → Q c s) : wpAny (model X.prog X.w) (X.A.mark (some (.ref a))) (eval (.Name x np) X.env) Q E s := by
  obtain ⟨oe, hz, hd, he, S⟩ := L.suite hf
  have q2 : Q c s := q (fun _ _ _ => trivial) (model X.prog X.w) fun A Q E s k q => wpAny_typeOf_ref (k _ _ he) (by rw [hz.1]; exact q)
  obtain ⟨hg, hdbg, hm | ⟨hm, hv, hnn⟩⟩ := hc
  · exact ld_glob (X := X.suite a ((a, oe) :: (X.pn ++ pins))) S hg hm q2 hdbg
  · exact ld_blt (X := X.suite a ((a, oe) :: (X.pn ++ pins))) S hg hm hv q2 hnn hdbg
theorem ends_plain {a : Addr} {p : Addr × Obj} {D : Ends} {f : Flow} (ok : X.Ok) (h : SP (X.suite a (p :: (X.pn ++ pins))) [] D f s) : SP X pins D f s := by
  cases f with
  | ret u =>
    obtain ⟨v, σ6, H6, S6, r, q⟩ := h
    exact ⟨v, σ6, H6, S6.unsuite ok, r, q⟩
  | next =>
    obtain ⟨σ6, H6, S6, q⟩ := h
    exact ⟨σ6, H6, S6.unsuite ok, q⟩
  | brk =>
    obtain ⟨σ6, H6, S6, q⟩ := h
    exact ⟨σ6, H6, S6.unsuite ok, q⟩
  | cont =>
    obtain ⟨σ6, H6, S6, q⟩ := h
    exact ⟨σ6, H6, S6.unsuite ok, q⟩
theorem caught (hs : X.stack = X.env :: X.outer) (hf : X.env.frame = some X.env.locals) (hN : X.N.Nodup) (tk : Takes X W0) {D : Ends} {hds : List ExceptHandler} {W : Ends → WX} (C : Clauses X W0 hds W) (L : Landed X pins σ H a cls d s) (w : W D cls d σ H) :
    wpAny (model X.prog X.w) X.A (handleBy (.ref a) X.env hds) (SP X pins D) X.xe s := by
  have ok := L.inv.ok
  have LT : ∀ M, PySem.W.Looks M s.heap (typeOf (.ref a)) cls := fun M => by
    obtain ⟨oe, hz, _, he, _⟩ := L.suite hf
    exact fun A Q E s k q => wpAny_typeOf_ref (k _ _ he) (by rw [hz.1]; exact q)
  induction C with
  | nil =>
    refine wpAny_handleBy_nil ?_
    obtain ⟨B, sI, fl, J, nb, up, os, ag⟩ := L.go
    obtain ⟨_, _, _, oe, vs, T, oT, ts, he, _, hd, h1, _⟩ := id fl
    have out : wpAny (model X.prog X.w) X.A (setFlight (.ref a) X.env.frame) (fun _ s4 => wpAny (model X.prog X.w) X.A (throw (.ref a) : Sem Flow) (SP X pins D) X.xe s4) X.xe s := by
      rw [hf]
      exact HandSPX.setFlight_upZ fl fun h4 hh4 up4 => wpAny_throw (tk _ _ ⟨a, B, sI, pins, σ, H, cls, d, rfl, J, nb, up.trans up4, .inr (.inr (by rw [hs]; exact hh4)), L.no, os, ag, w⟩)
    unfold PySem.passOn
    refine wpAny_bind (wpAny_field he hd h1 ?_)
    rw [if_neg (show ¬ ((Value.ref T == Value.none) = true) from by simp)]
    first
      | exact wpAny_bind (wpAny_pure (wpAny_bind out))
      | exact wpAny_bind out
  | plain hc hsu r ih =>
    obtain ⟨b, hb, yes, no⟩ := w
    refine wpAny_handleBy_cons (codeAny_handlers_test (L.test hf hc hb fun _ _ _ => ((PySem.W.exm_one (M := model X.prog X.w) L.inv.kIn (LT _) hb).here ?_))) (by intro q; cases q)
    cases b with
    | false => exact ih (no rfl)
    | true =>
      refine codeAny_handlers_suite ?_
      obtain ⟨B, fl, k⟩ := L.again (M := model X.prog X.w) (A := X.A) (E := X.xe) (Q := fun _ s' => Landed X pins σ H a cls d s') fun _ z => z
      refine HandSPX.lands_againZ fl fun h4 fl4 up4 => ?_
      obtain ⟨oe, hz, hd, he, S⟩ := (k h4 fl4 up4).suite hf
      exact wpAny_mono ((hsu a oe cls d (X.pn ++ pins) hz hd).run [] _ _ H _ S (yes rfl a L.no)) (fun f s6 hsp => ends_plain ok hsp) fun _ _ z => z.elim
  | @named x n c i ts b₀ suite np pos' hds W hc hi hln hsu r ih =>
    obtain ⟨b, hb, yes, no⟩ := w
    refine wpAny_handleBy_cons (codeAny_handlers_test (L.test hf hc hb fun _ _ _ => ((PySem.W.exm_one (M := model X.prog X.w) L.inv.kIn (LT _) hb).here ?_))) (by intro q; cases q)
    cases b with
    | false => exact ih (no rfl)
    | true =>
      refine codeAny_handlers_suite_as ?_
      obtain ⟨B, fl, k⟩ := L.again (M := model X.prog X.w) (A := X.A) (E := X.xe) (Q := fun _ s' => Landed X pins σ H a cls d s') fun _ z => z
      refine HandSPX.lands_againZ fl fun h4 fl4 up4 => ?_
      obtain ⟨oe, hz, hd, he, S⟩ := (k h4 fl4 up4).suite hf
      refine store_ok (X := X.suite a ((a, oe) :: (X.pn ++ pins))) (v := .ref a) S hN hi (.inl hln) rfl (fun s5 S5 => ?_) (.inr hln)
      refine wpAny_mono ((hsu a oe cls d (X.pn ++ pins) hz hd).run [] s5 _ H _ S5 (yes rfl a L.no)) (fun f s6 hsp => ?_) fun _ _ z => z.elim
      have gone : ∀ {σ6 : L2.St} {H6 : Hp} {Q : Shared → Prop}, Inv X pins σ6 H6 s6 → (∀ s7, Inv X pins (σ6.set i none) H6 s7 → Q s7) → wpAny (model X.prog X.w) X.A (do bindName X.env n .none; unbindBehindTheSuite X.env n pos') (fun _ s7 => Q s7) X.xe s6 :=
        fun J6 hq => gone_ok J6 hN hi hln hq
      have q6 := ends_plain ok hsp
      cases f with
      | ret u =>
        obtain ⟨v6, σ6, H6, J6, r6, q6⟩ := q6
        exact gone J6 fun s7 J7 => ⟨_, _, _, J7, r6, q6⟩
      | next =>
        obtain ⟨σ6, H6, J6, q6⟩ := q6
        exact gone J6 fun s7 J7 => ⟨_, _, J7, q6⟩
      | brk =>
        obtain ⟨σ6, H6, J6, q6⟩ := q6
        exact gone J6 fun s7 J7 => ⟨_, _, J7, q6⟩
      | cont =>
        obtain ⟨σ6, H6, J6, q6⟩ := q6
        exact gone J6 fun s7 J7 => ⟨_, _, J7, q6⟩
/-- try: body / except .. -/
theorem ps_tryx {body : List Stmt} {h₀ : ExceptHandler} {hds : List ExceptHandler} {W : Ends → WX} {tb : WX → TS} {pos : Pos} (hs : X.stack = X.env :: X.outer) (hf : X.env.frame = some X.env.locals) (hN : X.N.Nodup) (tk : Takes X W0) (C : Clauses X W0 (h₀ :: hds) W)
    (hb : ∀ (W : WX) (pn : List (Addr × Obj)) (xe : Value → Shared → Prop), Takes (X.tr pn xe) W → PassesOwn (model X.prog X.w) X.A X.env xe → PSs (X.tr pn xe) body (tb W)) : PS X (.Try body (h₀ :: hds) [] [] pos) (fun D σ H => tb (W D) D σ H) := by
  refine ⟨fun pins s σ H D I h => ?_⟩
  have ok := I.ok
  have hfr : X.A.frames = some (X.env :: X.outer) := by rw [ok.frames, hs]
  refine wpAny_Try_except (wpAny_mono ((hb (W D) (X.pn ++ pins) _ (fun u s' xx => ?_) PassesOwn.looking).run [] s σ H D (I.toTry _) h) (fun f s1 hsp => ?_) fun _ _ he => he)
  · obtain ⟨a, B, sI, pins', σ', H', cls, d, rfl, J, nb, up, sky, na, os, ag, w⟩ := xx
    have J := J.ofTry ok
    have sky : Sky B (X.env :: X.outer) a (Zc cls d) X.env.locals s'.heap := by rw [← hs]; exact sky
    exact Sky.land Zc.steady hfr hf sky fun h3 fl3 up3 => caught hs hf hN tk C ⟨⟨B, sI, fl3, J, nb, up.trans up3, os, ag⟩, na⟩ w
  · cases f with
    | ret u =>
      obtain ⟨v, σ', H', J, r, q⟩ := hsp
      exact ⟨v, σ', H', J.ofTry ok, r, q⟩
    | next =>
      obtain ⟨σ', H', J, q⟩ := hsp
      exact wpAny_execs_nil ⟨σ', H', J.ofTry ok, q⟩
    | brk =>
      obtain ⟨σ', H', J, q⟩ := hsp
      exact ⟨σ', H', J.ofTry ok, q⟩
    | cont =>
      obtain ⟨σ', H', J, q⟩ := hsp
      exact ⟨σ', H', J.ofTry ok, q⟩
end
end CS
set_option Elab.async false
set_option maxRecDepth 100000
set_option maxHeartbeats 8000000
set_option linter.unusedVariables false
namespace CS
open PySem L2
abbrev bmO : List Value := [.type "OverflowError", .type "ArithmeticError", .type "Exception", .type "BaseException", .type "object"]
abbrev bmV : List Value := [.type "ValueError", .type "Exception", .type "BaseException", .type "object"]
theorem AllF.app {n : Nat} {xs ys : List (Int × Fx)} (h : AllF n xs) (g : AllF n ys) : AllF n (xs ++ ys) := fun a ha => (List.mem_append.mp ha).elim (h a) (g a)
theorem AllF.up {n m : Nat} {xs : List (Int × Fx)} (h : AllF n xs) (l : n ≤ m) : AllF m xs := fun a ha => ⟨(h a ha).1, (h a ha).2.up l⟩
section
variable {P : Program} {w : World} {K : PySem.W.Frag} {mg : Str → Option Value} {base : Heap}
/-- an exception class of the text with its __init__ -/
structure Xc (K : PySem.W.Frag) (mg : Str → Option Value) (x f : Str) (C fI : Addr) (bmB : List Value) (newId : String) (st : Stmt) (qual : Str) (fd : FuncData) : Prop where
  T : OwnX K mg x f C fI bmB newId
  F : Fun K "__init__" qual st fI fd
  b : Binds K fd ["self", f] []
theorem scTmI : FnScope ["self", "most"] ["self", "most"] (defScope (inClass sToomany 0)) := ⟨rfl, rfl, rfl, by decide +kernel, rfl, by decide +kernel, by decide +kernel⟩
theorem scBsI : FnScope ["self", "given"] ["self", "given"] (defScope (inClass sBadshare 0)) := ⟨rfl, rfl, rfl, by decide +kernel, rfl, by decide +kernel, by decide +kernel⟩
theorem ok_tm_init {CT fI : Addr} {fd : FuncData} (Z : Xc K mg "TooMany" "most" CT fI bmO "OverflowError.__new__" (inClass sToomany 0) "TooMany.__init__" fd) : FnOk P w K mg base CX0 1 fI fd ["self", "most"] (spPut CT "most") :=
  ok_put PySem.F.store_OverflowError Z.T Z.F scTmI rfl rfl rfl (by decide +kernel) (by decide +kernel) (fun _ => rfl)
theorem ok_bs_init {CB fI : Addr} {fd : FuncData} (Z : Xc K mg "BadShare" "given" CB fI bmV "ValueError.__new__" (inClass sBadshare 0) "BadShare.__init__" fd) : FnOk P w K mg base CX0 1 fI fd ["self", "given"] (spPut CB "given") :=
  ok_put PySem.F.store_ValueError Z.T Z.F scBsI rfl rfl rfl (by decide +kernel) (by decide +kernel) (fun _ => rfl)
/-- put together: the gathered share, or too many -/
def spPutT (K : PySem.W.Frag) (CT : Addr) : Sp := fun vs H Q E => ∃ p q xs ys, vs = [.ref p, .ref q] ∧ ShAt K H p xs ∧ ShAt K H q ys ∧ Shr xs ∧ Shr ys ∧ AllF 80 xs ∧ AllF 80 ys ∧ ∀ H' r zs, Same H H' → ShAt K H' r zs → IsS (gat [] (xs ++ ys)) zs →
  (zs.length ≤ 8 → Q (.ref r) H') ∧ (8 < zs.length → ∀ d, H' d = none → E (.ref CT) (some d) (upd H' d (.xd [("most", .int 8)])))
theorem scPutTogether : FnScope ["one", "other", "both"] ["one", "other"] (defScope sPutTogether) := ⟨rfl, rfl, rfl, by decide +kernel, rfl, by decide +kernel, by decide +kernel⟩
theorem ok_put_together {f f1 f2 CT fI : Addr} {fd fd1 fd2 fdI : FuncData} {t8 : Tok} (F : Df K mg "put_together" sPutTogether ["one", "other"] f fd) (D1 : Df K mg "need_share" sNeedShare ["thing"] f1 fd1) (G1 : FnOk P w K mg base CX0 7 f1 fd1 ["thing"] (spNeedSh K)) (D2 : Df K mg "gathered" sGathered ["pairs"] f2 fd2)
    (G2 : FnOk P w K mg base CX0 3 f2 fd2 ["pairs"] (spGatT K)) (g8 : mg "MOST_PAIRS" = some (.int 8 t8)) (T : Bt mg) (Z : Xc K mg "TooMany" "most" CT fI bmO "OverflowError.__new__" (inClass sToomany 0) "TooMany.__init__" fdI) : FnOk P w K mg base (L2.CX P w) 8 f fd ["one", "other"] (spPutT K CT) := by
  have GI := ok_tm_init (P := P) (w := w) (base := base) Z
  refine F.F.okX scPutTogether (fun vs H Q E h => ?_) (fun cdv A outer s H vs Q E hr h => ?_)
  · obtain ⟨p, q, xs, ys, rfl, _⟩ := h
    rfl
  · obtain ⟨p, q, xs, ys, rfl, hp, hq, hx, hy, ax, ay, k⟩ := h
    refine ⟨_, pss_cons (ps_set (i := 2) scPutTogether.nd rfl (Or.inl rfl) (pe_call G2 (hr.mono (by decide)) (by rfl) D2.g D2.F.kp D2.b .nil pass0 (pa_cons (pe_op op_catA (pe_call G1 hr (by rfl) D1.g D1.F.kp D1.b .nil pass0 (pa_cons (pv 0) pa_nil)) (pe_call G1 hr (by rfl) D1.g D1.F.kp D1.b .nil pass0 (pa_cons (pv 1) pa_nil))) pa_nil)))
      (pss_cons (ps_if (pt_cmpR op_gt (pe_callB call_len_seq (by rfl) T.len PySem.boot_len (pa_cons (pv 2) pa_nil)) (pe_glob (v := .int 8) (by rfl) g8 ⟨_, rfl⟩) (nomark _)) (pss_one (ps_raise rfl (takes_of rfl rfl rfl rfl) (pmk_own1 PySem.F.excBase_OverflowError Z.T GI Z.b (hr.mono (by decide)) (by rfl) (pa_cons (pe_glob (v := .int 8) (by rfl) g8 ⟨_, rfl⟩) pa_nil)))) pss_nil)
      (pss_one (ps_ret (pv 2)))), ?_⟩
    refine ⟨_, rfl, p, xs, rfl, hp, hx, fun H1 s1 => ⟨_, rfl, q, ys, rfl, hq.tk (tk_same s1), hy, fun H2 s2 => ?_⟩⟩
    obtain ⟨vs, hv, hP⟩ := hp.tk (tk_same (s1.trans s2))
    obtain ⟨us, hu, hR⟩ := hq.tk (tk_same (s1.trans s2))
    have lx := hP.len
    have ly := hR.len
    have l8 := hx.1
    have l9 := hy.1
    have sz : (xs ++ ys).length ≤ 16 := by rw [List.length_append]; omega
    refine ⟨p, q, vs, us, rfl, rfl, hv, hu, small (by omega), fun e => ?_, fun n e => ?_, fun n m t ht => ?_⟩
    · subst e
      have ex : xs = [] := List.eq_nil_of_length_eq_zero (by rw [← lx]; rfl)
      refine ⟨_, us, xs ++ ys, rfl, hu, by rw [ex]; exact hR, (ax.app ay).up (by decide), sz, fun H' r zs s4 h3 h4 => ?_⟩
      have sF := s1.trans (s2.trans s4)
      obtain ⟨ka, kb⟩ := k H' r zs sF h3 h4
      obtain ⟨ws, hw, hQ⟩ := id h3
      refine ⟨_, rfl, r, _, rfl, .inr hw, _, _, rfl, rfl, _, rfl, ?_⟩
      rw [hQ.len]
      by_cases h8 : (8 : Int) < (zs.length : Int)
      · rw [decide_eq_true h8]
        exact iteT ⟨_, rfl, fun d hd => kb (by omega) d hd⟩
      · rw [decide_eq_false h8]
        exact iteF ⟨_, rfl, ka (by omega)⟩
    · subst e
      have ey : ys = [] := List.eq_nil_of_length_eq_zero (by rw [← ly]; rfl)
      refine ⟨_, vs, xs ++ ys, rfl, hv, by rw [ey, List.append_nil]; exact hP, (ax.app ay).up (by decide), sz, fun H' r zs s4 h3 h4 => ?_⟩
      have sF := s1.trans (s2.trans s4)
      obtain ⟨ka, kb⟩ := k H' r zs sF h3 h4
      obtain ⟨ws, hw, hQ⟩ := id h3
      refine ⟨_, rfl, r, _, rfl, .inr hw, _, _, rfl, rfl, _, rfl, ?_⟩
      rw [hQ.len]
      by_cases h8 : (8 : Int) < (zs.length : Int)
      · rw [decide_eq_true h8]
        exact iteT ⟨_, rfl, fun d hd => kb (by omega) d hd⟩
      · rw [decide_eq_false h8]
        exact iteF ⟨_, rfl, ka (by omega)⟩
    · have s3 := Same.new (o := .tup (vs ++ us)) ht
      refine ⟨_, vs ++ us, xs ++ ys, rfl, SqT.of upd_same, (hP.app hR).tk (tk_same s3), (ax.app ay).up (by decide), sz, fun H' r zs s4 h3 h4 => ?_⟩
      have sF := s1.trans (s2.trans (s3.trans s4))
      obtain ⟨ka, kb⟩ := k H' r zs sF h3 h4
      obtain ⟨ws, hw, hQ⟩ := id h3
      refine ⟨_, rfl, r, _, rfl, .inr hw, _, _, rfl, rfl, _, rfl, ?_⟩
      rw [hQ.len]
      by_cases h8 : (8 : Int) < (zs.length : Int)
      · rw [decide_eq_true h8]
        exact iteT ⟨_, rfl, fun d hd => kb (by omega) d hd⟩
      · rw [decide_eq_false h8]
        exact iteF ⟨_, rfl, ka (by omega)⟩
end
end CS
set_option maxHeartbeats 1000000
set_option linter.unusedVariables false
namespace CS
theorem ups_new {f : List (Int × Fx)} {k : Int} {x : Fx} (h : k ∉ f.map (·.1)) : ups f k x = f ++ [(k, x)] := by
  induction f with
  | nil => rfl
  | cons a f ih =>
    obtain ⟨i, y⟩ := a
    simp only [List.map_cons, List.mem_cons, not_or] at h
    simp [ups, Ne.symm h.1, ih h.2]
theorem cm_pos {t b : Int} (hb : 0 < b) : 0 < cm t b := by
  unfold cm
  rw [if_neg (by omega)]
  have := gcd_pos (t := t) (b := b) (by omega)
  omega
theorem sg {c l : Int} (h : 0 < c) : (0 < l ↔ 0 < c * l) ∧ (l < 0 ↔ c * l < 0) := by
  rcases Int.lt_trichotomy l 0 with a | a | a
  · have := Int.mul_neg_of_pos_of_neg h a
    omega
  · subst a
    simp
  · have := Int.mul_pos h a
    omega
theorem low_sign {t b : Int} (hb : 0 < b) : (0 < (low t b).1 ↔ 0 < t) ∧ ((low t b).1 < 0 ↔ t < 0) := by
  have e := (low_parts (t := t) (b := b) (by omega)).1
  have h := sg (l := (low t b).1) (cm_pos (t := t) hb)
  rw [← e] at h
  exact h
theorem fr_zero {x : Fx} (h : Fr x) (e : x.1 = 0) : x = (0, 1) := by
  obtain ⟨a, b⟩ := x
  have h1 := h.1
  have h2 := h.2
  simp only at e h1 h2
  subst e
  rw [Int.gcd_zero_left] at h2
  have : b = 1 := by omega
  rw [this]
theorem fadd_pos {x y : Fx} (hx : Fr x) (hy : Fr y) (px : 0 ≤ x.1) (py : 0 ≤ y.1) (h : 0 < x.1 ∨ 0 < y.1) : 0 < (fadd x y).1 := by
  unfold fadd
  rw [(low_sign (dd0 hx hy)).1]
  have h1 := hx.pos
  have h2 := hy.pos
  rcases h with h | h
  · have a := Int.mul_pos h h2
    have b := Int.mul_nonneg py (Int.le_of_lt h1)
    omega
  · have a := Int.mul_pos h h1
    have b := Int.mul_nonneg px (Int.le_of_lt h2)
    omega
theorem scl_neg {y : Fx} (hy : Fr y) : scl y (-1) = (-y.1, y.2) := by
  unfold scl
  refine low_uniq hy.ne ⟨hy.1, ?_⟩ (by simp)
  have := hy.2
  simpa [Int.neg_gcd] using this
theorem fadd_neg {x y : Fx} (hy : Fr y) : fadd x (scl y (-1)) = fsub x y := by
  rw [scl_neg hy]
  unfold fadd fsub
  simp only [Int.neg_mul, Int.sub_eq_add_neg]
theorem fsub_neg_iff {x y : Fx} (hx : Fr x) (hy : Fr y) : (fsub x y).1 < 0 ↔ flt x y = true := by
  unfold fsub flt
  rw [(low_sign (dd0 hx hy)).2, decide_eq_true_iff]
  omega
theorem lk_of_mem : ∀ {xs : List (Int × Fx)} {k : Int} {x : Fx}, (xs.map (·.1)).Nodup → (k, x) ∈ xs → lk xs k = x
  | [], _, _, _, h => by cases h
  | (j, y) :: xs, k, x, hn, h => by
    rw [List.map_cons, List.nodup_cons] at hn
    rw [lk_cons]
    rcases List.mem_cons.mp h with e | h
    · cases e
      rw [if_pos rfl]
    · rw [if_neg fun e => hn.1 (by rw [← e]; exact List.mem_map.mpr ⟨(k, x), h, rfl⟩)]
      exact lk_of_mem hn.2 h
/-- weights taken away one after another -/
def tks (f ys : List (Int × Fx)) : List (Int × Fx) := ys.foldl (fun f kx => ups f kx.1 (fsub (lk f kx.1) kx.2)) f
theorem tks_snoc (f ys : List (Int × Fx)) (a : Int × Fx) : tks f (ys ++ [a]) = ups (tks f ys) a.1 (fsub (lk (tks f ys) a.1) a.2) := by
  unfold tks
  rw [List.foldl_append]
  rfl
theorem tks_none : ∀ (ys f : List (Int × Fx)) (j : Int), j ∉ ys.map (·.1) → lk (tks f ys) j = lk f j
  | [], _, _, _ => rfl
  | (k, x) :: ys, f, j, h => by
    simp only [List.map_cons, List.mem_cons, not_or] at h
    show lk (tks (ups f k (fsub (lk f k) x)) ys) j = _
    rw [tks_none ys _ j h.2, lk_ups, if_neg h.1]
theorem lk_tks : ∀ (ys f : List (Int × Fx)) (j : Int), (ys.map (·.1)).Nodup → lk (tks f ys) j = if j ∈ ys.map (·.1) then fsub (lk f j) (lk ys j) else lk f j
  | [], f, j, _ => by simp [tks]
  | (k, x) :: ys, f, j, h => by
    rw [List.map_cons, List.nodup_cons] at h
    show lk (tks (ups f k (fsub (lk f k) x)) ys) j = _
    by_cases e : j = k
    · subst e
      rw [tks_none ys _ j h.1, lk_ups, if_pos rfl, lk_cons, if_pos rfl, if_pos (by simp)]
    · have q : (j ∈ ((k, x) :: ys).map (·.1)) ↔ j ∈ ys.map (·.1) := by simp [e]
      rw [lk_tks ys _ j h.2, lk_ups, if_neg e, lk_cons, if_neg e]
      simp only [q]
theorem tks_keys : ∀ (ys f : List (Int × Fx)) (j : Int), j ∈ (tks f ys).map (·.1) ↔ j ∈ f.map (·.1) ∨ j ∈ ys.map (·.1)
  | [], f, j => by simp [tks]
  | (k, x) :: ys, f, j => by
    show j ∈ (tks (ups f k _) ys).map (·.1) ↔ _
    rw [tks_keys ys, ups_keys]
    simp only [List.map_cons, List.mem_cons]
    grind
theorem tks_nodup : ∀ (ys f : List (Int × Fx)), (f.map (·.1)).Nodup → ((tks f ys).map (·.1)).Nodup
  | [], _, h => h
  | (k, x) :: ys, f, h => tks_nodup ys _ (ups_nodup f k _ h)
theorem tks_len : ∀ (ys f : List (Int × Fx)), (tks f ys).length ≤ f.length + ys.length
  | [], _ => Nat.le_refl _
  | (k, x) :: ys, f => by
    have h1 := tks_len ys (ups f k (fsub (lk f k) x))
    have h2 := ups_len f k (fsub (lk f k) x)
    show (tks (ups f k (fsub (lk f k) x)) ys).length ≤ _
    rw [List.length_cons]
    omega
theorem gat_frS {n : Nat} {f xs : List (Int × Fx)} (hf : AllF n f) (h : AllF n xs) (h0 : 0 < n) (j : Int) : Fr (lk (gat f xs) j) ∧ Sz (n + xs.length * (n + 1)) (lk (gat f xs) j) := by
  rw [lk_gat]
  have hl := lk_fr hf h0 j
  exact ⟨cfold_fr j xs _ hl.1 fun x hx => (h x hx).1, cfold_sz n j xs _ n hl.1 hl.2 h⟩
/-! two shares -/
/-- as the law draws them, or puts them together -/
structure Good (n : Nat) (xs : List (Int × Fx)) : Prop where
  nd : (xs.map (·.1)).Pairwise (· < ·)
  all : AllF n xs
  pos : ∀ a ∈ xs, 0 < a.2.1
  lo : ∀ a ∈ xs, -100 ≤ a.1 ∧ a.1 ≤ 100
theorem Good.nodup {n : Nat} {xs : List (Int × Fx)} (g : Good n xs) : (xs.map (·.1)).Nodup := g.nd.imp fun e => Int.ne_of_lt e
theorem Good.shr {n : Nat} {xs : List (Int × Fx)} (g : Good n xs) (h : xs.length ≤ 8) : Shr xs := ⟨h, fun a ha => ⟨(g.lo a ha).1, (g.lo a ha).2, (g.all a ha).1, g.pos a ha⟩, g.nd⟩
theorem lk_nonneg {xs : List (Int × Fx)} (h : ∀ a ∈ xs, 0 < a.2.1) (k : Int) : 0 ≤ (lk xs k).1 ∧ (k ∈ xs.map (·.1) → 0 < (lk xs k).1) := by
  induction xs with
  | nil => exact ⟨by show (0 : Int) ≤ 0; decide, fun h => by cases h⟩
  | cons a xs ih =>
    obtain ⟨j, y⟩ := a
    have ih := ih fun b hb => h b (List.mem_cons_of_mem _ hb)
    have hy := h (j, y) List.mem_cons_self
    simp only at hy
    rw [lk_cons]
    by_cases e : k = j
    · rw [if_pos e]
      exact ⟨by omega, fun _ => hy⟩
    · rw [if_neg e]
      refine ⟨ih.1, fun m => ih.2 ?_⟩
      rcases List.mem_cons.mp m with q | q
      · exact absurd q e
      · exact q
theorem Good.self {n : Nat} {xs : List (Int × Fx)} (g : Good n xs) : IsS xs xs := ⟨g.nd, fun k x => by
  constructor
  · intro h
    refine ⟨lk_of_mem g.nodup h, fun e => ?_⟩
    have q : 0 < x.1 := g.pos _ h
    rw [e] at q
    exact absurd q (by decide)
  · rintro ⟨e, h⟩
    have m := lk_mem (f := xs) (k := k) (by rw [e]; exact h)
    obtain ⟨⟨k2, y⟩, hm, e2⟩ := List.mem_map.mp m
    simp only at e2
    subst e2
    rw [lk_of_mem g.nodup hm] at e
    rw [← e]
    exact hm⟩
theorem lk_cat {n : Nat} {xs ys : List (Int × Fx)} (g : Good n xs) (h0 : 0 < n) (hn : (ys.map (·.1)).Nodup) (j : Int) : lk (gat [] (xs ++ ys)) j = fadd (lk xs j) (lk ys j) := by
  have e : gat [] (xs ++ ys) = gat (gat [] xs) ys := by
    unfold gat
    rw [List.foldl_append]
  have hx : lk (gat [] xs) j = lk xs j := by
    rw [lk_gat]
    exact (fold_nodup xs j (0, 1) fr01 g.nodup).trans (zero_fadd (lk_fr g.all h0 j).1)
  rw [e, lk_gat, fold_nodup ys j _ (by rw [hx]; exact (lk_fr g.all h0 j).1) hn, hx]
theorem both_good {n : Nat} {xs ys zs : List (Int × Fx)} (gx : Good n xs) (gy : Good n ys) (h0 : 0 < n) (h : IsS (gat xs ys) zs) : Good (n + n + 1) zs := by
  have val : ∀ k x, (k, x) ∈ zs → x = fadd (lk xs k) (lk ys k) ∧ (k ∈ xs.map (·.1) ∨ k ∈ ys.map (·.1)) := fun k x hm => by
    obtain ⟨e, hx⟩ := (h.2 k x).mp hm
    rw [lk_gat_nodup gx.all h0 gy.nodup] at e
    refine ⟨e.symm, ?_⟩
    by_cases a : k ∈ xs.map (·.1)
    · exact .inl a
    · refine .inr ?_
      by_cases b : k ∈ ys.map (·.1)
      · exact b
      · rw [lk_none a, lk_none b] at e
        exact absurd (e.symm.trans (by decide)) hx
  refine ⟨h.1, fun a ha => ?_, fun a ha => ?_, fun a ha => ?_⟩
  · obtain ⟨e, _⟩ := val a.1 a.2 ha
    have h1 := lk_fr gx.all h0 a.1
    have h2 := lk_fr gy.all h0 a.1
    rw [e]
    exact ⟨fadd_fr h1.1 h2.1, fadd_sz h1.1 h2.1 h1.2 h2.2⟩
  · obtain ⟨e, m⟩ := val a.1 a.2 ha
    have h1 := lk_nonneg gx.pos a.1
    have h2 := lk_nonneg gy.pos a.1
    rw [e]
    exact fadd_pos (lk_fr gx.all h0 a.1).1 (lk_fr gy.all h0 a.1).1 h1.1 h2.1 (m.imp h1.2 h2.2)
  · obtain ⟨e, m⟩ := val a.1 a.2 ha
    rcases m with m | m
    · obtain ⟨b, hb, eb⟩ := List.mem_map.mp m
      rw [← eb]
      exact gx.lo b hb
    · obtain ⟨b, hb, eb⟩ := List.mem_map.mp m
      rw [← eb]
      exact gy.lo b hb
def ngs (ys : List (Int × Fx)) : List (Int × Fx) := ys.map fun a => (a.1, scl a.2 (-1))
theorem ngs_keys (ys : List (Int × Fx)) : (ngs ys).map (·.1) = ys.map (·.1) := by
  unfold ngs
  rw [List.map_map]
  rfl
theorem lk_ngs (ys : List (Int × Fx)) (j : Int) : lk (ngs ys) j = scl (lk ys j) (-1) := by
  induction ys with
  | nil =>
    show ((0, 1) : Fx) = scl (0, 1) (-1)
    decide
  | cons a ys ih =>
    obtain ⟨k, y⟩ := a
    show lk ((k, scl y (-1)) :: ngs ys) j = _
    rw [lk_cons, lk_cons, ih]
    split <;> rfl
theorem lk_take {n : Nat} {xs ys : List (Int × Fx)} (gx : Good n xs) (gy : Good n ys) (h0 : 0 < n) (j : Int) : lk (gat [] (xs ++ ngs ys)) j = fsub (lk xs j) (lk ys j) := by
  rw [lk_cat gx h0 (by rw [ngs_keys]; exact gy.nodup), lk_ngs, fadd_neg (lk_fr gy.all h0 j).1]
/-- what was put on is taken off -/
theorem take_both {n : Nat} {xs ys zs ws : List (Int × Fx)} (gx : Good n xs) (gy : Good n ys) (h0 : 0 < n) (hz : IsS (gat xs ys) zs) (hw : IsS (gat [] (zs ++ ngs ys)) ws) : ws = xs := by
  have gz := both_good gx gy h0 hz
  refine hw.uniq gx.self fun k => ?_
  have e : lk zs k = fadd (lk xs k) (lk ys k) := by
    rw [← lk_gat_nodup gx.all h0 gy.nodup]
    by_cases c : lk (gat xs ys) k = (0, 1)
    · rw [c]
      by_cases d : lk zs k = (0, 1)
      · exact d
      · obtain ⟨⟨k2, y⟩, hm, e2⟩ := List.mem_map.mp (lk_mem d)
        simp only at e2
        subst e2
        exact absurd (c ▸ ((hz.2 _ _).mp hm).1.symm) ((hz.2 _ _).mp hm).2
    · exact lk_of_mem gz.nodup ((hz.2 k _).mpr ⟨rfl, c⟩)
  have gy2 : AllF (n + n + 1) ys := fun a ha => ⟨(gy.all a ha).1, (gy.all a ha).2.up (by omega)⟩
  rw [lk_take gz ⟨gy.nd, gy2, gy.pos, gy.lo⟩ (by omega), e]
  exact fsub_fadd (lk_fr gx.all h0 k).1 (lk_fr gy.all h0 k).1
theorem both_comm {n : Nat} {xs ys zs ws : List (Int × Fx)} (gx : Good n xs) (gy : Good n ys) (h0 : 0 < n) (hz : IsS (gat xs ys) zs) (hw : IsS (gat [] (ys ++ xs)) ws) : ws = zs :=
  hw.uniq hz fun k => by rw [lk_cat gy h0 gx.nodup, lk_gat_nodup gx.all h0 gy.nodup, fadd_comm]
theorem both_same {n : Nat} {xs ys zs ws : List (Int × Fx)} (gx : Good n xs) (gy : Good n ys) (h0 : 0 < n) (hz : IsS (gat xs ys) zs) (hw : IsS (gat [] (xs ++ ys)) ws) : ws = zs :=
  hw.uniq hz fun k => by rw [lk_cat gx h0 gy.nodup, lk_gat_nodup gx.all h0 gy.nodup]
/-- the second one is within the first one -/
def Inn (xs ys : List (Int × Fx)) : Prop := ∀ a ∈ ys, a.1 ∈ xs.map (·.1) ∧ flt (lk xs a.1) a.2 = false
theorem nd_len : ∀ {r q : List Int}, r.Nodup → (∀ a ∈ r, a ∈ q) → r.length ≤ q.length
  | [], _, _, _ => Nat.zero_le _
  | a :: r, q, h, m => by
    rw [List.nodup_cons] at h
    have ha : a ∈ q := m a List.mem_cons_self
    have h2 := nd_len (q := q.erase a) h.2 fun b hb => (List.mem_erase_of_ne fun e => h.1 (by rw [← e]; exact hb)).mpr (m b (List.mem_cons_of_mem _ hb))
    rw [List.length_erase_of_mem ha] at h2
    have := List.length_pos_of_mem ha
    rw [List.length_cons]
    omega
theorem take_in {n : Nat} {xs ys zs : List (Int × Fx)} (gx : Good n xs) (gy : Good n ys) (h0 : 0 < n) (h8 : xs.length ≤ 8) (hz : IsS (gat [] (xs ++ ngs ys)) zs) (h : Inn xs ys) : Shr zs ∧ ∀ ws, IsS (tks xs ys) ws → zs = ws := by
  have lx := fun k => lk_fr gx.all h0 k
  have ly := fun k => lk_fr gy.all h0 k
  have val : ∀ k x, (k, x) ∈ zs → x = fsub (lk xs k) (lk ys k) ∧ x ≠ (0, 1) ∧ k ∈ xs.map (·.1) := fun k x hm => by
    obtain ⟨e, hx⟩ := (hz.2 k x).mp hm
    rw [lk_take gx gy h0] at e
    refine ⟨e.symm, hx, ?_⟩
    by_cases a : k ∈ xs.map (·.1)
    · exact a
    · by_cases b : k ∈ ys.map (·.1)
      · obtain ⟨c, hc, ec⟩ := List.mem_map.mp b
        rw [← ec]
        exact (h c hc).1
      · rw [lk_none a, lk_none b] at e
        exact absurd (e.symm.trans (by decide)) hx
  refine ⟨⟨?_, fun a ha => ?_, hz.1⟩, fun ws hw => hz.uniq hw fun k => ?_⟩
  · have n1 : (zs.map (·.1)).Nodup := hz.1.imp fun e => Int.ne_of_lt e
    have := nd_len (q := xs.map (·.1)) n1 fun k hk => by
      obtain ⟨a, ha, rfl⟩ := List.mem_map.mp hk
      exact (val a.1 a.2 ha).2.2
    rw [List.length_map, List.length_map] at this
    omega
  · obtain ⟨e, hne, m⟩ := val a.1 a.2 ha
    obtain ⟨b, hb, eb⟩ := List.mem_map.mp m
    have lo := gx.lo b hb
    rw [eb] at lo
    have f : Fr a.2 := by rw [e]; exact fsub_fr (lx _).1 (ly _).1
    refine ⟨lo.1, lo.2, f, ?_⟩
    have n0 : a.2.1 ≠ 0 := fun z => hne (fr_zero f z)
    have n1 : ¬ a.2.1 < 0 := fun z => by
      rw [e, fsub_neg_iff (lx _).1 (ly _).1] at z
      by_cases c : a.1 ∈ ys.map (·.1)
      · obtain ⟨b2, hb2, eb2⟩ := List.mem_map.mp c
        have q := (h b2 hb2).2
        rw [eb2] at q
        rw [← eb2, lk_of_mem gy.nodup hb2, eb2, q] at z
        cases z
      · rw [lk_none c] at z
        unfold flt at z
        have := (lk_nonneg gx.pos a.1).1
        have z2 := of_decide_eq_true z
        simp only [Int.mul_one, Int.zero_mul] at z2
        omega
    omega
  · rw [lk_take gx gy h0, lk_tks ys xs k gy.nodup]
    split
    · rfl
    · rename_i c
      rw [lk_none c]
      have := fsub_fadd (lx k).1 fr01
      rw [fadd_zero (lx k).1] at this
      exact this
theorem take_out {n : Nat} {xs ys zs : List (Int × Fx)} (gx : Good n xs) (gy : Good n ys) (h0 : 0 < n) (hz : IsS (gat [] (xs ++ ngs ys)) zs) (h : ¬ Inn xs ys) : ¬ Shr zs := fun S => by
  refine h fun a ha => ?_
  have hl := lk_of_mem gy.nodup ha
  have hp := gy.pos a ha
  have key : flt (lk xs a.1) a.2 = false := by
    cases c : flt (lk xs a.1) a.2 with
    | false => rfl
    | true =>
      have neg : (fsub (lk xs a.1) (lk ys a.1)).1 < 0 := by
        rw [fsub_neg_iff (lk_fr gx.all h0 _).1 (lk_fr gy.all h0 _).1, hl]
        exact c
      have hm : (a.1, fsub (lk xs a.1) (lk ys a.1)) ∈ zs := (hz.2 _ _).mpr ⟨lk_take gx gy h0 _, fun e => by rw [e] at neg; exact absurd neg (by decide)⟩
      have := (S.2.1 _ hm).2.2.2
      simp only at this
      omega
  refine ⟨?_, key⟩
  by_cases m : a.1 ∈ xs.map (·.1)
  · exact m
  · rw [lk_none m] at key
    unfold flt at key
    have z := of_decide_eq_false key
    simp only [Int.zero_mul, Int.mul_one] at z
    omega
theorem take_self {n : Nat} {xs zs : List (Int × Fx)} (gx : Good n xs) (h0 : 0 < n) (hz : IsS (gat [] (xs ++ ngs xs)) zs) : zs = [] := by
  refine hz.uniq (g := []) ⟨List.Pairwise.nil, fun k x => ?_⟩ fun k => ?_
  · constructor
    · intro h
      cases h
    · rintro ⟨e, h⟩
      exact absurd e.symm h
  · rw [lk_take gx gx h0]
    have := fsub_fadd fr01 (lk_fr gx.all h0 k).1
    rw [zero_fadd (lk_fr gx.all h0 k).1] at this
    exact this
end CS
set_option Elab.async false
set_option maxRecDepth 100000
set_option maxHeartbeats 8000000
set_option linter.unusedVariables false
namespace CS
open PySem L2
theorem ngs_all {n : Nat} {ys : List (Int × Fx)} (h : AllF n ys) : AllF (n + 1) (ngs ys) := fun a ha => by
  obtain ⟨b, hb, rfl⟩ := List.mem_map.mp ha
  exact ⟨scl_fr (h b hb).1 _, scl_sz (m := 1) (h b hb).1 (h b hb).2 (by decide)⟩
theorem IsS.len {f r : List (Int × Fx)} (h : IsS f r) : r.length ≤ f.length := by
  have n : (r.map (·.1)).Nodup := h.1.imp fun e => Int.ne_of_lt e
  have := nd_len (q := f.map (·.1)) n fun a ha => by
    obtain ⟨⟨k, x⟩, hk, rfl⟩ := List.mem_map.mp ha
    obtain ⟨e, z⟩ := (h.2 k x).mp hk
    exact lk_mem (by rw [e]; exact z)
  simpa using this
section
variable {P : Program} {w : World} {K : PySem.W.Frag} {mg : Str → Option Value} {base : Heap}
def spTakeT (K : PySem.W.Frag) (CB : Addr) : Sp := fun vs H Q E => ∃ p q xs ys, vs = [.ref p, .ref q] ∧ ShAt K H p xs ∧ ShAt K H q ys ∧ Shr xs ∧ Shr ys ∧ AllF 80 xs ∧ AllF 80 ys ∧ ∀ H' r zs, Same H H' → ShAt K H' r zs → IsS (gat [] (xs ++ ngs ys)) zs →
  (Shr zs → Q (.ref r) H') ∧ (¬ Shr zs → ∀ d, H' d = none → E (.ref CB) (some d) (upd H' d (.xd [("given", .ref q)])))
theorem scTakenFrom : FnScope ["one", "other", "taken", "left", "number", "weight"] ["one", "other"] (defScope sTakenFrom) := ⟨rfl, rfl, rfl, by decide +kernel, rfl, by decide +kernel, by decide +kernel⟩
theorem ok_taken_from {f f1 f2 f3 f4 CB fI : Addr} {fd fd1 fd2 fd3 fd4 fdI : FuncData} (F : Df K mg "taken_from" sTakenFrom ["one", "other"] f fd) (D1 : Df K mg "need_share" sNeedShare ["thing"] f1 fd1) (G1 : FnOk P w K mg base CX0 7 f1 fd1 ["thing"] (spNeedSh K)) (D2 : Df K mg "gathered" sGathered ["pairs"] f2 fd2)
    (G2 : FnOk P w K mg base CX0 3 f2 fd2 ["pairs"] (spGatL K)) (D3 : Df K mg "scaled" sScaled ["fraction", "by"] f3 fd3) (G3 : FnOk P w K mg base CX0 2 f3 fd3 ["fraction", "by"] (spScaled K)) (D4 : Df K mg "is_share" sIsShare ["thing"] f4 fd4) (G4 : FnOk P w K mg base CX0 6 f4 fd4 ["thing"] (spIsSh K))
    (Z : Xc K mg "BadShare" "given" CB fI bmV "ValueError.__new__" (inClass sBadshare 0) "BadShare.__init__" fdI) : FnOk P w K mg base (L2.CX P w) 8 f fd ["one", "other"] (spTakeT K CB) := by
  have GI := ok_bs_init (P := P) (w := w) (base := base) Z
  refine F.F.okX scTakenFrom (fun vs H Q E h => ?_) (fun cdv A outer s H vs Q E hr h => ?_)
  · obtain ⟨p, q, xs, ys, rfl, _⟩ := h
    rfl
  · obtain ⟨p, q, xs, ys, rfl, hp, hq, hx, hy, ax, ay, k⟩ := h
    refine ⟨_, pss_cons (ps_expr (pe_call G1 hr (by rfl) D1.g D1.F.kp D1.b .nil pass0 (pa_cons (pv 0) pa_nil)))
      (pss_cons (ps_setLc (i := 2) (own := [("number", 4), ("weight", 5)]) (g := gTup K 2 (gCons (gName 4) (gCons (gName 5) gNil))) (tt := tYes) rfl scTakenFrom.nd rfl rfl (sw_true rfl rfl rfl (by decide +kernel)) (pi_tup (pe_call G1 hr (by rfl) D1.g D1.F.kp D1.b .nil pass0 (pa_cons (pv 1) pa_nil))) (blkOk_by (N := ["one", "other", "taken", "left", "number", "weight"]) (sc := defScope sTakenFrom) (by decide +kernel)) (fun _ _ _ _ _ => pg_tup rfl (pgs_cons (pg_name (i := 4) scTakenFrom.nd rfl (Or.inl rfl)) (pgs_cons (pg_name (i := 5) scTakenFrom.nd rfl (Or.inl rfl)) pgs_nil))) (fun _ _ _ _ _ => pts_nil) (fun _ _ _ _ _ => pe_tup (pa_cons (pv 4) (pa_cons (pe_call G3 (hr.mono (by decide)) (by rfl) D3.g D3.F.kp D3.b .nil pass0 (pa_cons (pv 5) (pa_cons (pe_un un_neg pe_int) pa_nil))) pa_nil))))
      (pss_cons (ps_set (i := 3) scTakenFrom.nd rfl (Or.inl rfl) (pe_call G2 (hr.mono (by decide)) (by rfl) D2.g D2.F.kp D2.b .nil pass0 (pa_cons (pe_lst (StX.pa_star (pv 0) (StX.pa_star (pv 2) pa_nil))) pa_nil)))
      (pss_cons (ps_if (pt_not (pt_val (pe_call G4 (hr.mono (by decide)) (by rfl) D4.g D4.F.kp D4.b .nil pass0 (pa_cons (pv 3) pa_nil)))) (pss_one (ps_raise rfl (takes_of rfl rfl rfl rfl) (pmk_own1 PySem.F.excBase_ValueError Z.T GI Z.b (hr.mono (by decide)) (by rfl) (pa_cons (pv 1) pa_nil)))) pss_nil)
      (pss_one (ps_ret (pv 3)))))), ?_⟩
    refine ⟨_, rfl, p, xs, rfl, hp, hx, fun H1 s1 => ⟨_, rfl, q, ys, rfl, hq.tk (tk_same s1), hy, fun H2 s2 => ?_⟩⟩
    obtain ⟨vs, hv, hP⟩ := hp.tk (tk_same (s1.trans s2))
    obtain ⟨us, hu, hR⟩ := hq.tk (tk_same (s1.trans s2))
    have l8 := hx.1
    have l9 := hy.1
    refine ⟨q, rfl, ⟨_, hu⟩, fun D hD => lc_tup (K := K) (a := q) (xs := us) (fun i H' => LcP K H2 D (ngs (ys.take i)) H') (LcP.start hD) (fun i H' _ ⟨_, _, s3, _⟩ => s3.tup hu) ?_ ?_⟩
    · rintro i v H' hi ⟨ws, h1, s3, hf⟩
      obtain ⟨qq, r, m, x, rfl, hxi, hq', hr'⟩ := hR.get hi
      have hi2 : i < ys.length := (List.getElem?_eq_some_iff.mp hxi).1
      have hxm := ay _ (List.mem_of_getElem? hxi)
      refine ⟨qq, _, rfl, s3.tup hq', rfl, _, _, rfl, _, _, rfl, rfl, rfl, ?_⟩
      dsimp only [tYes]
      rw [if_pos rfl]
      refine ⟨_, rfl, _, rfl, _, rfl, r, x, -1, rfl, s3.tup hr', hxm.1, hxm.2.up (by decide), by decide, fun t ht => ?_⟩
      have k1 := Same.new (o := .tup [.int (scl x (-1)).1, .int (scl x (-1)).2]) ht
      refine ⟨(by show 2 ≤ sizeLine; decide), fun t2 ht2 => ?_⟩
      have k2 := Same.new (o := .tup [V.int m, .ref t]) ht2
      refine ⟨ws, k2 _ _ (k1 _ _ h1), small1000 ?_, ?_⟩
      · rw [hf.len]
        unfold ngs
        rw [List.length_map, List.length_take]
        omega
      · show LcP K H2 D _ _
        unfold ngs at *
        rw [take_snoc hxi, List.map_append]
        exact LcP.step hD (k2 _ _ (k1 _ _ h1)) (s3.trans (k1.trans k2)) (hf.tk (tk_same (k1.trans k2))) (SqT.of upd_same) (k2.tup FT.new)
    · rintro H3 ⟨ws, h1, s3, hf⟩
      rw [hR.len, List.take_length] at hf
      refine ⟨_, rfl, p, vs, rfl, .inl (s3.tup hv), _, rfl, D, ws, rfl, .inr (SqL.of h1), ?_, fun t ht => ?_⟩
      · rw [List.append_nil, List.length_append, hP.len, hf.len]
        unfold ngs
        rw [List.length_map]
        exact small (by omega)
      · rw [List.append_nil] at *
        have s4 := Same.new (o := .lst (vs ++ ws)) ht
        refine ⟨t, vs ++ ws, xs ++ ngs ys, rfl, SqL.of upd_same, ((hP.tk (tk_same s3)).app hf).tk (tk_same s4), (ax.up (by decide)).app ((ngs_all ay).up (by decide)), ?_, fun H' r zs s5 h3 h4 => ?_⟩
        · rw [List.length_append]
          unfold ngs
          rw [List.length_map]
          omega
        · have sF := (s1.trans (s2.trans (s3.trans (s4.trans s5))))
          have lz := h4.len
          have lg := gat_len (xs ++ ngs ys) []
          rw [List.length_append, List.length_nil] at lg
          have ln : (ngs ys).length = ys.length := by unfold ngs; rw [List.length_map]
          refine ⟨_, rfl, r, zs, rfl, h3, by omega, fun H4 s6 => ⟨_, rfl, ?_⟩⟩
          obtain ⟨ka, kb⟩ := k H4 r zs (sF.trans s6) (h3.tk (tk_same s6)) h4
          by_cases hz : Shr zs
          · rw [decide_eq_true hz]
            exact iteF ⟨_, rfl, ka hz⟩
          · rw [decide_eq_false hz]
            exact iteT ⟨_, rfl, _, rfl, fun d hd => kb hz d hd⟩
end
end CS
set_option Elab.async false
set_option maxRecDepth 100000
set_option maxHeartbeats 4000000
set_option linter.unusedVariables false
/-! tuples whose very object is known to have no dict of its own, made by tuple(list); dict(..) of such ones -/
namespace CS
open PySem PySem.Spec PyProof.Rows L2
def TupZ (H : Hp) (a : Addr) (xs : List V) : Prop := ∃ o : Obj, o.dict = none ∧ H a = some (.frz o (.tup xs))
theorem TupZ.sq {K : PySem.W.Frag} {H : Hp} {a : Addr} {xs : List V} (h : TupZ H a xs) : SqT K H a xs := by
  obtain ⟨o, _, e⟩ := h
  exact .inl (.inr ⟨o, e⟩)
section
variable {X : Cx}
theorem call_tuple_ofZ : CallR X (.type "tuple") (fun xs H Q => ∃ p ys, xs = [.ref p] ∧ SqL X.K H p ys ∧ ∀ l o, H l = none → o.dict = none → Q (.ref l) (upd H l (.frz o (.tup ys)))) := by
  intro pins s σ H xs us Q I r ⟨p, ys, ex, hq, q⟩
  subst ex
  obtain ⟨u, rfl, rx⟩ := vals1 r
  cases rx
  obtain ⟨its, rv, pl, hz⟩ := I.list hq
  have hl := rv.length
  refine call_tuple_list pl.isList (fun h' kp => ?_) (by simp only [List.size_toArray]; omega)
  have J : Inv X pins σ H { s with heap := h' } := I.kept (t' := s.toks) kp
  have g : (h'.push ({ cls := .type "tuple", data := .seq its.toArray } : Obj)).get? h'.objs.size = some { cls := .type "tuple", data := .seq its.toArray } := Heap.get?_push_size _ rfl
  refine ⟨.ref h'.objs.size, _, J.laid (t' := s.toks) (o := .frz { cls := .type "tuple", data := .seq its.toArray } (.tup ys)) (fun b o e => Heap.get?_push_of_some _ e) (Nat.le_refl _) ?_, rfl, q _ _ (J.hok.fresh (Nat.le_refl _)) rfl⟩
  exact ⟨g, hz, its, rv, ⟨_, g, rfl, _, rfl⟩⟩
theorem call_dictZ (hcalm : X.calm = true) : CallR X (.type "dict") (fun xs H Q => ∃ (a : Addr) (ps : List Addr) (kvs : List (Key × V)), xs = [.ref a] ∧ TupZ H a (ps.map V.ref) ∧ Paired (fun p kv => SqT X.K H p [kV kv.1, kv.2]) ps kvs ∧
    ∀ p, H p = none → Q (.ref p) (upd H p (.dK (mergeK [] kvs)))) := by
  intro pins s σ H xs us Q I r ⟨a, ps, kvs, ex, ⟨o, od, ho⟩, hp, q⟩
  subst ex
  obtain ⟨u, rfl, rx⟩ := vals1 r
  cases rx
  obtain ⟨g, z, its, rv, o2, g2, oc, n, dat⟩ := (show ObjOk X.prog X.w H s.heap a (.frz o (.tup (ps.map V.ref))) from I.hok a _ ho)
  rw [g] at g2
  cases g2
  cases refs_at rv
  rw [List.length_map] at z
  obtain ⟨prs, rel, hl, hpr⟩ := pairs_of I hp
  
  obtain ⟨us, hus⟩ : ∃ us : List (Value × Value), us.length = prs.length ∧ ∀ (j : Nat) (q : Key × Value), prs[j]? = some q → ∃ b u, us[j]? = some (u, q.2) ∧ ps[j]? = some b ∧ IsTup s.heap b #[u, q.2] ∧ keyIs q.1 u = true := by
    have mk : ∀ (prs : List (Key × Value)) (ps : List Addr), prs.length = ps.length → (∀ (j : Nat) (q : Key × Value), prs[j]? = some q → ∃ b u, ps[j]? = some b ∧ IsTup s.heap b #[u, q.2] ∧ keyIs q.1 u = true) → ∃ us : List (Value × Value), us.length = prs.length ∧ ∀ (j : Nat) (q : Key × Value), prs[j]? = some q → ∃ b u, us[j]? = some (u, q.2) ∧ ps[j]? = some b ∧ IsTup s.heap b #[u, q.2] ∧ keyIs q.1 u = true := by
      intro prs
      induction prs with
      | nil => exact fun ps _ _ => ⟨[], rfl, fun j q e => by simp at e⟩
      | cons p prs ih =>
        intro ps hl h
        cases ps with
        | nil => simp at hl
        | cons c ps =>
          obtain ⟨b, u, e1, e2, e3⟩ := h 0 p rfl
          obtain ⟨us, h1, h2⟩ := ih ps (by simpa using hl) fun j q e => by simpa using h (j + 1) q (by simpa using e)
          refine ⟨(u, p.2) :: us, by simp [h1], fun j q e => ?_⟩
          cases j with
          | zero =>
            cases (Option.some.inj e : p = q)
            exact ⟨b, u, rfl, e1, e2, e3⟩
          | succ j => simpa using h2 j q (by simpa using e)
    exact mk prs ps hl hpr
  obtain ⟨ul, uh⟩ := hus
  have P := PairArg.tuple (prog := X.prog) (w := X.w) a (ps.map Value.ref).toArray (fun j => (ps[j]?).getD 0) us
  refine PySem.call_dict_pairs (knd := mixKind X.prog X.w) (kvs := prs) P (I.ok.hd hcalm) ⟨⟨o, n, g, oc, od, dat⟩, by simp [ul, hl], fun j k v e => ?_⟩ ⟨by rw [ul], fun i k v e => ?_⟩ (by rw [ul, hl]; exact z) fun h' tk hd' k => ?_
  · have hj : j < prs.length := by rw [← ul]; exact (List.getElem?_eq_some_iff.mp e).1
    obtain ⟨b, u, e1, e2, e3, e4⟩ := uh j prs[j] (List.getElem?_eq_getElem hj)
    rw [e] at e1
    cases e1
    refine ⟨by simp [e2], ?_⟩
    show PairAt s.heap ((ps[j]?).getD 0) _ _
    rw [e2]
    exact .inl e3
  · have e : us[i]? = some (k, v) := e
    have hj : i < prs.length := by rw [← ul]; exact (List.getElem?_eq_some_iff.mp e).1
    obtain ⟨b, u, e1, e2, e3, e4⟩ := uh i prs[i] (List.getElem?_eq_getElem hj)
    rw [e] at e1
    cases e1
    exact ⟨prs[i].1, List.getElem?_eq_getElem hj, e4⟩
  · have hm : (s.heap.objs.size == sysModules) = false := beq_eq_false_iff_ne.mpr (Nat.ne_of_gt I.big)
    have h1 : (mergeK [] kvs).length ≤ sizeLine := by
      have := length_mergeK kvs []
      have h2 := Paired.length rel
      rw [List.length_nil, Nat.zero_add] at this
      omega
    exact ⟨.ref s.heap.objs.size, upd H s.heap.objs.size (.dK (mergeK [] kvs)), I.laid (t' := tk) (fun b o e => k b o (fun z => nomatch z) e) (Nat.le_refl _) (show ObjOk X.prog X.w _ _ _ (.dK (mergeK [] kvs)) from ⟨h1, hm, merged [] prs, KV.merge rel .nil, hd'⟩), rfl, q _ (I.hok.fresh (Nat.le_refl _))⟩
end
end CS
set_option Elab.async false
set_option maxRecDepth 100000
set_option maxHeartbeats 8000000
set_option linter.unusedVariables false
namespace CS
open PySem L2
theorem fr_one (m : Int) : Fr ((m, 1) : Fx) := by
  unfold Fr
  simp
theorem sz_one {m : Int} {n : Nat} (h : m.natAbs < 2 ^ n) (h0 : 0 < n) : Sz n ((m, 1) : Fx) := ⟨h, Nat.one_lt_two_pow (by omega)⟩
section
variable {P : Program} {w : World} {K : PySem.W.Frag} {mg : Str → Option Value} {base : Heap}
theorem scLawSum : FnScope ["some", "found", "one"] ["some"] (defScope sLawSum) := ⟨rfl, rfl, rfl, by decide +kernel, rfl, by decide +kernel, by decide +kernel⟩
theorem ok_law_sum {f f1 : Addr} {fd fd1 : FuncData} (F : Df K mg "_law_sum" sLawSum ["some"] f fd) (D1 : Df K mg "_law_plus" sLawPlus ["one", "other"] f1 fd1) (G1 : FnOk P w K mg base CX0 2 f1 fd1 ["one", "other"] (spF2 K (fun _ _ => True) fadd)) : FnOk P w K mg base CX0 3 f fd ["some"] (spSum K) := by
  refine F.F.ok scLawSum (fun vs H Q E h => ?_) (fun cdv A outer s H vs Q E hr h => ?_)
  · obtain ⟨a, ws, xs, rfl, _⟩ := h
    rfl
  · obtain ⟨a, ws, xs, rfl, hS, hF, hx, hlen, k⟩ := h
    refine ⟨_, pss_cons (ps_set (i := 1) scLawSum.nd rfl (Or.inl rfl) (pe_tup (pa_cons pe_int (pa_cons pe_int pa_nil))))
      (pss_cons (ps_for PassesOwn.never rfl (pi_list (pv 0)) (pg_name (i := 2) scLawSum.nd rfl (Or.inl rfl)) (pss_one (ps_set (i := 1) scLawSum.nd rfl (Or.inl rfl) (pe_call G1 hr (by rfl) D1.g D1.F.kp D1.b .nil pass0 (pa_cons (pv 1) (pa_cons (pv 2) pa_nil))))))
      (pss_one (ps_ret (pv 1)))), ?_⟩
    refine ⟨(by show 2 ≤ sizeLine; decide), fun t ht => ?_⟩
    have s0 := Same.new (o := .tup [V.int 0, V.int 1]) ht
    refine ⟨_, rfl, a, rfl, ⟨_, s0.seq hS⟩, for_list (K := K) (a := a) (xs := ws) (fun i σ H' => ∃ p v, σ = [some (.ref a), some (.ref p), v] ∧ Same H H' ∧ FT K H' p ((xs.take i).foldl fadd (0, 1))) ⟨t, none, rfl, s0, FT.new (x := (0, 1))⟩ (fun i σ H' _ ⟨_, _, _, s, _⟩ => s.seq hS) ?_ ?_⟩
    · rintro i v σ H' hi ⟨p, u, rfl, s1, hp⟩
      obtain ⟨r, x, rfl, hxi, hr'⟩ := hF.get hi
      have hi2 : i < xs.length := (List.getElem?_eq_some_iff.mp hxi).1
      have hxm := hx x (List.mem_of_getElem? hxi)
      have hz : Sz 1900 ((xs.take i).foldl fadd (0, 1)) := by
        refine (fold_sz 100 (xs.take i) (0, 1) 1 fr01 (sz01 (by decide)) fun y hy => hx y (List.mem_of_mem_take hy)).up ?_
        rw [List.length_take]
        omega
      have hf : Fr ((xs.take i).foldl fadd (0, 1)) := fold_fr _ _ fr01 fun y hy => (hx y (List.mem_of_mem_take hy)).1
      refine ⟨_, rfl, _, rfl, p, r, _, x, rfl, hp, s1.tup hr', hf, hxm.1, hz, hxm.2.up (by decide), trivial, fun q hq => ?_⟩
      refine ⟨q, _, rfl, s1.trans (Same.new hq), ?_⟩
      rw [take_snoc hxi, List.foldl_append]
      exact FT.new
    · rintro σ H' ⟨p, u, rfl, s1, hp⟩
      rw [hF.len, List.take_length] at hp
      exact ⟨_, rfl, k _ _ s1 hp⟩
theorem scLawTotal : FnScope ["share_so", "mark", "heft"] ["share_so"] (defScope sLawTotal) := ⟨rfl, rfl, rfl, by decide +kernel, rfl, by decide +kernel, by decide +kernel⟩
theorem ok_law_total {f f1 : Addr} {fd fd1 : FuncData} (F : Df K mg "_law_total" sLawTotal ["share_so"] f fd) (D1 : Df K mg "_law_sum" sLawSum ["some"] f1 fd1) (G1 : FnOk P w K mg base CX0 3 f1 fd1 ["some"] (spSum K)) : FnOk P w K mg base CX0 4 f fd ["share_so"] (spShF K ftot) := by
  refine F.F.ok scLawTotal (fun vs H Q E h => ?_) (fun cdv A outer s H vs Q E hr h => ?_)
  · obtain ⟨p, xs, rfl, _⟩ := h
    rfl
  · obtain ⟨p, xs, rfl, ⟨vs, hp, hP⟩, hx, hm, hlen, k⟩ := h
    refine ⟨_, pss_one (ps_ret (pe_call G1 hr (by rfl) D1.g D1.F.kp D1.b .nil pass0 (pa_cons (pe_lc (own := [("mark", 1), ("heft", 2)]) (g := gTup K 2 (gCons (gName 1) (gCons (gName 2) gNil))) (tt := tYes) rfl scLawTotal.nd (pi_tup (pv 0)) (blkOk_by (N := ["share_so", "mark", "heft"]) (sc := defScope sLawTotal) (by decide +kernel)) (fun _ _ _ _ _ => pg_tup rfl (pgs_cons (pg_name (i := 1) scLawTotal.nd rfl (Or.inl rfl)) (pgs_cons (pg_name (i := 2) scLawTotal.nd rfl (Or.inl rfl)) pgs_nil))) (fun _ _ _ _ _ => pts_nil) (fun _ _ _ _ _ => pv 2)) pa_nil))), ?_⟩
    refine ⟨_, rfl, p, rfl, ⟨_, hp⟩, fun D hD => lc_tup (K := K) (a := p) (xs := vs) (fun i H' => LcF K H D ((xs.take i).map (·.2)) H') (LcF.start hD) (fun i H' _ ⟨ws, _, s1, _⟩ => s1.tup hp) ?_ ?_⟩
    · rintro i v H' hi ⟨ws, h1, s1, hf⟩
      obtain ⟨q, r, m, x, rfl, hxi, hq, hr'⟩ := hP.get hi
      have hi2 : i < xs.length := (List.getElem?_eq_some_iff.mp hxi).1
      refine ⟨q, _, rfl, s1.tup hq, rfl, _, _, rfl, _, _, rfl, rfl, rfl, ?_⟩
      dsimp only [tYes]
      rw [if_pos rfl]
      refine ⟨_, rfl, ws, h1, small1000 ?_, ?_⟩
      · rw [hf.len, List.length_map, List.length_take]; omega
      · show LcF K H D _ _
        rw [take_snoc hxi, List.map_append]
        exact LcF.step hD h1 s1 hf (s1.tup hr')
    · rintro H' ⟨ws, h1, s1, hf⟩
      rw [hP.len, List.take_length] at hf
      refine ⟨D, ws, _, rfl, SqL.of h1, hf, ?_, by rw [List.length_map]; exact hlen, fun H2 r s2 hr2 => k _ _ (s1.trans s2) hr2⟩
      intro x hxm
      obtain ⟨a, ha, rfl⟩ := List.mem_map.mp hxm
      exact ⟨(hx a ha).1, (hx a ha).2.up (by decide)⟩
theorem scLawMoment : FnScope ["share_so", "mark", "heft"] ["share_so"] (defScope sLawMoment) := ⟨rfl, rfl, rfl, by decide +kernel, rfl, by decide +kernel, by decide +kernel⟩
theorem ok_law_moment {f f1 f2 : Addr} {fd fd1 fd2 : FuncData} (F : Df K mg "_law_moment" sLawMoment ["share_so"] f fd) (D1 : Df K mg "_law_sum" sLawSum ["some"] f1 fd1) (G1 : FnOk P w K mg base CX0 3 f1 fd1 ["some"] (spSum K)) (D2 : Df K mg "_law_times" sLawTimes ["one", "other"] f2 fd2) (G2 : FnOk P w K mg base CX0 2 f2 fd2 ["one", "other"] (spF2 K (fun _ _ => True) fmul)) : FnOk P w K mg base CX0 4 f fd ["share_so"] (spShF K fmom) := by
  refine F.F.ok scLawMoment (fun vs H Q E h => ?_) (fun cdv A outer s H vs Q E hr h => ?_)
  · obtain ⟨p, xs, rfl, _⟩ := h
    rfl
  · obtain ⟨p, xs, rfl, ⟨vs, hp, hP⟩, hx, hm, hlen, k⟩ := h
    refine ⟨_, pss_one (ps_ret (pe_call G1 hr (by rfl) D1.g D1.F.kp D1.b .nil pass0 (pa_cons (pe_lc (own := [("mark", 1), ("heft", 2)]) (g := gTup K 2 (gCons (gName 1) (gCons (gName 2) gNil))) (tt := tYes) rfl scLawMoment.nd (pi_tup (pv 0)) (blkOk_by (N := ["share_so", "mark", "heft"]) (sc := defScope sLawMoment) (by decide +kernel)) (fun _ _ _ _ _ => pg_tup rfl (pgs_cons (pg_name (i := 1) scLawMoment.nd rfl (Or.inl rfl)) (pgs_cons (pg_name (i := 2) scLawMoment.nd rfl (Or.inl rfl)) pgs_nil))) (fun _ _ _ _ _ => pts_nil) (fun _ _ _ _ _ => pe_call G2 (hr.mono (by decide)) (by rfl) D2.g D2.F.kp D2.b .nil pass0 (pa_cons (pv 2) (pa_cons (pe_tup (pa_cons (pv 1) (pa_cons pe_int pa_nil))) pa_nil)))) pa_nil))), ?_⟩
    refine ⟨_, rfl, p, rfl, ⟨_, hp⟩, fun D hD => lc_tup (K := K) (a := p) (xs := vs) (fun i H' => LcF K H D ((xs.take i).map fun a => scl a.2 a.1) H') (LcF.start hD) (fun i H' _ ⟨ws, _, s1, _⟩ => s1.tup hp) ?_ ?_⟩
    · rintro i v H' hi ⟨ws, h1, s1, hf⟩
      obtain ⟨q, r, m, x, rfl, hxi, hq, hr'⟩ := hP.get hi
      have hi2 : i < xs.length := (List.getElem?_eq_some_iff.mp hxi).1
      have hxm := hx _ (List.mem_of_getElem? hxi)
      have hmm := hm _ (List.mem_of_getElem? hxi)
      simp only at hmm
      refine ⟨q, _, rfl, s1.tup hq, rfl, _, _, rfl, _, _, rfl, rfl, rfl, ?_⟩
      dsimp only [tYes]
      rw [if_pos rfl]
      refine ⟨_, rfl, _, rfl, (by show 2 ≤ sizeLine; decide), fun t0 ht0 => ?_⟩
      have k0 := Same.new (o := .tup [V.int m, V.int 1]) ht0
      refine ⟨r, t0, x, (m, 1), rfl, k0.tup (s1.tup hr'), SqT.of upd_same, hxm.1, fr_one m, hxm.2.up (by decide), (sz_one (n := 100) (Nat.lt_of_le_of_lt hmm (by decide)) (by decide)).up (by decide), trivial, fun t ht => ?_⟩
      rw [scl_mul]
      have k1 := k0.trans (Same.new (o := .tup [.int (scl x m).1, .int (scl x m).2]) ht)
      refine ⟨ws, k1 _ _ h1, small1000 ?_, ?_⟩
      · rw [hf.len, List.length_map, List.length_take]; omega
      · show LcF K H D _ _
        rw [take_snoc hxi, List.map_append]
        exact LcF.step hD (k1 _ _ h1) (s1.trans k1) (hf.tk (tk_same k1)) FT.new
    · rintro H' ⟨ws, h1, s1, hf⟩
      rw [hP.len, List.take_length] at hf
      refine ⟨D, ws, _, rfl, SqL.of h1, hf, ?_, by rw [List.length_map]; exact hlen, fun H2 r s2 hr2 => k _ _ (s1.trans s2) hr2⟩
      intro x hxm
      obtain ⟨a, ha, rfl⟩ := List.mem_map.mp hxm
      refine ⟨scl_fr (hx a ha).1 _, (scl_sz (m := 8) (hx a ha).1 (hx a ha).2 ?_).up (by decide)⟩
      have := hm a ha
      omega
theorem scLawRest : FnScope ["share_so", "at", "mark", "heft"] ["share_so", "at"] (defScope sLawRest) := ⟨rfl, rfl, rfl, by decide +kernel, rfl, by decide +kernel, by decide +kernel⟩
theorem ok_law_rest {f f1 f2 : Addr} {fd fd1 fd2 : FuncData} (F : Df K mg "_law_rest" sLawRest ["share_so", "at"] f fd) (D1 : Df K mg "_law_sum" sLawSum ["some"] f1 fd1) (G1 : FnOk P w K mg base CX0 3 f1 fd1 ["some"] (spSum K)) (D2 : Df K mg "_law_times" sLawTimes ["one", "other"] f2 fd2) (G2 : FnOk P w K mg base CX0 2 f2 fd2 ["one", "other"] (spF2 K (fun _ _ => True) fmul)) : FnOk P w K mg base CX0 4 f fd ["share_so", "at"] (spShFk K frest) := by
  refine F.F.ok scLawRest (fun vs H Q E h => ?_) (fun cdv A outer s H vs Q E hr h => ?_)
  · obtain ⟨p, xs, n, rfl, _⟩ := h
    rfl
  · obtain ⟨p, xs, n, rfl, ⟨vs, hp, hP⟩, hx, hm, hn, hlen, k⟩ := h
    refine ⟨_, pss_one (ps_ret (pe_call G1 hr (by rfl) D1.g D1.F.kp D1.b .nil pass0 (pa_cons (pe_lc (own := [("mark", 2), ("heft", 3)]) (g := gTup K 2 (gCons (gName 2) (gCons (gName 3) gNil))) (tt := _) rfl scLawRest.nd (pi_tup (pv 0)) (blkOk_by (N := ["share_so", "at", "mark", "heft"]) (sc := defScope sLawRest) (by decide +kernel)) (fun _ _ _ _ _ => pg_tup rfl (pgs_cons (pg_name (i := 2) scLawRest.nd rfl (Or.inl rfl)) (pgs_cons (pg_name (i := 3) scLawRest.nd rfl (Or.inl rfl)) pgs_nil))) (fun _ _ _ _ _ => pts_one (pt_cmpR op_gt (pv 2) (pv 1) (nomark _))) (fun _ _ _ _ _ => pe_call G2 (hr.mono (by decide)) (by rfl) D2.g D2.F.kp D2.b .nil pass0 (pa_cons (pv 3) (pa_cons (pe_tup (pa_cons (pe_op op_sub (pv 2) (pv 1)) (pa_cons pe_int pa_nil))) pa_nil)))) pa_nil))), ?_⟩
    refine ⟨_, rfl, p, rfl, ⟨_, hp⟩, fun D hD => lc_tup (K := K) (a := p) (xs := vs) (fun i H' => LcF K H D (((xs.take i).filter fun a => decide (n < a.1)).map fun a => scl a.2 (a.1 - n)) H') (LcF.start hD) (fun i H' _ ⟨ws, _, s1, _⟩ => s1.tup hp) ?_ ?_⟩
    · rintro i v H' hi ⟨ws, h1, s1, hf⟩
      obtain ⟨q, r, m, x, rfl, hxi, hq, hr'⟩ := hP.get hi
      have hi2 : i < xs.length := (List.getElem?_eq_some_iff.mp hxi).1
      have hxm := hx _ (List.mem_of_getElem? hxi)
      have hmm := hm _ (List.mem_of_getElem? hxi)
      simp only at hmm
      refine ⟨q, _, rfl, s1.tup hq, rfl, _, _, rfl, _, _, rfl, rfl, rfl, ?_⟩
      refine ⟨_, rfl, _, rfl, _, _, rfl, rfl, _, rfl, ?_⟩
      by_cases hc : n < m
      · dsimp only
        rw [if_pos (decide_eq_true hc)]
        refine ⟨_, rfl, _, rfl, _, rfl, _, _, rfl, rfl, (by show 2 ≤ sizeLine; decide), fun t0 ht0 => ?_⟩
        have k0 := Same.new (o := .tup [V.int (m - n), V.int 1]) ht0
        have hmn : (m - n).natAbs < 2 ^ 100 := Nat.lt_of_le_of_lt (show (m - n).natAbs ≤ 400 by omega) (by decide)
        refine ⟨r, t0, x, (m - n, 1), rfl, k0.tup (s1.tup hr'), SqT.of upd_same, hxm.1, fr_one _, hxm.2.up (by decide), (sz_one hmn (by decide)).up (by decide), trivial, fun t ht => ?_⟩
        rw [scl_mul]
        have k1 := k0.trans (Same.new (o := .tup [.int (scl x (m - n)).1, .int (scl x (m - n)).2]) ht)
        refine ⟨ws, k1 _ _ h1, small1000 ?_, ?_⟩
        · rw [hf.len, List.length_map]
          have := List.length_filter_le (fun a : Int × Fx => decide (n < a.1)) (xs.take i)
          rw [List.length_take] at this
          omega
        · show LcF K H D _ _
          rw [take_snoc hxi, List.filter_append, List.map_append, List.filter_cons_of_pos (by simpa using hc)]
          exact LcF.step hD (k1 _ _ h1) (s1.trans k1) (hf.tk (tk_same k1)) FT.new
      · dsimp only
        rw [if_neg (by rw [decide_eq_false hc]; exact Bool.false_ne_true)]
        show LcF K H D _ _
        rw [take_snoc hxi, List.filter_append, List.map_append, List.filter_cons_of_neg (by simpa using hc)]
        show LcF K H D (_ ++ []) _
        rw [List.append_nil]
        exact ⟨ws, h1, s1, hf⟩
    · rintro H' ⟨ws, h1, s1, hf⟩
      rw [hP.len, List.take_length] at hf
      refine ⟨D, ws, _, rfl, SqL.of h1, hf, ?_, ?_, fun H2 r s2 hr2 => k _ _ (s1.trans s2) hr2⟩
      · intro x hxm
        obtain ⟨a, ha, rfl⟩ := List.mem_map.mp hxm
        have ha2 := (List.mem_filter.mp ha).1
        refine ⟨scl_fr (hx a ha2).1 _, (scl_sz (m := 9) (hx a ha2).1 (hx a ha2).2 ?_).up (by decide)⟩
        have := hm a ha2
        omega
      · rw [List.length_map]
        exact Nat.le_trans (List.length_filter_le _ _) hlen
/-! share_of -/
def spShOf (K : PySem.W.Frag) : Sp := fun vs H Q _ => ∃ d kvs g, vs = [.ref d] ∧ H d = some (.dK kvs) ∧ DPr K H kvs g ∧ (g.map (·.1)).Nodup ∧ g.length ≤ 40 ∧ ∀ H' r ys, Same H H' → ShAt K H' r ys → IsS g ys → Q (.ref r) H'
theorem scLawShareOf : FnScope ["hefts", "mark"] ["hefts"] (defScope sLawShareOf) := ⟨rfl, rfl, rfl, by decide +kernel, rfl, by decide +kernel, by decide +kernel⟩
theorem ok_law_share_of {f : Addr} {fd : FuncData} (F : Df K mg "_law_share_of" sLawShareOf ["hefts"] f fd) (T : Bt mg) : FnOk P w K mg base CX0 1 f fd ["hefts"] (spShOf K) := by
  refine F.F.ok scLawShareOf (fun vs H Q E h => ?_) (fun cdv A outer s H vs Q E hr h => ?_)
  · obtain ⟨d, kvs, g, rfl, _⟩ := h
    rfl
  · obtain ⟨d, kvs, g, rfl, hdk, hD, hn, hlen, k⟩ := h
    have hu := hu_of hr
    refine ⟨_, pss_one (ps_ret (pe_callTy call_tuple_of (by rfl) T.tuple (by decide +kernel) (pa_cons (pe_lc (own := [("mark", 1)]) (g := gName 1) (tt := tTest (tOp (rNeD K) (tDGet (tVar 0) (tVar 1)) (tTup (tCons (tC (.int 0)) (tCons (tC (.int 1)) tNil))))) rfl scLawShareOf.nd (pi_list (pe_callB (call_sortedDI rfl) (by rfl) T.sorted (by decide +kernel) (pa_cons (pv 0) pa_nil))) (blkOk_by (N := ["hefts", "mark"]) (sc := defScope sLawShareOf) (by decide +kernel)) (fun _ _ _ _ _ => pg_name (i := 1) scLawShareOf.nd rfl (Or.inl rfl)) (fun _ _ _ _ _ => pts_one (pt_cmpR (op_neD hr.units) (pe_dget hu (pv 0) (pv 1) (fun _ _ => rfl)) (pe_tup (pa_cons pe_int (pa_cons pe_int pa_nil))) (nomark _))) (fun _ _ _ _ _ => pe_tup (pa_cons (pv 1) (pa_cons (pe_dget hu (pv 0) (pv 1) (fun _ _ => rfl)) pa_nil)))) pa_nil))), ?_⟩
    refine ⟨_, rfl, d, kvs, g.map (·.1), rfl, .inl hdk, hD.keys, by rw [List.length_map]; omega, fun ys t perm srt ht => ?_⟩
    have k1 := Same.new (o := .lst (ys.map V.int)) ht
    have hlen2 : ys.length ≤ 40 := by
      rw [perm.length_eq, List.length_map]
      exact hlen
    have hT : (upd H t (.lst (ys.map V.int))) t = some (.lst (ys.map V.int)) := upd_same
    have hD2 := hD.tk (tk_same k1)
    have hdk2 := k1 _ _ hdk
    generalize upd H t (.lst (ys.map V.int)) = H2 at *
    refine ⟨t, rfl, ⟨_, SqL.of hT⟩, fun D hDn => lc_list (K := K) (a := t) (xs := ys.map V.int) (fun i H' => LcP K H2 D ((((ys.take i).filter fun k => decide (lk g k ≠ (0, 1))).map fun k => (k, lk g k))) H') (LcP.start hDn) (fun i H' _ ⟨_, _, s3, _⟩ => SqL.of (s3 _ _ hT)) ?_ ?_⟩
    · rintro i v H' hi ⟨us, h1, s3, hf⟩
      rw [List.getElem?_map] at hi
      obtain ⟨m, hmi, rfl⟩ : ∃ m, ys[i]? = some m ∧ v = V.int m := by
        cases e : ys[i]? with
        | none => rw [e] at hi; cases hi
        | some z => rw [e] at hi; exact ⟨z, rfl, (Option.some.inj hi).symm⟩
      have hmem : m ∈ g.map (·.1) := perm.mem_iff.mp (List.mem_of_getElem? hmi)
      obtain ⟨r, g1, g2⟩ := (hD2.tk (tk_same s3)).val m hmem
      have hg : DGet H' d (.int m) (some (.ref r)) := by
        rw [← g1]
        exact DGet.k (k := Sum.inl m) (s3 _ _ hdk2)
      refine ⟨rfl, ?_⟩
      refine ⟨_, rfl, _, rfl, d, _, rfl, hg, (by show 2 ≤ sizeLine; decide), fun t0 ht0 => ?_⟩
      have k0 := Same.new (o := .tup [V.int 0, V.int 1]) ht0
      refine ⟨frD (lk g m), frD (0, 1), ftDp (k0.tup g2), ftDp (FT.new (x := (0, 1))), rfl, rfl, _, rfl, ?_⟩
      dsimp only
      rw [eqvFr]
      have hsz : us.length ≤ 1000 := by
        rw [hf.len, List.length_map]
        have := List.length_filter_le (fun k => decide (lk g k ≠ (0, 1))) (ys.take i)
        rw [List.length_take] at this
        omega
      have hgk : DGet (upd H' t0 (.tup [V.int 0, V.int 1])) d (.int m) (some (.ref r)) := by
        rw [← g1]
        exact DGet.k (k := Sum.inl m) (k0 _ _ (s3 _ _ hdk2))
      by_cases hc : lk g m = (0, 1)
      · rw [if_neg (by simp [hc])]
        show LcP K H2 D _ _
        rw [take_snoc hmi, List.filter_append, List.map_append, List.filter_cons_of_neg (by simp [hc])]
        show LcP K H2 D (_ ++ []) _
        rw [List.append_nil]
        exact ⟨us, k0 _ _ h1, s3.trans k0, hf.tk (tk_same k0)⟩
      · rw [if_pos (by simp [hc])]
        refine ⟨_, rfl, _, rfl, _, rfl, d, _, rfl, hgk, (by show 2 ≤ sizeLine; decide), fun t2 ht2 => ?_⟩
        have k2 := k0.trans (Same.new (o := .tup [V.int m, .ref r]) ht2)
        refine ⟨us, k2 _ _ h1, small1000 hsz, ?_⟩
        show LcP K H2 D _ _
        rw [take_snoc hmi, List.filter_append, List.map_append, List.filter_cons_of_pos (by simp [hc])]
        exact LcP.step hDn (k2 _ _ h1) (s3.trans k2) (hf.tk (tk_same k2)) (SqT.of upd_same) (k2.tup g2)
    · rintro H' ⟨us, h1, s3, hf⟩
      rw [List.length_map, List.take_length] at hf
      refine ⟨D, us, rfl, .inl ⟨SqL.of h1, fun l hl => ?_⟩⟩
      have k3 := Same.new (o := .tup us) hl
      exact k _ l _ (k1.trans (s3.trans k3)) ⟨us, SqT.of upd_same, hf.tk (tk_same k3)⟩ (isS_of perm hn srt)
end
end CS
set_option Elab.async false
set_option maxRecDepth 100000
set_option maxHeartbeats 8000000
set_option linter.unusedVariables false
namespace CS
open PySem L2
/-! shares whose tuple has no dict of its own -/
def ShZ (K : PySem.W.Frag) (H : Hp) (p : Addr) (xs : List (Int × Fx)) : Prop := ∃ vs, TupZ H p vs ∧ PrsAt K H vs xs
section
variable {K : PySem.W.Frag} {H H' : Hp}
theorem ShZ.sh {p : Addr} {xs : List (Int × Fx)} (h : ShZ K H p xs) : ShAt K H p xs := by
  obtain ⟨vs, a, b⟩ := h
  exact ⟨vs, a.sq, b⟩
theorem ShZ.same {p : Addr} {xs : List (Int × Fx)} (e : Same H H') (h : ShZ K H p xs) : ShZ K H' p xs := by
  obtain ⟨vs, ⟨o, d, a⟩, b⟩ := h
  exact ⟨vs, ⟨o, d, e _ _ a⟩, b.tk (tk_same e)⟩
/-- the table that dict(..) makes of a share -/
theorem dpr_merge : ∀ {vs : List V} {xs : List (Int × Fx)}, PrsAt K H vs xs → ∃ (ps : List Addr) (kvs : List (Key × V)), vs = ps.map V.ref ∧ Paired (fun p kv => SqT K H p [kV kv.1, kv.2]) ps kvs ∧
    ∀ (acc : List (Key × V)) (f : List (Int × Fx)), DPr K H acc f → ((f ++ xs).map (·.1)).Nodup → DPr K H (mergeK acc kvs) (f ++ xs)
  | _, _, .nil => ⟨[], [], rfl, .nil, fun acc f h _ => by rw [List.append_nil]; exact h⟩
  | _, _, @PrsAt.cons _ _ q r m x vs xs a b c => by
    obtain ⟨ps, kvs, e, hp, k⟩ := dpr_merge c
    refine ⟨q :: ps, (Sum.inl m, .ref r) :: kvs, by rw [e]; rfl, .cons a hp, fun acc f h hn => ?_⟩
    have hn2 : (f.map (·.1)).Nodup := by
      rw [List.map_append] at hn
      exact (List.nodup_append.mp hn).1
    have hm : m ∉ f.map (·.1) := fun z => by
      rw [List.map_append] at hn
      exact (List.nodup_append.mp hn).2.2 m z m (by simp) rfl
    have h2 := h.put hn2 (k := m) b
    rw [ups_new hm] at h2
    have := k _ _ h2 (by rw [List.append_assoc]; exact hn)
    rw [List.append_assoc] at this
    exact this
end
section
variable {P : Program} {w : World} {K : PySem.W.Frag} {mg : Str → Option Value} {base : Heap}
/-- two shares in, the first one of the law's own, a share out -/
def spTwo (K : PySem.W.Frag) (ok : List (Int × Fx) → List (Int × Fx) → Prop) (g : List (Int × Fx) → List (Int × Fx) → List (Int × Fx)) : Sp := fun vs H Q _ => ∃ p q xs ys, vs = [.ref p, .ref q] ∧ ShZ K H p xs ∧ ShAt K H q ys ∧ (xs.map (·.1)).Nodup ∧ AllF 80 xs ∧ AllF 80 ys ∧ xs.length ≤ 16 ∧ ys.length ≤ 16 ∧ ok xs ys ∧
  ∀ H' r zs, Same H H' → ShAt K H' r zs → IsS (g xs ys) zs → Q (.ref r) H'
theorem scLawBoth : FnScope ["one", "other", "hefts", "mark", "heft"] ["one", "other"] (defScope sLawBoth) := ⟨rfl, rfl, rfl, by decide +kernel, rfl, by decide +kernel, by decide +kernel⟩
theorem ok_law_both {f f1 f2 : Addr} {fd fd1 fd2 : FuncData} (F : Df K mg "_law_both" sLawBoth ["one", "other"] f fd) (D1 : Df K mg "_law_plus" sLawPlus ["one", "other"] f1 fd1) (G1 : FnOk P w K mg base CX0 2 f1 fd1 ["one", "other"] (spF2 K (fun _ _ => True) fadd)) (D2 : Df K mg "_law_share_of" sLawShareOf ["hefts"] f2 fd2)
    (G2 : FnOk P w K mg base CX0 1 f2 fd2 ["hefts"] (spShOf K)) (T : Bt mg) : FnOk P w K mg base CX0 3 f fd ["one", "other"] (spTwo K (fun _ _ => True) gat) := by
  refine F.F.ok scLawBoth (fun vs H Q E h => ?_) (fun cdv A outer s H vs Q E hr h => ?_)
  · obtain ⟨p, q, xs, ys, rfl, _⟩ := h
    rfl
  · obtain ⟨p, q, xs, ys, rfl, hz, hq, hn, ax, ay, lx, ly, _, k⟩ := h
    have hu := hu_of hr
    refine ⟨_, pss_cons (ps_set (i := 2) scLawBoth.nd rfl (Or.inl rfl) (pe_callTy (call_dictZ rfl) (by rfl) T.dict (by decide +kernel) (pa_cons (pv 0) pa_nil)))
      (pss_cons (ps_for PassesOwn.never rfl (pi_tup (pv 1)) (pg_tup rfl (pgs_cons (pg_name (i := 3) scLawBoth.nd rfl (Or.inl rfl)) (pgs_cons (pg_name (i := 4) scLawBoth.nd rfl (Or.inl rfl)) pgs_nil))) (pss_one (ps_dput hu (pv 2) (pv 3) (pe_call G1 hr (by rfl) D1.g D1.F.kp D1.b .nil pass0 (pa_cons (pe_dget2 hu (pv 2) (pv 3) (pe_tup (pa_cons pe_int (pa_cons pe_int pa_nil))) ⟨rfl, rfl, rfl, rfl⟩) (pa_cons (pv 4) pa_nil))) rfl)))
      (pss_one (ps_ret (pe_call G2 (hr.mono (by decide)) (by rfl) D2.g D2.F.kp D2.b .nil pass0 (pa_cons (pv 2) pa_nil))))), ?_⟩
    obtain ⟨vs, tz, hP⟩ := hz
    obtain ⟨us, hu2, hR⟩ := hq
    obtain ⟨ps, kvs, e, hp, mk⟩ := dpr_merge hP
    subst e
    refine ⟨_, rfl, p, ps, kvs, rfl, tz, hp, fun d hd => ?_⟩
    have s0 := Same.new (o := .dK (mergeK [] kvs)) hd
    have D0 : DPr K (upd H d (.dK (mergeK [] kvs))) (mergeK [] kvs) xs := (mk [] [] .nil hn).tk (tk_same s0)
    refine ⟨_, rfl, q, rfl, ⟨_, s0.tup hu2⟩, for_tup (K := K) (a := q) (xs := us) (fun i σ H' => ∃ u v kvs, σ = [some (.ref p), some (.ref q), some (.ref d), u, v] ∧ Same H H' ∧ H' d = some (.dK kvs) ∧ DPr K H' kvs (gat xs (ys.take i))) ⟨none, none, _, rfl, s0, upd_same, D0⟩ (fun i σ H' _ ⟨_, _, _, _, s1, _⟩ => s1.tup hu2) ?_ ?_⟩
    · rintro i v σ H' hi ⟨u1, u2, kvs, rfl, s1, hdk, hD⟩
      obtain ⟨qq, r, m, x, rfl, hxi, hqq, hr'⟩ := hR.get hi
      have hi2 : i < ys.length := (List.getElem?_eq_some_iff.mp hxi).1
      have hxm := ay _ (List.mem_of_getElem? hxi)
      refine ⟨qq, _, rfl, s1.tup hqq, rfl, _, _, rfl, _, _, rfl, rfl, ?_⟩
      have hz := gat_frS (n := 80) ax (ay.take (i := i)) (by decide) m
      refine ⟨_, rfl, d, rfl, .inl ⟨kvs, .inl hdk⟩, _, rfl, (by show 2 ≤ sizeLine; decide), fun t0 ht0 => ?_⟩
      have k0 := Same.new (o := .tup [V.int 0, V.int 1]) ht0
      obtain ⟨o, a, g1, g2, g3⟩ := dget_or (aN := t0) (k0 _ _ hdk) (hD.tk (tk_same k0)) (FT.new (x := (0, 1))) m
      refine ⟨o, g1, ?_⟩
      rw [g2]
      refine ⟨_, rfl, a, r, _, x, rfl, g3, k0.tup (s1.tup hr'), hz.1, hxm.1, hz.2.up (by rw [List.length_take]; omega), hxm.2.up (by decide), trivial, fun t ht => ?_⟩
      have k1 := k0.trans (Same.new (o := .tup [.int (fadd (lk (gat xs (ys.take i)) m) x).1, .int (fadd (lk (gat xs (ys.take i)) m) x).2]) ht)
      have hl : kvs.length < sizeLine := by
        refine small1000 ?_
        rw [hD.len]
        have := gat_len (ys.take i) xs
        rw [List.length_take] at this
        omega
      refine ⟨_, rfl, _, rfl, d, _, rfl, DPut.k (k := Sum.inl m) (k1 _ _ hdk) hl, ?_⟩
      refine ⟨_, _, _, rfl, same_upd hd (s1.trans k1), upd_same, ?_⟩
      rw [take_snoc hxi, gat_snoc]
      exact ((hD.tk (tk_same k1)).put (gat_nodup _ _ hn) FT.new).tk (tk_dk (k1 _ _ hdk))
    · rintro σ H1 ⟨u1, u2, kvs, rfl, s1, hdk, hD⟩
      rw [hR.len, List.take_length] at hD
      have lg := gat_len ys xs
      exact ⟨_, rfl, d, kvs, _, rfl, hdk, hD, gat_nodup _ _ hn, by omega, fun H' r zs s2 h1 h2 => k _ _ _ (s1.trans s2) h1 h2⟩
theorem scLawTaken : FnScope ["share_so", "part", "hefts", "mark", "heft"] ["share_so", "part"] (defScope sLawTaken) := ⟨rfl, rfl, rfl, by decide +kernel, rfl, by decide +kernel, by decide +kernel⟩
theorem ok_law_taken {f f1 f2 : Addr} {fd fd1 fd2 : FuncData} (F : Df K mg "_law_taken" sLawTaken ["share_so", "part"] f fd) (D1 : Df K mg "_law_less" sLawLess ["one", "other"] f1 fd1) (G1 : FnOk P w K mg base CX0 2 f1 fd1 ["one", "other"] (spF2 K (fun _ _ => True) fsub)) (D2 : Df K mg "_law_share_of" sLawShareOf ["hefts"] f2 fd2)
    (G2 : FnOk P w K mg base CX0 1 f2 fd2 ["hefts"] (spShOf K)) (T : Bt mg) : FnOk P w K mg base CX0 3 f fd ["share_so", "part"] (spTwo K (fun xs ys => (ys.map (·.1)).Nodup ∧ ∀ a ∈ ys, a.1 ∈ xs.map (·.1)) tks) := by
  refine F.F.ok scLawTaken (fun vs H Q E h => ?_) (fun cdv A outer s H vs Q E hr h => ?_)
  · obtain ⟨p, q, xs, ys, rfl, _⟩ := h
    rfl
  · obtain ⟨p, q, xs, ys, rfl, hz, hq, hn, ax, ay, lx, ly, ⟨ny, hin⟩, k⟩ := h
    have hu := hu_of hr
    refine ⟨_, pss_cons (ps_set (i := 2) scLawTaken.nd rfl (Or.inl rfl) (pe_callTy (call_dictZ rfl) (by rfl) T.dict (by decide +kernel) (pa_cons (pv 0) pa_nil)))
      (pss_cons (ps_for PassesOwn.never rfl (pi_tup (pv 1)) (pg_tup rfl (pgs_cons (pg_name (i := 3) scLawTaken.nd rfl (Or.inl rfl)) (pgs_cons (pg_name (i := 4) scLawTaken.nd rfl (Or.inl rfl)) pgs_nil))) (pss_one (ps_dput hu (pv 2) (pv 3) (pe_call G1 hr (by rfl) D1.g D1.F.kp D1.b .nil pass0 (pa_cons (pe_dget hu (pv 2) (pv 3) (fun _ _ => rfl)) (pa_cons (pv 4) pa_nil))) rfl)))
      (pss_one (ps_ret (pe_call G2 (hr.mono (by decide)) (by rfl) D2.g D2.F.kp D2.b .nil pass0 (pa_cons (pv 2) pa_nil))))), ?_⟩
    obtain ⟨vs, tz, hP⟩ := hz
    obtain ⟨us, hu2, hR⟩ := hq
    obtain ⟨ps, kvs, e, hp, mk⟩ := dpr_merge hP
    subst e
    refine ⟨_, rfl, p, ps, kvs, rfl, tz, hp, fun d hd => ?_⟩
    have s0 := Same.new (o := .dK (mergeK [] kvs)) hd
    have D0 : DPr K (upd H d (.dK (mergeK [] kvs))) (mergeK [] kvs) xs := (mk [] [] .nil hn).tk (tk_same s0)
    refine ⟨_, rfl, q, rfl, ⟨_, s0.tup hu2⟩, for_tup (K := K) (a := q) (xs := us) (fun i σ H' => ∃ u v kvs, σ = [some (.ref p), some (.ref q), some (.ref d), u, v] ∧ Same H H' ∧ H' d = some (.dK kvs) ∧ DPr K H' kvs (tks xs (ys.take i))) ⟨none, none, _, rfl, s0, upd_same, D0⟩ (fun i σ H' _ ⟨_, _, _, _, s1, _⟩ => s1.tup hu2) ?_ ?_⟩
    · rintro i v σ H' hi ⟨u1, u2, kvs, rfl, s1, hdk, hD⟩
      obtain ⟨qq, r, m, x, rfl, hxi, hqq, hr'⟩ := hR.get hi
      have hi2 : i < ys.length := (List.getElem?_eq_some_iff.mp hxi).1
      have hmy := List.mem_of_getElem? hxi
      have hxm := ay _ hmy
      refine ⟨qq, _, rfl, s1.tup hqq, rfl, _, _, rfl, _, _, rfl, rfl, ?_⟩
      have hmem : m ∈ (tks xs (ys.take i)).map (·.1) := (tks_keys _ _ _).mpr (.inl (hin _ hmy))
      have hnot : m ∉ (ys.take i).map (·.1) := fun z => by
        have e1 : ys = ys.take i ++ (m, x) :: ys.drop (i + 1) := by
          conv => lhs; rw [← List.take_append_drop i ys]
          congr 1
          rw [List.drop_eq_getElem_cons hi2]
          congr 1
          exact (List.getElem?_eq_some_iff.mp hxi).2
        rw [e1, List.map_append] at ny
        exact (List.nodup_append.mp ny).2.2 m z m (by simp) rfl
      have hlk : lk (tks xs (ys.take i)) m = lk xs m := tks_none _ _ _ hnot
      have hz := lk_fr ax (by decide) m
      obtain ⟨a, g1, g3⟩ := hD.val m hmem
      have hg : DGet H' d (.int m) (some (.ref a)) := by
        rw [← g1]
        exact DGet.k (k := Sum.inl m) hdk
      rw [hlk] at g3
      refine ⟨_, rfl, _, rfl, d, _, rfl, hg, _, rfl, a, r, _, x, rfl, g3, s1.tup hr', hz.1, hxm.1, hz.2.up (by decide), hxm.2.up (by decide), trivial, fun t ht => ?_⟩
      have k1 := Same.new (o := .tup [.int (fsub (lk xs m) x).1, .int (fsub (lk xs m) x).2]) ht
      have hl : kvs.length < sizeLine := by
        refine small1000 ?_
        rw [hD.len]
        have := tks_len (ys.take i) xs
        rw [List.length_take] at this
        omega
      refine ⟨_, rfl, _, rfl, d, _, rfl, DPut.k (k := Sum.inl m) (k1 _ _ hdk) hl, ?_⟩
      refine ⟨_, _, _, rfl, same_upd hd (s1.trans k1), upd_same, ?_⟩
      rw [take_snoc hxi, tks_snoc, hlk]
      exact ((hD.tk (tk_same k1)).put (tks_nodup _ _ hn) FT.new).tk (tk_dk (k1 _ _ hdk))
    · rintro σ H1 ⟨u1, u2, kvs, rfl, s1, hdk, hD⟩
      rw [hR.len, List.take_length] at hD
      have lg := tks_len ys xs
      exact ⟨_, rfl, d, kvs, _, rfl, hdk, hD, tks_nodup _ _ hn, by omega, fun H' r zs s2 h1 h2 => k _ _ _ (s1.trans s2) h1 h2⟩
end
end CS
set_option Elab.async false
set_option maxRecDepth 100000
set_option maxHeartbeats 8000000
set_option linter.unusedVariables false
namespace CS
open PySem L2
theorem low_pos {t b : Int} (ht : 0 < t) (hb : 0 < b) : 0 < (low t b).1 := (low_sign hb).1.mpr ht
/-- a set's keys, one more -/
def addK (ns : List Int) (m : Int) : List Int := if m ∈ ns then ns else ns ++ [m]
theorem keys_put {kvs : List (Key × V)} {ns : List Int} {m : Int} {v : V} (h : kvs.map (·.1) = ns.map Sum.inl) : (putK kvs (Sum.inl m : Key) v).map (·.1) = (addK ns m).map Sum.inl := by
  have e : (kvs.any fun kv => decide (kv.1 = (Sum.inl m : Key))) = decide (m ∈ ns) := by
    have e1 : (kvs.any fun kv => decide (kv.1 = (Sum.inl m : Key))) = (kvs.map (·.1)).any fun k => decide (k = (Sum.inl m : Key)) := by rw [List.any_map]; rfl
    rw [e1, h, List.any_map, Bool.eq_iff_iff]
    simp
  unfold putK addK
  rw [e]
  by_cases c : m ∈ ns
  · rw [if_pos (decide_eq_true c), if_pos c, ← h, List.map_map]
    apply List.map_congr_left
    intro kv _
    simp only [Function.comp]
    by_cases q : kv.1 = (Sum.inl m : Key)
    · rw [if_pos q, q]
    · rw [if_neg q]
  · rw [if_neg (by simp [c]), if_neg c, List.map_append, List.map_append, h]
    rfl
theorem addK_nodup {ns : List Int} {m : Int} (h : ns.Nodup) : (addK ns m).Nodup := by
  unfold addK
  split
  · exact h
  · rename_i c
    rw [List.nodup_append]
    refine ⟨h, by simp, fun a ha b hb => ?_⟩
    rw [List.mem_singleton.mp hb]
    exact fun e => c (e ▸ ha)
theorem addK_len (ns : List Int) (m : Int) : (addK ns m).length ≤ ns.length + 1 := by
  unfold addK
  split
  · omega
  · simp
theorem addK_mem {ns : List Int} {m a : Int} (h : a ∈ addK ns m) : a ∈ ns ∨ a = m := by
  unfold addK at h
  split at h
  · exact .inl h
  · simpa using h
section
variable {H H1 : Hp} {d c l a : Addr} {k : Nat} {o : HO}
/-- a write beside the state -/
theorem StAt.upd (S : StAt H d c l k) (h1 : a ≠ d) (h2 : a ≠ c) (h3 : a ≠ l) : StAt (upd H a o) d c l k := by
  obtain ⟨hd, ne, cs, ls, e1, e2, r⟩ := S
  exact ⟨by rw [upd_ne (Ne.symm h1)]; exact hd, ne, cs, ls, by rw [upd_ne (Ne.symm h2)]; exact e1, by rw [upd_ne (Ne.symm h3)]; exact e2, r⟩
theorem StAt.neD (S : StAt H d c l k) (h : H a = none) : a ≠ d ∧ a ≠ c ∧ a ≠ l := by
  obtain ⟨hd, ne, cs, ls, e1, e2, r⟩ := S
  refine ⟨fun z => ?_, fun z => ?_, fun z => ?_⟩
  · rw [z, hd] at h
    cases h
  · rw [z, e1] at h
    cases h
  · rw [z, e2] at h
    cases h
/-- what was new ahead is no part of the state behind -/
theorem Fm.upd (f : Fm d l H H1) (h : H a = none) : Fm d l H (upd H1 a o) := fun b u e n m => by
  rw [upd_ne (ne_of_none e h)]
  exact f b u e n m
theorem Fm.none (f : Fm d l H H1) (h : H1 a = Option.none) (nd : a ≠ d) (nl : a ≠ l) : H a = Option.none := by
  cases e : H a with
  | none => rfl
  | some u =>
    rw [f a u e nd nl] at h
    cases h
end
section
variable {P : Program} {w : World} {K : PySem.W.Frag} {mg : Str → Option Value} {base : Heap}
def spHeft (K : PySem.W.Frag) : Sp := fun vs H Q _ => ∃ (d c l : Addr) (k : Nat), vs = [.ref d] ∧ StAt H d c l k ∧ k ≤ 90000 ∧ ∀ p H' x, Fr x → 0 < x.1 → Sz 10 x → StAt H' d c l (k + 2) → Fm d l H H' → FT K H' p x → Q (.ref p) H'
theorem scLawHeft : FnScope ["state"] ["state"] (defScope sLawHeft) := ⟨rfl, rfl, rfl, by decide +kernel, rfl, by decide +kernel, by decide +kernel⟩
theorem ok_law_heft {f f1 f2 : Addr} {fd fd1 fd2 : FuncData} (F : Df K mg "_law_heft" sLawHeft ["state"] f fd) (F1 : Df K mg "_law_draw" sDraw ["state", "many"] f1 fd1) (G1 : FnOk P w K mg base CX0 2 f1 fd1 ["state", "many"] spDraw) (F2 : Df K mg "_law_ratio" sLawRatio ["top", "bottom"] f2 fd2) (G2 : FnOk P w K mg base CX0 1 f2 fd2 ["top", "bottom"] spLowP) : FnOk P w K mg base CX0 3 f fd ["state"] (spHeft K) := by
  refine F.F.ok scLawHeft (fun vs H Q E h => ?_) (fun cdv A outer s H vs Q E hr h => ?_)
  · obtain ⟨d, c, l, k, rfl, _⟩ := h
    rfl
  · obtain ⟨d, c, l, n, rfl, S, hn, k⟩ := h
    refine ⟨_, pss_one (ps_ret (pe_call G2 (hr.mono (by decide)) (by rfl) F2.g F2.F.kp F2.b .nil pass0 (pa_cons (pe_op op_add pe_int (pe_call G1 hr (by rfl) F1.g F1.F.kp F1.b .nil pass0 (pa_cons (pv 0) (pa_cons pe_int pa_nil))))
      (pa_cons (pe_op op_add pe_int (pe_call G1 hr (by rfl) F1.g F1.F.kp F1.b .nil pass0 (pa_cons (pv 0) (pa_cons pe_int pa_nil)))) pa_nil)))), ?_⟩
    refine ⟨_, rfl, d, c, l, n, _, rfl, S, by decide, by decide, by omega, fun r H1 r0 r1 S1 fm1 => ?_⟩
    refine ⟨_, _, rfl, rfl, _, rfl, d, c, l, n + 1, _, rfl, S1, by decide, by decide, by omega, fun u H2 u0 u1 S2 fm2 => ?_⟩
    refine ⟨_, _, rfl, rfl, _, _, rfl, by omega, lt_up (n := 4000) (show (1 + r).natAbs < 2 ^ 10 by omega) (by decide), lt_up (n := 4000) (show (1 + u).natAbs < 2 ^ 10 by omega) (by decide), fun p hp => ?_⟩
    exact k p _ (low (1 + r) (1 + u)) (low_fr (by omega)) (low_pos (by omega) (by omega)) (low_sz (by omega) (by omega) (by omega)) (S2.same (Same.new hp)) ((fm1.trans fm2).same (Same.new hp)) (SqT.of upd_same)
def spMarks : Sp := fun vs H Q _ => ∃ (d c l : Addr) (k : Nat) (m n : Int), vs = [.ref d, .int m, .int n] ∧ StAt H d c l k ∧ k ≤ 80000 ∧ 0 < m ∧ m ≤ 10 ∧ 0 ≤ n ∧ n ≤ 90 ∧
  ∀ (H' : Hp) (p : Addr) (ns : List Int) (k' : Nat), k' ≤ k + 11 → ns.Pairwise (· < ·) → (∀ a ∈ ns, -n ≤ a ∧ a ≤ n) → (ns.length : Int) ≤ m → StAt H' d c l k' → Fm d l H H' → H p = none → H' p = some (.lst (ns.map V.int)) → Q (.ref p) H'
theorem scLawMarks : FnScope ["state", "many", "most", "known", "k"] ["state", "many", "most"] (defScope sLawMarks) := ⟨rfl, rfl, rfl, by decide +kernel, rfl, by decide +kernel, by decide +kernel⟩
theorem ok_law_marks {f f1 : Addr} {fd fd1 : FuncData} (F : Df K mg "_law_marks" sLawMarks ["state", "many", "most"] f fd) (F1 : Df K mg "_law_draw" sDraw ["state", "many"] f1 fd1) (G1 : FnOk P w K mg base CX0 2 f1 fd1 ["state", "many"] spDraw) (T : Bt mg) : FnOk P w K mg base CX0 3 f fd ["state", "many", "most"] spMarks := by
  refine F.F.ok scLawMarks (fun vs H Q E h => ?_) (fun cdv A outer s H vs Q E hr h => ?_)
  · obtain ⟨d, c, l, k, m, n, rfl, _⟩ := h
    rfl
  · obtain ⟨d, c, l, k0, m, n, rfl, S, hk0, m0, m1, n0, n1, k⟩ := h
    have hu := hu_of hr
    refine ⟨_, pss_cons (ps_set (i := 3) scLawMarks.nd rfl (Or.inl rfl) pe_dnewK)
      (pss_cons (ps_for PassesOwn.never rfl (pi_range1 rfl T.range (pa_cons (pe_op op_add pe_int (pe_call G1 hr (by rfl) F1.g F1.F.kp F1.b .nil pass0 (pa_cons (pv 0) (pa_cons (pv 1) pa_nil)))) pa_nil)) (pg_name (i := 4) scLawMarks.nd rfl (Or.inl rfl)) (pss_one (ps_dput hu (pv 3) (pe_op op_sub (pe_call G1 hr (by rfl) F1.g F1.F.kp F1.b .nil pass0 (pa_cons (pv 0) (pa_cons (pe_op op_add (pe_op op_mul pe_int (pv 2)) pe_int) pa_nil))) (pv 2)) pe_bl rfl)))
      (pss_one (ps_ret (pe_callB (call_sortedDI rfl) (by rfl) T.sorted (by decide +kernel) (pa_cons (pv 3) pa_nil))))), ?_⟩
    intro t ht
    have s0 := Same.new (o := .dK []) ht
    have N0 := S.neD ht
    have S0 := S.same s0
    refine ⟨_, rfl, _, rfl, d, c, l, k0, _, rfl, S0, m0, by omega, by omega, fun r H1 r0 r1 S1 fm1 => ?_⟩
    have ht1 : H1 t = some (.dK []) := fm1 t _ upd_same N0.1 N0.2.2
    have fmT : Fm d l H H1 := fun b o e n1 n2 => fm1 b o (s0 b o e) n1 n2
    refine ⟨_, _, rfl, rfl, _, rfl, by omega, by omega, ?_⟩
    refine for_range (lo := 0) (n := (1 + r).toNat) (fun i σ H' => ∃ v kvs ns, σ = [some (.ref d), some (.int m), some (.int n), some (.ref t), v] ∧ H' t = some (.dK kvs) ∧ kvs.map (·.1) = ns.map Sum.inl ∧ ns.Nodup ∧ (∀ a ∈ ns, -n ≤ a ∧ a ≤ n) ∧ ns.length ≤ i ∧ StAt H' d c l (k0 + 1 + i) ∧ Fm d l H H')
      ⟨none, [], [], rfl, ht1, rfl, List.nodup_nil, fun a ha => (by cases ha), Nat.le_refl _, S1, fmT⟩ ?_ ?_
    · rintro i σ H' hi ⟨v, kvs, ns, rfl, h1, h2, h3, h4, h5, S2, fm2⟩
      refine ⟨_, rfl, _, rfl, _, rfl, _, _, rfl, rfl, .inl ⟨by decide, by decide⟩, _, _, rfl, rfl, d, c, l, _, _, rfl, S2, by omega, by omega, by omega, fun u H2 u0 u1 S3 fm3 => ?_⟩
      have ht2 : H2 t = some (.dK kvs) := fm3 t _ h1 N0.1 N0.2.2
      have hl : kvs.length < sizeLine := by
        have := congrArg List.length h2
        rw [List.length_map, List.length_map] at this
        exact small1000 (by omega)
      refine ⟨_, rfl, _, _, rfl, rfl, t, _, rfl, DPut.k (k := Sum.inl (u - n)) ht2 hl, ?_⟩
      refine ⟨_, _, _, rfl, upd_same, keys_put h2, addK_nodup h3, fun a ha => ?_, ?_, ?_, ?_⟩
      · rcases addK_mem ha with q | q
        · exact h4 a q
        · omega
      · have := addK_len ns (u - n)
        omega
      · exact S3.upd N0.1 N0.2.1 N0.2.2
      · exact (fm2.trans fm3).upd ht
    · rintro σ H' ⟨v, kvs, ns, rfl, h1, h2, h3, h4, h5, S2, fm2⟩
      refine ⟨_, rfl, t, kvs, ns, rfl, .inl h1, h2, by omega, fun ys p perm srt hp => ?_⟩
      have sp := Same.new (o := .lst (ys.map V.int)) hp
      have hnd : ys.Nodup := perm.nodup_iff.mpr h3
      refine k _ p ys _ (by omega) ?_ (fun a ha => h4 a (perm.mem_iff.mp ha)) ?_ (S2.same sp) (fm2.same sp) (fm2.none hp (S2.neD hp).1 (S2.neD hp).2.2) upd_same
      · refine (List.Pairwise.and srt hnd).imp ?_
        rintro a b ⟨q1, q2⟩
        omega
      · rw [perm.length_eq]
        omega
def spShare (K : PySem.W.Frag) : Sp := fun vs H Q _ => ∃ (d c l : Addr) (k : Nat) (m : Int), vs = [.ref d, .int m] ∧ StAt H d c l k ∧ k ≤ 70000 ∧ 0 < m ∧ m ≤ 8 ∧
  ∀ H' p xs k', k' ≤ k + 40 → Good 10 xs → xs.length ≤ 8 → StAt H' d c l k' → Fm d l H H' → ShZ K H' p xs → Q (.ref p) H'
theorem scLawShare : FnScope ["state", "many", "mark"] ["state", "many"] (defScope sLawShare) := ⟨rfl, rfl, rfl, by decide +kernel, rfl, by decide +kernel, by decide +kernel⟩
theorem ok_law_share {f f1 f2 : Addr} {fd fd1 fd2 : FuncData} (F : Df K mg "_law_share" sLawShare ["state", "many"] f fd) (F1 : Df K mg "_law_heft" sLawHeft ["state"] f1 fd1) (G1 : FnOk P w K mg base CX0 3 f1 fd1 ["state"] (spHeft K)) (F2 : Df K mg "_law_marks" sLawMarks ["state", "many", "most"] f2 fd2) (G2 : FnOk P w K mg base CX0 3 f2 fd2 ["state", "many", "most"] spMarks) (T : Bt mg) : FnOk P w K mg base CX0 4 f fd ["state", "many"] (spShare K) := by
  refine F.F.ok scLawShare (fun vs H Q E h => ?_) (fun cdv A outer s H vs Q E hr h => ?_)
  · obtain ⟨d, c, l, k, m, rfl, _⟩ := h
    rfl
  · obtain ⟨d, c, l, k0, m, rfl, S, hk0, m0, m1, k⟩ := h
    refine ⟨_, pss_one (ps_ret (pe_callTy call_tuple_ofZ (by rfl) T.tuple (by decide +kernel) (pa_cons (pe_lc (own := [("mark", 2)]) (g := gName 2) (tt := tYes) rfl scLawShare.nd (pi_list (pe_call G2 hr (by rfl) F2.g F2.F.kp F2.b .nil pass0 (pa_cons (pv 0) (pa_cons (pv 1) (pa_cons pe_int pa_nil))))) (blkOk_by (N := ["state", "many", "mark"]) (sc := defScope sLawShare) (by decide +kernel)) (fun _ _ _ _ _ => pg_name (i := 2) scLawShare.nd rfl (Or.inl rfl)) (fun _ _ _ _ _ => pts_nil) (fun _ _ _ _ _ => pe_tup (pa_cons (pv 2) (pa_cons (pe_call G1 hr (by rfl) F1.g F1.F.kp F1.b .nil pass0 (pa_cons (pv 0) pa_nil)) pa_nil)))) pa_nil))), ?_⟩
    refine ⟨_, rfl, _, rfl, d, c, l, k0, m, 9, rfl, S, by omega, m0, by omega, by decide, by decide, fun H1 t ns k1 hk1 asc lo len S1 fm1 nt ht => ?_⟩
    have Nt := S.neD nt
    refine ⟨t, rfl, ⟨_, SqL.of ht⟩, fun D hD => lc_list (K := K) (a := t) (xs := ns.map V.int) (fun i H' => ∃ ws xs, H' D = some (.lst ws) ∧ PrsAt K H' ws xs ∧ xs.map (·.1) = ns.take i ∧ AllF 10 xs ∧ (∀ a ∈ xs, 0 < a.2.1) ∧ StAt H' d c l (k1 + 2 * i) ∧ Fm d l H1 H')
      ⟨[], [], upd_same, .nil, rfl, fun a ha => (by cases ha), fun a ha => (by cases ha), S1.same (Same.new hD), same_fm (Same.new hD)⟩ ?_ ?_ ?_⟩
    · rintro i H' _ ⟨ws, xs, _, _, _, _, _, _, fm2⟩
      exact SqL.of (fm2 t _ ht Nt.1 Nt.2.2)
    · rintro i v H' hi ⟨ws, xs, h1, h2, h3, h4, h5, S2, fm2⟩
      rw [List.getElem?_map] at hi
      obtain ⟨z, hzi, rfl⟩ : ∃ z, ns[i]? = some z ∧ v = V.int z := by
        cases e : ns[i]? with
        | none => rw [e] at hi; cases hi
        | some z => rw [e] at hi; exact ⟨z, rfl, (Option.some.inj hi).symm⟩
      have hi2 : i < ns.length := (List.getElem?_eq_some_iff.mp hzi).1
      have nD := S1.neD hD
      refine ⟨rfl, ?_⟩
      dsimp only [tYes]
      rw [if_pos rfl]
      refine ⟨_, rfl, _, rfl, d, c, l, _, rfl, S2, by omega, fun p H2 x fx px zx S3 fm3 hx => ⟨(by show 2 ≤ sizeLine; decide), fun q hq => ?_⟩⟩
      have kq := Same.new (o := .tup [V.int z, V.ref p]) hq
      have hD2 : H2 D = some (.lst ws) := fm3 D _ h1 nD.1 nD.2.2
      have hxl : xs.length ≤ i := by
        have := congrArg List.length h3
        rw [List.length_map, List.length_take] at this
        omega
      refine ⟨ws, kq _ _ hD2, small1000 (by rw [h2.len]; omega), ?_⟩
      refine ⟨_, xs ++ [(z, x)], upd_same, ?_, ?_, h4.app ?_, ?_, ?_, ?_⟩
      · exact (((h2.tk (tk_fm fm3 S2)).tk (tk_same kq)).app (.cons (SqT.of upd_same) (kq.tup hx) .nil)).tk (tk_lst (kq _ _ hD2))
      · rw [List.map_append, h3, take_snoc hzi]
        rfl
      · intro a ha
        rw [List.mem_singleton.mp ha]
        exact ⟨fx, zx⟩
      · intro a ha
        rcases List.mem_append.mp ha with q | q
        · exact h5 a q
        · rw [List.mem_singleton.mp q]
          exact px
      · exact (S3.same kq).upd nD.1 nD.2.1 nD.2.2
      · exact ((fm2.trans fm3).same kq).upd hD
    · rintro H' ⟨ws, xs, h1, h2, h3, h4, h5, S2, fm2⟩
      rw [List.length_map] at *
      rw [List.take_length] at h3
      have hl : xs.length = ns.length := by
        have := congrArg List.length h3
        rwa [List.length_map] at this
      refine ⟨_, ws, rfl, SqL.of h1, fun q o hq ho => ?_⟩
      have kq := Same.new (o := .frz o (.tup ws)) hq
      refine k _ q xs _ (by omega) ⟨by rw [h3]; exact asc, h4, h5, fun a ha => ?_⟩ (by omega) (S2.same kq) ((fm1.trans fm2).same kq) ⟨ws, ⟨o, ho, upd_same⟩, h2.tk (tk_same kq)⟩
      have : a.1 ∈ ns := by
        rw [← h3]
        exact List.mem_map.mpr ⟨a, ha, rfl⟩
      have := lo _ this
      omega
end
end CS
set_option Elab.async false
set_option maxRecDepth 100000
set_option maxHeartbeats 8000000
set_option linter.unusedVariables false
namespace CS
open PySem L2
/-- a weaker end -/
def actC (act : Act) : Act := fun f H Q E => ∃ Q0 E0, act f H Q0 E0 ∧ (∀ v H', Q0 v H' → Q v H') ∧ ∀ c d H', E0 c d H' → E c d H'
theorem ActOk.clos {P : Program} {w : World} {K : PySem.W.Frag} {mg : Str → Option Value} {base : Heap} {k : Nat} {act : Act} (h : ActOk P w K mg base k act) : ActOk P w K mg base k (actC act) := fun f A outer s H Q E hr e0 ⟨Q0, E0, a, hq, he⟩ => by
  obtain ⟨x, c⟩ := h f A outer s H Q0 E0 hr e0 a
  refine ⟨x, codeAny_mono c fun r s' z => ?_⟩
  match r with
  | .error er =>
    obtain ⟨a, B, H', cls, d, x1, x2, x3, x4, x5, x6, x7, x8⟩ := z
    exact ⟨a, B, H', cls, d, x1, x2, x3, x4, x5, x6, x7, he _ _ _ x8⟩
  | .ok (.ret u) =>
    obtain ⟨v, H', x1, x2, x3, x4, x5, x6⟩ := z
    exact ⟨v, H', x1, x2, x3, x4, x5, hq _ _ x6⟩
  | .ok .next => exact z.elim
  | .ok .brk => exact z.elim
  | .ok .cont => exact z.elim
/-- what _law_heard makes of an exception -/
def wxH (CB CT : Addr) : Value → Option Addr → Hp → VK → Prop := fun cls d H Q => (cls = .ref CB ∧ ∀ p, H p = none → Q (.ref p) (upd H p (.lst [.str "share"]))) ∨
  (cls = .ref CT ∧ ∃ dd, d = some dd ∧ H dd = some (.xd [(("most" : Str), .int 8)]) ∧ ∀ p, H p = none → Q (.ref p) (upd H p (.lst [.str "many", .int 8])))
theorem add_new {l : Addr → Option Obj} {H : Hp} {p : Addr} {o : HO} {Q : Hp → Prop} (F : Free l H) (n : addC l H p = none) (q : Q (upd H p o)) : Cin l (upd (addC l H) p o) ∧ Q (subC l (upd (addC l H) p o)) := by
  have lp : l p = none := by
    cases e : l p with
    | none => rfl
    | some b =>
      rw [addC_in e] at n
      cases n
  refine ⟨fun b ob e => ?_, ?_⟩
  · have : b ≠ p := fun z => by rw [z, lp] at e; cases e
    rw [upd_ne this, addC_in e]
  · have : subC l (upd (addC l H) p o) = upd H p o := by
      funext b
      cases e : l b with
      | none =>
        rw [subC_out e]
        by_cases z : b = p
        · rw [z, upd_same, upd_same]
        · rw [upd_ne z, upd_ne z, addC_out e]
      | some ob =>
        have : b ≠ p := fun z => by rw [z, lp] at e; cases e
        rw [subC_in e, upd_ne this, F b ob e]
    rw [this]
    exact q
theorem natH (CB CT : Addr) : Nat1 (wxH CB CT) := fun l cls d H Q F h => by
  have sub : ∀ p, addC l H p = none → H p = none := fun p n => by
    cases e : l p with
    | none => rw [addC_out e] at n; exact n
    | some b => rw [addC_in e] at n; cases n
  rcases h with ⟨e, k⟩ | ⟨e, dd, ed, hd, k⟩
  · exact .inl ⟨e, fun p n => add_new (Q := fun H2 => Q (.ref p) H2) F n (k p (sub p n))⟩
  · exact .inr ⟨e, dd, ed, by rw [addC_out (F.out hd)]; exact hd, fun p n => add_new (Q := fun H2 => Q (.ref p) H2) F n (k p (sub p n))⟩
section
variable {P : Program} {w : World} {K : PySem.W.Frag} {mg : Str → Option Value} {base : Heap}
theorem scLawHeard : FnScope ["deed", "got", "e"] ["deed"] (defScope sLawHeard) := ⟨rfl, rfl, rfl, by decide +kernel, rfl, by decide +kernel, by decide +kernel⟩
theorem ok_law_heard {k : Nat} {f CB CT fB fT : Addr} {fd fdB fdT : FuncData} (F : Df K mg "_law_heard" sLawHeard ["deed"] f fd) (ZB : Xc K mg "BadShare" "given" CB fB bmV "ValueError.__new__" (inClass sBadshare 0) "BadShare.__init__" fdB) (ZT : Xc K mg "TooMany" "most" CT fT bmO "OverflowError.__new__" (inClass sToomany 0) "TooMany.__init__" fdT)
    (xBB : PySem.W.exmOne K (.ref CB) (.ref CB) = some true) (xTB : PySem.W.exmOne K (.ref CT) (.ref CB) = some false) (xTT : PySem.W.exmOne K (.ref CT) (.ref CT) = some true) (act : Act) (ha : ActOk P w K mg base k act) : FnOk P w K mg base CX0 (k + 1) f fd ["deed"] (spGive (wxH CB CT) act) := by
  refine F.F.ok scLawHeard (fun vs H Q E h => ?_) (fun cdv A outer s H vs Q E hr h => ?_)
  · obtain ⟨g, rfl, _⟩ := h
    rfl
  · obtain ⟨g, rfl, h⟩ := h
    refine ⟨_, pss_cons (ps_tryx rfl rfl scLawHeard.nd takes0 (.plain ⟨rfl, by decide, .inl ZB.T.gC⟩ (fun a oe cls d pn hz hf => pss_one (ps_set (i := 1) scLawHeard.nd rfl (Or.inl rfl) (pe_lst (pa_cons pe_str pa_nil))))
        (.named (i := 2) ⟨rfl, by decide, .inl ZT.T.gC⟩ rfl rfl (fun a oe cls d pn hz hf => pss_one (ps_set (i := 1) scLawHeard.nd rfl (Or.inl rfl) (pe_lst (pa_cons pe_str (pa_cons (pe_xf ZT.T.xf ZT.T.noF hz hf (pv 2)) pa_nil))))) .nil))
        (fun W pn xe tk _ => pss_one (ps_set (i := 1) scLawHeard.nd rfl (Or.inl rfl) (pe_act0 ha.clos hr (fun σ => passAt tk σ) (i := 0) rfl (Or.inl rfl)))))
      (pss_one (ps_ret (pv 1))), ?_⟩
    refine ⟨g, rfl, Q, _, h, fun v H' q => ⟨_, rfl, q⟩, fun cls d H' q => ?_⟩
    rcases q with ⟨rfl, kq⟩ | ⟨rfl, dd, rfl, hd, kq⟩
    · refine ⟨true, xBB, fun _ a na => ⟨(by show 1 ≤ sizeLine; decide), fun p hp => ⟨_, rfl, kq p hp⟩⟩, fun z => Bool.noConfusion z⟩
    · refine ⟨false, xTB, fun z => Bool.noConfusion z, fun _ => ⟨true, xTT, fun _ a na => ?_, fun z => Bool.noConfusion z⟩⟩
      exact ⟨_, rfl, rfl, rfl, dd, _, _, rfl, hd, rfl, (by show 2 ≤ sizeLine; decide), fun p hp => ⟨_, rfl, kq p hp⟩⟩
end
end CS
set_option Elab.async false
set_option maxRecDepth 100000
set_option maxHeartbeats 8000000
set_option linter.unusedVariables false
namespace CS
open PySem L2 LamX
/-! a def whose code object is told -/
structure FunC (K : PySem.W.Frag) (x qual : Str) (st : Stmt) (f : Addr) (fd : FuncData) (c : Addr) : Prop where
  ex : ∃ (oc : Value) (od : Option Addr) (kV doc pm : Value) (an : Option Addr) (ct : Value) (osl : Array (Option Value)),
    fd = PySem.W.fnOf x qual (defArgs st) (defBody st) (defScope st) .none kV doc pm an (.ref c) ct ∧ K.lookup f = some ⟨oc, od, .func fd, osl⟩ ∧ PySem.W.codeIn K (.ref c) qual = true
  kp : PySem.W.keepIn K (.ref f) = true
theorem FunC.fun_ {K : PySem.W.Frag} {x qual : Str} {st : Stmt} {f c : Addr} {fd : FuncData} (F : FunC K x qual st f fd c) : Fun K x qual st f fd := by
  obtain ⟨oc, od, kV, doc, pm, an, ct, osl, e, l, h⟩ := F.ex
  exact ⟨⟨oc, od, kV, doc, pm, an, _, ct, osl, e, l, h⟩, F.kp⟩
theorem FunC.ok {P : Program} {w : World} {K : PySem.W.Frag} {mg : Str → Option Value} {base : Heap} {x qual : Str} {st : Stmt} {f c : Addr} {fd : FuncData} {N ps : List Str} {k : Nat} {sp : Sp} (F : FunC K x qual st f fd c) (S : FnScope N ps (defScope st)) (len : ∀ vs H Q E, sp vs H Q E → vs.length = ps.length)
    (hbody : ∀ (A : Around) (outer : List Env) (s : Shared) (H : Hp) (vs : List V) (Q : VK) (E : XK), Room k (A.deeper (PyProof.Rows.envOfC qual (defScope st) s.heap.objs.size f (.ref c))) → sp vs H Q E →
      ∃ t, PSs (cxOf CX0 P w K mg base N qual (defScope st) f (.ref c) A outer s H E).nox (defBody st) t ∧ t { nx := fun _ H' => Q .non H', rt := Q } (start N vs) H) : FnOk P w K mg base CX0 (k + 1) f fd ps sp := by
  obtain ⟨oc, od, kV, doc, pm, an, ct, osl, rfl, l, h⟩ := F.ex
  refine fn_of l h S len fun A outer s H vs Q E hr hsp => ?_
  obtain ⟨t, ht, q⟩ := hbody A outer s H vs Q E hr hsp
  exact ⟨t, ht.nox, q⟩
/-! the scope of a lambda, looked at -/
def lscB (sc scope : Scope) (N : List Str) : Bool :=
  decide (scope.kind = .function) && !scope.isCoroutine && !scope.isGenerator && scope.names.all fun y => !decide (y.2 = .cell) && (!decide (y.2 = .local) || !decide (y.1 ∈ N)) && (!decide (y.2 = .free) || decide (sc.names.lookup y.1 = some .cell) || decide (sc.names.lookup y.1 = some .free))
theorem lsc_by {sc scope : Scope} {N : List Str} (h : lscB sc scope N = true) : LScope sc scope N := by
  unfold lscB at h
  simp only [Bool.and_eq_true, Bool.or_eq_true, Bool.not_eq_true', decide_eq_true_eq, decide_eq_false_iff_not, List.all_eq_true] at h
  obtain ⟨⟨⟨h1, h2⟩, h3⟩, h4⟩ := h
  refine ⟨h1, h2, h3, fun y hy => (h4 y hy).1.1, fun y hy e => ?_, fun y hy e => ?_⟩
  · rcases (h4 y hy).1.2 with z | z
    · exact absurd e z
    · exact z
  · rcases (h4 y hy).2 with (z | z) | z
    · exact absurd e z
    · exact .inl z
    · exact .inr z
/-! what stays -/
section
variable {K : PySem.W.Frag} {H H' : Hp}
theorem tk_ext (e : ExtN H H') : TK K H H' := fun p xs h => by
  rcases h with (h | ⟨o, h⟩) | h
  · exact .inl (.inl (e _ _ h fun _ z => by cases z))
  · exact .inl (.inr ⟨o, e _ _ h fun _ z => by cases z⟩)
  · exact .inr h
theorem StAt.ext {d c l : Addr} {k : Nat} (S : StAt H d c l k) (e : ExtN H H') : StAt H' d c l k := by
  obtain ⟨hd, ne, cs, ls, h1, h2, r⟩ := S
  exact ⟨e _ _ hd (fun _ z => by cases z), ne, cs, ls, e _ _ h1 (fun _ z => by cases z), e _ _ h2 (fun _ z => by cases z), r⟩
theorem ShZ.ext {p : Addr} {xs : List (Int × Fx)} (e : ExtN H H') (h : ShZ K H p xs) : ShZ K H' p xs := by
  obtain ⟨vs, ⟨o, d, a⟩, b⟩ := h
  exact ⟨vs, ⟨o, d, e _ _ a fun _ z => by cases z⟩, b.tk (tk_ext e)⟩
theorem ShZ.fm {p d c l : Addr} {k : Nat} {xs : List (Int × Fx)} (e : Fm d l H H') (S : StAt H d c l k) (h : ShZ K H p xs) : ShZ K H' p xs := by
  obtain ⟨vs, ⟨o, z, a⟩, b⟩ := h
  refine ⟨vs, ⟨o, z, e _ _ a (fun q => ?_) fun q => ?_⟩, b.tk (tk_fm e S)⟩
  · rw [q, S.hd] at a
    cases a
  · obtain ⟨_, _, cs, ls, h1, h2, _⟩ := S
    rw [q, h2] at a
    cases a
theorem tabs_fm {T : List (Addr × Str)} {d c l : Addr} {k : Nat} (h : Tabs T H) (e : Fm d l H H') (S : StAt H d c l k) : Tabs T H' := fun p hp => by
  obtain ⟨ps, b1, b2, b3⟩ := h p hp
  obtain ⟨hd, _, cs, ls, h1, h2, _⟩ := S
  refine ⟨ps, e _ _ b1 (fun q => by rw [q, hd] at b1; cases b1) (fun q => by rw [q, h2] at b1; cases b1), b2, fun pos cv z => ?_⟩
  obtain ⟨c0, rfl, y⟩ := b3 pos cv z
  refine ⟨c0, rfl, e _ _ y (fun q => ?_) fun q => ?_⟩
  · rw [q, hd] at y
    unfold CodeO at y
    cases y
  · rw [q, h2] at y
    unfold CodeO at y
    cases y
mutual
theorem Dp.keep (t : TK K H H') (l : ∀ a xs, SqL K H a xs → SqL K H' a xs) : ∀ {v : V} {d : PyData}, Dp K H v d → Dp K H' v d
  | _, _, .non => .non
  | _, _, .bl b => .bl b
  | _, _, .int i => .int i
  | _, _, .str x => .str x
  | _, _, .lst a b => .lst (l _ _ a) (DpAll.keep t l b)
  | _, _, .tup a b => .tup (t _ _ a) (DpAll.keep t l b)
theorem DpAll.keep (t : TK K H H') (l : ∀ a xs, SqL K H a xs → SqL K H' a xs) : ∀ {vs : List V} {ds : List PyData}, DpAll K H vs ds → DpAll K H' vs ds
  | _, _, .nil => .nil
  | _, _, .cons a b => .cons (Dp.keep t l a) (DpAll.keep t l b)
end
theorem dp_same {v : V} {d : PyData} (h : Dp K H v d) (e : Same H H') : Dp K H' v d := CS.Dp.keep (tk_same e) (fun _ _ z => e.seq z) h
theorem dp_ext {v : V} {d : PyData} (h : Dp K H v d) (e : ExtN H H') : Dp K H' v d := CS.Dp.keep (tk_ext e) (fun a xs z => by
  rcases z with (z | ⟨o, z⟩) | z
  · exact .inl (.inl (e _ _ z fun _ q => by cases q))
  · exact .inl (.inr ⟨o, e _ _ z fun _ q => by cases q⟩)
  · exact .inr z) h
/-- what stands through the whole of _law_two_right -/
structure PQ (K : PySem.W.Frag) (T : List (Addr × Str)) (d c l : Addr) (k : Nat) (p q : Addr) (xs ys : List (Int × Fx)) (H : Hp) : Prop where
  S : StAt H d c l k
  T : Tabs T H
  X : ShZ K H p xs
  Y : ShZ K H q ys
variable {T : List (Addr × Str)} {d c l p q : Addr} {k k' : Nat} {xs ys : List (Int × Fx)}
theorem PQ.same (h : PQ K T d c l k p q xs ys H) (e : Same H H') : PQ K T d c l k p q xs ys H' := ⟨h.S.same e, h.T.ext e, h.X.same e, h.Y.same e⟩
theorem PQ.ext (h : PQ K T d c l k p q xs ys H) (e : ExtN H H') (t : Tabs T H') : PQ K T d c l k p q xs ys H' := ⟨h.S.ext e, t, h.X.ext e, h.Y.ext e⟩
theorem PQ.fm (h : PQ K T d c l k p q xs ys H) (e : Fm d l H H') (s : StAt H' d c l k') : PQ K T d c l k' p q xs ys H' := ⟨s, tabs_fm h.T e h.S, h.X.fm e h.S, h.Y.fm e h.S⟩
end
/-! data -/
abbrev dMany : PyData := .list [.str "many", .int 8]
abbrev dShare : PyData := .list [.str "share"]
theorem shaped2 {d : PyData} (h : SeqAt.shaped d = true) (hd : d.depth ≤ 60) : SeqAt.shaped (.list [d, d]) = true := by
  unfold SeqAt.shaped at *
  rw [Bool.and_eq_true, decide_eq_true_eq] at *
  refine ⟨?_, ?_⟩
  · simp only [PyData.canLay0, PyData.canLayAll0, h.1, Bool.and_self]
  · simp only [PyData.depth, PyData.depthAll]
    omega
theorem shD_depth (xs : List (Int × Fx)) : (shD xs).depth ≤ 60 := by
  have := dp1 xs
  simp only [shD, PyData.depth]
  omega
theorem shp_many : SeqAt.shaped dMany = true := by decide +kernel
theorem shp_share : SeqAt.shaped dShare = true := by decide +kernel
theorem eqv_self {d : PyData} (h : SeqAt.shaped d = true) : PyData.eqv d d = true := by
  unfold SeqAt.shaped at h
  rw [Bool.and_eq_true] at h
  exact SeqAt.eqv_refl d h.1
end CS
set_option Elab.async false
set_option maxRecDepth 100000
set_option maxHeartbeats 8000000
set_option linter.unusedVariables false
namespace CS
open PySem L2 LamX
/-! where ways meet -/
theorem due_cut {c : Bool} {σ : L2.St} {H : Hp} {Q : VK} {i : Nat} {v : V} {ts : TA} {its : List V} (hv : σ[i]? = some (some v)) (ht : ∀ R : List V → Hp → Prop, R its H → ts σ H R) (hl : its.length ≤ sizeLine)
    (h : ∀ u H8, Same H H8 → (c = true → u = v) → (c = false → ∃ p, u = .ref p ∧ H8 p = some (.lst its)) → Q u H8) : if c = true then tVar i σ H Q else tLst ts σ H Q := by
  cases c with
  | true =>
    rw [if_pos rfl]
    exact ⟨v, hv, h v H (Same.refl H) (fun _ => rfl) fun z => Bool.noConfusion z⟩
  | false =>
    rw [if_neg Bool.false_ne_true]
    exact ht _ ⟨hl, fun p np => h (.ref p) _ (Same.new np) (fun z => Bool.noConfusion z) fun _ => ⟨p, rfl, upd_same⟩⟩
theorem if_cut {c : Bool} {t : TS} {D : Ends} {σ : L2.St} {H : Hp} (h : ∀ H', Same H H' → D.nx σ H') (ht : c = true → (∀ H', Same H H' → D.nx σ H') → t D σ H) : if c = true then t D σ H else tNext D σ H := by
  cases c with
  | true =>
    rw [if_pos rfl]
    exact ht rfl h
  | false =>
    rw [if_neg Bool.false_ne_true]
    exact h H (Same.refl H)
/-- what put_together comes to, heard -/
def d5 (zs : List (Int × Fx)) : PyData := if zs.length ≤ 8 then shD zs else dMany
theorem d5_shp (zs : List (Int × Fx)) : SeqAt.shaped (d5 zs) = true ∧ (d5 zs).depth ≤ 60 := by
  unfold d5
  split
  · exact ⟨shShaped zs, shD_depth zs⟩
  · exact ⟨shp_many, by decide +kernel⟩
section
variable {K : PySem.W.Frag} {TT : List (Addr × Str)} {CB CT : Addr} {σ : L2.St} {H : Hp} {Q : VK} {i j : Nat} {p q : Addr} {xs ys zs : List (Int × Fx)}
theorem put_cut (hT : Tabs TT H) (hi : σ[i]? = some (some (.ref p))) (hj : σ[j]? = some (some (.ref q))) (hp : ShAt K H p xs) (hq : ShAt K H q ys) (gx : Good 10 xs) (gy : Good 10 ys) (x8 : xs.length ≤ 8) (y8 : ys.length ≤ 8) (hz : ∀ ws, IsS (gat [] (xs ++ ys)) ws → ws = zs)
    (h : ∀ u H', ExtN H H' → Tabs TT H' → Dp K H' u (d5 zs) → Q u H') : Tabs TT H ∧ ∀ H1, ExtN H H1 → Tabs TT H1 → tCall (spPutT K CT) [] (fun cls d H2 => wxH CB CT cls d H2 Q) (tCons (tVar i) (tCons (tVar j) tNil)) σ H1 Q := by
  refine ⟨hT, fun H1 e1 t1 => ⟨_, hi, _, hj, p, q, xs, ys, rfl, hp.tk (tk_ext e1), hq.tk (tk_ext e1), gx.shr x8, gy.shr y8, gx.all.up (by decide), gy.all.up (by decide), fun H' r ws s hr hw => ?_⟩⟩
  obtain rfl := hz ws hw
  refine ⟨fun l8 => h (.ref r) H' (e1.trans (.of s)) (t1.ext s) ?_, fun l9 dd hd => .inr ⟨rfl, dd, rfl, upd_same, fun r2 n2 => ?_⟩⟩
  · unfold d5
    rw [if_pos l8]
    exact hr.dp
  · have sd := Same.new (o := .xd [(("most" : Str), V.int 8)]) hd
    have sp := Same.new (o := .lst [V.str "many", V.int 8]) n2
    have s3 := s.trans (sd.trans sp)
    refine h (.ref r2) _ (e1.trans (.of s3)) (t1.ext s3) ?_
    unfold d5
    rw [if_neg (by omega)]
    exact .lst (SqL.of upd_same) (.cons (.str _) (.cons (.int _) .nil))
theorem take_cut {D : PyData} (hT : Tabs TT H) (hi : σ[i]? = some (some (.ref p))) (hj : σ[j]? = some (some (.ref q))) (hp : ShAt K H p xs) (hq : ShAt K H q ys) (gx : Good 10 xs) (gy : Good 10 ys) (x8 : xs.length ≤ 8) (y8 : ys.length ≤ 8)
    (h1 : ∀ ws, IsS (gat [] (xs ++ ngs ys)) ws → (Shr ws → D = shD ws) ∧ (¬ Shr ws → D = dShare)) (h : ∀ u H', ExtN H H' → Tabs TT H' → Dp K H' u D → Q u H') :
    Tabs TT H ∧ ∀ H1, ExtN H H1 → Tabs TT H1 → tCall (spTakeT K CB) [] (fun cls d H2 => wxH CB CT cls d H2 Q) (tCons (tVar i) (tCons (tVar j) tNil)) σ H1 Q := by
  refine ⟨hT, fun H1 e1 t1 => ⟨_, hi, _, hj, p, q, xs, ys, rfl, hp.tk (tk_ext e1), hq.tk (tk_ext e1), gx.shr x8, gy.shr y8, gx.all.up (by decide), gy.all.up (by decide), fun H' r ws s hr hw => ?_⟩⟩
  obtain ⟨ha, hb⟩ := h1 ws hw
  refine ⟨fun y => h (.ref r) H' (e1.trans (.of s)) (t1.ext s) ?_, fun n dd hd => .inl ⟨rfl, fun r2 n2 => ?_⟩⟩
  · rw [ha y]
    exact hr.dp
  · have sd := Same.new (o := .xd [(("given" : Str), V.ref q)]) hd
    have sp := Same.new (o := .lst [V.str "share"]) n2
    have s3 := s.trans (sd.trans sp)
    refine h (.ref r2) _ (e1.trans (.of s3)) (t1.ext s3) ?_
    rw [hb n]
    exact .lst (SqL.of upd_same) (.cons (.str _) .nil)
end
theorem both_swap {n : Nat} {xs ys zs : List (Int × Fx)} (gx : Good n xs) (gy : Good n ys) (h0 : 0 < n) (h : IsS (gat xs ys) zs) : IsS (gat ys xs) zs := ⟨h.1, fun k x => by
  rw [h.2 k x, lk_gat_nodup gx.all h0 gy.nodup, lk_gat_nodup gy.all h0 gx.nodup, fadd_comm]⟩
/-- not within, at one pair -/
def outB (xs : List (Int × Fx)) (a : Int × Fx) : Bool := !decide (a.1 ∈ xs.map (·.1)) || flt (lk xs a.1) a.2
theorem out_nil {xs ys : List (Int × Fx)} : ys.filter (outB xs) = [] ↔ Inn xs ys := by
  rw [List.filter_eq_nil_iff]
  unfold Inn outB
  constructor
  · intro h a ha
    have := h a ha
    simp only [Bool.or_eq_true, Bool.not_eq_true', decide_eq_false_iff_not, not_or, Decidable.not_not, Bool.not_eq_true] at this
    exact this
  · intro h a ha
    have := h a ha
    simp only [Bool.or_eq_true, Bool.not_eq_true', decide_eq_false_iff_not, not_or, Decidable.not_not, Bool.not_eq_true]
    exact this
def ones (n : Nat) : PyData := .list ((List.replicate n 1).map PyData.int)
theorem lay_ints : ∀ ns : List Int, PyData.canLayAll0 (ns.map PyData.int) = true
  | [] => rfl
  | n :: ns => by
    show (PyData.canLay0 (.int n) && PyData.canLayAll0 (ns.map PyData.int)) = true
    rw [lay_ints ns]
    rfl
theorem depth_ints : ∀ ns : List Int, PyData.depthAll (ns.map PyData.int) ≤ 2
  | [] => by decide
  | n :: ns => by
    have := depth_ints ns
    simp [PyData.depthAll, PyData.depth] at *
    omega
theorem ones_shp (n : Nat) : SeqAt.shaped (ones n) = true := by
  have h1 := lay_ints (List.replicate n 1)
  have h2 := depth_ints (List.replicate n 1)
  unfold ones SeqAt.shaped
  rw [Bool.and_eq_true, decide_eq_true_eq]
  refine ⟨h1, ?_⟩
  simp only [PyData.depth]
  omega
theorem ones_eq (n : Nat) : PyData.eqv (ones n) (.list []) = decide (n = 0) := by
  cases n with
  | zero => rfl
  | succ n =>
    show PyData.eqvAll _ _ = _
    rw [List.replicate_succ, List.map_cons]
    simp [PyData.eqvAll]
theorem ones_dp {K : PySem.W.Frag} {H : Hp} : ∀ n : Nat, DpAll K H ((List.replicate n 1).map V.int) ((List.replicate n 1).map PyData.int)
  | 0 => .nil
  | n + 1 => by
    rw [List.replicate_succ]
    exact .cons (.int _) (ones_dp n)
end CS
set_option Elab.async false
set_option maxRecDepth 100000
set_option maxHeartbeats 16000000
set_option linter.unusedVariables false
namespace CS
open PySem L2 LamX
abbrev qTR : Str := (("_law_two_right" : Str) ++ ".<locals>.") ++ "<lambda>"
section
variable {P : Program} {w : World} {K : PySem.W.Frag} {mg : Str → Option Value} {base : Heap}
theorem PrsAt.take {H : Hp} : ∀ {vs : List V} {xs : List (Int × Fx)} (n : Nat), PrsAt K H vs xs → PrsAt K H (vs.take n) (xs.take n)
  | _, _, 0, _ => .nil
  | _, _, _ + 1, .nil => .nil
  | _, _, n + 1, .cons a b c => .cons a b (PrsAt.take n c)
theorem shr_nil : Shr [] := ⟨by decide, fun a ha => (by cases ha), List.Pairwise.nil⟩
theorem sl_head {X : Cx} (k : Nat) : L2.SlR X (fun x lo hi H Q => lo = none ∧ hi = some (k : Int) ∧ ∃ a xs, x = .ref a ∧ SqT X.K H a xs ∧ ∀ H' b, Same H H' → SqT X.K H' b (xs.take k) → Q (.ref b) H') := by
  intro pins s σ H x v vl vu lo hi sl Q I rx hs pl pu ⟨e1, e2, a, xs, ex, hx, q⟩
  subst e1
  subst e2
  refine sl_tupA pins s σ H x v vl vu _ _ sl Q I rx hs pl pu ⟨a, xs, ex, hx, fun h => ?_, fun h p np => ?_⟩
  · have h2 := h.2
    rw [HT.sIx_nat] at h2
    refine q H a (Same.refl H) ?_
    rw [List.take_of_length_le (by omega)]
    exact hx
  · refine q _ p (Same.new np) ?_
    have e : cutV xs none (some (k : Int)) = xs.take k := by
      unfold cutV
      rw [HT.sIx_none, HT.sIx_nat, List.drop_zero, Nat.sub_zero]
      by_cases c : k ≤ xs.length
      · rw [Nat.min_eq_left c]
      · rw [Nat.min_eq_right (by omega), List.take_length, List.take_of_length_le (by omega)]
    rw [← e]
    exact SqT.of upd_same
def spTR (K : PySem.W.Frag) (TT : List (Addr × Str)) : Sp := fun vs H Q _ => ∃ d c l k p q xs ys, vs = [.ref d, .ref p, .ref q] ∧ PQ K TT d c l k p q xs ys H ∧ k ≤ 60000 ∧ Good 10 xs ∧ Good 10 ys ∧ xs.length ≤ 8 ∧ ys.length ≤ 8 ∧ ∀ H', PQ K TT d c l (k + 1) p q xs ys H' → Q (.bl true) H'
theorem scTR : FnScope ["state", "one", "other", "turn", "at", "both", "due", "heard", "hefts", "is_in", "mark", "heft"] ["state", "one", "other"] (defScope sLawTwoRight) := ⟨rfl, rfl, rfl, by decide +kernel, rfl, by decide +kernel, by decide +kernel⟩
theorem ok_law_two_right {f cTR pTR CB CT : Addr} {fd : FuncData} {TT : List (Addr × Str)} (F : FunC K "_law_two_right" "_law_two_right" sLawTwoRight f fd cTR) (T : Bt mg) (TB : TabB base mg cTR pTR) (hm : (pTR, qTR) ∈ TT) (hu : ∀ p ∈ TT, p.1 = pTR → p.2 = qTR)
    {a_tot : Addr} {fdtot : FuncData} (Dtot : Df K mg "total" sTotal ["share"] a_tot fdtot) (Gtot : FnOk P w K mg base CX0 8 a_tot fdtot ["share"] (spTot K ftot))
    {a_mom : Addr} {fdmom : FuncData} (Dmom : Df K mg "moment" sMoment ["share"] a_mom fdmom) (Gmom : FnOk P w K mg base CX0 8 a_mom fdmom ["share"] (spTot K fmom))
    {a_need : Addr} {fdneed : FuncData} (Dneed : Df K mg "need_share" sNeedShare ["thing"] a_need fdneed) (Gneed : FnOk P w K mg base CX0 7 a_need fdneed ["thing"] (spNeedSh K))
    {a_ltot : Addr} {fdltot : FuncData} (Dltot : Df K mg "_law_total" sLawTotal ["share_so"] a_ltot fdltot) (Gltot : FnOk P w K mg base CX0 4 a_ltot fdltot ["share_so"] (spShF K ftot))
    {a_lmom : Addr} {fdlmom : FuncData} (Dlmom : Df K mg "_law_moment" sLawMoment ["share_so"] a_lmom fdlmom) (Glmom : FnOk P w K mg base CX0 4 a_lmom fdlmom ["share_so"] (spShF K fmom))
    {a_rest : Addr} {fdrest : FuncData} (Drest : Df K mg "rest_above" sRestAbove ["share", "number"] a_rest fdrest) (Grest : FnOk P w K mg base CX0 8 a_rest fdrest ["share", "number"] (spRest K))
    {a_lrest : Addr} {fdlrest : FuncData} (Dlrest : Df K mg "_law_rest" sLawRest ["share_so", "at"] a_lrest fdlrest) (Glrest : FnOk P w K mg base CX0 4 a_lrest fdlrest ["share_so", "at"] (spShFk K frest))
    {a_draw : Addr} {fddraw : FuncData} (Ddraw : Df K mg "_law_draw" sDraw ["state", "many"] a_draw fddraw) (Gdraw : FnOk P w K mg base CX0 2 a_draw fddraw ["state", "many"] spDraw)
    {a_both : Addr} {fdboth : FuncData} (Dboth : Df K mg "_law_both" sLawBoth ["one", "other"] a_both fdboth) (Gboth : FnOk P w K mg base CX0 3 a_both fdboth ["one", "other"] (spTwo K (fun _ _ => True) gat))
    {a_taken : Addr} {fdtaken : FuncData} (Dtaken : Df K mg "_law_taken" sLawTaken ["share_so", "part"] a_taken fdtaken) (Gtaken : FnOk P w K mg base CX0 3 a_taken fdtaken ["share_so", "part"] (spTwo K (fun xs ys => (ys.map (·.1)).Nodup ∧ ∀ a ∈ ys, a.1 ∈ xs.map (·.1)) tks))
    {a_under : Addr} {fdunder : FuncData} (Dunder : Df K mg "_law_under" sLawUnder ["one", "other"] a_under fdunder) (Gunder : FnOk P w K mg base CX0 1 a_under fdunder ["one", "other"] (spB2 K flt))
    {a_put : Addr} {fdput : FuncData} (Dput : Df K mg "put_together" sPutTogether ["one", "other"] a_put fdput) (Gput : FnOk P w K mg base (L2.CX P w) 8 a_put fdput ["one", "other"] (spPutT K CT))
    {a_take : Addr} {fdtake : FuncData} (Dtake : Df K mg "taken_from" sTakenFrom ["one", "other"] a_take fdtake) (Gtake : FnOk P w K mg base (L2.CX P w) 8 a_take fdtake ["one", "other"] (spTakeT K CB))
    {fheard : Addr} {fdheard : FuncData} (Dheard : Df K mg "_law_heard" sLawHeard ["deed"] fheard fdheard) (Gheard : ∀ act, ActOk P w K mg base 9 act → FnOk P w K mg base CX0 10 fheard fdheard ["deed"] (spGive (wxH CB CT) act))
    : FnOk P w K mg base CX0 11 f fd ["state", "one", "other"] (spTR K TT) := by
  refine F.ok scTR (fun vs H Q E h => ?_) (fun A outer s H vs Q E hr h => ?_)
  · obtain ⟨d, c, l, k, p, q, xs, ys, rfl, _⟩ := h
    rfl
  · obtain ⟨d, c, l, k0, p, q, xs, ys, rfl, Z, hk0, gx, gy, x8, y8, k⟩ := h
    have hu2 := hu_of hr
    refine ⟨_, (pss_cons (ps_for PassesOwn.never rfl (pi_range1 rfl T.range (pa_cons pe_int pa_nil)) (pg_name (i := 3) scTR.nd rfl (Or.inl rfl)) (pss_one (ps_if (PW.pt (pw_or (pt_cmpR (op_neD hr.units) (pe_call Gtot (hr.mono (by decide)) (by rfl) Dtot.g Dtot.F.kp Dtot.b .nil pass0 (pa_cons (pv 1) pa_nil)) (pe_call Gltot (hr.mono (by decide)) (by rfl) Dltot.g Dltot.F.kp Dltot.b .nil pass0 (pa_cons (pv 1) pa_nil)) (nomark _)) (pw_or (pt_cmpR (op_neD hr.units) (pe_call Gmom (hr.mono (by decide)) (by rfl) Dmom.g Dmom.F.kp Dmom.b .nil pass0 (pa_cons (pv 1) pa_nil)) (pe_call Glmom (hr.mono (by decide)) (by rfl) Dlmom.g Dlmom.F.kp Dlmom.b .nil pass0 (pa_cons (pv 1) pa_nil)) (nomark _)) (pw_or1 (pt_cmpR (op_neD hr.units) (pe_call Gneed (hr.mono (by decide)) (by rfl) Dneed.g Dneed.F.kp Dneed.b .nil pass0 (pa_cons (pv 1) pa_nil)) (pv 1) (nomark _)))))) (pss_one (ps_ret pe_bl)) pss_nil)))
      (pss_cons (ps_for PassesOwn.never rfl (pi_list (pe_op op_cat (pe_lst (pa_cons (pe_op op_sub (pe_call Gdraw (hr.mono (by decide)) (by rfl) Ddraw.g Ddraw.F.kp Ddraw.b .nil pass0 (pa_cons (pv 0) (pa_cons pe_int pa_nil))) pe_int) (pa_cons (pe_un un_neg pe_int) (pa_cons pe_int pa_nil)))) (pe_lc (own := [("mark", 10), ("heft", 11)]) (g := gTup K 2 (gCons (gName 10) (gCons (gName 11) gNil))) (tt := tYes) rfl scTR.nd (pi_tup (pe_slice (sl_head 2) (pv 1) po_none (po_some pe_int))) (blkOk_by (N := ["state", "one", "other", "turn", "at", "both", "due", "heard", "hefts", "is_in", "mark", "heft"]) (sc := defScope sLawTwoRight) (by decide +kernel)) (fun _ _ _ _ _ => pg_tup rfl (pgs_cons (pg_name (i := 10) scTR.nd rfl (Or.inl rfl)) (pgs_cons (pg_name (i := 11) scTR.nd rfl (Or.inl rfl)) pgs_nil))) (fun _ _ _ _ _ => pts_nil) (fun _ _ _ _ _ => pv 10)))) (pg_name (i := 4) scTR.nd rfl (Or.inl rfl)) (pss_one (ps_if (PW.pt (pw_or (pt_cmpR (op_neD hr.units) (pe_call Grest (hr.mono (by decide)) (by rfl) Drest.g Drest.F.kp Drest.b .nil pass0 (pa_cons (pv 1) (pa_cons (pv 4) pa_nil))) (pe_call Glrest (hr.mono (by decide)) (by rfl) Dlrest.g Dlrest.F.kp Dlrest.b .nil pass0 (pa_cons (pv 1) (pa_cons (pv 4) pa_nil))) (nomark _)) (pw_or1 (pt_cmpR (op_neD hr.units) (pe_call Grest (hr.mono (by decide)) (by rfl) Drest.g Drest.F.kp Drest.b .nil pass0 (pa_cons (pv 1) (pa_cons (pv 4) pa_nil))) (pe_call Glrest (hr.mono (by decide)) (by rfl) Dlrest.g Dlrest.F.kp Dlrest.b .nil pass0 (pa_cons (pv 1) (pa_cons (pv 4) pa_nil))) (nomark _))))) (pss_one (ps_ret pe_bl)) pss_nil)))
      (pss_cons (ps_set (i := 5) scTR.nd rfl (Or.inl rfl) (pe_call Gboth (hr.mono (by decide)) (by rfl) Dboth.g Dboth.F.kp Dboth.b .nil pass0 (pa_cons (pv 1) (pa_cons (pv 2) pa_nil))))
      (pss_cons (ps_set (i := 6) scTR.nd rfl (Or.inl rfl) (pe_ifExp (pt_cmpR op_lt (pe_callB call_len_seq (by rfl) T.len PySem.boot_len (pa_cons (pv 5) pa_nil)) pe_int (nomark _)) (pv 5) (pe_lst (pa_cons pe_str (pa_cons pe_int pa_nil)))))
      (pss_cons (ps_set (i := 7) scTR.nd rfl (Or.inl rfl) (pe_lst (pa_cons (pe_give (k := 8) (Wx := wxH CB CT) (T := TT) (natH CB CT) Gheard hr (by rfl) Dheard.g Dheard.F.kp Dheard.b (fun _ => rfl) (lsc_by (by show lscB (defScope sLawTwoRight) _ ["state", "one", "other", "turn", "at", "both", "due", "heard", "hefts", "is_in", "mark", "heft"] = true; decide +kernel)) (pe_lam0 TB rfl hm hu (lsc_by (by show lscB (defScope sLawTwoRight) _ ["state", "one", "other", "turn", "at", "both", "due", "heard", "hefts", "is_in", "mark", "heft"] = true; decide +kernel)) rfl) (fun A outer s H E f c' hr2 => pe_call Gput hr2 (by rfl) Dput.g Dput.F.kp Dput.b .nil (passes_call (takes_of rfl rfl rfl rfl) (fun _ _ _ _ h => h)) (pa_cons (pv 1) (pa_cons (pv 2) pa_nil)))) (pa_cons (pe_give (k := 8) (Wx := wxH CB CT) (T := TT) (natH CB CT) Gheard hr (by rfl) Dheard.g Dheard.F.kp Dheard.b (fun _ => rfl) (lsc_by (by show lscB (defScope sLawTwoRight) _ ["state", "one", "other", "turn", "at", "both", "due", "heard", "hefts", "is_in", "mark", "heft"] = true; decide +kernel)) (pe_lam1 TB rfl hm hu (lsc_by (by show lscB (defScope sLawTwoRight) _ ["state", "one", "other", "turn", "at", "both", "due", "heard", "hefts", "is_in", "mark", "heft"] = true; decide +kernel)) (by decide +kernel) rfl) (fun A outer s H E f c' hr2 => pe_call Gput hr2 (by rfl) Dput.g Dput.F.kp Dput.b .nil (passes_call (takes_of rfl rfl rfl rfl) (fun _ _ _ _ h => h)) (pa_cons (pv 2) (pa_cons (pv 1) pa_nil)))) pa_nil))))
      (pss_cons (ps_if (pt_cmpR (op_neD hr.units) (pv 7) (pe_lst (pa_cons (pv 6) (pa_cons (pv 6) pa_nil))) (nomark _)) (pss_one (ps_ret pe_bl)) pss_nil)
      (pss_cons (ps_if (pt_cmpR op_lt (pe_callB call_len_seq (by rfl) T.len PySem.boot_len (pa_cons (pv 5) pa_nil)) pe_int (nomark _)) (pss_one (ps_if (PW.pt (pw_or (pt_cmpR (op_neD hr.units) (pe_call Gtake (hr.mono (by decide)) (by rfl) Dtake.g Dtake.F.kp Dtake.b .nil passL (pa_cons (pv 5) (pa_cons (pv 2) pa_nil))) (pv 1) (nomark _)) (pw_or1 (pt_cmpR (op_neD hr.units) (pe_call Gtake (hr.mono (by decide)) (by rfl) Dtake.g Dtake.F.kp Dtake.b .nil passL (pa_cons (pv 5) (pa_cons (pv 1) pa_nil))) (pv 2) (nomark _))))) (pss_one (ps_ret pe_bl)) pss_nil)) pss_nil)
      (pss_cons (ps_set (i := 8) scTR.nd rfl (Or.inr rfl) (pe_callTy (call_dictZ rfl) (by rfl) T.dict (by decide +kernel) (pa_cons (pv 1) pa_nil)))
      (pss_cons (ps_set (i := 9) scTR.nd rfl (Or.inl rfl) (pe_cmpR (op_eqD hr.units) (pe_lc (own := [("mark", 10), ("heft", 11)]) (g := gTup K 2 (gCons (gName 10) (gCons (gName 11) gNil))) (tt := _) rfl scTR.nd (pi_tup (pv 2)) (blkOk_by (N := ["state", "one", "other", "turn", "at", "both", "due", "heard", "hefts", "is_in", "mark", "heft"]) (sc := defScope sLawTwoRight) (by decide +kernel)) (fun _ _ _ _ _ => pg_tup rfl (pgs_cons (pg_name (i := 10) scTR.nd rfl (Or.inl rfl)) (pgs_cons (pg_name (i := 11) scTR.nd rfl (Or.inl rfl)) pgs_nil))) (fun _ _ _ _ _ => pts_one (PW.pt (pw_or (pt_cmp (pc_dnotin hu2 (pv 10) (pv 8))) (pw_or1 (pt_val (pe_call Gunder (hr.mono (by decide)) (by rfl) Dunder.g Dunder.F.kp Dunder.b .nil pass0 (pa_cons (pe_dget hu2 (pv 8) (pv 10) (fun _ _ => rfl)) (pa_cons (pv 11) pa_nil)))))))) (fun _ _ _ _ _ => pe_int)) (pe_lst pa_nil) (nomark _)))
      (pss_cons (ps_set (i := 6) scTR.nd rfl (Or.inl rfl) (pe_ifExp (pt_val (pv 9)) (pe_call Gtaken (hr.mono (by decide)) (by rfl) Dtaken.g Dtaken.F.kp Dtaken.b .nil pass0 (pa_cons (pv 1) (pa_cons (pv 2) pa_nil))) (pe_lst (pa_cons pe_str pa_nil))))
      (pss_one (ps_ret (pe_and (pe_cmpR (op_eqD hr.units) (pe_give (k := 8) (Wx := wxH CB CT) (T := TT) (natH CB CT) Gheard hr (by rfl) Dheard.g Dheard.F.kp Dheard.b (fun _ => rfl) (lsc_by (by show lscB (defScope sLawTwoRight) _ ["state", "one", "other", "turn", "at", "both", "due", "heard", "hefts", "is_in", "mark", "heft"] = true; decide +kernel)) (pe_lam0 TB rfl hm hu (lsc_by (by show lscB (defScope sLawTwoRight) _ ["state", "one", "other", "turn", "at", "both", "due", "heard", "hefts", "is_in", "mark", "heft"] = true; decide +kernel)) rfl) (fun A outer s H E f c' hr2 => pe_call Gtake hr2 (by rfl) Dtake.g Dtake.F.kp Dtake.b .nil (passes_call (takes_of rfl rfl rfl rfl) (fun _ _ _ _ h => h)) (pa_cons (pv 1) (pa_cons (pv 2) pa_nil)))) (pv 6) (nomark _)) (pe_one (pe_cmpR (op_eqD hr.units) (pe_call Gtake (hr.mono (by decide)) (by rfl) Dtake.g Dtake.F.kp Dtake.b .nil passL (pa_cons (pv 1) (pa_cons (pv 1) pa_nil))) (pe_tup pa_nil) (nomark _)))))))))))))))), ?_⟩
    have ax : AllF 90 xs := gx.all.up (by decide)
    have ay : AllF 90 ys := gy.all.up (by decide)
    have ax8 : AllF 80 xs := gx.all.up (by decide)
    have ay8 : AllF 80 ys := gy.all.up (by decide)
    have bx : ∀ a ∈ xs, a.1.natAbs ≤ 200 := fun a ha => by
      have := gx.lo a ha
      omega
    have sx := gx.shr x8
    have sy := gy.shr y8
    refine ⟨2, rfl, by decide, by decide, for_range (lo := 0) (n := 2) (fun i σ H' => ∃ v, σ = [some (.ref d), some (.ref p), some (.ref q), v, none, none, none, none, none, none, none, none] ∧ PQ K TT d c l k0 p q xs ys H') ⟨none, rfl, Z⟩ ?_ ?_⟩
    · rintro i σ H' hi ⟨v, rfl, Z1⟩
      refine ⟨_, rfl, p, xs, rfl, Z1.X.sh, sx, ax, fun H2 r1 s1 h1 => ⟨_, rfl, p, xs, rfl, (Z1.same s1).X.sh, ax, bx, by omega, fun H3 r2 s2 h2 => ftNe (s2.tup h1) h2 ⟨_, rfl, ?_⟩⟩⟩
      rw [decide_eq_true rfl]
      refine iteF ?_
      have Z3 := Z1.same (s1.trans s2)
      refine ⟨_, rfl, p, xs, rfl, Z3.X.sh, sx, ax, fun H4 r3 s3 h3 => ⟨_, rfl, p, xs, rfl, (Z3.same s3).X.sh, ax, bx, by omega, fun H5 r4 s4 h4 => ftNe (s4.tup h3) h4 ⟨_, rfl, ?_⟩⟩⟩
      rw [decide_eq_true rfl]
      refine iteF ?_
      have Z5 := Z3.same (s3.trans s4)
      refine ⟨_, rfl, p, xs, rfl, Z5.X.sh, sx, fun H6 s6 => ⟨_, rfl, shNe (Z5.same s6).X.sh (Z5.same s6).X.sh ⟨_, rfl, ?_⟩⟩⟩
      rw [decide_eq_true rfl]
      exact iteF ⟨_, rfl, Z5.same s6⟩
    · rintro σ H1 ⟨v3, rfl, Z1⟩
      refine ⟨_, rfl, d, c, l, k0, 25, rfl, Z1.S, by decide, by decide, by omega, fun r H2 r0 r1 S2 fm2 => ?_⟩
      have Z2 := Z1.fm fm2 S2
      refine ⟨_, _, rfl, rfl, _, rfl, (by show 3 ≤ sizeLine; decide), fun tA hA => ?_⟩
      have sA := Same.new (o := .lst [V.int (r - 12), V.int (-100), V.int 100]) hA
      have ZA := Z2.same sA
      obtain ⟨vs, tz, hP⟩ := id ZA.X
      have eA : upd H2 tA (.lst [V.int (r - 12), V.int (-100), V.int 100]) tA = some (.lst [V.int (r - 12), V.int (-100), V.int 100]) := upd_same
      generalize upd H2 tA (.lst [V.int (r - 12), V.int (-100), V.int 100]) = HA at *
      refine ⟨_, rfl, 2, rfl, rfl, rfl, p, vs, rfl, tz.sq, fun H4 b s4 hb => ?_⟩
      have hP4 : PrsAt K H4 (vs.take 2) (xs.take 2) := (hP.tk (tk_same s4)).take 2
      refine ⟨b, rfl, ⟨_, hb⟩, fun D hD => lc_tup (K := K) (a := b) (xs := vs.take 2) (fun i H' => Same H4 H' ∧ H' D = some (.lst ((((xs.take 2).take i).map (·.1)).map V.int))) ⟨Same.new hD, upd_same⟩ (fun i H' _ ⟨s5, _⟩ => s5.tup hb) ?_ ?_⟩
      · rintro i v H' hi ⟨s5, h5⟩
        obtain ⟨qq, r', m, x, rfl, hxi, hqq, hr'⟩ := hP4.get hi
        refine ⟨qq, _, rfl, s5.tup hqq, rfl, _, _, rfl, _, _, rfl, rfl, rfl, ?_⟩
        dsimp only [tYes]
        rw [if_pos rfl]
        refine ⟨_, rfl, _, h5, small1000 ?_, same_upd hD s5, ?_⟩
        · rw [List.length_map, List.length_map, List.length_take, List.length_take]
          omega
        · rw [upd_same, take_snoc hxi, List.map_append, List.map_append]
          rfl
      · rintro H5 ⟨s5, h5⟩
        rw [hP4.len, List.take_length] at h5
        refine ⟨tA, D, _, _, rfl, rfl, s5 _ _ (s4 _ _ eA), h5, small ?_, fun tL hL => ?_⟩
        · rw [List.length_map, List.length_map, List.length_take]
          show 3 + _ ≤ 1000
          omega
        have eL : ([V.int (r - 12), V.int (-100), V.int 100] ++ ((xs.take 2).map (·.1)).map V.int) = ([r - 12, -100, 100] ++ (xs.take 2).map (·.1)).map V.int := by
          rw [List.map_append]
          rfl
        rw [eL]
        have lo : ∀ z ∈ [r - 12, -100, 100] ++ (xs.take 2).map (·.1), -100 ≤ z ∧ z ≤ 100 := fun z hz => by
          rcases List.mem_append.mp hz with y | y
          · simp only [List.mem_cons, List.not_mem_nil, or_false] at y
            omega
          · obtain ⟨a, ha, rfl⟩ := List.mem_map.mp y
            exact gx.lo a (List.mem_of_mem_take ha)
        generalize [r - 12, -100, 100] ++ (xs.take 2).map (·.1) = L at *
        have sL := Same.new (o := .lst (L.map V.int)) hL
        have ZL := ZA.same (s4.trans (s5.trans sL))
        have hTL : upd H5 tL (.lst (L.map V.int)) tL = some (.lst (L.map V.int)) := upd_same
        generalize upd H5 tL (.lst (L.map V.int)) = HL at *
        refine ⟨tL, rfl, ⟨_, SqL.of hTL⟩, for_list (K := K) (a := tL) (xs := L.map V.int) (fun i σ H' => ∃ v4, σ = [some (.ref d), some (.ref p), some (.ref q), v3, v4, none, none, none, none, none, none, none] ∧ Same HL H') ⟨none, rfl, Same.refl _⟩ (fun i σ H' _ ⟨_, _, s6⟩ => SqL.of (s6 _ _ hTL)) ?_ ?_⟩
        · rintro i v σ H' hi ⟨v4, rfl, s6⟩
          rw [List.getElem?_map] at hi
          obtain ⟨z, hzi, rfl⟩ : ∃ z, L[i]? = some z ∧ v = V.int z := by
            cases e : L[i]? with
            | none => rw [e] at hi; cases hi
            | some z => rw [e] at hi; exact ⟨z, rfl, (Option.some.inj hi).symm⟩
          have hz := lo z (List.mem_of_getElem? hzi)
          have Z6 := ZL.same s6
          refine ⟨_, rfl, _, rfl, p, xs, z, rfl, Z6.X.sh, sx, ax, hz.1, hz.2, fun H7 r1 s7 h1 => ⟨_, rfl, _, rfl, p, xs, z, rfl, (Z6.same s7).X.sh, ax, bx, by omega, by omega, fun H8 r2 s8 h2 => ftNe (s8.tup h1) h2 ⟨_, rfl, ?_⟩⟩⟩
          rw [decide_eq_true rfl]
          refine iteF ?_
          have Z8 := Z6.same (s7.trans s8)
          refine ⟨_, rfl, _, rfl, p, xs, z, rfl, Z8.X.sh, sx, ax, hz.1, hz.2, fun H9 r3 s9 h3 => ⟨_, rfl, _, rfl, p, xs, z, rfl, (Z8.same s9).X.sh, ax, bx, by omega, by omega, fun H10 r4 s10 h4 => ftNe (s10.tup h3) h4 ⟨_, rfl, ?_⟩⟩⟩
          rw [decide_eq_true rfl]
          exact iteF ⟨_, rfl, s6.trans (s7.trans (s8.trans (s9.trans s10)))⟩
        · rintro σ H6 ⟨v4, rfl, s6⟩
          have Z6 := ZL.same s6
          refine ⟨_, rfl, _, rfl, p, q, xs, ys, rfl, Z6.X, Z6.Y.sh, gx.nodup, ax8, ay8, by omega, by omega, trivial, fun H7 rb zs s7 hb7 hz => ?_⟩
          have Z7 := Z6.same s7
          have gz := both_good gx gy (by decide) hz
          obtain ⟨wsb, hwb, hPb⟩ := id hb7
          refine ⟨_, rfl, rb, _, rfl, .inr hwb, _, _, rfl, rfl, _, rfl, ?_⟩
          rw [hPb.len]
          have e9 : (decide ((zs.length : Int) < 9)) = decide (zs.length ≤ 8) := by
            rw [decide_eq_decide]
            omega
          have shz := d5_shp zs
          refine due_cut (its := [.str "many", .int 8]) (v := .ref rb) rfl (fun R h => h) (by show 2 ≤ sizeLine; decide) (fun u H8 s8 h1 h2 => ?_)
          have du : Dp K H8 u (d5 zs) := by
            unfold d5
            by_cases c9 : zs.length ≤ 8
            · rw [if_pos c9, h1 (by rw [e9]; exact decide_eq_true c9)]
              exact (hb7.tk (tk_same s8)).dp
            · rw [if_neg c9]
              obtain ⟨t8, e1, e2⟩ := h2 (by rw [e9]; exact decide_eq_false c9)
              rw [e1]
              exact .lst (SqL.of e2) (.cons (.str _) (.cons (.int _) .nil))
          have Z8 := Z7.same s8
          have hb8 := hb7.tk (tk_same s8)
          refine put_cut Z8.T rfl rfl Z8.X.sh Z8.Y.sh gx gy x8 y8 (fun ws hw => both_same gx gy (by decide) hz hw) (fun u1 H9 x9 t9 d1 => ?_)
          have Z9 := Z8.ext x9 t9
          refine put_cut Z9.T rfl rfl Z9.Y.sh Z9.X.sh gy gx y8 x8 (fun ws hw => both_comm gx gy (by decide) hz hw) (fun u2 H10 x10 t10 d2 => ⟨(by show 2 ≤ sizeLine; decide), fun tH hH => ?_⟩)
          have Z10 := Z9.ext x10 t10
          have sH := Same.new (o := .lst [u1, u2]) hH
          have eH : upd H10 tH (.lst [u1, u2]) tH = some (.lst [u1, u2]) := upd_same
          have du11 := dp_same (dp_ext (dp_ext du x9) x10) sH
          have d1' := dp_same (dp_ext d1 x10) sH
          have d2' := dp_same d2 sH
          have hb11 := (hb8.tk (tk_ext x9)).tk (tk_ext x10) |>.tk (tk_same sH)
          have Z11 := Z10.same sH
          generalize upd H10 tH (.lst [u1, u2]) = H11 at *
          refine ⟨_, rfl, _, rfl, _, rfl, (by show 2 ≤ sizeLine; decide), fun tD hD => ?_⟩
          have sD := Same.new (o := .lst [u, u]) hD
          refine ⟨.list [d5 zs, d5 zs], .list [d5 zs, d5 zs], .lst (SqL.of (sD _ _ eH)) (.cons (dp_same d1' sD) (.cons (dp_same d2' sD) .nil)), .lst (SqL.of upd_same) (.cons (dp_same du11 sD) (.cons (dp_same du11 sD) .nil)), shaped2 shz.1 shz.2, shaped2 shz.1 shz.2, _, rfl, ?_⟩
          rw [eqv_self (shaped2 shz.1 shz.2)]
          refine iteF ?_
          have Z12 := Z11.same sD
          have hb12 := hb11.tk (tk_same sD)
          generalize upd H11 tD (.lst [u, u]) = H12 at *
          obtain ⟨wsb, hwb, hPb⟩ := id hb12
          refine ⟨_, rfl, rb, _, rfl, .inr hwb, _, _, rfl, rfl, _, rfl, ?_⟩
          rw [hPb.len, e9]
          refine if_cut (fun H13 s13 => ?_) (fun hc rest => ?_)
          · have Z13 := Z12.same s13
            obtain ⟨vs0, tz0, hP0⟩ := id Z13.X
            obtain ⟨ps, kvs, e, hps, mk⟩ := dpr_merge hP0
            subst e
            refine ⟨_, rfl, p, ps, kvs, rfl, tz0, hps, fun dh hdh => ?_⟩
            have s14 := Same.new (o := .dK (mergeK [] kvs)) hdh
            have D0 : DPr K (upd H13 dh (.dK (mergeK [] kvs))) (mergeK [] kvs) xs := (mk [] [] .nil gx.nodup).tk (tk_same s14)
            have edh : upd H13 dh (.dK (mergeK [] kvs)) dh = some (.dK (mergeK [] kvs)) := upd_same
            have Z14 := Z13.same s14
            generalize upd H13 dh (.dK (mergeK [] kvs)) = H14 at *
            obtain ⟨us, tzy, hR⟩ := id Z14.Y
            refine ⟨_, rfl, q, rfl, ⟨_, tzy.sq⟩, fun D hD => lc_tup (K := K) (a := q) (xs := us) (fun i H' => Same H14 H' ∧ H' D = some (.lst ((List.replicate ((ys.take i).filter (outB xs)).length 1).map V.int))) ⟨Same.new hD, upd_same⟩ (fun i H' _ ⟨s5, _⟩ => s5.tup tzy.sq) ?_ ?_⟩
            · rintro i v H' hi ⟨s15, h15⟩
              obtain ⟨qq, r', m, x, rfl, hxi, hqq, hr'⟩ := hR.get hi
              have hmem := List.mem_of_getElem? hxi
              have hx15 := gy.all _ hmem
              have hi2 : i < ys.length := (List.getElem?_eq_some_iff.mp hxi).1
              have D15 := D0.tk (tk_same s15)
              have len15 : ((ys.take i).filter (outB xs)).length ≤ 1000 := by
                have := List.length_filter_le (outB xs) (ys.take i)
                rw [List.length_take] at this
                omega
              have put : outB xs (m, x) = true → Same H14 (upd H' D (.lst ((List.replicate ((ys.take i).filter (outB xs)).length 1).map V.int ++ [V.int 1]))) ∧ upd H' D (.lst ((List.replicate ((ys.take i).filter (outB xs)).length 1).map V.int ++ [V.int 1])) D = some (.lst ((List.replicate ((ys.take (i + 1)).filter (outB xs)).length 1).map V.int)) := fun hb => by
                refine ⟨same_upd hD s15, ?_⟩
                rw [upd_same, take_snoc hxi, List.filter_append, List.length_append, List.filter_cons_of_pos hb]
                show some (HO.lst _) = some (HO.lst ((List.replicate (_ + 1) 1).map V.int))
                rw [List.replicate_succ', List.map_append]
                rfl
              have skip : outB xs (m, x) = false → Same H14 H' ∧ H' D = some (.lst ((List.replicate ((ys.take (i + 1)).filter (outB xs)).length 1).map V.int)) := fun hb => by
                refine ⟨s15, ?_⟩
                rw [take_snoc hxi, List.filter_append, List.filter_cons_of_neg (by rw [hb]; exact Bool.false_ne_true)]
                show H' D = some (.lst ((List.replicate (_ ++ []).length 1).map V.int))
                rw [List.append_nil]
                exact h15
              refine ⟨qq, _, rfl, s15.tup hqq, rfl, _, _, rfl, _, _, rfl, rfl, rfl, ?_⟩
              by_cases hk : m ∈ xs.map (·.1)
              · obtain ⟨a15, g1, g2⟩ := D15.val m hk
                have hg : DGet H' dh (.int m) (some (.ref a15)) := by
                  rw [← g1]
                  exact DGet.k (k := Sum.inl m) (s15 _ _ edh)
                have hlx := lk_fr gx.all (by decide) m
                refine ⟨_, rfl, _, rfl, dh, _, rfl, hg, _, rfl, ?_⟩
                refine iteF ⟨_, rfl, _, rfl, dh, _, rfl, hg, _, rfl, a15, r', _, x, rfl, g2, s15.tup hr', hlx.1, hx15.1, hlx.2.up (by decide), hx15.2.up (by decide), _, rfl, ?_⟩
                cases hfl : flt (lk xs m) x with
                | true =>
                  have hb : outB xs (m, x) = true := by simp [outB, hfl]
                  rw [if_pos rfl]
                  exact ⟨_, h15, small1000 (by rw [List.length_map, List.length_replicate]; exact len15), put hb⟩
                | false =>
                  have hb : outB xs (m, x) = false := by
                    have q2 : decide (m ∈ xs.map (·.1)) = true := decide_eq_true hk
                    unfold outB
                    simp only [q2, hfl, Bool.not_true, Bool.or_false]
                  rw [if_neg Bool.false_ne_true]
                  exact skip hb
              · have hg : DGet H' dh (.int m) none := by
                  rw [← D15.non m hk]
                  exact DGet.k (k := Sum.inl m) (s15 _ _ edh)
                have hb : outB xs (m, x) = true := by
                  have q2 : decide (m ∈ xs.map (·.1)) = false := decide_eq_false hk
                  unfold outB
                  simp only [q2, Bool.not_false, Bool.true_or]
                refine ⟨_, rfl, _, rfl, dh, _, rfl, hg, _, rfl, ?_⟩
                refine iteT ?_
                dsimp only
                rw [if_pos rfl]
                exact ⟨_, h15, small1000 (by rw [List.length_map, List.length_replicate]; exact len15), put hb⟩
            · rintro H15 ⟨s15, h15⟩
              rw [hR.len, List.take_length] at h15
              refine ⟨(by show 0 ≤ sizeLine; decide), fun tN hN => ?_⟩
              have s16 := Same.new (o := .lst []) hN
              refine ⟨ones (ys.filter (outB xs)).length, .list [], .lst (SqL.of (s16 _ _ h15)) (ones_dp _), .lst (SqL.of upd_same) .nil, ones_shp _, rfl, ?_⟩
              rw [ones_eq]
              have Z16 := Z14.same (s15.trans s16)
              generalize upd H15 tN (.lst []) = H16 at *
              have einn : (decide ((ys.filter (outB xs)).length = 0)) = decide ((ys.filter (outB xs)) = []) := by
                rw [decide_eq_decide]
                exact List.length_eq_zero_iff
              rw [einn]
              by_cases hin : Inn xs ys
              · rw [decide_eq_true (out_nil.mpr hin)]
                refine ⟨_, rfl, _, rfl, iteT ⟨_, rfl, _, rfl, p, q, xs, ys, rfl, Z16.X, Z16.Y.sh, gx.nodup, ax8, ay8, by omega, by omega, ⟨gy.nodup, fun a ha => (hin a ha).1⟩, fun H17 r7 ws7 s17 h7 hw7 => ?_⟩⟩
                have Z17 := Z16.same s17
                refine take_cut (D := shD ws7) Z17.T rfl rfl Z17.X.sh Z17.Y.sh gx gy x8 y8 (fun ws hw => ?_) (fun u8 H18 x18 t18 d8 => ?_)
                · have ti := take_in gx gy (by decide) x8 hw hin
                  exact ⟨fun _ => by rw [ti.2 ws7 hw7], fun n => absurd ti.1 n⟩
                · refine ⟨_, rfl, shD ws7, shD ws7, d8, (h7.tk (tk_ext x18)).dp, shShaped _, shShaped _, _, rfl, ?_⟩
                  rw [eqv_self (shShaped ws7)]
                  have Z18 := Z17.ext x18 t18
                  refine iteT ⟨_, rfl, _, rfl, p, p, xs, xs, rfl, Z18.X.sh, Z18.X.sh, sx, sx, ax8, ax8, fun H19 r9 ws9 s19 h9 hw9 => ?_⟩
                  obtain rfl := take_self gx (by decide) hw9
                  refine ⟨fun _ => ⟨(by show 0 ≤ sizeLine; decide), fun tE hE => ⟨shD [], .tuple [], (h9.tk (tk_same (Same.new hE))).dp, .tup (SqT.of upd_same) .nil, shShaped [], rfl, ?_⟩⟩, fun hn => absurd shr_nil hn⟩
                  exact k _ (Z18.same (s19.trans (Same.new hE)))
              · rw [decide_eq_false (fun h => hin (out_nil.mp h))]
                refine ⟨_, rfl, _, rfl, iteF ⟨(by show 1 ≤ sizeLine; decide), fun tS hS => ?_⟩⟩
                have s17 := Same.new (o := .lst [V.str "share"]) hS
                have Z17 := Z16.same s17
                have dS : Dp K (upd H16 tS (.lst [V.str "share"])) (.ref tS) dShare := .lst (SqL.of upd_same) (.cons (.str _) .nil)
                generalize upd H16 tS (.lst [V.str "share"]) = H17 at *
                refine take_cut (D := dShare) Z17.T rfl rfl Z17.X.sh Z17.Y.sh gx gy x8 y8 (fun ws hw => ⟨fun y => absurd y (take_out gx gy (by decide) hw hin), fun _ => rfl⟩) (fun u8 H18 x18 t18 d8 => ?_)
                refine ⟨_, rfl, dShare, dShare, d8, dp_ext dS x18, shp_share, shp_share, _, rfl, ?_⟩
                rw [eqv_self shp_share]
                have Z18 := Z17.ext x18 t18
                refine iteT ⟨_, rfl, _, rfl, p, p, xs, xs, rfl, Z18.X.sh, Z18.X.sh, sx, sx, ax8, ax8, fun H19 r9 ws9 s19 h9 hw9 => ?_⟩
                obtain rfl := take_self gx (by decide) hw9
                refine ⟨fun _ => ⟨(by show 0 ≤ sizeLine; decide), fun tE hE => ⟨shD [], .tuple [], (h9.tk (tk_same (Same.new hE))).dp, .tup (SqT.of upd_same) .nil, shShaped [], rfl, ?_⟩⟩, fun hn => absurd shr_nil hn⟩
                exact k _ (Z18.same (s19.trans (Same.new hE)))
          · have c9 : zs.length ≤ 8 := of_decide_eq_true hc
            have gz8 := gz.shr c9
            have az8 : AllF 80 zs := gz.all.up (by decide)
            refine ⟨_, rfl, _, rfl, rb, q, zs, ys, rfl, hb12, Z12.Y.sh, gz8, sy, az8, ay8, fun H' r5 ws s5 hr5 hw => ?_⟩
            obtain rfl := take_both gx gy (by decide) hz hw
            refine ⟨fun _ => ⟨_, rfl, shNe hr5 (Z12.same s5).X.sh ⟨_, rfl, ?_⟩⟩, fun hn => absurd sx hn⟩
            rw [decide_eq_true rfl]
            refine iteF ?_
            refine ⟨_, rfl, _, rfl, rb, p, zs, _, rfl, hb12.tk (tk_same s5), (Z12.same s5).X.sh, gz8, sx, az8, ax8, fun H6' r6 ws6 s6' hr6 hw6 => ?_⟩
            obtain rfl := take_both gy gx (by decide) (both_swap gx gy (by decide) hz) hw6
            refine ⟨fun _ => ⟨_, rfl, shNe hr6 (Z12.same (s5.trans s6')).Y.sh ⟨_, rfl, ?_⟩⟩, fun hn => absurd sy hn⟩
            rw [decide_eq_true rfl]
            exact iteF (rest _ (s5.trans s6'))
end
end CS
set_option maxHeartbeats 1000000
namespace CS
def row (l : List Int) (c : Fx) : List (Int × Fx) := l.map fun i => (i, c)
theorem row_keys (l : List Int) (c : Fx) : (row l c).map (·.1) = l := by
  unfold row
  rw [List.map_map]
  exact List.map_id l
theorem lk_row (l : List Int) (c : Fx) (k : Int) : lk (row l c) k = if k ∈ l then c else (0, 1) := by
  induction l with
  | nil => rfl
  | cons a l ih =>
    show lk ((a, c) :: row l c) k = _
    rw [lk_cons, ih]
    by_cases h : k = a
    · simp [h]
    · simp [h]
abbrev r8 : List Int := [0, 1, 2, 3, 4, 5, 6, 7]
theorem good_row {l : List Int} {c : Fx} (h : l.Pairwise (· < ·)) (hl : ∀ a ∈ l, -100 ≤ a ∧ a ≤ 100) (f : Fr c) (z : Sz 10 c) (p : 0 < c.1) : Good 10 (row l c) := by
  refine ⟨by rw [row_keys]; exact h, fun a ha => ?_, fun a ha => ?_, fun a ha => ?_⟩
  · obtain ⟨b, _, rfl⟩ := List.mem_map.mp ha
    exact ⟨f, z⟩
  · obtain ⟨b, _, rfl⟩ := List.mem_map.mp ha
    exact p
  · obtain ⟨b, hb, rfl⟩ := List.mem_map.mp ha
    exact hl b hb
theorem good_half : Good 10 (row r8 (1, 2)) := good_row (by decide) (by decide) (by decide +kernel) (by unfold Sz; decide) (by decide)
theorem good_half1 : Good 10 (row [1, 2, 3, 4, 5, 6, 7] (1, 2)) := good_row (by decide) (by decide) (by decide +kernel) (by unfold Sz; decide) (by decide)
theorem good_half0 : Good 10 (row [0] (1, 2)) := good_row (by decide) (by decide) (by decide +kernel) (by unfold Sz; decide) (by decide)
theorem good_ones : Good 10 (row r8 (1, 1)) := good_row (by decide) (by decide) (by decide +kernel) (by unfold Sz; decide) (by decide)
theorem twice {zs : List (Int × Fx)} (h : IsS (gat [] (row r8 (1, 2) ++ row r8 (1, 2))) zs) : zs = row r8 (1, 1) :=
  h.uniq good_ones.self fun k => by
    rw [lk_cat good_half (by decide) good_half.nodup, lk_row, lk_row]
    split
    · decide +kernel
    · decide +kernel
theorem less1 {zs : List (Int × Fx)} (h : IsS (gat [] (row r8 (1, 2) ++ ngs (row [1, 2, 3, 4, 5, 6, 7] (1, 2)))) zs) : zs = row [0] (1, 2) :=
  h.uniq good_half0.self fun k => by
    rw [lk_take good_half good_half1 (by decide), lk_row, lk_row, lk_row]
    by_cases h0 : k = 0
    · subst h0
      decide +kernel
    · by_cases h1 : k ∈ [1, 2, 3, 4, 5, 6, 7]
      · rw [if_pos h1, if_pos (List.mem_cons_of_mem _ h1), if_neg (by simpa using h0)]
        decide +kernel
      · rw [if_neg h1, if_neg (by intro z; rcases List.mem_cons.mp z with q | q; exact h0 q; exact h1 q), if_neg (by simpa using h0)]
        decide +kernel
theorem empty_is {zs : List (Int × Fx)} (h : IsS (gat [] ([] ++ [])) zs) : zs = [] := h.uniq (g := []) (q := []) ⟨List.Pairwise.nil, fun k x => by
  constructor
  · intro h
    cases h
  · rintro ⟨e, h⟩
    exact absurd e.symm h⟩ fun _ => rfl
theorem good_a : Good 10 [((0 : Int), ((1, 1) : Fx))] := good_row (l := [0]) (c := (1, 1)) (by decide) (by decide) (by decide +kernel) (by unfold Sz; decide) (by decide)
theorem good_b : Good 10 [((0 : Int), ((2, 1) : Fx))] := good_row (l := [0]) (c := (2, 1)) (by decide) (by decide) (by decide +kernel) (by unfold Sz; decide) (by decide)
theorem too_much {zs : List (Int × Fx)} (h : IsS (gat [] ([((0 : Int), ((1, 1) : Fx))] ++ ngs [((0 : Int), ((2, 1) : Fx))])) zs) : ¬ Shr zs :=
  take_out good_a good_b (by decide) h fun q => by
    have := (q _ List.mem_cons_self).2
    exact absurd this (by decide)
theorem sums8 : ftot (row r8 (1, 2)) = (4, 1) ∧ fmom (row r8 (1, 2)) = (14, 1) ∧ frest (row r8 (1, 2)) 5 = (3, 2) := by decide +kernel
end CS
set_option Elab.async false
set_option maxRecDepth 100000
set_option maxHeartbeats 16000000
set_option linter.unusedVariables false
namespace CS
open PySem L2 LamX
abbrev qLW : Str := (("law" : Str) ++ ".<locals>.") ++ "<lambda>"
theorem r8_at : ∀ i : Nat, i < 8 → r8[i]? = some ((0 : Int) + i) := by decide
theorem sl_tail {X : Cx} (k : Nat) : L2.SlR X (fun x lo hi H Q => lo = some (k : Int) ∧ hi = none ∧ ∃ a xs, x = .ref a ∧ SqT X.K H a xs ∧ ∀ H' b, Same H H' → SqT X.K H' b (xs.drop k) → Q (.ref b) H') := by
  intro pins s σ H x v vl vu lo hi sl Q I rx hs pl pu ⟨e1, e2, a, xs, ex, hx, q⟩
  subst e1
  subst e2
  refine sl_tupA pins s σ H x v vl vu _ _ sl Q I rx hs pl pu ⟨a, xs, ex, hx, fun h => ?_, fun h p np => ?_⟩
  · have h1 := h.1
    rw [HT.sIx_nat] at h1
    refine q H a (Same.refl H) ?_
    by_cases c : k = 0
    · rw [c, List.drop_zero]
      exact hx
    · have : xs = [] := List.eq_nil_of_length_eq_zero (by omega)
      subst this
      rw [List.drop_nil]
      exact hx
  · refine q _ p (Same.new np) ?_
    have e : cutV xs (some (k : Int)) none = xs.drop k := by
      unfold cutV
      rw [HT.sIx_none, HT.sIx_nat]
      by_cases c : k ≤ xs.length
      · rw [Nat.min_eq_left c, List.take_of_length_le (by rw [List.length_drop]; omega)]
      · rw [Nat.min_eq_right (by omega), List.drop_length, List.drop_of_length_le (by omega), List.take_nil]
    rw [← e]
    exact SqT.of upd_same
section
variable {P : Program} {w : World} {K : PySem.W.Frag} {mg : Str → Option Value} {base : Heap}
theorem ftEq {H : Hp} {p q : Addr} {x y : Fx} {Q : VK} (hp : FT K H p x) (hq : FT K H q y) (h : Q (.bl (decide (x = y))) H) : rEqD K (.ref p) (.ref q) H Q :=
  ⟨frD x, frD y, ftDp hp, ftDp hq, rfl, rfl, by rw [eqvFr]; exact h⟩
theorem PrsAt.drop {H : Hp} : ∀ {vs : List V} {xs : List (Int × Fx)} (n : Nat), PrsAt K H vs xs → PrsAt K H (vs.drop n) (xs.drop n)
  | _, _, 0, h => h
  | _, _, _ + 1, .nil => .nil
  | _, _, n + 1, .cons _ _ c => PrsAt.drop n c
def spLawK (K : PySem.W.Frag) (TT : List (Addr × Str)) : Sp := fun vs H Q _ => ∃ (a : Addr) (ns : List Int), vs = [.ref a] ∧ SqL K H a (ns.map V.int) ∧ ns.length ≤ 63 ∧ Tabs TT H ∧ ∀ H', Q (.bl true) H'
theorem scLawK : FnScope ["script", "state", "turn", "one", "other", "some", "mark"] ["script"] (defScope sLaw) := ⟨rfl, rfl, rfl, by decide +kernel, rfl, by decide +kernel, by decide +kernel⟩
theorem ok_lawK {f cL pL CB CT : Addr} {fd : FuncData} {TT : List (Addr × Str)} (F : FunC K "law" "law" sLaw f fd cL) (T : Bt mg) (TB : TabB base mg cL pL) (hm : (pL, qLW) ∈ TT) (hu : ∀ p ∈ TT, p.1 = pL → p.2 = qLW)
    {a_begin : Addr} {fdbegin : FuncData} (Dbegin : Df K mg "_law_begin" sBegin ["script"] a_begin fdbegin) (Gbegin : FnOk P w K mg base CX0 1 a_begin fdbegin ["script"] (spBegin K))
    {a_share : Addr} {fdshare : FuncData} (Dshare : Df K mg "_law_share" sLawShare ["state", "many"] a_share fdshare) (Gshare : FnOk P w K mg base CX0 4 a_share fdshare ["state", "many"] (spShare K))
    {a_TR : Addr} {fdTR : FuncData} (DTR : Df K mg "_law_two_right" sLawTwoRight ["state", "one", "other"] a_TR fdTR) (GTR : FnOk P w K mg base CX0 11 a_TR fdTR ["state", "one", "other"] (spTR K TT))
    {a_tot : Addr} {fdtot : FuncData} (Dtot : Df K mg "total" sTotal ["share"] a_tot fdtot) (Gtot : FnOk P w K mg base CX0 8 a_tot fdtot ["share"] (spTot K ftot))
    {a_mom : Addr} {fdmom : FuncData} (Dmom : Df K mg "moment" sMoment ["share"] a_mom fdmom) (Gmom : FnOk P w K mg base CX0 8 a_mom fdmom ["share"] (spTot K fmom))
    {a_rest : Addr} {fdrest : FuncData} (Drest : Df K mg "rest_above" sRestAbove ["share", "number"] a_rest fdrest) (Grest : FnOk P w K mg base CX0 8 a_rest fdrest ["share", "number"] (spRest K))
    {a_put : Addr} {fdput : FuncData} (Dput : Df K mg "put_together" sPutTogether ["one", "other"] a_put fdput) (Gput : FnOk P w K mg base (L2.CX P w) 8 a_put fdput ["one", "other"] (spPutT K CT))
    {a_take : Addr} {fdtake : FuncData} (Dtake : Df K mg "taken_from" sTakenFrom ["one", "other"] a_take fdtake) (Gtake : FnOk P w K mg base (L2.CX P w) 8 a_take fdtake ["one", "other"] (spTakeT K CB))
    {fheard : Addr} {fdheard : FuncData} (Dheard : Df K mg "_law_heard" sLawHeard ["deed"] fheard fdheard) (Gheard : ∀ act, ActOk P w K mg base 9 act → FnOk P w K mg base CX0 10 fheard fdheard ["deed"] (spGive (wxH CB CT) act))
    : FnOk P w K mg base CX0 12 f fd ["script"] (spLawK K TT) := by
  refine F.ok scLawK (fun vs H Q E h => ?_) (fun A outer s H vs Q E hr h => ?_)
  · obtain ⟨a, ns, rfl, _⟩ := h
    rfl
  · obtain ⟨a, ns, rfl, hS, hlen, hT, k⟩ := h
    refine ⟨_, (pss_cons (ps_set (i := 1) scLawK.nd rfl (Or.inl rfl) (pe_call Gbegin (hr.mono (by decide)) (by rfl) Dbegin.g Dbegin.F.kp Dbegin.b .nil pass0 (pa_cons (pv 0) pa_nil)))
      (pss_cons (ps_for PassesOwn.never rfl (pi_range1 rfl T.range (pa_cons pe_int pa_nil)) (pg_name (i := 2) scLawK.nd rfl (Or.inl rfl)) (pss_cons (ps_par (i := 3) (j := 4) (by rfl) scLawK.nd rfl rfl (by decide) rfl rfl (pa_cons (pe_call Gshare (hr.mono (by decide)) (by rfl) Dshare.g Dshare.F.kp Dshare.b .nil pass0 (pa_cons (pv 1) (pa_cons pe_int pa_nil))) (pa_cons (pe_call Gshare (hr.mono (by decide)) (by rfl) Dshare.g Dshare.F.kp Dshare.b .nil pass0 (pa_cons (pv 1) (pa_cons pe_int pa_nil))) pa_nil)) (by rfl)) (pss_one (ps_if (pt_not (pt_val (pe_call GTR (hr.mono (by decide)) (by rfl) DTR.g DTR.F.kp DTR.b .nil pass0 (pa_cons (pv 1) (pa_cons (pv 3) (pa_cons (pv 4) pa_nil)))))) (pss_one (ps_ret pe_bl)) pss_nil))))
      (pss_cons (ps_if (PW.pt (pw_or (pt_cmpR (op_neD hr.units) (pe_call Gtot (hr.mono (by decide)) (by rfl) Dtot.g Dtot.F.kp Dtot.b .nil pass0 (pa_cons (pe_tup pa_nil) pa_nil)) (pe_tup (pa_cons pe_int (pa_cons pe_int pa_nil))) (nomark _)) (pw_or (pt_cmpR (op_neD hr.units) (pe_call Gmom (hr.mono (by decide)) (by rfl) Dmom.g Dmom.F.kp Dmom.b .nil pass0 (pa_cons (pe_tup pa_nil) pa_nil)) (pe_tup (pa_cons pe_int (pa_cons pe_int pa_nil))) (nomark _)) (pw_or (pt_cmpR (op_neD hr.units) (pe_call Grest (hr.mono (by decide)) (by rfl) Drest.g Drest.F.kp Drest.b .nil pass0 (pa_cons (pe_tup pa_nil) (pa_cons pe_int pa_nil))) (pe_tup (pa_cons pe_int (pa_cons pe_int pa_nil))) (nomark _)) (pw_or1 (pt_cmpR (op_neD hr.units) (pe_call Gput (hr.mono (by decide)) (by rfl) Dput.g Dput.F.kp Dput.b .nil passL (pa_cons (pe_tup pa_nil) (pa_cons (pe_tup pa_nil) pa_nil))) (pe_tup pa_nil) (nomark _))))))) (pss_one (ps_ret pe_bl)) pss_nil)
      (pss_cons (ps_if (pt_cmpR (op_neD hr.units) (pe_give (k := 8) (Wx := wxH CB CT) (T := TT) (natH CB CT) Gheard (hr.mono (by decide)) (by rfl) Dheard.g Dheard.F.kp Dheard.b (fun _ => rfl) (lsc_by (by show lscB (defScope sLaw) _ ["script", "state", "turn", "one", "other", "some", "mark"] = true; decide +kernel)) (pe_lam0 TB rfl hm hu (lsc_by (by show lscB (defScope sLaw) _ ["script", "state", "turn", "one", "other", "some", "mark"] = true; decide +kernel)) rfl) (fun A outer s H E f c' hr2 => pe_call Gtake hr2 (by rfl) Dtake.g Dtake.F.kp Dtake.b .nil (passes_call (takes_of rfl rfl rfl rfl) (fun _ _ _ _ h => h)) (pa_cons (pe_tup (pa_cons (pe_tup (pa_cons pe_int (pa_cons (pe_tup (pa_cons pe_int (pa_cons pe_int pa_nil))) pa_nil))) pa_nil)) (pa_cons (pe_tup (pa_cons (pe_tup (pa_cons pe_int (pa_cons (pe_tup (pa_cons pe_int (pa_cons pe_int pa_nil))) pa_nil))) pa_nil)) pa_nil)))) (pe_lst (pa_cons pe_str pa_nil)) (nomark _)) (pss_one (ps_ret pe_bl)) pss_nil)
      (pss_cons (ps_set (i := 5) scLawK.nd rfl (Or.inl rfl) (pe_callTy call_tuple_of (by rfl) T.tuple (by decide +kernel) (pa_cons (pe_lc (own := [("mark", 6)]) (g := gName 6) (tt := tYes) rfl scLawK.nd (pi_range1 rfl T.range (pa_cons pe_int pa_nil)) (blkOk_by (N := ["script", "state", "turn", "one", "other", "some", "mark"]) (sc := defScope sLaw) (by decide +kernel)) (fun _ _ _ _ _ => pg_name (i := 6) scLawK.nd rfl (Or.inl rfl)) (fun _ _ _ _ _ => pts_nil) (fun _ _ _ _ _ => (pe_tup (pa_cons (pv 6) (pa_cons (pe_tup (pa_cons pe_int (pa_cons pe_int pa_nil))) pa_nil))))) pa_nil)))
      (pss_cons (ps_if (PW.pt (pw_or (pt_cmpR (op_neD hr.units) (pe_call Gput (hr.mono (by decide)) (by rfl) Dput.g Dput.F.kp Dput.b .nil passL (pa_cons (pv 5) (pa_cons (pv 5) pa_nil))) (pe_callTy call_tuple_of (by rfl) T.tuple (by decide +kernel) (pa_cons (pe_lc (own := [("mark", 6)]) (g := gName 6) (tt := tYes) rfl scLawK.nd (pi_range1 rfl T.range (pa_cons pe_int pa_nil)) (blkOk_by (N := ["script", "state", "turn", "one", "other", "some", "mark"]) (sc := defScope sLaw) (by decide +kernel)) (fun _ _ _ _ _ => pg_name (i := 6) scLawK.nd rfl (Or.inl rfl)) (fun _ _ _ _ _ => pts_nil) (fun _ _ _ _ _ => (pe_tup (pa_cons (pv 6) (pa_cons (pe_tup (pa_cons pe_int (pa_cons pe_int pa_nil))) pa_nil))))) pa_nil)) (nomark _)) (pw_or1 (pt_cmpR (op_neD hr.units) (pe_call Gtot (hr.mono (by decide)) (by rfl) Dtot.g Dtot.F.kp Dtot.b .nil pass0 (pa_cons (pv 5) pa_nil)) (pe_tup (pa_cons pe_int (pa_cons pe_int pa_nil))) (nomark _))))) (pss_one (ps_ret pe_bl)) pss_nil)
      (pss_one (ps_ret (pe_and (pe_cmpR (op_eqD hr.units) (pe_call Gmom (hr.mono (by decide)) (by rfl) Dmom.g Dmom.F.kp Dmom.b .nil pass0 (pa_cons (pv 5) pa_nil)) (pe_tup (pa_cons pe_int (pa_cons pe_int pa_nil))) (nomark _)) (pe_and (pe_cmpR (op_eqD hr.units) (pe_call Grest (hr.mono (by decide)) (by rfl) Drest.g Drest.F.kp Drest.b .nil pass0 (pa_cons (pv 5) (pa_cons pe_int pa_nil))) (pe_tup (pa_cons pe_int (pa_cons pe_int pa_nil))) (nomark _)) (pe_one (pe_cmpR (op_eqD hr.units) (pe_call Gtake (hr.mono (by decide)) (by rfl) Dtake.g Dtake.F.kp Dtake.b .nil passL (pa_cons (pv 5) (pa_cons (pe_slice (sl_tail 1) (pv 5) (po_some pe_int) po_none) pa_nil))) (pe_slice (sl_head 1) (pv 5) po_none (po_some pe_int)) (nomark _))))))))))))), ?_⟩
    refine ⟨_, rfl, a, ns, rfl, hS, hlen, fun d c l H1 nd s1 S1 => ?_⟩
    have T1 := hT.ext s1
    refine ⟨8, rfl, by decide, by decide, for_range (lo := 0) (n := 8) (fun i σ H' => ∃ v2 v3 v4 kk, σ = [some (.ref a), some (.ref d), v2, v3, v4, none, none] ∧ kk ≤ 81 * i ∧ StAt H' d c l kk ∧ Tabs TT H') ⟨none, none, none, 0, rfl, by omega, S1, T1⟩ ?_ ?_⟩
    · rintro i σ H2 hi ⟨v2, v3, v4, kk, rfl, hk, S2, T2⟩
      refine ⟨_, rfl, d, c, l, kk, 6, rfl, S2, by omega, by decide, by decide, fun H3 p xs k3 hk3 gx x8 S3 f3 zx => ?_⟩
      refine ⟨_, rfl, d, c, l, k3, 6, rfl, S3, by omega, by decide, by decide, fun H4 q ys k4 hk4 gy y8 S4 f4 zy => ?_⟩
      have T4 := tabs_fm (tabs_fm T2 f3 S2) f4 S3
      refine ⟨_, _, rfl, ?_⟩
      refine ⟨_, rfl, _, rfl, _, rfl, d, c, l, k4, p, q, xs, ys, rfl, ⟨S4, T4, zx.fm f4 S3, zy⟩, by omega, gx, gy, x8, y8, fun H5 Z5 => ⟨_, rfl, ?_⟩⟩
      refine iteF ⟨_, _, _, k4 + 1, rfl, by omega, Z5.S, Z5.T⟩
    · rintro σ H2 ⟨v2, v3, v4, kk, rfl, hk, S2, T2⟩
      have em : ∀ {H : Hp} {t : Addr}, ShAt K (upd H t (.tup [])) t [] := ⟨[], SqT.of upd_same, .nil⟩
      have an : ∀ n, AllF n [] := fun n a ha => by cases ha
      refine ⟨(by show 0 ≤ sizeLine; decide), fun t1 n1 => ⟨t1, [], rfl, em, shr_nil, an _, fun H3 r3 s3 h3 => ⟨(by show 2 ≤ sizeLine; decide), fun t2 n2 => ftNe ((Same.new n2).tup h3) (FT.new (x := (0, 1))) ⟨_, rfl, ?_⟩⟩⟩⟩
      rw [show ftot [] = (0, 1) from rfl, decide_eq_true rfl]
      refine iteF ?_
      have T3 := T2.ext ((Same.new (o := .tup []) n1).trans (s3.trans (Same.new (o := .tup [V.int 0, V.int 1]) n2)))
      refine ⟨(by show 0 ≤ sizeLine; decide), fun t4 n4 => ⟨t4, [], rfl, em, shr_nil, an _, fun H5 r5 s5 h5 => ⟨(by show 2 ≤ sizeLine; decide), fun t6 n6 => ftNe ((Same.new n6).tup h5) (FT.new (x := (0, 1))) ⟨_, rfl, ?_⟩⟩⟩⟩
      rw [show fmom [] = (0, 1) from rfl, decide_eq_true rfl]
      refine iteF ?_
      have T5 := T3.ext ((Same.new (o := .tup []) n4).trans (s5.trans (Same.new (o := .tup [V.int 0, V.int 1]) n6)))
      refine ⟨(by show 0 ≤ sizeLine; decide), fun t7 n7 => ⟨t7, [], 5, rfl, em, shr_nil, an _, by decide, by decide, fun H8 r8' s8 h8 => ⟨(by show 2 ≤ sizeLine; decide), fun t9 n9 => ftNe ((Same.new n9).tup h8) (FT.new (x := (0, 1))) ⟨_, rfl, ?_⟩⟩⟩⟩
      rw [show frest [] 5 = (0, 1) from rfl, decide_eq_true rfl]
      refine iteF ?_
      have T8 := T5.ext ((Same.new (o := .tup []) n7).trans (s8.trans (Same.new (o := .tup [V.int 0, V.int 1]) n9)))
      refine ⟨(by show 0 ≤ sizeLine; decide), fun ta na => ⟨(by show 0 ≤ sizeLine; decide), fun tb nb => ⟨ta, tb, [], [], rfl, em.tk (tk_same (Same.new nb)), em, shr_nil, shr_nil, an _, an _, fun HA rA zs sA hA hz => ?_⟩⟩⟩
      obtain rfl := empty_is hz
      refine ⟨fun _ => ⟨(by show 0 ≤ sizeLine; decide), fun tc nc => ⟨shD [], .tuple [], (hA.tk (tk_same (Same.new nc))).dp, .tup (SqT.of upd_same) .nil, shShaped [], rfl, _, rfl, ?_⟩⟩, fun hn => absurd hn (by decide)⟩
      refine iteF ?_
      have TA := T8.ext ((Same.new (o := .tup []) na).trans ((Same.new (o := .tup []) nb).trans (sA.trans (Same.new (o := .tup []) nc))))
      refine ⟨TA, fun HC xC TC => ?_⟩
      refine ⟨(by show 2 ≤ sizeLine; decide), fun u1 m1 => ⟨(by show 2 ≤ sizeLine; decide), fun u2 m2 => ⟨(by show 1 ≤ sizeLine; decide), fun u3 m3 => ?_⟩⟩⟩
      have q1 := Same.new (o := .tup [V.int 1, V.int 1]) m1
      have q2 := Same.new (o := .tup [V.int 0, V.ref u1]) m2
      have q3 := Same.new (o := .tup [V.ref u2]) m3
      have A1 : ShAt K (upd (upd (upd HC u1 (.tup [V.int 1, V.int 1])) u2 (.tup [V.int 0, V.ref u1])) u3 (.tup [V.ref u2])) u3 [((0 : Int), ((1, 1) : Fx))] := ⟨_, SqT.of upd_same, .cons (q3.tup (SqT.of upd_same)) ((q2.trans q3).tup (FT.new (x := (1, 1)))) .nil⟩
      have TD := TC.ext (q1.trans (q2.trans q3))
      generalize upd (upd (upd HC u1 (.tup [V.int 1, V.int 1])) u2 (.tup [V.int 0, V.ref u1])) u3 (.tup [V.ref u2]) = HD at *
      refine ⟨(by show 2 ≤ sizeLine; decide), fun u4 m4 => ⟨(by show 2 ≤ sizeLine; decide), fun u5 m5 => ⟨(by show 1 ≤ sizeLine; decide), fun u6 m6 => ?_⟩⟩⟩
      have q4 := Same.new (o := .tup [V.int 2, V.int 1]) m4
      have q5 := Same.new (o := .tup [V.int 0, V.ref u4]) m5
      have q6 := Same.new (o := .tup [V.ref u5]) m6
      have B1 : ShAt K (upd (upd (upd HD u4 (.tup [V.int 2, V.int 1])) u5 (.tup [V.int 0, V.ref u4])) u6 (.tup [V.ref u5])) u6 [((0 : Int), ((2, 1) : Fx))] := ⟨_, SqT.of upd_same, .cons (q6.tup (SqT.of upd_same)) ((q5.trans q6).tup (FT.new (x := (2, 1)))) .nil⟩
      have A2 := A1.tk (tk_same (q4.trans (q5.trans q6)))
      have TE := TD.ext (q4.trans (q5.trans q6))
      generalize upd (upd (upd HD u4 (.tup [V.int 2, V.int 1])) u5 (.tup [V.int 0, V.ref u4])) u6 (.tup [V.ref u5]) = HE at *
      refine ⟨u3, u6, _, _, rfl, A2, B1, good_a.shr (by decide), good_b.shr (by decide), good_a.all.up (by decide), good_b.all.up (by decide), fun HF rF ws sF hF hw => ⟨fun y => absurd y (too_much hw), fun _ dd hdd => .inl ⟨rfl, fun rp np => ?_⟩⟩⟩
      have w1 := Same.new (o := .xd [(("given" : Str), V.ref u6)]) hdd
      have w2 := Same.new (o := .lst [V.str "share"]) np
      refine ⟨(by show 1 ≤ sizeLine; decide), fun rs ns2 => ?_⟩
      have w3 := Same.new (o := .lst [V.str "share"]) ns2
      refine ⟨dShare, dShare, .lst (SqL.of (w3 _ _ upd_same)) (.cons (.str _) .nil), .lst (SqL.of upd_same) (.cons (.str _) .nil), shp_share, shp_share, _, rfl, ?_⟩
      rw [eqv_self shp_share]
      refine iteF ?_
      generalize upd (upd (upd HF dd (.xd [(("given" : Str), V.ref u6)])) rp (.lst [V.str "share"])) rs (.lst [V.str "share"]) = HH at *
      refine ⟨8, rfl, by decide, by decide, fun D hD => lc_range (lo := 0) (n := 8) (fun i H' => Same HH H' ∧ ∃ ws, H' D = some (.lst ws) ∧ PrsAt K H' ws (row (r8.take i) (1, 2))) ⟨Same.new hD, [], upd_same, .nil⟩ ?_ ?_⟩
      · rintro i H' hi ⟨sc, ws, hw, hf⟩
        refine ⟨rfl, ?_⟩
        dsimp only [tYes]
        rw [if_pos rfl]
        refine ⟨_, rfl, (by show 2 ≤ sizeLine; decide), fun ta na => ⟨(by show 2 ≤ sizeLine; decide), fun tb nb => ?_⟩⟩
        have ka := Same.new (o := .tup [V.int 1, V.int 2]) na
        have kb := Same.new (o := .tup [V.int (0 + i), V.ref ta]) nb
        have fta : FT K (upd H' ta (.tup [V.int 1, V.int 2])) ta (1, 2) := FT.new (x := (1, 2))
        have hwl : ws.length ≤ 8 := by
          have := hf.len
          unfold row at this
          rw [List.length_map, List.length_take] at this
          omega
        refine ⟨ws, kb _ _ (ka _ _ hw), small1000 (by omega), same_upd hD (sc.trans (ka.trans kb)), _, upd_same, ?_⟩
        rw [take_snoc (r8_at i hi)]
        unfold row at *
        rw [List.map_append]
        exact ((hf.tk (tk_same (ka.trans kb))).app (.cons (SqT.of upd_same) (kb.tup fta) .nil)).tk (tk_lst (kb _ _ (ka _ _ hw)))
      rintro H' ⟨sc, ws1, hw1, hf1⟩
      refine ⟨_, ws1, rfl, .inl ⟨SqL.of hw1, fun ps nps => ?_⟩⟩
      have kp := Same.new (o := .tup ws1) nps
      have hsq : SqT K (upd H' ps (.tup ws1)) ps ws1 := SqT.of upd_same
      have hf2 : PrsAt K (upd H' ps (.tup ws1)) ws1 (row r8 (1, 2)) := hf1.tk (tk_same kp)
      generalize upd H' ps (.tup ws1) = HP at *
      have S0 : ShAt K HP ps (row r8 (1, 2)) := ⟨ws1, hsq, hf2⟩
      have gs := good_half.shr (by decide)
      refine ⟨_, rfl, _, rfl, ps, ps, _, _, rfl, S0, S0, gs, gs, good_half.all.up (by decide), good_half.all.up (by decide), fun HQ r9 zs sQ hQ hz => ?_⟩
      obtain rfl := twice hz
      refine ⟨fun _ => ?_, fun hn => absurd hn (by decide)⟩
      refine ⟨8, rfl, by decide, by decide, fun D hD => lc_range (lo := 0) (n := 8) (fun i H' => Same HQ H' ∧ ∃ ws, H' D = some (.lst ws) ∧ PrsAt K H' ws (row (r8.take i) (1, 1))) ⟨Same.new hD, [], upd_same, .nil⟩ ?_ ?_⟩
      · rintro i H' hi ⟨sc, ws, hw, hf⟩
        refine ⟨rfl, ?_⟩
        dsimp only [tYes]
        rw [if_pos rfl]
        refine ⟨_, rfl, (by show 2 ≤ sizeLine; decide), fun ta na => ⟨(by show 2 ≤ sizeLine; decide), fun tb nb => ?_⟩⟩
        have ka := Same.new (o := .tup [V.int 1, V.int 1]) na
        have kb := Same.new (o := .tup [V.int (0 + i), V.ref ta]) nb
        have fta : FT K (upd H' ta (.tup [V.int 1, V.int 1])) ta (1, 1) := FT.new (x := (1, 1))
        have hwl : ws.length ≤ 8 := by
          have := hf.len
          unfold row at this
          rw [List.length_map, List.length_take] at this
          omega
        refine ⟨ws, kb _ _ (ka _ _ hw), small1000 (by omega), same_upd hD (sc.trans (ka.trans kb)), _, upd_same, ?_⟩
        rw [take_snoc (r8_at i hi)]
        unfold row at *
        rw [List.map_append]
        exact ((hf.tk (tk_same (ka.trans kb))).app (.cons (SqT.of upd_same) (kb.tup fta) .nil)).tk (tk_lst (kb _ _ (ka _ _ hw)))
      rintro H2' ⟨sc2, ws2, hw2, hf2'⟩
      refine ⟨_, ws2, rfl, .inl ⟨SqL.of hw2, fun pe npe => ?_⟩⟩
      have ke := Same.new (o := .tup ws2) npe
      have hB : ShAt K (upd H2' pe (.tup ws2)) pe (row r8 (1, 1)) := ⟨ws2, SqT.of upd_same, hf2'.tk (tk_same ke)⟩
      refine shNe (hQ.tk (tk_same (sc2.trans ke))) hB ⟨_, rfl, ?_⟩
      rw [decide_eq_true rfl]
      refine iteF ?_
      have S1' := S0.tk (tk_same (sQ.trans (sc2.trans ke)))
      generalize upd H2' pe (.tup ws2) = HR at *
      refine ⟨_, rfl, ps, _, rfl, S1', gs, good_half.all.up (by decide), fun HT rT sT hT2 => ⟨(by show 2 ≤ sizeLine; decide), fun tt ntt => ftNe ((Same.new ntt).tup hT2) (FT.new (x := (4, 1))) ⟨_, rfl, ?_⟩⟩⟩
      rw [sums8.1, decide_eq_true rfl]
      refine iteF ?_
      have S2' := S1'.tk (tk_same (sT.trans (Same.new (o := .tup [V.int 4, V.int 1]) ntt)))
      refine ⟨_, rfl, ps, _, rfl, S2', gs, good_half.all.up (by decide), fun HM rM sM hM => ⟨(by show 2 ≤ sizeLine; decide), fun tm ntm => ftEq ((Same.new ntm).tup hM) (FT.new (x := (14, 1))) ⟨_, rfl, ?_⟩⟩⟩
      rw [sums8.2.1, decide_eq_true rfl]
      have S3' := S2'.tk (tk_same (sM.trans (Same.new (o := .tup [V.int 14, V.int 1]) ntm)))
      refine iteT ⟨_, rfl, ps, _, 5, rfl, S3', gs, good_half.all.up (by decide), by decide, by decide, fun HN rN sN hN => ⟨(by show 2 ≤ sizeLine; decide), fun tn ntn => ftEq ((Same.new ntn).tup hN) (FT.new (x := (3, 2))) ⟨_, rfl, ?_⟩⟩⟩
      rw [sums8.2.2, decide_eq_true rfl]
      have S4' := S3'.tk (tk_same (sN.trans (Same.new (o := .tup [V.int 3, V.int 2]) ntn)))
      obtain ⟨vs, hvs, hPs⟩ := id S4'
      refine iteT ⟨_, rfl, _, rfl, 1, rfl, rfl, rfl, ps, vs, rfl, hvs, fun HS b sS hb => ?_⟩
      have B1' : ShAt K HS b (row [1, 2, 3, 4, 5, 6, 7] (1, 2)) := ⟨_, hb, (hPs.tk (tk_same sS)).drop 1⟩
      refine ⟨ps, b, _, _, rfl, S4'.tk (tk_same sS), B1', gs, good_half1.shr (by decide), good_half.all.up (by decide), good_half1.all.up (by decide), fun HU rU zs sU hU hz2 => ?_⟩
      obtain rfl := less1 hz2
      refine ⟨fun _ => ⟨_, rfl, 1, rfl, rfl, rfl, ps, vs, rfl, (sS.trans sU).tup hvs, fun HV b2 sV hb2 => ?_⟩, fun hn => absurd (good_half0.shr (by decide)) hn⟩
      have B2' : ShAt K HV b2 (row [0] (1, 2)) := ⟨_, hb2, (hPs.tk (tk_same (sS.trans (sU.trans sV)))).take 1⟩
      refine shEq (hU.tk (tk_same sV)) B2' ?_
      rw [decide_eq_true rfl]
      exact k _
end
end CS
set_option Elab.async false
set_option maxRecDepth 100000
set_option linter.unusedVariables false
namespace CS
open PySem L2 LamX
set_option maxHeartbeats 16000000 in
theorem all_mk {l : PySem.W.OpenLaw} {w : World} {K : PySem.W.Frag} {h : Heap} {mg : Str → Option Value} {fa fLowered fAdded fScaled fSumOf fGathered fTotalOf fMomentOf fRestOf fIsWhole fIsRow fIsRowOf fIsWholeWithin fIsNumber fIsFraction fIsWeight fAscends fIsSharePair fIsShare fNeedNumber fNeedShare fTotal fMoment fRestAbove fPutTogether fTakenFrom fMixed fBegin fDraw fLawRatio fLawPlus fLawLess fLawTimes fLawUnder fLawSum fLawTotal fLawMoment fLawRest fLawShareOf fLawTaken fLawHeft fLawMarks fLawShare fLawHeard fLawBoth fLawTwoRight fLaw fN : Addr} (X : K.In h) (G : h.Ns mainGlobals mg) (hfa : mg "law" = some (.ref fa))
    {odLowered anLowered : Option Addr} {slLowered : Array (Option Value)} {ocLowered kVLowered dcLowered pmLowered ctLowered : Value} {cdLowered : Value} (aLowered : PySem.W.nsIn K mainGlobals "lowered" = some (some (.ref fLowered))) (lLowered : K.lookup fLowered = some ⟨ocLowered, odLowered, .func (PySem.W.fnOf "lowered" "lowered" (defArgs sLowered) (defBody sLowered) (defScope sLowered) .none kVLowered dcLowered pmLowered anLowered cdLowered ctLowered), slLowered⟩) (cLowered : PySem.W.codeIn K cdLowered "lowered" = true) (kLowered : PySem.W.keepIn K (.ref fLowered) = true)
    {odAdded anAdded : Option Addr} {slAdded : Array (Option Value)} {ocAdded kVAdded dcAdded pmAdded ctAdded : Value} {cdAdded : Value} (aAdded : PySem.W.nsIn K mainGlobals "added" = some (some (.ref fAdded))) (lAdded : K.lookup fAdded = some ⟨ocAdded, odAdded, .func (PySem.W.fnOf "added" "added" (defArgs sAdded) (defBody sAdded) (defScope sAdded) .none kVAdded dcAdded pmAdded anAdded cdAdded ctAdded), slAdded⟩) (cAdded : PySem.W.codeIn K cdAdded "added" = true) (kAdded : PySem.W.keepIn K (.ref fAdded) = true)
    {odScaled anScaled : Option Addr} {slScaled : Array (Option Value)} {ocScaled kVScaled dcScaled pmScaled ctScaled : Value} {cdScaled : Value} (aScaled : PySem.W.nsIn K mainGlobals "scaled" = some (some (.ref fScaled))) (lScaled : K.lookup fScaled = some ⟨ocScaled, odScaled, .func (PySem.W.fnOf "scaled" "scaled" (defArgs sScaled) (defBody sScaled) (defScope sScaled) .none kVScaled dcScaled pmScaled anScaled cdScaled ctScaled), slScaled⟩) (cScaled : PySem.W.codeIn K cdScaled "scaled" = true) (kScaled : PySem.W.keepIn K (.ref fScaled) = true)
    {odSumOf anSumOf : Option Addr} {slSumOf : Array (Option Value)} {ocSumOf kVSumOf dcSumOf pmSumOf ctSumOf : Value} {cdSumOf : Value} (aSumOf : PySem.W.nsIn K mainGlobals "sum_of" = some (some (.ref fSumOf))) (lSumOf : K.lookup fSumOf = some ⟨ocSumOf, odSumOf, .func (PySem.W.fnOf "sum_of" "sum_of" (defArgs sSumOf) (defBody sSumOf) (defScope sSumOf) .none kVSumOf dcSumOf pmSumOf anSumOf cdSumOf ctSumOf), slSumOf⟩) (cSumOf : PySem.W.codeIn K cdSumOf "sum_of" = true) (kSumOf : PySem.W.keepIn K (.ref fSumOf) = true)
    {odGathered anGathered : Option Addr} {slGathered : Array (Option Value)} {ocGathered kVGathered dcGathered pmGathered ctGathered : Value} {cdGathered : Value} (aGathered : PySem.W.nsIn K mainGlobals "gathered" = some (some (.ref fGathered))) (lGathered : K.lookup fGathered = some ⟨ocGathered, odGathered, .func (PySem.W.fnOf "gathered" "gathered" (defArgs sGathered) (defBody sGathered) (defScope sGathered) .none kVGathered dcGathered pmGathered anGathered cdGathered ctGathered), slGathered⟩) (cGathered : PySem.W.codeIn K cdGathered "gathered" = true) (kGathered : PySem.W.keepIn K (.ref fGathered) = true)
    {odTotalOf anTotalOf : Option Addr} {slTotalOf : Array (Option Value)} {ocTotalOf kVTotalOf dcTotalOf pmTotalOf ctTotalOf : Value} {cdTotalOf : Value} (aTotalOf : PySem.W.nsIn K mainGlobals "total_of" = some (some (.ref fTotalOf))) (lTotalOf : K.lookup fTotalOf = some ⟨ocTotalOf, odTotalOf, .func (PySem.W.fnOf "total_of" "total_of" (defArgs sTotalOf) (defBody sTotalOf) (defScope sTotalOf) .none kVTotalOf dcTotalOf pmTotalOf anTotalOf cdTotalOf ctTotalOf), slTotalOf⟩) (cTotalOf : PySem.W.codeIn K cdTotalOf "total_of" = true) (kTotalOf : PySem.W.keepIn K (.ref fTotalOf) = true)
    {odMomentOf anMomentOf : Option Addr} {slMomentOf : Array (Option Value)} {ocMomentOf kVMomentOf dcMomentOf pmMomentOf ctMomentOf : Value} {cdMomentOf : Value} (aMomentOf : PySem.W.nsIn K mainGlobals "moment_of" = some (some (.ref fMomentOf))) (lMomentOf : K.lookup fMomentOf = some ⟨ocMomentOf, odMomentOf, .func (PySem.W.fnOf "moment_of" "moment_of" (defArgs sMomentOf) (defBody sMomentOf) (defScope sMomentOf) .none kVMomentOf dcMomentOf pmMomentOf anMomentOf cdMomentOf ctMomentOf), slMomentOf⟩) (cMomentOf : PySem.W.codeIn K cdMomentOf "moment_of" = true) (kMomentOf : PySem.W.keepIn K (.ref fMomentOf) = true)
    {odRestOf anRestOf : Option Addr} {slRestOf : Array (Option Value)} {ocRestOf kVRestOf dcRestOf pmRestOf ctRestOf : Value} {cdRestOf : Value} (aRestOf : PySem.W.nsIn K mainGlobals "rest_of" = some (some (.ref fRestOf))) (lRestOf : K.lookup fRestOf = some ⟨ocRestOf, odRestOf, .func (PySem.W.fnOf "rest_of" "rest_of" (defArgs sRestOf) (defBody sRestOf) (defScope sRestOf) .none kVRestOf dcRestOf pmRestOf anRestOf cdRestOf ctRestOf), slRestOf⟩) (cRestOf : PySem.W.codeIn K cdRestOf "rest_of" = true) (kRestOf : PySem.W.keepIn K (.ref fRestOf) = true)
    {odIsWhole anIsWhole : Option Addr} {slIsWhole : Array (Option Value)} {ocIsWhole kVIsWhole dcIsWhole pmIsWhole ctIsWhole : Value} {cdIsWhole : Value} (aIsWhole : PySem.W.nsIn K mainGlobals "is_whole" = some (some (.ref fIsWhole))) (lIsWhole : K.lookup fIsWhole = some ⟨ocIsWhole, odIsWhole, .func (PySem.W.fnOf "is_whole" "is_whole" (defArgs sIsWhole) (defBody sIsWhole) (defScope sIsWhole) .none kVIsWhole dcIsWhole pmIsWhole anIsWhole cdIsWhole ctIsWhole), slIsWhole⟩) (cIsWhole : PySem.W.codeIn K cdIsWhole "is_whole" = true) (kIsWhole : PySem.W.keepIn K (.ref fIsWhole) = true)
    {odIsRow anIsRow : Option Addr} {slIsRow : Array (Option Value)} {ocIsRow kVIsRow dcIsRow pmIsRow ctIsRow : Value} {cdIsRow : Value} (aIsRow : PySem.W.nsIn K mainGlobals "is_row" = some (some (.ref fIsRow))) (lIsRow : K.lookup fIsRow = some ⟨ocIsRow, odIsRow, .func (PySem.W.fnOf "is_row" "is_row" (defArgs sIsRow) (defBody sIsRow) (defScope sIsRow) .none kVIsRow dcIsRow pmIsRow anIsRow cdIsRow ctIsRow), slIsRow⟩) (cIsRow : PySem.W.codeIn K cdIsRow "is_row" = true) (kIsRow : PySem.W.keepIn K (.ref fIsRow) = true)
    {odIsRowOf anIsRowOf : Option Addr} {slIsRowOf : Array (Option Value)} {ocIsRowOf kVIsRowOf dcIsRowOf pmIsRowOf ctIsRowOf : Value} {cdIsRowOf : Value} (aIsRowOf : PySem.W.nsIn K mainGlobals "is_row_of" = some (some (.ref fIsRowOf))) (lIsRowOf : K.lookup fIsRowOf = some ⟨ocIsRowOf, odIsRowOf, .func (PySem.W.fnOf "is_row_of" "is_row_of" (defArgs sIsRowOf) (defBody sIsRowOf) (defScope sIsRowOf) .none kVIsRowOf dcIsRowOf pmIsRowOf anIsRowOf cdIsRowOf ctIsRowOf), slIsRowOf⟩) (cIsRowOf : PySem.W.codeIn K cdIsRowOf "is_row_of" = true) (kIsRowOf : PySem.W.keepIn K (.ref fIsRowOf) = true)
    {odIsWholeWithin anIsWholeWithin : Option Addr} {slIsWholeWithin : Array (Option Value)} {ocIsWholeWithin kVIsWholeWithin dcIsWholeWithin pmIsWholeWithin ctIsWholeWithin : Value} {cdIsWholeWithin : Value} (aIsWholeWithin : PySem.W.nsIn K mainGlobals "is_whole_within" = some (some (.ref fIsWholeWithin))) (lIsWholeWithin : K.lookup fIsWholeWithin = some ⟨ocIsWholeWithin, odIsWholeWithin, .func (PySem.W.fnOf "is_whole_within" "is_whole_within" (defArgs sIsWholeWithin) (defBody sIsWholeWithin) (defScope sIsWholeWithin) .none kVIsWholeWithin dcIsWholeWithin pmIsWholeWithin anIsWholeWithin cdIsWholeWithin ctIsWholeWithin), slIsWholeWithin⟩) (cIsWholeWithin : PySem.W.codeIn K cdIsWholeWithin "is_whole_within" = true) (kIsWholeWithin : PySem.W.keepIn K (.ref fIsWholeWithin) = true)
    {odIsNumber anIsNumber : Option Addr} {slIsNumber : Array (Option Value)} {ocIsNumber kVIsNumber dcIsNumber pmIsNumber ctIsNumber : Value} {cdIsNumber : Value} (aIsNumber : PySem.W.nsIn K mainGlobals "is_number" = some (some (.ref fIsNumber))) (lIsNumber : K.lookup fIsNumber = some ⟨ocIsNumber, odIsNumber, .func (PySem.W.fnOf "is_number" "is_number" (defArgs sIsNumber) (defBody sIsNumber) (defScope sIsNumber) .none kVIsNumber dcIsNumber pmIsNumber anIsNumber cdIsNumber ctIsNumber), slIsNumber⟩) (cIsNumber : PySem.W.codeIn K cdIsNumber "is_number" = true) (kIsNumber : PySem.W.keepIn K (.ref fIsNumber) = true)
    {odIsFraction anIsFraction : Option Addr} {slIsFraction : Array (Option Value)} {ocIsFraction kVIsFraction dcIsFraction pmIsFraction ctIsFraction : Value} {cdIsFraction : Value} (aIsFraction : PySem.W.nsIn K mainGlobals "is_fraction" = some (some (.ref fIsFraction))) (lIsFraction : K.lookup fIsFraction = some ⟨ocIsFraction, odIsFraction, .func (PySem.W.fnOf "is_fraction" "is_fraction" (defArgs sIsFraction) (defBody sIsFraction) (defScope sIsFraction) .none kVIsFraction dcIsFraction pmIsFraction anIsFraction cdIsFraction ctIsFraction), slIsFraction⟩) (cIsFraction : PySem.W.codeIn K cdIsFraction "is_fraction" = true) (kIsFraction : PySem.W.keepIn K (.ref fIsFraction) = true)
    {odIsWeight anIsWeight : Option Addr} {slIsWeight : Array (Option Value)} {ocIsWeight kVIsWeight dcIsWeight pmIsWeight ctIsWeight : Value} {cdIsWeight : Value} (aIsWeight : PySem.W.nsIn K mainGlobals "is_weight" = some (some (.ref fIsWeight))) (lIsWeight : K.lookup fIsWeight = some ⟨ocIsWeight, odIsWeight, .func (PySem.W.fnOf "is_weight" "is_weight" (defArgs sIsWeight) (defBody sIsWeight) (defScope sIsWeight) .none kVIsWeight dcIsWeight pmIsWeight anIsWeight cdIsWeight ctIsWeight), slIsWeight⟩) (cIsWeight : PySem.W.codeIn K cdIsWeight "is_weight" = true) (kIsWeight : PySem.W.keepIn K (.ref fIsWeight) = true)
    {odAscends anAscends : Option Addr} {slAscends : Array (Option Value)} {ocAscends kVAscends dcAscends pmAscends ctAscends : Value} {cdAscends : Value} (aAscends : PySem.W.nsIn K mainGlobals "ascends" = some (some (.ref fAscends))) (lAscends : K.lookup fAscends = some ⟨ocAscends, odAscends, .func (PySem.W.fnOf "ascends" "ascends" (defArgs sAscends) (defBody sAscends) (defScope sAscends) .none kVAscends dcAscends pmAscends anAscends cdAscends ctAscends), slAscends⟩) (cAscends : PySem.W.codeIn K cdAscends "ascends" = true) (kAscends : PySem.W.keepIn K (.ref fAscends) = true)
    {odIsSharePair anIsSharePair : Option Addr} {slIsSharePair : Array (Option Value)} {ocIsSharePair kVIsSharePair dcIsSharePair pmIsSharePair ctIsSharePair : Value} {cdIsSharePair : Value} (aIsSharePair : PySem.W.nsIn K mainGlobals "is_share_pair" = some (some (.ref fIsSharePair))) (lIsSharePair : K.lookup fIsSharePair = some ⟨ocIsSharePair, odIsSharePair, .func (PySem.W.fnOf "is_share_pair" "is_share_pair" (defArgs sIsSharePair) (defBody sIsSharePair) (defScope sIsSharePair) .none kVIsSharePair dcIsSharePair pmIsSharePair anIsSharePair cdIsSharePair ctIsSharePair), slIsSharePair⟩) (cIsSharePair : PySem.W.codeIn K cdIsSharePair "is_share_pair" = true) (kIsSharePair : PySem.W.keepIn K (.ref fIsSharePair) = true)
    {odIsShare anIsShare : Option Addr} {slIsShare : Array (Option Value)} {ocIsShare kVIsShare dcIsShare pmIsShare ctIsShare : Value} {cdIsShare : Value} (aIsShare : PySem.W.nsIn K mainGlobals "is_share" = some (some (.ref fIsShare))) (lIsShare : K.lookup fIsShare = some ⟨ocIsShare, odIsShare, .func (PySem.W.fnOf "is_share" "is_share" (defArgs sIsShare) (defBody sIsShare) (defScope sIsShare) .none kVIsShare dcIsShare pmIsShare anIsShare cdIsShare ctIsShare), slIsShare⟩) (cIsShare : PySem.W.codeIn K cdIsShare "is_share" = true) (kIsShare : PySem.W.keepIn K (.ref fIsShare) = true)
    {odNeedNumber anNeedNumber : Option Addr} {slNeedNumber : Array (Option Value)} {ocNeedNumber kVNeedNumber dcNeedNumber pmNeedNumber ctNeedNumber : Value} {cdNeedNumber : Value} (aNeedNumber : PySem.W.nsIn K mainGlobals "need_number" = some (some (.ref fNeedNumber))) (lNeedNumber : K.lookup fNeedNumber = some ⟨ocNeedNumber, odNeedNumber, .func (PySem.W.fnOf "need_number" "need_number" (defArgs sNeedNumber) (defBody sNeedNumber) (defScope sNeedNumber) .none kVNeedNumber dcNeedNumber pmNeedNumber anNeedNumber cdNeedNumber ctNeedNumber), slNeedNumber⟩) (cNeedNumber : PySem.W.codeIn K cdNeedNumber "need_number" = true) (kNeedNumber : PySem.W.keepIn K (.ref fNeedNumber) = true)
    {odNeedShare anNeedShare : Option Addr} {slNeedShare : Array (Option Value)} {ocNeedShare kVNeedShare dcNeedShare pmNeedShare ctNeedShare : Value} {cdNeedShare : Value} (aNeedShare : PySem.W.nsIn K mainGlobals "need_share" = some (some (.ref fNeedShare))) (lNeedShare : K.lookup fNeedShare = some ⟨ocNeedShare, odNeedShare, .func (PySem.W.fnOf "need_share" "need_share" (defArgs sNeedShare) (defBody sNeedShare) (defScope sNeedShare) .none kVNeedShare dcNeedShare pmNeedShare anNeedShare cdNeedShare ctNeedShare), slNeedShare⟩) (cNeedShare : PySem.W.codeIn K cdNeedShare "need_share" = true) (kNeedShare : PySem.W.keepIn K (.ref fNeedShare) = true)
    {odTotal anTotal : Option Addr} {slTotal : Array (Option Value)} {ocTotal kVTotal dcTotal pmTotal ctTotal : Value} {cdTotal : Value} (aTotal : PySem.W.nsIn K mainGlobals "total" = some (some (.ref fTotal))) (lTotal : K.lookup fTotal = some ⟨ocTotal, odTotal, .func (PySem.W.fnOf "total" "total" (defArgs sTotal) (defBody sTotal) (defScope sTotal) .none kVTotal dcTotal pmTotal anTotal cdTotal ctTotal), slTotal⟩) (cTotal : PySem.W.codeIn K cdTotal "total" = true) (kTotal : PySem.W.keepIn K (.ref fTotal) = true)
    {odMoment anMoment : Option Addr} {slMoment : Array (Option Value)} {ocMoment kVMoment dcMoment pmMoment ctMoment : Value} {cdMoment : Value} (aMoment : PySem.W.nsIn K mainGlobals "moment" = some (some (.ref fMoment))) (lMoment : K.lookup fMoment = some ⟨ocMoment, odMoment, .func (PySem.W.fnOf "moment" "moment" (defArgs sMoment) (defBody sMoment) (defScope sMoment) .none kVMoment dcMoment pmMoment anMoment cdMoment ctMoment), slMoment⟩) (cMoment : PySem.W.codeIn K cdMoment "moment" = true) (kMoment : PySem.W.keepIn K (.ref fMoment) = true)
    {odRestAbove anRestAbove : Option Addr} {slRestAbove : Array (Option Value)} {ocRestAbove kVRestAbove dcRestAbove pmRestAbove ctRestAbove : Value} {cdRestAbove : Value} (aRestAbove : PySem.W.nsIn K mainGlobals "rest_above" = some (some (.ref fRestAbove))) (lRestAbove : K.lookup fRestAbove = some ⟨ocRestAbove, odRestAbove, .func (PySem.W.fnOf "rest_above" "rest_above" (defArgs sRestAbove) (defBody sRestAbove) (defScope sRestAbove) .none kVRestAbove dcRestAbove pmRestAbove anRestAbove cdRestAbove ctRestAbove), slRestAbove⟩) (cRestAbove : PySem.W.codeIn K cdRestAbove "rest_above" = true) (kRestAbove : PySem.W.keepIn K (.ref fRestAbove) = true)
    {odPutTogether anPutTogether : Option Addr} {slPutTogether : Array (Option Value)} {ocPutTogether kVPutTogether dcPutTogether pmPutTogether ctPutTogether : Value} {cdPutTogether : Value} (aPutTogether : PySem.W.nsIn K mainGlobals "put_together" = some (some (.ref fPutTogether))) (lPutTogether : K.lookup fPutTogether = some ⟨ocPutTogether, odPutTogether, .func (PySem.W.fnOf "put_together" "put_together" (defArgs sPutTogether) (defBody sPutTogether) (defScope sPutTogether) .none kVPutTogether dcPutTogether pmPutTogether anPutTogether cdPutTogether ctPutTogether), slPutTogether⟩) (cPutTogether : PySem.W.codeIn K cdPutTogether "put_together" = true) (kPutTogether : PySem.W.keepIn K (.ref fPutTogether) = true)
    {odTakenFrom anTakenFrom : Option Addr} {slTakenFrom : Array (Option Value)} {ocTakenFrom kVTakenFrom dcTakenFrom pmTakenFrom ctTakenFrom : Value} {cdTakenFrom : Value} (aTakenFrom : PySem.W.nsIn K mainGlobals "taken_from" = some (some (.ref fTakenFrom))) (lTakenFrom : K.lookup fTakenFrom = some ⟨ocTakenFrom, odTakenFrom, .func (PySem.W.fnOf "taken_from" "taken_from" (defArgs sTakenFrom) (defBody sTakenFrom) (defScope sTakenFrom) .none kVTakenFrom dcTakenFrom pmTakenFrom anTakenFrom cdTakenFrom ctTakenFrom), slTakenFrom⟩) (cTakenFrom : PySem.W.codeIn K cdTakenFrom "taken_from" = true) (kTakenFrom : PySem.W.keepIn K (.ref fTakenFrom) = true)
    {odMixed anMixed : Option Addr} {slMixed : Array (Option Value)} {ocMixed kVMixed dcMixed pmMixed ctMixed : Value} {cdMixed : Value} (aMixed : PySem.W.nsIn K mainGlobals "_law_mixed" = some (some (.ref fMixed))) (lMixed : K.lookup fMixed = some ⟨ocMixed, odMixed, .func (PySem.W.fnOf "_law_mixed" "_law_mixed" (defArgs sMixed) (defBody sMixed) (defScope sMixed) .none kVMixed dcMixed pmMixed anMixed cdMixed ctMixed), slMixed⟩) (cMixed : PySem.W.codeIn K cdMixed "_law_mixed" = true) (kMixed : PySem.W.keepIn K (.ref fMixed) = true)
    {odBegin anBegin : Option Addr} {slBegin : Array (Option Value)} {ocBegin kVBegin dcBegin pmBegin ctBegin : Value} {cdBegin : Value} (aBegin : PySem.W.nsIn K mainGlobals "_law_begin" = some (some (.ref fBegin))) (lBegin : K.lookup fBegin = some ⟨ocBegin, odBegin, .func (PySem.W.fnOf "_law_begin" "_law_begin" (defArgs sBegin) (defBody sBegin) (defScope sBegin) .none kVBegin dcBegin pmBegin anBegin cdBegin ctBegin), slBegin⟩) (cBegin : PySem.W.codeIn K cdBegin "_law_begin" = true) (kBegin : PySem.W.keepIn K (.ref fBegin) = true)
    {odDraw anDraw : Option Addr} {slDraw : Array (Option Value)} {ocDraw kVDraw dcDraw pmDraw ctDraw : Value} {cdDraw : Value} (aDraw : PySem.W.nsIn K mainGlobals "_law_draw" = some (some (.ref fDraw))) (lDraw : K.lookup fDraw = some ⟨ocDraw, odDraw, .func (PySem.W.fnOf "_law_draw" "_law_draw" (defArgs sDraw) (defBody sDraw) (defScope sDraw) .none kVDraw dcDraw pmDraw anDraw cdDraw ctDraw), slDraw⟩) (cDraw : PySem.W.codeIn K cdDraw "_law_draw" = true) (kDraw : PySem.W.keepIn K (.ref fDraw) = true)
    {odLawRatio anLawRatio : Option Addr} {slLawRatio : Array (Option Value)} {ocLawRatio kVLawRatio dcLawRatio pmLawRatio ctLawRatio : Value} {cdLawRatio : Value} (aLawRatio : PySem.W.nsIn K mainGlobals "_law_ratio" = some (some (.ref fLawRatio))) (lLawRatio : K.lookup fLawRatio = some ⟨ocLawRatio, odLawRatio, .func (PySem.W.fnOf "_law_ratio" "_law_ratio" (defArgs sLawRatio) (defBody sLawRatio) (defScope sLawRatio) .none kVLawRatio dcLawRatio pmLawRatio anLawRatio cdLawRatio ctLawRatio), slLawRatio⟩) (cLawRatio : PySem.W.codeIn K cdLawRatio "_law_ratio" = true) (kLawRatio : PySem.W.keepIn K (.ref fLawRatio) = true)
    {odLawPlus anLawPlus : Option Addr} {slLawPlus : Array (Option Value)} {ocLawPlus kVLawPlus dcLawPlus pmLawPlus ctLawPlus : Value} {cdLawPlus : Value} (aLawPlus : PySem.W.nsIn K mainGlobals "_law_plus" = some (some (.ref fLawPlus))) (lLawPlus : K.lookup fLawPlus = some ⟨ocLawPlus, odLawPlus, .func (PySem.W.fnOf "_law_plus" "_law_plus" (defArgs sLawPlus) (defBody sLawPlus) (defScope sLawPlus) .none kVLawPlus dcLawPlus pmLawPlus anLawPlus cdLawPlus ctLawPlus), slLawPlus⟩) (cLawPlus : PySem.W.codeIn K cdLawPlus "_law_plus" = true) (kLawPlus : PySem.W.keepIn K (.ref fLawPlus) = true)
    {odLawLess anLawLess : Option Addr} {slLawLess : Array (Option Value)} {ocLawLess kVLawLess dcLawLess pmLawLess ctLawLess : Value} {cdLawLess : Value} (aLawLess : PySem.W.nsIn K mainGlobals "_law_less" = some (some (.ref fLawLess))) (lLawLess : K.lookup fLawLess = some ⟨ocLawLess, odLawLess, .func (PySem.W.fnOf "_law_less" "_law_less" (defArgs sLawLess) (defBody sLawLess) (defScope sLawLess) .none kVLawLess dcLawLess pmLawLess anLawLess cdLawLess ctLawLess), slLawLess⟩) (cLawLess : PySem.W.codeIn K cdLawLess "_law_less" = true) (kLawLess : PySem.W.keepIn K (.ref fLawLess) = true)
    {odLawTimes anLawTimes : Option Addr} {slLawTimes : Array (Option Value)} {ocLawTimes kVLawTimes dcLawTimes pmLawTimes ctLawTimes : Value} {cdLawTimes : Value} (aLawTimes : PySem.W.nsIn K mainGlobals "_law_times" = some (some (.ref fLawTimes))) (lLawTimes : K.lookup fLawTimes = some ⟨ocLawTimes, odLawTimes, .func (PySem.W.fnOf "_law_times" "_law_times" (defArgs sLawTimes) (defBody sLawTimes) (defScope sLawTimes) .none kVLawTimes dcLawTimes pmLawTimes anLawTimes cdLawTimes ctLawTimes), slLawTimes⟩) (cLawTimes : PySem.W.codeIn K cdLawTimes "_law_times" = true) (kLawTimes : PySem.W.keepIn K (.ref fLawTimes) = true)
    {odLawUnder anLawUnder : Option Addr} {slLawUnder : Array (Option Value)} {ocLawUnder kVLawUnder dcLawUnder pmLawUnder ctLawUnder : Value} {cdLawUnder : Value} (aLawUnder : PySem.W.nsIn K mainGlobals "_law_under" = some (some (.ref fLawUnder))) (lLawUnder : K.lookup fLawUnder = some ⟨ocLawUnder, odLawUnder, .func (PySem.W.fnOf "_law_under" "_law_under" (defArgs sLawUnder) (defBody sLawUnder) (defScope sLawUnder) .none kVLawUnder dcLawUnder pmLawUnder anLawUnder cdLawUnder ctLawUnder), slLawUnder⟩) (cLawUnder : PySem.W.codeIn K cdLawUnder "_law_under" = true) (kLawUnder : PySem.W.keepIn K (.ref fLawUnder) = true)
    {odLawSum anLawSum : Option Addr} {slLawSum : Array (Option Value)} {ocLawSum kVLawSum dcLawSum pmLawSum ctLawSum : Value} {cdLawSum : Value} (aLawSum : PySem.W.nsIn K mainGlobals "_law_sum" = some (some (.ref fLawSum))) (lLawSum : K.lookup fLawSum = some ⟨ocLawSum, odLawSum, .func (PySem.W.fnOf "_law_sum" "_law_sum" (defArgs sLawSum) (defBody sLawSum) (defScope sLawSum) .none kVLawSum dcLawSum pmLawSum anLawSum cdLawSum ctLawSum), slLawSum⟩) (cLawSum : PySem.W.codeIn K cdLawSum "_law_sum" = true) (kLawSum : PySem.W.keepIn K (.ref fLawSum) = true)
    {odLawTotal anLawTotal : Option Addr} {slLawTotal : Array (Option Value)} {ocLawTotal kVLawTotal dcLawTotal pmLawTotal ctLawTotal : Value} {cdLawTotal : Value} (aLawTotal : PySem.W.nsIn K mainGlobals "_law_total" = some (some (.ref fLawTotal))) (lLawTotal : K.lookup fLawTotal = some ⟨ocLawTotal, odLawTotal, .func (PySem.W.fnOf "_law_total" "_law_total" (defArgs sLawTotal) (defBody sLawTotal) (defScope sLawTotal) .none kVLawTotal dcLawTotal pmLawTotal anLawTotal cdLawTotal ctLawTotal), slLawTotal⟩) (cLawTotal : PySem.W.codeIn K cdLawTotal "_law_total" = true) (kLawTotal : PySem.W.keepIn K (.ref fLawTotal) = true)
    {odLawMoment anLawMoment : Option Addr} {slLawMoment : Array (Option Value)} {ocLawMoment kVLawMoment dcLawMoment pmLawMoment ctLawMoment : Value} {cdLawMoment : Value} (aLawMoment : PySem.W.nsIn K mainGlobals "_law_moment" = some (some (.ref fLawMoment))) (lLawMoment : K.lookup fLawMoment = some ⟨ocLawMoment, odLawMoment, .func (PySem.W.fnOf "_law_moment" "_law_moment" (defArgs sLawMoment) (defBody sLawMoment) (defScope sLawMoment) .none kVLawMoment dcLawMoment pmLawMoment anLawMoment cdLawMoment ctLawMoment), slLawMoment⟩) (cLawMoment : PySem.W.codeIn K cdLawMoment "_law_moment" = true) (kLawMoment : PySem.W.keepIn K (.ref fLawMoment) = true)
    {odLawRest anLawRest : Option Addr} {slLawRest : Array (Option Value)} {ocLawRest kVLawRest dcLawRest pmLawRest ctLawRest : Value} {cdLawRest : Value} (aLawRest : PySem.W.nsIn K mainGlobals "_law_rest" = some (some (.ref fLawRest))) (lLawRest : K.lookup fLawRest = some ⟨ocLawRest, odLawRest, .func (PySem.W.fnOf "_law_rest" "_law_rest" (defArgs sLawRest) (defBody sLawRest) (defScope sLawRest) .none kVLawRest dcLawRest pmLawRest anLawRest cdLawRest ctLawRest), slLawRest⟩) (cLawRest : PySem.W.codeIn K cdLawRest "_law_rest" = true) (kLawRest : PySem.W.keepIn K (.ref fLawRest) = true)
    {odLawShareOf anLawShareOf : Option Addr} {slLawShareOf : Array (Option Value)} {ocLawShareOf kVLawShareOf dcLawShareOf pmLawShareOf ctLawShareOf : Value} {cdLawShareOf : Value} (aLawShareOf : PySem.W.nsIn K mainGlobals "_law_share_of" = some (some (.ref fLawShareOf))) (lLawShareOf : K.lookup fLawShareOf = some ⟨ocLawShareOf, odLawShareOf, .func (PySem.W.fnOf "_law_share_of" "_law_share_of" (defArgs sLawShareOf) (defBody sLawShareOf) (defScope sLawShareOf) .none kVLawShareOf dcLawShareOf pmLawShareOf anLawShareOf cdLawShareOf ctLawShareOf), slLawShareOf⟩) (cLawShareOf : PySem.W.codeIn K cdLawShareOf "_law_share_of" = true) (kLawShareOf : PySem.W.keepIn K (.ref fLawShareOf) = true)
    {odLawTaken anLawTaken : Option Addr} {slLawTaken : Array (Option Value)} {ocLawTaken kVLawTaken dcLawTaken pmLawTaken ctLawTaken : Value} {cdLawTaken : Value} (aLawTaken : PySem.W.nsIn K mainGlobals "_law_taken" = some (some (.ref fLawTaken))) (lLawTaken : K.lookup fLawTaken = some ⟨ocLawTaken, odLawTaken, .func (PySem.W.fnOf "_law_taken" "_law_taken" (defArgs sLawTaken) (defBody sLawTaken) (defScope sLawTaken) .none kVLawTaken dcLawTaken pmLawTaken anLawTaken cdLawTaken ctLawTaken), slLawTaken⟩) (cLawTaken : PySem.W.codeIn K cdLawTaken "_law_taken" = true) (kLawTaken : PySem.W.keepIn K (.ref fLawTaken) = true)
    {odLawHeft anLawHeft : Option Addr} {slLawHeft : Array (Option Value)} {ocLawHeft kVLawHeft dcLawHeft pmLawHeft ctLawHeft : Value} {cdLawHeft : Value} (aLawHeft : PySem.W.nsIn K mainGlobals "_law_heft" = some (some (.ref fLawHeft))) (lLawHeft : K.lookup fLawHeft = some ⟨ocLawHeft, odLawHeft, .func (PySem.W.fnOf "_law_heft" "_law_heft" (defArgs sLawHeft) (defBody sLawHeft) (defScope sLawHeft) .none kVLawHeft dcLawHeft pmLawHeft anLawHeft cdLawHeft ctLawHeft), slLawHeft⟩) (cLawHeft : PySem.W.codeIn K cdLawHeft "_law_heft" = true) (kLawHeft : PySem.W.keepIn K (.ref fLawHeft) = true)
    {odLawMarks anLawMarks : Option Addr} {slLawMarks : Array (Option Value)} {ocLawMarks kVLawMarks dcLawMarks pmLawMarks ctLawMarks : Value} {cdLawMarks : Value} (aLawMarks : PySem.W.nsIn K mainGlobals "_law_marks" = some (some (.ref fLawMarks))) (lLawMarks : K.lookup fLawMarks = some ⟨ocLawMarks, odLawMarks, .func (PySem.W.fnOf "_law_marks" "_law_marks" (defArgs sLawMarks) (defBody sLawMarks) (defScope sLawMarks) .none kVLawMarks dcLawMarks pmLawMarks anLawMarks cdLawMarks ctLawMarks), slLawMarks⟩) (cLawMarks : PySem.W.codeIn K cdLawMarks "_law_marks" = true) (kLawMarks : PySem.W.keepIn K (.ref fLawMarks) = true)
    {odLawShare anLawShare : Option Addr} {slLawShare : Array (Option Value)} {ocLawShare kVLawShare dcLawShare pmLawShare ctLawShare : Value} {cdLawShare : Value} (aLawShare : PySem.W.nsIn K mainGlobals "_law_share" = some (some (.ref fLawShare))) (lLawShare : K.lookup fLawShare = some ⟨ocLawShare, odLawShare, .func (PySem.W.fnOf "_law_share" "_law_share" (defArgs sLawShare) (defBody sLawShare) (defScope sLawShare) .none kVLawShare dcLawShare pmLawShare anLawShare cdLawShare ctLawShare), slLawShare⟩) (cLawShare : PySem.W.codeIn K cdLawShare "_law_share" = true) (kLawShare : PySem.W.keepIn K (.ref fLawShare) = true)
    {odLawHeard anLawHeard : Option Addr} {slLawHeard : Array (Option Value)} {ocLawHeard kVLawHeard dcLawHeard pmLawHeard ctLawHeard : Value} {cdLawHeard : Value} (aLawHeard : PySem.W.nsIn K mainGlobals "_law_heard" = some (some (.ref fLawHeard))) (lLawHeard : K.lookup fLawHeard = some ⟨ocLawHeard, odLawHeard, .func (PySem.W.fnOf "_law_heard" "_law_heard" (defArgs sLawHeard) (defBody sLawHeard) (defScope sLawHeard) .none kVLawHeard dcLawHeard pmLawHeard anLawHeard cdLawHeard ctLawHeard), slLawHeard⟩) (cLawHeard : PySem.W.codeIn K cdLawHeard "_law_heard" = true) (kLawHeard : PySem.W.keepIn K (.ref fLawHeard) = true)
    {odLawBoth anLawBoth : Option Addr} {slLawBoth : Array (Option Value)} {ocLawBoth kVLawBoth dcLawBoth pmLawBoth ctLawBoth : Value} {cdLawBoth : Value} (aLawBoth : PySem.W.nsIn K mainGlobals "_law_both" = some (some (.ref fLawBoth))) (lLawBoth : K.lookup fLawBoth = some ⟨ocLawBoth, odLawBoth, .func (PySem.W.fnOf "_law_both" "_law_both" (defArgs sLawBoth) (defBody sLawBoth) (defScope sLawBoth) .none kVLawBoth dcLawBoth pmLawBoth anLawBoth cdLawBoth ctLawBoth), slLawBoth⟩) (cLawBoth : PySem.W.codeIn K cdLawBoth "_law_both" = true) (kLawBoth : PySem.W.keepIn K (.ref fLawBoth) = true)
    {odLawTwoRight anLawTwoRight : Option Addr} {slLawTwoRight : Array (Option Value)} {ocLawTwoRight kVLawTwoRight dcLawTwoRight pmLawTwoRight ctLawTwoRight : Value} {c0LawTwoRight p0LawTwoRight : Addr} (aLawTwoRight : PySem.W.nsIn K mainGlobals "_law_two_right" = some (some (.ref fLawTwoRight))) (lLawTwoRight : K.lookup fLawTwoRight = some ⟨ocLawTwoRight, odLawTwoRight, .func (PySem.W.fnOf "_law_two_right" "_law_two_right" (defArgs sLawTwoRight) (defBody sLawTwoRight) (defScope sLawTwoRight) .none kVLawTwoRight dcLawTwoRight pmLawTwoRight anLawTwoRight (.ref c0LawTwoRight) ctLawTwoRight), slLawTwoRight⟩) (cLawTwoRight : PySem.W.codeIn K (.ref c0LawTwoRight) "_law_two_right" = true) (kLawTwoRight : PySem.W.keepIn K (.ref fLawTwoRight) = true)
    {odLaw anLaw : Option Addr} {slLaw : Array (Option Value)} {ocLaw kVLaw dcLaw pmLaw ctLaw : Value} {c0Law p0Law : Addr} (aLaw : PySem.W.nsIn K mainGlobals "law" = some (some (.ref fLaw))) (lLaw : K.lookup fLaw = some ⟨ocLaw, odLaw, .func (PySem.W.fnOf "law" "law" (defArgs sLaw) (defBody sLaw) (defScope sLaw) .none kVLaw dcLaw pmLaw anLaw (.ref c0Law) ctLaw), slLaw⟩) (cLaw : PySem.W.codeIn K (.ref c0Law) "law" = true) (kLaw : PySem.W.keepIn K (.ref fLaw) = true)
    {oqLawTwoRight : Option Addr} {sqLawTwoRight : Array (Option Value)} {vsLawTwoRight : Array Value} (tLawTwoRight : K.lookup c0LawTwoRight = some ⟨.type "code", oqLawTwoRight, .fields vsLawTwoRight, sqLawTwoRight⟩) (uLawTwoRight : vsLawTwoRight[11]? = some (.ref p0LawTwoRight)) (hLawTwoRight : PySem.W.codeHdIn K c0LawTwoRight p0LawTwoRight = true) (nLawTwoRight : K.lookup p0LawTwoRight = none) (mLawTwoRight : h.get? p0LawTwoRight = some { cls := .none, data := .fields #[] })
    {oqLaw : Option Addr} {sqLaw : Array (Option Value)} {vsLaw : Array Value} (tLaw : K.lookup c0Law = some ⟨.type "code", oqLaw, .fields vsLaw, sqLaw⟩) (uLaw : vsLaw[11]? = some (.ref p0Law)) (hLaw : PySem.W.codeHdIn K c0Law p0Law = true) (nLaw : K.lookup p0Law = none) (mLaw : h.get? p0Law = some { cls := .none, data := .fields #[] })
    (pne : p0LawTwoRight ≠ p0Law)
    (z_isinstance : PySem.W.nsIn K mainGlobals "isinstance" = some none) (z_int : PySem.W.nsIn K mainGlobals "int" = some none) (z_tuple : PySem.W.nsIn K mainGlobals "tuple" = some none) (z_len : PySem.W.nsIn K mainGlobals "len" = some none) (z_abs : PySem.W.nsIn K mainGlobals "abs" = some none) (z_range : PySem.W.nsIn K mainGlobals "range" = some none) (z_list : PySem.W.nsIn K mainGlobals "list" = some none) (z_sorted : PySem.W.nsIn K mainGlobals "sorted" = some none) (z_zip : PySem.W.nsIn K mainGlobals "zip" = some none) (z_all : PySem.W.nsIn K mainGlobals "all" = some none) (z_dict : PySem.W.nsIn K mainGlobals "dict" = some none) (z_gcd : PySem.W.nsIn K mainGlobals "gcd" = some (some (.builtin "math.gcd")))
    {odN : Option Addr} {slN : Array (Option Value)} {t1N t2N t8 : Tok} {nN : Nat} (aN : PySem.W.nsIn K mainGlobals "NOUGHT" = some (some (.ref fN))) (lN : K.lookup fN = some ⟨.type "tuple", odN, .seq #[.int 0 t1N, .int 1 t2N] nN, slN⟩) (a8 : PySem.W.nsIn K mainGlobals "MOST_PAIRS" = some (some (.int 8 t8)))
    {CB gB : Addr} {odB anB : Option Addr} {slB : Array (Option Value)} {ocB kVB dcB pmB cdB ctB : Value} (aB : PySem.W.nsIn K mainGlobals "BadShare" = some (some (.ref CB))) (iB : PySem.W.excInitIn K CB bmV "ValueError.__new__" = true) (oB : PySem.W.excOver K CB bmV = true) (sB : PySem.W.findIn K (.ref CB) "__setattr__" = some (some (.builtin "object.__setattr__"))) (tB : PySem.W.takerIn K CB "given" = some none)
    (xB : xfB K CB = true) (nB : PySem.W.findIn K (.ref CB) "given" = some none) (jB : PySem.W.findIn K (.ref CB) "__init__" = some (some (.ref gB))) (vB : PySem.W.typeIn K (.ref gB) = some (.type "function")) (qB : PySem.W.keepIn K (.ref CB) = true) (yB : PySem.W.typeIn K (.ref CB) = some (.type "type"))
    (lB : K.lookup gB = some ⟨ocB, odB, .func (PySem.W.fnOf "__init__" "BadShare.__init__" (defArgs (inClass sBadshare 0)) (defBody (inClass sBadshare 0)) (defScope (inClass sBadshare 0)) .none kVB dcB pmB anB cdB ctB), slB⟩) (cB : PySem.W.codeIn K cdB "BadShare.__init__" = true) (kB : PySem.W.keepIn K (.ref gB) = true)
    {CT gT : Addr} {odT anT : Option Addr} {slT : Array (Option Value)} {ocT kVT dcT pmT cdT ctT : Value} (aT : PySem.W.nsIn K mainGlobals "TooMany" = some (some (.ref CT))) (iT : PySem.W.excInitIn K CT bmO "OverflowError.__new__" = true) (oT : PySem.W.excOver K CT bmO = true) (sT : PySem.W.findIn K (.ref CT) "__setattr__" = some (some (.builtin "object.__setattr__"))) (tT : PySem.W.takerIn K CT "most" = some none)
    (xT : xfB K CT = true) (nT : PySem.W.findIn K (.ref CT) "most" = some none) (jT : PySem.W.findIn K (.ref CT) "__init__" = some (some (.ref gT))) (vT : PySem.W.typeIn K (.ref gT) = some (.type "function")) (qT : PySem.W.keepIn K (.ref CT) = true) (yT : PySem.W.typeIn K (.ref CT) = some (.type "type"))
    (lT : K.lookup gT = some ⟨ocT, odT, .func (PySem.W.fnOf "__init__" "TooMany.__init__" (defArgs (inClass sToomany 0)) (defBody (inClass sToomany 0)) (defScope (inClass sToomany 0)) .none kVT dcT pmT anT cdT ctT), slT⟩) (cT : PySem.W.codeIn K cdT "TooMany.__init__" = true) (kT : PySem.W.keepIn K (.ref gT) = true)
    (xBB : PySem.W.exmOne K (.ref CB) (.ref CB) = some true) (xTB : PySem.W.exmOne K (.ref CT) (.ref CB) = some false) (xTT : PySem.W.exmOne K (.ref CT) (.ref CT) = some true) :
    LawAtS l w K CX0 12 63 "script" mg fa h := by
  have e := hfa.symm.trans (PySem.W.mg_of X G aLaw)
  cases e
  have T : Bt mg := ⟨PySem.W.mg_of X G z_gcd, PySem.W.mg_none_of X G z_isinstance, PySem.W.mg_none_of X G z_int, PySem.W.mg_none_of X G z_tuple, PySem.W.mg_none_of X G z_len, PySem.W.mg_none_of X G z_abs, PySem.W.mg_none_of X G z_range, PySem.W.mg_none_of X G z_list, PySem.W.mg_none_of X G z_sorted, PySem.W.mg_none_of X G z_zip, PySem.W.mg_none_of X G z_all, PySem.W.mg_none_of X G z_dict⟩
  have gN := PySem.W.mg_of X G aN
  have g8 := PySem.W.mg_of X G a8
  have hN : ∀ H, FT K H fN (0, 1) := fun H => .inr ⟨_, _, _, lN, rfl, rfl, (by show 2 ≤ sizeLine; decide), .cons ⟨t1N, rfl⟩ (.cons ⟨t2N, rfl⟩ .nil)⟩
  have FLowered := fun_mk (st := sLowered) lLowered cLowered kLowered
  have DLowered : Df K mg "lowered" sLowered ["top", "bottom"] fLowered _ := ⟨FLowered, FLowered.binds (ps := ["top", "bottom"]) fun _ _ _ _ _ _ us hl => match us, hl with | [_, _], _ => rfl, PySem.W.mg_of X G aLowered⟩
  have FAdded := fun_mk (st := sAdded) lAdded cAdded kAdded
  have DAdded : Df K mg "added" sAdded ["one", "other"] fAdded _ := ⟨FAdded, FAdded.binds (ps := ["one", "other"]) fun _ _ _ _ _ _ us hl => match us, hl with | [_, _], _ => rfl, PySem.W.mg_of X G aAdded⟩
  have FScaled := fun_mk (st := sScaled) lScaled cScaled kScaled
  have DScaled : Df K mg "scaled" sScaled ["fraction", "by"] fScaled _ := ⟨FScaled, FScaled.binds (ps := ["fraction", "by"]) fun _ _ _ _ _ _ us hl => match us, hl with | [_, _], _ => rfl, PySem.W.mg_of X G aScaled⟩
  have FSumOf := fun_mk (st := sSumOf) lSumOf cSumOf kSumOf
  have DSumOf : Df K mg "sum_of" sSumOf ["fractions"] fSumOf _ := ⟨FSumOf, FSumOf.binds (ps := ["fractions"]) fun _ _ _ _ _ _ us hl => match us, hl with | [_], _ => rfl, PySem.W.mg_of X G aSumOf⟩
  have FGathered := fun_mk (st := sGathered) lGathered cGathered kGathered
  have DGathered : Df K mg "gathered" sGathered ["pairs"] fGathered _ := ⟨FGathered, FGathered.binds (ps := ["pairs"]) fun _ _ _ _ _ _ us hl => match us, hl with | [_], _ => rfl, PySem.W.mg_of X G aGathered⟩
  have FTotalOf := fun_mk (st := sTotalOf) lTotalOf cTotalOf kTotalOf
  have DTotalOf : Df K mg "total_of" sTotalOf ["share"] fTotalOf _ := ⟨FTotalOf, FTotalOf.binds (ps := ["share"]) fun _ _ _ _ _ _ us hl => match us, hl with | [_], _ => rfl, PySem.W.mg_of X G aTotalOf⟩
  have FMomentOf := fun_mk (st := sMomentOf) lMomentOf cMomentOf kMomentOf
  have DMomentOf : Df K mg "moment_of" sMomentOf ["share"] fMomentOf _ := ⟨FMomentOf, FMomentOf.binds (ps := ["share"]) fun _ _ _ _ _ _ us hl => match us, hl with | [_], _ => rfl, PySem.W.mg_of X G aMomentOf⟩
  have FRestOf := fun_mk (st := sRestOf) lRestOf cRestOf kRestOf
  have DRestOf : Df K mg "rest_of" sRestOf ["share", "mark"] fRestOf _ := ⟨FRestOf, FRestOf.binds (ps := ["share", "mark"]) fun _ _ _ _ _ _ us hl => match us, hl with | [_, _], _ => rfl, PySem.W.mg_of X G aRestOf⟩
  have FIsWhole := fun_mk (st := sIsWhole) lIsWhole cIsWhole kIsWhole
  have DIsWhole : Df K mg "is_whole" sIsWhole ["thing"] fIsWhole _ := ⟨FIsWhole, FIsWhole.binds (ps := ["thing"]) fun _ _ _ _ _ _ us hl => match us, hl with | [_], _ => rfl, PySem.W.mg_of X G aIsWhole⟩
  have FIsRow := fun_mk (st := sIsRow) lIsRow cIsRow kIsRow
  have DIsRow : Df K mg "is_row" sIsRow ["thing"] fIsRow _ := ⟨FIsRow, FIsRow.binds (ps := ["thing"]) fun _ _ _ _ _ _ us hl => match us, hl with | [_], _ => rfl, PySem.W.mg_of X G aIsRow⟩
  have FIsRowOf := fun_mk (st := sIsRowOf) lIsRowOf cIsRowOf kIsRowOf
  have DIsRowOf : Df K mg "is_row_of" sIsRowOf ["thing", "many"] fIsRowOf _ := ⟨FIsRowOf, FIsRowOf.binds (ps := ["thing", "many"]) fun _ _ _ _ _ _ us hl => match us, hl with | [_, _], _ => rfl, PySem.W.mg_of X G aIsRowOf⟩
  have FIsWholeWithin := fun_mk (st := sIsWholeWithin) lIsWholeWithin cIsWholeWithin kIsWholeWithin
  have DIsWholeWithin : Df K mg "is_whole_within" sIsWholeWithin ["thing", "least", "most"] fIsWholeWithin _ := ⟨FIsWholeWithin, FIsWholeWithin.binds (ps := ["thing", "least", "most"]) fun _ _ _ _ _ _ us hl => match us, hl with | [_, _, _], _ => rfl, PySem.W.mg_of X G aIsWholeWithin⟩
  have FIsNumber := fun_mk (st := sIsNumber) lIsNumber cIsNumber kIsNumber
  have DIsNumber : Df K mg "is_number" sIsNumber ["thing"] fIsNumber _ := ⟨FIsNumber, FIsNumber.binds (ps := ["thing"]) fun _ _ _ _ _ _ us hl => match us, hl with | [_], _ => rfl, PySem.W.mg_of X G aIsNumber⟩
  have FIsFraction := fun_mk (st := sIsFraction) lIsFraction cIsFraction kIsFraction
  have DIsFraction : Df K mg "is_fraction" sIsFraction ["thing"] fIsFraction _ := ⟨FIsFraction, FIsFraction.binds (ps := ["thing"]) fun _ _ _ _ _ _ us hl => match us, hl with | [_], _ => rfl, PySem.W.mg_of X G aIsFraction⟩
  have FIsWeight := fun_mk (st := sIsWeight) lIsWeight cIsWeight kIsWeight
  have DIsWeight : Df K mg "is_weight" sIsWeight ["thing"] fIsWeight _ := ⟨FIsWeight, FIsWeight.binds (ps := ["thing"]) fun _ _ _ _ _ _ us hl => match us, hl with | [_], _ => rfl, PySem.W.mg_of X G aIsWeight⟩
  have FAscends := fun_mk (st := sAscends) lAscends cAscends kAscends
  have DAscends : Df K mg "ascends" sAscends ["things"] fAscends _ := ⟨FAscends, FAscends.binds (ps := ["things"]) fun _ _ _ _ _ _ us hl => match us, hl with | [_], _ => rfl, PySem.W.mg_of X G aAscends⟩
  have FIsSharePair := fun_mk (st := sIsSharePair) lIsSharePair cIsSharePair kIsSharePair
  have DIsSharePair : Df K mg "is_share_pair" sIsSharePair ["thing"] fIsSharePair _ := ⟨FIsSharePair, FIsSharePair.binds (ps := ["thing"]) fun _ _ _ _ _ _ us hl => match us, hl with | [_], _ => rfl, PySem.W.mg_of X G aIsSharePair⟩
  have FIsShare := fun_mk (st := sIsShare) lIsShare cIsShare kIsShare
  have DIsShare : Df K mg "is_share" sIsShare ["thing"] fIsShare _ := ⟨FIsShare, FIsShare.binds (ps := ["thing"]) fun _ _ _ _ _ _ us hl => match us, hl with | [_], _ => rfl, PySem.W.mg_of X G aIsShare⟩
  have FNeedNumber := fun_mk (st := sNeedNumber) lNeedNumber cNeedNumber kNeedNumber
  have DNeedNumber : Df K mg "need_number" sNeedNumber ["thing"] fNeedNumber _ := ⟨FNeedNumber, FNeedNumber.binds (ps := ["thing"]) fun _ _ _ _ _ _ us hl => match us, hl with | [_], _ => rfl, PySem.W.mg_of X G aNeedNumber⟩
  have FNeedShare := fun_mk (st := sNeedShare) lNeedShare cNeedShare kNeedShare
  have DNeedShare : Df K mg "need_share" sNeedShare ["thing"] fNeedShare _ := ⟨FNeedShare, FNeedShare.binds (ps := ["thing"]) fun _ _ _ _ _ _ us hl => match us, hl with | [_], _ => rfl, PySem.W.mg_of X G aNeedShare⟩
  have FTotal := fun_mk (st := sTotal) lTotal cTotal kTotal
  have DTotal : Df K mg "total" sTotal ["share"] fTotal _ := ⟨FTotal, FTotal.binds (ps := ["share"]) fun _ _ _ _ _ _ us hl => match us, hl with | [_], _ => rfl, PySem.W.mg_of X G aTotal⟩
  have FMoment := fun_mk (st := sMoment) lMoment cMoment kMoment
  have DMoment : Df K mg "moment" sMoment ["share"] fMoment _ := ⟨FMoment, FMoment.binds (ps := ["share"]) fun _ _ _ _ _ _ us hl => match us, hl with | [_], _ => rfl, PySem.W.mg_of X G aMoment⟩
  have FRestAbove := fun_mk (st := sRestAbove) lRestAbove cRestAbove kRestAbove
  have DRestAbove : Df K mg "rest_above" sRestAbove ["share", "number"] fRestAbove _ := ⟨FRestAbove, FRestAbove.binds (ps := ["share", "number"]) fun _ _ _ _ _ _ us hl => match us, hl with | [_, _], _ => rfl, PySem.W.mg_of X G aRestAbove⟩
  have FPutTogether := fun_mk (st := sPutTogether) lPutTogether cPutTogether kPutTogether
  have DPutTogether : Df K mg "put_together" sPutTogether ["one", "other"] fPutTogether _ := ⟨FPutTogether, FPutTogether.binds (ps := ["one", "other"]) fun _ _ _ _ _ _ us hl => match us, hl with | [_, _], _ => rfl, PySem.W.mg_of X G aPutTogether⟩
  have FTakenFrom := fun_mk (st := sTakenFrom) lTakenFrom cTakenFrom kTakenFrom
  have DTakenFrom : Df K mg "taken_from" sTakenFrom ["one", "other"] fTakenFrom _ := ⟨FTakenFrom, FTakenFrom.binds (ps := ["one", "other"]) fun _ _ _ _ _ _ us hl => match us, hl with | [_, _], _ => rfl, PySem.W.mg_of X G aTakenFrom⟩
  have FMixed := fun_mk (st := sMixed) lMixed cMixed kMixed
  have DMixed : Df K mg "_law_mixed" sMixed ["cell", "k"] fMixed _ := ⟨FMixed, FMixed.binds (ps := ["cell", "k"]) fun _ _ _ _ _ _ us hl => match us, hl with | [_, _], _ => rfl, PySem.W.mg_of X G aMixed⟩
  have FBegin := fun_mk (st := sBegin) lBegin cBegin kBegin
  have DBegin : Df K mg "_law_begin" sBegin ["script"] fBegin _ := ⟨FBegin, FBegin.binds (ps := ["script"]) fun _ _ _ _ _ _ us hl => match us, hl with | [_], _ => rfl, PySem.W.mg_of X G aBegin⟩
  have FDraw := fun_mk (st := sDraw) lDraw cDraw kDraw
  have DDraw : Df K mg "_law_draw" sDraw ["state", "many"] fDraw _ := ⟨FDraw, FDraw.binds (ps := ["state", "many"]) fun _ _ _ _ _ _ us hl => match us, hl with | [_, _], _ => rfl, PySem.W.mg_of X G aDraw⟩
  have FLawRatio := fun_mk (st := sLawRatio) lLawRatio cLawRatio kLawRatio
  have DLawRatio : Df K mg "_law_ratio" sLawRatio ["top", "bottom"] fLawRatio _ := ⟨FLawRatio, FLawRatio.binds (ps := ["top", "bottom"]) fun _ _ _ _ _ _ us hl => match us, hl with | [_, _], _ => rfl, PySem.W.mg_of X G aLawRatio⟩
  have FLawPlus := fun_mk (st := sLawPlus) lLawPlus cLawPlus kLawPlus
  have DLawPlus : Df K mg "_law_plus" sLawPlus ["one", "other"] fLawPlus _ := ⟨FLawPlus, FLawPlus.binds (ps := ["one", "other"]) fun _ _ _ _ _ _ us hl => match us, hl with | [_, _], _ => rfl, PySem.W.mg_of X G aLawPlus⟩
  have FLawLess := fun_mk (st := sLawLess) lLawLess cLawLess kLawLess
  have DLawLess : Df K mg "_law_less" sLawLess ["one", "other"] fLawLess _ := ⟨FLawLess, FLawLess.binds (ps := ["one", "other"]) fun _ _ _ _ _ _ us hl => match us, hl with | [_, _], _ => rfl, PySem.W.mg_of X G aLawLess⟩
  have FLawTimes := fun_mk (st := sLawTimes) lLawTimes cLawTimes kLawTimes
  have DLawTimes : Df K mg "_law_times" sLawTimes ["one", "other"] fLawTimes _ := ⟨FLawTimes, FLawTimes.binds (ps := ["one", "other"]) fun _ _ _ _ _ _ us hl => match us, hl with | [_, _], _ => rfl, PySem.W.mg_of X G aLawTimes⟩
  have FLawUnder := fun_mk (st := sLawUnder) lLawUnder cLawUnder kLawUnder
  have DLawUnder : Df K mg "_law_under" sLawUnder ["one", "other"] fLawUnder _ := ⟨FLawUnder, FLawUnder.binds (ps := ["one", "other"]) fun _ _ _ _ _ _ us hl => match us, hl with | [_, _], _ => rfl, PySem.W.mg_of X G aLawUnder⟩
  have FLawSum := fun_mk (st := sLawSum) lLawSum cLawSum kLawSum
  have DLawSum : Df K mg "_law_sum" sLawSum ["some"] fLawSum _ := ⟨FLawSum, FLawSum.binds (ps := ["some"]) fun _ _ _ _ _ _ us hl => match us, hl with | [_], _ => rfl, PySem.W.mg_of X G aLawSum⟩
  have FLawTotal := fun_mk (st := sLawTotal) lLawTotal cLawTotal kLawTotal
  have DLawTotal : Df K mg "_law_total" sLawTotal ["share_so"] fLawTotal _ := ⟨FLawTotal, FLawTotal.binds (ps := ["share_so"]) fun _ _ _ _ _ _ us hl => match us, hl with | [_], _ => rfl, PySem.W.mg_of X G aLawTotal⟩
  have FLawMoment := fun_mk (st := sLawMoment) lLawMoment cLawMoment kLawMoment
  have DLawMoment : Df K mg "_law_moment" sLawMoment ["share_so"] fLawMoment _ := ⟨FLawMoment, FLawMoment.binds (ps := ["share_so"]) fun _ _ _ _ _ _ us hl => match us, hl with | [_], _ => rfl, PySem.W.mg_of X G aLawMoment⟩
  have FLawRest := fun_mk (st := sLawRest) lLawRest cLawRest kLawRest
  have DLawRest : Df K mg "_law_rest" sLawRest ["share_so", "at"] fLawRest _ := ⟨FLawRest, FLawRest.binds (ps := ["share_so", "at"]) fun _ _ _ _ _ _ us hl => match us, hl with | [_, _], _ => rfl, PySem.W.mg_of X G aLawRest⟩
  have FLawShareOf := fun_mk (st := sLawShareOf) lLawShareOf cLawShareOf kLawShareOf
  have DLawShareOf : Df K mg "_law_share_of" sLawShareOf ["hefts"] fLawShareOf _ := ⟨FLawShareOf, FLawShareOf.binds (ps := ["hefts"]) fun _ _ _ _ _ _ us hl => match us, hl with | [_], _ => rfl, PySem.W.mg_of X G aLawShareOf⟩
  have FLawTaken := fun_mk (st := sLawTaken) lLawTaken cLawTaken kLawTaken
  have DLawTaken : Df K mg "_law_taken" sLawTaken ["share_so", "part"] fLawTaken _ := ⟨FLawTaken, FLawTaken.binds (ps := ["share_so", "part"]) fun _ _ _ _ _ _ us hl => match us, hl with | [_, _], _ => rfl, PySem.W.mg_of X G aLawTaken⟩
  have FLawHeft := fun_mk (st := sLawHeft) lLawHeft cLawHeft kLawHeft
  have DLawHeft : Df K mg "_law_heft" sLawHeft ["state"] fLawHeft _ := ⟨FLawHeft, FLawHeft.binds (ps := ["state"]) fun _ _ _ _ _ _ us hl => match us, hl with | [_], _ => rfl, PySem.W.mg_of X G aLawHeft⟩
  have FLawMarks := fun_mk (st := sLawMarks) lLawMarks cLawMarks kLawMarks
  have DLawMarks : Df K mg "_law_marks" sLawMarks ["state", "many", "most"] fLawMarks _ := ⟨FLawMarks, FLawMarks.binds (ps := ["state", "many", "most"]) fun _ _ _ _ _ _ us hl => match us, hl with | [_, _, _], _ => rfl, PySem.W.mg_of X G aLawMarks⟩
  have FLawShare := fun_mk (st := sLawShare) lLawShare cLawShare kLawShare
  have DLawShare : Df K mg "_law_share" sLawShare ["state", "many"] fLawShare _ := ⟨FLawShare, FLawShare.binds (ps := ["state", "many"]) fun _ _ _ _ _ _ us hl => match us, hl with | [_, _], _ => rfl, PySem.W.mg_of X G aLawShare⟩
  have FLawHeard := fun_mk (st := sLawHeard) lLawHeard cLawHeard kLawHeard
  have DLawHeard : Df K mg "_law_heard" sLawHeard ["deed"] fLawHeard _ := ⟨FLawHeard, FLawHeard.binds (ps := ["deed"]) fun _ _ _ _ _ _ us hl => match us, hl with | [_], _ => rfl, PySem.W.mg_of X G aLawHeard⟩
  have FLawBoth := fun_mk (st := sLawBoth) lLawBoth cLawBoth kLawBoth
  have DLawBoth : Df K mg "_law_both" sLawBoth ["one", "other"] fLawBoth _ := ⟨FLawBoth, FLawBoth.binds (ps := ["one", "other"]) fun _ _ _ _ _ _ us hl => match us, hl with | [_, _], _ => rfl, PySem.W.mg_of X G aLawBoth⟩
  have ELawTwoRight : FunC K "_law_two_right" "_law_two_right" sLawTwoRight fLawTwoRight _ c0LawTwoRight := ⟨⟨_, _, _, _, _, _, _, _, rfl, lLawTwoRight, cLawTwoRight⟩, kLawTwoRight⟩
  have FLawTwoRight := ELawTwoRight.fun_
  have DLawTwoRight : Df K mg "_law_two_right" sLawTwoRight ["state", "one", "other"] fLawTwoRight _ := ⟨FLawTwoRight, FLawTwoRight.binds (ps := ["state", "one", "other"]) fun _ _ _ _ _ _ us hl => match us, hl with | [_, _, _], _ => rfl, PySem.W.mg_of X G aLawTwoRight⟩
  have FB := fun_mk (st := inClass sBadshare 0) lB cB kB
  have ZB : Xc K mg "BadShare" "given" CB gB bmV "ValueError.__new__" (inClass sBadshare 0) "BadShare.__init__" _ := ⟨⟨PySem.W.mg_of X G aB, iB, oB, sB, tB, xfB_ok xB, nB, jB, vB, qB, yB⟩, FB, FB.binds (ps := ["self", "given"]) fun _ _ _ _ _ _ us hl => match us, hl with | [_, _], _ => rfl⟩
  have FT := fun_mk (st := inClass sToomany 0) lT cT kT
  have ZT : Xc K mg "TooMany" "most" CT gT bmO "OverflowError.__new__" (inClass sToomany 0) "TooMany.__init__" _ := ⟨⟨PySem.W.mg_of X G aT, iT, oT, sT, tT, xfB_ok xT, nT, jT, vT, qT, yT⟩, FT, FT.binds (ps := ["self", "most"]) fun _ _ _ _ _ _ us hl => match us, hl with | [_, _], _ => rfl⟩
  have ELaw : FunC K "law" "law" sLaw _ _ c0Law := ⟨⟨_, _, _, _, _, _, _, _, rfl, lLaw, cLaw⟩, kLaw⟩
  refine ⟨PySem.W.fnOf "law" "law" (defArgs sLaw) (defBody sLaw) (defScope sLaw) .none kVLaw dcLaw pmLaw anLaw (.ref c0Law) ctLaw, [(c0LawTwoRight, p0LawTwoRight), (c0Law, p0Law)], spLawK K [(p0LawTwoRight, qTR), (p0Law, qLW)], ?_, ?_, ?_, fun s v => ?_, ?_, fun base _ _ TB => ?_⟩
  · exact List.forall_mem_cons.mpr ⟨mLawTwoRight, List.forall_mem_cons.mpr ⟨mLaw, fun _ z => nomatch z⟩⟩
  · exact List.forall_mem_cons.mpr ⟨nLawTwoRight, List.forall_mem_cons.mpr ⟨nLaw, fun _ z => nomatch z⟩⟩
  · exact List.forall_mem_cons.mpr ⟨PySem.W.codeHd_of_K X hLawTwoRight, List.forall_mem_cons.mpr ⟨PySem.W.codeHd_of_K X hLaw, fun _ z => nomatch z⟩⟩
  · exact .of_eq rfl
  · exact fun H a ns hl _ hT hS => ⟨a, ns, rfl, hS, hl, List.forall_mem_cons.mpr ⟨.nil (hT _ (.head _)), List.forall_mem_cons.mpr ⟨.nil (hT _ (.tail _ (.head _))), fun _ z => nomatch z⟩⟩, fun _ => rfl⟩
  have TB1 := TB _ (.head _)
  have TB2 := TB _ (.tail _ (.head _))
  have Gscaled := ok_scaled (P := l.prog) (w := w) (base := base) DScaled DLowered T
  have Gadded := ok_added (P := l.prog) (w := w) (base := base) DAdded DLowered T
  have Gsum := ok_sum_of DSumOf DAdded Gadded gN hN
  have Gtotof := ok_total_of DTotalOf DSumOf Gsum
  have Gmomof := ok_moment_of DMomentOf DSumOf Gsum DScaled Gscaled
  have Grestof := ok_rest_of DRestOf DSumOf Gsum DScaled Gscaled
  have GgatT := ok_gatheredT DGathered DAdded Gadded gN hN T
  have GgatL := ok_gatheredL DGathered DAdded Gadded gN hN T
  have Gwhole := ok_is_whole (P := l.prog) (w := w) (base := base) DIsWhole T
  have Grow := ok_is_row (P := l.prog) (w := w) (base := base) DIsRow T
  have Growof := ok_is_row_of (P := l.prog) (w := w) (base := base) DIsRowOf DIsRow T
  have Gww := ok_is_whole_within (P := l.prog) (w := w) (base := base) DIsWholeWithin DIsWhole T
  have Gnum := ok_is_number DIsNumber DIsWholeWithin Gww
  have Gfr := ok_is_fraction (P := l.prog) (w := w) (base := base) DIsFraction DIsRowOf DIsRow DIsWhole T
  have Gwt := ok_is_weight DIsWeight DIsFraction Gfr
  have Gasc := ok_ascends (P := l.prog) (w := w) (base := base) DAscends T
  have Gshp := ok_is_share_pair DIsSharePair DIsRowOf Growof DIsNumber Gnum DIsWeight Gwt
  have Gissh := ok_is_share DIsShare DIsRow Grow DIsSharePair Gshp DAscends Gasc g8 T
  have Gneednum := ok_need_number DNeedNumber DIsNumber Gnum
  have Gneed := ok_need_share DNeedShare DIsShare Gissh
  have Gtotal := ok_total DTotal DNeedShare Gneed DTotalOf Gtotof
  have Gmoment := ok_moment DMoment DNeedShare Gneed DMomentOf Gmomof
  have Grest := ok_rest_above DRestAbove DNeedShare Gneed DRestOf Grestof DNeedNumber Gneednum
  have Gput := ok_put_together DPutTogether DNeedShare Gneed DGathered GgatT g8 T ZT
  have Gtake := ok_taken_from DTakenFrom DNeedShare Gneed DGathered GgatL DScaled Gscaled DIsShare Gissh ZB
  have Gbegin := ok_begin (P := l.prog) (w := w) (base := base) DBegin T
  have Gdraw := ok_draw (P := l.prog) (w := w) (base := base) DDraw DMixed T
  have Gratio := ok_law_ratio (P := l.prog) (w := w) (base := base) DLawRatio T
  have Gplus := ok_law_plus (P := l.prog) (w := w) (base := base) DLawPlus DLawRatio T
  have Gless := ok_law_less (P := l.prog) (w := w) (base := base) DLawLess DLawRatio T
  have Gtimes := ok_law_times (P := l.prog) (w := w) (base := base) DLawTimes DLawRatio T
  have Gunder := ok_law_under (P := l.prog) (w := w) (base := base) DLawUnder T
  have Glsum := ok_law_sum DLawSum DLawPlus Gplus
  have Gltot := ok_law_total DLawTotal DLawSum Glsum
  have Glmom := ok_law_moment DLawMoment DLawSum Glsum DLawTimes Gtimes
  have Glrest := ok_law_rest DLawRest DLawSum Glsum DLawTimes Gtimes
  have Gshof := ok_law_share_of (P := l.prog) (w := w) (base := base) DLawShareOf T
  have Gboth := ok_law_both DLawBoth DLawPlus Gplus DLawShareOf Gshof T
  have Gtaken := ok_law_taken DLawTaken DLawLess Gless DLawShareOf Gshof T
  have Gheft := ok_law_heft DLawHeft DDraw Gdraw DLawRatio Gratio
  have Gmarks := ok_law_marks DLawMarks DDraw Gdraw T
  have Gshare := ok_law_share DLawShare DLawHeft Gheft DLawMarks Gmarks T
  have Gheard := ok_law_heard (P := l.prog) (w := w) (base := base) (k := 9) DLawHeard ZB ZT xBB xTB xTT
  have GTR := ok_law_two_right (TT := [(p0LawTwoRight, qTR), (p0Law, qLW)]) ELawTwoRight T TB1 (.head _) (List.forall_mem_cons.mpr ⟨fun _ => rfl, List.forall_mem_cons.mpr ⟨fun z => absurd z.symm pne, fun _ z => nomatch z⟩⟩) DTotal Gtotal DMoment Gmoment DNeedShare Gneed DLawTotal Gltot DLawMoment Glmom DRestAbove Grest DLawRest Glrest DDraw Gdraw DLawBoth Gboth DLawTaken Gtaken DLawUnder Gunder DPutTogether Gput DTakenFrom Gtake DLawHeard Gheard
  exact ok_lawK ELaw T TB2 (.tail _ (.head _)) (List.forall_mem_cons.mpr ⟨fun z => absurd z pne, List.forall_mem_cons.mpr ⟨fun _ => rfl, fun _ z => nomatch z⟩⟩) DBegin Gbegin DLawShare Gshare DLawTwoRight GTR DTotal Gtotal DMoment Gmoment DRestAbove Grest DPutTogether Gput DTakenFrom Gtake DLawHeard Gheard
theorem walk {l : PySem.W.OpenLaw} {q : Program} {loose : List Str} {XP : (Str → Option Value) → Heap → Prop} {YP : World → Heap → Prop} {d : DefRec} {K : Params → PySem.W.Frag} (hn : l.most = some 63) (hdf : d.params.defaults = [])
    (hY : ∀ (w : World) (h : Heap), YP w h → (K w.params).In h)
    (F : ∀ (w : World) (mg : Str → Option Value) (fa : Addr) (h : Heap), YP w h → (K w.params).In h → h.Ns mainGlobals mg → mg d.name = some (.ref fa) → LawAtS l w (K w.params) CX0 12 63 "script" mg fa h) :
    PySem.W.WalkO q loose XP YP l.row.toRowW d [] (fun f vs => PySem.call f vs) :=
  LamX.walk_ofTs (n := 63) (k := 12) (x := "script") (CX := fun _ => CX0) hn (by decide) hdf ⟨rfl, by decide, by decide⟩ hY F fun _ _ _ _ _ z => z
end CS
open PySem PySem.W PyProof.Rows
set_option maxRecDepth 100000 in
set_option maxHeartbeats 0 in
theorem PySem.Challenge.cw_curtainsteps_k03_whole_shares_holds : PySem.Challenge.rw_curtainsteps_k03_whole_shares.Holds := by
  w_on; o_law; k_head; (case hw => w_witness2)
  k_fill
  refine CS.walk (l := PySem.Challenge.rw_curtainsteps_k03_whole_shares) rfl rfl (fun w h Y => PySem.W.km_in_of Y) ?F
  case F =>
    intro w mg fa h Y KX G hmg
    refine' CS.all_mk KX G hmg ?aLowered ?lLowered ?cLowered ?kLowered ?aAdded ?lAdded ?cAdded ?kAdded ?aScaled ?lScaled ?cScaled ?kScaled ?aSumOf ?lSumOf ?cSumOf ?kSumOf ?aGathered ?lGathered ?cGathered ?kGathered ?aTotalOf ?lTotalOf ?cTotalOf ?kTotalOf ?aMomentOf ?lMomentOf ?cMomentOf ?kMomentOf ?aRestOf ?lRestOf ?cRestOf ?kRestOf ?aIsWhole ?lIsWhole ?cIsWhole ?kIsWhole ?aIsRow ?lIsRow ?cIsRow ?kIsRow ?aIsRowOf ?lIsRowOf ?cIsRowOf ?kIsRowOf ?aIsWholeWithin ?lIsWholeWithin ?cIsWholeWithin ?kIsWholeWithin ?aIsNumber ?lIsNumber ?cIsNumber ?kIsNumber ?aIsFraction ?lIsFraction ?cIsFraction ?kIsFraction ?aIsWeight ?lIsWeight ?cIsWeight ?kIsWeight ?aAscends ?lAscends ?cAscends ?kAscends ?aIsSharePair ?lIsSharePair ?cIsSharePair ?kIsSharePair ?aIsShare ?lIsShare ?cIsShare ?kIsShare ?aNeedNumber ?lNeedNumber ?cNeedNumber ?kNeedNumber ?aNeedShare ?lNeedShare ?cNeedShare ?kNeedShare ?aTotal ?lTotal ?cTotal ?kTotal ?aMoment ?lMoment ?cMoment ?kMoment ?aRestAbove ?lRestAbove ?cRestAbove ?kRestAbove ?aPutTogether ?lPutTogether ?cPutTogether ?kPutTogether ?aTakenFrom ?lTakenFrom ?cTakenFrom ?kTakenFrom ?aMixed ?lMixed ?cMixed ?kMixed ?aBegin ?lBegin ?cBegin ?kBegin ?aDraw ?lDraw ?cDraw ?kDraw ?aLawRatio ?lLawRatio ?cLawRatio ?kLawRatio ?aLawPlus ?lLawPlus ?cLawPlus ?kLawPlus ?aLawLess ?lLawLess ?cLawLess ?kLawLess ?aLawTimes ?lLawTimes ?cLawTimes ?kLawTimes ?aLawUnder ?lLawUnder ?cLawUnder ?kLawUnder ?aLawSum ?lLawSum ?cLawSum ?kLawSum ?aLawTotal ?lLawTotal ?cLawTotal ?kLawTotal ?aLawMoment ?lLawMoment ?cLawMoment ?kLawMoment ?aLawRest ?lLawRest ?cLawRest ?kLawRest ?aLawShareOf ?lLawShareOf ?cLawShareOf ?kLawShareOf ?aLawTaken ?lLawTaken ?cLawTaken ?kLawTaken ?aLawHeft ?lLawHeft ?cLawHeft ?kLawHeft ?aLawMarks ?lLawMarks ?cLawMarks ?kLawMarks ?aLawShare ?lLawShare ?cLawShare ?kLawShare ?aLawHeard ?lLawHeard ?cLawHeard ?kLawHeard ?aLawBoth ?lLawBoth ?cLawBoth ?kLawBoth ?aLawTwoRight ?lLawTwoRight ?cLawTwoRight ?kLawTwoRight ?aLaw ?lLaw ?cLaw ?kLaw ?tLawTwoRight ?uLawTwoRight ?hLawTwoRight ?nLawTwoRight ?mLawTwoRight ?tLaw ?uLaw ?hLaw ?nLaw ?mLaw ?pne ?z_isinstance ?z_int ?z_tuple ?z_len ?z_abs ?z_range ?z_list ?z_sorted ?z_zip ?z_all ?z_dict ?z_gcd ?aN ?lN ?a8 ?aB ?iB ?oB ?sB ?tB ?xB ?nB ?jB ?vB ?qB ?yB ?lB ?cB ?kB ?aT ?iT ?oT ?sT ?tT ?xT ?nT ?jT ?vT ?qT ?yT ?lT ?cT ?kT ?xBB ?xTB ?xTT
    (case aLowered => k_is)
    (case lLowered => k_is)
    (case cLowered => k_is)
    (case kLowered => k_is)
    (case aAdded => k_is)
    (case lAdded => k_is)
    (case cAdded => k_is)
    (case kAdded => k_is)
    (case aScaled => k_is)
    (case lScaled => k_is)
    (case cScaled => k_is)
    (case kScaled => k_is)
    (case aSumOf => k_is)
    (case lSumOf => k_is)
    (case cSumOf => k_is)
    (case kSumOf => k_is)
    (case aGathered => k_is)
    (case lGathered => k_is)
    (case cGathered => k_is)
    (case kGathered => k_is)
    (case aTotalOf => k_is)
    (case lTotalOf => k_is)
    (case cTotalOf => k_is)
    (case kTotalOf => k_is)
    (case aMomentOf => k_is)
    (case lMomentOf => k_is)
    (case cMomentOf => k_is)
    (case kMomentOf => k_is)
    (case aRestOf => k_is)
    (case lRestOf => k_is)
    (case cRestOf => k_is)
    (case kRestOf => k_is)
    (case aIsWhole => k_is)
    (case lIsWhole => k_is)
    (case cIsWhole => k_is)
    (case kIsWhole => k_is)
    (case aIsRow => k_is)
    (case lIsRow => k_is)
    (case cIsRow => k_is)
    (case kIsRow => k_is)
    (case aIsRowOf => k_is)
    (case lIsRowOf => k_is)
    (case cIsRowOf => k_is)
    (case kIsRowOf => k_is)
    (case aIsWholeWithin => k_is)
    (case lIsWholeWithin => k_is)
    (case cIsWholeWithin => k_is)
    (case kIsWholeWithin => k_is)
    (case aIsNumber => k_is)
    (case lIsNumber => k_is)
    (case cIsNumber => k_is)
    (case kIsNumber => k_is)
    (case aIsFraction => k_is)
    (case lIsFraction => k_is)
    (case cIsFraction => k_is)
    (case kIsFraction => k_is)
    (case aIsWeight => k_is)
    (case lIsWeight => k_is)
    (case cIsWeight => k_is)
    (case kIsWeight => k_is)
    (case aAscends => k_is)
    (case lAscends => k_is)
    (case cAscends => k_is)
    (case kAscends => k_is)
    (case aIsSharePair => k_is)
    (case lIsSharePair => k_is)
    (case cIsSharePair => k_is)
    (case kIsSharePair => k_is)
    (case aIsShare => k_is)
    (case lIsShare => k_is)
    (case cIsShare => k_is)
    (case kIsShare => k_is)
    (case aNeedNumber => k_is)
    (case lNeedNumber => k_is)
    (case cNeedNumber => k_is)
    (case kNeedNumber => k_is)
    (case aNeedShare => k_is)
    (case lNeedShare => k_is)
    (case cNeedShare => k_is)
    (case kNeedShare => k_is)
    (case aTotal => k_is)
    (case lTotal => k_is)
    (case cTotal => k_is)
    (case kTotal => k_is)
    (case aMoment => k_is)
    (case lMoment => k_is)
    (case cMoment => k_is)
    (case kMoment => k_is)
    (case aRestAbove => k_is)
    (case lRestAbove => k_is)
    (case cRestAbove => k_is)
    (case kRestAbove => k_is)
    (case aPutTogether => k_is)
    (case lPutTogether => k_is)
    (case cPutTogether => k_is)
    (case kPutTogether => k_is)
    (case aTakenFrom => k_is)
    (case lTakenFrom => k_is)
    (case cTakenFrom => k_is)
    (case kTakenFrom => k_is)
    (case aMixed => k_is)
    (case lMixed => k_is)
    (case cMixed => k_is)
    (case kMixed => k_is)
    (case aBegin => k_is)
    (case lBegin => k_is)
    (case cBegin => k_is)
    (case kBegin => k_is)
    (case aDraw => k_is)
    (case lDraw => k_is)
    (case cDraw => k_is)
    (case kDraw => k_is)
    (case aLawRatio => k_is)
    (case lLawRatio => k_is)
    (case cLawRatio => k_is)
    (case kLawRatio => k_is)
    (case aLawPlus => k_is)
    (case lLawPlus => k_is)
    (case cLawPlus => k_is)
    (case kLawPlus => k_is)
    (case aLawLess => k_is)
    (case lLawLess => k_is)
    (case cLawLess => k_is)
    (case kLawLess => k_is)
    (case aLawTimes => k_is)
    (case lLawTimes => k_is)
    (case cLawTimes => k_is)
    (case kLawTimes => k_is)
    (case aLawUnder => k_is)
    (case lLawUnder => k_is)
    (case cLawUnder => k_is)
    (case kLawUnder => k_is)
    (case aLawSum => k_is)
    (case lLawSum => k_is)
    (case cLawSum => k_is)
    (case kLawSum => k_is)
    (case aLawTotal => k_is)
    (case lLawTotal => k_is)
    (case cLawTotal => k_is)
    (case kLawTotal => k_is)
    (case aLawMoment => k_is)
    (case lLawMoment => k_is)
    (case cLawMoment => k_is)
    (case kLawMoment => k_is)
    (case aLawRest => k_is)
    (case lLawRest => k_is)
    (case cLawRest => k_is)
    (case kLawRest => k_is)
    (case aLawShareOf => k_is)
    (case lLawShareOf => k_is)
    (case cLawShareOf => k_is)
    (case kLawShareOf => k_is)
    (case aLawTaken => k_is)
    (case lLawTaken => k_is)
    (case cLawTaken => k_is)
    (case kLawTaken => k_is)
    (case aLawHeft => k_is)
    (case lLawHeft => k_is)
    (case cLawHeft => k_is)
    (case kLawHeft => k_is)
    (case aLawMarks => k_is)
    (case lLawMarks => k_is)
    (case cLawMarks => k_is)
    (case kLawMarks => k_is)
    (case aLawShare => k_is)
    (case lLawShare => k_is)
    (case cLawShare => k_is)
    (case kLawShare => k_is)
    (case aLawHeard => k_is)
    (case lLawHeard => k_is)
    (case cLawHeard => k_is)
    (case kLawHeard => k_is)
    (case aLawBoth => k_is)
    (case lLawBoth => k_is)
    (case cLawBoth => k_is)
    (case kLawBoth => k_is)
    (case aLawTwoRight => k_is)
    (case lLawTwoRight => k_is)
    (case cLawTwoRight => k_is)
    (case kLawTwoRight => k_is)
    (case aLaw => k_is)
    (case lLaw => k_is)
    (case cLaw => k_is)
    (case kLaw => k_is)
    (case tLawTwoRight => k_is)
    (case uLawTwoRight => exact rfl)
    (case hLawTwoRight => kernel_rfl)
    (case nLawTwoRight => kernel_rfl)
    (case mLawTwoRight => exact PySem.W.km_tabs_of Y _ (by decide))
    (case tLaw => k_is)
    (case uLaw => exact rfl)
    (case hLaw => kernel_rfl)
    (case nLaw => kernel_rfl)
    (case mLaw => exact PySem.W.km_tabs_of Y _ (by decide))
    (case pne => decide)
    (case z_isinstance => k_is)
    (case z_int => k_is)
    (case z_tuple => k_is)
    (case z_len => k_is)
    (case z_abs => k_is)
    (case z_range => k_is)
    (case z_list => k_is)
    (case z_sorted => k_is)
    (case z_zip => k_is)
    (case z_all => k_is)
    (case z_dict => k_is)
    (case z_gcd => k_is)
    (case aN => k_is)
    (case lN => k_is)
    (case a8 => k_is)
    (case aB => k_is)
    (case iB => kernel_rfl)
    (case oB => kernel_rfl)
    (case sB => k_is)
    (case tB => k_is)
    (case xB => kernel_rfl)
    (case nB => k_is)
    (case jB => k_is)
    (case vB => k_is)
    (case qB => k_is)
    (case yB => k_is)
    (case lB => k_is)
    (case cB => k_is)
    (case kB => k_is)
    (case aT => k_is)
    (case iT => kernel_rfl)
    (case oT => kernel_rfl)
    (case sT => k_is)
    (case tT => k_is)
    (case xT => kernel_rfl)
    (case nT => k_is)
    (case jT => k_is)
    (case vT => k_is)
    (case qT => k_is)
    (case yT => k_is)
    (case lT => k_is)
    (case cT => k_is)
    (case kT => k_is)
    (case xBB => kernel_rfl)
    (case xTB => kernel_rfl)
    (case xTT => kernel_rfl)
