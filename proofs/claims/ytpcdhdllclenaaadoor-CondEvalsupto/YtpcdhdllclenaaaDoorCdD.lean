/-
  Which fields of a leaf are not zero: by the program.
-/
import Derived.Test.YtpcdhdllclenaaaDoorCdC
import Derived.Test.YtpcdhdllclenaaaDoorCaB
import Derived.Deep.RegionHeld3
import Derived.Deep.DeepCutAuto
set_option linter.unusedVariables false
set_option linter.unusedSimpArgs false
namespace Go.Proofs.YtpcdhdllclenaaaDoor.cd
open Go.RowKit

def bt (k : Int) (c : Bool) : Int := if c then k else 0
theorem field_any (k : Int) (c : Bool) (w : World) : Calls Tryd.prog 70 #[.int .i64 k, .bool c] w fun e w' => e = .returned (.int .i64 (bt k c)) ∧ w' = w := by
  cases c
  all_goals
    go_enter Tryd.func70, Tryd.ntmps70
    go_wp2
    go_ret
    exact ⟨rfl, rfl⟩
theorem emp_beq {α : Type} (l : List α) : ((l.length : Int) == 0) = l.isEmpty := by
  cases l with
  | nil => rfl
  | cons x r => rw [show (((x :: r).length : Int) == 0) = false by rw [beq_eq_false_iff_ne]; simp only [List.length_cons]; omega]; rfl
theorem isZero_any (x : Ex) (u : Value) (w : World) (hu : EM w u x.ks) : Calls Tryd.prog 71 #[exV x u] w fun e w' => e = .returned (.bool (noE x)) ∧ Below w.heap.size w w' := by
  obtain ⟨a, c, rfl, hl9⟩ := hu.shape
  have E := hide (show noE x = (x.k == 0 && (x.n == 0 && x.d == 0) && x.u == 0 && ((x.ks.length : Int) == 0)) by rw [emp_beq]; rfl)
  have B0 := hide (bplus (Below.refl w.heap.size w) (.cells #[.int .i64 x.k, .int .i64 x.n, .int .i64 x.d, .int .i64 x.u, .slice a x.ks.length c] 35))
  unfold exV
  clear hu
  generalize x.k = xk at *
  generalize x.n = xn at *
  generalize x.d = xd at *
  generalize x.u = xu at *
  generalize x.ks.length = n at *
  by_cases hk : xk = 0
  case neg =>
    have k0 : (xk == 0) = false := by simpa using hk
    have F := hide (show noE x = false by rw [E.out, k0]; rfl)
    clear E
    go_enter Tryd.func71, Tryd.ntmps71
    go_wp2
    go_ret
    exact ⟨ret_bool F.out.symm, B0.out⟩
  subst hk
  by_cases hn : xn = 0
  case neg =>
    have n0 : (xn == 0) = false := by simpa using hn
    have F := hide (show noE x = false by rw [E.out, n0]; simp)
    clear E
    go_enter Tryd.func71, Tryd.ntmps71
    go_wp2
    go_ret
    exact ⟨ret_bool F.out.symm, B0.out⟩
  subst hn
  by_cases hn : xd = 0
  case neg =>
    have n0 : (xd == 0) = false := by simpa using hn
    have F := hide (show noE x = false by rw [E.out, n0]; simp)
    clear E
    go_enter Tryd.func71, Tryd.ntmps71
    go_wp2
    go_ret
    exact ⟨ret_bool F.out.symm, B0.out⟩
  subst hn
  by_cases hn : xu = 0
  case neg =>
    have n0 : (xu == 0) = false := by simpa using hn
    have F := hide (show noE x = false by rw [E.out, n0]; simp)
    clear E
    go_enter Tryd.func71, Tryd.ntmps71
    go_wp2
    go_ret
    exact ⟨ret_bool F.out.symm, B0.out⟩
  subst hn
  replace E := hide (show noE x = ((n : Int) == 0) by rw [E.out]; rfl)
  go_enter Tryd.func71, Tryd.ntmps71
  go_wp2
  go_ret
  exact ⟨ret_bool E.out.symm, B0.out⟩
theorem keep12 {w0 w' : World} {b : Nat} {u0 u1 u2 u3 u4 u5 u6 u7 u8 u9 ua ub : Value} {T : TypeId} (h : Below w0.heap.size w0 w') (P : w0.heap[b]? = some (.cells #[u0, u1, u2, u3, u4, u5, u6, u7, u8, u9, ua, ub] T)) : w'.cell? ⟨b, 0, none⟩ = some u0 ∧ w'.cell? ⟨b, 1, none⟩ = some u1 ∧ w'.cell? ⟨b, 2, none⟩ = some u2 ∧ w'.cell? ⟨b, 3, none⟩ = some u3 ∧ w'.cell? ⟨b, 4, none⟩ = some u4 ∧ w'.cell? ⟨b, 5, none⟩ = some u5 ∧ w'.cell? ⟨b, 6, none⟩ = some u6 ∧ w'.cell? ⟨b, 7, none⟩ = some u7 ∧ w'.cell? ⟨b, 8, none⟩ = some u8 ∧ w'.cell? ⟨b, 9, none⟩ = some u9 ∧ w'.cell? ⟨b, 10, none⟩ = some ua ∧ w'.cell? ⟨b, 11, none⟩ = some ub := by
  have hb : b < w0.heap.size := (Array.getElem?_eq_some_iff.1 P).1
  have P' := (h.block b hb).trans P
  exact ⟨by rw [row_blk P']; rfl, by rw [row_blk P']; rfl, by rw [row_blk P']; rfl, by rw [row_blk P']; rfl, by rw [row_blk P']; rfl, by rw [row_blk P']; rfl, by rw [row_blk P']; rfl, by rw [row_blk P']; rfl, by rw [row_blk P']; rfl, by rw [row_blk P']; rfl, by rw [row_blk P']; rfl, by rw [row_blk P']; rfl⟩
/-- The set of those fields. -/
def fB (t n o e w v a : Bool) : Int := bits .or .i64 (bits .or .i64 (bits .or .i64 (bits .or .i64 (bits .or .i64 (bits .or .i64 (bt 1 t) (bt 2 n)) (bt 4 o)) (bt 8 e)) (bt 16 w)) (bt 32 v)) (bt 64 a)
set_option maxRecDepth 100000 in
set_option maxHeartbeats 4000000 in
theorem fieldsIn_any (x : Lf) (z : Value) (w : World) (hz : EM w z x.e.ks) : Calls Tryd.prog 61 #[lfV x z] w fun e w' => e = .returned (.int .i64 (fB (x.t != 0) (!no x.nm) (x.op != 0) (!noE x.e) (!no x.wd) (!no x.vl) x.an)) ∧ Below w.heap.size w w' := by
  have C := hide field_any
  obtain ⟨lk, lt, nm, op, ⟨ek, en, ed, eu, eks⟩, wd, vl, an⟩ := x
  replace hz : EM w z eks := hz
  have B0 := bplus (Below.refl w.heap.size w) (.cells #[.int .i64 lk, .int .i64 lt, .string nm, .int .i64 op, .int .i64 ek, .int .i64 en, .int .i64 ed, .int .i64 eu, z, .string wd, .string vl, .bool an] 37)
  have PQ := heap_alloc_new w (.cells #[.int .i64 lk, .int .i64 lt, .string nm, .int .i64 op, .int .i64 ek, .int .i64 en, .int .i64 ed, .int .i64 eu, z, .string wd, .string vl, .bool an] 37)
  have CZ := hide (fun (w0 W : World) (h0 : Below w.heap.size w w0) (hb : Below w0.heap.size w0 W) => isZero_any (.mk ek en ed eu eks) z W (hz.low (bto h0 hb)))
  simp only [lfV, exV, Ex.k, Ex.n, Ex.d, Ex.u] at CZ ⊢
  clear hz
  go_enter Tryd.func61, Tryd.ntmps61
  go_upto_region 1 with fail
  generalize w.alloc (.cells #[.int .i64 lk, .int .i64 lt, .string nm, .int .i64 op, .int .i64 ek, .int .i64 en, .int .i64 ed, .int .i64 eu, z, .string wd, .string vl, .bool an] 37) = w0 at *
  have HB0 := hide B0
  have HP := hide PQ
  replace CZ := hide (fun W hb => CZ.out w0 W B0 hb)
  clear B0 PQ
  go_region_held3 (fun w' => w'.cell? ⟨w.heap.size, 0, none⟩ = some (.int .i64 lk) ∧ w'.cell? ⟨w.heap.size, 1, none⟩ = some (.int .i64 lt) ∧ w'.cell? ⟨w.heap.size, 2, none⟩ = some (.string nm) ∧ w'.cell? ⟨w.heap.size, 3, none⟩ = some (.int .i64 op) ∧ w'.cell? ⟨w.heap.size, 4, none⟩ = some (.int .i64 ek) ∧ w'.cell? ⟨w.heap.size, 5, none⟩ = some (.int .i64 en) ∧ w'.cell? ⟨w.heap.size, 6, none⟩ = some (.int .i64 ed) ∧ w'.cell? ⟨w.heap.size, 7, none⟩ = some (.int .i64 eu) ∧ w'.cell? ⟨w.heap.size, 8, none⟩ = some z ∧ w'.cell? ⟨w.heap.size, 9, none⟩ = some (.string wd) ∧ w'.cell? ⟨w.heap.size, 10, none⟩ = some (.string vl) ∧ w'.cell? ⟨w.heap.size, 11, none⟩ = some (.bool an))
    ((refine keep12 ?_ HP.out; (repeat (first | exact Below.refl _ _ | (with_reducible refine Below.drew ?_) | (with_reducible refine below_drewN ?_ _) | (refine bto ?_ (by assumption)))); done))
    (first
      | (go_at_call 71; refine (CZ.out _ (by repeat (first | exact Below.refl _ _ | (with_reducible refine Below.drew ?_) | (with_reducible refine below_drewN ?_ _) | (refine bto ?_ (by assumption))))).mono ?_; rintro _ wl ⟨rfl, hl⟩)
      | (go_at_call 70; refine (C.out _ _ _).mono ?_; rintro _ wl ⟨rfl, rfl⟩))
  all_goals
    go_wp2
    go_ret
    refine ⟨rfl, bto HB0.out ?_⟩
    repeat (first | exact Below.refl _ _ | (with_reducible refine Below.drew ?_) | (with_reducible refine below_drewN ?_ _) | (refine bto ?_ (by assumption)))
end Go.Proofs.YtpcdhdllclenaaaDoor.cd
