/-
  A cell is run, once: the contracts of run, doSlow, Do, Get.
-/
import Derived.Test.YtbigejdabeibeaaMemA
import Derived.Recover
set_option linter.unusedVariables false
set_option linter.unusedSimpArgs false
namespace Go.Proofs.Ytbigejdabeibeaa
open Go.RowKit

/-- The deferred closure that recovers, of a frame that returns: nothing. -/
theorem catch_idle (w : World) : CallsD Try.prog 57 #[] .returning w fun e u' w' => e = .returned (.tuple #[]) ∧ u' = .returning ∧ w' = w := by
  refine callsD_of_wpS Try.func57 rfl fun c₀ cs hu => ?_
  apply wpS_region
  simp [wpOpsS, go_sem, recoverD, hu, Try.ntmps57, Exit.thenS]
  cases c₀
  simp_all [bodyPostS, results, Try.results57]
theorem func_nil (K : Nat) (cap : Array Value) (w : World) : (binOp .eql 25 (.func (.func K) #[] cap) .nilFunc).run Try.prog w = .ok (.bool false) w := by kernel_rfl
theorem nil_nil (w : World) : (binOp .eql 25 .nilFunc .nilFunc).run Try.prog w = .ok (.bool true) w := by kernel_rfl
set_option maxRecDepth 100000 in
set_option maxHeartbeats 1600000 in
/-- '(*Cell[int]).run': the function K is called, and answers. -/
theorem run_any (b K : Nat) (cap : Array Value) (v0 : Value) (w : World) (Q : Int → World → Prop) (hK : ∀ w, (callFunc K cap).run Try.prog w = .ok (.enter K cap) w)
    (h : CellAt w b 0 1 (.func (.func K) #[] cap) v0 0 0)
    (HF : Calls Try.prog K cap ((w.setCell ⟨b, 3, none⟩ .nilFunc).setCell ⟨b, 5, none⟩ (.int .i64 1)) fun e w2 => ∃ x, e = .returned (.int .i64 x) ∧ Q x w2)
    (HQ : ∀ x w2, Q x w2 → CellAt w2 b 0 1 .nilFunc v0 1 0) :
    Calls Try.prog 34 #[.pointer (some ⟨b, 0, none⟩)] w fun e w' => e = .returned (.tuple #[]) ∧ ∃ x w2, Q x w2 ∧ w' = (w2.setCell ⟨b, 4, none⟩ (.int .i64 x)).drew.setCell ⟨b, 6, none⟩ (.int .u32 1) := by
  have hnf : ∀ (a : Addr) (w : World), (store a .nilFunc).run Try.prog w = stored Try.prog w a .nilFunc .plain := fun a w => run_store Try.prog w a _ _ rfl
  have hfn := func_nil
  have F := hide HF
  have HQ := hide HQ
  have H3 := h.c3
  have Z3 := h.z 3
  have A1 := h.set3 .nilFunc
  have C5 := hide (i64_one ⟨b, 5, none⟩ _ A1.c5 (A1.z 5))
  clear h HF A1
  go_enter_defers Try.func34, Try.ntmps34
  go_wp2_with (first
    | (go_at_call 56; refine C5.out.mono ?_; rintro e w' ⟨rfl, rfl⟩)
    | (refine F.out.mono ?_; rintro e w2 ⟨x, rfl, q⟩; have A2 := HQ.out x w2 q; have z4 := A2.z 4; have c4 := A2.c4; replace A2 := hide A2; replace q := hide q))
  refine leaves_cons (f := 57) (args := #[]) (by simp) (by simp [go_sem]) ?_
  refine (catch_idle _).mono ?_
  rintro e u' w'' ⟨rfl, rfl, rfl⟩
  refine leaves_cons (f := 55) (args := #[.pointer (some ⟨b, 6, none⟩), .bool true]) (by simp [settle]) (by simp [go_sem]) ?_
  refine (store_deferred ⟨b, 6, none⟩ _ _ _ (A2.out.set4 _).c6 ((A2.out.set4 _).z 6)).mono ?_
  rintro e u' w'' ⟨rfl, rfl, rfl⟩
  simp [Leaves, settle, results, Try.results34]
  exact ⟨x, w2, q.out, rfl⟩
set_option maxRecDepth 100000 in
set_option maxHeartbeats 1600000 in
/-- '(*Cell[int]).run' without a function. -/
theorem run_nil (b : Nat) (v0 : Value) (w : World) (h : CellAt w b 0 1 .nilFunc v0 0 0) :
    Calls Try.prog 34 #[.pointer (some ⟨b, 0, none⟩)] w fun e w' => e = .returned (.tuple #[]) ∧ w' = (w.setCell ⟨b, 3, none⟩ .nilFunc).drew.setCell ⟨b, 6, none⟩ (.int .u32 1) := by
  have hnf : ∀ (a : Addr) (w : World), (store a .nilFunc).run Try.prog w = stored Try.prog w a .nilFunc .plain := fun a w => run_store Try.prog w a _ _ rfl
  have hfn := nil_nil
  have H3 := h.c3
  have Z3 := h.z 3
  have A1 := hide (h.set3 .nilFunc)
  clear h
  go_enter_defers Try.func34, Try.ntmps34
  go_wp2
  refine leaves_cons (f := 55) (args := #[.pointer (some ⟨b, 6, none⟩), .bool true]) (by simp) (by simp [go_sem]) ?_
  refine (store_deferred ⟨b, 6, none⟩ _ _ _ A1.out.c6 (A1.out.z 6)).mono ?_
  rintro e u' w'' ⟨rfl, rfl, rfl⟩
  simp [Leaves, settle, results, Try.results34]
set_option maxRecDepth 100000 in
set_option maxHeartbeats 1600000 in
/-- '(*sync.Once).doSlow' of a cell's once, not yet done, the lock free. -/
theorem slow_any (b : Nat) (fv v0 : Value) (w : World) (R : World → Prop) (h : CellAt w b 0 0 fv v0 0 0)
    (HR : Calls Try.prog 34 #[.pointer (some ⟨b, 0, none⟩)] (w.setCell ⟨b, 1, none⟩ (.int .i32 1)) fun e w' => e = .returned (.tuple #[]) ∧ R w')
    (HC : ∀ w', R w' → ∃ v r, CellAt w' b 0 1 .nilFunc v r 1) :
    Calls Try.prog 54 #[.pointer (some ⟨b, 0, none⟩), .func (.func 34) #[.pointer (some ⟨b, 0, none⟩)] #[]] w fun e w' => e = .returned (.tuple #[]) ∧ ∃ w1, R w1 ∧ w' = (w1.drew.setCell ⟨b, 0, none⟩ (.int .u32 1)).setCell ⟨b, 1, none⟩ (.int .i32 0) := by
  have hnot : ∀ (x : Bool) (w : World), (Op.unary .not (.bool x)).run Try.prog w = .ok (.bool (!x)) w := fun _ _ => rfl
  have CL := hide (lock_free ⟨b, 1, none⟩ w h.c1 (h.z 1))
  have CB := hide (bool_load ⟨b, 0, none⟩ 0 _ (h.set1 1).c0)
  replace HR := hide HR
  replace HC := hide HC
  clear h
  go_enter_defers Try.func54, Try.ntmps54
  go_wp2_with (first
    | (go_at_call 69; refine CL.out.mono ?_; rintro e w' ⟨rfl, rfl⟩)
    | (go_at_call 35; refine CB.out.mono ?_; rintro e w' ⟨rfl, rfl⟩)
    | (go_at_call 34; refine HR.out.mono ?_; rintro e w1 ⟨rfl, q⟩; have A2 := hide (HC.out w1 q); replace q := hide q))
  obtain ⟨v, r, A2⟩ := A2.out
  refine leaves_cons (f := 55) (args := #[.pointer (some ⟨b, 0, none⟩), .bool true]) (by simp) (by simp [go_sem]) ?_
  refine (store_deferred ⟨b, 0, none⟩ _ _ _ A2.c0 (A2.z 0)).mono ?_
  rintro e u' w'' ⟨rfl, rfl, rfl⟩
  refine leaves_cons (f := 70) (args := #[.pointer (some ⟨b, 1, none⟩)]) (by simp [settle]) (by simp [go_sem]) ?_
  refine (unlock_deferred ⟨b, 1, none⟩ _ _ (A2.drew.set0 1).c1 ((A2.drew.set0 1).z 1)).mono ?_
  rintro e u' w'' ⟨rfl, rfl, rfl⟩
  simp [Leaves, settle, results, Try.results54]
  exact ⟨w1, q.out, rfl⟩
set_option maxRecDepth 100000 in
set_option maxHeartbeats 1600000 in
theorem do_first (b : Nat) (fv v0 : Value) (w : World) (R : World → Prop) (h : CellAt w b 0 0 fv v0 0 0)
    (HR : Calls Try.prog 34 #[.pointer (some ⟨b, 0, none⟩)] (w.setCell ⟨b, 1, none⟩ (.int .i32 1)) fun e w' => e = .returned (.tuple #[]) ∧ R w')
    (HC : ∀ w', R w' → ∃ v r, CellAt w' b 0 1 .nilFunc v r 1) :
    Calls Try.prog 33 #[.pointer (some ⟨b, 0, none⟩), .func (.func 34) #[.pointer (some ⟨b, 0, none⟩)] #[]] w fun e w' => e = .returned (.tuple #[]) ∧ ∃ w1, R w1 ∧ w' = (w1.drew.setCell ⟨b, 0, none⟩ (.int .u32 1)).setCell ⟨b, 1, none⟩ (.int .i32 0) := by
  have hnot : ∀ (x : Bool) (w : World), (Op.unary .not (.bool x)).run Try.prog w = .ok (.bool (!x)) w := fun _ _ => rfl
  have CS := hide (slow_any b fv v0 w R h HR HC)
  have CB := hide (bool_load ⟨b, 0, none⟩ 0 _ h.c0)
  clear h HR HC
  go_enter Try.func33, Try.ntmps33
  go_wp2_with (first
    | (go_at_call 54; refine CS.out.mono ?_; rintro e w' ⟨rfl, q⟩; replace q := hide q)
    | (go_at_call 35; refine CB.out.mono ?_; rintro e w' ⟨rfl, rfl⟩))
  go_end0
  exact ⟨rfl, q.out⟩
theorem do_done (a : Addr) (fv : Value) (w : World) (h0 : w.cell? a = some (.int .u32 1)) :
    Calls Try.prog 33 #[.pointer (some a), fv] w fun e w' => e = .returned (.tuple #[]) ∧ w' = w := by
  have hnot : ∀ (x : Bool) (w : World), (Op.unary .not (.bool x)).run Try.prog w = .ok (.bool (!x)) w := fun _ _ => rfl
  have CB := hide (bool_load a 1 _ h0)
  clear h0
  go_enter Try.func33, Try.ntmps33
  go_wp2_with (go_at_call 35; refine CB.out.mono ?_; rintro e w' ⟨rfl, rfl⟩)
  go_end0
  exact ⟨rfl, rfl⟩
set_option maxRecDepth 100000 in
set_option maxHeartbeats 1600000 in
/-- Get, done already. -/
theorem get_again (b : Nat) (fv : Value) (x : Int) (r n : Int) (w : World) (h : CellAt w b 1 0 fv (.int .i64 x) r n) :
    Calls Try.prog 11 #[.pointer (some ⟨b, 0, none⟩)] w fun e w' => e = .returned (.int .i64 x) ∧ w' = w := by
  have hmf : ∀ (fn : Fn) (first cap : Array Value) (w : World), (Instr.makeFunc fn first cap).run Try.prog w = .ok (.func fn first cap) w := fun _ _ _ _ => rfl
  have C4 := h.c4
  have CD := hide (fun fv => do_done ⟨b, 0, none⟩ fv w h.c0)
  clear h
  go_enter Try.func11, Try.ntmps11
  go_wp2_with (go_at_call 33; refine (CD.out _).mono ?_; rintro e w' ⟨rfl, rfl⟩)
  go_ret
  exact ⟨rfl, rfl⟩
set_option maxRecDepth 100000 in
set_option maxHeartbeats 1600000 in
/-- Get, the first time: by the contract of run. -/
theorem get_run (b : Nat) (fv v0 : Value) (w : World) (R : World → Prop) (h : CellAt w b 0 0 fv v0 0 0)
    (HR : Calls Try.prog 34 #[.pointer (some ⟨b, 0, none⟩)] (w.setCell ⟨b, 1, none⟩ (.int .i32 1)) fun e w' => e = .returned (.tuple #[]) ∧ R w')
    (HC : ∀ w', R w' → ∃ x r, CellAt w' b 0 1 .nilFunc (.int .i64 x) r 1) :
    Calls Try.prog 11 #[.pointer (some ⟨b, 0, none⟩)] w fun e w' => ∃ x r w1, R w1 ∧ CellAt w1 b 0 1 .nilFunc (.int .i64 x) r 1 ∧ e = .returned (.int .i64 x) ∧ CellAt w' b 1 0 .nilFunc (.int .i64 x) r 1 ∧ Ch (fun k => k = b) w1 w' := by
  have hmf : ∀ (fn : Fn) (first cap : Array Value) (w : World), (Instr.makeFunc fn first cap).run Try.prog w = .ok (.func fn first cap) w := fun _ _ _ _ => rfl
  have CD := hide (do_first b fv v0 w R h HR (fun w' q => by obtain ⟨x, r, A⟩ := HC w' q; exact ⟨_, r, A⟩))
  replace HC := hide HC
  clear h HR
  go_enter Try.func11, Try.ntmps11
  go_wp2_with (go_at_call 33; refine CD.out.mono ?_; rintro e w' ⟨rfl, w1, q, hw⟩; obtain ⟨x, r, A1⟩ := HC.out w1 q; have A2 := (A1.drew.set0 1).set1 0; rw [← hw] at A2; have C2 : Ch (fun k => k = b) w1 w' := (by rw [hw]; exact ((Ch.refl _ _).drew.setb _).setb _); clear hw; have c4 := A2.c4; replace A1 := hide A1; replace A2 := hide A2; replace C2 := hide C2; replace q := hide q)
  go_ret
  exact ⟨x, r, w1, q.out, A1.out, rfl, A2.out, C2.out⟩
/-- Get, the first time, of a cell with the function K. -/
theorem get_first (b K : Nat) (cap : Array Value) (v0 : Value) (w : World) (Q : Int → World → Prop) (hK : ∀ w, (callFunc K cap).run Try.prog w = .ok (.enter K cap) w)
    (h : CellAt w b 0 0 (.func (.func K) #[] cap) v0 0 0)
    (HF : ∀ w1, CellAt w1 b 0 1 .nilFunc v0 1 0 → Ch (fun k => k = b) w w1 → Calls Try.prog K cap w1 fun e w2 => ∃ x, e = .returned (.int .i64 x) ∧ Q x w2)
    (HQ : ∀ x w2, Q x w2 → CellAt w2 b 0 1 .nilFunc v0 1 0) :
    Calls Try.prog 11 #[.pointer (some ⟨b, 0, none⟩)] w fun e w' => ∃ x w2, Q x w2 ∧ e = .returned (.int .i64 x) ∧ CellAt w' b 1 0 .nilFunc (.int .i64 x) 1 1 ∧ Ch (fun k => k = b) w2 w' := by
  have hs : Ch (fun k => k = b) w (w.setCell ⟨b, 1, none⟩ (.int .i32 1)) := (Ch.refl _ _).setb _
  refine (get_run b _ v0 w (fun w1 => ∃ x w2, Q x w2 ∧ w1 = (w2.setCell ⟨b, 4, none⟩ (.int .i64 x)).drew.setCell ⟨b, 6, none⟩ (.int .u32 1)) h (run_any b K cap v0 _ Q hK (h.set1 1) (HF _ (((h.set1 1).set3 _).set5 1) ((hs.setb _).setb _)) HQ) ?_).mono ?_
  · rintro w' ⟨x, w2, q, rfl⟩
    exact ⟨x, 1, ((HQ x w2 q).set4 _).drew.set6 1⟩
  · rintro e w' ⟨x, r, w1, ⟨x', w2, q, rfl⟩, A1, rfl, A2, C⟩
    have A3 := ((HQ x' w2 q).set4 (.int .i64 x')).drew.set6 1
    have e4 := Option.some.inj (A1.c4.symm.trans A3.c4)
    have e5 := Option.some.inj (A1.c5.symm.trans A3.c5)
    simp at e4 e5
    subst e4 e5
    exact ⟨x, w2, q, rfl, A2, (((Ch.refl _ _).setb _).drew.setb _).trans C⟩
/-- Get of a cell without a function, the first time. -/
theorem get_nil (b : Nat) (x : Int) (w : World) (h : CellAt w b 0 0 .nilFunc (.int .i64 x) 0 0) :
    Calls Try.prog 11 #[.pointer (some ⟨b, 0, none⟩)] w fun e w' => e = .returned (.int .i64 x) ∧ CellAt w' b 1 0 .nilFunc (.int .i64 x) 0 1 ∧ Ch (fun k => k = b) w w' := by
  have hs : Ch (fun k => k = b) w (w.setCell ⟨b, 1, none⟩ (.int .i32 1)) := (Ch.refl _ _).setb _
  have A3 := ((h.set1 1).set3 .nilFunc).drew.set6 1
  refine (get_run b _ _ w _ h (run_nil b _ _ (h.set1 1)) ?_).mono ?_
  · rintro w' rfl
    exact ⟨x, 0, A3⟩
  · rintro e w' ⟨x', r, w1, rfl, A1, rfl, A2, C⟩
    have e4 := Option.some.inj (A1.c4.symm.trans A3.c4)
    have e5 := Option.some.inj (A1.c5.symm.trans A3.c5)
    simp at e4 e5
    subst e4 e5
    exact ⟨rfl, A2, ((hs.setb _).drew.setb _).trans C⟩
theorem done_any (b : Nat) (d s : Int) (fv v : Value) (r n : Int) (w : World) (h : CellAt w b d s fv v r n) :
    Calls Try.prog 12 #[.pointer (some ⟨b, 0, none⟩)] w fun e w' => e = .returned (.bool (n != 0)) ∧ w' = w := by
  have CB := hide (bool_load ⟨b, 6, none⟩ n _ h.c6)
  clear h
  go_enter Try.func12, Try.ntmps12
  go_wp2_with (go_at_call 35; refine CB.out.mono ?_; rintro e w' ⟨rfl, rfl⟩)
  go_ret
  exact ⟨rfl, rfl⟩
theorem runs_any (b : Nat) (d s : Int) (fv v : Value) (r n : Int) (w : World) (h : CellAt w b d s fv v r n) :
    Calls Try.prog 13 #[.pointer (some ⟨b, 0, none⟩)] w fun e w' => e = .returned (.int .i64 r) ∧ w' = w := by
  have CB := hide (i64_load ⟨b, 5, none⟩ r _ h.c5)
  clear h
  go_enter Try.func13, Try.ntmps13
  go_wp2_with (go_at_call 36; refine CB.out.mono ?_; rintro e w' ⟨rfl, rfl⟩)
  go_ret
  exact ⟨rfl, rfl⟩
theorem CellAt.new (w : World) (fv : Value) : CellAt (w.alloc (.cells #[.int .u32 0, .int .i32 0, .int .u32 0, fv, .int .i64 0, .int .i64 0, .int .u32 0] 86)) w.heap.size 0 0 fv (.int .i64 0) 0 0 :=
  ⟨by simp, by simp, by simp, by simp, by simp, by simp, by simp, fun j => by simp⟩
theorem new_func (K : Nat) (f c : Array Value) (w : World) :
    Calls Try.prog 9 #[.func (.func K) f c] w fun e w' => e = .returned (.pointer (some ⟨w.heap.size, 0, none⟩)) ∧ CellAt w' w.heap.size 0 0 (.func (.func K) f c) (.int .i64 0) 0 0 ∧ Ch (fun _ => False) w w' := by
  have N := hide (CellAt.new w (.func (.func K) f c))
  have C := hide ((Ch.refl (fun _ => False) w).alloc (.cells #[.int .u32 0, .int .i32 0, .int .u32 0, .func (.func K) f c, .int .i64 0, .int .i64 0, .int .u32 0] 86))
  go_enter Try.func9, Try.ntmps9
  go_wp2
  go_ret
  exact ⟨rfl, N.out, C.out⟩
theorem new_nil (w : World) :
    Calls Try.prog 9 #[.nilFunc] w fun e w' => e = .returned (.pointer (some ⟨w.heap.size, 0, none⟩)) ∧ CellAt w' w.heap.size 0 0 .nilFunc (.int .i64 0) 0 0 ∧ Ch (fun _ => False) w w' := by
  have N := hide (CellAt.new w .nilFunc)
  have C := hide ((Ch.refl (fun _ => False) w).alloc (.cells #[.int .u32 0, .int .i32 0, .int .u32 0, .nilFunc, .int .i64 0, .int .i64 0, .int .u32 0] 86))
  go_enter Try.func9, Try.ntmps9
  go_wp2
  go_ret
  exact ⟨rfl, N.out, C.out⟩
/-! ### A cell that every program must know -/
theorem seven (w : World) : Calls Try.prog 40 #[] w fun e w' => e = .returned (.int .i64 7) ∧ w' = w := by
  go_enter Try.func40, Try.ntmps40
  go_wp2
  go_ret
  exact ⟨rfl, rfl⟩
theorem call_seven (w : World) : (callFunc 40 #[]).run Try.prog w = .ok (.enter 40 #[]) w := by kernel_rfl
theorem get_seven (b : Nat) (w : World) (h : CellAt w b 0 0 (.func (.func 40) #[] #[]) (.int .i64 0) 0 0) :
    Calls Try.prog 11 #[.pointer (some ⟨b, 0, none⟩)] w fun e w' => e = .returned (.int .i64 7) ∧ CellAt w' b 1 0 .nilFunc (.int .i64 7) 1 1 ∧ Ch (fun k => k = b) w w' := by
  refine (get_first b _ #[] _ w (fun x w2 => x = 7 ∧ CellAt w2 b 0 1 .nilFunc (.int .i64 0) 1 0 ∧ Ch (fun k => k = b) w w2) call_seven h (fun w1 A1 C1 => (seven w1).mono ?_) (fun x w2 q => q.2.1)).mono ?_
  · rintro e w' ⟨rfl, rfl⟩
    exact ⟨7, rfl, rfl, A1, C1⟩
  · rintro e w' ⟨x, w2, ⟨rfl, A2, C2⟩, rfl, A, C⟩
    exact ⟨rfl, A, C2.trans C⟩
set_option maxRecDepth 100000 in
set_option maxHeartbeats 1600000 in
theorem awake7 (w : World) : Calls Try.prog 15 #[] w fun e w' => e = .returned (.bool true) ∧ Ch (fun _ => False) w w' := by
  have hnot : ∀ (x : Bool) (w : World), (Op.unary .not (.bool x)).run Try.prog w = .ok (.bool (!x)) w := fun _ _ => rfl
  go_enter Try.func15, Try.ntmps15
  go_wp2_with (first
    | (go_at_call 9; refine (new_func _ _ _ _).mono ?_; rintro e w1 ⟨rfl, A1, C1⟩; replace A1 := hide A1; replace C1 := hide C1)
    | (go_at_call 12; refine (done_any _ _ _ _ _ _ _ _ A1.out).mono ?_; rintro e w2 ⟨rfl, rfl⟩)
    | (go_at_call 11; refine (get_seven _ _ A1.out).mono ?_; rintro e w3 ⟨rfl, A3, C3⟩; replace A3 := hide A3; replace C3 := hide (C1.out.transN C3 (fun i hi e => by omega)))
    | (go_at_call 13; refine (runs_any _ _ _ _ _ _ _ _ A3.out).mono ?_; rintro e w4 ⟨rfl, rfl⟩))
  go_ret
  exact ⟨rfl, C3.out⟩
end Go.Proofs.Ytbigejdabeibeaa
