/-
  A WaitGroup that nobody is added to; counts, boxes, cells that are nil; a cell without a function: the law.
-/
import Derived.Test.YtbigejdabeibeaaMemC
set_option linter.unusedVariables false
set_option linter.unusedSimpArgs false
namespace Go.Proofs.Ytbigejdabeibeaa
open Go.RowKit

/-! ### A deferred call of a function without a body -/
theorem step_defer_value {P : Program} {fr : Frame} {cs : List Frame} {w : World} {d : Deferred} {ds : List Deferred} {fv : Fn} {cap : Array Value} {v : Value} (hm : fr.mode = .returning) (hd : fr.defers = d :: ds) (ht : d.target = .fn fv cap)
    (hi : (invoke d.target d.args).run P w = .ok (.value v) w) : step P (lone fr cs w) = .next (lone { fr with defers := ds } cs w) := by
  obtain ⟨t, a⟩ := d
  simp only at ht hi
  subst ht
  refine step_lone_go ?_
  simp [stepG, unwind, callDeferred, hm, hd, hi]
/-- The body has returned with one deferred call, of a function without a body. -/
def bodyPostV (P : Program) (fn : Func) (R : Ending → World → Prop) : Exit → Act → World → Prop
  | .ret, a, w => (∃ fv cap dargs v, a.defers = [{ target := .fn fv cap, args := dargs }] ∧ (invoke (.fn fv cap) dargs).run P w = .ok (.value v) w) ∧ ∃ v, (results fn a.tmps).run P w = .ok v w ∧ R (.returned v) w
  | _, _, _ => False
theorem calls_of_wp_value {P : Program} {f : FuncId} {fn : Func} {c : Code} {args : Array Value} {w : World} {R : Ending → World → Prop}
    (hf : P.funcs[f]? = some fn) (hb : fn.body = some c)
    (h : c.wp P (bodyPostV P fn R) { tmps := args ++ Array.replicate (fn.ntmps - args.size) undef, defers := [] } w) : Calls P f args w R := by
  intro cs
  let b : Frame := { (default : Frame) with fn := f, kind := .normal }
  have henter : Frame.enter P f args .normal =
      b.at { tmps := args ++ Array.replicate (fn.ntmps - args.size) undef, defers := [] } [.code c] := by
    simp [Frame.enter, Frame.at, hf, hb, b]
  obtain ⟨e, a', w', hq, harr⟩ := h b [] cs
  rw [← henter] at harr
  cases e with
  | normal => exact hq.elim
  | ret =>
    obtain ⟨todo, hs₀⟩ := harr
    obtain ⟨⟨fv, cap, dargs, v, hd, hi⟩, u, hr, hR⟩ := hq
    have h1 := step_defer_value (fr := { b.at a' todo with mode := .returning }) (cs := cs) (d := { target := .fn fv cap, args := dargs }) (ds := []) rfl hd rfl hi
    exact ⟨.returned u, w', _, hR, Steps.trans hs₀ (.one h1), rfl, rfl, rfl, rfl, fn, hf, hr⟩
  | panic chain => exact hq.elim
  | exit id => exact hq.elim
  | goto l => exact hq.elim
  | outgrown => exact hq.elim
theorem no_bubble (w : World) : (callFunc 77 #[]).run Try.prog w = .ok (.value (.bool false)) w := by kernel_rfl
/-- internal/race.Enable, entered as a deferred call. -/
theorem u64_load (a : Addr) (d : Int) (w : World) (hc : w.cell? a = some (.int .u64 d)) :
    Calls Try.prog 83 #[.pointer (some a)] w fun e w' => e = .returned (.int .u64 d) ∧ w' = w := by
  have hl := run_call_load (P := Try.prog) Try.func96 (by kernel_rfl) (by kernel_rfl) (by kernel_rfl) .u64 (by kernel_rfl) hc
  go_enter Try.func83, Try.ntmps83
  go_wp2
  go_ret
  exact ⟨rfl, rfl⟩
theorem u64_add0 (a : Addr) (w : World) (hc : w.cell? a = some (.int .u64 0)) (hz : w.frozen? a = false) :
    Calls Try.prog 81 #[.pointer (some a), .int .u64 0] w fun e w' => e = .returned (.int .u64 0) ∧ w' = w.setCell a (.int .u64 0) := by
  have hadd := run_call_add (P := Try.prog) Try.func95 (by kernel_rfl) (by kernel_rfl) (by kernel_rfl) .u64 (by kernel_rfl) (y := 0) (s := 0) hc hz (by simp [go_sem]; rfl)
  go_enter Try.func81, Try.ntmps81
  go_wp2
  go_ret
  exact ⟨rfl, rfl⟩
set_option maxRecDepth 100000 in
set_option maxHeartbeats 1600000 in
/-- '(*sync.WaitGroup).Wait', nobody to wait for. -/
theorem wait0 (b : Nat) (w : World) (hc : w.cell? ⟨b, 0, none⟩ = some (.int .u64 0)) :
    Calls Try.prog 63 #[.pointer (some ⟨b, 0, none⟩)] w fun e w' => e = .returned (.tuple #[]) ∧ w' = w := by
  have hd := disable
  have he := enable
  have ha := acquire
  have CL := hide (u64_load ⟨b, 0, none⟩ 0 w hc)
  have hcv := run_convert_to_unsafe (P := Try.prog) (src := 130) (dst := 61) Try.underlying130 Try.underlying61 (by kernel_rfl) hc
  clear hc
  go_enter Try.func63, Try.ntmps63
  go_wp2_with (go_at_call 83; refine CL.out.mono ?_; rintro e w1 ⟨rfl, rfl⟩)
  refine wp_loop_rounds 1 ?_
  rw [rounds_succ]
  go_wp2_with (go_at_call 83; refine CL.out.mono ?_; rintro e w1 ⟨rfl, rfl⟩)
  refine bodyPost_ret (results_none rfl _ _ _) rfl ?_
  exact ⟨rfl, rfl⟩
set_option maxRecDepth 100000 in
set_option maxHeartbeats 1600000 in
/-- '(*sync.WaitGroup).Add(0)'. -/
theorem add0 (b : Nat) (w : World) (hc : w.cell? ⟨b, 0, none⟩ = some (.int .u64 0)) (hz : w.frozen? ⟨b, 0, none⟩ = false) :
    Calls Try.prog 60 #[.pointer (some ⟨b, 0, none⟩), .int .i64 0] w fun e w' => e = .returned (.tuple #[]) ∧ w' = w.setCell ⟨b, 0, none⟩ (.int .u64 0) := by
  have hd := disable
  have hb := no_bubble
  have hnot : ∀ (x : Bool) (w : World), (Op.unary .not (.bool x)).run Try.prog w = .ok (.bool (!x)) w := fun _ _ => rfl
  have CA := hide (u64_add0 ⟨b, 0, none⟩ w hc hz)
  clear hc hz
  have he := enable
  refine calls_of_wp_value Try.func60 rfl ?_
  simp only [Try.ntmps60, List.size_toArray, List.length_cons, List.length_nil, Nat.reduceAdd, Nat.reduceSub, Array.replicate_succ, Array.replicate_zero, List.push_toArray, List.append_toArray, List.nil_append, List.cons_append]
  go_wp2_with (go_at_call 81; refine CA.out.mono ?_; rintro e w1 ⟨rfl, rfl⟩)
  refine ⟨⟨_, _, _, .tuple #[], rfl, ?_⟩, _, results_none rfl _ _ _, rfl, rfl⟩
  simp [go_sem, he]
theorem ret_int {k : IntKind} {a b : Int} (h : a = b) : Ending.returned (.int k a) = .returned (.int k b) := by rw [h]
theorem size0 (n : Int) (h : n ≤ 0) (w : World) : Calls Try.prog 37 #[.int .i64 n] w fun e w' => e = .returned (.int .i64 0) ∧ w' = w := by
  by_cases h0 : n = 0
  · subst h0
    go_enter Try.func37, Try.ntmps37
    go_wp2
    go_ret
    exact ⟨rfl, rfl⟩
  · have h1 : n < 0 := by omega
    go_enter Try.func37, Try.ntmps37
    go_wp2
    go_ret
    exact ⟨ret_int (by simp), rfl⟩
set_option maxRecDepth 100000 in
set_option maxHeartbeats 1600000 in
theorem crowd0 (K : Nat) (cap : Array Value) (w : World) : Calls Try.prog 38 #[.int .i64 0, .func (.func K) #[] cap] w fun e w' => e = .returned (.tuple #[]) ∧ Ch (fun _ => False) w w' := by
  obtain ⟨w1, hw1⟩ : ∃ w1, (w.alloc (.cells #[.func (.func K) #[] cap] 41)).alloc (.cells #[.int .u64 0, .int .u32 0] 119) = w1 := ⟨_, rfl⟩
  have C1 : Ch (fun _ => False) w w1 := by rw [← hw1]; exact ((Ch.refl _ _).alloc _).alloc _
  have hc : w1.cell? ⟨w.heap.size + 1, 0, none⟩ = some (.int .u64 0) := by rw [← hw1]; simp
  have hz : w1.frozen? ⟨w.heap.size + 1, 0, none⟩ = false := by rw [← hw1]; simp
  have CA := hide (add0 _ w1 hc hz)
  have CW := hide (wait0 (w.heap.size + 1) (w1.setCell ⟨w.heap.size + 1, 0, none⟩ (.int .u64 0)) (set_s hc))
  have C2 := hide (C1.set (p := ⟨w.heap.size + 1, 0, none⟩) (fun h => by simp at h; omega) (.int .u64 0))
  clear C1 hc hz
  go_enter Try.func38, Try.ntmps38
  go_wp2_with (go_at_call 60; refine CA.out.mono ?_; rintro e w2 ⟨rfl, rfl⟩)
  refine wp_loop_rounds 1 ?_
  rw [rounds_succ]
  go_wp2_with (go_at_call 63; refine CW.out.mono ?_; rintro e w2 ⟨rfl, rfl⟩)
  go_end0
  exact ⟨rfl, C2.out⟩
/-- A count in block b. -/
structure CountAt (w : World) (b : Nat) (n : Int) : Prop where
  lt : b < w.heap.size
  c : w.cell? ⟨b, 0, none⟩ = some (.int .i64 n)
theorem CountAt.ch {S : Nat → Prop} {w w' : World} {b : Nat} {n : Int} (h : CountAt w b n) (k : Ch S w w') (hb : ¬ S b) : CountAt w' b n := ⟨Nat.lt_of_lt_of_le h.lt k.size, (k.cell h.lt hb _).trans h.c⟩
theorem value_any (b : Nat) (n : Int) (w : World) (h : CountAt w b n) : Calls Try.prog 17 #[.pointer (some ⟨b, 0, none⟩)] w fun e w' => e = .returned (.int .i64 n) ∧ w' = w := by
  have CB := hide (i64_load ⟨b, 0, none⟩ n _ h.c)
  clear h
  go_enter Try.func17, Try.ntmps17
  go_wp2_with (go_at_call 36; refine CB.out.mono ?_; rintro e w' ⟨rfl, rfl⟩)
  go_ret
  exact ⟨rfl, rfl⟩
theorem value_nil (w : World) : Calls Try.prog 17 #[.pointer none] w fun e w' => e = .returned (.int .i64 0) ∧ w' = w := by
  go_enter Try.func17, Try.ntmps17
  go_wp2
  go_ret
  exact ⟨rfl, rfl⟩
theorem add_nil (by_ : Int) (w : World) : Calls Try.prog 25 #[.pointer none, .int .i64 by_] w fun e w' => e = .returned (.int .i64 0) ∧ w' = w := by
  go_enter Try.func25, Try.ntmps25
  go_wp2
  go_ret
  exact ⟨rfl, rfl⟩
theorem crowd_nil (n by_ : Int) (w : World) : Calls Try.prog 16 #[.pointer none, .int .i64 n, .int .i64 by_] w fun e w' => e = .returned (.int .i64 0) ∧ Ch (fun _ => False) w w' := by
  have C := hide (((Ch.refl (fun _ => False) w).alloc (.cells #[.pointer none] 30)).alloc (.cells #[.int .i64 by_] 2))
  go_enter Try.func16, Try.ntmps16
  go_wp2
  go_ret
  exact ⟨rfl, C.out⟩
set_option maxRecDepth 100000 in
set_option maxHeartbeats 1600000 in
theorem crowd_low (b : Nat) (v n by_ : Int) (hn : n ≤ 0) (w : World) (h : CountAt w b v) : Calls Try.prog 16 #[.pointer (some ⟨b, 0, none⟩), .int .i64 n, .int .i64 by_] w fun e w' => e = .returned (.int .i64 v) ∧ Ch (fun _ => False) w w' := by
  have hmf : ∀ (fn : Fn) (first cap : Array Value) (w : World), (Instr.makeFunc fn first cap).run Try.prog w = .ok (.func fn first cap) w := fun _ _ _ _ => rfl
  have K1 := (Ch.refl (fun _ => False) w).alloc (.cells #[.pointer (some ⟨b, 0, none⟩)] 30)
  have K2 := K1.alloc (.cells #[.int .i64 by_] 2)
  obtain ⟨w1, hw1⟩ : ∃ w1, (w.alloc (.cells #[.pointer (some ⟨b, 0, none⟩)] 30)).alloc (.cells #[.int .i64 by_] 2) = w1 := ⟨_, rfl⟩
  have c0 : w1.cell? ⟨w.heap.size, 0, none⟩ = some (.pointer (some ⟨b, 0, none⟩)) := by rw [← hw1]; simp
  have l0 : w.heap.size < w1.heap.size := by rw [← hw1]; simp; omega
  rw [hw1] at K2
  have A1 := h.ch K2 (fun f => f)
  have CS := hide (size0 n hn)
  have CC := hide (fun K cap => crowd0 K cap w1)
  have NX := hide (fun (w2 : World) (C : Ch (fun _ => False) w1 w2) => And.intro ((C.cell l0 (fun f => f) 0).trans c0) (And.intro (A1.ch C (fun f => f)) (K2.trans C)))
  clear h K1 K2 A1 l0
  go_enter Try.func16, Try.ntmps16
  go_wp2_with (first
    | (go_at_call 37; refine (CS.out _).mono ?_; rintro e w2 ⟨rfl, rfl⟩)
    | (go_at_call 38; refine (CC.out _ _).mono ?_; rintro e w2 ⟨rfl, C2⟩; obtain ⟨d0, A2, C3⟩ := NX.out w2 C2; clear C2; replace A2 := hide A2; replace C3 := hide C3)
    | (go_at_call 17; refine (value_any _ _ _ A2.out).mono ?_; rintro e w3 ⟨rfl, rfl⟩))
  go_ret
  exact ⟨rfl, C3.out⟩
theorem boxi_put (x : Int) (w : World) : Calls Try.prog 18 #[.pointer none, .int .i64 x] w fun e w' => e = .returned (.tuple #[]) ∧ Ch (fun _ => False) w w' := by
  have C := hide ((Ch.refl (fun _ => False) w).alloc (.cells #[.int .i64 x] 3))
  go_enter Try.func18, Try.ntmps18
  go_wp2
  go_end0
  exact ⟨rfl, C.out⟩
theorem openedi (w : World) : Calls Try.prog 43 #[.pointer none] w fun e w' => e = .returned (.tuple #[.int .i64 0, .bool false]) ∧ w' = w := by
  go_enter Try.func43, Try.ntmps43
  go_wp2
  go_ret2
  exact ⟨rfl, rfl⟩
theorem boxi_get (w : World) : Calls Try.prog 19 #[.pointer none] w fun e w' => e = .returned (.tuple #[.int .i64 0, .bool false]) ∧ w' = w := by
  have O := hide openedi
  go_enter Try.func19, Try.ntmps19
  go_wp2_with (go_at_call 43; refine (O.out _).mono ?_; rintro e w1 ⟨rfl, rfl⟩)
  go_ret2
  exact ⟨rfl, rfl⟩
theorem boxi_swap (x : Int) (w : World) : Calls Try.prog 20 #[.pointer none, .int .i64 x] w fun e w' => e = .returned (.tuple #[.int .i64 0, .bool false]) ∧ Ch (fun _ => False) w w' := by
  have C := hide ((Ch.refl (fun _ => False) w).alloc (.cells #[.int .i64 x] 3))
  have O := hide openedi
  go_enter Try.func20, Try.ntmps20
  go_wp2_with (go_at_call 43; refine (O.out _).mono ?_; rintro e w1 ⟨rfl, rfl⟩)
  go_ret2
  exact ⟨rfl, C.out⟩
theorem cs_get (w : World) : Calls Try.prog 21 #[.pointer none] w fun e w' => e = .returned (.string ⟨#[]⟩) ∧ w' = w := by
  go_enter Try.func21, Try.ntmps21
  go_wp2
  go_ret
  exact ⟨rfl, rfl⟩
theorem cs_done (w : World) : Calls Try.prog 22 #[.pointer none] w fun e w' => e = .returned (.bool false) ∧ w' = w := by
  go_enter Try.func22, Try.ntmps22
  go_wp2
  go_ret
  exact ⟨rfl, rfl⟩
theorem cs_runs (w : World) : Calls Try.prog 23 #[.pointer none] w fun e w' => e = .returned (.int .i64 0) ∧ w' = w := by
  go_enter Try.func23, Try.ntmps23
  go_wp2
  go_ret
  exact ⟨rfl, rfl⟩
theorem cs_together (n : Int) (w : World) : Calls Try.prog 24 #[.pointer none, .int .i64 n] w fun e w' => e = .returned (.slice none 0 0) ∧ Ch (fun _ => False) w w' := by
  have C := hide ((Ch.refl (fun _ => False) w).alloc (.cells #[.pointer none] 39))
  go_enter Try.func24, Try.ntmps24
  go_wp2
  go_ret
  exact ⟨rfl, C.out⟩
end Go.Proofs.Ytbigejdabeibeaa
