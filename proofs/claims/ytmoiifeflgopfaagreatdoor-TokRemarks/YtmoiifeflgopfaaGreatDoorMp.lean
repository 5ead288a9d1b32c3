/-
  A number, and what it is of, by the program.
  What begins with a dash, by the program.
-/
import Derived.Test.YtmoiifeflgopfaaGreatDoorMm
import Derived.Test.YtmoiifeflgopfaaGreatDoorMi
import Derived.Outline
import Derived.Test.YtmoiifeflgopfaaGreatDoorMo
set_option linter.unusedVariables false
set_option linter.unusedSimpArgs false
namespace Go.Proofs.YtmoiifeflgopfaaGreatDoor
open Go.RowKit

/-- A token that is being made. -/
def tokO (k : Int) (t : ByteArray) (n d : Int) (wh i : Bool) : Obj := .cells #[.int .i64 k, .string t, .int .i64 n, .int .i64 d, .bool wh, .bool i] 32
structure Made6 (w : World) (r : Nat) (k : Int) (t : ByteArray) (n d : Int) (wh i : Bool) : Prop where
  f0 : w.frozen? ⟨r, 0, none⟩ = false
  f1 : w.frozen? ⟨r, 1, none⟩ = false
  c0 : w.cell? ⟨r, 0, none⟩ = some (.int .i64 k)
  c1 : w.cell? ⟨r, 1, none⟩ = some (.string t)
  c2 : w.cell? ⟨r, 2, none⟩ = some (.int .i64 n)
  c3 : w.cell? ⟨r, 3, none⟩ = some (.int .i64 d)
  c4 : w.cell? ⟨r, 4, none⟩ = some (.bool wh)
  c5 : w.cell? ⟨r, 5, none⟩ = some (.bool i)
theorem tokO_made {w : World} {r : Nat} {k : Int} {t : ByteArray} {n d : Int} {wh i : Bool} (h : w.heap[r]? = some (tokO k t n d wh i)) : Made6 w r k t n d wh i := by
  constructor <;> simp [World.frozen?, World.cell?, h, tokO]
theorem tokO_kind {w : World} {r : Nat} {k k' : Int} {t : ByteArray} {n d : Int} {wh i : Bool} (h : w.heap[r]? = some (tokO k t n d wh i)) : (w.setCell ⟨r, 0, none⟩ (.int .i64 k')).heap[r]? = some (tokO k' t n d wh i) := by
  unfold tokO at h
  exact (heap_set h 0 _).trans rfl
theorem heap2 (w : World) (o p : Obj) : ((w.alloc o).alloc p).heap[w.heap.size + 1]? = some p := by
  have h := Array.getElem?_push_size (xs := (w.alloc o).heap) (x := p)
  have e : (w.alloc o).heap.size = w.heap.size + 1 := by simp
  rw [e] at h
  exact h
theorem put_heap {w : World} {r m : Nat} {o : Obj} (h : w.heap[r]? = some o) (hm : r ≠ m) (i : Nat) (x : Value) : (w.setCell ⟨m, i, none⟩ x).heap[r]? = some o :=
  (Below.heap_setCell _ _ _ _ (by simpa using hm)).trans h
theorem nmT_len (s : List Int) : (nmT s).length ≤ s.length := by unfold nmT; rw [List.length_take]; omega
theorem numText {t : ByteArray} {s : List Int} {k : Nat} (h : bl t = enc (nmT s)) (hs : s.length ≤ k) (hk : k ≤ 250000000) : t.size ≤ 1000000000 := by
  have h1 := bl_len t
  have h2 := (enc_len (nmT s)).2
  have h3 := nmT_len s
  rw [h] at h1
  omega
set_option maxRecDepth 100000 in
set_option maxHeartbeats 2000000 in
theorem numberToken_any (T : TypeId) (W w : World) (b : Nat) (v : Value) (l s : List Int) (hL : l.length ≤ 250000000) (h0 : nx s 0 ≠ -1) (h : At T W w b v l s) :
    Calls Tryz.prog 23 #[.pointer (some ⟨b, 0, none⟩)] w fun e w' => Tells e (numb s).1 ∧ At T W w' b v l (numb s).2 ∧ w.grownBy w' (some b) := by
  have hb0 := h.lt
  have hsl := h.len.1
  have A1 := hide (h.below (bplus (Below.refl _ _) tok0))
  have M := hide (Mod.of b (bplus (Below.refl w.heap.size w) tok0))
  have Z := hide (tok0_alloc w)
  clear h
  have L9 := hide (show l.length ≤ 35184372088832 by omega)
  have TX := hide (fun (t : ByteArray) (ht : bl t = enc (nmT s)) => numText ht hsl hL)
  obtain ⟨n, hn⟩ : ∃ x, (dcT (enc (nmT s))).1.1 = x := ⟨_, rfl⟩
  obtain ⟨d, hd⟩ : ∃ x, (dcT (enc (nmT s))).1.2 = x := ⟨_, rfl⟩
  obtain ⟨wh, hwh⟩ : ∃ x, (dcT (enc (nmT s))).2 = x := ⟨_, rfl⟩
  obtain ⟨er, her⟩ : ∃ x, dE (enc (nmT s)) = x := ⟨_, rfl⟩
  have DV := hide (show ∀ t : ByteArray, bl t = enc (nmT s) → decV (bl t) = .tuple #[.agg #[.int .i64 n, .int .i64 d], .bool wh, .int .i64 er] from fun t ht => by
    rw [ht, ← hn, ← hd, ← hwh, ← her]; rfl)
  obtain ⟨nb, hnb⟩ : ∃ x, numb s = x := ⟨_, rfl⟩
  rw [hnb]
  unfold numb at hnb
  rw [hn, hd, hwh] at hnb
  clear hn hd hwh her hsl hL
  obtain ⟨z, hz⟩ : ∃ z, nmZ s = z := ⟨_, rfl⟩
  have ZE := hide hz
  rw [hz] at hnb
  clear hz
  obtain ⟨y, hy⟩ : ∃ y, nmB (nx z 0) (nx z 1) (nx z 2) = y := ⟨_, rfl⟩
  have Y := hide hy
  rw [hy] at hnb
  clear hy
  cases y
  · rw [if_neg (by simp)] at hnb
    obtain ⟨x, hx⟩ : ∃ x, nx z 0 = x := ⟨_, rfl⟩
    have X := hide hx
    rw [hx] at hnb
    clear hx
    by_cases h37 : x = 37
    · subst h37
      rw [if_pos rfl] at hnb
      obtain ⟨u, hu⟩ : ∃ u, z.drop 1 = u := ⟨_, rfl⟩
      have U := hide (show z.drop (Int.toNat 1) = u from hu)
      rw [hu] at hnb
      have E := hide hnb.symm
      clear hnb hu
      go_enter Tryz.func23, Tryz.ntmps23
      go_wp2_with (first
        | (go_at_call 33; refine (takeNumber_any T W _ b v l s L9.out h0 A1.out).mono ?_; rintro e w1 ⟨t, rfl, ht, A2, M2⟩; rw [ZE.out] at A2; replace ht := hide ht; replace A1 := hide A2; replace M := hide (Mod.trans M.out M2); replace Z := hide (keep Z.out (Nat.ne_of_gt hb0) M2); clear A2 M2)
        | (go_at_call 32; refine (decP_any t _ (TX.out t ht.out)).mono ?_; rintro e w2 ⟨he, B1⟩; rw [DV.out t ht.out] at he; subst he; replace A1 := hide (A1.out.below B1); replace M := hide (Mod.trans M.out (Mod.of b B1)); replace Z := hide (keep Z.out (Nat.ne_of_gt hb0) (Mod.of b B1)); have hm := A1.out.lt; have hrm := (Array.getElem?_eq_some_iff.1 Z.out).1; have hbm : b < w2.heap.size + 1 := Nat.lt_succ_of_lt hm; have hmb : w2.heap.size + 1 ≠ b := Nat.ne_of_gt hbm; have hwm : w.heap.size ≤ w2.heap.size + 1 := Nat.le_of_lt (Nat.lt_succ_of_lt hrm); have hrn : w.heap.size ≠ w2.heap.size + 1 := Nat.ne_of_lt (Nat.lt_succ_of_lt hrm); have hrn' : ¬ w2.heap.size + 1 = w.heap.size := Nat.ne_of_gt (Nat.lt_succ_of_lt hrm); clear B1 hm hrm)
        | (go_at_call 16; refine (aheadA T W _ b _ l _ (A1.out.below (bplus (bplus (Below.refl _ _) _) _))).mono ?_; rintro e w3 ⟨f, rfl, HL, B1⟩; replace HL := hide HL; have Q := hide ((B1.block (w2.heap.size + 1) (by simp)).trans (show _ = some (tokO 10 ⟨#[]⟩ n d wh false) from heap2 w2 _ _)); have B2 := bto (bplus (bplus (Below.refl w2.heap.size w2) _) _) B1; replace A1 := hide (A1.out.below B2); replace M := hide (Mod.trans M.out (Mod.of b B2)); replace Z := hide (keep Z.out (Nat.ne_of_gt hb0) (Mod.of b B2)); clear B1 B2)
        | (go_at_call 34; refine (nameB_any _ z _ (HL.out.le (by decide))).mono ?_; rintro e w4 ⟨he, B1⟩; rw [Y.out] at he; subst he; replace A1 := hide (A1.out.below B1); replace M := hide (Mod.trans M.out (Mod.of b B1)); replace Z := hide (keep Z.out (Nat.ne_of_gt hb0) (Mod.of b B1)); replace Q := hide (keep Q.out hmb (Mod.of b B1)); clear B1)
        | (go_at_call 10; refine (nextA T W _ b v l z A1.out).mono ?_; rintro e w5 ⟨he, B1⟩; rw [X.out] at he; subst he; replace A1 := hide (A1.out.below B1); replace M := hide (Mod.trans M.out (Mod.of b B1)); replace Z := hide (keep Z.out (Nat.ne_of_gt hb0) (Mod.of b B1)); replace Q := hide (keep Q.out hmb (Mod.of b B1)); clear B1)
        | (go_at_call 17; refine (skipA T W _ b v l z 1 A1.out (by decide) (by decide)).mono ?_; rintro e w6 ⟨rfl, A2, M2⟩; rw [U.out] at A2; replace A1 := hide A2; replace M := hide (Mod.trans M.out M2); replace Z := hide (keep Z.out (Nat.ne_of_gt hb0) M2); replace Q := hide (keep Q.out hmb M2); obtain ⟨f0, f1, f2, f3, f4, f5, c0, c1, c2, c3, c4, c5⟩ := tok0_free Z.out; obtain ⟨g0, g1, d0, d1, d2, d3, d4, d5⟩ := tokO_made Q.out; clear A2 M2))
      have MM := M.out
      refine bodyPost_ret (v := tkV 11 ⟨#[]⟩ n d wh false) (by simp [results, Tryz.results23, go_sem, tkV, c0, c1, c2, c3, c4, c5]) rfl ?_
      exact ⟨by rw [E.out]; exact ⟨_, rfl, rfl⟩, by rw [E.out]; repeat (first | (with_reducible exact A1.out) | (with_reducible refine At.put ?_ hb0 _ _) | (with_reducible refine At.put ?_ hbm _ _)), by repeat (first | (with_reducible exact MM) | (with_reducible refine Mod.put ?_ (Nat.le_refl _) _ _) | (with_reducible refine Mod.put ?_ hwm _ _))⟩
    · rw [if_neg h37] at hnb
      have e37 : (x == 37) = false := by simpa using h37
      have E := hide hnb.symm
      clear hnb
      go_enter Tryz.func23, Tryz.ntmps23
      go_wp2_with (first
        | (go_at_call 33; refine (takeNumber_any T W _ b v l s L9.out h0 A1.out).mono ?_; rintro e w1 ⟨t, rfl, ht, A2, M2⟩; rw [ZE.out] at A2; replace ht := hide ht; replace A1 := hide A2; replace M := hide (Mod.trans M.out M2); replace Z := hide (keep Z.out (Nat.ne_of_gt hb0) M2); clear A2 M2)
        | (go_at_call 32; refine (decP_any t _ (TX.out t ht.out)).mono ?_; rintro e w2 ⟨he, B1⟩; rw [DV.out t ht.out] at he; subst he; replace A1 := hide (A1.out.below B1); replace M := hide (Mod.trans M.out (Mod.of b B1)); replace Z := hide (keep Z.out (Nat.ne_of_gt hb0) (Mod.of b B1)); have hm := A1.out.lt; have hrm := (Array.getElem?_eq_some_iff.1 Z.out).1; have hbm : b < w2.heap.size + 1 := Nat.lt_succ_of_lt hm; have hmb : w2.heap.size + 1 ≠ b := Nat.ne_of_gt hbm; have hwm : w.heap.size ≤ w2.heap.size + 1 := Nat.le_of_lt (Nat.lt_succ_of_lt hrm); have hrn : w.heap.size ≠ w2.heap.size + 1 := Nat.ne_of_lt (Nat.lt_succ_of_lt hrm); have hrn' : ¬ w2.heap.size + 1 = w.heap.size := Nat.ne_of_gt (Nat.lt_succ_of_lt hrm); clear B1 hm hrm)
        | (go_at_call 16; refine (aheadA T W _ b _ l _ (A1.out.below (bplus (bplus (Below.refl _ _) _) _))).mono ?_; rintro e w3 ⟨f, rfl, HL, B1⟩; replace HL := hide HL; have Q := hide ((B1.block (w2.heap.size + 1) (by simp)).trans (show _ = some (tokO 10 ⟨#[]⟩ n d wh false) from heap2 w2 _ _)); have B2 := bto (bplus (bplus (Below.refl w2.heap.size w2) _) _) B1; replace A1 := hide (A1.out.below B2); replace M := hide (Mod.trans M.out (Mod.of b B2)); replace Z := hide (keep Z.out (Nat.ne_of_gt hb0) (Mod.of b B2)); clear B1 B2)
        | (go_at_call 34; refine (nameB_any _ z _ (HL.out.le (by decide))).mono ?_; rintro e w4 ⟨he, B1⟩; rw [Y.out] at he; subst he; replace A1 := hide (A1.out.below B1); replace M := hide (Mod.trans M.out (Mod.of b B1)); replace Z := hide (keep Z.out (Nat.ne_of_gt hb0) (Mod.of b B1)); replace Q := hide (keep Q.out hmb (Mod.of b B1)); clear B1)
        | (go_at_call 10; refine (nextA T W _ b v l z A1.out).mono ?_; rintro e w5 ⟨he, B1⟩; rw [X.out] at he; subst he; replace A1 := hide (A1.out.below B1); replace M := hide (Mod.trans M.out (Mod.of b B1)); replace Z := hide (keep Z.out (Nat.ne_of_gt hb0) (Mod.of b B1)); replace Q := hide (keep Q.out hmb (Mod.of b B1)); obtain ⟨f0, f1, f2, f3, f4, f5, c0, c1, c2, c3, c4, c5⟩ := tok0_free Z.out; obtain ⟨g0, g1, d0, d1, d2, d3, d4, d5⟩ := tokO_made Q.out; clear B1))
      have MM := M.out
      refine bodyPost_ret (v := tkV 10 ⟨#[]⟩ n d wh false) (by simp [results, Tryz.results23, go_sem, tkV, c0, c1, c2, c3, c4, c5]) rfl ?_
      exact ⟨by rw [E.out]; exact ⟨_, rfl, rfl⟩, by rw [E.out]; repeat (first | (with_reducible exact A1.out) | (with_reducible refine At.put ?_ hb0 _ _) | (with_reducible refine At.put ?_ hbm _ _)), by repeat (first | (with_reducible exact MM) | (with_reducible refine Mod.put ?_ (Nat.le_refl _) _ _) | (with_reducible refine Mod.put ?_ hwm _ _))⟩
  · rw [if_pos rfl] at hnb
    obtain ⟨⟨nm, r⟩, hnm⟩ : ∃ x, nam [] z = x := ⟨_, rfl⟩
    have NN := hide hnm
    rw [hnm] at hnb
    have E := hide hnb.symm
    clear hnb hnm
    go_enter Tryz.func23, Tryz.ntmps23
    go_wp2_with (first
      | (go_at_call 33; refine (takeNumber_any T W _ b v l s L9.out h0 A1.out).mono ?_; rintro e w1 ⟨t, rfl, ht, A2, M2⟩; rw [ZE.out] at A2; replace ht := hide ht; replace A1 := hide A2; replace M := hide (Mod.trans M.out M2); replace Z := hide (keep Z.out (Nat.ne_of_gt hb0) M2); clear A2 M2)
      | (go_at_call 32; refine (decP_any t _ (TX.out t ht.out)).mono ?_; rintro e w2 ⟨he, B1⟩; rw [DV.out t ht.out] at he; subst he; replace A1 := hide (A1.out.below B1); replace M := hide (Mod.trans M.out (Mod.of b B1)); replace Z := hide (keep Z.out (Nat.ne_of_gt hb0) (Mod.of b B1)); have hm := A1.out.lt; have hrm := (Array.getElem?_eq_some_iff.1 Z.out).1; have hbm : b < w2.heap.size + 1 := Nat.lt_succ_of_lt hm; have hmb : w2.heap.size + 1 ≠ b := Nat.ne_of_gt hbm; have hwm : w.heap.size ≤ w2.heap.size + 1 := Nat.le_of_lt (Nat.lt_succ_of_lt hrm); have hrn : w.heap.size ≠ w2.heap.size + 1 := Nat.ne_of_lt (Nat.lt_succ_of_lt hrm); have hrn' : ¬ w2.heap.size + 1 = w.heap.size := Nat.ne_of_gt (Nat.lt_succ_of_lt hrm); clear B1 hm hrm)
      | (go_at_call 16; refine (aheadA T W _ b _ l _ (A1.out.below (bplus (bplus (Below.refl _ _) _) _))).mono ?_; rintro e w3 ⟨f, rfl, HL, B1⟩; replace HL := hide HL; have Q := hide ((B1.block (w2.heap.size + 1) (by simp)).trans (show _ = some (tokO 10 ⟨#[]⟩ n d wh false) from heap2 w2 _ _)); have B2 := bto (bplus (bplus (Below.refl w2.heap.size w2) _) _) B1; replace A1 := hide (A1.out.below B2); replace M := hide (Mod.trans M.out (Mod.of b B2)); replace Z := hide (keep Z.out (Nat.ne_of_gt hb0) (Mod.of b B2)); clear B1 B2)
      | (go_at_call 34; refine (nameB_any _ z _ (HL.out.le (by decide))).mono ?_; rintro e w4 ⟨he, B1⟩; rw [Y.out] at he; subst he; replace A1 := hide (A1.out.below B1); replace M := hide (Mod.trans M.out (Mod.of b B1)); replace Z := hide (keep Z.out (Nat.ne_of_gt hb0) (Mod.of b B1)); replace Q := hide (keep Q.out hmb (Mod.of b B1)); obtain ⟨g0, g1, d0, d1, d2, d3, d4, d5⟩ := tokO_made Q.out; clear B1)
      | (go_at_call 35; refine (takeName_any T W _ b v l z L9.out (At.put A1.out hbm 0 (.int .i64 12))).mono ?_; rintro e w6 ⟨t', rfl, ht', A2, M2⟩; rw [NN.out] at ht' A2; replace ht' := hide ht'; replace A1 := hide A2; replace M := hide (Mod.trans (Mod.put M.out hwm 0 (.int .i64 12)) M2); replace Z := hide (keep (put_heap Z.out hrn 0 (.int .i64 12)) (Nat.ne_of_gt hb0) M2); replace Q := hide (keep (tokO_kind (k' := 12) Q.out) hmb M2); clear A2 M2 g0 g1 d0 d1 d2 d3 d4 d5; obtain ⟨f0, f1, f2, f3, f4, f5, c0, c1, c2, c3, c4, c5⟩ := tok0_free Z.out; obtain ⟨g0, g1, d0, d1, d2, d3, d4, d5⟩ := tokO_made Q.out))
    have MM := M.out
    refine bodyPost_ret (v := tkV 12 t' n d wh false) (by simp [results, Tryz.results23, go_sem, tkV, c0, c1, c2, c3, c4, c5]) rfl ?_
    exact ⟨by rw [E.out]; exact ⟨_, rfl, ht'.out⟩, by rw [E.out]; repeat (first | (with_reducible exact A1.out) | (with_reducible refine At.put ?_ hb0 _ _) | (with_reducible refine At.put ?_ hbm _ _)), by repeat (first | (with_reducible exact MM) | (with_reducible refine Mod.put ?_ (Nat.le_refl _) _ _) | (with_reducible refine Mod.put ?_ hwm _ _))⟩
end Go.Proofs.YtmoiifeflgopfaaGreatDoor
set_option linter.unusedVariables false
set_option linter.unusedSimpArgs false
namespace Go.Proofs.YtmoiifeflgopfaaGreatDoor
open Go.RowKit

/-- What begins with a dash. -/
def dash (s : List Int) : Tk × List Int :=
  if nuB (nx s 0) (nx s 1) (nx s 2) then numb s
  else if nx s 1 = 45 ∧ nx s 2 = 62 then (tk 15, s.drop 3)
  else if nmB (nx s 0) (nx s 1) (nx s 2) then word s else one s
theorem st_dash (s : List Int) (h : nx s 0 = 45) : stB s [45, 45, 62] = decide (nx s 1 = 45 ∧ nx s 2 = 62) := by
  have e1 : nx (s.drop 1) 0 = nx s 1 := nx_drop s 1 0
  have e2 : nx ((s.drop 1).drop 1) 0 = nx s 2 := by rw [nx_drop, nx_drop]
  simp only [stB, h, e1, e2]
  by_cases g1 : nx s 1 = 45 <;> by_cases g2 : nx s 2 = 62 <;> simp [g1, g2]
set_option maxRecDepth 100000 in
set_option maxHeartbeats 2000000 in
theorem dashToken_any (T : TypeId) (W w : World) (b : Nat) (v : Value) (l s : List Int) (hL : l.length ≤ 250000000) (h45 : nx s 0 = 45) (h : At T W w b v l s) :
    Calls Tryz.prog 44 #[.pointer (some ⟨b, 0, none⟩)] w fun e w' => Tells e (dash s).1 ∧ At T W w' b v l (dash s).2 ∧ w.grownBy w' (some b) := by
  have hb0 := h.lt
  have A1 := hide (h.below (bplus (Below.refl _ _) tok0))
  have M := hide (Mod.of b (bplus (Below.refl w.heap.size w) tok0))
  have Z := hide (tok0_alloc w)
  clear h
  have L0 := hide hL
  have L9 := hide (show l.length ≤ 35184372088832 by omega)
  clear hL
  have H1 := hide (show nx s 0 ≠ -1 by omega)
  obtain ⟨wd, hwd⟩ : ∃ x, dash s = x := ⟨_, rfl⟩
  rw [hwd]
  unfold dash at hwd
  obtain ⟨yn, hyn⟩ : ∃ x, nuB (nx s 0) (nx s 1) (nx s 2) = x := ⟨_, rfl⟩
  have YN := hide hyn
  rw [hyn] at hwd
  clear hyn
  cases yn
  · rw [if_neg (by simp)] at hwd
    have ST := st_dash s h45
    by_cases hc : nx s 1 = 45 ∧ nx s 2 = 62
    · rw [decide_eq_true hc] at ST
      rw [if_pos hc] at hwd
      replace ST := hide ST
      obtain ⟨u, hu⟩ : ∃ u, s.drop 3 = u := ⟨_, rfl⟩
      have U := hide (show s.drop (Int.toNat 3) = u from hu)
      rw [hu] at hwd
      have E := hide hwd.symm
      clear hwd hu hc h45
      go_enter Tryz.func44, Tryz.ntmps44
      go_wp2_with (first
        | (go_at_call 16; refine (aheadA T W _ b _ l _ A1.out).mono ?_; rintro e w1 ⟨f, rfl, HL, B1⟩; have HK := hide HL; obtain ⟨g, lb, rfl, eg, hg'⟩ := HL; replace hg' := hide hg'; have BL := hide (Below.refl w1.heap.size w1); replace A1 := hide (A1.out.below B1); replace M := hide (Mod.trans M.out (Mod.of b B1)); replace Z := hide (keep Z.out (Nat.ne_of_gt hb0) (Mod.of b B1)); clear B1)
        | (go_at_call 43; refine (numB_any _ s _ ((HK.out.below BL.out).le (by decide))).mono ?_; rintro e w4 ⟨he, B1⟩; rw [YN.out] at he; subst he; replace BL := hide (bto BL.out B1); replace A1 := hide (A1.out.below B1); replace M := hide (Mod.trans M.out (Mod.of b B1)); replace Z := hide (keep Z.out (Nat.ne_of_gt hb0) (Mod.of b B1)); clear B1)
        | (go_at_call 15; refine (stands_any 9 _ _ s [45, 45, 62] _ (HK.out.below (bplus BL.out _)) (Nums.lit _ 21 [45, 45, 62] 3 rfl (by omega) (by omega)) (by decide) (by decide) (by decide)).mono ?_; rintro e w4 ⟨he, B1⟩; rw [ST.out] at he; subst he; replace BL := hide (bto BL.out (bto (bplus (Below.refl _ _) _) B1)); replace A1 := hide (A1.out.below (bto (bplus (Below.refl _ _) _) B1)); replace M := hide (Mod.trans M.out (Mod.of b (bto (bplus (Below.refl _ _) _) B1))); replace Z := hide (keep Z.out (Nat.ne_of_gt hb0) (Mod.of b (bto (bplus (Below.refl _ _) _) B1))); clear B1)
        | (go_at_call 17; refine (skipA T W _ b v l s 3 A1.out (by decide) (by decide)).mono ?_; rintro e w7 ⟨rfl, A2, M2⟩; rw [U.out] at A2; replace A1 := hide A2; replace M := hide (Mod.trans M.out M2); replace Z := hide (keep Z.out (Nat.ne_of_gt hb0) M2); obtain ⟨f0, f1, f2, f3, f4, f5, c0, c1, c2, c3, c4, c5⟩ := tok0_free Z.out; clear A2 M2))
      have MM := M.out
      refine bodyPost_ret (v := tkV 15 ⟨#[]⟩ 0 0 false false) (by simp [results, Tryz.results44, go_sem, tkV, c0, c1, c2, c3, c4, c5]) rfl ?_
      exact ⟨.tk (congrArg Prod.fst E.out), by rw [E.out]; repeat (first | (with_reducible exact A1.out) | (with_reducible refine At.put ?_ hb0 _ _)), by repeat (first | (with_reducible exact MM) | (with_reducible refine Mod.put ?_ (Nat.le_refl _) _ _))⟩
    · rw [decide_eq_false hc] at ST
      rw [if_neg hc] at hwd
      replace ST := hide ST
      obtain ⟨ym, hym⟩ : ∃ x, nmB (nx s 0) (nx s 1) (nx s 2) = x := ⟨_, rfl⟩
      have YM := hide hym
      rw [hym] at hwd
      clear hym hc h45
      cases ym
      · rw [if_neg (by simp)] at hwd
        obtain ⟨⟨⟨k, tx, nu, de, wh, id⟩, r2⟩, hu2⟩ : ∃ x, one s = x := ⟨_, rfl⟩
        rw [hu2] at hwd
        have UU := hide hu2
        have E := hide hwd.symm
        clear hwd hu2
        go_enter Tryz.func44, Tryz.ntmps44
        go_wp2_with (first
          | (go_at_call 16; refine (aheadA T W _ b _ l _ A1.out).mono ?_; rintro e w1 ⟨f, rfl, HL, B1⟩; have HK := hide HL; obtain ⟨g, lb, rfl, eg, hg'⟩ := HL; replace hg' := hide hg'; have BL := hide (Below.refl w1.heap.size w1); replace A1 := hide (A1.out.below B1); replace M := hide (Mod.trans M.out (Mod.of b B1)); replace Z := hide (keep Z.out (Nat.ne_of_gt hb0) (Mod.of b B1)); clear B1)
          | (go_at_call 43; refine (numB_any _ s _ ((HK.out.below BL.out).le (by decide))).mono ?_; rintro e w4 ⟨he, B1⟩; rw [YN.out] at he; subst he; replace BL := hide (bto BL.out B1); replace A1 := hide (A1.out.below B1); replace M := hide (Mod.trans M.out (Mod.of b B1)); replace Z := hide (keep Z.out (Nat.ne_of_gt hb0) (Mod.of b B1)); clear B1)
          | (go_at_call 15; refine (stands_any 9 _ _ s [45, 45, 62] _ (HK.out.below (bplus BL.out _)) (Nums.lit _ 21 [45, 45, 62] 3 rfl (by omega) (by omega)) (by decide) (by decide) (by decide)).mono ?_; rintro e w4 ⟨he, B1⟩; rw [ST.out] at he; subst he; replace BL := hide (bto BL.out (bto (bplus (Below.refl _ _) _) B1)); replace A1 := hide (A1.out.below (bto (bplus (Below.refl _ _) _) B1)); replace M := hide (Mod.trans M.out (Mod.of b (bto (bplus (Below.refl _ _) _) B1))); replace Z := hide (keep Z.out (Nat.ne_of_gt hb0) (Mod.of b (bto (bplus (Below.refl _ _) _) B1))); clear B1)
          | (go_at_call 34; refine (nameB_any _ s _ ((HK.out.below BL.out).le (by decide))).mono ?_; rintro e w4 ⟨he, B1⟩; rw [YM.out] at he; subst he; replace BL := hide (bto BL.out B1); replace A1 := hide (A1.out.below B1); replace M := hide (Mod.trans M.out (Mod.of b B1)); replace Z := hide (keep Z.out (Nat.ne_of_gt hb0) (Mod.of b B1)); clear B1)
          | (go_at_call 45; refine (oneToken_any T W _ b v l s A1.out).mono ?_; rintro e w6 ⟨⟨z, he, hz⟩, A2, M2⟩; rw [UU.out] at he hz A2; replace he : e = .returned (.agg #[.int .i64 k, .string z, .int .i64 nu, .int .i64 de, .bool wh, .bool id]) := he; subst he; replace hz := hide hz; replace A1 := hide A2; replace M := hide (Mod.trans M.out M2); replace Z := hide (keep Z.out (Nat.ne_of_gt hb0) M2); obtain ⟨f0, f1, f2, f3, f4, f5, c0, c1, c2, c3, c4, c5⟩ := tok0_free Z.out; clear A2 M2))
        have MM := M.out
        refine bodyPost_ret (v := tkV k z nu de wh id) (by simp [results, Tryz.results44, go_sem, tkV, c0, c1, c2, c3, c4, c5]) rfl ?_
        exact ⟨by rw [E.out]; exact ⟨z, rfl, hz.out⟩, by rw [E.out]; repeat (first | (with_reducible exact A1.out) | (with_reducible refine At.put ?_ hb0 _ _)), by repeat (first | (with_reducible exact MM) | (with_reducible refine Mod.put ?_ (Nat.le_refl _) _ _))⟩
      · rw [if_pos rfl] at hwd
        obtain ⟨⟨⟨k, tx, nu, de, wh, id⟩, r2⟩, hu2⟩ : ∃ x, word s = x := ⟨_, rfl⟩
        rw [hu2] at hwd
        have UU := hide hu2
        have E := hide hwd.symm
        clear hwd hu2
        go_enter Tryz.func44, Tryz.ntmps44
        go_wp2_with (first
          | (go_at_call 16; refine (aheadA T W _ b _ l _ A1.out).mono ?_; rintro e w1 ⟨f, rfl, HL, B1⟩; have HK := hide HL; obtain ⟨g, lb, rfl, eg, hg'⟩ := HL; replace hg' := hide hg'; have BL := hide (Below.refl w1.heap.size w1); replace A1 := hide (A1.out.below B1); replace M := hide (Mod.trans M.out (Mod.of b B1)); replace Z := hide (keep Z.out (Nat.ne_of_gt hb0) (Mod.of b B1)); clear B1)
          | (go_at_call 43; refine (numB_any _ s _ ((HK.out.below BL.out).le (by decide))).mono ?_; rintro e w4 ⟨he, B1⟩; rw [YN.out] at he; subst he; replace BL := hide (bto BL.out B1); replace A1 := hide (A1.out.below B1); replace M := hide (Mod.trans M.out (Mod.of b B1)); replace Z := hide (keep Z.out (Nat.ne_of_gt hb0) (Mod.of b B1)); clear B1)
          | (go_at_call 15; refine (stands_any 9 _ _ s [45, 45, 62] _ (HK.out.below (bplus BL.out _)) (Nums.lit _ 21 [45, 45, 62] 3 rfl (by omega) (by omega)) (by decide) (by decide) (by decide)).mono ?_; rintro e w4 ⟨he, B1⟩; rw [ST.out] at he; subst he; replace BL := hide (bto BL.out (bto (bplus (Below.refl _ _) _) B1)); replace A1 := hide (A1.out.below (bto (bplus (Below.refl _ _) _) B1)); replace M := hide (Mod.trans M.out (Mod.of b (bto (bplus (Below.refl _ _) _) B1))); replace Z := hide (keep Z.out (Nat.ne_of_gt hb0) (Mod.of b (bto (bplus (Below.refl _ _) _) B1))); clear B1)
          | (go_at_call 34; refine (nameB_any _ s _ ((HK.out.below BL.out).le (by decide))).mono ?_; rintro e w4 ⟨he, B1⟩; rw [YM.out] at he; subst he; replace BL := hide (bto BL.out B1); replace A1 := hide (A1.out.below B1); replace M := hide (Mod.trans M.out (Mod.of b B1)); replace Z := hide (keep Z.out (Nat.ne_of_gt hb0) (Mod.of b B1)); clear B1)
          | (go_at_call 25; refine (wordToken_any T W _ b v l s L9.out A1.out).mono ?_; rintro e w6 ⟨⟨z, he, hz⟩, A2, M2⟩; rw [UU.out] at he hz A2; replace he : e = .returned (.agg #[.int .i64 k, .string z, .int .i64 nu, .int .i64 de, .bool wh, .bool id]) := he; subst he; replace hz := hide hz; replace A1 := hide A2; replace M := hide (Mod.trans M.out M2); replace Z := hide (keep Z.out (Nat.ne_of_gt hb0) M2); obtain ⟨f0, f1, f2, f3, f4, f5, c0, c1, c2, c3, c4, c5⟩ := tok0_free Z.out; clear A2 M2))
        have MM := M.out
        refine bodyPost_ret (v := tkV k z nu de wh id) (by simp [results, Tryz.results44, go_sem, tkV, c0, c1, c2, c3, c4, c5]) rfl ?_
        exact ⟨by rw [E.out]; exact ⟨z, rfl, hz.out⟩, by rw [E.out]; repeat (first | (with_reducible exact A1.out) | (with_reducible refine At.put ?_ hb0 _ _)), by repeat (first | (with_reducible exact MM) | (with_reducible refine Mod.put ?_ (Nat.le_refl _) _ _))⟩
  · rw [if_pos rfl] at hwd
    clear h45
    obtain ⟨⟨⟨k, tx, nu, de, wh, id⟩, r2⟩, hu2⟩ : ∃ x, numb s = x := ⟨_, rfl⟩
    rw [hu2] at hwd
    have UU := hide hu2
    have E := hide hwd.symm
    clear hwd hu2
    go_enter Tryz.func44, Tryz.ntmps44
    go_wp2_with (first
      | (go_at_call 16; refine (aheadA T W _ b _ l _ A1.out).mono ?_; rintro e w1 ⟨f, rfl, HL, B1⟩; have HK := hide HL; obtain ⟨g, lb, rfl, eg, hg'⟩ := HL; replace hg' := hide hg'; have BL := hide (Below.refl w1.heap.size w1); replace A1 := hide (A1.out.below B1); replace M := hide (Mod.trans M.out (Mod.of b B1)); replace Z := hide (keep Z.out (Nat.ne_of_gt hb0) (Mod.of b B1)); clear B1)
      | (go_at_call 43; refine (numB_any _ s _ ((HK.out.below BL.out).le (by decide))).mono ?_; rintro e w4 ⟨he, B1⟩; rw [YN.out] at he; subst he; replace BL := hide (bto BL.out B1); replace A1 := hide (A1.out.below B1); replace M := hide (Mod.trans M.out (Mod.of b B1)); replace Z := hide (keep Z.out (Nat.ne_of_gt hb0) (Mod.of b B1)); clear B1)
      | (go_at_call 23; refine (numberToken_any T W _ b v l s L0.out H1.out A1.out).mono ?_; rintro e w6 ⟨⟨z, he, hz⟩, A2, M2⟩; rw [UU.out] at he hz A2; replace he : e = .returned (.agg #[.int .i64 k, .string z, .int .i64 nu, .int .i64 de, .bool wh, .bool id]) := he; subst he; replace hz := hide hz; replace A1 := hide A2; replace M := hide (Mod.trans M.out M2); replace Z := hide (keep Z.out (Nat.ne_of_gt hb0) M2); obtain ⟨f0, f1, f2, f3, f4, f5, c0, c1, c2, c3, c4, c5⟩ := tok0_free Z.out; clear A2 M2))
    have MM := M.out
    refine bodyPost_ret (v := tkV k z nu de wh id) (by simp [results, Tryz.results44, go_sem, tkV, c0, c1, c2, c3, c4, c5]) rfl ?_
    exact ⟨by rw [E.out]; exact ⟨z, rfl, hz.out⟩, by rw [E.out]; repeat (first | (with_reducible exact A1.out) | (with_reducible refine At.put ?_ hb0 _ _)), by repeat (first | (with_reducible exact MM) | (with_reducible refine Mod.put ?_ (Nat.le_refl _) _ _))⟩
end Go.Proofs.YtmoiifeflgopfaaGreatDoor
