/-
  The reference's numbers.
-/
import Derived.Test.YtckefmhleklciaaGreatDoorLRefD
import Derived.Test.YtckefmhleklciaaGreatDoorMp
import Derived.Test.YtckefmhleklciaaGreatDoorMt
import Derived.Deep.DeepCutAuto
import Derived.Deep.CutBlock
set_option linter.unusedVariables false
set_option linter.unusedSimpArgs false
namespace Go.Proofs.YtckefmhleklciaaGreatDoor
open Go.RowKit

theorem Stand.put {T : TypeId} {W w : World} {b r : Nat} {v : Value} {l s : List Int} {p : Nat} (h : Stand T W w b v l s p) (hr : b < r) (i : Nat) (x : Value) : Stand T W (w.setCell ⟨r, i, none⟩ x) b v l s p := by
  have h1 := h.rd
  have := h1.ge
  exact ⟨⟨h1.bel.setCell (p := ⟨r, i, none⟩) (by simp; omega) _, h1.ge, (Below.heap_setCell _ _ _ _ (by simp; omega)).trans h1.blk, h1.nums, h1.len, h1.le⟩, h.eq⟩
/-- A fraction's block, not written yet. -/
def ratO0 : Obj := .cells #[.int .i64 0, .int .i64 0] 32
theorem rat0_in (w : World) : (w.alloc (.cells #[.int .i64 0, .int .i64 0] 32)).heap[w.heap.size]? = some ratO0 := heap_alloc_new w _
theorem rat0_cells {w : World} {m : Nat} (h : w.heap[m]? = some ratO0) : w.cell? ⟨m, 0, none⟩ = some (.int .i64 0) ∧ w.cell? ⟨m, 1, none⟩ = some (.int .i64 0) ∧ w.frozen? ⟨m, 0, none⟩ = false ∧ w.frozen? ⟨m, 1, none⟩ = false := by
  refine ⟨?_, ?_, ?_, ?_⟩ <;> simp [World.frozen?, World.cell?, h, ratO0]
theorem keepB {w w' : World} {m : Nat} {o : Obj} (h : w.heap[m]? = some o) (hw : Below w.heap.size w w') : w'.heap[m]? = some o := (hw.block m (Array.getElem?_eq_some_iff.1 h).1).trans h
set_option maxRecDepth 100000 in
set_option maxHeartbeats 4000000 in
theorem figureR_any (T : TypeId) (W w : World) (b : Nat) (v : Value) (l s : List Int) (hL : l.length ≤ 250000000) (h0 : nx s 0 ≠ -1) (h : At T W w b v l s) :
    Calls Tryz.prog 43 #[.pointer (some ⟨b, 0, none⟩)] w fun e w' => Tells e (numb s).1 ∧ At T W w' b v l (numb s).2 ∧ w.grownBy w' (some b) := by
  have hb0 := h.lt
  have nb1 : ¬ w.heap.size = b := by omega
  have nb2 : ¬ b = w.heap.size := by omega
  have hbw : b < (w.alloc tok0).heap.size := by simp; omega
  have A1 := hide (h.below (bplus (Below.refl _ _) tok0))
  have M0 := hide (Mod.of b (bplus (Below.refl w.heap.size w) tok0))
  have Z := hide (tok0_alloc w)
  obtain ⟨p0, ST, hpl, hlb⟩ := A1.out.stand
  have c1 := ST.c1
  have HS0 := hide ST.eq
  clear ST
  have M := hide (Mod.refl (w.alloc tok0) b)
  obtain ⟨w0, hw0⟩ : ∃ w0, w.alloc tok0 = w0 := ⟨_, rfl⟩
  rw [hw0] at hbw A1 M0 Z M c1
  have hw0' : w.alloc (.cells #[.int .i64 0, .string ⟨#[]⟩, .int .i64 0, .int .i64 0, .bool false, .bool false] 34) = w0 := hw0
  have HZ := hide hw0'
  obtain ⟨x, hx⟩ : ∃ x, nx s 0 = x := ⟨_, rfl⟩
  have H0 := hide (show nx s (Int.toNat 0) = x from hx)
  clear h
  go_enter Tryz.func43, Tryz.ntmps43
  go_upto_region 3 with (go_at_call 18; refine (atR_any T W _ b v l s _ A1.out.r (by decide) (by decide)).mono ?_; rintro e w1 ⟨he, B1⟩; (first | (rw [H0.out] at he)); subst he; replace A1 := hide (A1.out.below B1); replace M := hide (Mod.trans M.out (Mod.of b B1)); clear B1)
  go_cut [23] (fun s23 wx => s23 = .bool (isSg x) ∧ wx = w1)
  case first =>
    by_cases h43 : x = 43
    · subst h43
      go_wp2_with fail
      go_meet
      case rel => exact ⟨rfl, rfl⟩
    · have e43 : (x == 43) = false := by simpa using h43
      by_cases h45 : x = 45
      · subst h45
        go_wp2_with fail
        go_meet
        case rel => exact ⟨rfl, rfl⟩
      · have e45 : (x == 45) = false := by simpa using h45
        go_wp2_with fail
        go_meet
        case rel => exact ⟨by simp [isSg, h43, h45], rfl⟩
  case rest =>
  obtain ⟨rfl, rfl⟩ := hcut
  go_upto_if 23 with fail
  go_cut [] (fun wx => At T W wx b v l (nmS s) ∧ w0.grownBy wx (some b))
  case first =>
    obtain ⟨p, ST, hpl2, _⟩ := A1.out.stand
    have c1 := ST.c1
    have f1 := ST.f1
    replace ST := hide ST
    have hp9 : p ≤ 140737488355328 := by omega
    have L := nx_pos h0
    obtain ⟨y, hy⟩ : ∃ y, isSg x = y := ⟨_, rfl⟩
    have S1 := hide (show nmS s = if y then s.drop 1 else s by unfold nmS; rw [hx, hy])
    rw [hy]
    clear hy
    cases y
    · go_wp2_with fail
      go_meet
      case rel => exact ⟨by rw [S1.out]; exact A1.out, M.out⟩
    · go_wp2_with fail
      go_meet
      case rel => exact ⟨by rw [S1.out]; exact (ST.out.inc 1 _ (by omega) (by omega)).at (by omega), Mod.trans M.out (ST.out.mod _)⟩
  case rest =>
  obtain ⟨A2, M2⟩ := hcut
  replace A1 := hide A2
  replace M := hide M2
  clear A2 M2 hx H0
  obtain ⟨s1, hs1⟩ : ∃ q, nmS s = q := ⟨_, rfl⟩
  obtain ⟨s2, hs2⟩ : ∃ q, dgs s1 = q := ⟨_, rfl⟩
  rw [hs1] at A1
  have S2 := hide hs2
  obtain ⟨x0, hx0⟩ : ∃ x, nx s2 0 = x := ⟨_, rfl⟩
  have H0 := hide (show nx s2 (Int.toNat 0) = x0 from hx0)
  obtain ⟨x1, hx1⟩ : ∃ x, nx s2 1 = x := ⟨_, rfl⟩
  have H1 := hide (show nx s2 (Int.toNat 1) = x1 from hx1)
  go_upto_region 6 with (go_at_call 71; refine (digitsR_any T W _ b v l s1 A1.out).mono ?_; rintro e w2 ⟨rfl, A2, M2⟩; rw [S2.out] at A2; replace A1 := hide A2; replace M := hide (Mod.trans M.out M2); clear A2 M2)
  go_cut [40] (fun s40 wx => s40 = .bool ((x0 == 46) && isDig x1) ∧ At T W wx b v l s2 ∧ w0.grownBy wx (some b))
  case first =>
    by_cases h46 : x0 = 46
    · subst h46
      go_wp2_with (first
        | (go_at_call 18; refine (atR_any T W _ b v l s2 _ A1.out.r (by decide) (by decide)).mono ?_; rintro e w1 ⟨he, B1⟩; (first | (rw [H0.out] at he) | (rw [H1.out] at he)); subst he; replace A1 := hide (A1.out.below B1); replace M := hide (Mod.trans M.out (Mod.of b B1)); clear B1)
        | (go_at_call 70; refine (isDigR_any _ _).mono ?_; rintro e w3 ⟨rfl, rfl⟩))
      go_meet
      case rel => exact ⟨by simp, A1.out, M.out⟩
    · have e46 : (x0 == 46) = false := by simpa using h46
      go_wp2_with (first
        | (go_at_call 18; refine (atR_any T W _ b v l s2 _ A1.out.r (by decide) (by decide)).mono ?_; rintro e w1 ⟨he, B1⟩; (first | (rw [H0.out] at he) | (rw [H1.out] at he)); subst he; replace A1 := hide (A1.out.below B1); replace M := hide (Mod.trans M.out (Mod.of b B1)); clear B1)
        | (go_at_call 70; refine (isDigR_any _ _).mono ?_; rintro e w3 ⟨rfl, rfl⟩))
      go_meet
      case rel => exact ⟨by simp [h46], A1.out, M.out⟩
  case rest =>
  obtain ⟨rfl, A2, M2⟩ := hcut
  replace A1 := hide A2
  replace M := hide M2
  clear A2 M2
  go_upto_if 40 with fail
  go_cut [] (fun wx => At T W wx b v l (nmP s2) ∧ w0.grownBy wx (some b))
  case first =>
    obtain ⟨p, ST, hpl2, _⟩ := A1.out.stand
    have c1 := ST.c1
    have f1 := ST.f1
    replace ST := hide ST
    have hp9 : p ≤ 140737488355328 := by omega
    obtain ⟨y, hy⟩ : ∃ y, ((x0 == 46) && isDig x1) = y := ⟨_, rfl⟩
    have S1 := hide (show nmP s2 = if y then dgs (s2.drop 1) else s2 by unfold nmP; rw [hx0, hx1, hy])
    have L : y = true → 0 < s2.length := fun e => nx_pos (by rw [hx0]; intro g; rw [g] at hy; rw [← hy] at e; simp at e)
    rw [hy]
    clear hy hs2 hx0 hx1
    obtain ⟨t1, ht1⟩ : ∃ q, s2.drop 1 = q := ⟨_, rfl⟩
    rw [ht1] at S1
    have T1 := hide ht1
    clear ht1
    cases y
    · go_wp2_with fail
      go_meet
      case rel => exact ⟨by rw [S1.out]; exact A1.out, M.out⟩
    · have L' := L rfl
      go_wp2_with (go_at_call 71; refine (digitsR_any T W _ b v l t1 (by have := ST.out.inc 1 ((p : Int) + 1) (by omega) (by omega); rw [T1.out] at this; exact this.at (by omega))).mono ?_; rintro e w3 ⟨rfl, A2, M2⟩; replace A1 := hide A2; replace M := hide (Mod.trans (Mod.trans M.out (ST.out.mod ((p : Int) + 1))) M2); clear A2 M2 c1 f1)
      go_meet
      case rel => exact ⟨by rw [S1.out]; exact A1.out, M.out⟩
  case rest =>
  obtain ⟨A2, M2⟩ := hcut
  replace A1 := hide A2
  replace M := hide M2
  clear A2 M2 hx0 hx1 H0 H1
  obtain ⟨s3, hs3⟩ : ∃ q, nmP s2 = q := ⟨_, rfl⟩
  rw [hs3] at A1
  obtain ⟨x0, hx0⟩ : ∃ x, nx s3 0 = x := ⟨_, rfl⟩
  have H0 := hide (show nx s3 (Int.toNat 0) = x0 from hx0)
  obtain ⟨x1, hx1⟩ : ∃ x, nx s3 1 = x := ⟨_, rfl⟩
  have H1 := hide (show nx s3 (Int.toNat 1) = x1 from hx1)
  obtain ⟨x2, hx2⟩ : ∃ x, nx s3 2 = x := ⟨_, rfl⟩
  have H2 := hide (show nx s3 (Int.toNat 2) = x2 from hx2)
  go_upto_region 10 with (go_at_call 18; refine (atR_any T W _ b v l s3 _ A1.out.r (by decide) (by decide)).mono ?_; rintro e w4 ⟨he, B1⟩; (first | (rw [H0.out] at he)); subst he; replace A1 := hide (A1.out.below B1); replace M := hide (Mod.trans M.out (Mod.of b B1)); clear B1)
  go_cut [57] (fun s57 wx => s57 = .bool ((x0 == 101) || (x0 == 69)) ∧ wx = w4)
  case first =>
    by_cases h43 : x0 = 101
    · subst h43
      go_wp2_with fail
      go_meet
      case rel => exact ⟨rfl, rfl⟩
    · have e43 : (x0 == 101) = false := by simpa using h43
      by_cases h45 : x0 = 69
      · subst h45
        go_wp2_with fail
        go_meet
        case rel => exact ⟨rfl, rfl⟩
      · have e45 : (x0 == 69) = false := by simpa using h45
        go_wp2_with fail
        go_meet
        case rel => exact ⟨by simp [h43, h45], rfl⟩
  case rest =>
  obtain ⟨rfl, rfl⟩ := hcut
  go_upto_if 57 with fail
  go_cut [] (fun wx => At T W wx b v l (nmE s3) ∧ w0.grownBy wx (some b))
  case first =>
    obtain ⟨y, hy⟩ : ∃ y, ((x0 == 101) || (x0 == 69)) = y := ⟨_, rfl⟩
    have S1 := hide (show nmE s3 = if (y && (if isSg x1 then isDig x2 else isDig x1)) then dgs (nmS (s3.drop 1)) else s3 by unfold nmE exB; rw [hx0, hx1, hx2, hy])
    rw [hy]
    have L : y = true → 0 < s3.length := fun e => nx_pos (by rw [hx0]; intro g; rw [g] at hy; rw [← hy] at e; simp at e)
    obtain ⟨p, ST, hpl2, _⟩ := A1.out.stand
    have hp9 : p ≤ 140737488355328 := by omega
    clear hy
    cases y
    · go_wp2_with fail
      go_meet
      case rel => exact ⟨by rw [S1.out]; exact A1.out, M.out⟩
    · have L' := L rfl
      replace ST := hide ST
      clear L
      have NS := hide (show nmS (s3.drop 1) = if isSg x1 then s3.drop 2 else s3.drop 1 by unfold nmS; rw [nx_drop, hx1, List.drop_drop])
      have L2 : x1 ≠ -1 → 1 < s3.length := fun h => nx_len (s := s3) (k := 1) (by rw [hx1]; exact h)
      have L3 : x2 ≠ -1 → 2 < s3.length := fun h => nx_len (s := s3) (k := 2) (by rw [hx2]; exact h)
      clear hx0 hx1 hx2 hs3
      have SG := (show x1 = 43 ∨ x1 = 45 ∨ (x1 ≠ 43 ∧ x1 ≠ 45) by omega)
      rcases SG with rfl | rfl | ⟨n43, n45⟩
      · have E := S1.out
        have N := NS.out
        rw [show isSg 43 = true by decide, if_pos rfl] at E N
        rw [N] at E
        obtain ⟨q, hq⟩ : ∃ q, isDig x2 = q := ⟨_, rfl⟩
        have YD := hide hq
        rw [hq] at E
        have LK : q = true → 2 < s3.length := fun e => L3 (by intro g; rw [g] at hq; rw [← hq] at e; simp [isDig] at e)
        clear hq N L2 L3 S1 NS
        obtain ⟨tk, htk⟩ : ∃ z, s3.drop 2 = z := ⟨_, rfl⟩
        rw [htk] at E
        have TK := hide htk
        clear htk
        cases q
        · replace E := hide (show nmE s3 = s3 by simpa using E)
          clear LK
          go_wp2_with (first
            | (go_at_call 18; refine (standAt_any T W _ b v l s3 p _ ST.out (by decide) (by decide)).mono ?_; rintro e w1 ⟨he, B1⟩; (first | (rw [H1.out] at he) | (rw [H2.out] at he)); subst he; replace ST := hide (ST.out.below B1); replace M := hide (Mod.trans M.out (Mod.of b B1)); (try clear c1 f1); have c1 := ST.out.c1; have f1 := ST.out.f1; clear B1)
            | (go_at_call 70; refine (isDigR_any _ _).mono ?_; rintro e w2 ⟨rfl, rfl⟩; rw [YD.out]))
          go_meet
          case rel => exact ⟨by rw [E.out]; exact ST.out.at (by omega), M.out⟩
        · replace E := hide (show nmE s3 = dgs tk by simpa using E)
          have LK' := LK rfl
          clear LK
          go_wp2_with (first
            | (go_at_call 18; refine (standAt_any T W _ b v l s3 p _ ST.out (by decide) (by decide)).mono ?_; rintro e w1 ⟨he, B1⟩; (first | (rw [H1.out] at he) | (rw [H2.out] at he)); subst he; replace ST := hide (ST.out.below B1); replace M := hide (Mod.trans M.out (Mod.of b B1)); (try clear c1 f1); have c1 := ST.out.c1; have f1 := ST.out.f1; clear B1)
            | (go_at_call 70; refine (isDigR_any _ _).mono ?_; rintro e w2 ⟨rfl, rfl⟩; rw [YD.out])
            | (go_at_call 71; refine (digitsR_any T W _ b v l tk (by have := ST.out.inc 2 ((p : Int) + 2) (by omega) (by omega); rw [TK.out] at this; exact this.at (by omega))).mono ?_; rintro e w7 ⟨rfl, A2, M2⟩; replace A1 := hide A2; replace M := hide (Mod.trans (Mod.trans M.out (ST.out.mod ((p : Int) + 2))) M2); clear A2 M2 c1 f1))
          go_meet
          case rel => exact ⟨by rw [E.out]; exact A1.out, M.out⟩
      · have E := S1.out
        have N := NS.out
        rw [show isSg 45 = true by decide, if_pos rfl] at E N
        rw [N] at E
        obtain ⟨q, hq⟩ : ∃ q, isDig x2 = q := ⟨_, rfl⟩
        have YD := hide hq
        rw [hq] at E
        have LK : q = true → 2 < s3.length := fun e => L3 (by intro g; rw [g] at hq; rw [← hq] at e; simp [isDig] at e)
        clear hq N L2 L3 S1 NS
        obtain ⟨tk, htk⟩ : ∃ z, s3.drop 2 = z := ⟨_, rfl⟩
        rw [htk] at E
        have TK := hide htk
        clear htk
        cases q
        · replace E := hide (show nmE s3 = s3 by simpa using E)
          clear LK
          go_wp2_with (first
            | (go_at_call 18; refine (standAt_any T W _ b v l s3 p _ ST.out (by decide) (by decide)).mono ?_; rintro e w1 ⟨he, B1⟩; (first | (rw [H1.out] at he) | (rw [H2.out] at he)); subst he; replace ST := hide (ST.out.below B1); replace M := hide (Mod.trans M.out (Mod.of b B1)); (try clear c1 f1); have c1 := ST.out.c1; have f1 := ST.out.f1; clear B1)
            | (go_at_call 70; refine (isDigR_any _ _).mono ?_; rintro e w2 ⟨rfl, rfl⟩; rw [YD.out]))
          go_meet
          case rel => exact ⟨by rw [E.out]; exact ST.out.at (by omega), M.out⟩
        · replace E := hide (show nmE s3 = dgs tk by simpa using E)
          have LK' := LK rfl
          clear LK
          go_wp2_with (first
            | (go_at_call 18; refine (standAt_any T W _ b v l s3 p _ ST.out (by decide) (by decide)).mono ?_; rintro e w1 ⟨he, B1⟩; (first | (rw [H1.out] at he) | (rw [H2.out] at he)); subst he; replace ST := hide (ST.out.below B1); replace M := hide (Mod.trans M.out (Mod.of b B1)); (try clear c1 f1); have c1 := ST.out.c1; have f1 := ST.out.f1; clear B1)
            | (go_at_call 70; refine (isDigR_any _ _).mono ?_; rintro e w2 ⟨rfl, rfl⟩; rw [YD.out])
            | (go_at_call 71; refine (digitsR_any T W _ b v l tk (by have := ST.out.inc 2 ((p : Int) + 2) (by omega) (by omega); rw [TK.out] at this; exact this.at (by omega))).mono ?_; rintro e w7 ⟨rfl, A2, M2⟩; replace A1 := hide A2; replace M := hide (Mod.trans (Mod.trans M.out (ST.out.mod ((p : Int) + 2))) M2); clear A2 M2 c1 f1))
          go_meet
          case rel => exact ⟨by rw [E.out]; exact A1.out, M.out⟩
      · have e43 : (x1 == 43) = false := by simpa using n43
        have e45 : (x1 == 45) = false := by simpa using n45
        have E := S1.out
        have N := NS.out
        rw [show isSg x1 = false by simp [isSg, n43, n45]] at E N
        rw [if_neg (by simp)] at N
        rw [N] at E
        obtain ⟨q, hq⟩ : ∃ q, isDig x1 = q := ⟨_, rfl⟩
        have YD := hide hq
        rw [hq] at E
        have LK : q = true → 1 < s3.length := fun e => L2 (by intro g; rw [g] at hq; rw [← hq] at e; simp [isDig] at e)
        clear hq N L2 L3 S1 NS
        obtain ⟨tk, htk⟩ : ∃ z, s3.drop 1 = z := ⟨_, rfl⟩
        rw [htk] at E
        have TK := hide htk
        clear htk
        cases q
        · replace E := hide (show nmE s3 = s3 by simpa using E)
          clear LK
          go_wp2_with (first
            | (go_at_call 18; refine (standAt_any T W _ b v l s3 p _ ST.out (by decide) (by decide)).mono ?_; rintro e w1 ⟨he, B1⟩; (first | (rw [H1.out] at he) | (rw [H2.out] at he)); subst he; replace ST := hide (ST.out.below B1); replace M := hide (Mod.trans M.out (Mod.of b B1)); (try clear c1 f1); have c1 := ST.out.c1; have f1 := ST.out.f1; clear B1)
            | (go_at_call 70; refine (isDigR_any _ _).mono ?_; rintro e w2 ⟨rfl, rfl⟩; rw [YD.out]))
          go_meet
          case rel => exact ⟨by rw [E.out]; exact ST.out.at (by omega), M.out⟩
        · replace E := hide (show nmE s3 = dgs tk by simpa using E)
          have LK' := LK rfl
          clear LK
          go_wp2_with (first
            | (go_at_call 18; refine (standAt_any T W _ b v l s3 p _ ST.out (by decide) (by decide)).mono ?_; rintro e w1 ⟨he, B1⟩; (first | (rw [H1.out] at he) | (rw [H2.out] at he)); subst he; replace ST := hide (ST.out.below B1); replace M := hide (Mod.trans M.out (Mod.of b B1)); (try clear c1 f1); have c1 := ST.out.c1; have f1 := ST.out.f1; clear B1)
            | (go_at_call 70; refine (isDigR_any _ _).mono ?_; rintro e w2 ⟨rfl, rfl⟩; rw [YD.out])
            | (go_at_call 71; refine (digitsR_any T W _ b v l tk (by have := ST.out.inc 1 ((p : Int) + 1) (by omega) (by omega); rw [TK.out] at this; exact this.at (by omega))).mono ?_; rintro e w7 ⟨rfl, A2, M2⟩; replace A1 := hide A2; replace M := hide (Mod.trans (Mod.trans M.out (ST.out.mod ((p : Int) + 1))) M2); clear A2 M2 c1 f1))
          go_meet
          case rel => exact ⟨by rw [E.out]; exact A1.out, M.out⟩
  case rest =>
  obtain ⟨A2, M2⟩ := hcut
  replace A1 := hide A2
  replace M := hide M2
  clear A2 M2 hx0 hx1 hx2 H0 H1 H2
  obtain ⟨s4, hs4⟩ : ∃ q, nmZ s = q := ⟨_, rfl⟩
  have ES : nmE s3 = s4 := by rw [← hs4]; unfold nmZ; rw [hs1, hs2, hs3]
  rw [ES] at A1
  obtain ⟨n, hn⟩ : ∃ x, (dcT (enc (nmT s))).1.1 = x := ⟨_, rfl⟩
  obtain ⟨d, hd⟩ : ∃ x, (dcT (enc (nmT s))).1.2 = x := ⟨_, rfl⟩
  obtain ⟨wh, hwh⟩ : ∃ x, (dcT (enc (nmT s))).2 = x := ⟨_, rfl⟩
  obtain ⟨er, her⟩ : ∃ x, dE (enc (nmT s)) = x := ⟨_, rfl⟩
  have DV := hide (show ∀ t : ByteArray, bl t = enc (nmT s) → decV (bl t) = .tuple #[.agg #[.int .i64 n, .int .i64 d], .bool wh, .int .i64 er] from fun t ht => by
    rw [ht, ← hn, ← hd, ← hwh, ← her]; rfl)
  have hsl : s.length ≤ l.length := by omega
  have TX := hide (fun (t : ByteArray) (ht : bl t = enc (nmT s)) => numText ht hsl hL)
  obtain ⟨nb, hnb⟩ : ∃ x, numb s = x := ⟨_, rfl⟩
  have NB0 := hide hnb
  unfold numb at hnb
  rw [hn, hd, hwh, hs4] at hnb
  clear hn hd hwh her
  have hpl0 : p0 < l.length := by have := nx_pos h0; omega
  obtain ⟨vb, vo, vn, vc, rfl, hvn, hvn0, hvc, hvc9⟩ : ∃ vb vo n c, v = .slice (some ⟨vb, vo, none⟩) n c ∧ n = l.length ∧ 0 < n ∧ n ≤ c ∧ c ≤ 9223372036854775807 := by
    obtain ⟨_, k1, _⟩ := A1.out.ex
    rcases k1.nums with ⟨a, c, rfl, rfl⟩ | ⟨b', o, n, c, rfl, hn, h0, hbw, hl, hn9, hc9, hc⟩
    · simp at hpl0
    · exact ⟨_, _, _, _, rfl, hn, h0, hl, hc9⟩
  go_upto_region 18 with fail
  go_cut [8, 9] (fun s8 s9 wx => ∃ m, s8 = .pointer (some ⟨m, 0, none⟩) ∧ s9 = .bool wh ∧ At T W wx b (.slice (some ⟨vb, vo, none⟩) vn vc) l s4 ∧ w0.grownBy wx (some b) ∧ wx.heap[m]? = some (.cells #[.int .i64 n, .int .i64 d] 32))
  case first =>
    obtain ⟨q, k1, k2, k3⟩ := A1.out.ex
    have d0 := k1.c0
    have d1 := k1.c1
    have hbc := k1.lt
    have pq : p0 ≤ q := by
      have := nmZ_len s
      rw [hs4, k3, List.length_drop, chs_len] at this; omega
    have NP := hide (k1.ns.part p0 q pq (by omega) (by omega))
    have EP := hide (show enc ((l.drop p0).take (q - p0)) = enc (nmT s) by rw [enc_part l p0 q pq k2, ← HS0.out, ← k3]; unfold nmT; rw [hs4])
    have LP := hide (show ((l.drop p0).take (q - p0)).length ≤ 35184372088832 by rw [List.length_take, List.length_drop]; omega)
    have pq1 : (p0 : Int) ≤ q := by omega
    have pq2 : (q : Int) ≤ vc := by omega
    have pq3 : ¬ (vc = p0) := by omega
    have nbb : ¬ wc.heap.size = b := by omega
    clear k1 k3
    have hbc2 := hbc
    have hw0c : w0.heap.size ≤ wc.heap.size := M.out.size
    have AAf := hide (fun (wx : World) (hc : Below wc.heap.size wc wx) => (⟨A1.out.below hc, Mod.trans M.out (Mod.of b hc)⟩ : At T W wx b (.slice (some ⟨vb, vo, none⟩) vn vc) l s4 ∧ w0.grownBy wx (some b)))
    go_region_with (first
      | (go_at_call 45; refine (textR_any _ _ _ (NP.out.below (by repeat (first | (with_reducible exact Below.refl _ _) | (with_reducible refine Below.drew ?_) | (with_reducible refine bplus ?_ _)))) LP.out).mono ?_; rintro e w5 ⟨t, rfl, ht, B5⟩; rw [EP.out] at ht; replace ht := hide ht; (try (have RB := hide ((B5.block wc.heap.size (by simp)).trans (show _ = some ratO0 from rat0_in _)); obtain ⟨r0, r1, r2, r3⟩ := rat0_cells RB.out)); have C5 := hide (bto (show Below wc.heap.size wc _ by repeat (first | (with_reducible exact Below.refl _ _) | (with_reducible refine Below.drew ?_) | (with_reducible refine bplus ?_ _))) B5); clear B5)
      | (go_at_call 72; refine (decR_any t _ (TX.out t ht.out)).mono ?_; rintro e w6 ⟨he, B6⟩; rw [DV.out t ht.out] at he; subst he; (try (have RC := hide (keepB RB.out B6); clear r0 r1 r2 r3; obtain ⟨r0, r1, r2, r3⟩ := rat0_cells RC.out)); (try (have RD := hide ((B6.block w5.heap.size (by simp)).trans (show _ = some ratO0 from rat0_in _)); obtain ⟨q0, q1, q2, q3⟩ := rat0_cells RD.out)); have C6 := hide (bto C5.out (bto (show Below w5.heap.size w5 _ by repeat (first | (with_reducible exact Below.refl _ _) | (with_reducible refine Below.drew ?_) | (with_reducible refine bplus ?_ _))) B6)); clear B6))
    all_goals
      first
      | (go_wp2_with fail
         go_meet
         case rel =>
           have h5 := C5.out.size
           obtain ⟨AA, MM⟩ := AAf.out _ C6.out
           have hb5 : b < w5.heap.size := Nat.lt_of_lt_of_le hbc h5
           have hl5 : w0.heap.size ≤ w5.heap.size := Nat.le_trans hw0c h5
           refine ⟨_, rfl, rfl, ?_, ?_, ?_⟩
           · repeat (first | (with_reducible exact AA) | (with_reducible refine At.put ?_ hbc _ _) | (with_reducible refine At.put ?_ hb5 _ _) | (with_reducible refine At.below ?_ (bplus (Below.refl _ _) _)) | (with_reducible refine At.below ?_ (Below.drew (Below.refl _ _))))
           · repeat (first | (with_reducible exact MM) | (with_reducible refine Mod.put ?_ hw0c _ _) | (with_reducible refine Mod.put ?_ hl5 _ _) | (with_reducible refine Mod.trans ?_ (Mod.of b (bplus (Below.refl _ _) _))) | (with_reducible refine Mod.trans ?_ (Mod.of b (Below.drew (Below.refl _ _)))))
           · first | exact (heap_set (heap_set RC.out 0 _) 1 _).trans rfl | exact (heap_set (heap_set RD.out 0 _) 1 _).trans rfl | exact heap_alloc_new _ _)
      | (trace_state; sorry)
  case rest =>
  obtain ⟨m, rfl, rfl, A2, M2, RR⟩ := hcut
  replace A1 := hide A2
  replace M := hide M2
  have r0 : wc.cell? ⟨m, 0, none⟩ = some (.int .i64 n) := by rw [cell_blk RR]; rfl
  have r1 : wc.cell? ⟨m, 1, none⟩ = some (.int .i64 d) := by rw [cell_blk RR]; rfl
  clear A2 M2 RR
  go_upto_region 20 with fail
  obtain ⟨w9, hw9⟩ : ∃ x, wc.alloc (.cells #[.int .i64 10, .string ⟨#[]⟩, .int .i64 n, .int .i64 d, .bool wh, .bool false] 34) = x := ⟨_, rfl⟩
  have Q := hide (show w9.heap[wc.heap.size]? = some (tokO 10 ⟨#[]⟩ n d wh false) by rw [← hw9]; exact heap_alloc_new _ _)
  have B9 : Below wc.heap.size wc w9 := by rw [← hw9]; exact bplus (Below.refl _ _) _
  have hbm := A1.out.lt
  have hw0c : w0.heap.size ≤ wc.heap.size := M.out.size
  have hrm : w.heap.size < wc.heap.size := Nat.lt_of_lt_of_le (Array.getElem?_eq_some_iff.1 Z.out).1 hw0c
  replace A1 := hide (A1.out.below B9)
  replace M := hide (Mod.trans M.out (Mod.of b B9))
  rw [hw9]
  clear hw9 B9 r0 r1
  generalize wc.heap.size = mm at *
  have hmb : mm ≠ b := Nat.ne_of_gt hbm
  have hmb' : ¬ b = mm := Nat.ne_of_lt hbm
  have hrn : w.heap.size ≠ mm := Nat.ne_of_lt hrm
  have hrn' : ¬ mm = w.heap.size := Nat.ne_of_gt hrm
  have hwm : w.heap.size ≤ mm := Nat.le_of_lt hrm
  obtain ⟨p, ST, hp4, _⟩ := A1.out.stand
  have hp9 : p ≤ 140737488355328 := by omega
  replace ST := hide ST
  clear A1
  obtain ⟨x0, hx0⟩ : ∃ x, nx s4 0 = x := ⟨_, rfl⟩
  have H0 := hide (show nx s4 (Int.toNat 0) = x0 from hx0)
  obtain ⟨x1, hx1⟩ : ∃ x, nx s4 1 = x := ⟨_, rfl⟩
  have H1 := hide (show nx s4 (Int.toNat 1) = x1 from hx1)
  obtain ⟨x2, hx2⟩ : ∃ x, nx s4 2 = x := ⟨_, rfl⟩
  have H2 := hide (show nx s4 (Int.toNat 2) = x2 from hx2)
  rw [hx0, hx1, hx2] at hnb
  obtain ⟨y, hy⟩ : ∃ y, nmB x0 x1 x2 = y := ⟨_, rfl⟩
  have Y := hide hy
  rw [hy] at hnb
  have P37 : x0 = 37 → 0 < s4.length := fun e => nx_pos (by rw [hx0, e]; decide)
  clear hy hx0 hx1 hx2
  cases y
  · rw [if_neg (by simp)] at hnb
    by_cases h37 : x0 = 37
    · subst h37
      rw [if_pos rfl] at hnb
      have E := hide (NB0.out.trans hnb.symm)
      have L := P37 rfl
      clear hnb P37
      go_wp2_with (first
        | (go_at_call 18; refine (standAt_any T W _ b _ l s4 p _ ST.out (by decide) (by decide)).mono ?_; rintro e w10 ⟨he, B1⟩; (first | (rw [H0.out] at he) | (rw [H1.out] at he) | (rw [H2.out] at he)); subst he; replace ST := hide (ST.out.below B1); replace M := hide (Mod.trans M.out (Mod.of b B1)); replace Q := hide (keepB Q.out B1); (try clear c1 f1); have c1 := ST.out.c1; have f1 := ST.out.f1; (try clear f0 f2 f3 f4 f5 c0 c2 c3 c4 c5 g1 d1); obtain ⟨f0, g1, f2, f3, f4, f5, c0, d1, c2, c3, c4, c5⟩ := tok0_free (keep Z.out (Nat.ne_of_gt hb0) M.out); (try clear g0 gg1 e0 e1 e2 e3 e4 e5); obtain ⟨g0, gg1, e0, e1, e2, e3, e4, e5⟩ := tokO_made Q.out; clear B1)
        | (go_at_call 40; refine (begR_any _ _ _ _).mono ?_; rintro e w11 ⟨rfl, rfl⟩; rw [Y.out]))
      have FA := ((ST.out.put hbm 0 (.int .i64 11)).inc 1 ((p : Int) + 1) (by omega) (by omega)).at (by omega)
      have MM := Mod.trans (Mod.put (Mod.trans M0.out M.out) hwm 0 (.int .i64 11)) ((ST.out.put hbm 0 (.int .i64 11)).mod ((p : Int) + 1))
      refine bodyPost_ret (v := tkV 11 ⟨#[]⟩ n d wh false) (by simp [results, Tryz.results43, go_sem, tkV, c0, d1, c2, c3, c4, c5]) rfl ?_
      exact ⟨by rw [E.out]; exact ⟨_, rfl, rfl⟩, by rw [E.out]; repeat (first | (with_reducible exact FA) | (with_reducible refine At.put ?_ hb0 _ _) | (with_reducible refine At.put ?_ hbm _ _)), by repeat (first | (with_reducible exact MM) | (with_reducible refine Mod.put ?_ (Nat.le_refl _) _ _) | (with_reducible refine Mod.put ?_ hwm _ _))⟩
    · rw [if_neg h37] at hnb
      have e37 : (x0 == 37) = false := by simpa using h37
      have E := hide (NB0.out.trans hnb.symm)
      clear hnb P37
      go_wp2_with (first
        | (go_at_call 18; refine (standAt_any T W _ b _ l s4 p _ ST.out (by decide) (by decide)).mono ?_; rintro e w10 ⟨he, B1⟩; (first | (rw [H0.out] at he) | (rw [H1.out] at he) | (rw [H2.out] at he)); subst he; replace ST := hide (ST.out.below B1); replace M := hide (Mod.trans M.out (Mod.of b B1)); replace Q := hide (keepB Q.out B1); (try clear c1 f1); have c1 := ST.out.c1; have f1 := ST.out.f1; (try clear f0 f2 f3 f4 f5 c0 c2 c3 c4 c5 g1 d1); obtain ⟨f0, g1, f2, f3, f4, f5, c0, d1, c2, c3, c4, c5⟩ := tok0_free (keep Z.out (Nat.ne_of_gt hb0) M.out); (try clear g0 gg1 e0 e1 e2 e3 e4 e5); obtain ⟨g0, gg1, e0, e1, e2, e3, e4, e5⟩ := tokO_made Q.out; clear B1)
        | (go_at_call 40; refine (begR_any _ _ _ _).mono ?_; rintro e w11 ⟨rfl, rfl⟩; rw [Y.out]))
      have FA := ST.out.at (by omega)
      have MM := Mod.trans M0.out M.out
      refine bodyPost_ret (v := tkV 10 ⟨#[]⟩ n d wh false) (by simp [results, Tryz.results43, go_sem, tkV, c0, d1, c2, c3, c4, c5]) rfl ?_
      exact ⟨by rw [E.out]; exact ⟨_, rfl, rfl⟩, by rw [E.out]; repeat (first | (with_reducible exact FA) | (with_reducible refine At.put ?_ hb0 _ _) | (with_reducible refine At.put ?_ hbm _ _)), by repeat (first | (with_reducible exact MM) | (with_reducible refine Mod.put ?_ (Nat.le_refl _) _ _) | (with_reducible refine Mod.put ?_ hwm _ _))⟩
  · rw [if_pos rfl] at hnb
    obtain ⟨⟨nm, r⟩, hnm⟩ : ∃ x, nam [] s4 = x := ⟨_, rfl⟩
    have NN := hide hnm
    rw [hnm] at hnb
    have E := hide (NB0.out.trans hnb.symm)
    have L9 := hide (show l.length ≤ 35184372088832 by omega)
    clear hnb hnm P37
    go_wp2_with (first
      | (go_at_call 18; refine (standAt_any T W _ b _ l s4 p _ ST.out (by decide) (by decide)).mono ?_; rintro e w10 ⟨he, B1⟩; (first | (rw [H0.out] at he) | (rw [H1.out] at he) | (rw [H2.out] at he)); subst he; replace ST := hide (ST.out.below B1); replace M := hide (Mod.trans M.out (Mod.of b B1)); replace Q := hide (keepB Q.out B1); (try clear c1 f1); have c1 := ST.out.c1; have f1 := ST.out.f1; (try clear f0 f2 f3 f4 f5 c0 c2 c3 c4 c5 g1 d1); obtain ⟨f0, g1, f2, f3, f4, f5, c0, d1, c2, c3, c4, c5⟩ := tok0_free (keep Z.out (Nat.ne_of_gt hb0) M.out); (try clear g0 gg1 e0 e1 e2 e3 e4 e5); obtain ⟨g0, gg1, e0, e1, e2, e3, e4, e5⟩ := tokO_made Q.out; clear B1)
      | (go_at_call 40; refine (begR_any _ _ _ _).mono ?_; rintro e w11 ⟨rfl, rfl⟩; rw [Y.out])
      | (go_at_call 41; refine (nameR_any T W _ b _ l s4 L9.out (ST.out.at (by omega))).mono ?_; rintro e w12 ⟨t', rfl, ht', A2, M2⟩; rw [NN.out] at ht' A2; replace ht' := hide ht'; have A1 := hide A2; replace M := hide (Mod.trans M.out M2); replace Q := hide (keep Q.out hmb M2); clear A2 M2 c1 f1; (try clear f0 f2 f3 f4 f5 c0 c2 c3 c4 c5 g1 d1); obtain ⟨f0, g1, f2, f3, f4, f5, c0, d1, c2, c3, c4, c5⟩ := tok0_free (keep Z.out (Nat.ne_of_gt hb0) M.out); (try clear g0 gg1 e0 e1 e2 e3 e4 e5); obtain ⟨g0, gg1, e0, e1, e2, e3, e4, e5⟩ := tokO_made Q.out))
    have FA := A1.out
    have MM := Mod.trans M0.out M.out
    refine bodyPost_ret (v := tkV 12 t' n d wh false) (by simp [results, Tryz.results43, go_sem, tkV, c0, d1, c2, c3, c4, c5]) rfl ?_
    exact ⟨by rw [E.out]; exact ⟨_, rfl, ht'.out⟩, by rw [E.out]; repeat (first | (with_reducible exact FA) | (with_reducible refine At.put ?_ hb0 _ _) | (with_reducible refine At.put ?_ hbm _ _)), by repeat (first | (with_reducible exact MM) | (with_reducible refine Mod.put ?_ (Nat.le_refl _) _ _) | (with_reducible refine Mod.put ?_ hwm _ _))⟩
end Go.Proofs.YtckefmhleklciaaGreatDoor
