/-
  The law of and, or, not.
-/
import Derived.Test.YtpcdhdllclenaaaDoorCdG
set_option linter.unusedVariables false
set_option linter.unusedSimpArgs false
namespace Go.Proofs.YtpcdhdllclenaaaDoor.cd
open Go.RowKit

set_option maxRecDepth 100000 in
set_option maxHeartbeats 4000000 in
theorem law_logic (l : List Int) (v : Value) (x : Int) (w : World) (hv : NuW w v l) (hF : FO w) :
    Calls Tryd.prog 3 #[v, .int .i64 x] w fun e w' => e = .returned (.bool true) ∧ Below w.heap.size w w' := by
  have C1 := hide (andP_any l v w hv)
  have C2 := hide (andR_any l v w hv)
  have C3 := hide (orP_any l v w hv)
  have C4 := hide (orR_any l v w hv)
  have C5 := hide (notP_any x w)
  have C6 := hide (notR_any x w)
  have C7 := hide (awake15_any w hF)
  generalize anN 2 l = r1 at *
  generalize orN 0 l = r2 at *
  generalize 2 - tr x = r3 at *
  have hs : ∃ a n c, v = .slice a n c := by
    rcases hv with ⟨a, c, rfl, _⟩ | ⟨b, o, n, c, rfl, _⟩
    · exact ⟨_, _, _, rfl⟩
    · exact ⟨_, _, _, rfl⟩
  obtain ⟨a, n, c, rfl⟩ := hs
  clear hv hF
  go_enter Tryd.func3, Tryd.ntmps3
  go_wp2_with (first
    | (go_at_call 9; refine C1.out.mono ?_; rintro _ wl ⟨rfl, rfl⟩)
    | (go_at_call 10; refine C2.out.mono ?_; rintro _ wl ⟨rfl, rfl⟩)
    | (go_at_call 11; refine C3.out.mono ?_; rintro _ wl ⟨rfl, rfl⟩)
    | (go_at_call 12; refine C4.out.mono ?_; rintro _ wl ⟨rfl, rfl⟩)
    | (go_at_call 13; refine C5.out.mono ?_; rintro _ wl ⟨rfl, rfl⟩)
    | (go_at_call 14; refine C6.out.mono ?_; rintro _ wl ⟨rfl, rfl⟩)
    | (go_at_call 15; refine C7.out.mono ?_; rintro _ wl ⟨rfl, hl⟩))
  go_ret
  exact ⟨rfl, hl⟩
end Go.Proofs.YtpcdhdllclenaaaDoor.cd
