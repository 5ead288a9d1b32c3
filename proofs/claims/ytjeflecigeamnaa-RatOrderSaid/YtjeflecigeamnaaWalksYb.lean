/-
  The statement RatOrder, whole.
-/
import Derived.Test.YtjeflecigeamnaaWalksY
set_option linter.unusedVariables false
namespace Go.Proofs.Ytjeflecigeamnaa
open Go.RowKit

theorem law_order (n d m e f g : Int) (w : World) (hn : I64 n) (hd : I64 d) (hm : I64 m) (he : I64 e) (hf : I64 f) (hg : I64 g) :
    Calls Try.prog 3 #[.agg #[.int .i64 n, .int .i64 d], .agg #[.int .i64 m, .int .i64 e], .agg #[.int .i64 f, .int .i64 g]] w fun x w' => x = .returned (.bool true) ∧ Up w w' := by
  cases va : isV n d with
  | false => exact order_no n d m e f g w hn hd hm he hf hg (by rw [va]; rfl)
  | true =>
    cases vb : isV m e with
    | false => exact order_no n d m e f g w hn hd hm he hf hg (by rw [va, vb]; rfl)
    | true =>
      cases vc : isV f g with
      | false => exact order_mid n d m e f g w hn hd hm he hf hg va vb vc
      | true => exact order_all n d m e f g w hn hd hm he hf hg va vb vc
end Go.Proofs.Ytjeflecigeamnaa
