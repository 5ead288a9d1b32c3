/-
  The truth of any condition by the program: Eval; the closure of the laws.
-/
import Derived.Test.YtpcdhdllclenaaaDoorCdT
set_option linter.unusedVariables false
set_option linter.unusedSimpArgs false
namespace Go.Proofs.YtpcdhdllclenaaaDoor.cd
open Go.RowKit

/-- What Eval tells. -/
def evP (h : ByteArray → Int) (x : Cn) : Int := if cnM x 340 = true then evC h x else 1
theorem own_any (x : Cn) (u z : Value) (w : World) (hx : x.Ok) (hu : CM w u x.ks) (hz : EM w z x.lf.e.ks) : Calls Tryd.prog 40 #[cnV x u z] w fun e w' => ∃ v y, e = .returned (cnV x v y) ∧ CM w' v x.ks ∧ EM w' y x.lf.e.ks ∧ Below w.heap.size w w' :=
  (owC_all (szC x) x u z w (Nat.le_refl _) hx hu hz).mono fun e w' ⟨v, y, h1, h2, h3, h4⟩ => ⟨v, y, h1, cm_sees (cut_sees _ _) h2, em_sees (cut_sees _ _) h3, h4⟩
set_option maxRecDepth 100000 in
set_option maxHeartbeats 8000000 in
theorem evalP_any (x : Cn) (u z f : Value) (h : ByteArray → Int) (w : World) (hx : x.Ok) (hu : CM w u x.ks) (hz : EM w z x.lf.e.ks) (hF : FO w) (hf : ToldC w f h) :
    Calls Tryd.prog 25 #[cnV x u z, f] w fun e w' => e = .returned (.int .i64 (evP h x)) ∧ Below w.heap.size w w' := by
  obtain ⟨a, c, rfl, hl9⟩ := hu.shape
  obtain ⟨za, zc, rfl, hz9⟩ := hz.shape
  have EV := fun (a : Value) (b : Value) => show cnV x a b = .agg #[.int .i64 x.k, a, .int .i64 x.lf.k, .int .i64 x.lf.t, .string x.lf.nm, .int .i64 x.lf.op, .int .i64 x.lf.e.k, .int .i64 x.lf.e.n, .int .i64 x.lf.e.d, .int .i64 x.lf.e.u, b, .string x.lf.wd, .string x.lf.vl, .bool x.lf.an] from rfl
  obtain ⟨w0, hw0⟩ : ∃ w0, w.alloc (.cells #[.int .i64 x.k, .slice a x.ks.length c, .int .i64 x.lf.k, .int .i64 x.lf.t, .string x.lf.nm, .int .i64 x.lf.op, .int .i64 x.lf.e.k, .int .i64 x.lf.e.n, .int .i64 x.lf.e.d, .int .i64 x.lf.e.u, .slice za x.lf.e.ks.length zc, .string x.lf.wd, .string x.lf.vl, .bool x.lf.an] 39) = w0 := ⟨_, rfl⟩
  have B0 : Below w.heap.size w w0 := by rw [← hw0]; exact bplus (Below.refl _ _) _
  have P0 : w0.heap[w.heap.size]? = some (.cells #[.int .i64 x.k, .slice a x.ks.length c, .int .i64 x.lf.k, .int .i64 x.lf.t, .string x.lf.nm, .int .i64 x.lf.op, .int .i64 x.lf.e.k, .int .i64 x.lf.e.n, .int .i64 x.lf.e.d, .int .i64 x.lf.e.u, .slice za x.lf.e.ks.length zc, .string x.lf.wd, .string x.lf.vl, .bool x.lf.an] 39) := by rw [← hw0]; exact heap_alloc_new w _
  have CM1 := hide (condMay_any x _ _ w0 hx (hu.low B0) (hz.low B0) (hF.low B0))
  have CO := hide (fun (W : World) (hb : Below w0.heap.size w0 W) => own_any x _ _ W hx (hu.low (bto B0 hb)) (hz.low (bto B0 hb)))
  have CT := hide (fun (v y : Value) (W : World) (hb : Below w0.heap.size w0 W) (h1 : CM W v x.ks) (h2 : EM W y x.lf.e.ks) (h3 : cnM x 340 = true) => truthOf_any f h (szC x) x v y W 340 (Nat.le_refl _) hx h1 h2 h3 (hf.low (bto B0 hb)))
  have F := hide (show evP h x = if cnM x 340 = true then evC h x else 1 from rfl)
  have KH := hide (fun (W : World) (hb : Below w0.heap.size w0 W) => keep14 hb P0)
  simp only [EV] at CM1 CO CT ⊢
  have HB0 := hide B0
  have HW0 := hide hw0
  obtain ⟨y0, y1, y2, y3, y4, y5, y6, y7, y8, y9, ya, yb, yc, yd⟩ := keep14 (Below.refl w0.heap.size w0) P0
  clear hu hz hF hf B0 P0 hw0 EV
  cases hm : cnM x 340
  · have HM := hide hm
    go_enter Tryd.func25, Tryd.ntmps25
    go_upto_region 1 with fail
    rw [HW0.out]
    go_wp2_with (go_at_call 17; refine CM1.out.mono ?_; rintro e w1 ⟨rfl, hl⟩; rw [HM.out])
    go_ret
    exact ⟨ret_int (by rw [F.out, HM.out]; rfl), bto HB0.out hl⟩
  · have HM := hide hm
    generalize evC h x = r at *
    go_enter Tryd.func25, Tryd.ntmps25
    go_upto_region 1 with fail
    rw [HW0.out]
    go_wp2_with (first
      | (go_at_call 17; refine CM1.out.mono ?_; rintro e w1 ⟨rfl, hl⟩; rw [HM.out]; obtain ⟨v0, v1, v2, v3, v4, v5, v6, v7, v8, v9, va, vb, vc, vd⟩ := KH.out w1 hl)
      | (go_at_call 40; refine (CO.out w1 hl).mono ?_; rintro e w2 ⟨v, y, rfl, q1, q2, hl2⟩)
      | (go_at_call 39; refine (CT.out v y w2 (bto hl hl2) q1 q2 HM.out).mono ?_; rintro e w3 ⟨rfl, hl3⟩))
    go_ret
    exact ⟨ret_int (by rw [F.out, HM.out]; rfl), bto HB0.out (bto hl (bto hl2 hl3))⟩
theorem toldNil (w : World) : ToldC w .nilFunc (fun _ => 1) := fun x z W _ _ => told_nil x z W
theorem toldBy {w : World} {b1 b2 : Nat} {vn vt : Value} {ns : List ByteArray} {ts : List Int} (h1 : w.cell? ⟨b1, 0, none⟩ = some vn) (h2 : w.cell? ⟨b2, 0, none⟩ = some vt) (hn : Strs w vn ns) (ht : NuW w vt ts) : ToldC w (fnBy b1 b2) (fun s => tr (byF ns ts s)) :=
  fun x z W hW hz => told_by x z b1 b2 vn vt ns ts W ((hW.cell (p := ⟨b1, 0, none⟩) (World.block_lt_of_cell? _ _ h1)).trans h1) ((hW.cell (p := ⟨b2, 0, none⟩) (World.block_lt_of_cell? _ _ h2)).trans h2) (hn.below hW) (ht.below hW) hz
set_option maxRecDepth 100000 in
set_option maxHeartbeats 4000000 in
theorem by_any (vn vt : Value) (ns : List ByteArray) (ts : List Int) (w : World) (hn : Strs w vn ns) (ht : NuW w vt ts) :
    Calls Tryd.prog 24 #[vn, vt] w fun e w' => ∃ f, e = .returned f ∧ ToldC w' f (fun s => tr (byF ns ts s)) ∧ (∃ b1 b2, f = fnBy b1 b2) ∧ Below w.heap.size w w' := by
  obtain ⟨an, cn, rfl, ln9⟩ := hn.shape
  obtain ⟨at', ct, rfl, lt9⟩ := ht.shape
  have hmf : ∀ (fn : Fn) (first cap : Array Value) (w : World), (Instr.makeFunc fn first cap).run Tryd.prog w = .ok (.func fn first cap) w := fun _ _ _ _ => rfl
  obtain ⟨w0, hw0⟩ : ∃ w0, (w.alloc (.cells #[.slice an ns.length cn] 45)).alloc (.cells #[.slice at' ts.length ct] 22) = w0 := ⟨_, rfl⟩
  have B0 := hide (show Below w.heap.size w w0 by rw [← hw0]; exact bplus (bplus (Below.refl _ _) _) _)
  have T := hide (show ToldC w0 (fnBy w.heap.size (w.heap.size + 1)) (fun s => tr (byF ns ts s)) from toldBy (vn := .slice an ns.length cn) (vt := .slice at' ts.length ct) (by rw [← hw0]; rw [row_blk (two_new w _ _).1]; rfl) (by rw [← hw0]; rw [row_blk (two_new w _ _).2]; rfl) (hn.below B0.out) (ht.below B0.out))
  have HW0 := hide hw0
  clear hn ht hw0
  go_enter Tryd.func24, Tryd.ntmps24
  go_upto_region 1 with fail
  rw [HW0.out]
  go_wp2
  go_ret
  exact ⟨_, rfl, T.out, ⟨_, _, rfl⟩, B0.out⟩
end Go.Proofs.YtpcdhdllclenaaaDoor.cd
