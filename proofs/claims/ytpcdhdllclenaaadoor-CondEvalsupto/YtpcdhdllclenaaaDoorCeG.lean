/-
  The truth of a condition: by the reference.
-/
import Derived.Test.YtpcdhdllclenaaaDoorCeF
set_option linter.unusedVariables false
set_option linter.unusedSimpArgs false
namespace Go.Proofs.YtpcdhdllclenaaaDoor.cd
open Go.RowKit

/-- What a leaf takes of what is told. -/
def hdT : List Int → Int
  | [] => 1
  | t :: _ => tr t
def lfR (x : Lf) (ts : List Int) : Int := if x.k = 1 then x.t else if x.k = 0 then 1 else hdT ts
mutual
/-- The truth of a condition, and what is left of what is told. -/
def evR : Cn → List Int → Int × List Int
  | .mk k lf ks, ts => if k = 4 then (lfR lf ts, ts.tail) else ((if k = 1 then anN 2 (evRs ks ts).1 else if k = 2 then orN 0 (evRs ks ts).1 else 2 - tr ((evRs ks ts).1.headD 0)), (evRs ks ts).2)
def evRs : List Cn → List Int → List Int × List Int
  | [], ts => ([], ts)
  | e :: es, ts => ((evR e ts).1 :: (evRs es (evR e ts).2).1, (evRs es (evR e ts).2).2)
end
theorem evR_eq (x : Cn) (ts : List Int) : evR x ts = if x.k = 4 then (lfR x.lf ts, ts.tail) else ((if x.k = 1 then anN 2 (evRs x.ks ts).1 else if x.k = 2 then orN 0 (evRs x.ks ts).1 else 2 - tr ((evRs x.ks ts).1.headD 0)), (evRs x.ks ts).2) := by
  cases x with | mk k lf ks => rw [evR]; rfl
theorem evRs_nil (ts : List Int) : evRs [] ts = ([], ts) := by rw [evRs]
theorem evRs_cons (e : Cn) (es : List Cn) (ts : List Int) : evRs (e :: es) ts = ((evR e ts).1 :: (evRs es (evR e ts).2).1, (evRs es (evR e ts).2).2) := by rw [evRs]
theorem evR_feed {h : ByteArray → Int} {g : Lf → Int} (hg : ∀ l, tr (g l) = h l.nm) (N : Nat) : ∀ (x : Cn) (rest : List Int), szC x ≤ N → evR x ((lvs x).map g ++ rest) = (evC h x, rest) := by
  induction N with
  | zero => intro x rest hx; rw [szC_ks] at hx; omega
  | succ N ih =>
    intro x rest hx
    rw [szC_ks] at hx
    have key : ∀ (l : List Cn) (rest : List Int), szCs l ≤ N → evRs l ((lvss l).map g ++ rest) = (l.map (evC h), rest) := by
      intro l
      induction l with
      | nil => intro rest _; rw [lvss_nil, evRs_nil]; rfl
      | cons y r ihl =>
        intro rest hl
        rw [szCs_cons] at hl
        rw [lvss_cons, List.map_append, List.append_assoc, evRs_cons, ih y _ (by rw [szC_ks]; omega), ihl rest (by omega)]
        rfl
    rw [evR_eq, evC_eq, lvs_eq]
    split
    · refine Prod.ext ?_ rfl
      show lfR x.lf ([g x.lf] ++ rest) = lfT h x.lf
      unfold lfR lfT
      by_cases h0 : x.lf.k = 0
      · rw [h0]; simp
      by_cases h1 : x.lf.k = 1
      · rw [h1]; simp
      rw [if_neg h1, if_neg h0, if_neg h0, if_neg h1]
      exact hg x.lf
    · rw [key x.ks rest (by omega)]
theorem evR_none (N : Nat) : ∀ (x : Cn), szC x ≤ N → evR x [] = (evC (fun _ => 1) x, []) := by
  induction N with
  | zero => intro x hx; rw [szC_ks] at hx; omega
  | succ N ih =>
    intro x hx
    rw [szC_ks] at hx
    have key : ∀ (l : List Cn), szCs l ≤ N → evRs l [] = (l.map (evC (fun _ => 1)), []) := by
      intro l
      induction l with
      | nil => intro _; rw [evRs_nil]; rfl
      | cons y r ihl =>
        intro hl
        rw [szCs_cons] at hl
        rw [evRs_cons, ih y (by rw [szC_ks]; omega), ihl (by omega)]
        rfl
    rw [evR_eq, evC_eq]
    split
    · refine Prod.ext ?_ rfl
      show lfR x.lf [] = lfT (fun _ => 1) x.lf
      unfold lfR lfT hdT
      by_cases h0 : x.lf.k = 0
      · rw [h0]; simp
      by_cases h1 : x.lf.k = 1
      · rw [h1]; simp
      rw [if_neg h1, if_neg h0, if_neg h0, if_neg h1]
    · rw [key x.ks (by omega)]
theorem tup2 {a b : Int} {v : Value} (h : a = b) : Ending.returned (.tuple #[.int .i64 a, v]) = .returned (.tuple #[.int .i64 b, v]) := by rw [h]
theorem nu_tail {w : World} {b o n c : Nat} {l : List Int} (h : NuW w (.slice (some ⟨b, o, none⟩) (n + 1) c) l) (q : Value) (hq : q = .slice (some ⟨b, o + 1, none⟩) n (c - 1) ∨ (n = 0 ∧ ∃ a c', q = .slice a 0 c')) : NuW w q l.tail := by
  rcases h with ⟨a', c', h1, h2⟩ | ⟨b', o', n', c', h1, h2, h3, h4, h5, h6, h7⟩
  · injection h1 with e1 e2 e3; omega
  · injection h1 with e1 e2 e3
    injection e1 with e1
    injection e1 with e4 e5 e6
    subst e2 e3 e4 e5
    have hlen : l.tail.length = n := by rw [List.length_tail]; omega
    by_cases hn : n = 0
    · subst hn
      have : l.tail = [] := List.eq_nil_of_length_eq_zero hlen
      rw [this]
      rcases hq with rfl | ⟨-, a, c', rfl⟩
      · exact .inl ⟨_, _, rfl, rfl⟩
      · exact .inl ⟨_, _, rfl, rfl⟩
    · rcases hq with rfl | ⟨h0, -⟩
      · refine .inr ⟨b, o + 1, n, c - 1, rfl, hlen.symm, by omega, h4, by omega, by omega, fun i hi => ?_⟩
        have := h7 (i + 1) (by omega)
        rw [show o + 1 + i = o + (i + 1) by omega, this]
        congr 2
        unfold gt
        cases l with
        | nil => simp at h2
        | cons x r => simp [List.getD]
      · exact absurd h0 hn
theorem nu_tail' {w : World} {b o n c : Nat} {l : List Int} (h : NuW w (.slice (some ⟨b, o, none⟩) n c) l) (hn : 1 ≤ n) : NuW w (.slice (some ⟨b, o + 1, none⟩) (n - 1) (c - 1)) l.tail := by
  obtain ⟨m, rfl⟩ : ∃ m, n = m + 1 := ⟨n - 1, by omega⟩
  exact nu_tail h _ (.inl rfl)
set_option maxRecDepth 100000 in
set_option maxHeartbeats 8000000 in
theorem evalR_leaf (M : World) (lf : Lf) (ks : List Cn) (u z v : Value) (ts : List Int) (w : World) (hu : ∃ a n c, u = .slice a n c) (hz : ∃ a n c, z = .slice a n c) (hv : NuW M v ts) (hMw : Below M.heap.size M w) :
    Calls Tryd.prog 41 #[cnV (.mk 4 lf ks) u z, v] w fun e w' => ∃ v', e = .returned (.tuple #[.int .i64 (lfR lf ts), v']) ∧ NuW M v' ts.tail ∧ Below w.heap.size w w' := by
  obtain ⟨ua, un, uc, rfl⟩ := hu
  obtain ⟨za, zm, zc, rfl⟩ := hz
  obtain ⟨lk, lt, nm, op, ⟨ek, en, ed, eu, eks⟩, wd, vl, an⟩ := lf
  obtain ⟨va, vc, rfl, hv9⟩ := hv.shape
  show Calls Tryd.prog 41 #[.agg #[.int .i64 4, .slice ua un uc, .int .i64 lk, .int .i64 lt, .string nm, .int .i64 op, .int .i64 ek, .int .i64 en, .int .i64 ed, .int .i64 eu, .slice za zm zc, .string wd, .string vl, .bool an], .slice va ts.length vc] w _
  have E := hide (show lfR ⟨lk, lt, nm, op, .mk ek en ed eu eks, wd, vl, an⟩ ts = if lk = 1 then lt else if lk = 0 then 1 else hdT ts from rfl)
  generalize lfR ⟨lk, lt, nm, op, .mk ek en ed eu eks, wd, vl, an⟩ ts = R at *
  obtain ⟨w0, hw0⟩ : ∃ w0, w.alloc (.cells #[.int .i64 4, .slice ua un uc, .int .i64 lk, .int .i64 lt, .string nm, .int .i64 op, .int .i64 ek, .int .i64 en, .int .i64 ed, .int .i64 eu, .slice za zm zc, .string wd, .string vl, .bool an] 39) = w0 := ⟨_, rfl⟩
  have B0 : Below w.heap.size w w0 := by rw [← hw0]; exact bplus (Below.refl _ _) _
  have P0 : w0.heap[w.heap.size]? = some (.cells #[.int .i64 4, .slice ua un uc, .int .i64 lk, .int .i64 lt, .string nm, .int .i64 op, .int .i64 ek, .int .i64 en, .int .i64 ed, .int .i64 eu, .slice za zm zc, .string wd, .string vl, .bool an] 39) := by rw [← hw0]; exact heap_alloc_new w _
  have HB0 := hide B0
  have HW0 := hide hw0
  obtain ⟨y0, y1, y2, y3, y4, y5, y6, y7, y8, y9, ya, yb, yc, yd⟩ := keep14 (Below.refl w0.heap.size w0) P0
  have HV := hide hv
  clear hv B0 hw0
  cases ts with
  | nil =>
    clear P0
    have FV := hide (show NuW M (.slice va 0 vc) [] from .inl ⟨_, _, rfl, rfl⟩)
    have E2 := hide (show R = if lk = 1 then lt else 1 by rw [E.out]; simp [hdT])
    clear E
    by_cases h1 : lk = 1
    · subst h1
      have F := hide (show R = lt by rw [E2.out]; simp)
      clear E2
      go_enter Tryd.func41, Tryd.ntmps41
      go_upto_region 1 with fail
      rw [HW0.out]
      go_wp2
      go_ret2
      exact ⟨_, tup2 F.out.symm, FV.out, HB0.out⟩
    · have F := hide (show R = 1 by rw [E2.out]; simp [h1])
      have h1' : (lk == 1) = false := by simpa using h1
      clear E2
      by_cases h0 : lk = 0
      · subst h0
        go_enter Tryd.func41, Tryd.ntmps41
        go_upto_region 1 with fail
        rw [HW0.out]
        go_wp2
        go_ret2
        exact ⟨_, tup2 F.out.symm, FV.out, HB0.out⟩
      · have h0' : (lk == 0) = false := by simpa using h0
        go_enter Tryd.func41, Tryd.ntmps41
        go_upto_region 1 with fail
        rw [HW0.out]
        go_wp2
        go_ret2
        exact ⟨_, tup2 F.out.symm, FV.out, HB0.out⟩
  | cons t r =>
    obtain ⟨b, o, rfl, hb, hc⟩ := HV.out.at (k := 0) (by simp)
    rw [show gt (t :: r) 0 = t from rfl, Nat.add_zero] at hc
    have hcm := (bto hMw HB0.out).cell (p := ⟨b, o, none⟩) hb
    rw [hc] at hcm
    have hb0 : b < w0.heap.size := by have := hMw.size; have := HB0.out.size; omega
    have KH := hide (fun (W : World) (h : Below w0.heap.size w0 W) => show W.cell? ⟨b, o, none⟩ = some (.int .i64 t) ∧ W.cell? ⟨w.heap.size, 2, none⟩ = some (.int .i64 lk) ∧ W.cell? ⟨w.heap.size, 3, none⟩ = some (.int .i64 lt) from ⟨(h.cell (p := ⟨b, o, none⟩) hb0).trans hcm, (keep14 h P0).2.2.1, (keep14 h P0).2.2.2.1⟩)
    have CT := hide (fun (W : World) => truthR_any t W)
    have hcap : r.length + 1 ≤ vc ∧ vc ≤ 9223372036854775807 := by
      rcases HV.out with ⟨a', c', h1, h2⟩ | ⟨b', o', n', c', h1, h2, h3, h4, h5, h6, h7⟩
      · cases h2
      · injection h1 with e1 e2 e3
        simp at e2
        omega
    obtain ⟨hcap1, hcap2⟩ := hcap
    have NT := hide (fun q hq => nu_tail (n := r.length) HV.out q hq)
    have NT0 := hide (fun (n : Nat) (hn : r.length + 1 = n) => nu_tail' (n := n) (show NuW M (.slice (some ⟨b, o, none⟩) n vc) (t :: r) from by rw [← hn]; exact HV.out) (by omega))
    have E2 := hide (show R = if lk = 1 then lt else if lk = 0 then 1 else tr t from E.out)
    clear E HV hc P0
    generalize tr t = tt at *
    simp only [List.length_cons] at hv9 HW0 ⊢
    by_cases hvc : vc = 1
    · subst hvc
      obtain rfl : r = [] := List.eq_nil_of_length_eq_zero (by omega)
      by_cases h1 : lk = 1
      · subst h1
        have F := hide (show R = lt by rw [E2.out]; simp)
        clear E2
        go_enter Tryd.func41, Tryd.ntmps41
        go_upto_region 1 with fail
        rw [HW0.out]
        clear HW0
        go_upto_region 4 with fail
        go_region_held3 (fun w' => w'.cell? ⟨b, o, none⟩ = some (.int .i64 t) ∧ w'.cell? ⟨w.heap.size, 2, none⟩ = some (.int .i64 1) ∧ w'.cell? ⟨w.heap.size, 3, none⟩ = some (.int .i64 lt))
          ((refine KH.out _ ?_; (repeat (first | (with_reducible refine Below.drew ?_) | (with_reducible refine below_drewN ?_ _) | (with_reducible refine bplus ?_ _) | (with_reducible exact Below.refl _ _) | (with_reducible assumption) | (with_reducible refine bto ?_ (by with_reducible assumption)))); done))
          (first | (go_at_call 29; refine (CT.out _).mono ?_; rintro _ wl ⟨rfl, rfl⟩))
        all_goals
          go_wp2
          go_ret2
          refine ⟨_, tup2 F.out.symm, NT.out _ (.inr ⟨rfl, _, _, rfl⟩), bto HB0.out ?_⟩
          repeat (first | (with_reducible refine Below.drew ?_) | (with_reducible refine below_drewN ?_ _) | (with_reducible refine bplus ?_ _) | (with_reducible exact Below.refl _ _) | (with_reducible assumption) | (with_reducible refine bto ?_ (by with_reducible assumption)))
      have h1' : (lk == 1) = false := by simpa using h1
      by_cases h0 : lk = 0
      · subst h0
        have F := hide (show R = 1 by rw [E2.out]; simp)
        clear E2
        go_enter Tryd.func41, Tryd.ntmps41
        go_upto_region 1 with fail
        rw [HW0.out]
        clear HW0
        go_upto_region 4 with fail
        go_region_held3 (fun w' => w'.cell? ⟨b, o, none⟩ = some (.int .i64 t) ∧ w'.cell? ⟨w.heap.size, 2, none⟩ = some (.int .i64 0) ∧ w'.cell? ⟨w.heap.size, 3, none⟩ = some (.int .i64 lt))
          ((refine KH.out _ ?_; (repeat (first | (with_reducible refine Below.drew ?_) | (with_reducible refine below_drewN ?_ _) | (with_reducible refine bplus ?_ _) | (with_reducible exact Below.refl _ _) | (with_reducible assumption) | (with_reducible refine bto ?_ (by with_reducible assumption)))); done))
          (first | (go_at_call 29; refine (CT.out _).mono ?_; rintro _ wl ⟨rfl, rfl⟩))
        all_goals
          go_wp2
          go_ret2
          refine ⟨_, tup2 F.out.symm, NT.out _ (.inr ⟨rfl, _, _, rfl⟩), bto HB0.out ?_⟩
          repeat (first | (with_reducible refine Below.drew ?_) | (with_reducible refine below_drewN ?_ _) | (with_reducible refine bplus ?_ _) | (with_reducible exact Below.refl _ _) | (with_reducible assumption) | (with_reducible refine bto ?_ (by with_reducible assumption)))
      have h0' : (lk == 0) = false := by simpa using h0
      have F := hide (show R = tt by rw [E2.out]; simp [h0, h1])
      clear E2
      go_enter Tryd.func41, Tryd.ntmps41
      go_upto_region 1 with fail
      rw [HW0.out]
      clear HW0
      go_upto_region 4 with fail
      go_region_held3 (fun w' => w'.cell? ⟨b, o, none⟩ = some (.int .i64 t) ∧ w'.cell? ⟨w.heap.size, 2, none⟩ = some (.int .i64 lk) ∧ w'.cell? ⟨w.heap.size, 3, none⟩ = some (.int .i64 lt))
        ((refine KH.out _ ?_; (repeat (first | (with_reducible refine Below.drew ?_) | (with_reducible refine below_drewN ?_ _) | (with_reducible refine bplus ?_ _) | (with_reducible exact Below.refl _ _) | (with_reducible assumption) | (with_reducible refine bto ?_ (by with_reducible assumption)))); done))
        (first | (go_at_call 29; refine (CT.out _).mono ?_; rintro _ wl ⟨rfl, rfl⟩))
      all_goals
        go_wp2
        go_ret2
        refine ⟨_, tup2 F.out.symm, NT.out _ (.inr ⟨rfl, _, _, rfl⟩), bto HB0.out ?_⟩
        repeat (first | (with_reducible refine Below.drew ?_) | (with_reducible refine below_drewN ?_ _) | (with_reducible refine bplus ?_ _) | (with_reducible exact Below.refl _ _) | (with_reducible assumption) | (with_reducible refine bto ?_ (by with_reducible assumption)))
    obtain ⟨n, hn⟩ : ∃ n, r.length + 1 = n := ⟨_, rfl⟩
    have NT2 := hide (show NuW M (.slice (some ⟨b, o + 1, none⟩) (n - 1) (vc - 1)) (t :: r).tail from NT0.out n hn)
    have hn1 : 1 ≤ n := by omega
    have hn2 : n ≤ vc := by omega
    have hn3 : ¬ vc = 1 := hvc
    have hn4 : (1 : Int) ≤ (n : Int) := by omega
    have hn5 : (0 : Int) < (n : Int) := by omega
    clear NT NT0 hcap1
    rw [hn]
    clear hn hv9
    by_cases h1 : lk = 1
    · subst h1
      have F := hide (show R = lt by rw [E2.out]; simp)
      clear E2
      go_enter Tryd.func41, Tryd.ntmps41
      go_upto_region 1 with fail
      rw [HW0.out]
      clear HW0
      go_upto_region 4 with fail
      go_region_held3 (fun w' => w'.cell? ⟨b, o, none⟩ = some (.int .i64 t) ∧ w'.cell? ⟨w.heap.size, 2, none⟩ = some (.int .i64 1) ∧ w'.cell? ⟨w.heap.size, 3, none⟩ = some (.int .i64 lt))
        ((refine KH.out _ ?_; (repeat (first | (with_reducible refine Below.drew ?_) | (with_reducible refine below_drewN ?_ _) | (with_reducible refine bplus ?_ _) | (with_reducible exact Below.refl _ _) | (with_reducible assumption) | (with_reducible refine bto ?_ (by with_reducible assumption)))); done))
        (first | (go_at_call 29; refine (CT.out _).mono ?_; rintro _ wl ⟨rfl, rfl⟩))
      all_goals
        go_wp2
        go_ret2
        refine ⟨_, tup2 F.out.symm, NT2.out, bto HB0.out ?_⟩
        repeat (first | (with_reducible refine Below.drew ?_) | (with_reducible refine below_drewN ?_ _) | (with_reducible refine bplus ?_ _) | (with_reducible exact Below.refl _ _) | (with_reducible assumption) | (with_reducible refine bto ?_ (by with_reducible assumption)))
    have h1' : (lk == 1) = false := by simpa using h1
    by_cases h0 : lk = 0
    · subst h0
      have F := hide (show R = 1 by rw [E2.out]; simp)
      clear E2
      go_enter Tryd.func41, Tryd.ntmps41
      go_upto_region 1 with fail
      rw [HW0.out]
      clear HW0
      go_upto_region 4 with fail
      go_region_held3 (fun w' => w'.cell? ⟨b, o, none⟩ = some (.int .i64 t) ∧ w'.cell? ⟨w.heap.size, 2, none⟩ = some (.int .i64 0) ∧ w'.cell? ⟨w.heap.size, 3, none⟩ = some (.int .i64 lt))
        ((refine KH.out _ ?_; (repeat (first | (with_reducible refine Below.drew ?_) | (with_reducible refine below_drewN ?_ _) | (with_reducible refine bplus ?_ _) | (with_reducible exact Below.refl _ _) | (with_reducible assumption) | (with_reducible refine bto ?_ (by with_reducible assumption)))); done))
        (first | (go_at_call 29; refine (CT.out _).mono ?_; rintro _ wl ⟨rfl, rfl⟩))
      all_goals
        go_wp2
        go_ret2
        refine ⟨_, tup2 F.out.symm, NT2.out, bto HB0.out ?_⟩
        repeat (first | (with_reducible refine Below.drew ?_) | (with_reducible refine below_drewN ?_ _) | (with_reducible refine bplus ?_ _) | (with_reducible exact Below.refl _ _) | (with_reducible assumption) | (with_reducible refine bto ?_ (by with_reducible assumption)))
    have h0' : (lk == 0) = false := by simpa using h0
    have F := hide (show R = tt by rw [E2.out]; simp [h0, h1])
    clear E2
    go_enter Tryd.func41, Tryd.ntmps41
    go_upto_region 1 with fail
    rw [HW0.out]
    clear HW0
    go_upto_region 4 with fail
    go_region_held3 (fun w' => w'.cell? ⟨b, o, none⟩ = some (.int .i64 t) ∧ w'.cell? ⟨w.heap.size, 2, none⟩ = some (.int .i64 lk) ∧ w'.cell? ⟨w.heap.size, 3, none⟩ = some (.int .i64 lt))
      ((refine KH.out _ ?_; (repeat (first | (with_reducible refine Below.drew ?_) | (with_reducible refine below_drewN ?_ _) | (with_reducible refine bplus ?_ _) | (with_reducible exact Below.refl _ _) | (with_reducible assumption) | (with_reducible refine bto ?_ (by with_reducible assumption)))); done))
      (first | (go_at_call 29; refine (CT.out _).mono ?_; rintro _ wl ⟨rfl, rfl⟩))
    all_goals
      go_wp2
      go_ret2
      refine ⟨_, tup2 F.out.symm, NT2.out, bto HB0.out ?_⟩
      repeat (first | (with_reducible refine Below.drew ?_) | (with_reducible refine below_drewN ?_ _) | (with_reducible refine bplus ?_ _) | (with_reducible exact Below.refl _ _) | (with_reducible assumption) | (with_reducible refine bto ?_ (by with_reducible assumption)))
end Go.Proofs.YtpcdhdllclenaaaDoor.cd
