/-
  Identifiers, written: by the program and by the reference; the law of both.
-/
import Derived.Test.YticboondiojofaaGreatDoorSpwC
import Derived.Test.YticboondiojofaaGreatDoorUtfJ
import Derived.Test.YticboondiojofaaGreatDoorSpmF
import Derived.Test.YticboondiojofaaGreatDoorSpmJ
set_option linter.unusedVariables false
set_option linter.unusedSimpArgs false
namespace Go.Proofs.YticboondiojofaaGreatDoor
open Go.RowKit Go.Shelf

theorem getb (s : ByteArray) (i : Nat) (h : i < s.size) : ((s.get! i).toNat : Int) = gt (bl s) i := by
  rw [← bl_at s i h]
  have h' : i < s.data.size := h
  show ((s.data[i]!).toNat : Int) = _
  rw [getElem!_pos s.data i h']
  rfl
/-- What a range over whole bytes meets. -/
theorem dec_enc (s : ByteArray) (p : Nat) (c : Int) (r : List Int) (hc : isC c = true) (h : (bl s).drop p = enc1 c ++ r) : Utf8.decode s p = (c.toNat, (enc1 c).length) := by
  have hl : s.size - p = (enc1 c).length + r.length := by
    have := congrArg List.length h
    rw [List.length_drop, bl_len, List.length_append] at this
    exact this
  have g : ∀ j, j < (enc1 c).length → ((s.get! (p + j)).toNat : Int) = gt (enc1 c) j := fun j hj => by
    rw [getb s (p + j) (by omega)]
    have e : gt (bl s) (p + j) = gt ((bl s).drop p) j := by simp [gt, List.getD_eq_getElem?_getD, List.getElem?_drop]
    rw [e, h]
    simp [gt, List.getD_eq_getElem?_getD, List.getElem?_append_left hj]
  rw [isC_iff] at hc
  rw [Lib.decode_at]
  unfold enc1 at g hl ⊢
  split at g
  · rename_i h1
    have g0 := g 0 (by simp)
    rw [if_pos h1] at hl ⊢
    simp [gt] at g0
    unfold Lib.decodeN
    rw [if_pos (by omega)]
    simp; omega
  · rename_i h1
    rw [if_neg h1] at hl ⊢
    split at g
    · rename_i h2
      have g0 := g 0 (by simp)
      have g1 := g 1 (by simp)
      rw [if_pos h2] at hl ⊢
      simp [gt] at g0 g1 hl
      unfold Lib.decodeN
      rw [if_neg (by omega), if_pos (by omega), if_pos (by omega)]
      simp; omega
    · rename_i h2
      rw [if_neg h2] at hl ⊢
      split at g
      · rename_i h3
        have g0 := g 0 (by simp)
        have g1 := g 1 (by simp)
        have g2 := g 2 (by simp)
        rw [if_pos h3] at hl ⊢
        simp [gt] at g0 g1 g2 hl
        unfold Lib.decodeN
        rw [if_neg (by omega), if_neg (by omega), if_pos (by omega), if_pos (by omega)]
        simp; omega
      · rename_i h3
        have g0 := g 0 (by simp)
        have g1 := g 1 (by simp)
        have g2 := g 2 (by simp)
        have g3 := g 3 (by simp)
        rw [if_neg h3] at hl ⊢
        simp [gt] at g0 g1 g2 g3 hl
        unfold Lib.decodeN
        rw [if_neg (by omega), if_neg (by omega), if_neg (by omega), if_pos (by omega), if_pos (by omega)]
        simp; omega
theorem dec_whole_at (s : ByteArray) (p : Nat) (hp : p < s.size) (hw : whole ((bl s).drop p) = true) :
    ∃ c k, isC c = true ∧ 1 ≤ k ∧ k ≤ 4 ∧ p + k ≤ s.size ∧ Utf8.decode s p = (c.toNat, k) ∧ raw ((bl s).drop p) = c :: raw ((bl s).drop (p + k)) ∧ whole ((bl s).drop (p + k)) = true ∧ (c ≤ 127 → k = 1 ∧ nx (bl s) p = c) ∧ (127 < c → 2 ≤ k ∧ 128 ≤ nx (bl s) p) := by
  have hn : (bl s).drop p ≠ [] := by
    intro h
    have := congrArg List.length h
    rw [List.length_drop, bl_len] at this
    simp at this; omega
  have hb := (bl_by s).drop p
  have hl := stp_len _ hn
  have hw2 := hw
  rw [whole_cut hn, Bool.and_eq_true] at hw2
  obtain ⟨h1, h2⟩ := stp_back _ hb hn hw2.1
  have hd := dec_enc s p _ _ h1 h2
  have hlen : (enc1 (stp ((bl s).drop p)).1).length = (stp ((bl s).drop p)).2.1 := by
    have h3 := congrArg List.length h2
    rw [List.length_append] at h3
    have h4 : (((bl s).drop p).drop (stp ((bl s).drop p)).2.1).length = ((bl s).drop p).length - (stp ((bl s).drop p)).2.1 := List.length_drop ..
    omega
  have hx : nx (bl s) p = nx ((bl s).drop p) 0 := by rw [nx_drop]; rfl
  refine ⟨(stp ((bl s).drop p)).1, (stp ((bl s).drop p)).2.1, h1, hl.1, hl.2.1, ?_, ?_, ?_, ?_, ?_, ?_⟩
  · have := hl.2.2; rw [List.length_drop, bl_len] at this; omega
  · rw [hd, hlen]
  · rw [raw_cut hn, List.drop_drop]
  · rw [List.drop_drop] at hw2; exact hw2.2
  · intro hc
    have e1 : enc1 (stp ((bl s).drop p)).1 = [(stp ((bl s).drop p)).1] := by unfold enc1; rw [if_pos hc]
    refine ⟨by rw [← hlen, e1]; rfl, ?_⟩
    rw [hx]
    have := congrArg (fun l => nx l 0) h2
    simp only [e1] at this
    rw [this]; rfl
  · intro hc
    have h9 := (isC_iff _).1 h1
    have h0 := congrArg (fun l => nx l 0) h2
    refine ⟨?_, ?_⟩
    · rw [← hlen]
      unfold enc1
      rw [if_neg (by omega)]
      split
      · simp
      split <;> simp
    · rw [hx]
      have h0' : nx ((bl s).drop p) 0 = nx (enc1 (stp ((bl s).drop p)).1 ++ ((bl s).drop p).drop (stp ((bl s).drop p)).2.1) 0 := h0
      rw [h0']
      generalize (stp ((bl s).drop p)).1 = c at *
      unfold enc1
      rw [if_neg (by omega)]
      split
      · show 128 ≤ 192 + c / 64; omega
      split
      · show 128 ≤ 224 + c / 4096; omega
      · show 128 ≤ 240 + c / 262144; omega
/-! ### An identifier -/
def wNm (cs : List Int) : List Int := cs.flatMap wLt
def hdT (c : Int) : List Int := if isDig c = true then esc c else wLt c
def wId1 : List Int → List Int
  | [] => []
  | c :: r => hdT c ++ wNm r
def wId0 : List Int → List Int
  | [] => []
  | c :: r => hdT c ++ if c = 45 then wId1 r else wNm r
def wId (bs : List Int) : List Int := if bs = [45] then [92, 45] else wId0 (raw bs)
def restT (bs : List Int) (p : Nat) : List Int := if p = 0 then wId0 (raw bs) else if p = 1 ∧ nx bs 0 = 45 then wId1 (raw (bs.drop 1)) else wNm (raw (bs.drop p))
def dgT (bs : List Int) (p : Nat) (c : Int) : Bool := isDig c && ((p == 0) || ((p == 1) && (nx bs 0 == 45)))
theorem wNm_cons (c : Int) (r : List Int) : wNm (c :: r) = wLt c ++ wNm r := by unfold wNm; rw [List.flatMap_cons]
theorem restT_0 (bs : List Int) : restT bs 0 = wId0 (raw bs) := by unfold restT; rw [if_pos rfl]
theorem restT_1 {bs : List Int} (h : nx bs 0 = 45) : restT bs 1 = wId1 (raw (bs.drop 1)) := by unfold restT; rw [if_neg (by omega), if_pos ⟨rfl, h⟩]
theorem restT_k {bs : List Int} {p : Nat} (h0 : p ≠ 0) (h : ¬ (p = 1 ∧ nx bs 0 = 45)) : restT bs p = wNm (raw (bs.drop p)) := by unfold restT; rw [if_neg h0, if_neg h]
theorem rest_step {bs : List Int} {p k : Nat} {c : Int} (hr : raw (bs.drop p) = c :: raw (bs.drop (p + k))) (hk : 1 ≤ k) (h1 : c ≤ 127 → k = 1 ∧ nx bs p = c) (h2 : 127 < c → 2 ≤ k ∧ 128 ≤ nx bs p) :
    restT bs p = (if dgT bs p c = true then esc c else wLt c) ++ restT bs (p + k) := by
  by_cases h0 : p = 0
  · subst h0
    rw [Nat.zero_add] at hr ⊢
    rw [List.drop_zero] at hr
    have e : dgT bs 0 c = isDig c := by simp [dgT]
    rw [e, restT_0, hr]
    show hdT c ++ _ = hdT c ++ _
    congr 1
    by_cases h45 : c = 45
    · obtain ⟨hk1, hn⟩ := h1 (by omega)
      rw [if_pos h45, hk1, restT_1 (by omega)]
    · rw [if_neg h45, restT_k (by omega)]
      rintro ⟨hk1, hn⟩
      by_cases hc : c ≤ 127
      · have := (h1 hc).2; omega
      · have := (h2 (by omega)).1; omega
  · by_cases h1' : p = 1 ∧ nx bs 0 = 45
    · obtain ⟨rfl, h45⟩ := h1'
      have e : dgT bs 1 c = isDig c := by simp [dgT, h45]
      rw [e, restT_1 h45, restT_k (by omega) (by omega), hr]
      rfl
    · have e : dgT bs p c = false := by
        unfold dgT
        have z0 : (p == 0) = false := by simpa using h0
        rw [z0]
        by_cases hp1 : p = 1
        · have : (nx bs 0 == 45) = false := by simp; exact fun h => h1' ⟨hp1, h⟩
          rw [this]; simp
        · have : (p == 1) = false := by simpa using hp1
          rw [this]; simp
      rw [e, restT_k h0 h1', restT_k (by omega) (by omega), hr, wNm_cons]
      rfl
theorem rest_end {bs : List Int} {p : Nat} (h : bs.length ≤ p) : restT bs p = [] := by
  unfold restT
  have hd : bs.drop p = [] := List.drop_of_length_le h
  split
  · rename_i h0
    subst h0
    rw [List.drop_zero] at hd
    rw [hd, raw_nil]; rfl
  split
  · rename_i h1
    rw [h1.1] at hd
    rw [hd, raw_nil]; rfl
  · rw [hd, raw_nil]; rfl
theorem hxL_len {n : Nat} (h : n < 65536) : 1 ≤ (hxL n).length ∧ (hxL n).length ≤ 4 := by
  by_cases h1 : n < 16
  · rw [hxL_one h1]; simp
  rw [hxL_big h1]
  by_cases h2 : n / 16 < 16
  · rw [hxL_one h2]; simp
  rw [hxL_big h2]
  by_cases h3 : n / 16 / 16 < 16
  · rw [hxL_one h3]; simp
  rw [hxL_big h3, hxL_one (by omega)]; simp
theorem esc_len {c : Int} (h0 : 0 ≤ c) (h : c < 65536) : (esc c).length ≤ 6 := by
  unfold esc
  have := hxL_len (n := c.toNat) (by omega)
  simp; omega
theorem wLt_len (c : Int) : (wLt c).length ≤ 6 := by
  have := enc1_len c
  unfold wLt
  split
  · rename_i h; obtain ⟨a, b⟩ := hid_bd h; exact esc_len a b
  split
  · omega
  · simp; omega
theorem dig_bd {c : Int} (h : isDig c = true) : 0 ≤ c ∧ c < 65536 := by simp [isDig] at h; omega
def oneT (bs : List Int) (p : Nat) (c : Int) : List Int := if dgT bs p c = true then esc c else wLt c
theorem oneT_len (bs : List Int) (p : Nat) (c : Int) : (oneT bs p c).length ≤ 6 := by
  unfold oneT
  split
  · rename_i h
    unfold dgT at h
    rw [Bool.and_eq_true] at h
    obtain ⟨a, b⟩ := dig_bd h.1
    exact esc_len a b
  · exact wLt_len c
theorem Bd.lt {B b : Nat} {xs : List Int} {w : World} (h : Bd B b xs w) : b < w.heap.size := by
  rcases h with ⟨_, v, h, _⟩ | ⟨_, v, h, _⟩ <;> exact (Array.getElem?_eq_some_iff.1 h).1
/-- The iterator moved on. -/
theorem PB.iter {B b : Nat} {xs : List Int} {w wr : World} (h : PB B b xs w wr) (hB : B ≤ w.heap.size) {s : ByteArray} {p : Nat} (hit : wr.heap[w.heap.size]? = some (.stringIter s p)) (p' : Nat) : PB B b xs w (wr.iterAt w.heap.size s p') := by
  refine ⟨Lib.IsBuilderF.iterAt h.bd hit p', Lib.below_iterAt h.bel hB s p', fun k o hk hb ho => ?_⟩
  have hlt := (Array.getElem?_eq_some_iff.1 hk).1
  rw [Lib.iterAt_other wr w.heap.size k s p' (by omega)]
  exact h.oth k o hk hb ho
/-- The state of a loop over characters that writes. -/
def RelW (B b : Nat) (xs : List Int) (s : ByteArray) (w : World) (R : Nat → List Int) (wr : World) : Prop := ∃ p done, p ≤ s.size ∧ Hid (PB B b (xs ++ done) w wr ∧ wr.heap[w.heap.size]? = some (.stringIter s p) ∧ R 0 = done ++ R p ∧ whole ((bl s).drop p) = true ∧ done.length ≤ 6 * p)
theorem RelW.mk {B b : Nat} {xs : List Int} {s : ByteArray} {w : World} {R : Nat → List Int} {wr : World} (p : Nat) (done : List Int) (h0 : p ≤ s.size) (h : PB B b (xs ++ done) w wr ∧ wr.heap[w.heap.size]? = some (.stringIter s p) ∧ R 0 = done ++ R p ∧ whole ((bl s).drop p) = true ∧ done.length ≤ 6 * p) : RelW B b xs s w R wr := ⟨p, done, h0, h⟩
theorem PB.range {B b : Nat} {xs : List Int} {w : World} (h : Bd B b xs w) (hB : B ≤ w.heap.size) (s : ByteArray) : PB B b xs w (w.alloc (.stringIter s 0)) ∧ (w.alloc (.stringIter s 0)).heap[w.heap.size]? = some (.stringIter s 0) :=
  ⟨(PB.start h).grow hB (bplus (Below.refl _ _) _), heap_alloc_new w _⟩
/-- What a round finds. -/
structure Rnd (B b : Nat) (xs : List Int) (s : ByteArray) (w wr : World) (p : Nat) (done : List Int) (wi : World) (c : Int) (k : Nat) : Prop where
  nx : ∀ ty, (Instr.next (.pointer (some ⟨w.heap.size, 0, none⟩)) true ty).run Tryz.prog wr = .ok (.tuple #[.bool true, .int .i64 (p : Int), .int .i32 c]) wi
  it : wi.heap[w.heap.size]? = some (.stringIter s (p + k))
  pb : PB B b (xs ++ done) w wi
  isc : isC c = true
  k1 : 1 ≤ k
  ks : p + k ≤ s.size
  rw : raw ((bl s).drop p) = c :: raw ((bl s).drop (p + k))
  wh : whole ((bl s).drop (p + k)) = true
  lo : c ≤ 127 → k = 1 ∧ Go.Proofs.YticboondiojofaaGreatDoor.nx (bl s) p = c
  hi : 127 < c → 2 ≤ k ∧ 128 ≤ Go.Proofs.YticboondiojofaaGreatDoor.nx (bl s) p
theorem rnd_of {B b : Nat} {xs : List Int} {s : ByteArray} {w wr : World} {p : Nat} {done : List Int} (h : PB B b (xs ++ done) w wr) (hB : B ≤ w.heap.size) (hit : wr.heap[w.heap.size]? = some (.stringIter s p)) (hw : whole ((bl s).drop p) = true) (hp : p < s.size) : ∃ wi c k, Rnd B b xs s w wr p done wi c k := by
  obtain ⟨c, k, c0, k1, k4, ks, hd, hr, hw2, lo, hi⟩ := dec_whole_at s p hp hw
  refine ⟨wr.iterAt w.heap.size s (p + k), c, k, ?_, Lib.iterAt_heap wr w.heap.size s p (p + k) hit, h.iter hB hit _, c0, k1, ks, hr, hw2, lo, hi⟩
  intro ty
  rw [Lib.run_next_any_at wr w.heap.size s p ty hit hp, hd]
  have := (isC_iff c).1 c0
  rw [show ((c.toNat : Nat) : Int) = c by omega]
theorem Rnd.on {B b : Nat} {xs : List Int} {s : ByteArray} {w wr : World} {R : Nat → List Int} {p : Nat} {done : List Int} {wi : World} {c : Int} {k : Nat} (r : Rnd B b xs s w wr p done wi c k) (hbk : b ≠ w.heap.size) {t : List Int} {w1 : World} (P : PB B b ((xs ++ done) ++ t) wi w1) (h0 : R 0 = done ++ R p) (h : R p = t ++ R (p + k)) (hl : done.length ≤ 6 * p) (ht : t.length ≤ 6) : RelW B b xs s w R w1 ∧ w1.iterPos w.heap.size = p + k := by
  have it1 := P.oth.iter r.it (Ne.symm hbk)
  refine ⟨RelW.mk (p + k) (done ++ t) r.ks ⟨?_, it1, by rw [h0, h, List.append_assoc], r.wh, ?_⟩, by simp only [World.iterPos, it1]⟩
  · have := r.pb.trans P
    rwa [List.append_assoc] at this
  · have := r.k1
    rw [List.length_append]; omega
set_option maxRecDepth 100000 in
set_option maxHeartbeats 4000000 in
theorem wId_any (B b : Nat) (xs : List Int) (s : ByteArray) (w : World) (hw : whole (bl s) = true) (h : Bd B b xs w) (hl : xs.length + 6 * s.size ≤ 70368744177664) (hB : B ≤ w.heap.size) (hT : TB B w) :
    Calls Tryz.prog 50 #[.pointer (some ⟨b, 0, none⟩), .string s] w fun e w' => e = .returned (.tuple #[]) ∧ PB B b (xs ++ wId (bl s)) w w' := by
  by_cases hd : bl s = [45]
  · have E := hide (show wId (bl s) = [92, 45] by unfold wId; rw [if_pos hd])
    obtain rfl : s = ⟨#[45]⟩ := bl_inj hd
    have C := hide (wstr_any B b xs ⟨#[92, 45]⟩ w h (by show _ + 2 ≤ _; omega) hB)
    clear h hT hd
    go_enter Tryz.func50, Tryz.ntmps50
    go_wp2_with (go_at_call 27; refine C.out.mono ?_; rintro e w1 ⟨rfl, P1⟩; replace P1 := hide P1)
    exact bodyPost_ret (v := .tuple #[]) (by simp [results, Tryz.results50, go_sem]) rfl ⟨rfl, by rw [E.out]; exact P1.out⟩
  · have E := hide (show wId (bl s) = restT (bl s) 0 by unfold wId; rw [if_neg hd, restT_0])
    have hne2 : (s.toList == [45]) = false := by
      rw [beq_eq_false_iff_ne]
      intro h
      rw [Lib.toList_data] at h
      exact hd (by unfold bl; rw [h]; rfl)
    have ST := hide (PB.range h hB s)
    have HT := hide hT
    have HW := hide hw
    have hbk : b ≠ w.heap.size := Nat.ne_of_lt h.lt
    have HBK := hide hbk
    clear h hT hd hw hbk
    go_enter Tryz.func50, Tryz.ntmps50
    go_wp2
    go_loopw [] (fun wr => RelW B b xs s w (restT (bl s)) wr) (fun wr => s.size - wr.iterPos w.heap.size)
    case atStart =>
      exact RelW.mk 0 [] (Nat.zero_le _) ⟨by rw [List.append_nil]; exact ST.out.1, ST.out.2, rfl, HW.out, Nat.zero_le _⟩
    case round =>
      clear ST
      obtain ⟨p, done, hp, H⟩ := id hrel
      clear hrel
      by_cases hlt : p < s.size
      · obtain ⟨wi, c, k, r⟩ := rnd_of H.out.1 hB H.out.2.1 H.out.2.2.2.1 hlt
        have hnx := r.nx
        have IP := hide (show wr.iterPos w.heap.size = p by simp only [World.iterPos, H.out.2.1])
        have LN := hide (show (xs ++ done).length ≤ 70368744177664 by have := H.out.2.2.2.2; rw [List.length_append]; omega)
        have SZ := r.pb.size hB
        have TT := hide (HT.out.on r.pb.bel)
        have STP := hide (rest_step r.rw r.k1 r.lo r.hi)
        have CL := hide (wLt_any B b (xs ++ done) c wi r.isc r.pb.bd LN.out SZ TT.out)
        have K1 := r.k1
        have KS := r.ks
        replace r := hide r
        cases D : dgT (bl s) p c with
        | true =>
          rw [D] at STP
          have hdg : isDig c = true := by unfold dgT at D; rw [Bool.and_eq_true] at D; exact D.1
          have CE := hide (wEsc_any B b (xs ++ done) c wi (dig_bd hdg).1 (dig_bd hdg).2 r.out.pb.bd LN.out SZ TT.out)
          have ON := hide (fun w1 (P : PB B b ((xs ++ done) ++ esc c) wi w1) => r.out.on (R := restT (bl s)) HBK.out P H.out.2.2.1 STP.out H.out.2.2.2.2 (esc_len (dig_bd hdg).1 (dig_bd hdg).2))
          have DG := hide hdg
          have hor : p = 0 ∨ (p = 1 ∧ nx (bl s) 0 = 45) := by
            unfold dgT at D; rw [Bool.and_eq_true] at D
            have := D.2
            simpa using this
          clear D STP CL LN TT H hdg r
          rcases hor with rfl | ⟨rfl, h45⟩
          · go_wp2_with (first
              | (go_at_call 76; refine (isDigitS_any c _).mono ?_; rintro e w1 ⟨rfl, rfl⟩; rw [DG.out])
              | (go_at_call 77; refine CE.out.mono ?_; rintro e w1 ⟨rfl, P1⟩; replace P1 := hide P1))
            go_roundw
            case rel => exact (ON.out _ P1.out).1
            case measure => rw [(ON.out _ P1.out).2, IP.out]; omega
          · have hs0 : 0 < s.size := by omega
            have e0 : ((s[0].toNat : Int) == 45) = true := by
              have := bl_nx s 0 hs0
              rw [← h45, this]; simp
            clear h45
            go_wp2_with (first
              | (go_at_call 76; refine (isDigitS_any c _).mono ?_; rintro e w1 ⟨rfl, rfl⟩; rw [DG.out])
              | (go_at_call 77; refine CE.out.mono ?_; rintro e w1 ⟨rfl, P1⟩; replace P1 := hide P1))
            go_roundw
            case rel => exact (ON.out _ P1.out).1
            case measure => rw [(ON.out _ P1.out).2, IP.out]; omega
        | false =>
          rw [D] at STP
          have ON := hide (fun w1 (P : PB B b ((xs ++ done) ++ wLt c) wi w1) => r.out.on (R := restT (bl s)) HBK.out P H.out.2.2.1 STP.out H.out.2.2.2.2 (wLt_len c))
          have hor : isDig c = false ∨ (isDig c = true ∧ ((2 ≤ p) ∨ (p = 1 ∧ nx (bl s) 0 ≠ 45))) := by
            unfold dgT at D
            cases hdg : isDig c with
            | false => exact Or.inl rfl
            | true =>
              refine Or.inr ⟨rfl, ?_⟩
              rw [hdg] at D
              simp at D
              by_cases h1 : p = 1
              · exact Or.inr ⟨h1, D.2 h1⟩
              · exact Or.inl (by omega)
          clear D STP LN TT H r
          rcases hor with hdg | ⟨hdg, h2 | ⟨rfl, h45⟩⟩
          · have DG := hide hdg
            clear hdg
            go_wp2_with (first
              | (go_at_call 76; refine (isDigitS_any c _).mono ?_; rintro e w1 ⟨rfl, rfl⟩; rw [DG.out])
              | (go_at_call 78; refine CL.out.mono ?_; rintro e w1 ⟨rfl, P1⟩; replace P1 := hide P1))
            go_roundw
            case rel => exact (ON.out _ P1.out).1
            case measure => rw [(ON.out _ P1.out).2, IP.out]; omega
          · have DG := hide hdg
            clear hdg
            have z0 : ((p : Int) == 0) = false := by simp; omega
            have z1 : ((p : Int) == 1) = false := by simp; omega
            have z2 : (p == 0) = false := by simp; omega
            have z3 : (p == 1) = false := by simp; omega
            go_wp2_with (first
              | (go_at_call 76; refine (isDigitS_any c _).mono ?_; rintro e w1 ⟨rfl, rfl⟩; rw [DG.out])
              | (go_at_call 78; refine CL.out.mono ?_; rintro e w1 ⟨rfl, P1⟩; replace P1 := hide P1))
            go_roundw
            case rel => exact (ON.out _ P1.out).1
            case measure => rw [(ON.out _ P1.out).2, IP.out]; omega
          · have DG := hide hdg
            clear hdg
            have hs0 : 0 < s.size := by omega
            have e0 : ((s[0].toNat : Int) == 45) = false := by
              have := bl_nx s 0 hs0
              rw [beq_eq_false_iff_ne, ← this]; exact h45
            clear h45
            go_wp2_with (first
              | (go_at_call 76; refine (isDigitS_any c _).mono ?_; rintro e w1 ⟨rfl, rfl⟩; rw [DG.out])
              | (go_at_call 78; refine CL.out.mono ?_; rintro e w1 ⟨rfl, P1⟩; replace P1 := hide P1))
            go_roundw
            case rel => exact (ON.out _ P1.out).1
            case measure => rw [(ON.out _ P1.out).2, IP.out]; omega
      · have hnx : ∀ ty, (Instr.next (.pointer (some ⟨w.heap.size, 0, none⟩)) true ty).run Tryz.prog wr = _ := fun ty => Lib.run_next_end_at wr w.heap.size s p ty H.out.2.1 hlt
        go_wp2
        go_end0
        refine ⟨rfl, ?_⟩
        have e : restT (bl s) 0 = done := by rw [H.out.2.2.1, rest_end (by rw [bl_len]; omega), List.append_nil]
        rw [E.out, e]
        exact H.out.1
theorem fst4_cases (c : Int) : (c < 65 ∧ isFst c = false) ∨ (65 ≤ c ∧ c ≤ 90 ∧ isFst c = true) ∨ (90 < c ∧ c < 95 ∧ isFst c = false) ∨ (c = 95 ∧ isFst c = true) ∨ (c = 96 ∧ isFst c = false) ∨ (97 ≤ c ∧ c ≤ 122 ∧ isFst c = true) ∨ (122 < c ∧ c < 128 ∧ isFst c = false) ∨ (128 ≤ c ∧ isFst c = true) := by
  have : isFst c = true ↔ (97 ≤ c ∧ c ≤ 122) ∨ (65 ≤ c ∧ c ≤ 90) ∨ c = 95 ∨ 128 ≤ c := by simp [isFst]; omega
  by_cases h : isFst c = true
  · have := this.1 h; simp only [h, and_true]; simp; omega
  · have h' : isFst c = false := by simpa using h
    have : ¬ ((97 ≤ c ∧ c ≤ 122) ∨ (65 ≤ c ∧ c ≤ 90) ∨ c = 95 ∨ 128 ≤ c) := fun k => h (this.2 k)
    simp only [h', and_true]; simp; omega
theorem isDig4_any (c : Int) (w : World) : Calls Tryz.prog 73 #[.int .i32 c] w fun e w' => e = .returned (.bool (isDig c)) ∧ w' = w := by
  rcases (show c < 48 ∨ (48 ≤ c ∧ c ≤ 57) ∨ 57 < c by omega) with h | ⟨h, g⟩ | h
  all_goals
    go_enter Tryz.func73, Tryz.ntmps73
    go_wp2
    go_ret
    exact ⟨ret_bool (by simp [isDig]; omega), rfl⟩
set_option maxHeartbeats 1000000 in
theorem isFst4_any (c : Int) (w : World) : Calls Tryz.prog 72 #[.int .i32 c] w fun e w' => e = .returned (.bool (isFst c)) ∧ w' = w := by
  rcases fst4_cases c with ⟨h, e⟩ | ⟨h, g, e⟩ | ⟨h, g, e⟩ | ⟨rfl, e⟩ | ⟨rfl, e⟩ | ⟨h, g, e⟩ | ⟨h, g, e⟩ | ⟨h, e⟩
  all_goals
    have E := hide e
    clear e
    go_enter Tryz.func72, Tryz.ntmps72
    go_wp2
    go_ret
    exact ⟨ret_bool (by rw [E.out]; first | done | rfl | (simp; omega)), rfl⟩
theorem isLet4_any (c : Int) (w : World) : Calls Tryz.prog 46 #[.int .i32 c] w fun e w' => e = .returned (.bool (isLet c)) ∧ w' = w := by
  cases hf : isFst c
  · cases hd : isDig c
    · by_cases h : c = 45
      · subst h
        have F := hide hf
        have D := hide hd
        clear hf hd
        go_enter Tryz.func46, Tryz.ntmps46
        go_wp2_with (first
          | (go_at_call 72; refine (isFst4_any _ _).mono ?_; rintro e w' ⟨rfl, rfl⟩; rw [F.out])
          | (go_at_call 73; refine (isDig4_any _ _).mono ?_; rintro e w' ⟨rfl, rfl⟩; rw [D.out]))
        go_ret
        exact ⟨rfl, rfl⟩
      · have e1 : (c == 45) = false := by simpa using h
        have F := hide hf
        have D := hide hd
        clear hf hd
        go_enter Tryz.func46, Tryz.ntmps46
        go_wp2_with (first
          | (go_at_call 72; refine (isFst4_any _ _).mono ?_; rintro e w' ⟨rfl, rfl⟩; rw [F.out])
          | (go_at_call 73; refine (isDig4_any _ _).mono ?_; rintro e w' ⟨rfl, rfl⟩; rw [D.out]))
        go_ret
        exact ⟨ret_bool (by unfold isLet; rw [F.out, D.out, e1]; rfl), rfl⟩
    · have F := hide hf
      have D := hide hd
      clear hf hd
      go_enter Tryz.func46, Tryz.ntmps46
      go_wp2_with (first
        | (go_at_call 72; refine (isFst4_any _ _).mono ?_; rintro e w' ⟨rfl, rfl⟩; rw [F.out])
        | (go_at_call 73; refine (isDig4_any _ _).mono ?_; rintro e w' ⟨rfl, rfl⟩; rw [D.out]))
      go_ret
      exact ⟨ret_bool (by unfold isLet; rw [F.out, D.out]; rfl), rfl⟩
  · have F := hide hf
    clear hf
    go_enter Tryz.func46, Tryz.ntmps46
    go_wp2_with (go_at_call 72; refine (isFst4_any _ _).mono ?_; rintro e w' ⟨rfl, rfl⟩; rw [F.out])
    go_ret
    exact ⟨ret_bool (by unfold isLet; rw [F.out]; rfl), rfl⟩
theorem nums_back {w : World} {v : Value} {bs : List Int} (h : Nums .u8 w v bs) (h0 : 0 < bs.length) (hb : By bs) : ∃ s, bl s = bs ∧ (convert 36 9 v).run Tryz.prog w = .ok (.string s) w := by
  rcases h with ⟨_, _, _, rfl⟩ | ⟨b, o, n, c, rfl, hn, _, _, _, _, _, hc⟩
  · simp at h0
  have e : ∀ j, j < bs.length → (((bs.map fun x => UInt8.ofNat x.toNat).getD j 0).toNat : Int) = gt bs j := fun j hj => by
    have := hb (bs[j]) (List.getElem_mem hj)
    rw [gt_eq hj]
    simp [List.getD_eq_getElem?_getD, List.getElem?_map, List.getElem?_eq_getElem hj]
    omega
  refine ⟨⟨(bs.map fun x => UInt8.ofNat x.toNat).toArray⟩, ?_, ?_⟩
  · unfold bl
    rw [List.toList_toArray, List.map_map]
    conv => rhs; rw [← List.map_id bs]
    refine List.map_congr_left fun x hx => ?_
    have := hb x hx
    simp
    omega
  · have k' := run_convert_bytes_back (P := Tryz.prog) w 36 9 5 ⟨b, o, none⟩ c (bs.map fun x => UInt8.ofNat x.toNat) Tryz.underlying36 Tryz.underlying5 Tryz.underlying9 (fun j hj => by
      have hj' : j < bs.length := by simpa using hj
      have e2 := e j hj'
      rw [List.getD_eq_getElem?_getD, List.getElem?_eq_getElem hj] at e2
      rw [Lib.add_plain, hc j (by omega), ← e2]
      rfl)
    rw [List.length_map, ← hn] at k'
    exact k'
theorem enc_sole {c : Int} (h : isC c = true) : enc [c] = enc1 c := by
  unfold enc
  simp [chr, h]
theorem enc1_by {c : Int} (h : isC c = true) : By (enc1 c) := by
  rw [isC_iff] at h
  unfold enc1
  split
  · intro x hx; simp at hx; omega
  split
  · intro x hx; simp at hx; omega
  split
  · intro x hx; simp at hx; omega
  · intro x hx; simp at hx; omega
theorem enc1_pos (c : Int) : 0 < (enc1 c).length := by
  unfold enc1
  split
  · simp
  split
  · simp
  split <;> simp
set_option maxHeartbeats 1000000 in
theorem text4_one (c : Int) (v : Value) (w : World) (hc : isC c = true) (hv : Nums .i32 w v [c]) :
    Calls Tryz.prog 47 #[v] w fun e w' => ∃ s, e = .returned (.string s) ∧ bl s = enc1 c ∧ Below w.heap.size w w' := by
  have C := hide (encR_any [c] v w hv (by simp))
  have HC := hide hc
  clear hv
  go_enter Tryz.func47, Tryz.ntmps47
  go_wp2_with fail
  go_at_call 74
  refine C.out.mono ?_
  rintro e w1 ⟨u, rfl, N, B⟩
  rw [enc_sole HC.out] at N
  obtain ⟨s, hs, hcv⟩ := nums_back N (enc1_pos c) (enc1_by HC.out)
  replace hs := hide hs
  replace B := hide B
  clear N C
  go_wp2
  go_ret
  exact ⟨s, rfl, hs.out, B.out⟩
set_option maxHeartbeats 1000000 in
theorem esc4_any (c : Int) (w : World) (c0 : 0 ≤ c) (hc : c < 65536) (hT : Tabs w) :
    Calls Tryz.prog 42 #[.int .i32 c] w fun e w' => ∃ s, e = .returned (.string s) ∧ bl s = esc c ∧ Below w.heap.size w w' := by
  have C := hide (fmt16 c w c0 hc hT)
  have HL := hide (show ∀ s : ByteArray, bl s = hxL c.toNat → s.size ≤ 4 from fun s hs => by rw [← bl_len, hs]; exact (hxL_len (by omega)).2)
  clear hT
  go_enter Tryz.func42, Tryz.ntmps42
  go_wp2_with (go_at_call 70; refine C.out.mono ?_; rintro e w1 ⟨s, rfl, hs, B⟩; have hz := HL.out s hs; replace hs := hide hs; replace B := hide B)
  go_ret
  exact ⟨_, rfl, by rw [bl_app, bl_app, hs.out]; simp [esc]; rfl, B.out⟩
/-- The state of the loop over letters. -/
def RelLs (ls : List Int) (w : World) (i s : Value) (wr : World) : Prop := ∃ (k : Nat) (t : ByteArray), i = .int .i64 k ∧ s = .string t ∧ k ≤ ls.length ∧ t.size ≤ 6 * k ∧ Hid (bl t = wNm (ls.take k) ∧ Below w.heap.size w wr)
theorem RelLs.mk {ls : List Int} {w : World} {i s : Value} {wr : World} (k : Nat) (t : ByteArray) (h1 : i = .int .i64 k) (h2 : s = .string t) (h3 : k ≤ ls.length) (h5 : t.size ≤ 6 * k) (h4 : bl t = wNm (ls.take k) ∧ Below w.heap.size w wr) : RelLs ls w i s wr := ⟨k, t, h1, h2, h3, h5, h4⟩
theorem wNm_take {ls : List Int} {k : Nat} (h : k < ls.length) : wNm (ls.take (k + 1)) = wNm (ls.take k) ++ wLt (gt ls k) := by
  unfold wNm
  rw [List.take_succ_eq_append_getElem h, List.flatMap_append, gt_eq h]
  simp
set_option maxRecDepth 100000 in
set_option maxHeartbeats 2000000 in
theorem letters4_any (ls : List Int) (v : Value) (w : World) (hv : Nums .i32 w v ls) (hc : ∀ x ∈ ls, isC x = true) (hl9 : ls.length ≤ 1099511627776) (hT : Tabs w) :
    Calls Tryz.prog 22 #[v] w fun e w' => ∃ s, e = .returned (.string s) ∧ bl s = wNm ls ∧ Below w.heap.size w w' := by
  rcases hv with ⟨a, c, rfl, rfl⟩ | ⟨b, o, n, c, rfl, hn, h0, hbw, hl, hn9, hc9, hcell⟩
  · go_enter Tryz.func22, Tryz.ntmps22
    go_wp2
    refine wp_loop_rounds 1 ?_
    rw [rounds_succ]
    go_wp2
    go_ret
    exact ⟨_, rfl, rfl, Below.refl _ _⟩
  · have HC := hide (fun (i : Nat) (hi : i < n) (W : World) (hW : Below w.heap.size w W) => (hW.cell (p := ⟨b, o + i, none⟩) hbw).trans (hcell i hi))
    have HI := hide (fun (k : Nat) (hk : k < n) => hc (gt ls k) (by rw [gt_eq (show k < ls.length by omega)]; exact List.getElem_mem _))
    have HN := hide hn
    have HT := hide hT
    have hnb : n ≤ 1099511627776 := by omega
    clear hcell hc hT hn
    go_enter Tryz.func22, Tryz.ntmps22
    go_wp2
    go_loopw [8, 3] (fun i s wr => RelLs ls w i s wr) (fun i s wr => n - (intOf i).toNat)
    case atStart => exact .mk 0 _ rfl rfl (by omega) (Nat.le_refl _) ⟨rfl, Below.refl _ _⟩
    case round =>
      obtain ⟨k, t, rfl, rfl, k1, ht6, R⟩ := hrel
      rw [← HN.out] at k1
      by_cases hk : k < n
      · have c0 := HC.out k hk wr R.out.2
        have hk' : (k : Int) < n := by omega
        have CC := hide (HI.out k hk)
        have ST := hide (wNm_take (ls := ls) (k := k) (by rw [← HN.out]; exact hk))
        obtain ⟨x, hx⟩ : ∃ x, gt ls k = x := ⟨_, rfl⟩
        rw [hx] at c0 CC ST
        have TT := hide (HT.out.below R.out.2)
        clear hx
        have FIN := hide (fun (u : ByteArray) (W : World) (hu : bl u = wLt x) (hW : Below wr.heap.size wr W) => show RelLs ls w (.int .i64 ((k + 1 : Nat) : Int)) (.string (t ++ u)) W from
          .mk (k + 1) _ rfl rfl (by rw [← HN.out]; omega) (by
            have e1 : (t ++ u).size = t.size + u.size := by simp
            have e2 : u.size ≤ 6 := by rw [← bl_len, hu]; exact wLt_len x
            omega) ⟨by rw [bl_app, hu, R.out.1, ST.out], bto R.out.2 hW⟩)
        cases hh : isHid x with
        | true =>
          have E := hide (show wLt x = esc x by unfold wLt; rw [if_pos hh])
          have CE := hide (esc4_any x wr (hid_bd hh).1 (hid_bd hh).2 TT.out)
          have LE := hide (show ∀ u : ByteArray, bl u = esc x → u.size ≤ 6 from fun u hu => by rw [← bl_len, hu]; exact esc_len (hid_bd hh).1 (hid_bd hh).2)
          replace hh := hide hh
          go_wp2_with (first
            | (go_at_call 45; refine (hiddenR_any x _).mono ?_; rintro e w1 ⟨rfl, rfl⟩; rw [hh.out])
            | (go_at_call 42; refine CE.out.mono ?_; rintro e w1 ⟨u, rfl, hu, B1⟩; have hz := LE.out u hu; replace hu := hide hu; replace B1 := hide B1))
          go_roundw
          case rel => exact FIN.out u _ (by rw [hu.out, E.out]) B1.out
          case measure => simp [intOf]; omega
        | false =>
          have NL := Nums.lit (k := .i32) wr 21 [x] 1 rfl (by omega) (by omega)
          have CT := hide (text4_one x _ _ CC.out NL)
          have BA := hide (bplus (Below.refl wr.heap.size wr) (.cells #[.int .i32 x] 21))
          have LE := hide (show ∀ u : ByteArray, bl u = enc1 x → u.size ≤ 4 from fun u hu => by rw [← bl_len, hu]; exact (enc1_len x).2)
          clear NL
          cases hf : isLet x with
          | true =>
            have E := hide (show wLt x = enc1 x by unfold wLt; rw [hh, hf]; rfl)
            replace hh := hide hh
            replace hf := hide hf
            go_wp2_with (first
              | (go_at_call 45; refine (hiddenR_any x _).mono ?_; rintro e w1 ⟨rfl, rfl⟩; rw [hh.out])
              | (go_at_call 46; refine (isLet4_any x _).mono ?_; rintro e w1 ⟨rfl, rfl⟩; rw [hf.out])
              | (go_at_call 47; refine CT.out.mono ?_; rintro e w1 ⟨u, rfl, hu, B1⟩; have hz := LE.out u hu; replace hu := hide hu; replace B1 := hide (bto BA.out B1)))
            go_roundw
            case rel => exact FIN.out u _ (by rw [hu.out, E.out]) B1.out
            case measure => simp [intOf]; omega
          | false =>
            have E := hide (show wLt x = 92 :: enc1 x by unfold wLt; rw [hh, hf]; rfl)
            replace hh := hide hh
            replace hf := hide hf
            go_wp2_with (first
              | (go_at_call 45; refine (hiddenR_any x _).mono ?_; rintro e w1 ⟨rfl, rfl⟩; rw [hh.out])
              | (go_at_call 46; refine (isLet4_any x _).mono ?_; rintro e w1 ⟨rfl, rfl⟩; rw [hf.out])
              | (go_at_call 47; refine CT.out.mono ?_; rintro e w1 ⟨u, rfl, hu, B1⟩; have hz := LE.out u hu; replace hu := hide hu; replace B1 := hide (bto BA.out B1)))
            go_roundw
            case rel => exact FIN.out (⟨#[92]⟩ ++ u) _ (by rw [bl_app, hu.out, E.out]; rfl) B1.out
            case measure => simp [intOf]; omega
      · have hk' : ¬ (k : Int) < n := by omega
        go_wp2
        go_ret
        exact ⟨t, rfl, by rw [R.out.1, List.take_of_length_le (by rw [← HN.out]; omega)], R.out.2⟩
set_option maxRecDepth 100000 in
theorem run_tail (W : World) (b o n c : Nat) (p : Nat) (hp : p ≤ n) (h1 : c ≠ p) (h0 : p ≠ 0) : (Instr.slice 43 (.slice (some ⟨b, o, none⟩) n c) (some (.int .i64 (p : Int))) none none).run Tryz.prog W = .ok (.slice (some ⟨b, o + p, none⟩) (n - p) (c - p)) W := by
  rw [run_slice_l (P := Tryz.prog) (w := W) (t := 43) (a := some ⟨b, o, none⟩) (len := n) (cap := c) (ht := by simp [go_sem]) .i64 (p : Int) (by omega) (by omega)]
  simp [go_sem, h1, h0, Addr.add]
set_option maxRecDepth 100000 in
theorem run_tail_end (W : World) (b o n c : Nat) (p : Nat) (hp : p ≤ n) (h1 : c = p) (h0 : p ≠ 0) : (Instr.slice 43 (.slice (some ⟨b, o, none⟩) n c) (some (.int .i64 (p : Int))) none none).run Tryz.prog W = .ok (.slice (some ⟨b, o, none⟩) (n - p) (c - p)) W := by
  rw [run_slice_l (P := Tryz.prog) (w := W) (t := 43) (a := some ⟨b, o, none⟩) (len := n) (cap := c) (ht := by simp [go_sem]) .i64 (p : Int) (by omega) (by omega)]
  simp [go_sem, h1, h0, Addr.add]
theorem Nums.part4 {k : IntKind} {w : World} {b o n c : Nat} {bs : List Int} (h : Nums k w (.slice (some ⟨b, o, none⟩) n c) bs) (p q : Nat) (h1 : p ≤ q) (h2 : q ≤ n) (hc : p < c) :
    Nums k w (.slice (some ⟨b, o + p, none⟩) (q - p) (c - p)) ((bs.drop p).take (q - p)) := by
  rcases h with ⟨a, c', e, rfl⟩ | ⟨b', o', n', c', e, hn, h0, hbw, hl, hn9, hc9, hcc⟩
  · simp at e; obtain ⟨_, rfl, _⟩ := e
    exact .inl ⟨_, _, by rw [show q - p = 0 by omega], by simp⟩
  · simp at e
    obtain ⟨⟨rfl, rfl⟩, rfl, rfl⟩ := e
    by_cases h : q - p = 0
    · exact .inl ⟨_, _, by rw [h], by rw [h]; rfl⟩
    · refine .inr ⟨b, o + p, q - p, c - p, rfl, by rw [List.length_take, List.length_drop]; omega, by omega, hbw, by omega, by omega, by omega, fun i hi => ?_⟩
      rw [Nat.add_assoc, hcc (p + i) (by omega)]
      congr 2
      unfold gt
      simp [List.getD_eq_getElem?_getD, List.getElem?_take, hi]
theorem raw_isC4 (n : Nat) : ∀ bs : List Int, bs.length ≤ n → By bs → whole bs = true → ∀ x ∈ raw bs, isC x = true := by
  induction n with
  | zero => intro bs h _ _ x hx; obtain rfl : bs = [] := List.eq_nil_of_length_eq_zero (by omega); rw [raw_nil] at hx; simp at hx
  | succ n ih =>
    intro bs h hb hw x hx
    by_cases hne : bs = []
    · subst hne; rw [raw_nil] at hx; simp at hx
    · have hs := stp_len bs hne
      rw [whole_cut hne, Bool.and_eq_true] at hw
      rw [raw_cut hne] at hx
      rcases List.mem_cons.1 hx with rfl | hx
      · exact (stp_back bs hb hne hw.1).1
      · exact ih _ (by rw [List.length_drop]; omega) (hb.drop _) hw.2 x hx
theorem nx_gt4 {a : List Int} {i : Nat} (h : i < a.length) : nx a i = gt a i := by simp [gt, nx, List.getD_eq_getElem?_getD, h]
theorem gt_cons {l : List Int} (h : 0 < l.length) : l = gt l 0 :: l.drop 1 := by
  cases l with
  | nil => simp at h
  | cons a r => rfl
theorem gt_cons2 {l : List Int} (h : 1 < l.length) : l = gt l 0 :: gt l 1 :: l.drop 2 := by
  cases l with
  | nil => simp at h
  | cons a r =>
    cases r with
    | nil => simp at h
    | cons b q => rfl
/-- What is left of a slice. -/
theorem Nums.tail4 {k : IntKind} {w : World} {b o n c : Nat} {bs : List Int} (h : Nums k w (.slice (some ⟨b, o, none⟩) n c) bs) (p : Nat) (hp : p ≤ n) (hn : n = bs.length) (hc : n ≤ c) (hp0 : p ≠ 0) :
    Nums k w (.slice (some (if c = p then ⟨b, o, none⟩ else (⟨b, o + p, none⟩ : Addr))) (n - p) (c - p)) (bs.drop p) := by
  by_cases h1 : c = p
  · rw [if_pos h1]
    exact .inl ⟨_, _, by rw [show n - p = 0 by omega], List.drop_of_length_le (by omega)⟩
  · rw [if_neg h1]
    have := h.part4 p n hp (Nat.le_refl _) (by omega)
    rw [List.take_of_length_le (by rw [List.length_drop]; omega)] at this
    exact this
theorem wNm_len (l : List Int) : (wNm l).length ≤ 6 * l.length := by
  induction l with
  | nil => exact Nat.le_refl _
  | cons a r ih =>
    rw [wNm_cons, List.length_append]
    have := wLt_len a
    simp; omega
theorem wLt_45 : wLt 45 = [45] := by decide
theorem wId_digit {bs : List Int} {c : Int} {r : List Int} (h : bs ≠ [45]) (hr : raw bs = c :: r) (hd : isDig c = true) : wId bs = esc c ++ wNm r := by
  unfold wId
  rw [if_neg h, hr]
  show hdT c ++ _ = _
  have : c ≠ 45 := by rintro rfl; exact absurd hd (by decide)
  rw [if_neg this]
  unfold hdT; rw [if_pos hd]
theorem wId_minus {bs : List Int} {c : Int} {r : List Int} (h : bs ≠ [45]) (hr : raw bs = 45 :: c :: r) (hd : isDig c = true) : wId bs = 45 :: (esc c ++ wNm r) := by
  unfold wId
  rw [if_neg h, hr]
  show hdT 45 ++ _ = _
  rw [if_pos rfl]
  show hdT 45 ++ (hdT c ++ _) = _
  have e : hdT 45 = [45] := by decide
  rw [e]
  unfold hdT; rw [if_pos hd]; rfl
theorem wId_plain {bs : List Int} (h : bs ≠ [45]) (h0 : isDig (nx (raw bs) 0) = false) (h1 : nx (raw bs) 0 = 45 → isDig (nx (raw bs) 1) = false) : wId bs = wNm (raw bs) := by
  unfold wId
  rw [if_neg h]
  cases hr : raw bs with
  | nil => rfl
  | cons c r =>
    rw [hr] at h0 h1
    have e0 : nx (c :: r) 0 = c := rfl
    rw [e0] at h0 h1
    have e1 : hdT c = wLt c := by unfold hdT; rw [h0]; rfl
    show hdT c ++ _ = _
    rw [wNm_cons, e1]
    congr 1
    split
    · rename_i h45
      have h2 := h1 h45
      cases r with
      | nil => rfl
      | cons d q =>
        have e2 : nx (c :: d :: q) 1 = d := rfl
        rw [e2] at h2
        show hdT d ++ _ = _
        rw [wNm_cons]
        unfold hdT; rw [h2]; rfl
    · rfl
set_option maxRecDepth 100000 in
set_option maxHeartbeats 2000000 in
theorem ident4_any (s : ByteArray) (w : World) (hs : s.size ≤ 1099511627776) (hch : chB (bl s) = true) (hT : Tabs w) :
    Calls Tryz.prog 20 #[.string s] w fun e w' => ∃ u, e = .returned (.string u) ∧ bl u = wId (bl s) ∧ Below w.heap.size w w' := by
  have C := hide (charsR_any s w hs)
  have HT := hide hT
  have HCH := hide hch
  have hw : whole (bl s) = true := by unfold chB at hch; rw [Bool.and_eq_true] at hch; exact hch.1
  have IC := hide (raw_isC4 _ (bl s) (Nat.le_refl _) (bl_by s) hw)
  have LN := hide (show (raw (bl s)).length ≤ 1099511627776 by have := raw_le (bl s); rw [bl_len] at this; omega)
  clear hT hch hw
  by_cases hd : bl s = [45]
  · have E := hide (show wId (bl s) = [92, 45] by unfold wId; rw [if_pos hd])
    have hne2 : (s.toList == [45]) = true := by
      obtain rfl : s = ⟨#[45]⟩ := bl_inj hd
      rw [Lib.toList_data]
      rfl
    go_enter Tryz.func20, Tryz.ntmps20
    go_wp2_with (go_at_call 21; refine C.out.mono ?_; rintro e w1 ⟨a, n, c, rfl, hN, B1⟩; replace B1 := hide B1; clear hN)
    go_ret
    exact ⟨_, rfl, by rw [E.out]; rfl, B1.out⟩
  · have hne2 : (s.toList == [45]) = false := by
      rw [beq_eq_false_iff_ne]
      intro h
      rw [Lib.toList_data] at h
      exact hd (by unfold bl; rw [h]; rfl)
    have WD := hide (fun c r hr hg => wId_digit (c := c) (r := r) hd hr hg)
    have WM := hide (fun c r hr hg => wId_minus (c := c) (r := r) hd hr hg)
    have WP := hide (fun h0 h1 => wId_plain hd h0 h1)
    clear hd
    go_enter Tryz.func20, Tryz.ntmps20
    go_wp2_with fail
    go_at_call 21
    refine C.out.mono ?_
    rintro e w1 ⟨a, n, c, rfl, hN, B1⟩
    replace hN := hN HCH.out
    replace B1 := hide B1
    have NN := hide hN
    have T1 := hide (HT.out.below B1.out)
    obtain ⟨ls, hls⟩ : ∃ ls, raw (bl s) = ls := ⟨_, rfl⟩
    rw [hls] at hN NN IC LN WD WM WP
    clear hls
    rcases hN with ⟨a', c', e', rfl⟩ | ⟨b, o, n', c', e', hn, h0, hbw, hl, hn9, hc9, hcell⟩
    · simp at e'
      obtain ⟨rfl, rfl, rfl⟩ := e'
      have CL := hide (letters4_any [] _ w1 NN.out IC.out LN.out T1.out)
      go_wp2_with (go_at_call 22; refine CL.out.mono ?_; rintro e w2 ⟨u, rfl, hu, B2⟩; replace hu := hide hu; replace B2 := hide B2)
      go_ret
      exact ⟨u, rfl, by rw [hu.out, WP.out (by rfl) (fun h => by rfl)], bto B1.out B2.out⟩
    · simp at e'
      obtain ⟨rfl, rfl, rfl⟩ := e'
      have k0 : w1.cell? ⟨b, o, none⟩ = some (.int .i32 (gt ls 0)) := hcell 0 h0
      have HN := hide hn
      have g0 : (0 : Int) < n := by omega
      have hnb : n ≤ 1099511627776 := by have := LN.out; omega
      have X0 := hide (show nx ls 0 = gt ls 0 from nx_gt4 (by omega))
      cases D0 : isDig (gt ls 0) with
      | true =>
        have CE := hide (esc4_any (gt ls 0) w1 (dig_bd D0).1 (dig_bd D0).2 T1.out)
        have E := hide (WD.out (gt ls 0) (ls.drop 1) (gt_cons (by omega)) D0)
        replace D0 := hide D0
        clear WD WM WP hcell hn
        obtain ⟨x, hx⟩ : ∃ x, gt ls 0 = x := ⟨_, rfl⟩
        rw [hx] at k0 CE E D0
        clear hx X0
        have CES := hide (fun (W : World) (hb : Below w1.heap.size w1 W) => esc4_any x W (dig_bd D0.out).1 (dig_bd D0.out).2 (T1.out.below hb))
        have CLS := hide (fun (W : World) (v : Value) (hb : Below w1.heap.size w1 W) (hv : Nums .i32 w1 v (ls.drop 1)) => letters4_any (ls.drop 1) v W (hv.below hb) (fun y hy => IC.out y (List.mem_of_mem_drop hy)) (by have := LN.out; rw [List.length_drop]; omega) (T1.out.below hb))
        have KP := hide (fun (W : World) (hb : Below w1.heap.size w1 W) => (hb.cell (p := ⟨b, o, none⟩) hbw).trans k0)
        have NP := NN.out.tail4 1 (by omega) HN.out hl (by omega)
        have LE := hide (show ∀ u : ByteArray, bl u = esc x → u.size ≤ 6 from fun u hu => by rw [← bl_len, hu]; exact esc_len (dig_bd D0.out).1 (dig_bd D0.out).2)
        have LW := hide (show ∀ u : ByteArray, bl u = wNm (ls.drop 1) → u.size ≤ 6 * 1099511627776 from fun u hu => by rw [← bl_len, hu]; have := wNm_len (ls.drop 1); have := LN.out; rw [List.length_drop] at *; omega)
        clear CE NN
        go_wp2_with (go_at_call 37; refine (digitR_any x _).mono ?_; rintro e w2 ⟨rfl, rfl⟩; rw [D0.out])
        by_cases hc1 : c = 1
        · have hn1 : n = 1 := by omega
          replace NP := hide (show Nums .i32 w2 (.slice (some ⟨b, o, none⟩) 0 0) (ls.drop 1) from .inl ⟨_, _, rfl, List.drop_of_length_le (by rw [← HN.out, hn1]; exact Nat.le_refl _)⟩)
          have hsl : ∀ W : World, (Instr.slice 43 (.slice (some ⟨b, o, none⟩) n c) (some (.int .i64 1)) none none).run Tryz.prog W = .ok (.slice (some ⟨b, o, none⟩) 0 0) W := fun W => by
            have := run_tail_end W b o n c 1 (by omega) hc1 (by omega)
            rw [hc1, hn1] at *
            exact this
          clear hc1 hn1
          go_region_held3 (fun w' => w'.cell? ⟨b, o, none⟩ = some (.int .i32 x))
            (exact KP.out _ (by repeat (first | exact Below.refl _ _ | (with_reducible refine Below.drew ?_) | (with_reducible refine below_drewN ?_ _) | (refine bto ?_ (by assumption)))))
            (first
              | (go_at_call 42; refine (CES.out _ (by repeat (first | exact Below.refl _ _ | (with_reducible refine Below.drew ?_) | (with_reducible refine below_drewN ?_ _) | (refine bto ?_ (by assumption))))).mono ?_; rintro _ we ⟨u, rfl, hu, he⟩; have hz := LE.out u hu; replace hu := hide hu; (try (have hq : ¬ (9223372036854775807 < u.size + v.size) := (by omega))))
              | (go_at_call 22; refine (CLS.out _ _ (by repeat (first | exact Below.refl _ _ | (with_reducible refine Below.drew ?_) | (with_reducible refine below_drewN ?_ _) | (refine bto ?_ (by assumption)))) NP.out).mono ?_; rintro _ wl ⟨v, rfl, hv, hvl⟩; have hy := LW.out v hv; replace hv := hide hv; (try (have hq : ¬ (9223372036854775807 < u.size + v.size) := (by omega)))))
          all_goals
            go_wp2
            go_ret
            refine ⟨_, rfl, by rw [bl_app, hu.out, hv.out, E.out], bto B1.out ?_⟩
            repeat (first | exact Below.refl _ _ | (with_reducible refine Below.drew ?_) | (with_reducible refine below_drewN ?_ _) | (refine bto ?_ (by assumption)))
        · rw [if_neg hc1] at NP
          replace NP := hide NP
          have hsl : ∀ W : World, (Instr.slice 43 (.slice (some ⟨b, o, none⟩) n c) (some (.int .i64 1)) none none).run Tryz.prog W = .ok (.slice (some ⟨b, o + 1, none⟩) (n - 1) (c - 1)) W := fun W => run_tail W b o n c 1 (by omega) hc1 (by omega)
          go_region_held3 (fun w' => w'.cell? ⟨b, o, none⟩ = some (.int .i32 x))
            (exact KP.out _ (by repeat (first | exact Below.refl _ _ | (with_reducible refine Below.drew ?_) | (with_reducible refine below_drewN ?_ _) | (refine bto ?_ (by assumption)))))
            (first
              | (go_at_call 42; refine (CES.out _ (by repeat (first | exact Below.refl _ _ | (with_reducible refine Below.drew ?_) | (with_reducible refine below_drewN ?_ _) | (refine bto ?_ (by assumption))))).mono ?_; rintro _ we ⟨u, rfl, hu, he⟩; have hz := LE.out u hu; replace hu := hide hu; (try (have hq : ¬ (9223372036854775807 < u.size + v.size) := (by omega))))
              | (go_at_call 22; refine (CLS.out _ _ (by repeat (first | exact Below.refl _ _ | (with_reducible refine Below.drew ?_) | (with_reducible refine below_drewN ?_ _) | (refine bto ?_ (by assumption)))) NP.out).mono ?_; rintro _ wl ⟨v, rfl, hv, hvl⟩; have hy := LW.out v hv; replace hv := hide hv; (try (have hq : ¬ (9223372036854775807 < u.size + v.size) := (by omega)))))
          all_goals
            go_wp2
            go_ret
            refine ⟨_, rfl, by rw [bl_app, hu.out, hv.out, E.out], bto B1.out ?_⟩
            repeat (first | exact Below.refl _ _ | (with_reducible refine Below.drew ?_) | (with_reducible refine below_drewN ?_ _) | (refine bto ?_ (by assumption)))
      | false =>
        have CL := hide (letters4_any ls _ w1 NN.out IC.out LN.out T1.out)
        replace D0 := hide D0
        by_cases h1 : n = 1
        · have E := hide (WP.out (by rw [X0.out]; exact D0.out) (fun h => by rw [show nx ls 1 = -1 by unfold nx; rw [List.getD_eq_getElem?_getD, List.getElem?_eq_none (by omega)]; rfl]; rfl))
          have D1 := D0
          have hn1 : ¬ (1 : Int) < n := by omega
          clear WD WM WP hcell hn h1 X0
          go_wp2_with (first
            | (go_at_call_of 37 (Value.int IntKind.i32 (gt ls 0)); refine (digitR_any _ _).mono ?_; rintro e w2 ⟨rfl, rfl⟩; rw [D0.out])
            | (go_at_call 37; refine (digitR_any _ _).mono ?_; rintro e w2 ⟨rfl, rfl⟩; rw [D1.out])
            | (go_at_call 22; refine CL.out.mono ?_; rintro e w2 ⟨u, rfl, hu, B2⟩; replace hu := hide hu; replace B2 := hide B2))
          go_ret
          exact ⟨u, rfl, by rw [hu.out, E.out], bto B1.out B2.out⟩
        · have k1 : w1.cell? ⟨b, o + 1, none⟩ = some (.int .i32 (gt ls 1)) := hcell 1 (by omega)
          have X1 := hide (show nx ls 1 = gt ls 1 from nx_gt4 (by omega))
          have hn1 : (1 : Int) < n := by omega
          have hn2 : 1 < n := by omega
          by_cases h45 : gt ls 0 = 45
          · cases D1 : isDig (gt ls 1) with
            | true =>
              have E := hide (WM.out (gt ls 1) (ls.drop 2) (by rw [← h45]; exact gt_cons2 (by omega)) D1)
              replace D1 := hide D1
              rw [h45] at k0 D0
              clear WD WM WP hcell hn X0 X1 CL h45
              obtain ⟨x, hx⟩ : ∃ x, gt ls 1 = x := ⟨_, rfl⟩
              rw [hx] at k1 E D1
              clear hx
              have CES := hide (fun (W : World) (hb : Below w1.heap.size w1 W) => esc4_any x W (dig_bd D1.out).1 (dig_bd D1.out).2 (T1.out.below hb))
              have CLS := hide (fun (W : World) (v : Value) (hb : Below w1.heap.size w1 W) (hv : Nums .i32 w1 v (ls.drop 2)) => letters4_any (ls.drop 2) v W (hv.below hb) (fun y hy => IC.out y (List.mem_of_mem_drop hy)) (by have := LN.out; rw [List.length_drop]; omega) (T1.out.below hb))
              have KP := hide (fun (W : World) (hb : Below w1.heap.size w1 W) => (hb.cell (p := ⟨b, o + 1, none⟩) hbw).trans k1)
              have NP := NN.out.tail4 2 (by omega) HN.out hl (by omega)
              have LE := hide (show ∀ u : ByteArray, bl u = esc x → u.size ≤ 6 from fun u hu => by rw [← bl_len, hu]; exact esc_len (dig_bd D1.out).1 (dig_bd D1.out).2)
              have LW := hide (show ∀ u : ByteArray, bl u = wNm (ls.drop 2) → u.size ≤ 6 * 1099511627776 from fun u hu => by rw [← bl_len, hu]; have := wNm_len (ls.drop 2); have := LN.out; rw [List.length_drop] at *; omega)
              clear NN
              go_wp2_with (first
                | (go_at_call_of 37 (Value.int IntKind.i32 45); refine (digitR_any _ _).mono ?_; rintro e w2 ⟨rfl, rfl⟩; rw [D0.out])
                | (go_at_call 37; refine (digitR_any _ _).mono ?_; rintro e w2 ⟨rfl, rfl⟩; rw [D1.out]))
              by_cases hc1 : c = 2
              · have hq1 : n = 2 := by omega
                replace NP := hide (show Nums .i32 w2 (.slice (some ⟨b, o, none⟩) 0 0) (ls.drop 2) from .inl ⟨_, _, rfl, List.drop_of_length_le (by rw [← HN.out, hq1]; exact Nat.le_refl _)⟩)
                have hsl : ∀ W : World, (Instr.slice 43 (.slice (some ⟨b, o, none⟩) n c) (some (.int .i64 2)) none none).run Tryz.prog W = .ok (.slice (some ⟨b, o, none⟩) 0 0) W := fun W => by
                  have := run_tail_end W b o n c 2 (by omega) hc1 (by omega)
                  rw [hc1, hq1] at *
                  exact this
                clear hc1 hq1
                go_region_held3 (fun w' => w'.cell? ⟨b, o + 1, none⟩ = some (.int .i32 x))
                  (exact KP.out _ (by repeat (first | exact Below.refl _ _ | (with_reducible refine Below.drew ?_) | (with_reducible refine below_drewN ?_ _) | (refine bto ?_ (by assumption)))))
                  (first
                    | (go_at_call 42; refine (CES.out _ (by repeat (first | exact Below.refl _ _ | (with_reducible refine Below.drew ?_) | (with_reducible refine below_drewN ?_ _) | (refine bto ?_ (by assumption))))).mono ?_; rintro _ we ⟨u, rfl, hu, he⟩; have hz := LE.out u hu; replace hu := hide hu; (try (have hq : ¬ (9223372036854775807 < 1 + u.size) := (by omega))))
                    | (go_at_call 22; refine (CLS.out _ _ (by repeat (first | exact Below.refl _ _ | (with_reducible refine Below.drew ?_) | (with_reducible refine below_drewN ?_ _) | (refine bto ?_ (by assumption)))) NP.out).mono ?_; rintro _ wl ⟨v, rfl, hv, hvl⟩; have hy := LW.out v hv; replace hv := hide hv; (try (have hq3 : ¬ (9223372036854775807 < 1 + u.size + v.size) := (by omega)))))
                all_goals
                  go_wp2
                  go_ret
                  refine ⟨_, rfl, by rw [bl_app, bl_app, hu.out, hv.out, E.out]; rfl, bto B1.out ?_⟩
                  repeat (first | exact Below.refl _ _ | (with_reducible refine Below.drew ?_) | (with_reducible refine below_drewN ?_ _) | (refine bto ?_ (by assumption)))
              · rw [if_neg hc1] at NP
                replace NP := hide NP
                have hsl : ∀ W : World, (Instr.slice 43 (.slice (some ⟨b, o, none⟩) n c) (some (.int .i64 2)) none none).run Tryz.prog W = .ok (.slice (some ⟨b, o + 2, none⟩) (n - 2) (c - 2)) W := fun W => run_tail W b o n c 2 (by omega) hc1 (by omega)
                go_region_held3 (fun w' => w'.cell? ⟨b, o + 1, none⟩ = some (.int .i32 x))
                  (exact KP.out _ (by repeat (first | exact Below.refl _ _ | (with_reducible refine Below.drew ?_) | (with_reducible refine below_drewN ?_ _) | (refine bto ?_ (by assumption)))))
                  (first
                    | (go_at_call 42; refine (CES.out _ (by repeat (first | exact Below.refl _ _ | (with_reducible refine Below.drew ?_) | (with_reducible refine below_drewN ?_ _) | (refine bto ?_ (by assumption))))).mono ?_; rintro _ we ⟨u, rfl, hu, he⟩; have hz := LE.out u hu; replace hu := hide hu; (try (have hq : ¬ (9223372036854775807 < 1 + u.size) := (by omega))))
                    | (go_at_call 22; refine (CLS.out _ _ (by repeat (first | exact Below.refl _ _ | (with_reducible refine Below.drew ?_) | (with_reducible refine below_drewN ?_ _) | (refine bto ?_ (by assumption)))) NP.out).mono ?_; rintro _ wl ⟨v, rfl, hv, hvl⟩; have hy := LW.out v hv; replace hv := hide hv; (try (have hq3 : ¬ (9223372036854775807 < 1 + u.size + v.size) := (by omega)))))
                all_goals
                  go_wp2
                  go_ret
                  refine ⟨_, rfl, by rw [bl_app, bl_app, hu.out, hv.out, E.out]; rfl, bto B1.out ?_⟩
                  repeat (first | exact Below.refl _ _ | (with_reducible refine Below.drew ?_) | (with_reducible refine below_drewN ?_ _) | (refine bto ?_ (by assumption)))
            | false =>
              have E := hide (WP.out (by rw [X0.out]; exact D0.out) (fun h => by rw [X1.out]; exact D1))
              rw [h45] at k0 D0
              replace D1 := hide D1
              clear WD WM WP hcell hn h1 X0 X1 h45
              go_wp2_with (first
                | (go_at_call_of 37 (Value.int IntKind.i32 45); refine (digitR_any _ _).mono ?_; rintro e w2 ⟨rfl, rfl⟩; rw [D0.out])
                | (go_at_call 37; refine (digitR_any _ _).mono ?_; rintro e w2 ⟨rfl, rfl⟩; rw [D1.out])
                | (go_at_call 22; refine CL.out.mono ?_; rintro e w2 ⟨u, rfl, hu, B2⟩; replace hu := hide hu; replace B2 := hide B2))
              go_ret
              exact ⟨u, rfl, by rw [hu.out, E.out], bto B1.out B2.out⟩
          · have E := hide (WP.out (by rw [X0.out]; exact D0.out) (fun h => absurd (by rw [← X0.out]; exact h) h45))
            have z : (gt ls 0 == 45) = false := by simpa using h45
            have D1 := D0
            clear WD WM WP hcell hn h1 X0 X1 h45
            go_wp2_with (first
              | (go_at_call_of 37 (Value.int IntKind.i32 (gt ls 0)); refine (digitR_any _ _).mono ?_; rintro e w2 ⟨rfl, rfl⟩; rw [D0.out])
              | (go_at_call 37; refine (digitR_any _ _).mono ?_; rintro e w2 ⟨rfl, rfl⟩; rw [D1.out])
              | (go_at_call 22; refine CL.out.mono ?_; rintro e w2 ⟨u, rfl, hu, B2⟩; replace hu := hide hu; replace B2 := hide B2))
            go_ret
            exact ⟨u, rfl, by rw [hu.out, E.out], bto B1.out B2.out⟩
structure TS where
  k : Int
  s : ByteArray
  n : Int
  d : Int
  i : Bool
  h : Bool
def TS.v (t : TS) : Value := tokV t.k t.s t.n t.d t.i t.h
def TS.may (t : TS) : Bool := mayT t.k (bl t.s) t.n t.d t.i t.h
structure TS.Ok (t : TS) : Prop where
  k1 : -9223372036854775808 ≤ t.k
  k2 : t.k ≤ 9223372036854775807
  hs : t.s.size ≤ 1099511627776
  n1 : -9223372036854775808 ≤ t.n
  n2 : t.n ≤ 9223372036854775807
  d1 : -9223372036854775808 ≤ t.d
  d2 : t.d ≤ 9223372036854775807
structure Six4 (w : World) (b o : Nat) (t : TS) : Prop where
  c0 : w.cell? ⟨b, o, none⟩ = some (.int .i64 t.k)
  c1 : w.cell? ⟨b, o + 1, none⟩ = some (.string t.s)
  c2 : w.cell? ⟨b, o + 2, none⟩ = some (.int .i64 t.n)
  c3 : w.cell? ⟨b, o + 3, none⟩ = some (.int .i64 t.d)
  c4 : w.cell? ⟨b, o + 4, none⟩ = some (.bool t.i)
  c5 : w.cell? ⟨b, o + 5, none⟩ = some (.bool t.h)
theorem Six4.below {w w' : World} {b o : Nat} {t : TS} (h : Six4 w b o t) {B : Nat} (hb : Below B w w') (hB : b < B) : Six4 w' b o t := by
  obtain ⟨c0, c1, c2, c3, c4, c5⟩ := h
  exact ⟨(hb.cell (p := ⟨b, o, none⟩) hB).trans c0, (hb.cell (p := ⟨b, o + 1, none⟩) hB).trans c1, (hb.cell (p := ⟨b, o + 2, none⟩) hB).trans c2, (hb.cell (p := ⟨b, o + 3, none⟩) hB).trans c3, (hb.cell (p := ⟨b, o + 4, none⟩) hB).trans c4, (hb.cell (p := ⟨b, o + 5, none⟩) hB).trans c5⟩
def boxT (t : TS) : Obj := .cells #[.int .i64 t.k, .string t.s, .int .i64 t.n, .int .i64 t.d, .bool t.i, .bool t.h] 25
theorem tok_box {w : World} {b : Nat} {t : TS} (h : w.heap[b]? = some (boxT t)) : Tok6 w b t.k t.s t.n t.d t.i t.h :=
  ⟨(Array.getElem?_eq_some_iff.1 h).1, by rw [row_blk h]; rfl, by rw [row_blk h]; rfl, by rw [row_blk h]; rfl, by rw [row_blk h]; rfl, by rw [row_blk h]; rfl, by rw [row_blk h]; rfl⟩
def S6 (b : Nat) (t : TS) (w : World) : Prop := w.cell? ⟨b, 0, none⟩ = some (.int .i64 t.k) ∧ w.cell? ⟨b, 1, none⟩ = some (.string t.s) ∧ w.cell? ⟨b, 2, none⟩ = some (.int .i64 t.n) ∧ w.cell? ⟨b, 3, none⟩ = some (.int .i64 t.d) ∧ w.cell? ⟨b, 4, none⟩ = some (.bool t.i) ∧ w.cell? ⟨b, 5, none⟩ = some (.bool t.h)
theorem keep6 {w w' : World} {b : Nat} {t : TS} (hb : Below w.heap.size w w') (h : w.heap[b]? = some (boxT t)) : S6 b t w' := ((tok_box h).below hb).2
theorem keep12t {w w' : World} {b o c : Nat} {p t : TS} (hb : Below w.heap.size w w') (h : w.heap[c]? = some (boxT t)) (hp : Six4 w b o p) (hbw : b < w.heap.size) :
    w'.cell? ⟨b, o, none⟩ = some (.int .i64 p.k) ∧ w'.cell? ⟨b, o + 1, none⟩ = some (.string p.s) ∧ w'.cell? ⟨b, o + 2, none⟩ = some (.int .i64 p.n) ∧ w'.cell? ⟨b, o + 3, none⟩ = some (.int .i64 p.d) ∧ w'.cell? ⟨b, o + 4, none⟩ = some (.bool p.i) ∧ w'.cell? ⟨b, o + 5, none⟩ = some (.bool p.h) ∧ S6 c t w' := by
  obtain ⟨c0, c1, c2, c3, c4, c5⟩ := hp.below hb hbw
  exact ⟨c0, c1, c2, c3, c4, c5, keep6 hb h⟩
theorem six_box {w : World} {b : Nat} {t : TS} (h : w.heap[b]? = some (boxT t)) : Six4 w b 0 t :=
  ⟨by rw [row_blk h]; rfl, by rw [row_blk h]; rfl, by rw [row_blk h]; rfl, by rw [row_blk h]; rfl, by rw [row_blk h]; rfl, by rw [row_blk h]; rfl⟩
/-- A slice of tokens in memory. -/
def Toks4 (w : World) (v : Value) (ts : List TS) : Prop :=
  (∃ a c, v = .slice a 0 c ∧ ts = []) ∨
  ∃ b o n c, v = .slice (some ⟨b, o, none⟩) n c ∧ n = ts.length ∧ 0 < n ∧ b < w.heap.size ∧ n ≤ c ∧ n ≤ 1000000000000 ∧ c ≤ 9223372036854775807 ∧ ∀ i t, ts[i]? = some t → Six4 w b (o + i * 6) t
/-- The text of the first k tokens. -/
def spK (wt : TS → List Int) (ts : List TS) : Nat → List Int
  | 0 => []
  | k + 1 => spK wt ts k ++ match ts[k]? with
    | none => []
    | some t => (match k with
      | 0 => []
      | j + 1 => match ts[j]? with
        | none => []
        | some p => if apB p.k t.k = true then [47, 42, 42, 47] else []) ++ wt t
theorem spK_zero {wt : TS → List Int} {ts : List TS} {t : TS} (h : ts[0]? = some t) : spK wt ts 1 = spK wt ts 0 ++ wt t := by
  show spK wt ts 0 ++ _ = _
  rw [h]; rfl
theorem spK_apart {wt : TS → List Int} {ts : List TS} {k : Nat} {p t : TS} (h : ts[k + 1]? = some t) (hp : ts[k]? = some p) (ha : apB p.k t.k = true) : spK wt ts (k + 1 + 1) = (spK wt ts (k + 1) ++ [47, 42, 42, 47]) ++ wt t := by
  show spK wt ts (k + 1) ++ _ = _
  rw [h]
  show _ ++ ((match ts[k]? with
        | none => []
        | some p => if apB p.k t.k = true then [47, 42, 42, 47] else []) ++ wt t) = _
  rw [hp]
  show _ ++ ((if apB p.k t.k = true then [47, 42, 42, 47] else []) ++ wt t) = _
  rw [if_pos ha, List.append_assoc]
theorem spK_close {wt : TS → List Int} {ts : List TS} {k : Nat} {p t : TS} (h : ts[k + 1]? = some t) (hp : ts[k]? = some p) (ha : apB p.k t.k = false) : spK wt ts (k + 1 + 1) = spK wt ts (k + 1) ++ wt t := by
  show spK wt ts (k + 1) ++ _ = _
  rw [h]
  show _ ++ ((match ts[k]? with
        | none => []
        | some p => if apB p.k t.k = true then [47, 42, 42, 47] else []) ++ wt t) = _
  rw [hp]
  show _ ++ ((if apB p.k t.k = true then [47, 42, 42, 47] else []) ++ wt t) = _
  rw [ha]; rfl
theorem spK_le (wt : TS → List Int) (ts : List TS) {j k : Nat} (h : j ≤ k) : (spK wt ts j).length ≤ (spK wt ts k).length := by
  induction h with
  | refl => exact Nat.le_refl _
  | step _ ih => exact Nat.le_trans ih (by show _ ≤ (spK wt ts _ ++ _).length; rw [List.length_append]; omega)
def KB (B : Nat) (w : World) : Prop := ∀ W, Below B w W → KT W
/-- How a token is written. -/
def Writes (wt : TS → List Int) (t : TS) : Prop := ∀ B b xs W, Bd B b xs W → xs.length ≤ 35184372088832 → B ≤ W.heap.size → TB B W → KB B W →
  Calls Tryz.prog 28 #[.pointer (some ⟨b, 0, none⟩), t.v] W fun e w' => e = .returned (.tuple #[]) ∧ PB B b (xs ++ wt t) W w'
/-- The state of the loop over tokens. -/
def RelTk (wt : TS → List Int) (ts : List TS) (w : World) (w0 : World) (i : Value) (wr : World) : Prop := ∃ k : Nat, i = .int .i64 k ∧ k ≤ ts.length ∧ Hid (PB w.heap.size w.heap.size (spK wt ts k) w0 wr ∧ ∀ j t, j < k → ts[j]? = some t → t.may = true)
theorem RelTk.mk {wt : TS → List Int} {ts : List TS} {w w0 : World} {i : Value} {wr : World} (k : Nat) (h1 : i = .int .i64 k) (h2 : k ≤ ts.length) (h3 : PB w.heap.size w.heap.size (spK wt ts k) w0 wr ∧ ∀ j t, j < k → ts[j]? = some t → t.may = true) : RelTk wt ts w w0 i wr := ⟨k, h1, h2, h3⟩
def PostSp (wt : TS → List Int) (ts : List TS) (w : World) (e : Ending) (w' : World) : Prop := Below w.heap.size w w' ∧ (((∀ t ∈ ts, t.may = true) ∧ ∃ s, e = .returned (.tuple #[.string s, .int .i64 0]) ∧ bl s = spK wt ts ts.length) ∨ ((∃ t ∈ ts, t.may = false) ∧ e = .returned (.tuple #[.string ⟨#[]⟩, .int .i64 1])))
set_option maxRecDepth 100000 in
set_option maxHeartbeats 2000000 in
theorem tokens_any (wt : TS → List Int) (ts : List TS) (v : Value) (w : World) (hv : Toks4 w v ts) (hok : ∀ t ∈ ts, t.Ok) (hW : ∀ t ∈ ts, t.may = true → Writes wt t) (hby : By (spK wt ts ts.length)) (hl9 : (spK wt ts ts.length).length ≤ 35184372088000) (hK : KT w) (hT : Tabs w) :
    Calls Tryz.prog 11 #[v] w fun e w' => PostSp wt ts w e w' := by
  have B0 := hide (show Bd w.heap.size w.heap.size [] (w.alloc (.cells #[.pointer none, .slice none 0 0] 50)) from Lib.IsBuilderF.of (Lib.fresh_isBuilder 50 5 w))
  have A0 := hide (bplus (Below.refl w.heap.size w) (.cells #[.pointer none, .slice none 0 0] 50))
  rcases hv with ⟨a, c, rfl, rfl⟩ | ⟨b, o, n, c, rfl, hn, h0, hbw, hl, hn9, hc9, hcell⟩
  · go_enter Tryz.func11, Tryz.ntmps11
    go_wp2
    refine wp_loop_rounds 1 ?_
    rw [rounds_succ]
    go_wp2_with (go_at_call 29; refine (bstr_any w.heap.size w.heap.size [] _ (fun x hx => by cases hx) B0.out (by simp)).mono ?_; rintro e w1 ⟨s, rfl, hs, B1⟩; replace hs := hide hs; replace B1 := hide (show Below w.heap.size w w1 from A0.out.trans B1))
    go_ret2
    exact ⟨B1.out, .inl ⟨fun t ht => (by cases ht), s, rfl, hs.out⟩⟩
  · have HN := hide hn
    have HC := hide hcell
    have HOK := hide hok
    have HW := hide hW
    have HBY := hide hby
    have HL := hide hl9
    have P0 := hide (PB.start B0.out)
    obtain ⟨w0, hw0⟩ : ∃ w0, w.alloc (.cells #[.pointer none, .slice none 0 0] 50) = w0 := ⟨_, rfl⟩
    have HB := hide (show w.heap.size ≤ w0.heap.size by rw [← hw0]; simp)
    rw [hw0] at P0 A0
    have TT := hide (show TB w.heap.size w0 from fun W hb => hT.below (A0.out.trans hb))
    have KK := hide (show KB w.heap.size w0 from fun W hb => hK.below (A0.out.trans hb))
    replace hw0 := hide hw0
    clear hn hcell hok hW hby hl9 hK hT B0
    go_enter Tryz.func11, Tryz.ntmps11
    go_wp2
    rw [hw0.out]
    clear hw0
    go_loopw [9] (fun i wr => RelTk wt ts w w0 i wr) (fun i wr => n - (intOf i).toNat)
    case atStart => exact .mk 0 rfl (Nat.zero_le _) ⟨P0.out, fun j t hj => absurd hj (Nat.not_lt_zero _)⟩
    case round =>
      obtain ⟨k, rfl, k1, R⟩ := id hrel
      clear hrel
      rw [← HN.out] at k1
      clear P0
      by_cases hk : k < n
      · obtain ⟨t, ht⟩ : ∃ t, ts[k]? = some t := ⟨_, List.getElem?_eq_getElem (by rw [← HN.out]; exact hk)⟩
        have P1 := hide R.out.1
        have S1 := ((HC.out k t ht).below A0.out hbw).below P1.out.bel hbw
        have hmem : t ∈ ts := List.mem_of_getElem? ht
        have OK := hide (HOK.out t hmem)
        obtain ⟨p0, p1, p2, p3, p4, p5⟩ := id S1
        have hk' : (k : Int) < n := by omega
        have P2 := hide (P1.out.grow HB.out (bplus (Below.refl wr.heap.size wr) (boxT t)))
        have H2 := hide (heap_alloc_new wr (boxT t))
        have hsz := P1.out.size HB.out
        have CM := hide (mayS_any t.k t.s t.n t.d t.i t.h (wr.alloc (boxT t)) OK.out.k1 OK.out.k2 (by have := OK.out.hs; omega) OK.out.n1 OK.out.n2 OK.out.d1 OK.out.d2 (KK.out _ P2.out.bel) (TT.out.on P2.out.bel).here)
        have AL2 := hide (show (wr.alloc (boxT t)).heap.size = wr.heap.size + 1 by simp)
        have HWT := hide (HW.out t hmem)
        unfold tokV at CM
        cases hm : t.may with
        | false =>
          have E := hide (show mayT t.k (bl t.s) t.n t.d t.i t.h = false from hm)
          have FIN := hide (show ∃ t ∈ ts, t.may = false from ⟨t, hmem, hm⟩)
          clear hm hmem ht S1
          unfold boxT at CM
          go_wp2_with (go_at_call 16; refine CM.out.mono ?_; rintro e w1 ⟨rfl, B1⟩; rw [E.out]; replace B1 := hide (show Below w.heap.size w w1 from A0.out.trans (P2.out.grow HB.out B1).bel))
          go_ret2
          exact ⟨B1.out, .inr ⟨FIN.out, rfl⟩⟩
        | true =>
          have E := hide (show mayT t.k (bl t.s) t.n t.d t.i t.h = true from hm)
          have MAY := hide (show ∀ j t, j < k + 1 → ts[j]? = some t → t.may = true from fun j t' hj h' => by
            by_cases hjk : j < k
            · exact R.out.2 j t' hjk h'
            · obtain rfl : j = k := by omega
              rw [ht] at h'; cases h'; exact hm)
          have LK := hide (show (spK wt ts k).length ≤ 35184372088000 from Nat.le_trans (spK_le wt ts (by rw [← HN.out]; exact k1)) HL.out)
          have WT := hide (HWT.out hm)
          have HT9 := hide ht
          have NT := hide (show wr.heap.size ≠ w.heap.size by have := P1.out.bd.lt; omega)
          clear hm hmem ht S1 HWT
          unfold boxT at CM
          have FIN := hide (show ∀ W xs, spK wt ts (k + 1) = xs → PB w.heap.size w.heap.size xs w0 W → RelTk wt ts w w0 (.int .i64 ((k + 1 : Nat) : Int)) W from fun W xs hx hP => .mk (k + 1) rfl (by rw [← HN.out]; omega) ⟨by rw [hx]; exact hP, MAY.out⟩)
          by_cases hz : k = 0
          · have ST := hide (show spK wt ts (k + 1) = spK wt ts k ++ wt t by subst hz; exact spK_zero (wt := wt) HT9.out)
            have hkz : decide (0 < k) = false := by simp; exact hz
            clear hz
            go_wp2_with (go_at_call 16; refine CM.out.mono ?_; rintro e w1 ⟨rfl, B1⟩; rw [E.out]; replace H2 := hide ((B1.block wr.heap.size (by simp)).trans H2.out); replace P2 := hide (P2.out.grow HB.out B1); clear B1)
            obtain ⟨q9, q0, q1, q2, q3, q4, q5⟩ := tok_box H2.out
            go_quiet (fail)
            replace P2 := hide (P2.out.grow HB.out (below_drewN (Below.refl _ _) nq))
            go_wp2_with (go_at_call 28; refine (WT.out w.heap.size w.heap.size _ _ P2.out.bd (by have := LK.out; omega) (P2.out.size HB.out) (TT.out.on P2.out.bel) (fun W hb => KK.out W (P2.out.bel.trans hb))).mono ?_; rintro e w4 ⟨rfl, P4⟩; replace P2 := hide (P2.out.trans P4); clear P4)
            go_roundw
            case rel => exact FIN.out _ _ ST.out P2.out
            case measure => simp [intOf]; omega
          · obtain ⟨j, hj⟩ : ∃ j, k = j + 1 := ⟨k - 1, by omega⟩
            obtain ⟨p, hp⟩ : ∃ p, ts[j]? = some p := ⟨_, List.getElem?_eq_getElem (by rw [← HN.out]; omega)⟩
            have hpm : p ∈ ts := List.mem_of_getElem? hp
            have OP := hide (HOK.out p hpm)
            have SP := hide ((HC.out j p hp).below A0.out hbw)
            have SAP := hide (fun (ha : apB p.k t.k = true) => show spK wt ts (k + 1) = (spK wt ts k ++ [47, 42, 42, 47]) ++ wt t by subst hj; exact spK_apart HT9.out hp ha)
            have SCL := hide (fun (ha : apB p.k t.k = false) => show spK wt ts (k + 1) = spK wt ts k ++ wt t by subst hj; exact spK_close HT9.out hp ha)
            have hkz : (0 : Int) < k := by omega
            have hkd : decide (0 < k) = true := by simp; omega
            have hkn : 0 < k := by omega
            have hki : IntKind.i64.wrap ((k : Int) - 1) = (j : Int) := by rw [show (k : Int) - 1 = j by omega]; simp [IntKind.wrap, go_sem]; omega
            have hj0 : (0 : Int) ≤ j := by omega
            have hjn : (j : Int) < n := by omega
            have hj9 : j < n := by omega
            clear hz hj hp hpm
            go_wp2_with (go_at_call 16; refine CM.out.mono ?_; rintro e w1 ⟨rfl, B1⟩; rw [E.out]; replace H2 := hide ((B1.block wr.heap.size (by simp)).trans H2.out); replace P2 := hide (P2.out.grow HB.out B1); clear B1)
            have SP1 := hide (SP.out.below P2.out.bel hbw)
            have CA := hide (fun (W : World) (hb : Below w1.heap.size w1 W) => apartS_any p.k p.s p.n p.d p.i p.h t.k t.s t.n t.d t.i t.h W OP.out.k1 OP.out.k2 OK.out.k1 OK.out.k2 (KK.out W (P2.out.grow HB.out hb).bel))
            have hb1 : b < w1.heap.size := Nat.lt_of_lt_of_le hbw (P2.out.size HB.out)
            unfold tokV at CA
            have GR := hide (fun (W : World) (hb : Below w1.heap.size w1 W) => show PB w.heap.size w.heap.size (spK wt ts k) w0 W ∧ W.heap[wr.heap.size]? = some (boxT t) from ⟨P2.out.grow HB.out hb, (hb.block _ (Array.getElem?_eq_some_iff.1 H2.out).1).trans H2.out⟩)
            cases ha : apB p.k t.k with
            | true =>
              have HA := hide ha
              have ST := hide (SAP.out ha)
              have SE := hide (show bl ⟨#[47, 42, 42, 47]⟩ = [47, 42, 42, 47] from rfl)
              clear ha SAP SCL
              go_region_held3 (fun w' => w'.cell? ⟨b, o + j * 6, none⟩ = some (.int .i64 p.k) ∧ w'.cell? ⟨b, o + j * 6 + 1, none⟩ = some (.string p.s) ∧ w'.cell? ⟨b, o + j * 6 + 2, none⟩ = some (.int .i64 p.n) ∧ w'.cell? ⟨b, o + j * 6 + 3, none⟩ = some (.int .i64 p.d) ∧ w'.cell? ⟨b, o + j * 6 + 4, none⟩ = some (.bool p.i) ∧ w'.cell? ⟨b, o + j * 6 + 5, none⟩ = some (.bool p.h) ∧ w'.cell? ⟨wr.heap.size, 0, none⟩ = some (.int .i64 t.k) ∧ w'.cell? ⟨wr.heap.size, 1, none⟩ = some (.string t.s) ∧ w'.cell? ⟨wr.heap.size, 2, none⟩ = some (.int .i64 t.n) ∧ w'.cell? ⟨wr.heap.size, 3, none⟩ = some (.int .i64 t.d) ∧ w'.cell? ⟨wr.heap.size, 4, none⟩ = some (.bool t.i) ∧ w'.cell? ⟨wr.heap.size, 5, none⟩ = some (.bool t.h))
                (exact keep12t (by repeat (first | exact Below.refl _ _ | (with_reducible refine Below.drew ?_) | (with_reducible refine below_drewN ?_ _) | (refine bto ?_ (by assumption)))) H2.out SP1.out hb1)
                ((go_at_call 26; refine (CA.out _ (by repeat (first | exact Below.refl _ _ | (with_reducible refine Below.drew ?_) | (with_reducible refine below_drewN ?_ _) | (refine bto ?_ (by assumption))))).mono ?_; rintro _ wl ⟨rfl, hl9⟩; rw [HA.out]))
              go_wp2_with (first
                | (go_at_call 27; refine (wstr_any w.heap.size w.heap.size _ ⟨#[47, 42, 42, 47]⟩ _ (GR.out _ (by repeat (first | exact Below.refl _ _ | (with_reducible refine Below.drew ?_) | (with_reducible refine below_drewN ?_ _) | (refine bto ?_ (by assumption))))).1.bd (by have := LK.out; show _ + 4 ≤ _; omega) ((GR.out _ (by repeat (first | exact Below.refl _ _ | (with_reducible refine Below.drew ?_) | (with_reducible refine below_drewN ?_ _) | (refine bto ?_ (by assumption))))).1.size HB.out)).mono ?_; rintro e w3 ⟨rfl, P3⟩; rw [SE.out] at P3; replace H2 := hide (P3.oth _ _ (GR.out _ (by repeat (first | exact Below.refl _ _ | (with_reducible refine Below.drew ?_) | (with_reducible refine below_drewN ?_ _) | (refine bto ?_ (by assumption))))).2 (by simpa using NT.out) (by intro c fz hh; cases hh)); replace P2 := hide ((GR.out _ (by repeat (first | exact Below.refl _ _ | (with_reducible refine Below.drew ?_) | (with_reducible refine below_drewN ?_ _) | (refine bto ?_ (by assumption))))).1.trans P3); clear P3; obtain ⟨q9, q0, q1, q2, q3, q4, q5⟩ := tok_box H2.out)
                | (go_at_call 28; refine (WT.out w.heap.size w.heap.size _ _ P2.out.bd (by have := LK.out; rw [List.length_append]; show _ + 4 ≤ _; omega) (P2.out.size HB.out) (TT.out.on P2.out.bel) (fun W hb => KK.out W (P2.out.bel.trans hb))).mono ?_; rintro e w4 ⟨rfl, P4⟩; replace P2 := hide (P2.out.trans P4); clear P4))
              go_roundw
              case rel => exact FIN.out _ _ ST.out P2.out
              case measure => simp [intOf]; omega
            | false =>
              have HA := hide ha
              have ST := hide (SCL.out ha)
              clear ha SAP SCL
              go_region_held3 (fun w' => w'.cell? ⟨b, o + j * 6, none⟩ = some (.int .i64 p.k) ∧ w'.cell? ⟨b, o + j * 6 + 1, none⟩ = some (.string p.s) ∧ w'.cell? ⟨b, o + j * 6 + 2, none⟩ = some (.int .i64 p.n) ∧ w'.cell? ⟨b, o + j * 6 + 3, none⟩ = some (.int .i64 p.d) ∧ w'.cell? ⟨b, o + j * 6 + 4, none⟩ = some (.bool p.i) ∧ w'.cell? ⟨b, o + j * 6 + 5, none⟩ = some (.bool p.h) ∧ w'.cell? ⟨wr.heap.size, 0, none⟩ = some (.int .i64 t.k) ∧ w'.cell? ⟨wr.heap.size, 1, none⟩ = some (.string t.s) ∧ w'.cell? ⟨wr.heap.size, 2, none⟩ = some (.int .i64 t.n) ∧ w'.cell? ⟨wr.heap.size, 3, none⟩ = some (.int .i64 t.d) ∧ w'.cell? ⟨wr.heap.size, 4, none⟩ = some (.bool t.i) ∧ w'.cell? ⟨wr.heap.size, 5, none⟩ = some (.bool t.h))
                (exact keep12t (by repeat (first | exact Below.refl _ _ | (with_reducible refine Below.drew ?_) | (with_reducible refine below_drewN ?_ _) | (refine bto ?_ (by assumption)))) H2.out SP1.out hb1)
                ((go_at_call 26; refine (CA.out _ (by repeat (first | exact Below.refl _ _ | (with_reducible refine Below.drew ?_) | (with_reducible refine below_drewN ?_ _) | (refine bto ?_ (by assumption))))).mono ?_; rintro _ wl ⟨rfl, hl9⟩; rw [HA.out]))
              go_wp2_with (go_at_call 28; refine (WT.out w.heap.size w.heap.size _ _ (GR.out _ (by repeat (first | exact Below.refl _ _ | (with_reducible refine Below.drew ?_) | (with_reducible refine below_drewN ?_ _) | (refine bto ?_ (by assumption))))).1.bd (by have := LK.out; omega) ((GR.out _ (by repeat (first | exact Below.refl _ _ | (with_reducible refine Below.drew ?_) | (with_reducible refine below_drewN ?_ _) | (refine bto ?_ (by assumption))))).1.size HB.out) (TT.out.on (GR.out _ (by repeat (first | exact Below.refl _ _ | (with_reducible refine Below.drew ?_) | (with_reducible refine below_drewN ?_ _) | (refine bto ?_ (by assumption))))).1.bel) (fun W hb => KK.out W ((GR.out _ (by repeat (first | exact Below.refl _ _ | (with_reducible refine Below.drew ?_) | (with_reducible refine below_drewN ?_ _) | (refine bto ?_ (by assumption))))).1.bel.trans hb))).mono ?_; rintro e w4 ⟨rfl, P4⟩; replace P2 := hide ((GR.out _ (by repeat (first | exact Below.refl _ _ | (with_reducible refine Below.drew ?_) | (with_reducible refine below_drewN ?_ _) | (refine bto ?_ (by assumption))))).1.trans P4); clear P4)
              go_roundw
              case rel => exact FIN.out _ _ ST.out P2.out
              case measure => simp [intOf]; omega
      · have hk' : ¬ (k : Int) < n := by omega
        have hkn : k = ts.length := by rw [← HN.out]; omega
        have AL := hide (show ∀ t ∈ ts, t.may = true from fun t ht => by
          obtain ⟨j, hj, rfl⟩ := List.mem_iff_getElem.1 ht
          exact R.out.2 j _ (by omega) (List.getElem?_eq_getElem hj))
        have P1 := hide R.out.1
        rw [hkn] at P1
        clear hkn
        go_wp2_with (go_at_call 29; refine (bstr_any w.heap.size w.heap.size _ _ HBY.out P1.out.bd (P1.out.size HB.out)).mono ?_; rintro e w1 ⟨s, rfl, hs, B1⟩; replace hs := hide hs; replace B1 := hide (show Below w.heap.size w w1 from A0.out.trans (P1.out.bel.trans B1)))
        go_ret2
        exact ⟨B1.out, .inl ⟨AL.out, s, rfl, hs.out⟩⟩
def idT (s : ByteArray) : TS := ⟨1, s, 0, 0, false, false⟩
def wtI (t : TS) : List Int := wId (bl t.s)
theorem may_id (s : ByteArray) : (idT s).may = (chB (bl s) && !(bl s).isEmpty) := by
  show mayT 1 (bl s) 0 0 false false = _
  cases hb : bl s with
  | nil => simp [mayT, fdB, txB, nuB1, nu, tx, nm]
  | cons a r =>
    have : mayT 1 (a :: r) 0 0 false false = chB (a :: r) := by
      simp [mayT, fdB, txB, nuB1, nu, tx, nm]
    rw [this]; simp
theorem may_id_ch {s : ByteArray} (h : (idT s).may = true) : chB (bl s) = true := by
  rw [may_id, Bool.and_eq_true] at h; exact h.1
theorem ch_whole {bs : List Int} (h : chB bs = true) : whole bs = true := by unfold chB at h; rw [Bool.and_eq_true] at h; exact h.1
set_option maxRecDepth 100000 in
set_option maxHeartbeats 2000000 in
theorem writes_id (s : ByteArray) (hs : s.size ≤ 1099511627776) (hm : (idT s).may = true) : Writes wtI (idT s) := by
  intro B b xs W hb hl hB hT hK
  have hw := ch_whole (may_id_ch hm)
  have PW := hide (fun (W1 : World) (hb1 : Below W.heap.size W W1) => (PB.start hb).grow hB hb1)
  have C := hide (fun (W1 : World) (hb1 : Below W.heap.size W W1) => wId_any B b xs s W1 hw (PW.out W1 hb1).bd (by omega) ((PW.out W1 hb1).size hB) (hT.on (PW.out W1 hb1).bel))
  have f0 := fld0
  have f1 := fld1
  clear hb hT hK hw hm
  unfold TS.v idT tokV wtI
  go_enter Tryz.func28, Tryz.ntmps28
  go_wp2_with (go_at_call 50; refine (C.out _ (by first | exact Below.refl _ _ | exact bplus (Below.refl _ _) _)).mono ?_; rintro e w1 ⟨rfl, P1⟩; replace P1 := hide ((PW.out _ (by first | exact Below.refl _ _ | exact bplus (Below.refl _ _) _)).trans P1))
  go_end0
  exact ⟨rfl, P1.out⟩
theorem six_row {W : World} {b o : Nat} {t : TS} {cs : Array Value} {T : TypeId} {q : Nat × Nat} (h : W.heap[b]? = some (.cells cs T q)) (h0 : cs[o]? = some (.int .i64 t.k)) (h1 : cs[o + 1]? = some (.string t.s)) (h2 : cs[o + 2]? = some (.int .i64 t.n)) (h3 : cs[o + 3]? = some (.int .i64 t.d)) (h4 : cs[o + 4]? = some (.bool t.i)) (h5 : cs[o + 5]? = some (.bool t.h)) : Six4 W b o t :=
  ⟨by rw [row_blk h]; exact h0, by rw [row_blk h]; exact h1, by rw [row_blk h]; exact h2, by rw [row_blk h]; exact h3, by rw [row_blk h]; exact h4, by rw [row_blk h]; exact h5⟩
theorem toks_one (w : World) (t : TS) (T : TypeId) : Toks4 (w.alloc (.cells #[.int .i64 t.k, .string t.s, .int .i64 t.n, .int .i64 t.d, .bool t.i, .bool t.h] T)) (.slice (some ⟨w.heap.size, 0, none⟩) 1 1) [t] :=
  .inr ⟨w.heap.size, 0, 1, 1, rfl, rfl, by omega, by simp, by omega, by omega, by omega, fun i u hi => by
    cases i with
    | zero => cases hi; exact six_row (heap_alloc_new w _) rfl rfl rfl rfl rfl rfl
    | succ i => simp at hi⟩
theorem toks_two (w : World) (t u : TS) (T : TypeId) : Toks4 (w.alloc (.cells #[.int .i64 t.k, .string t.s, .int .i64 t.n, .int .i64 t.d, .bool t.i, .bool t.h, .int .i64 u.k, .string u.s, .int .i64 u.n, .int .i64 u.d, .bool u.i, .bool u.h] T)) (.slice (some ⟨w.heap.size, 0, none⟩) 2 2) [t, u] :=
  .inr ⟨w.heap.size, 0, 2, 2, rfl, rfl, by omega, by simp, by omega, by omega, by omega, fun i x hi => by
    match i, hi with
    | 0, hi => cases hi; exact six_row (heap_alloc_new w _) rfl rfl rfl rfl rfl rfl
    | 1, hi => cases hi; exact six_row (heap_alloc_new w _) rfl rfl rfl rfl rfl rfl
    | i + 2, hi => simp at hi⟩
theorem toks_one_at (w : World) (t : TS) (T : TypeId) (m : Nat) (hm : m = w.heap.size) : Toks4 (w.alloc (.cells #[.int .i64 t.k, .string t.s, .int .i64 t.n, .int .i64 t.d, .bool t.i, .bool t.h] T)) (.slice (some ⟨m, 0, none⟩) 1 1) [t] := by subst hm; exact toks_one w t T
def Sp2 (wt : TS → List Int) (ts : List TS) (s : ByteArray) (c : Int) : Prop := ((∀ t ∈ ts, t.may = true) ∧ c = 0 ∧ bl s = spK wt ts ts.length) ∨ ((∃ t ∈ ts, t.may = false) ∧ c = 1 ∧ s = ⟨#[]⟩)
theorem PostSp.uni {wt : TS → List Int} {ts : List TS} {w : World} {e : Ending} {w' : World} (h : PostSp wt ts w e w') : Below w.heap.size w w' ∧ ∃ s c, e = .returned (.tuple #[.string s, .int .i64 c]) ∧ Hid (Sp2 wt ts s c) := by
  obtain ⟨h1, ⟨A, s, rfl, hs⟩ | ⟨A, rfl⟩⟩ := h
  · exact ⟨h1, s, 0, rfl, .inl ⟨A, rfl, hs⟩⟩
  · exact ⟨h1, _, 1, rfl, .inr ⟨A, rfl, rfl⟩⟩
theorem PostSp.of {wt : TS → List Int} {ts : List TS} {w : World} {e : Ending} {w' : World} (h : Below w.heap.size w w') {s : ByteArray} {c : Int} (he : e = .returned (.tuple #[.string s, .int .i64 c])) (H : Sp2 wt ts s c) : PostSp wt ts w e w' := by
  subst he
  rcases H with ⟨A, rfl, hs⟩ | ⟨A, rfl, rfl⟩
  · exact ⟨h, .inl ⟨A, s, rfl, hs⟩⟩
  · exact ⟨h, .inr ⟨A, rfl⟩⟩
theorem spK_one (wt : TS → List Int) (t : TS) : spK wt [t] 1 = wt t := by
  rw [spK_zero (t := t) rfl]; rfl
set_option maxRecDepth 100000 in
set_option maxHeartbeats 400000 in
theorem token_any (wt : TS → List Int) (t : TS) (w : World) (ho : t.Ok) (hW : t.may = true → Writes wt t) (hby : By (wt t)) (hl9 : (wt t).length ≤ 35184372088000) (hK : KT w) (hT : Tabs w) :
    Calls Tryz.prog 8 #[t.v] w fun e w' => PostSp wt [t] w e w' := by
  have TO := hide (toks_one_at (w.alloc (.cells #[.int .i64 t.k, .string t.s, .int .i64 t.n, .int .i64 t.d, .bool t.i, .bool t.h] 25)) t 25 (w.heap.size + 1) (by simp))
  have B0 := hide (bplus (bplus (Below.refl w.heap.size w) (.cells #[.int .i64 t.k, .string t.s, .int .i64 t.n, .int .i64 t.d, .bool t.i, .bool t.h] 25)) (.cells #[.int .i64 t.k, .string t.s, .int .i64 t.n, .int .i64 t.d, .bool t.i, .bool t.h] 25))
  have E1 : spK wt [t] [t].length = wt t := spK_one wt t
  have C := hide (tokens_any wt [t] _ _ TO.out (fun u hu => by rw [List.mem_singleton.1 hu]; exact ho) (fun u hu => by rw [List.mem_singleton.1 hu]; exact hW) (by rw [E1]; exact hby) (by rw [E1]; exact hl9) (hK.below B0.out) (hT.below B0.out))
  clear E1
  clear ho hW hby hl9 hK hT TO
  unfold TS.v tokV
  go_enter Tryz.func8, Tryz.ntmps8
  go_wp2_with (go_at_call 11; refine C.out.mono ?_; intro e w1 hP; obtain ⟨B1, u, c, rfl, H⟩ := hP.uni; clear hP; replace B1 := hide (show Below w.heap.size w w1 from bto B0.out B1))
  go_ret2
  exact .of B1.out rfl H.out
theorem fol_no5 (m : Nat) : ∀ (c lo hi : Int) (k : Nat) (r : List Int), (fol m c lo hi k r).2.2 = false → (fol m c lo hi k r).1 = 65533 := by
  induction m with
  | zero => intro c lo hi k r h; simp [fol] at h
  | succ m ih =>
    intro c lo hi k r
    cases r with
    | nil => simp [fol]
    | cons b r =>
      simp only [fol]
      split
      · simp
      · exact ih _ _ _ _ _
theorem stp_no5 (bs : List Int) (h : (stp bs).2.2 = false) : (stp bs).1 = 65533 := by
  cases bs with
  | nil => rfl
  | cons a r =>
    simp only [stp] at h ⊢
    split at h
    · rename_i q; rw [if_pos q]
    · rename_i q; rw [if_neg q]; exact fol_no5 _ _ _ _ _ _ h
theorem stp_isC5 (bs : List Int) (hb : By bs) (hne : bs ≠ []) : isC (stp bs).1 = true := by
  by_cases h : (stp bs).2.2 = true
  · exact (stp_back bs hb hne h).1
  · rw [stp_no5 bs (by simpa using h)]; rfl
theorem raw_isC5 (n : Nat) : ∀ bs : List Int, bs.length ≤ n → By bs → ∀ x ∈ raw bs, isC x = true := by
  induction n with
  | zero => intro bs h _ x hx; obtain rfl : bs = [] := List.eq_nil_of_length_eq_zero (by omega); rw [raw_nil] at hx; simp at hx
  | succ n ih =>
    intro bs h hb x hx
    by_cases hne : bs = []
    · subst hne; rw [raw_nil] at hx; simp at hx
    · have hs := stp_len bs hne
      rw [raw_cut hne] at hx
      rcases List.mem_cons.1 hx with rfl | hx
      · exact stp_isC5 bs hb hne
      · exact ih _ (by rw [List.length_drop]; omega) (hb.drop _) x hx
theorem hxL_by (n : Nat) : By (hxL n) := by
  induction n using Nat.strongRecOn with
  | _ n ih =>
    by_cases h : n < 16
    · rw [hxL_one h]; intro x hx; rw [List.mem_singleton.1 hx]; exact hd_by n h
    · rw [hxL_big h]
      exact (ih (n / 16) (by omega)).app (fun x hx => by rw [List.mem_singleton.1 hx]; exact hd_by _ (Nat.mod_lt _ (by omega)))
theorem by_cons {x : Int} {l : List Int} (h : 0 ≤ x ∧ x ≤ 255) (hl : By l) : By (x :: l) := fun y hy => by
  rcases List.mem_cons.1 hy with rfl | hy
  · exact h
  · exact hl y hy
theorem by_nil : By [] := fun x hx => by cases hx
theorem esc_by (c : Int) : By (esc c) := by_cons (by omega) ((hxL_by _).app (by_cons (by omega) by_nil))
theorem wLt_by {c : Int} (h : isC c = true) : By (wLt c) := by
  unfold wLt
  split
  · exact esc_by c
  split
  · exact enc1_by h
  · exact by_cons (by omega) (enc1_by h)
theorem hdT_by {c : Int} (h : isC c = true) : By (hdT c) := by
  unfold hdT
  split
  · exact esc_by c
  · exact wLt_by h
theorem wNm_by {l : List Int} (h : ∀ x ∈ l, isC x = true) : By (wNm l) := by
  induction l with
  | nil => exact by_nil
  | cons a r ih =>
    rw [wNm_cons]
    exact (wLt_by (h a (by simp))).app (ih fun x hx => h x (by simp [hx]))
theorem hdT_len (c : Int) : (hdT c).length ≤ 6 := by
  unfold hdT
  split
  · rename_i h; exact esc_len (dig_bd h).1 (dig_bd h).2
  · exact wLt_len c
theorem wId_by (s : ByteArray) : By (wId (bl s)) := by
  unfold wId
  split
  · exact by_cons (by omega) (by_cons (by omega) by_nil)
  · have h := raw_isC5 _ (bl s) (Nat.le_refl _) (bl_by s)
    cases hr : raw (bl s) with
    | nil => exact by_nil
    | cons c r =>
      rw [hr] at h
      show By (hdT c ++ _)
      refine (hdT_by (h c (by simp))).app ?_
      split
      · cases r with
        | nil => exact by_nil
        | cons d q =>
          show By (hdT d ++ _)
          exact (hdT_by (h d (by simp))).app (wNm_by fun x hx => h x (by simp [hx]))
      · exact wNm_by fun x hx => h x (by simp [hx])
theorem wId_len (s : ByteArray) : (wId (bl s)).length ≤ 6 * s.size + 2 := by
  unfold wId
  split
  · simp
  · have h := raw_le (bl s)
    rw [bl_len] at h
    cases hr : raw (bl s) with
    | nil => simp [wId0]
    | cons c r =>
      rw [hr] at h
      have h1 := hdT_len c
      have h2 := wNm_len r
      show (hdT c ++ _).length ≤ _
      rw [List.length_append]
      simp only [List.length_cons] at h
      split
      · cases r with
        | nil => simp [wId1]; omega
        | cons d q =>
          have h3 := hdT_len d
          have h4 := wNm_len q
          show _ + (hdT d ++ _).length ≤ _
          rw [List.length_append]
          simp only [List.length_cons] at h
          omega
      · omega
theorem idT_ok (s : ByteArray) (hs : s.size ≤ 1099511627776) : (idT s).Ok := ⟨by simp [idT], by simp [idT], hs, by simp [idT], by simp [idT], by simp [idT], by simp [idT]⟩
set_option maxRecDepth 100000 in
set_option maxHeartbeats 400000 in
theorem identS_any (s : ByteArray) (w : World) (hs : s.size ≤ 1099511627776) (hK : KT w) (hT : Tabs w) :
    Calls Tryz.prog 13 #[.string s] w fun e w' => PostSp wtI [idT s] w e w' := by
  have C := hide (fun (W : World) (hb : Below w.heap.size w W) => token_any wtI (idT s) W (idT_ok s hs) (fun h => writes_id s hs h) (wId_by s) (by have := wId_len s; show (wId (bl s)).length ≤ _; omega) (hK.below hb) (hT.below hb))
  clear hK hT
  unfold TS.v idT tokV at C
  go_enter Tryz.func13, Tryz.ntmps13
  go_wp2_with (go_at_call 8; refine (C.out _ (by first | exact Below.refl _ _ | exact bplus (Below.refl _ _) _)).mono ?_; intro e w1 hP; obtain ⟨B1, u, c, rfl, H⟩ := hP.uni; clear hP; replace B1 := hide (show Below w.heap.size w w1 from (by first | exact B1 | exact bto (bplus (Below.refl _ _) _) B1)))
  go_ret2
  exact .of B1.out rfl H.out
theorem sp2_eq {wt : TS → List Int} {ts : List TS} {s u : ByteArray} {c d : Int} (h : Sp2 wt ts s c) (k : Sp2 wt ts u d) : u = s ∧ d = c := by
  rcases h with ⟨h1, h2, h3⟩ | ⟨⟨t, ht, h1⟩, h2, h3⟩ <;> rcases k with ⟨k1, k2, k3⟩ | ⟨⟨t', ht', k1⟩, k2, k3⟩
  · exact ⟨bl_inj (k3.trans h3.symm), k2.trans h2.symm⟩
  · rw [h1 t' ht'] at k1; cases k1
  · rw [k1 t ht] at h1; cases h1
  · exact ⟨k3.trans h3.symm, k2.trans h2.symm⟩
set_option maxRecDepth 100000 in
set_option maxHeartbeats 1000000 in
theorem token4_id (s : ByteArray) (w : World) (hs : s.size ≤ 1099511627776) (hT : Tabs w) :
    Calls Tryz.prog 9 #[.agg #[.int .i64 1, .string s, .int .i64 0, .int .i64 0, .bool false, .bool false]] w fun e w' => ∃ u c, e = .returned (.tuple #[.string u, .int .i64 c]) ∧ Hid (Sp2 wtI [idT s] u c) ∧ Below w.heap.size w w' := by
  have TX := hide (Tok6.box w 1 s 0 0 false false 25)
  have B0 := hide (bplus (Below.refl w.heap.size w) (.cells #[.int .i64 1, .string s, .int .i64 0, .int .i64 0, .bool false, .bool false] 25))
  have CM := hide (mayR_any 1 s 0 0 false false (w.alloc (.cells #[.int .i64 1, .string s, .int .i64 0, .int .i64 0, .bool false, .bool false] 25)) hs (by omega) (by omega) (by omega) (by omega) (hT.below B0.out))
  have W1 := hide (fun (W : World) (h : Below w.heap.size w W) => hT.below h)
  clear hT
  unfold tokV at CM
  cases hm : mayT 1 (bl s) 0 0 false false with
  | false =>
    have E := hide hm
    have FIN := hide (show Sp2 wtI [idT s] ⟨#[]⟩ 1 from .inr ⟨⟨idT s, by simp, hm⟩, rfl, rfl⟩)
    clear hm
    go_enter Tryz.func9, Tryz.ntmps9
    go_wp2_with (go_at_call 18; refine CM.out.mono ?_; rintro e w1 ⟨rfl, B1⟩; rw [E.out]; replace B1 := hide (show Below w.heap.size w w1 from bto B0.out B1))
    go_ret2
    exact ⟨_, _, rfl, FIN.out, B1.out⟩
  | true =>
    have E := hide hm
    have FIN := hide (fun (u : ByteArray) (hu : bl u = wId (bl s)) => show Sp2 wtI [idT s] u 0 from .inl ⟨fun t ht => by rw [List.mem_singleton.1 ht]; exact hm, rfl, by rw [hu]; exact (spK_one wtI (idT s)).symm⟩)
    have CI := hide (fun (W : World) (h : Below w.heap.size w W) => ident4_any s W hs (may_id_ch (s := s) hm) (W1.out W h))
    clear hm
    go_enter Tryz.func9, Tryz.ntmps9
    go_wp2_with (first
      | (go_at_call 18; refine CM.out.mono ?_; rintro e w1 ⟨rfl, B1⟩; rw [E.out]; obtain ⟨z1, q0, q1, q2, q3, q4, q5⟩ := TX.out.below B1; replace B1 := hide (show Below w.heap.size w w1 from bto B0.out B1))
      | (go_at_call 20; refine (CI.out _ B1.out).mono ?_; rintro e w2 ⟨u, rfl, hu, B2⟩; replace hu := hide hu; replace B1 := hide (bto B1.out B2)))
    go_ret2
    exact ⟨u, 0, rfl, FIN.out u hu.out, B1.out⟩
theorem raw_a : raw [97] = [97] := by
  have := raw_enc1 97 [] rfl
  rw [show enc1 97 ++ [] = [97] from by decide, raw_nil] at this
  exact this
theorem raw_1 : raw [49] = [49] := by
  have := raw_enc1 49 [] rfl
  rw [show enc1 49 ++ [] = [49] from by decide, raw_nil] at this
  exact this
theorem wId_a : wId [97] = [97] := by
  unfold wId
  rw [if_neg (by decide), raw_a]
  decide
theorem hxL_49 : hxL 49 = [51, 49] := by
  rw [hxL_big (by omega), hxL_one (by omega)]
  decide
theorem wId_1 : wId [49] = [92, 51, 49, 32] := by
  unfold wId
  rw [if_neg (by decide), raw_1]
  show hdT 49 ++ _ = _
  have : hdT 49 = 92 :: (hxL 49 ++ [32]) := rfl
  rw [this, hxL_49]
  decide
theorem whole_a : whole [97] = true := by
  have := whole_enc [97]
  rwa [show enc [97] = [97] from by decide] at this
theorem whole_1 : whole [49] = true := by
  have := whole_enc [49]
  rwa [show enc [49] = [49] from by decide] at this
theorem may_a : (idT ⟨#[97]⟩).may = true := by
  rw [may_id]
  show (chB [97] && !([97] : List Int).isEmpty) = true
  unfold chB; rw [whole_a]; rfl
theorem may_1 : (idT ⟨#[49]⟩).may = true := by
  rw [may_id]
  show (chB [49] && !([49] : List Int).isEmpty) = true
  unfold chB; rw [whole_1]; rfl
theorem sp_two : spK wtI [idT ⟨#[97]⟩, idT ⟨#[49]⟩] 2 = [97, 47, 42, 42, 47, 92, 51, 49, 32] := by
  rw [spK_apart (k := 0) (p := idT ⟨#[97]⟩) (t := idT ⟨#[49]⟩) rfl rfl (by decide), spK_zero (t := idT ⟨#[97]⟩) rfl]
  show (([] ++ wId [97]) ++ [47, 42, 42, 47]) ++ wId [49] = _
  rw [wId_a, wId_1]
  rfl
set_option maxRecDepth 100000 in
set_option maxHeartbeats 1000000 in
theorem awake4_any (w : World) (hK : KT w) (hT : Tabs w) : Calls Tryz.prog 10 #[] w fun e w' => e = .returned (.bool true) ∧ Below w.heap.size w w' := by
  have TO := toks_two w (idT ⟨#[97]⟩) (idT ⟨#[49]⟩) 25
  have B0 := bplus (Below.refl w.heap.size w) (.cells #[.int .i64 1, .string ⟨#[97]⟩, .int .i64 0, .int .i64 0, .bool false, .bool false, .int .i64 1, .string ⟨#[49]⟩, .int .i64 0, .int .i64 0, .bool false, .bool false] 25)
  have E1 : spK wtI [idT ⟨#[97]⟩, idT ⟨#[49]⟩] [idT ⟨#[97]⟩, idT ⟨#[49]⟩].length = [97, 47, 42, 42, 47, 92, 51, 49, 32] := sp_two
  have mm : ∀ t ∈ [idT ⟨#[97]⟩, idT ⟨#[49]⟩], t = idT ⟨#[97]⟩ ∨ t = idT ⟨#[49]⟩ := fun t ht => by simpa using ht
  have C := hide (tokens_any wtI [idT ⟨#[97]⟩, idT ⟨#[49]⟩] _ _ TO (fun t ht => by rcases mm t ht with rfl | rfl <;> exact idT_ok _ (by decide)) (fun t ht h => by rcases mm t ht with rfl | rfl <;> exact writes_id _ (by decide) h) (by rw [E1]; intro x hx; simp at hx; omega) (by rw [E1]; decide) (hK.below B0) (hT.below B0))
  have FIN := hide (fun s c (h : Sp2 wtI [idT ⟨#[97]⟩, idT ⟨#[49]⟩] s c) => show s = ⟨#[97, 47, 42, 42, 47, 92, 51, 49, 32]⟩ ∧ c = 0 by
    rcases h with ⟨_, h2, h3⟩ | ⟨⟨t, ht, h1⟩, _, _⟩
    · rw [E1] at h3
      exact ⟨bl_inj h3, h2⟩
    · rcases mm t ht with rfl | rfl
      · rw [may_a] at h1; cases h1
      · rw [may_1] at h1; cases h1)
  replace B0 := hide B0
  clear TO hK hT E1 mm
  unfold idT at C
  go_enter Tryz.func10, Tryz.ntmps10
  go_wp2_with (go_at_call 11; refine C.out.mono ?_; intro e w1 hP; obtain ⟨B1, u, c, rfl, H⟩ := hP.uni; clear hP; obtain ⟨rfl, rfl⟩ := FIN.out u c H.out; replace B1 := hide (show Below w.heap.size w w1 from bto B0.out B1))
  go_ret
  exact ⟨rfl, B1.out⟩
set_option maxRecDepth 100000 in
set_option maxHeartbeats 1000000 in
theorem law_ident (s : ByteArray) (w : World) (hs : s.size ≤ 1099511627776) (hK : KT w) (hT : Tabs w) :
    Calls Tryz.prog 5 #[.string s] w fun e w' => e = .returned (.bool true) ∧ Below w.heap.size w w' := by
  have C1 := hide (identS_any s w hs hK hT)
  have C2 := hide (fun (W : World) (h : Below w.heap.size w W) => token4_id s W hs (hT.below h))
  have C3 := hide (fun (W : World) (h : Below w.heap.size w W) => awake4_any W (hK.below h) (hT.below h))
  clear hK hT
  go_enter Tryz.func5, Tryz.ntmps5
  go_wp2_with (first
    | (go_at_call 13; refine C1.out.mono ?_; intro e w1 hP; obtain ⟨B1, u, c, rfl, H⟩ := hP.uni; clear hP; replace B1 := hide B1)
    | (go_at_call 9; refine (C2.out _ (by first | exact B1.out | exact bplus B1.out _)).mono ?_; rintro e w2 ⟨x, f, rfl, H2, B2⟩; obtain ⟨rfl, rfl⟩ := sp2_eq H.out H2.out; replace B1 := hide (show Below w.heap.size w w2 from (by first | exact bto B1.out B2 | exact bto (bplus B1.out _) B2)); clear B2)
    | (go_at_call 10; refine (C3.out _ B1.out).mono ?_; rintro e w3 ⟨rfl, B3⟩; replace B1 := hide (bto B1.out B3)))
  go_ret
  exact ⟨rfl, B1.out⟩
end Go.Proofs.YticboondiojofaaGreatDoor
