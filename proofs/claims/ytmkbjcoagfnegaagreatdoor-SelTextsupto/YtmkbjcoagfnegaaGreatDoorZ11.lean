/-
  An identifier, written: by the program.
  An identifier, written: the program's loop.
  What a kind of token has; fields, texts and numbers that may be; tokens that must stand apart: by the program.
  Tokens that must stand apart: by the program and by the reference.
-/
import Derived.Test.YtmkbjcoagfnegaaGreatDoorZ10
set_option linter.unusedVariables false
set_option linter.unusedSimpArgs false
namespace Go.Proofs.YtmkbjcoagfnegaaGreatDoor
open Go.RowKit Go.Shelf

theorem getb (s : ByteArray) (i : Nat) (h : i < s.size) : ((s.get! i).toNat : Int) = gt (bl s) i := by
  rw [← bl_at s i h]
  have h' : i < s.data.size := h
  show ((s.data[i]!).toNat : Int) = _
  rw [getElem!_pos s.data i h']
  rfl
/-- What a range over whole bytes meets. -/
theorem dec_enc (s : ByteArray) (p : Nat) (c : Int) (r : List Int) (hc : isC c = true) (h : (bl s).drop p = enc1 c ++ r) : Utf8.decode s p = (c.toNat, (enc1 c).length) := by
  have hl : s.size - p = (enc1 c).length + r.length := by
    have := congrArg List.length h
    rw [List.length_drop, bl_len, List.length_append] at this
    exact this
  have g : ∀ j, j < (enc1 c).length → ((s.get! (p + j)).toNat : Int) = gt (enc1 c) j := fun j hj => by
    rw [getb s (p + j) (by omega)]
    have e : gt (bl s) (p + j) = gt ((bl s).drop p) j := by simp [gt, List.getD_eq_getElem?_getD, List.getElem?_drop]
    rw [e, h]
    simp [gt, List.getD_eq_getElem?_getD, List.getElem?_append_left hj]
  rw [isC_iff] at hc
  rw [Lib.decode_at]
  unfold enc1 at g hl ⊢
  split at g
  · rename_i h1
    have g0 := g 0 (by simp)
    rw [if_pos h1] at hl ⊢
    simp [gt] at g0
    unfold Lib.decodeN
    rw [if_pos (by omega)]
    simp; omega
  · rename_i h1
    rw [if_neg h1] at hl ⊢
    split at g
    · rename_i h2
      have g0 := g 0 (by simp)
      have g1 := g 1 (by simp)
      rw [if_pos h2] at hl ⊢
      simp [gt] at g0 g1 hl
      unfold Lib.decodeN
      rw [if_neg (by omega), if_pos (by omega), if_pos (by omega)]
      simp; omega
    · rename_i h2
      rw [if_neg h2] at hl ⊢
      split at g
      · rename_i h3
        have g0 := g 0 (by simp)
        have g1 := g 1 (by simp)
        have g2 := g 2 (by simp)
        rw [if_pos h3] at hl ⊢
        simp [gt] at g0 g1 g2 hl
        unfold Lib.decodeN
        rw [if_neg (by omega), if_neg (by omega), if_pos (by omega), if_pos (by omega)]
        simp; omega
      · rename_i h3
        have g0 := g 0 (by simp)
        have g1 := g 1 (by simp)
        have g2 := g 2 (by simp)
        have g3 := g 3 (by simp)
        rw [if_neg h3] at hl ⊢
        simp [gt] at g0 g1 g2 g3 hl
        unfold Lib.decodeN
        rw [if_neg (by omega), if_neg (by omega), if_neg (by omega), if_pos (by omega), if_pos (by omega)]
        simp; omega
theorem dec_whole_at (s : ByteArray) (p : Nat) (hp : p < s.size) (hw : whole ((bl s).drop p) = true) :
    ∃ c k, isC c = true ∧ 1 ≤ k ∧ k ≤ 4 ∧ p + k ≤ s.size ∧ Utf8.decode s p = (c.toNat, k) ∧ raw ((bl s).drop p) = c :: raw ((bl s).drop (p + k)) ∧ whole ((bl s).drop (p + k)) = true ∧ (c ≤ 127 → k = 1 ∧ nx (bl s) p = c) ∧ (127 < c → 2 ≤ k ∧ 128 ≤ nx (bl s) p) := by
  have hn : (bl s).drop p ≠ [] := by
    intro h
    have := congrArg List.length h
    rw [List.length_drop, bl_len] at this
    simp at this; omega
  have hb := (bl_by s).drop p
  have hl := stp_len _ hn
  have hw2 := hw
  rw [whole_cut hn, Bool.and_eq_true] at hw2
  obtain ⟨h1, h2⟩ := stp_back _ hb hn hw2.1
  have hd := dec_enc s p _ _ h1 h2
  have hlen : (enc1 (stp ((bl s).drop p)).1).length = (stp ((bl s).drop p)).2.1 := by
    have h3 := congrArg List.length h2
    rw [List.length_append] at h3
    have h4 : (((bl s).drop p).drop (stp ((bl s).drop p)).2.1).length = ((bl s).drop p).length - (stp ((bl s).drop p)).2.1 := List.length_drop ..
    omega
  have hx : nx (bl s) p = nx ((bl s).drop p) 0 := by rw [nx_drop]; rfl
  refine ⟨(stp ((bl s).drop p)).1, (stp ((bl s).drop p)).2.1, h1, hl.1, hl.2.1, ?_, ?_, ?_, ?_, ?_, ?_⟩
  · have := hl.2.2; rw [List.length_drop, bl_len] at this; omega
  · rw [hd, hlen]
  · rw [raw_cut hn, List.drop_drop]
  · rw [List.drop_drop] at hw2; exact hw2.2
  · intro hc
    have e1 : enc1 (stp ((bl s).drop p)).1 = [(stp ((bl s).drop p)).1] := by unfold enc1; rw [if_pos hc]
    refine ⟨by rw [← hlen, e1]; rfl, ?_⟩
    rw [hx]
    have := congrArg (fun l => nx l 0) h2
    simp only [e1] at this
    rw [this]; rfl
  · intro hc
    have h9 := (isC_iff _).1 h1
    have h0 := congrArg (fun l => nx l 0) h2
    refine ⟨?_, ?_⟩
    · rw [← hlen]
      unfold enc1
      rw [if_neg (by omega)]
      split
      · simp
      split <;> simp
    · rw [hx]
      have h0' : nx ((bl s).drop p) 0 = nx (enc1 (stp ((bl s).drop p)).1 ++ ((bl s).drop p).drop (stp ((bl s).drop p)).2.1) 0 := h0
      rw [h0']
      generalize (stp ((bl s).drop p)).1 = c at *
      unfold enc1
      rw [if_neg (by omega)]
      split
      · show 128 ≤ 192 + c / 64; omega
      split
      · show 128 ≤ 224 + c / 4096; omega
      · show 128 ≤ 240 + c / 262144; omega
/-! ### An identifier -/
def wNm (cs : List Int) : List Int := cs.flatMap wLt
def hdT (c : Int) : List Int := if isDig c = true then esc c else wLt c
def wId1 : List Int → List Int
  | [] => []
  | c :: r => hdT c ++ wNm r
def wId0 : List Int → List Int
  | [] => []
  | c :: r => hdT c ++ if c = 45 then wId1 r else wNm r
def wId (bs : List Int) : List Int := if bs = [45] then [92, 45] else wId0 (raw bs)
def restT (bs : List Int) (p : Nat) : List Int := if p = 0 then wId0 (raw bs) else if p = 1 ∧ nx bs 0 = 45 then wId1 (raw (bs.drop 1)) else wNm (raw (bs.drop p))
def dgT (bs : List Int) (p : Nat) (c : Int) : Bool := isDig c && ((p == 0) || ((p == 1) && (nx bs 0 == 45)))
theorem wNm_cons (c : Int) (r : List Int) : wNm (c :: r) = wLt c ++ wNm r := by unfold wNm; rw [List.flatMap_cons]
theorem restT_0 (bs : List Int) : restT bs 0 = wId0 (raw bs) := by unfold restT; rw [if_pos rfl]
theorem restT_1 {bs : List Int} (h : nx bs 0 = 45) : restT bs 1 = wId1 (raw (bs.drop 1)) := by unfold restT; rw [if_neg (by omega), if_pos ⟨rfl, h⟩]
theorem restT_k {bs : List Int} {p : Nat} (h0 : p ≠ 0) (h : ¬ (p = 1 ∧ nx bs 0 = 45)) : restT bs p = wNm (raw (bs.drop p)) := by unfold restT; rw [if_neg h0, if_neg h]
theorem rest_step {bs : List Int} {p k : Nat} {c : Int} (hr : raw (bs.drop p) = c :: raw (bs.drop (p + k))) (hk : 1 ≤ k) (h1 : c ≤ 127 → k = 1 ∧ nx bs p = c) (h2 : 127 < c → 2 ≤ k ∧ 128 ≤ nx bs p) :
    restT bs p = (if dgT bs p c = true then esc c else wLt c) ++ restT bs (p + k) := by
  by_cases h0 : p = 0
  · subst h0
    rw [Nat.zero_add] at hr ⊢
    rw [List.drop_zero] at hr
    have e : dgT bs 0 c = isDig c := by simp [dgT]
    rw [e, restT_0, hr]
    show hdT c ++ _ = hdT c ++ _
    congr 1
    by_cases h45 : c = 45
    · obtain ⟨hk1, hn⟩ := h1 (by omega)
      rw [if_pos h45, hk1, restT_1 (by omega)]
    · rw [if_neg h45, restT_k (by omega)]
      rintro ⟨hk1, hn⟩
      by_cases hc : c ≤ 127
      · have := (h1 hc).2; omega
      · have := (h2 (by omega)).1; omega
  · by_cases h1' : p = 1 ∧ nx bs 0 = 45
    · obtain ⟨rfl, h45⟩ := h1'
      have e : dgT bs 1 c = isDig c := by simp [dgT, h45]
      rw [e, restT_1 h45, restT_k (by omega) (by omega), hr]
      rfl
    · have e : dgT bs p c = false := by
        unfold dgT
        have z0 : (p == 0) = false := by simpa using h0
        rw [z0]
        by_cases hp1 : p = 1
        · have : (nx bs 0 == 45) = false := by simp; exact fun h => h1' ⟨hp1, h⟩
          rw [this]; simp
        · have : (p == 1) = false := by simpa using hp1
          rw [this]; simp
      rw [e, restT_k h0 h1', restT_k (by omega) (by omega), hr, wNm_cons]
      rfl
theorem rest_end {bs : List Int} {p : Nat} (h : bs.length ≤ p) : restT bs p = [] := by
  unfold restT
  have hd : bs.drop p = [] := List.drop_of_length_le h
  split
  · rename_i h0
    subst h0
    rw [List.drop_zero] at hd
    rw [hd, raw_nil]; rfl
  split
  · rename_i h1
    rw [h1.1] at hd
    rw [hd, raw_nil]; rfl
  · rw [hd, raw_nil]; rfl
end Go.Proofs.YtmkbjcoagfnegaaGreatDoor
set_option linter.unusedVariables false
set_option linter.unusedSimpArgs false
namespace Go.Proofs.YtmkbjcoagfnegaaGreatDoor
open Go.RowKit Go.Shelf

theorem hxL_len {n : Nat} (h : n < 65536) : 1 ≤ (hxL n).length ∧ (hxL n).length ≤ 4 := by
  by_cases h1 : n < 16
  · rw [hxL_one h1]; simp
  rw [hxL_big h1]
  by_cases h2 : n / 16 < 16
  · rw [hxL_one h2]; simp
  rw [hxL_big h2]
  by_cases h3 : n / 16 / 16 < 16
  · rw [hxL_one h3]; simp
  rw [hxL_big h3, hxL_one (by omega)]; simp
theorem esc_len {c : Int} (h0 : 0 ≤ c) (h : c < 65536) : (esc c).length ≤ 6 := by
  unfold esc
  have := hxL_len (n := c.toNat) (by omega)
  simp; omega
theorem wLt_len (c : Int) : (wLt c).length ≤ 6 := by
  have := enc1_len c
  unfold wLt
  split
  · rename_i h; obtain ⟨a, b⟩ := hid_bd h; exact esc_len a b
  split
  · omega
  · simp; omega
theorem dig_bd {c : Int} (h : isDig c = true) : 0 ≤ c ∧ c < 65536 := by simp [isDig] at h; omega
theorem Bd.lt {B b : Nat} {xs : List Int} {w : World} (h : Bd B b xs w) : b < w.heap.size := by
  rcases h with ⟨_, v, h, _⟩ | ⟨_, v, h, _⟩ <;> exact (Array.getElem?_eq_some_iff.1 h).1
/-- The iterator moved on. -/
theorem PB.iter {B b : Nat} {xs : List Int} {w wr : World} (h : PB B b xs w wr) (hB : B ≤ w.heap.size) {s : ByteArray} {p : Nat} (hit : wr.heap[w.heap.size]? = some (.stringIter s p)) (p' : Nat) : PB B b xs w (wr.iterAt w.heap.size s p') := by
  refine ⟨Lib.IsBuilderF.iterAt h.bd hit p', Lib.below_iterAt h.bel hB s p', fun k o hk hb ho => ?_⟩
  have hlt := (Array.getElem?_eq_some_iff.1 hk).1
  rw [Lib.iterAt_other wr w.heap.size k s p' (by omega)]
  exact h.oth k o hk hb ho
/-- The state of a loop over characters that writes. -/
def RelW (B b : Nat) (xs : List Int) (s : ByteArray) (w : World) (R : Nat → List Int) (wr : World) : Prop := ∃ p done, p ≤ s.size ∧ Hid (PB B b (xs ++ done) w wr ∧ wr.heap[w.heap.size]? = some (.stringIter s p) ∧ R 0 = done ++ R p ∧ whole ((bl s).drop p) = true ∧ done.length ≤ 6 * p)
theorem RelW.mk {B b : Nat} {xs : List Int} {s : ByteArray} {w : World} {R : Nat → List Int} {wr : World} (p : Nat) (done : List Int) (h0 : p ≤ s.size) (h : PB B b (xs ++ done) w wr ∧ wr.heap[w.heap.size]? = some (.stringIter s p) ∧ R 0 = done ++ R p ∧ whole ((bl s).drop p) = true ∧ done.length ≤ 6 * p) : RelW B b xs s w R wr := ⟨p, done, h0, h⟩
theorem PB.range {B b : Nat} {xs : List Int} {w : World} (h : Bd B b xs w) (hB : B ≤ w.heap.size) (s : ByteArray) : PB B b xs w (w.alloc (.stringIter s 0)) ∧ (w.alloc (.stringIter s 0)).heap[w.heap.size]? = some (.stringIter s 0) :=
  ⟨(PB.start h).grow hB (bplus (Below.refl _ _) _), heap_alloc_new w _⟩
/-- What a round finds. -/
structure Rnd (B b : Nat) (xs : List Int) (s : ByteArray) (w wr : World) (p : Nat) (done : List Int) (wi : World) (c : Int) (k : Nat) : Prop where
  nx : ∀ ty, (Instr.next (.pointer (some ⟨w.heap.size, 0, none⟩)) true ty).run Tryz.prog wr = .ok (.tuple #[.bool true, .int .i64 (p : Int), .int .i32 c]) wi
  it : wi.heap[w.heap.size]? = some (.stringIter s (p + k))
  pb : PB B b (xs ++ done) w wi
  isc : isC c = true
  k1 : 1 ≤ k
  ks : p + k ≤ s.size
  rw : raw ((bl s).drop p) = c :: raw ((bl s).drop (p + k))
  wh : whole ((bl s).drop (p + k)) = true
  lo : c ≤ 127 → k = 1 ∧ Go.Proofs.YtmkbjcoagfnegaaGreatDoor.nx (bl s) p = c
  hi : 127 < c → 2 ≤ k ∧ 128 ≤ Go.Proofs.YtmkbjcoagfnegaaGreatDoor.nx (bl s) p
theorem rnd_of {B b : Nat} {xs : List Int} {s : ByteArray} {w wr : World} {p : Nat} {done : List Int} (h : PB B b (xs ++ done) w wr) (hB : B ≤ w.heap.size) (hit : wr.heap[w.heap.size]? = some (.stringIter s p)) (hw : whole ((bl s).drop p) = true) (hp : p < s.size) : ∃ wi c k, Rnd B b xs s w wr p done wi c k := by
  obtain ⟨c, k, c0, k1, k4, ks, hd, hr, hw2, lo, hi⟩ := dec_whole_at s p hp hw
  refine ⟨wr.iterAt w.heap.size s (p + k), c, k, ?_, Lib.iterAt_heap wr w.heap.size s p (p + k) hit, h.iter hB hit _, c0, k1, ks, hr, hw2, lo, hi⟩
  intro ty
  rw [Lib.run_next_any_at wr w.heap.size s p ty hit hp, hd]
  have := (isC_iff c).1 c0
  rw [show ((c.toNat : Nat) : Int) = c by omega]
theorem Rnd.on {B b : Nat} {xs : List Int} {s : ByteArray} {w wr : World} {R : Nat → List Int} {p : Nat} {done : List Int} {wi : World} {c : Int} {k : Nat} (r : Rnd B b xs s w wr p done wi c k) (hbk : b ≠ w.heap.size) {t : List Int} {w1 : World} (P : PB B b ((xs ++ done) ++ t) wi w1) (h0 : R 0 = done ++ R p) (h : R p = t ++ R (p + k)) (hl : done.length ≤ 6 * p) (ht : t.length ≤ 6) : RelW B b xs s w R w1 ∧ w1.iterPos w.heap.size = p + k := by
  have it1 := P.oth.iter r.it (Ne.symm hbk)
  refine ⟨RelW.mk (p + k) (done ++ t) r.ks ⟨?_, it1, by rw [h0, h, List.append_assoc], r.wh, ?_⟩, by simp only [World.iterPos, it1]⟩
  · have := r.pb.trans P
    rwa [List.append_assoc] at this
  · have := r.k1
    rw [List.length_append]; omega
set_option maxRecDepth 100000 in
set_option maxHeartbeats 4000000 in
theorem wId_any (B b : Nat) (xs : List Int) (s : ByteArray) (w : World) (hw : whole (bl s) = true) (h : Bd B b xs w) (hl : xs.length + 6 * s.size ≤ 70368744177664) (hB : B ≤ w.heap.size) (hT : TB B w) :
    Calls Tryz.prog 198 #[.pointer (some ⟨b, 0, none⟩), .string s] w fun e w' => e = .returned (.tuple #[]) ∧ PB B b (xs ++ wId (bl s)) w w' := by
  by_cases hd : bl s = [45]
  · have E := hide (show wId (bl s) = [92, 45] by unfold wId; rw [if_pos hd])
    obtain rfl : s = ⟨#[45]⟩ := bl_inj hd
    have C := hide (wstr_any B b xs ⟨#[92, 45]⟩ w h (by show _ + 2 ≤ _; omega) hB)
    clear h hT hd
    go_enter Tryz.func198, Tryz.ntmps198
    go_wp2_with (go_at_call 58; refine C.out.mono ?_; rintro e w1 ⟨rfl, P1⟩; replace P1 := hide P1)
    exact bodyPost_ret (v := .tuple #[]) (by simp [results, Tryz.results198, go_sem]) rfl ⟨rfl, by rw [E.out]; exact P1.out⟩
  · have E := hide (show wId (bl s) = restT (bl s) 0 by unfold wId; rw [if_neg hd, restT_0])
    have hne2 : (s.toList == [45]) = false := by
      rw [beq_eq_false_iff_ne]
      intro h
      rw [Lib.toList_data] at h
      exact hd (by unfold bl; rw [h]; rfl)
    have ST := hide (PB.range h hB s)
    have HT := hide hT
    have HW := hide hw
    have hbk : b ≠ w.heap.size := Nat.ne_of_lt h.lt
    have HBK := hide hbk
    clear h hT hd hw hbk
    go_enter Tryz.func198, Tryz.ntmps198
    go_wp2
    go_loopw [] (fun wr => RelW B b xs s w (restT (bl s)) wr) (fun wr => s.size - wr.iterPos w.heap.size)
    case atStart =>
      exact RelW.mk 0 [] (Nat.zero_le _) ⟨by rw [List.append_nil]; exact ST.out.1, ST.out.2, rfl, HW.out, Nat.zero_le _⟩
    case round =>
      clear ST
      obtain ⟨p, done, hp, H⟩ := id hrel
      clear hrel
      by_cases hlt : p < s.size
      · obtain ⟨wi, c, k, r⟩ := rnd_of H.out.1 hB H.out.2.1 H.out.2.2.2.1 hlt
        have hnx := r.nx
        have IP := hide (show wr.iterPos w.heap.size = p by simp only [World.iterPos, H.out.2.1])
        have LN := hide (show (xs ++ done).length ≤ 70368744177664 by have := H.out.2.2.2.2; rw [List.length_append]; omega)
        have SZ := r.pb.size hB
        have TT := hide (HT.out.on r.pb.bel)
        have STP := hide (rest_step r.rw r.k1 r.lo r.hi)
        have CL := hide (wLt_any B b (xs ++ done) c wi r.isc r.pb.bd LN.out SZ TT.out)
        have K1 := r.k1
        have KS := r.ks
        replace r := hide r
        cases D : dgT (bl s) p c with
        | true =>
          rw [D] at STP
          have hdg : isDig c = true := by unfold dgT at D; rw [Bool.and_eq_true] at D; exact D.1
          have CE := hide (wEsc_any B b (xs ++ done) c wi (dig_bd hdg).1 (dig_bd hdg).2 r.out.pb.bd LN.out SZ TT.out)
          have ON := hide (fun w1 (P : PB B b ((xs ++ done) ++ esc c) wi w1) => r.out.on (R := restT (bl s)) HBK.out P H.out.2.2.1 STP.out H.out.2.2.2.2 (esc_len (dig_bd hdg).1 (dig_bd hdg).2))
          have DG := hide hdg
          have hor : p = 0 ∨ (p = 1 ∧ nx (bl s) 0 = 45) := by
            unfold dgT at D; rw [Bool.and_eq_true] at D
            have := D.2
            simpa using this
          clear D STP CL LN TT H hdg r
          rcases hor with rfl | ⟨rfl, h45⟩
          · go_wp2_with (first
              | (go_at_call 214; refine (isDigitS_any c _).mono ?_; rintro e w1 ⟨rfl, rfl⟩; rw [DG.out])
              | (go_at_call 225; refine CE.out.mono ?_; rintro e w1 ⟨rfl, P1⟩; replace P1 := hide P1))
            go_roundw
            case rel => exact (ON.out _ P1.out).1
            case measure => rw [(ON.out _ P1.out).2, IP.out]; omega
          · have hs0 : 0 < s.size := by omega
            have e0 : ((s[0].toNat : Int) == 45) = true := by
              have := bl_nx s 0 hs0
              rw [← h45, this]; simp
            clear h45
            go_wp2_with (first
              | (go_at_call 214; refine (isDigitS_any c _).mono ?_; rintro e w1 ⟨rfl, rfl⟩; rw [DG.out])
              | (go_at_call 225; refine CE.out.mono ?_; rintro e w1 ⟨rfl, P1⟩; replace P1 := hide P1))
            go_roundw
            case rel => exact (ON.out _ P1.out).1
            case measure => rw [(ON.out _ P1.out).2, IP.out]; omega
        | false =>
          rw [D] at STP
          have ON := hide (fun w1 (P : PB B b ((xs ++ done) ++ wLt c) wi w1) => r.out.on (R := restT (bl s)) HBK.out P H.out.2.2.1 STP.out H.out.2.2.2.2 (wLt_len c))
          have hor : isDig c = false ∨ (isDig c = true ∧ ((2 ≤ p) ∨ (p = 1 ∧ nx (bl s) 0 ≠ 45))) := by
            unfold dgT at D
            cases hdg : isDig c with
            | false => exact Or.inl rfl
            | true =>
              refine Or.inr ⟨rfl, ?_⟩
              rw [hdg] at D
              simp at D
              by_cases h1 : p = 1
              · exact Or.inr ⟨h1, D.2 h1⟩
              · exact Or.inl (by omega)
          clear D STP LN TT H r
          rcases hor with hdg | ⟨hdg, h2 | ⟨rfl, h45⟩⟩
          · have DG := hide hdg
            clear hdg
            go_wp2_with (first
              | (go_at_call 214; refine (isDigitS_any c _).mono ?_; rintro e w1 ⟨rfl, rfl⟩; rw [DG.out])
              | (go_at_call 226; refine CL.out.mono ?_; rintro e w1 ⟨rfl, P1⟩; replace P1 := hide P1))
            go_roundw
            case rel => exact (ON.out _ P1.out).1
            case measure => rw [(ON.out _ P1.out).2, IP.out]; omega
          · have DG := hide hdg
            clear hdg
            have z0 : ((p : Int) == 0) = false := by simp; omega
            have z1 : ((p : Int) == 1) = false := by simp; omega
            have z2 : (p == 0) = false := by simp; omega
            have z3 : (p == 1) = false := by simp; omega
            go_wp2_with (first
              | (go_at_call 214; refine (isDigitS_any c _).mono ?_; rintro e w1 ⟨rfl, rfl⟩; rw [DG.out])
              | (go_at_call 226; refine CL.out.mono ?_; rintro e w1 ⟨rfl, P1⟩; replace P1 := hide P1))
            go_roundw
            case rel => exact (ON.out _ P1.out).1
            case measure => rw [(ON.out _ P1.out).2, IP.out]; omega
          · have DG := hide hdg
            clear hdg
            have hs0 : 0 < s.size := by omega
            have e0 : ((s[0].toNat : Int) == 45) = false := by
              have := bl_nx s 0 hs0
              rw [beq_eq_false_iff_ne, ← this]; exact h45
            clear h45
            go_wp2_with (first
              | (go_at_call 214; refine (isDigitS_any c _).mono ?_; rintro e w1 ⟨rfl, rfl⟩; rw [DG.out])
              | (go_at_call 226; refine CL.out.mono ?_; rintro e w1 ⟨rfl, P1⟩; replace P1 := hide P1))
            go_roundw
            case rel => exact (ON.out _ P1.out).1
            case measure => rw [(ON.out _ P1.out).2, IP.out]; omega
      · have hnx : ∀ ty, (Instr.next (.pointer (some ⟨w.heap.size, 0, none⟩)) true ty).run Tryz.prog wr = _ := fun ty => Lib.run_next_end_at wr w.heap.size s p ty H.out.2.1 hlt
        go_wp2
        go_end0
        refine ⟨rfl, ?_⟩
        have e : restT (bl s) 0 = done := by rw [H.out.2.2.1, rest_end (by rw [bl_len]; omega), List.append_nil]
        rw [E.out, e]
        exact H.out.1
end Go.Proofs.YtmkbjcoagfnegaaGreatDoor
set_option linter.unusedVariables false
set_option linter.unusedSimpArgs false
namespace Go.Proofs.YtmkbjcoagfnegaaGreatDoor
open Go.RowKit

/-- The table of kinds, as it is laid. -/
def KT (w : World) : Prop := 2 < w.heap.size ∧ ∀ k : Nat, k < 25 → w.cell? ⟨2, k * 6, none⟩ = some (.bool (tx k)) ∧ w.cell? ⟨2, k * 6 + 1, none⟩ = some (.bool (nm k)) ∧ w.cell? ⟨2, k * 6 + 2, none⟩ = some (.bool (nu k)) ∧ w.cell? ⟨2, k * 6 + 3, none⟩ = some (.bool (ro k)) ∧ w.cell? ⟨2, k * 6 + 4, none⟩ = some (.bool (jo k)) ∧ w.cell? ⟨2, k * 6 + 5, none⟩ = some (.string (fx k))
theorem KT.below {w w' : World} (h : KT w) (hb : Below w.heap.size w w') : KT w' := by
  refine ⟨Nat.lt_of_lt_of_le h.1 hb.size, fun k hk => ?_⟩
  obtain ⟨c0, c1, c2, c3, c4, c5⟩ := h.2 k hk
  exact ⟨(hb.cell (p := ⟨2, k * 6, none⟩) h.1).trans c0, (hb.cell (p := ⟨2, k * 6 + 1, none⟩) h.1).trans c1, (hb.cell (p := ⟨2, k * 6 + 2, none⟩) h.1).trans c2, (hb.cell (p := ⟨2, k * 6 + 3, none⟩) h.1).trans c3, (hb.cell (p := ⟨2, k * 6 + 4, none⟩) h.1).trans c4, (hb.cell (p := ⟨2, k * 6 + 5, none⟩) h.1).trans c5⟩
def trV (k : Int) : Value := .agg #[.bool (tx k), .bool (nm k), .bool (nu k), .bool (ro k), .bool (jo k), .string (fx k)]
theorem trV_out {k : Int} (h : k < 0 ∨ 25 ≤ k) : trV k = .agg #[.bool false, .bool false, .bool false, .bool false, .bool false, .string ⟨#[]⟩] := by
  unfold trV
  have e1 : tx k = false := by simp [tx]; omega
  have e2 : nm k = false := by simp [nm]; omega
  have e3 : nu k = false := by simp [nu]; omega
  have e4 : ro k = false := by simp [ro]; omega
  have e5 : jo k = false := by simp [jo]; omega
  have e6 : fx k = ⟨#[]⟩ := by
    unfold fx
    iterate 14 rw [if_neg (by omega)]
  rw [e1, e2, e3, e4, e5, e6]
set_option maxRecDepth 100000 in
set_option maxHeartbeats 1000000 in
theorem traits_any (k : Int) (w : World) (k1 : -9223372036854775808 ≤ k) (k2 : k ≤ 9223372036854775807) (hK : KT w) :
    Calls Tryz.prog 189 #[.int .i64 k] w fun e w' => e = .returned (trV k) ∧ Below w.heap.size w w' := by
  by_cases hk : k < 0 ∨ 25 ≤ k
  · have E := hide (trV_out hk)
    rcases hk with hk | hk
    all_goals
      go_enter Tryz.func189, Tryz.ntmps189
      go_wp2
      refine bodyPost_ret (v := .agg #[.bool false, .bool false, .bool false, .bool false, .bool false, .string ⟨#[]⟩]) (by simp [results, Tryz.results189, go_sem]) rfl ⟨by rw [E.out], ?_⟩
      exact bplus (Below.refl _ _) _
  · obtain ⟨j, rfl⟩ := Int.eq_ofNat_of_zero_le (show 0 ≤ k by omega)
    have hj : j < 25 := by omega
    obtain ⟨c0, c1, c2, c3, c4, c5⟩ := hK.2 j hj
    have hz := hK.1
    have i0 : (0 : Int) ≤ j := by omega
    have i1 : (j : Int) < 25 := by omega
    unfold trV
    generalize tx (j : Int) = t1 at *
    generalize nm (j : Int) = t2 at *
    generalize nu (j : Int) = t3 at *
    generalize ro (j : Int) = t4 at *
    generalize jo (j : Int) = t5 at *
    generalize fx (j : Int) = t6 at *
    clear hk hK
    go_enter Tryz.func189, Tryz.ntmps189
    go_wp2
    refine bodyPost_ret (v := .agg #[.bool t1, .bool t2, .bool t3, .bool t4, .bool t5, .string t6]) (by simp [results, Tryz.results189, go_sem]) rfl ⟨rfl, ?_⟩
    exact bplus (Below.refl _ _) _
/-! ### Fields of what a kind has -/
theorem fld0 (a0 a1 a2 a3 a4 : Bool) (a5 : ByteArray) (w : World) : (Instr.field 209 (.agg #[.bool a0, .bool a1, .bool a2, .bool a3, .bool a4, .string a5]) 0).run Tryz.prog w = .ok (.bool a0) w := by kernel_rfl
theorem fld1 (a0 a1 a2 a3 a4 : Bool) (a5 : ByteArray) (w : World) : (Instr.field 209 (.agg #[.bool a0, .bool a1, .bool a2, .bool a3, .bool a4, .string a5]) 1).run Tryz.prog w = .ok (.bool a1) w := by kernel_rfl
theorem fld2 (a0 a1 a2 a3 a4 : Bool) (a5 : ByteArray) (w : World) : (Instr.field 209 (.agg #[.bool a0, .bool a1, .bool a2, .bool a3, .bool a4, .string a5]) 2).run Tryz.prog w = .ok (.bool a2) w := by kernel_rfl
theorem fld3 (a0 a1 a2 a3 a4 : Bool) (a5 : ByteArray) (w : World) : (Instr.field 209 (.agg #[.bool a0, .bool a1, .bool a2, .bool a3, .bool a4, .string a5]) 3).run Tryz.prog w = .ok (.bool a3) w := by kernel_rfl
theorem fld4 (a0 a1 a2 a3 a4 : Bool) (a5 : ByteArray) (w : World) : (Instr.field 209 (.agg #[.bool a0, .bool a1, .bool a2, .bool a3, .bool a4, .string a5]) 4).run Tryz.prog w = .ok (.bool a4) w := by kernel_rfl
/-! ### Tokens in memory -/
def tokV (k : Int) (s : ByteArray) (n d : Int) (i h : Bool) : Value := .agg #[.int .i64 k, .string s, .int .i64 n, .int .i64 d, .bool i, .bool h]
def Tok6 (w : World) (b : Nat) (k : Int) (s : ByteArray) (n d : Int) (i h : Bool) : Prop :=
  b < w.heap.size ∧ w.cell? ⟨b, 0, none⟩ = some (.int .i64 k) ∧ w.cell? ⟨b, 1, none⟩ = some (.string s) ∧ w.cell? ⟨b, 2, none⟩ = some (.int .i64 n) ∧ w.cell? ⟨b, 3, none⟩ = some (.int .i64 d) ∧ w.cell? ⟨b, 4, none⟩ = some (.bool i) ∧ w.cell? ⟨b, 5, none⟩ = some (.bool h)
theorem Tok6.below {w w' : World} {b : Nat} {k : Int} {s : ByteArray} {n d : Int} {i h : Bool} (t : Tok6 w b k s n d i h) (hb : Below w.heap.size w w') : Tok6 w' b k s n d i h := by
  obtain ⟨z, c0, c1, c2, c3, c4, c5⟩ := t
  exact ⟨Nat.lt_of_lt_of_le z hb.size, (hb.cell (p := ⟨b, 0, none⟩) z).trans c0, (hb.cell (p := ⟨b, 1, none⟩) z).trans c1, (hb.cell (p := ⟨b, 2, none⟩) z).trans c2, (hb.cell (p := ⟨b, 3, none⟩) z).trans c3, (hb.cell (p := ⟨b, 4, none⟩) z).trans c4, (hb.cell (p := ⟨b, 5, none⟩) z).trans c5⟩
theorem Tok6.box (w : World) (k : Int) (s : ByteArray) (n d : Int) (i h : Bool) (T : TypeId) : Tok6 (w.alloc (.cells #[.int .i64 k, .string s, .int .i64 n, .int .i64 d, .bool i, .bool h] T)) w.heap.size k s n d i h :=
  ⟨by simp, by simp [go_sem], by simp [go_sem], by simp [go_sem], by simp [go_sem], by simp [go_sem], by simp [go_sem]⟩
theorem emp_iff (s : ByteArray) : (bl s).isEmpty = s.toList.isEmpty := by
  by_cases h : s.size = 0
  · rw [emp_t h, bl_nil h]; rfl
  · rw [emp_f (by omega)]
    cases hb : bl s with
    | nil => exact absurd (bl_size0.1 hb) h
    | cons c r => rfl
/-- The ways of a token's fields. -/
theorem fd_ways (k : Int) (e : Bool) (n d : Int) (i h : Bool) :
    (tx k = false ∧ e = false) ∨
    (((tx k = true) ∨ (tx k = false ∧ e = true)) ∧ ((nu k = false ∧ ((n == 0) = false ∨ ((n == 0) = true ∧ (d == 0) = false) ∨ ((n == 0) = true ∧ (d == 0) = true ∧ i = true))) ∨ ((nu k = true ∨ (nu k = false ∧ (n == 0) = true ∧ (d == 0) = true ∧ i = false)) ∧ ((k == 4) = true ∨ (k == 4) = false)))) := by
  cases tx k <;> cases e <;> cases nu k <;> cases (n == 0) <;> cases (d == 0) <;> cases i <;> cases (k == 4) <;> simp
set_option maxRecDepth 100000 in
set_option maxHeartbeats 2000000 in
theorem fields_any (k : Int) (s : ByteArray) (n d : Int) (i h : Bool) (w : World) (k1 : -9223372036854775808 ≤ k) (k2 : k ≤ 9223372036854775807) (hK : KT w) :
    Calls Tryz.prog 174 #[tokV k s n d i h] w fun e w' => e = .returned (.bool (fdB k (bl s) n d i h)) ∧ Below w.heap.size w w' := by
  have HK := hide (hK.below (bplus (Below.refl _ _) (.cells #[.int .i64 k, .string s, .int .i64 n, .int .i64 d, .bool i, .bool h] 73)))
  have TB := hide (Tok6.box w k s n d i h 73)
  have W := fd_ways k s.toList.isEmpty n d i h
  have HE := hide (show fdB k (bl s) n d i h = ((tx k || s.toList.isEmpty) && ((nu k || (((n == 0) && (d == 0)) && !i)) && ((k == 4) || !h))) by unfold fdB; rw [emp_iff])
  unfold tokV
  generalize hs : s.toList.isEmpty = se at *
  rcases W with ⟨x1, rfl⟩ | ⟨x1 | ⟨x1, rfl⟩, ⟨x3, x4 | ⟨x4, x5⟩ | ⟨x4, x5, rfl⟩⟩ | ⟨x3 | ⟨x3, x4, x5, rfl⟩, x6 | x6⟩⟩
  all_goals
    have X1 := hide x1
    try (have X3 := hide x3)
    go_enter Tryz.func174, Tryz.ntmps174
    go_wp2_with (go_at_call 189; refine (traits_any k _ k1 k2 HK.out).mono ?_; rintro e w1 ⟨rfl, B1⟩; obtain ⟨z1, q0, q1, q2, q3, q4, q5⟩ := TB.out.below B1; unfold trV; rw [X1.out]; (try rw [X3.out]); replace B1 := hide (bto (bplus (Below.refl _ _) _) B1))
    go_ret
    refine ⟨ret_bool (by rw [HE.out]; simp [*]), ?_⟩
    repeat (first | (with_reducible exact B1.out) | (with_reducible refine Below.setCell ?_ (by simp) _) | (with_reducible refine bplus ?_ _))
set_option maxRecDepth 100000 in
set_option maxHeartbeats 2000000 in
theorem text_any (k : Int) (s : ByteArray) (n d : Int) (i h : Bool) (w : World) (k1 : -9223372036854775808 ≤ k) (k2 : k ≤ 9223372036854775807) (hs : s.size ≤ 140737488355328) (hK : KT w) :
    Calls Tryz.prog 175 #[tokV k s n d i h] w fun e w' => e = .returned (.bool (txB k (bl s) h)) ∧ Below w.heap.size w w' := by
  have HK := hide (hK.below (bplus (Below.refl _ _) (.cells #[.int .i64 k, .string s, .int .i64 n, .int .i64 d, .bool i, .bool h] 73)))
  have TB := hide (Tok6.box w k s n d i h 73)
  have C1 := hide (fun W => isDelim_any s W hs)
  have C2 := hide (fun W => isNumeric_any s W hs)
  have C3 := hide (fun W => isText_any s W hs)
  have EM := hide (emp_iff s)
  have f1 := fld1
  unfold tokV
  by_cases k9 : k = 9
  · have F := hide (show txB k (bl s) h = dlB (bl s) by unfold txB; rw [if_pos k9])
    have k9' : (k == 9) = true := by simpa using k9
    clear k9
    go_enter Tryz.func175, Tryz.ntmps175
    go_wp2_with (go_at_call 190; refine (C1.out _).mono ?_; rintro e w1 ⟨rfl, rfl⟩)
    go_ret
    exact ⟨ret_bool F.out.symm, bplus (Below.refl _ _) _⟩
  have k9' : (k == 9) = false := by simpa using k9
  by_cases hx : k = 4 ∧ h = false ∧ fB (bl s) = false
  · have F := hide (show txB k (bl s) h = false by unfold txB; rw [if_neg k9, if_pos hx])
    obtain ⟨rfl, rfl, x3⟩ := hx
    have X3 := hide x3
    clear x3 k9 k9'
    go_enter Tryz.func175, Tryz.ntmps175
    go_wp2_with (go_at_call 191; refine (C2.out _).mono ?_; rintro e w1 ⟨rfl, rfl⟩; rw [X3.out])
    go_ret
    exact ⟨ret_bool F.out.symm, bplus (Below.refl _ _) _⟩
  have F0 := hide (show txB k (bl s) h = if nm k = true ∧ bl s = [] then false else chB (bl s) by unfold txB; rw [if_neg k9, if_neg hx])
  have W : ((k == 4) = false ∨ ((k == 4) = true ∧ h = true) ∨ ((k == 4) = true ∧ h = false ∧ fB (bl s) = true)) := by
    by_cases h4 : k = 4
    · cases h with
      | true => right; left; simpa using h4
      | false =>
        right; right
        refine ⟨by simpa using h4, rfl, ?_⟩
        cases hf : fB (bl s) with
        | true => rfl
        | false => exact absurd ⟨h4, rfl, hf⟩ hx
    · left; simpa using h4
  have V : (nm k = true ∧ s.toList.isEmpty = true ∧ txB k (bl s) h = false) ∨ (nm k = false ∧ txB k (bl s) h = chB (bl s)) ∨ (nm k = true ∧ s.toList.isEmpty = false ∧ txB k (bl s) h = chB (bl s)) := by
    rw [← EM.out, F0.out]
    cases nm k with
    | false => right; left; exact ⟨rfl, if_neg (by simp)⟩
    | true =>
      cases hb : bl s with
      | nil => left; exact ⟨rfl, rfl, if_pos ⟨rfl, rfl⟩⟩
      | cons c r => right; right; exact ⟨rfl, rfl, if_neg (by simp)⟩
  clear hx k9 F0
  rcases W with x4 | ⟨x4, rfl⟩ | ⟨x4, rfl, x5⟩ <;> rcases V with ⟨y1, y2, y3⟩ | ⟨y1, y3⟩ | ⟨y1, y2, y3⟩
  all_goals
    have Y1 := hide y1
    have Y3 := hide y3
    try (have X5 := hide x5)
    clear y1 y3
    try clear x5
    go_enter Tryz.func175, Tryz.ntmps175
    go_wp2_with (first
      | (go_at_call 191; refine (C2.out _).mono ?_; rintro e w1 ⟨rfl, rfl⟩; rw [X5.out])
      | (go_at_call 189; refine (traits_any k _ k1 k2 HK.out).mono ?_; rintro e w1 ⟨rfl, B1⟩; obtain ⟨z1, q0, q1, q2, q3, q4, q5⟩ := TB.out.below B1; unfold trV; rw [Y1.out]; replace B1 := hide (bto (bplus (Below.refl _ _) _) B1))
      | (go_at_call 192; refine (C3.out _).mono ?_; rintro e w2 ⟨rfl, B2⟩; replace B1 := hide (bto B1.out B2)))
    go_ret
    exact ⟨ret_bool Y3.out.symm, B1.out⟩
theorem plR_ok {n d : Int} {i : Bool} {s : ByteArray} {x : Int} (hp : PlR n d i s x) : (x == 0) = (plT n d i).isSome := by
  unfold PlR at hp
  cases hq : plT n d i with
  | none => rw [hq] at hp; rw [hp.1]; rfl
  | some t => rw [hq] at hp; rw [hp.1]; rfl
set_option maxRecDepth 100000 in
set_option maxHeartbeats 2000000 in
theorem number_any (k : Int) (s : ByteArray) (n d : Int) (i h : Bool) (w : World) (k1 : -9223372036854775808 ≤ k) (k2 : k ≤ 9223372036854775807) (n1 : -9223372036854775808 ≤ n) (n2 : n ≤ 9223372036854775807) (d1 : -9223372036854775808 ≤ d) (d2 : d ≤ 9223372036854775807) (hK : KT w) (hT : Tabs w) :
    Calls Tryz.prog 176 #[tokV k s n d i h] w fun e w' => e = .returned (.bool (nuB1 k n d i)) ∧ Below w.heap.size w w' := by
  have HK := hide (hK.below (bplus (Below.refl _ _) (.cells #[.int .i64 k, .string s, .int .i64 n, .int .i64 d, .bool i, .bool h] 73)))
  have TB := hide (Tok6.box w k s n d i h 73)
  have W1 := hide (fun (W : World) (h : Below w.heap.size w W) => hT.below h)
  have C := hide (fun (W : World) (h : Below w.heap.size w W) => plainP_any n d i W n1 n2 d1 d2 (W1.out W h))
  have f2 := fld2
  unfold tokV
  cases hn : nu k with
  | false =>
    have F := hide (show nuB1 k n d i = true by unfold nuB1; rw [hn]; rfl)
    have X := hide hn
    clear hn
    go_enter Tryz.func176, Tryz.ntmps176
    go_wp2_with (go_at_call 189; refine (traits_any k _ k1 k2 HK.out).mono ?_; rintro e w1 ⟨rfl, B1⟩; unfold trV; rw [X.out]; replace B1 := hide (bto (bplus (Below.refl _ _) _) B1))
    go_ret
    exact ⟨ret_bool F.out.symm, B1.out⟩
  | true =>
    have F := hide (show nuB1 k n d i = (plT n d i).isSome by unfold nuB1; rw [hn]; rfl)
    have X := hide hn
    clear hn
    have Z := hide (fun s x (hp : PlR n d i s x) => plR_ok hp)
    go_enter Tryz.func176, Tryz.ntmps176
    go_wp2_with (first
      | (go_at_call 189; refine (traits_any k _ k1 k2 HK.out).mono ?_; rintro e w1 ⟨rfl, B1⟩; obtain ⟨z1, q0, q1, q2, q3, q4, q5⟩ := TB.out.below B1; unfold trV; rw [X.out]; replace B1 := hide (bto (bplus (Below.refl _ _) _) B1))
      | (go_at_call 193; refine (C.out _ B1.out).mono ?_; rintro e w2 ⟨ps, px, rfl, PP, B2⟩; have Q := hide (Z.out ps px PP); clear PP; replace B1 := hide (bto B1.out B2)))
    go_ret
    exact ⟨ret_bool (by rw [F.out, ← Q.out]), B1.out⟩
/-! ### The whole -/
set_option maxRecDepth 100000 in
set_option maxHeartbeats 2000000 in
theorem mayS_any (k : Int) (s : ByteArray) (n d : Int) (i h : Bool) (w : World) (k1 : -9223372036854775808 ≤ k) (k2 : k ≤ 9223372036854775807) (hs : s.size ≤ 140737488355328) (n1 : -9223372036854775808 ≤ n) (n2 : n ≤ 9223372036854775807) (d1 : -9223372036854775808 ≤ d) (d2 : d ≤ 9223372036854775807) (hK : KT w) (hT : Tabs w) :
    Calls Tryz.prog 157 #[tokV k s n d i h] w fun e w' => e = .returned (.bool (mayT k (bl s) n d i h)) ∧ Below w.heap.size w w' := by
  have TB := hide (Tok6.box w k s n d i h 73)
  have W1 := hide (fun (W : World) (h : Below w.heap.size w W) => hT.below h)
  have W2 := hide (fun (W : World) (h : Below w.heap.size w W) => hK.below h)
  have C1 := hide (fun (W : World) (hb : Below w.heap.size w W) => fields_any k s n d i h W k1 k2 (W2.out W hb))
  have C2 := hide (fun (W : World) (hb : Below w.heap.size w W) => text_any k s n d i h W k1 k2 hs (W2.out W hb))
  have C3 := hide (fun (W : World) (hb : Below w.heap.size w W) => number_any k s n d i h W k1 k2 n1 n2 d1 d2 (W2.out W hb) (W1.out W hb))
  have M := hide (show mayT k (bl s) n d i h = ((decide (1 ≤ k) && decide (k ≤ 24)) && ((fdB k (bl s) n d i h && txB k (bl s) h) && nuB1 k n d i)) from rfl)
  unfold tokV at *
  by_cases hk1 : k < 1
  · have F := hide (show mayT k (bl s) n d i h = false by rw [M.out]; simp; omega)
    go_enter Tryz.func157, Tryz.ntmps157
    go_wp2
    go_ret
    exact ⟨ret_bool F.out.symm, bplus (Below.refl _ _) _⟩
  by_cases hk2 : 24 < k
  · have F := hide (show mayT k (bl s) n d i h = false by rw [M.out]; simp; omega)
    have hk1' : 1 ≤ k := by omega
    go_enter Tryz.func157, Tryz.ntmps157
    go_wp2
    go_ret
    exact ⟨ret_bool F.out.symm, bplus (Below.refl _ _) _⟩
  have hk1' : 1 ≤ k := by omega
  have hk2' : k ≤ 24 := by omega
  have M2 := hide (show mayT k (bl s) n d i h = ((fdB k (bl s) n d i h && txB k (bl s) h) && nuB1 k n d i) by rw [M.out]; simp [hk1', hk2'])
  clear hk1 hk2
  cases hf : fdB k (bl s) n d i h <;> cases ht : txB k (bl s) h
  all_goals
    have HF := hide hf
    have HX := hide ht
    clear hf ht
    go_enter Tryz.func157, Tryz.ntmps157
    go_wp2_with (first
      | (go_at_call 174; refine (C1.out _ (bplus (Below.refl _ _) _)).mono ?_; rintro e w1 ⟨rfl, B1⟩; obtain ⟨z1, q0, q1, q2, q3, q4, q5⟩ := TB.out.below B1; rw [HF.out]; replace B1 := hide (bto (bplus (Below.refl _ _) _) B1))
      | (go_at_call 175; refine (C2.out _ B1.out).mono ?_; rintro e w2 ⟨rfl, B2⟩; have T2 : Tok6 w2 w.heap.size k s n d i h := (Tok6.below ⟨z1, q0, q1, q2, q3, q4, q5⟩ B2); clear q0 q1 q2 q3 q4 q5; obtain ⟨z2, q0, q1, q2, q3, q4, q5⟩ := T2; rw [HX.out]; replace B1 := hide (bto B1.out B2))
      | (go_at_call 176; refine (C3.out _ B1.out).mono ?_; rintro e w3 ⟨rfl, B3⟩; replace B1 := hide (bto B1.out B3)))
    go_ret
    exact ⟨ret_bool (by rw [M2.out, HF.out, HX.out]; rfl), B1.out⟩
end Go.Proofs.YtmkbjcoagfnegaaGreatDoor
set_option linter.unusedVariables false
set_option linter.unusedSimpArgs false
namespace Go.Proofs.YtmkbjcoagfnegaaGreatDoor
open Go.RowKit

theorem ap_ways (a b : Int) : ((a == 13) = true ∧ (b == 13) = true ∧ apB a b = true) ∨ ((a == 13) = true ∧ (b == 13) = false ∧ ro a = false ∧ apB a b = false) ∨ ((a == 13) = false ∧ ro a = false ∧ apB a b = false) ∨ ((a == 13) = false ∧ ro a = true ∧ apB a b = jo b) := by
  unfold apB
  by_cases h : a = 13
  · subst h
    cases (b == 13)
    · right; left; exact ⟨rfl, rfl, rfl, rfl⟩
    · left; exact ⟨rfl, rfl, rfl⟩
  · have h' : (a == 13) = false := by simpa using h
    rw [h']
    cases ro a
    · right; right; left; exact ⟨rfl, rfl, rfl⟩
    · right; right; right; exact ⟨rfl, rfl, by simp⟩
set_option maxRecDepth 100000 in
set_option maxHeartbeats 2000000 in
theorem apartS_any (k : Int) (s : ByteArray) (n d : Int) (i h : Bool) (k' : Int) (s' : ByteArray) (n' d' : Int) (i' h' : Bool) (w : World) (k1 : -9223372036854775808 ≤ k) (k2 : k ≤ 9223372036854775807) (k3 : -9223372036854775808 ≤ k') (k4 : k' ≤ 9223372036854775807) (hK : KT w) :
    Calls Tryz.prog 183 #[tokV k s n d i h, tokV k' s' n' d' i' h'] w fun e w' => e = .returned (.bool (apB k k')) ∧ Below w.heap.size w w' := by
  have W2 := hide (fun (W : World) (h : Below w.heap.size w W) => hK.below h)
  have C1 := hide (fun (W : World) (hb : Below w.heap.size w W) => traits_any k W k1 k2 (W2.out W hb))
  have C2 := hide (fun (W : World) (hb : Below w.heap.size w W) => traits_any k' W k3 k4 (W2.out W hb))
  have TB := hide ((Tok6.box w k s n d i h 73).below (bplus (Below.refl _ _) (.cells #[.int .i64 k', .string s', .int .i64 n', .int .i64 d', .bool i', .bool h'] 73)))
  have TC := hide (Tok6.box (w.alloc (.cells #[.int .i64 k, .string s, .int .i64 n, .int .i64 d, .bool i, .bool h] 73)) k' s' n' d' i' h' 73)
  have e1 : (w.alloc (.cells #[.int .i64 k, .string s, .int .i64 n, .int .i64 d, .bool i, .bool h] 73)).heap.size = w.heap.size + 1 := by simp
  rw [e1] at TC
  clear e1
  have B0 := hide (bplus (bplus (Below.refl w.heap.size w) (.cells #[.int .i64 k, .string s, .int .i64 n, .int .i64 d, .bool i, .bool h] 73)) (.cells #[.int .i64 k', .string s', .int .i64 n', .int .i64 d', .bool i', .bool h'] 73))
  have f3 := fld3
  have f4 := fld4
  unfold tokV
  rcases ap_ways k k' with ⟨x1, x2, x3⟩ | ⟨x1, x2, x4, x3⟩ | ⟨x1, x4, x3⟩ | ⟨x1, x4, x3⟩
  · have F := hide x3
    clear x3 f3 f4
    go_enter Tryz.func183, Tryz.ntmps183
    go_wp2
    go_ret
    exact ⟨ret_bool F.out.symm, B0.out⟩
  all_goals
    have F := hide x3
    have X4 := hide x4
    clear x3 x4
    go_enter Tryz.func183, Tryz.ntmps183
    go_wp2_with (first
      | (go_at_call_of 189 (Value.int IntKind.i64 k); refine (C1.out _ B0.out).mono ?_; rintro e w1 ⟨rfl, B1⟩; obtain ⟨z1, q0, q1, q2, q3, q4, q5⟩ := TC.out.below B1; unfold trV; rw [X4.out]; replace B1 := hide (bto B0.out B1))
      | (go_at_call 189; refine (C2.out _ B1.out).mono ?_; rintro e w2 ⟨rfl, B2⟩; unfold trV; replace B1 := hide (bto B1.out B2)))
    go_ret
    exact ⟨ret_bool F.out.symm, B1.out⟩
end Go.Proofs.YtmkbjcoagfnegaaGreatDoor

