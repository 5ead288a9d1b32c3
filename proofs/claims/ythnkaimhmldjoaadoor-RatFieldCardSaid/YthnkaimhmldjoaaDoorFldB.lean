/-
  The statement RatField, where all three are values.
-/
import Derived.Test.YthnkaimhmldjoaaDoorFldA
import Derived.Test.YthnkaimhmldjoaaDoorRegE
set_option linter.unusedVariables false
set_option linter.unusedSimpArgs false
namespace Go.Proofs.YthnkaimhmldjoaaDoor
open Go.RowKit

theorem hide {p : Prop} (h : p) : Hid p := h
theorem row2h {W : World} {b : Nat} {x y : Int × Int} {T : TypeId} (h : W.heap[b]? = some (.cells #[.int .i64 x.1, .int .i64 x.2, .int .i64 y.1, .int .i64 y.2] T)) : Row W (.slice (some ⟨b, 0, none⟩) 2 2) [x, y] := by
  refine Or.inr ⟨b, 0, 2, rfl, (Array.getElem?_eq_some_iff.1 h).1, by simp, ?_⟩
  intro i hi
  have : i = 0 ∨ i = 1 := by simp at hi; omega
  rcases this with rfl | rfl <;> simp [World.cell?, h]
/-- A fraction in memory. -/
def Bx (wr : World) (k : Nat) (p : Int × Int) : Prop := k < wr.heap.size ∧ wr.cell? ⟨k, 0, none⟩ = some (.int .i64 p.1) ∧ wr.cell? ⟨k, 1, none⟩ = some (.int .i64 p.2)
theorem Bx.up {w w' : World} {k : Nat} {p : Int × Int} (h : Bx w k p) (u : Up w w') : Bx w' k p := ⟨Nat.lt_of_lt_of_le h.1 u.size, (u.cell _ _ h.1).trans h.2.1, (u.cell _ _ h.1).trans h.2.2⟩
theorem Bx.of {W : World} {k : Nat} {p : Int × Int} {T : TypeId} (h : W.heap[k]? = some (.cells #[.int .i64 p.1, .int .i64 p.2] T)) : Bx W k p := ⟨(Array.getElem?_eq_some_iff.1 h).1, by simp [World.cell?, h], by simp [World.cell?, h]⟩
def PtB (t : Value) (wx wy : World) (s : Int × Int) : Prop := ∃ k, t = .pointer (some ⟨k, 0, none⟩) ∧ Bx wy k s ∧ Up wx wy
theorem addC {a b s : Int × Int} (ja : J a) (jb : J b) (h : addAll [a, b] = s) (W : World) (t : Value) (hr : Row W t [a, b]) : Calls Tryd.prog 6 #[t] W fun e w' => e = .returned (rtq s) ∧ Up W w' := by
  subst h
  exact addP_any t [a, b] W hr (by intro r hr; simp at hr; rcases hr with rfl | rfl; exact ja; exact jb)
theorem mulC {a b s : Int × Int} (ja : J a) (jb : J b) (h : mulAll [a, b] = s) (W : World) (t : Value) (hr : Row W t [a, b]) : Calls Tryd.prog 7 #[t] W fun e w' => e = .returned (rtq s) ∧ Up W w' := by
  subst h
  exact mulP_any t [a, b] W hr (by intro r hr; simp at hr; rcases hr with rfl | rfl; exact ja; exact jb)
theorem negC {a s : Int × Int} (ja : J a) (h : ngp a = s) (W : World) : Calls Tryd.prog 8 #[rtq a] W fun e w' => e = .returned (rtq s) ∧ Up W w' := by
  subst h
  exact negP_any a.1 a.2 W ja.1 ja.2
theorem subC {a b s : Int × Int} (ja : J a) (jb : J b) (h : sb a b = s) (W : World) : Calls Tryd.prog 9 #[rtq a, rtq b] W fun e w' => e = .returned (rtq s) ∧ Up W w' := by
  subst h
  exact subP_any a.1 a.2 b.1 b.2 W ja.1 ja.2 jb.1 jb.2
theorem divC {a b s : Int × Int} (ja : J a) (jb : J b) (h : dv a b = s) (W : World) : Calls Tryd.prog 10 #[rtq a, rtq b] W fun e w' => e = .returned (rtq s) ∧ Up W w' := by
  subst h
  exact divP_any a.1 a.2 b.1 b.2 W ja.1 ja.2 jb.1 jb.2
theorem isC {a : Int × Int} {v : Bool} (ja : J a) (h : isV a.1 a.2 = v) (W : World) : Calls Tryd.prog 5 #[rtq a] W fun e w' => e = .returned (.bool v) ∧ Up W w' := by
  subst h
  exact isL_any a.1 a.2 W ja.1 ja.2
theorem addAll_may {a b : Int × Int} (g : Good a) : addAll [a, b] = ad a b := by
  obtain ⟨hm, i1, i2⟩ := g
  obtain ⟨e1, e2⟩ := zero_add i1 i2
  have c1 : clN a.1 a.2 = a.1 := by simp [clN, hm]
  have c2 : clD a.1 a.2 = a.2 := by simp [clD, hm]
  simp only [addAll, List.foldl_cons, List.foldl_nil, e1, e2, c1, c2, ad]
theorem mulAll_may {a b : Int × Int} (g : Good a) : mulAll [a, b] = ml a b := by
  obtain ⟨hm, i1, i2⟩ := g
  obtain ⟨e1, e2⟩ := one_mul i1 i2
  have c1 : clN a.1 a.2 = a.1 := by simp [clN, hm]
  have c2 : clD a.1 a.2 = a.2 := by simp [clD, hm]
  simp only [mulAll, List.foldl_cons, List.foldl_nil, e1, e2, c1, c2, ml]
theorem good_ad (a b : Int × Int) : Good (ad a b) := ⟨add_may _ _ _ _, add_I64' _ _ _ _⟩
theorem good_ml (a b : Int × Int) : Good (ml a b) := ⟨mul_may _ _ _ _, mul_I64' _ _ _ _⟩
theorem good_V {a : Int × Int} (ja : J a) (va : V a) : Good a := ⟨by have : isV a.1 a.2 = true := va; unfold mayB; rw [this]; simp, ja⟩
def kd5 (w : World) (a b c s p ngv q x r y u v mq uw uz : Int × Int) : Nat → Kd
  | 0 => .val (rtq a)
  | 1 => .val (rtq b)
  | 2 => .row #[.int .i64 a.1, .int .i64 a.2, .int .i64 b.1, .int .i64 b.2] 23 2
  | 3 => .val (rtq s)
  | 4 => .val (rtq b)
  | 5 => .val (rtq a)
  | 6 => .row #[.int .i64 b.1, .int .i64 b.2, .int .i64 a.1, .int .i64 a.2] 23 2
  | 7 => .val (rtq s)
  | 8 => .val (.bool false)
  | 9 => .val (.bool false)
  | 10 => .val (rtq a)
  | 11 => .val (rtq b)
  | 12 => .row #[.int .i64 a.1, .int .i64 a.2, .int .i64 b.1, .int .i64 b.2] 23 2
  | 13 => .val (rtq p)
  | 14 => .val (rtq b)
  | 15 => .val (rtq a)
  | 16 => .row #[.int .i64 b.1, .int .i64 b.2, .int .i64 a.1, .int .i64 a.2] 23 2
  | 17 => .val (rtq p)
  | 18 => .val (.bool false)
  | 19 => .val (.bool false)
  | 20 => .val (.bool false)
  | 21 => .val (rtq a)
  | 22 => .val (rtq a)
  | 23 => .val (rtq ngv)
  | 24 => .row #[.int .i64 a.1, .int .i64 a.2, .int .i64 ngv.1, .int .i64 ngv.2] 23 2
  | 25 => .val (rtq (0, 1))
  | 26 => .val (rtq (0, 1))
  | 27 => .val (.bool false)
  | 28 => .val (.bool false)
  | 29 => .val (.bool false)
  | 30 => .val (rtq a)
  | 31 => .val (rtq ngv)
  | 32 => .val (rtq a)
  | 33 => .val (rtq a)
  | 34 => .val (.bool false)
  | 35 => .val (.bool false)
  | _ => .val undef
def kd9t (w : World) (a b c s p ngv q x r y u v mq uw uz : Int × Int) : Nat → Kd
  | 0 => .val (rtq s)
  | 1 => .val (.bool true)
  | 2 => .val (.bool true)
  | 3 => .val (rtq s)
  | 4 => .val (rtq b)
  | 5 => .val (rtq a)
  | 6 => .val (rtq a)
  | 7 => .val (.bool false)
  | 8 => .val (.bool false)
  | _ => .val undef
def kd9f (w : World) (a b c s p ngv q x r y u v mq uw uz : Int × Int) : Nat → Kd
  | 0 => .val (rtq s)
  | 1 => .val (.bool false)
  | 2 => .val (.bool false)
  | 3 => .val undef
  | 4 => .val undef
  | 5 => .val undef
  | 6 => .val undef
  | 7 => .val undef
  | 8 => .val (.bool false)
  | _ => .val undef
def kd11t (w : World) (a b c s p ngv q x r y u v mq uw uz : Int × Int) : Nat → Kd
  | 0 => .val (rtq p)
  | 1 => .val (.bool true)
  | 2 => .val (.bool true)
  | 3 => .val (.pointer (some ⟨w.heap.size + 1, 0, none⟩))
  | 4 => .val (.int .i64 b.1)
  | 5 => .val (.bool true)
  | 6 => .val (.bool true)
  | 7 => .val (.bool true)
  | 8 => .val (rtq p)
  | 9 => .val (rtq b)
  | 10 => .val (rtq a)
  | 11 => .val (rtq a)
  | 12 => .val (.bool false)
  | 13 => .val (.bool false)
  | _ => .val undef
def kd11z (w : World) (a b c s p ngv q x r y u v mq uw uz : Int × Int) : Nat → Kd
  | 0 => .val (rtq p)
  | 1 => .val (.bool true)
  | 2 => .val (.bool true)
  | 3 => .val (.pointer (some ⟨w.heap.size + 1, 0, none⟩))
  | 4 => .val (.int .i64 b.1)
  | 5 => .val (.bool false)
  | 6 => .val (.bool false)
  | 7 => .val (.bool false)
  | 8 => .val undef
  | 9 => .val undef
  | 10 => .val undef
  | 11 => .val undef
  | 12 => .val undef
  | 13 => .val (.bool false)
  | _ => .val undef
def kd11f (w : World) (a b c s p ngv q x r y u v mq uw uz : Int × Int) : Nat → Kd
  | 0 => .val (rtq p)
  | 1 => .val (.bool false)
  | 2 => .val (.bool false)
  | 3 => .val undef
  | 4 => .val undef
  | 5 => .val undef
  | 6 => .val (.bool false)
  | 7 => .val (.bool false)
  | 8 => .val undef
  | 9 => .val undef
  | 10 => .val undef
  | 11 => .val undef
  | 12 => .val undef
  | 13 => .val (.bool false)
  | _ => .val undef
def kd15 (w : World) (a b c s p ngv q x r y u v mq uw uz : Int × Int) : Nat → Kd
  | 0 => .val (rtq a)
  | 1 => .val (rtq b)
  | 2 => .val (rtq c)
  | 3 => .row #[.int .i64 b.1, .int .i64 b.2, .int .i64 c.1, .int .i64 c.2] 23 2
  | 4 => .val (rtq q)
  | 5 => .row #[.int .i64 a.1, .int .i64 a.2, .int .i64 q.1, .int .i64 q.2] 23 2
  | 6 => .val (rtq x)
  | 7 => .val (rtq a)
  | 8 => .val (rtq b)
  | 9 => .row #[.int .i64 a.1, .int .i64 a.2, .int .i64 b.1, .int .i64 b.2] 23 2
  | 10 => .val (rtq p)
  | 11 => .val (rtq a)
  | 12 => .val (rtq c)
  | 13 => .row #[.int .i64 a.1, .int .i64 a.2, .int .i64 c.1, .int .i64 c.2] 23 2
  | 14 => .val (rtq r)
  | 15 => .row #[.int .i64 p.1, .int .i64 p.2, .int .i64 r.1, .int .i64 r.2] 23 2
  | 16 => .val (rtq y)
  | 17 => .box 23
  | 18 => .box 23
  | 19 => .put 17 (.int .i64 x.1) (.int .i64 x.2)
  | 20 => .put 18 (.int .i64 y.1) (.int .i64 y.2)
  | _ => .val undef
def kd16 (w : World) (a b c s p ngv q x r y u v mq uw uz : Int × Int) : Nat → Kd
  | 0 => .val (rtq s)
  | 1 => .val (rtq c)
  | 2 => .row #[.int .i64 s.1, .int .i64 s.2, .int .i64 c.1, .int .i64 c.2] 23 2
  | 3 => .val (rtq u)
  | 4 => .val (rtq a)
  | 5 => .val (rtq b)
  | 6 => .val (rtq c)
  | 7 => .row #[.int .i64 b.1, .int .i64 b.2, .int .i64 c.1, .int .i64 c.2] 23 2
  | 8 => .val (rtq q)
  | 9 => .row #[.int .i64 a.1, .int .i64 a.2, .int .i64 q.1, .int .i64 q.2] 23 2
  | 10 => .val (rtq v)
  | 11 => .box 23
  | 12 => .box 23
  | 13 => .put 11 (.int .i64 u.1) (.int .i64 u.2)
  | 14 => .put 12 (.int .i64 v.1) (.int .i64 v.2)
  | _ => .val undef
def kd17 (w : World) (a b c s p ngv q x r y u v mq uw uz : Int × Int) : Nat → Kd
  | 0 => .val (rtq p)
  | 1 => .val (rtq c)
  | 2 => .row #[.int .i64 p.1, .int .i64 p.2, .int .i64 c.1, .int .i64 c.2] 23 2
  | 3 => .val (rtq uw)
  | 4 => .val (rtq a)
  | 5 => .val (rtq b)
  | 6 => .val (rtq c)
  | 7 => .row #[.int .i64 b.1, .int .i64 b.2, .int .i64 c.1, .int .i64 c.2] 23 2
  | 8 => .val (rtq mq)
  | 9 => .row #[.int .i64 a.1, .int .i64 a.2, .int .i64 mq.1, .int .i64 mq.2] 23 2
  | 10 => .val (rtq uz)
  | 11 => .box 23
  | 12 => .box 23
  | 13 => .put 11 (.int .i64 uw.1) (.int .i64 uw.2)
  | 14 => .put 12 (.int .i64 uz.1) (.int .i64 uz.2)
  | _ => .val undef
def kd18 (w : World) (a b c s p ngv q x r y u v mq uw uz : Int × Int) (bX bY bU bV bW bZ : Bool) : Nat → Kd
  | 0 => .val (rtq x)
  | 1 => .val (.bool bX)
  | 2 => .val (.bool (!bX))
  | 3 => .val (.bool (!bX))
  | 4 => .val (cond bX (rtq y) undef)
  | 5 => .val (cond bX (.bool bY) undef)
  | 6 => .val (cond bX (.bool (!bY)) undef)
  | 7 => .val (.bool (!bX || !bY))
  | 8 => .val (.bool (!bX || !bY))
  | 9 => .val (cond bX (cond bY (rtq x) undef) undef)
  | 10 => .val (cond bX (cond bY (rtq y) undef) undef)
  | 11 => .val (cond bX (cond bY (.bool true) undef) undef)
  | 12 => .val (.bool true)
  | 13 => .val (.bool true)
  | 14 => .val (rtq u)
  | 15 => .val (.bool bU)
  | 16 => .val (.bool (!bU))
  | 17 => .val (.bool (!bU))
  | 18 => .val (cond bU (rtq v) undef)
  | 19 => .val (cond bU (.bool bV) undef)
  | 20 => .val (cond bU (.bool (!bV)) undef)
  | 21 => .val (.bool (!bU || !bV))
  | 22 => .val (.bool (!bU || !bV))
  | 23 => .val (cond bU (cond bV (rtq u) undef) undef)
  | 24 => .val (cond bU (cond bV (rtq v) undef) undef)
  | 25 => .val (cond bU (cond bV (.bool true) undef) undef)
  | 26 => .val (.bool true)
  | 27 => .val (.bool true)
  | 28 => .val (.bool true)
  | 29 => .val (rtq uw)
  | 30 => .val (.bool bW)
  | 31 => .val (.bool (!bW))
  | 32 => .val (.bool (!bW))
  | 33 => .val (cond bW (rtq uz) undef)
  | 34 => .val (cond bW (.bool bZ) undef)
  | 35 => .val (cond bW (.bool (!bZ)) undef)
  | 36 => .val (.bool (!bW || !bZ))
  | 37 => .val (.bool (!bW || !bZ))
  | 38 => .val (cond bW (cond bZ (rtq uw) undef) undef)
  | 39 => .val (cond bW (cond bZ (rtq uz) undef) undef)
  | 40 => .val (cond bW (cond bZ (.bool true) undef) undef)
  | 41 => .val (.bool true)
  | 42 => .val (.bool true)
  | 43 => .val (.bool true)
  | _ => .val undef
set_option maxRecDepth 100000 in
set_option maxHeartbeats 80000000 in
theorem field_all (a b c : Int × Int) (w : World) (ja : J a) (jb : J b) (jc : J c) (va : V a) (vb : V b) (vc : V c) (hg0 : Bx w 0 (0, 1)) :
    Calls Tryd.prog 3 #[.agg #[.int .i64 a.1, .int .i64 a.2], .agg #[.int .i64 b.1, .int .i64 b.2], .agg #[.int .i64 c.1, .int .i64 c.2]] w fun x w' => x = .returned (.bool true) ∧ Up w w' := by
  have st := S3.start w a.1 a.2 b.1 b.2 c.1 c.2
  obtain ⟨s, hs2⟩ : ∃ s, ad a b = s := ⟨_, rfl⟩
  obtain ⟨p, hp2⟩ : ∃ p, ml a b = p := ⟨_, rfl⟩
  obtain ⟨ngv, hn2⟩ : ∃ z, ngp a = z := ⟨_, rfl⟩
  obtain ⟨q, hq2⟩ : ∃ z, ad b c = z := ⟨_, rfl⟩
  obtain ⟨x, hx2⟩ : ∃ z, ml a q = z := ⟨_, rfl⟩
  obtain ⟨r, hr2⟩ : ∃ z, ml a c = z := ⟨_, rfl⟩
  obtain ⟨y, hy2⟩ : ∃ z, ad p r = z := ⟨_, rfl⟩
  obtain ⟨u, hu2⟩ : ∃ z, ad s c = z := ⟨_, rfl⟩
  obtain ⟨v, hv2⟩ : ∃ z, ad a q = z := ⟨_, rfl⟩
  obtain ⟨mq, hm2⟩ : ∃ z, ml b c = z := ⟨_, rfl⟩
  obtain ⟨uw, hw2⟩ : ∃ z, ml p c = z := ⟨_, rfl⟩
  obtain ⟨uz, hz2⟩ : ∃ z, ml a mq = z := ⟨_, rfl⟩
  have js : J s := hs2 ▸ J_ad _ _
  have jp : J p := hp2 ▸ J_ml _ _
  have jn : J ngv := hn2 ▸ ja.ng
  have jq : J q := hq2 ▸ J_ad _ _
  have jx : J x := hx2 ▸ J_ml _ _
  have jr : J r := hr2 ▸ J_ml _ _
  have jy : J y := hy2 ▸ J_ad _ _
  have ju : J u := hu2 ▸ J_ad _ _
  have jv : J v := hv2 ▸ J_ad _ _
  have jm : J mq := hm2 ▸ J_ml _ _
  have jw : J uw := hw2 ▸ J_ml _ _
  have jz : J uz := hz2 ▸ J_ml _ _
  have ga := good_V ja va
  have gb := good_V jb vb
  have gs : Good s := hs2 ▸ good_ad _ _
  have gp : Good p := hp2 ▸ good_ml _ _
  have CS := addC ja jb ((addAll_may ga).trans hs2)
  have CS2 := addC jb ja ((addAll_may gb).trans ((add_comm' vb va).trans hs2))
  have CP := mulC ja jb ((mulAll_may ga).trans hp2)
  have CP2 := mulC jb ja ((mulAll_may gb).trans ((mul_comm' vb va).trans hp2))
  have CN := negC ja hn2
  have CN2 := negC jn (hn2 ▸ neg_neg' ja va)
  have CZ := addC ja jn ((addAll_may ga).trans (hn2 ▸ add_neg' ja va))
  have CQ := addC jb jc ((addAll_may gb).trans hq2)
  have CX := mulC ja jq ((mulAll_may ga).trans hx2)
  have CR := mulC ja jc ((mulAll_may ga).trans hr2)
  have CY := addC jp jr ((addAll_may gp).trans hy2)
  have CU := addC js jc ((addAll_may gs).trans hu2)
  have CV := addC ja jq ((addAll_may ga).trans hv2)
  have CM := mulC jb jc ((mulAll_may gb).trans hm2)
  have CW := mulC jp jc ((mulAll_may gp).trans hw2)
  have CT := mulC ja jm ((mulAll_may ga).trans hz2)
  obtain ⟨bX, hbX⟩ : ∃ t, isV x.1 x.2 = t := ⟨_, rfl⟩
  obtain ⟨bY, hbY⟩ : ∃ t, isV y.1 y.2 = t := ⟨_, rfl⟩
  obtain ⟨bU, hbU⟩ : ∃ t, isV u.1 u.2 = t := ⟨_, rfl⟩
  obtain ⟨bV, hbV⟩ : ∃ t, isV v.1 v.2 = t := ⟨_, rfl⟩
  obtain ⟨bW, hbW⟩ : ∃ t, isV uw.1 uw.2 = t := ⟨_, rfl⟩
  obtain ⟨bZ, hbZ⟩ : ∃ t, isV uz.1 uz.2 = t := ⟨_, rfl⟩
  have IX := isC jx hbX
  have IY := isC jy hbY
  have IU := isC ju hbU
  have IV := isC jv hbV
  have IW := isC jw hbW
  have IZ := isC jz hbZ
  have exy : bX = true → bY = true → x = y := by
    intro h1 h2
    subst hx2 hy2 hq2 hr2 hp2
    exact dist' (hbX.trans h1) (hbY.trans h2)
  have euv : bU = true → bV = true → u = v := by
    intro h1 h2
    subst hu2 hv2 hs2 hq2
    exact add_assoc' (hbU.trans h1) (hbV.trans h2)
  have ewz : bW = true → bZ = true → uw = uz := by
    intro h1 h2
    subst hw2 hz2 hp2 hm2
    exact mul_assoc' (hbW.trans h1) (hbZ.trans h2)
  clear hbX hbY hbU hbV hbW hbZ
  have va' : isV a.1 a.2 = true := va
  have vb' : isV b.1 b.2 = true := vb
  have vc' : isV c.1 c.2 = true := vc
  go_enter Tryd.func3, Tryd.ntmps3
  go_upto_region 5 with (first
      | (go_at_call 4; refine (awake_any _).mono ?_; rintro _ wa ⟨rfl, ha⟩; replace st := st.up ha; obtain ⟨t0, t1, t2, t3, t4, t5, t6, t7⟩ := id st; clear t0 ha)
      | (go_at_call 5; refine (isL_any _ _ _ (by first | exact ja.1 | exact jb.1 | exact jc.1) (by first | exact ja.2 | exact jb.2 | exact jc.2)).mono ?_; rintro _ wx ⟨rfl, hc⟩; replace st := st.up hc; clear t1 t2 t3 t4 t5 t6 t7 hc; obtain ⟨t0, t1, t2, t3, t4, t5, t6, t7⟩ := id st; clear t0; simp only [va', vb', vc']))
  have ua := st.1
  have ha : Bx wx w.heap.size a := ⟨by omega, t2, t3⟩
  have hb : Bx wx (w.heap.size + 1) b := ⟨by omega, t4, t5⟩
  have hc : Bx wx (w.heap.size + 1 + 1) c := ⟨by omega, t6, t7⟩
  have hg := hg0.up ua
  clear st t1 t2 t3 t4 t5 t6 t7 hg0
  refine wp_region_kdQ (by kernel_rfl) (kd5 w a b c s p ngv q x r y u v mq uw uz) (Stat.of (by kernel_rfl)) (acy_of (by kernel_rfl)) ?_ ?_
  · as_aux_lemma =>
      intro Q' i o ho blk listed a wx I hd
      have hi : i < 36 := (Array.getElem?_eq_some_iff.1 ho).1
      have ha' := ha.up I.up
      have hb' := hb.up I.up
      have hc' := hc.up I.up
      have hg' := hg.up I.up
      rcases (show i = 0 ∨ i = 1 ∨ i = 2 ∨ i = 3 ∨ i = 4 ∨ i = 5 ∨ i = 6 ∨ i = 7 ∨ i = 8 ∨ i = 9 ∨ i = 10 ∨ i = 11 ∨ i = 12 ∨ i = 13 ∨ i = 14 ∨ i = 15 ∨ i = 16 ∨ i = 17 ∨ i = 18 ∨ i = 19 ∨ i = 20 ∨ i = 21 ∨ i = 22 ∨ i = 23 ∨ i = 24 ∨ i = 25 ∨ i = 26 ∨ i = 27 ∨ i = 28 ∨ i = 29 ∨ i = 30 ∨ i = 31 ∨ i = 32 ∨ i = 33 ∨ i = 34 ∨ i = 35 by omega) with rfl | rfl | rfl | rfl | rfl | rfl | rfl | rfl | rfl | rfl | rfl | rfl | rfl | rfl | rfl | rfl | rfl | rfl | rfl | rfl | rfl | rfl | rfl | rfl | rfl | rfl | rfl | rfl | rfl | rfl | rfl | rfl | rfl | rfl | rfl | rfl
      · obtain rfl := Option.some.inj ho
        exact wpOp_valW rfl (wn rfl) (run_ld rfl (show a.tmps.getD 3 undef = _ from (I.oth_at (by kernel_rfl)).trans rfl) ha'.2.1 ha'.2.2) (show _ ∧ _ from ⟨rfl, Up.refl _⟩)
      · obtain rfl := Option.some.inj ho
        exact wpOp_valW rfl (wn rfl) (run_ld rfl (show a.tmps.getD 4 undef = _ from (I.oth_at (by kernel_rfl)).trans rfl) hb'.2.1 hb'.2.2) (show _ ∧ _ from ⟨rfl, Up.refl _⟩)
      · obtain rfl := Option.some.inj ho
        exact wpOp_valW rfl (wn rfl) (run_bs2 rfl (I.val_at (i := 0) (by decide) (hd ⟨0, .data⟩ (by simp) rfl) (.inl rfl) rfl) (I.val_at (i := 1) (by decide) (hd ⟨1, .data⟩ (by simp) rfl) (.inl rfl) rfl)) (show _ ∧ _ from ⟨rfl, rfl⟩)
      · obtain rfl := Option.some.inj ho
        obtain ⟨r1, r2⟩ := I.row_at (i := 2) (by decide) (hd ⟨2, .data⟩ (by simp) rfl) rfl rfl
        refine wpOp_callW rfl (wn rfl) (run_cl1 rfl rfl (fun v => enters_of Tryd.func6 (by kernel_rfl) rfl #[v] wx)) ?_
        refine (show Calls Tryd.prog 6 #[a.tmps.getD _ undef] wx _ from ?_)
        rw [r1]
        exact (CS wx _ (row2h r2)).mono (by rintro e w' ⟨rfl, hu⟩; exact ⟨_, rfl, (show _ ∧ _ from ⟨rfl, hu⟩)⟩)
      · obtain rfl := Option.some.inj ho
        exact wpOp_valW rfl (wn rfl) (run_ld rfl (show a.tmps.getD 4 undef = _ from (I.oth_at (by kernel_rfl)).trans rfl) hb'.2.1 hb'.2.2) (show _ ∧ _ from ⟨rfl, Up.refl _⟩)
      · obtain rfl := Option.some.inj ho
        exact wpOp_valW rfl (wn rfl) (run_ld rfl (show a.tmps.getD 3 undef = _ from (I.oth_at (by kernel_rfl)).trans rfl) ha'.2.1 ha'.2.2) (show _ ∧ _ from ⟨rfl, Up.refl _⟩)
      · obtain rfl := Option.some.inj ho
        exact wpOp_valW rfl (wn rfl) (run_bs2 rfl (I.val_at (i := 4) (by decide) (hd ⟨4, .data⟩ (by simp) rfl) (.inl rfl) rfl) (I.val_at (i := 5) (by decide) (hd ⟨5, .data⟩ (by simp) rfl) (.inl rfl) rfl)) (show _ ∧ _ from ⟨rfl, rfl⟩)
      · obtain rfl := Option.some.inj ho
        obtain ⟨r1, r2⟩ := I.row_at (i := 6) (by decide) (hd ⟨6, .data⟩ (by simp) rfl) rfl rfl
        refine wpOp_callW rfl (wn rfl) (run_cl1 rfl rfl (fun v => enters_of Tryd.func6 (by kernel_rfl) rfl #[v] wx)) ?_
        refine (show Calls Tryd.prog 6 #[a.tmps.getD _ undef] wx _ from ?_)
        rw [r1]
        exact (CS2 wx _ (row2h r2)).mono (by rintro e w' ⟨rfl, hu⟩; exact ⟨_, rfl, (show _ ∧ _ from ⟨rfl, hu⟩)⟩)
      · obtain rfl := Option.some.inj ho
        exact wpOp_valW rfl (wn rfl) (run_ne rfl (I.val_at (i := 3) (by decide) (hd ⟨3, .data⟩ (by simp) rfl) (.inl rfl) rfl) (I.val_at (i := 7) (by decide) (hd ⟨7, .data⟩ (by simp) rfl) (.inl rfl) rfl)) (show _ ∧ _ from ⟨rfl, Up.refl _⟩)
      · obtain rfl := Option.some.inj ho
        exact wpOp_valW rfl (wn rfl) (run_mv rfl (I.val_at (i := 8) (by decide) (hd ⟨8, .data⟩ (by simp) rfl) (.inl rfl) rfl)) (show _ ∧ _ from ⟨rfl, Up.refl _⟩)
      · obtain rfl := Option.some.inj ho
        exact wpOp_valW rfl (wgT (c := false) rfl rfl (I.val_at (i := 9) (by decide) (hd ⟨9, .guard⟩ (by simp) rfl) (.inl rfl) rfl) rfl) (run_ld rfl (show a.tmps.getD 3 undef = _ from (I.oth_at (by kernel_rfl)).trans rfl) ha'.2.1 ha'.2.2) (show _ ∧ _ from ⟨rfl, Up.refl _⟩)
      · obtain rfl := Option.some.inj ho
        exact wpOp_valW rfl (wgT (c := false) rfl rfl (I.val_at (i := 9) (by decide) (hd ⟨9, .guard⟩ (by simp) rfl) (.inl rfl) rfl) rfl) (run_ld rfl (show a.tmps.getD 4 undef = _ from (I.oth_at (by kernel_rfl)).trans rfl) hb'.2.1 hb'.2.2) (show _ ∧ _ from ⟨rfl, Up.refl _⟩)
      · obtain rfl := Option.some.inj ho
        exact wpOp_valW rfl (wgT (c := false) rfl rfl (I.val_at (i := 9) (by decide) (hd ⟨9, .guard⟩ (by simp) rfl) (.inl rfl) rfl) rfl) (run_bs2 rfl (I.val_at (i := 10) (by decide) (hd ⟨10, .data⟩ (by simp) rfl) (.inl rfl) rfl) (I.val_at (i := 11) (by decide) (hd ⟨11, .data⟩ (by simp) rfl) (.inl rfl) rfl)) (show _ ∧ _ from ⟨rfl, rfl⟩)
      · obtain rfl := Option.some.inj ho
        obtain ⟨r1, r2⟩ := I.row_at (i := 12) (by decide) (hd ⟨12, .data⟩ (by simp) rfl) rfl rfl
        refine wpOp_callW rfl (wgT (c := false) rfl rfl (I.val_at (i := 9) (by decide) (hd ⟨9, .guard⟩ (by simp) rfl) (.inl rfl) rfl) rfl) (run_cl1 rfl rfl (fun v => enters_of Tryd.func7 (by kernel_rfl) rfl #[v] wx)) ?_
        refine (show Calls Tryd.prog 7 #[a.tmps.getD _ undef] wx _ from ?_)
        rw [r1]
        exact (CP wx _ (row2h r2)).mono (by rintro e w' ⟨rfl, hu⟩; exact ⟨_, rfl, (show _ ∧ _ from ⟨rfl, hu⟩)⟩)
      · obtain rfl := Option.some.inj ho
        exact wpOp_valW rfl (wgT (c := false) rfl rfl (I.val_at (i := 9) (by decide) (hd ⟨9, .guard⟩ (by simp) rfl) (.inl rfl) rfl) rfl) (run_ld rfl (show a.tmps.getD 4 undef = _ from (I.oth_at (by kernel_rfl)).trans rfl) hb'.2.1 hb'.2.2) (show _ ∧ _ from ⟨rfl, Up.refl _⟩)
      · obtain rfl := Option.some.inj ho
        exact wpOp_valW rfl (wgT (c := false) rfl rfl (I.val_at (i := 9) (by decide) (hd ⟨9, .guard⟩ (by simp) rfl) (.inl rfl) rfl) rfl) (run_ld rfl (show a.tmps.getD 3 undef = _ from (I.oth_at (by kernel_rfl)).trans rfl) ha'.2.1 ha'.2.2) (show _ ∧ _ from ⟨rfl, Up.refl _⟩)
      · obtain rfl := Option.some.inj ho
        exact wpOp_valW rfl (wgT (c := false) rfl rfl (I.val_at (i := 9) (by decide) (hd ⟨9, .guard⟩ (by simp) rfl) (.inl rfl) rfl) rfl) (run_bs2 rfl (I.val_at (i := 14) (by decide) (hd ⟨14, .data⟩ (by simp) rfl) (.inl rfl) rfl) (I.val_at (i := 15) (by decide) (hd ⟨15, .data⟩ (by simp) rfl) (.inl rfl) rfl)) (show _ ∧ _ from ⟨rfl, rfl⟩)
      · obtain rfl := Option.some.inj ho
        obtain ⟨r1, r2⟩ := I.row_at (i := 16) (by decide) (hd ⟨16, .data⟩ (by simp) rfl) rfl rfl
        refine wpOp_callW rfl (wgT (c := false) rfl rfl (I.val_at (i := 9) (by decide) (hd ⟨9, .guard⟩ (by simp) rfl) (.inl rfl) rfl) rfl) (run_cl1 rfl rfl (fun v => enters_of Tryd.func7 (by kernel_rfl) rfl #[v] wx)) ?_
        refine (show Calls Tryd.prog 7 #[a.tmps.getD _ undef] wx _ from ?_)
        rw [r1]
        exact (CP2 wx _ (row2h r2)).mono (by rintro e w' ⟨rfl, hu⟩; exact ⟨_, rfl, (show _ ∧ _ from ⟨rfl, hu⟩)⟩)
      · obtain rfl := Option.some.inj ho
        exact wpOp_valW rfl (wgT (c := false) rfl rfl (I.val_at (i := 9) (by decide) (hd ⟨9, .guard⟩ (by simp) rfl) (.inl rfl) rfl) rfl) (run_ne rfl (I.val_at (i := 13) (by decide) (hd ⟨13, .data⟩ (by simp) rfl) (.inl rfl) rfl) (I.val_at (i := 17) (by decide) (hd ⟨17, .data⟩ (by simp) rfl) (.inl rfl) rfl)) (show _ ∧ _ from ⟨rfl, Up.refl _⟩)
      · obtain rfl := Option.some.inj ho
        exact wpOp_valW rfl (wn rfl) (run_pickF rfl (I.val_at (i := 9) (by decide) (hd ⟨9, .data⟩ (by simp) rfl) (.inl rfl) rfl) (I.val_at (i := 18) (by decide) (hd ⟨18, .data⟩ (by simp) rfl) (.inl rfl) rfl)) (show _ ∧ _ from ⟨rfl, Up.refl _⟩)
      · obtain rfl := Option.some.inj ho
        exact wpOp_valW rfl (wn rfl) (run_mv rfl (I.val_at (i := 19) (by decide) (hd ⟨19, .data⟩ (by simp) rfl) (.inl rfl) rfl)) (show _ ∧ _ from ⟨rfl, Up.refl _⟩)
      · obtain rfl := Option.some.inj ho
        exact wpOp_valW rfl (wgT (c := false) rfl rfl (I.val_at (i := 20) (by decide) (hd ⟨20, .guard⟩ (by simp) rfl) (.inl rfl) rfl) rfl) (run_ld rfl (show a.tmps.getD 3 undef = _ from (I.oth_at (by kernel_rfl)).trans rfl) ha'.2.1 ha'.2.2) (show _ ∧ _ from ⟨rfl, Up.refl _⟩)
      · obtain rfl := Option.some.inj ho
        exact wpOp_valW rfl (wgT (c := false) rfl rfl (I.val_at (i := 20) (by decide) (hd ⟨20, .guard⟩ (by simp) rfl) (.inl rfl) rfl) rfl) (run_ld rfl (show a.tmps.getD 3 undef = _ from (I.oth_at (by kernel_rfl)).trans rfl) ha'.2.1 ha'.2.2) (show _ ∧ _ from ⟨rfl, Up.refl _⟩)
      · obtain rfl := Option.some.inj ho
        have v1 := (I.val_at (i := 22) (by decide) (hd ⟨22, .data⟩ (by simp) rfl) (.inl rfl) rfl)
        refine wpOp_callW rfl (wgT (c := false) rfl rfl (I.val_at (i := 20) (by decide) (hd ⟨20, .guard⟩ (by simp) rfl) (.inl rfl) rfl) rfl) (run_cl1 rfl rfl (fun v => enters_of Tryd.func8 (by kernel_rfl) rfl #[v] wx)) ?_
        refine (show Calls Tryd.prog 8 #[a.tmps.getD _ undef] wx _ from ?_)
        rw [v1]
        exact (CN wx).mono (by rintro e w' ⟨rfl, hu⟩; exact ⟨_, rfl, (show _ ∧ _ from ⟨rfl, hu⟩)⟩)
      · obtain rfl := Option.some.inj ho
        exact wpOp_valW rfl (wgT (c := false) rfl rfl (I.val_at (i := 20) (by decide) (hd ⟨20, .guard⟩ (by simp) rfl) (.inl rfl) rfl) rfl) (run_bs2 rfl (I.val_at (i := 21) (by decide) (hd ⟨21, .data⟩ (by simp) rfl) (.inl rfl) rfl) (I.val_at (i := 23) (by decide) (hd ⟨23, .data⟩ (by simp) rfl) (.inl rfl) rfl)) (show _ ∧ _ from ⟨rfl, rfl⟩)
      · obtain rfl := Option.some.inj ho
        obtain ⟨r1, r2⟩ := I.row_at (i := 24) (by decide) (hd ⟨24, .data⟩ (by simp) rfl) rfl rfl
        refine wpOp_callW rfl (wgT (c := false) rfl rfl (I.val_at (i := 20) (by decide) (hd ⟨20, .guard⟩ (by simp) rfl) (.inl rfl) rfl) rfl) (run_cl1 rfl rfl (fun v => enters_of Tryd.func6 (by kernel_rfl) rfl #[v] wx)) ?_
        refine (show Calls Tryd.prog 6 #[a.tmps.getD _ undef] wx _ from ?_)
        rw [r1]
        exact (CZ wx _ (row2h r2)).mono (by rintro e w' ⟨rfl, hu⟩; exact ⟨_, rfl, (show _ ∧ _ from ⟨rfl, hu⟩)⟩)
      · obtain rfl := Option.some.inj ho
        exact wpOp_valW rfl (wgT (c := false) rfl rfl (I.val_at (i := 20) (by decide) (hd ⟨20, .guard⟩ (by simp) rfl) (.inl rfl) rfl) rfl) (run_ld rfl rfl hg'.2.1 hg'.2.2) (show _ ∧ _ from ⟨rfl, Up.refl _⟩)
      · obtain rfl := Option.some.inj ho
        exact wpOp_valW rfl (wgT (c := false) rfl rfl (I.val_at (i := 20) (by decide) (hd ⟨20, .guard⟩ (by simp) rfl) (.inl rfl) rfl) rfl) (run_ne rfl (I.val_at (i := 25) (by decide) (hd ⟨25, .data⟩ (by simp) rfl) (.inl rfl) rfl) (I.val_at (i := 26) (by decide) (hd ⟨26, .data⟩ (by simp) rfl) (.inl rfl) rfl)) (show _ ∧ _ from ⟨rfl, Up.refl _⟩)
      · obtain rfl := Option.some.inj ho
        exact wpOp_valW rfl (wn rfl) (run_pickF rfl (I.val_at (i := 20) (by decide) (hd ⟨20, .data⟩ (by simp) rfl) (.inl rfl) rfl) (I.val_at (i := 27) (by decide) (hd ⟨27, .data⟩ (by simp) rfl) (.inl rfl) rfl)) (show _ ∧ _ from ⟨rfl, Up.refl _⟩)
      · obtain rfl := Option.some.inj ho
        exact wpOp_valW rfl (wn rfl) (run_mv rfl (I.val_at (i := 28) (by decide) (hd ⟨28, .data⟩ (by simp) rfl) (.inl rfl) rfl)) (show _ ∧ _ from ⟨rfl, Up.refl _⟩)
      · obtain rfl := Option.some.inj ho
        exact wpOp_valW rfl (wgT (c := false) rfl rfl (I.val_at (i := 29) (by decide) (hd ⟨29, .guard⟩ (by simp) rfl) (.inl rfl) rfl) rfl) (run_ld rfl (show a.tmps.getD 3 undef = _ from (I.oth_at (by kernel_rfl)).trans rfl) ha'.2.1 ha'.2.2) (show _ ∧ _ from ⟨rfl, Up.refl _⟩)
      · obtain rfl := Option.some.inj ho
        have v1 := (I.val_at (i := 30) (by decide) (hd ⟨30, .data⟩ (by simp) rfl) (.inl rfl) rfl)
        refine wpOp_callW rfl (wgT (c := false) rfl rfl (I.val_at (i := 29) (by decide) (hd ⟨29, .guard⟩ (by simp) rfl) (.inl rfl) rfl) rfl) (run_cl1 rfl rfl (fun v => enters_of Tryd.func8 (by kernel_rfl) rfl #[v] wx)) ?_
        refine (show Calls Tryd.prog 8 #[a.tmps.getD _ undef] wx _ from ?_)
        rw [v1]
        exact (CN wx).mono (by rintro e w' ⟨rfl, hu⟩; exact ⟨_, rfl, (show _ ∧ _ from ⟨rfl, hu⟩)⟩)
      · obtain rfl := Option.some.inj ho
        have v1 := (I.val_at (i := 31) (by decide) (hd ⟨31, .data⟩ (by simp) rfl) (.inl rfl) rfl)
        refine wpOp_callW rfl (wgT (c := false) rfl rfl (I.val_at (i := 29) (by decide) (hd ⟨29, .guard⟩ (by simp) rfl) (.inl rfl) rfl) rfl) (run_cl1 rfl rfl (fun v => enters_of Tryd.func8 (by kernel_rfl) rfl #[v] wx)) ?_
        refine (show Calls Tryd.prog 8 #[a.tmps.getD _ undef] wx _ from ?_)
        rw [v1]
        exact (CN2 wx).mono (by rintro e w' ⟨rfl, hu⟩; exact ⟨_, rfl, (show _ ∧ _ from ⟨rfl, hu⟩)⟩)
      · obtain rfl := Option.some.inj ho
        exact wpOp_valW rfl (wgT (c := false) rfl rfl (I.val_at (i := 29) (by decide) (hd ⟨29, .guard⟩ (by simp) rfl) (.inl rfl) rfl) rfl) (run_ld rfl (show a.tmps.getD 3 undef = _ from (I.oth_at (by kernel_rfl)).trans rfl) ha'.2.1 ha'.2.2) (show _ ∧ _ from ⟨rfl, Up.refl _⟩)
      · obtain rfl := Option.some.inj ho
        exact wpOp_valW rfl (wgT (c := false) rfl rfl (I.val_at (i := 29) (by decide) (hd ⟨29, .guard⟩ (by simp) rfl) (.inl rfl) rfl) rfl) (run_ne rfl (I.val_at (i := 32) (by decide) (hd ⟨32, .data⟩ (by simp) rfl) (.inl rfl) rfl) (I.val_at (i := 33) (by decide) (hd ⟨33, .data⟩ (by simp) rfl) (.inl rfl) rfl)) (show _ ∧ _ from ⟨rfl, Up.refl _⟩)
      · obtain rfl := Option.some.inj ho
        exact wpOp_valW rfl (wn rfl) (run_pickF rfl (I.val_at (i := 29) (by decide) (hd ⟨29, .data⟩ (by simp) rfl) (.inl rfl) rfl) (I.val_at (i := 34) (by decide) (hd ⟨34, .data⟩ (by simp) rfl) (.inl rfl) rfl)) (show _ ∧ _ from ⟨rfl, Up.refl _⟩)
  · intro blk listed a' wx I hall
    have fr := I.frameL [(45, (rtq a)), (46, (rtq b)), (47, (.slice (some ⟨blk 2, 0, none⟩) 2 2)), (48, (rtq s)), (49, (rtq b)), (50, (rtq a)), (51, (.slice (some ⟨blk 6, 0, none⟩) 2 2)), (52, (rtq s)), (53, (.bool false)), (54, (.bool false)), (55, (rtq a)), (56, (rtq b)), (57, (.slice (some ⟨blk 12, 0, none⟩) 2 2)), (58, (rtq p)), (59, (rtq b)), (60, (rtq a)), (61, (.slice (some ⟨blk 16, 0, none⟩) 2 2)), (62, (rtq p)), (63, (.bool false)), (64, (.bool false)), (65, (.bool false)), (66, (rtq a)), (67, (rtq a)), (68, (rtq ngv)), (69, (.slice (some ⟨blk 24, 0, none⟩) 2 2)), (70, (rtq (0, 1))), (71, (rtq (0, 1))), (72, (.bool false)), (73, (.bool false)), (74, (.bool false)), (75, (rtq a)), (76, (rtq ngv)), (77, (rtq a)), (78, (rtq a)), (79, (.bool false)), (80, (.bool false))] (by
      intro p hp
      simp only [List.mem_cons, List.not_mem_nil, or_false] at hp
      rcases hp with rfl | rfl | rfl | rfl | rfl | rfl | rfl | rfl | rfl | rfl | rfl | rfl | rfl | rfl | rfl | rfl | rfl | rfl | rfl | rfl | rfl | rfl | rfl | rfl | rfl | rfl | rfl | rfl | rfl | rfl | rfl | rfl | rfl | rfl | rfl | rfl
      · exact ⟨by simp, I.val_at (i := 0) (by decide) (hall _ (by decide)) (.inl rfl) rfl⟩
      · exact ⟨by simp, I.val_at (i := 1) (by decide) (hall _ (by decide)) (.inl rfl) rfl⟩
      · exact ⟨by simp, (I.row_at (i := 2) (by decide) (hall _ (by decide)) rfl rfl).1⟩
      · exact ⟨by simp, I.val_at (i := 3) (by decide) (hall _ (by decide)) (.inl rfl) rfl⟩
      · exact ⟨by simp, I.val_at (i := 4) (by decide) (hall _ (by decide)) (.inl rfl) rfl⟩
      · exact ⟨by simp, I.val_at (i := 5) (by decide) (hall _ (by decide)) (.inl rfl) rfl⟩
      · exact ⟨by simp, (I.row_at (i := 6) (by decide) (hall _ (by decide)) rfl rfl).1⟩
      · exact ⟨by simp, I.val_at (i := 7) (by decide) (hall _ (by decide)) (.inl rfl) rfl⟩
      · exact ⟨by simp, I.val_at (i := 8) (by decide) (hall _ (by decide)) (.inl rfl) rfl⟩
      · exact ⟨by simp, I.val_at (i := 9) (by decide) (hall _ (by decide)) (.inl rfl) rfl⟩
      · exact ⟨by simp, I.val_at (i := 10) (by decide) (hall _ (by decide)) (.inl rfl) rfl⟩
      · exact ⟨by simp, I.val_at (i := 11) (by decide) (hall _ (by decide)) (.inl rfl) rfl⟩
      · exact ⟨by simp, (I.row_at (i := 12) (by decide) (hall _ (by decide)) rfl rfl).1⟩
      · exact ⟨by simp, I.val_at (i := 13) (by decide) (hall _ (by decide)) (.inl rfl) rfl⟩
      · exact ⟨by simp, I.val_at (i := 14) (by decide) (hall _ (by decide)) (.inl rfl) rfl⟩
      · exact ⟨by simp, I.val_at (i := 15) (by decide) (hall _ (by decide)) (.inl rfl) rfl⟩
      · exact ⟨by simp, (I.row_at (i := 16) (by decide) (hall _ (by decide)) rfl rfl).1⟩
      · exact ⟨by simp, I.val_at (i := 17) (by decide) (hall _ (by decide)) (.inl rfl) rfl⟩
      · exact ⟨by simp, I.val_at (i := 18) (by decide) (hall _ (by decide)) (.inl rfl) rfl⟩
      · exact ⟨by simp, I.val_at (i := 19) (by decide) (hall _ (by decide)) (.inl rfl) rfl⟩
      · exact ⟨by simp, I.val_at (i := 20) (by decide) (hall _ (by decide)) (.inl rfl) rfl⟩
      · exact ⟨by simp, I.val_at (i := 21) (by decide) (hall _ (by decide)) (.inl rfl) rfl⟩
      · exact ⟨by simp, I.val_at (i := 22) (by decide) (hall _ (by decide)) (.inl rfl) rfl⟩
      · exact ⟨by simp, I.val_at (i := 23) (by decide) (hall _ (by decide)) (.inl rfl) rfl⟩
      · exact ⟨by simp, (I.row_at (i := 24) (by decide) (hall _ (by decide)) rfl rfl).1⟩
      · exact ⟨by simp, I.val_at (i := 25) (by decide) (hall _ (by decide)) (.inl rfl) rfl⟩
      · exact ⟨by simp, I.val_at (i := 26) (by decide) (hall _ (by decide)) (.inl rfl) rfl⟩
      · exact ⟨by simp, I.val_at (i := 27) (by decide) (hall _ (by decide)) (.inl rfl) rfl⟩
      · exact ⟨by simp, I.val_at (i := 28) (by decide) (hall _ (by decide)) (.inl rfl) rfl⟩
      · exact ⟨by simp, I.val_at (i := 29) (by decide) (hall _ (by decide)) (.inl rfl) rfl⟩
      · exact ⟨by simp, I.val_at (i := 30) (by decide) (hall _ (by decide)) (.inl rfl) rfl⟩
      · exact ⟨by simp, I.val_at (i := 31) (by decide) (hall _ (by decide)) (.inl rfl) rfl⟩
      · exact ⟨by simp, I.val_at (i := 32) (by decide) (hall _ (by decide)) (.inl rfl) rfl⟩
      · exact ⟨by simp, I.val_at (i := 33) (by decide) (hall _ (by decide)) (.inl rfl) rfl⟩
      · exact ⟨by simp, I.val_at (i := 34) (by decide) (hall _ (by decide)) (.inl rfl) rfl⟩
      · exact ⟨by simp, I.val_at (i := 35) (by decide) (hall _ (by decide)) (.inl rfl) rfl⟩) (by kernel_rfl)
    replace ha := ha.up I.up
    replace hb := hb.up I.up
    replace hc := hc.up I.up
    replace hg := hg.up I.up
    replace ua := ua.trans I.up
    clear I hall
    subst fr
    generalize blk 2 = k5_2 at *
    generalize blk 6 = k5_6 at *
    generalize blk 12 = k5_12 at *
    generalize blk 16 = k5_16 at *
    generalize blk 24 = k5_24 at *
    dsimp only [setsL, List.set_cons_zero, List.set_cons_succ, rtq]
    go_upto_region 7 with fail
    go_cut [7] from 204 (fun t wy => PtB t wx wy s)
    case first =>
      clear CS2 CP CP2 CN CN2 CZ CQ CX CR CY CU CV CM CW CT IX IY IU IV IW IZ exy euv ewz hs2 hp2 hn2 hq2 hx2 hr2 hy2 hu2 hv2 hm2 hw2 hz2 jn jq jx jr jy ju jv jm jw jz ga gb gs gp va' vb' vc'
      obtain ⟨_, a0, a1⟩ := id ha
      obtain ⟨_, b0, b1⟩ := id hb
      go_wp2_with (go_at_call 6; refine (CS _ _ (row_two _ _ _ _ _ _)).mono ?_; rintro _ wl ⟨rfl, hl⟩; simp only [rtq])
      go_meet
      exact ⟨_, rfl, ⟨by simp, by simp [go_sem], by simp [go_sem]⟩, (by repeat (first | exact Up.refl _ | apply Up.alloc | apply Up.drewN | apply Up.drew | (refine Up.setCell ?_ (by have := hl.size; simp at this ⊢; omega) _) | (refine Up.trans ?_ hl)))⟩
    case rest =>
      obtain ⟨k7, rfl, hs, ux⟩ := hcut
      replace ha := ha.up ux
      replace hb := hb.up ux
      replace hc := hc.up ux
      replace hg := hg.up ux
      replace ua := ua.trans ux
      clear ux
      go_upto_region 8 with fail
      go_cut [8] from 204 (fun t wy => PtB t wc wy p)
      case first =>
        clear CS CS2 CP2 CN CN2 CZ CQ CX CR CY CU CV CM CW CT IX IY IU IV IW IZ exy euv ewz hs2 hp2 hn2 hq2 hx2 hr2 hy2 hu2 hv2 hm2 hw2 hz2 jn jq jx jr jy ju jv jm jw jz ga gb gs gp va' vb' vc'
        obtain ⟨_, a0, a1⟩ := id ha
        obtain ⟨_, b0, b1⟩ := id hb
        go_wp2_with (go_at_call 7; refine (CP _ _ (row_two _ _ _ _ _ _)).mono ?_; rintro _ wl ⟨rfl, hl⟩; simp only [rtq])
        go_meet
        exact ⟨_, rfl, ⟨by simp, by simp [go_sem], by simp [go_sem]⟩, (by repeat (first | exact Up.refl _ | apply Up.alloc | apply Up.drewN | apply Up.drew | (refine Up.setCell ?_ (by have := hl.size; simp at this ⊢; omega) _) | (refine Up.trans ?_ hl)))⟩
      case rest =>
        obtain ⟨k8, rfl, hp, ux⟩ := hcut
        replace ha := ha.up ux
        replace hb := hb.up ux
        replace hc := hc.up ux
        replace hg := hg.up ux
        replace hs := hs.up ux
        replace ua := ua.trans ux
        clear ux
        go_upto_region 9 with fail
        go_cut [97] from 204 (fun t wy => t = .bool false ∧ Up wc wy)
        case first =>
          clear CS CS2 CP CP2 CN CN2 CZ CQ CX CR CY CU CV CM CW CT IX IY IU IV IW IZ exy euv ewz hp2 hn2 hq2 hx2 hr2 hy2 hu2 hv2 hm2 hw2 hz2 jn jq jx jr jy ju jv jm jw jz ga gb gs gp va' vb' vc'
          cases vs : isV s.1 s.2 with
          | false =>
            have IS := isC js vs
            have u0 := Up.refl wc
            refine wp_region_kdQ (by kernel_rfl) (kd9f w a b c s p ngv q x r y u v mq uw uz) (Stat.of (by kernel_rfl)) (acy_of (by kernel_rfl)) ?_ ?_
            · as_aux_lemma =>
                intro Q' i o ho blk listed a wx I hd
                have hi : i < 9 := (Array.getElem?_eq_some_iff.1 ho).1
                have ha' := ha.up I.up
                have hb' := hb.up I.up
                have hc' := hc.up I.up
                have hg' := hg.up I.up
                have hs' := hs.up I.up
                have hp' := hp.up I.up
                rcases (show i = 0 ∨ i = 1 ∨ i = 2 ∨ i = 3 ∨ i = 4 ∨ i = 5 ∨ i = 6 ∨ i = 7 ∨ i = 8 by omega) with rfl | rfl | rfl | rfl | rfl | rfl | rfl | rfl | rfl
                · obtain rfl := Option.some.inj ho
                  exact wpOp_valW rfl (wn rfl) (run_ld rfl (show a.tmps.getD 7 undef = _ from (I.oth_at (by kernel_rfl)).trans rfl) hs'.2.1 hs'.2.2) (show _ ∧ _ from ⟨rfl, Up.refl _⟩)
                · obtain rfl := Option.some.inj ho
                  have v1 := (I.val_at (i := 0) (by decide) (hd ⟨0, .data⟩ (by simp) rfl) (.inl rfl) rfl)
                  refine wpOp_callW rfl (wn rfl) (run_cl1 rfl rfl (fun v => enters_of Tryd.func5 (by kernel_rfl) rfl #[v] wx)) ?_
                  refine (show Calls Tryd.prog 5 #[a.tmps.getD _ undef] wx _ from ?_)
                  rw [v1]
                  exact (IS wx).mono (by rintro e w' ⟨rfl, hu⟩; exact ⟨_, rfl, (show _ ∧ _ from ⟨rfl, hu⟩)⟩)
                · obtain rfl := Option.some.inj ho
                  exact wpOp_valW rfl (wn rfl) (run_mv rfl (I.val_at (i := 1) (by decide) (hd ⟨1, .data⟩ (by simp) rfl) (.inl rfl) rfl)) (show _ ∧ _ from ⟨rfl, Up.refl _⟩)
                · obtain rfl := Option.some.inj ho
                  exact wpOp_notW rfl (wgF (c := false) rfl rfl (I.val_at (i := 2) (by decide) (hd ⟨2, .guard⟩ (by simp) rfl) (.inl rfl) rfl) rfl) (show _ ∧ _ from ⟨rfl, Up.refl _⟩)
                · obtain rfl := Option.some.inj ho
                  exact wpOp_notW rfl (wgF (c := false) rfl rfl (I.val_at (i := 2) (by decide) (hd ⟨2, .guard⟩ (by simp) rfl) (.inl rfl) rfl) rfl) (show _ ∧ _ from ⟨rfl, Up.refl _⟩)
                · obtain rfl := Option.some.inj ho
                  exact wpOp_notW rfl (wgF (c := false) rfl rfl (I.val_at (i := 2) (by decide) (hd ⟨2, .guard⟩ (by simp) rfl) (.inl rfl) rfl) rfl) (show _ ∧ _ from ⟨rfl, Up.refl _⟩)
                · obtain rfl := Option.some.inj ho
                  exact wpOp_notW rfl (wgF (c := false) rfl rfl (I.val_at (i := 2) (by decide) (hd ⟨2, .guard⟩ (by simp) rfl) (.inl rfl) rfl) rfl) (show _ ∧ _ from ⟨rfl, Up.refl _⟩)
                · obtain rfl := Option.some.inj ho
                  exact wpOp_notW rfl (wgF (c := false) rfl rfl (I.val_at (i := 2) (by decide) (hd ⟨2, .guard⟩ (by simp) rfl) (.inl rfl) rfl) rfl) (show _ ∧ _ from ⟨rfl, Up.refl _⟩)
                · obtain rfl := Option.some.inj ho
                  exact wpOp_valW rfl (wn rfl) (run_pickF rfl (I.val_at (i := 2) (by decide) (hd ⟨2, .data⟩ (by simp) rfl) (.inl rfl) rfl) rfl) (show _ ∧ _ from ⟨rfl, Up.refl _⟩)
            · intro blk listed a' wx I hall
              have fr := I.frameL [(89, (rtq s)), (90, (.bool false)), (91, (.bool false)), (92, undef), (93, undef), (94, undef), (95, undef), (96, undef), (97, (.bool false))] (by
                intro p hp
                simp only [List.mem_cons, List.not_mem_nil, or_false] at hp
                rcases hp with rfl | rfl | rfl | rfl | rfl | rfl | rfl | rfl | rfl
                · exact ⟨by simp, I.val_at (i := 0) (by decide) (hall _ (by decide)) (.inl rfl) rfl⟩
                · exact ⟨by simp, I.val_at (i := 1) (by decide) (hall _ (by decide)) (.inl rfl) rfl⟩
                · exact ⟨by simp, I.val_at (i := 2) (by decide) (hall _ (by decide)) (.inl rfl) rfl⟩
                · exact ⟨by simp, I.val_at (i := 3) (by decide) (hall _ (by decide)) (.inl rfl) rfl⟩
                · exact ⟨by simp, I.val_at (i := 4) (by decide) (hall _ (by decide)) (.inl rfl) rfl⟩
                · exact ⟨by simp, I.val_at (i := 5) (by decide) (hall _ (by decide)) (.inl rfl) rfl⟩
                · exact ⟨by simp, I.val_at (i := 6) (by decide) (hall _ (by decide)) (.inl rfl) rfl⟩
                · exact ⟨by simp, I.val_at (i := 7) (by decide) (hall _ (by decide)) (.inl rfl) rfl⟩
                · exact ⟨by simp, I.val_at (i := 8) (by decide) (hall _ (by decide)) (.inl rfl) rfl⟩) (by kernel_rfl)
              replace u0 := u0.trans I.up
              clear I hall
              subst fr
              dsimp only [setsL, List.set_cons_zero, List.set_cons_succ, rtq]
              go_wp2_with fail
              go_meet
              exact ⟨rfl, u0⟩
          | true =>
            have IS := isC js vs
            have CB := subC js jb (hs2 ▸ sub_back ja jb va vb (hs2 ▸ vs))
            have u0 := Up.refl wc
            refine wp_region_kdQ (by kernel_rfl) (kd9t w a b c s p ngv q x r y u v mq uw uz) (Stat.of (by kernel_rfl)) (acy_of (by kernel_rfl)) ?_ ?_
            · as_aux_lemma =>
                intro Q' i o ho blk listed a wx I hd
                have hi : i < 9 := (Array.getElem?_eq_some_iff.1 ho).1
                have ha' := ha.up I.up
                have hb' := hb.up I.up
                have hc' := hc.up I.up
                have hg' := hg.up I.up
                have hs' := hs.up I.up
                have hp' := hp.up I.up
                rcases (show i = 0 ∨ i = 1 ∨ i = 2 ∨ i = 3 ∨ i = 4 ∨ i = 5 ∨ i = 6 ∨ i = 7 ∨ i = 8 by omega) with rfl | rfl | rfl | rfl | rfl | rfl | rfl | rfl | rfl
                · obtain rfl := Option.some.inj ho
                  exact wpOp_valW rfl (wn rfl) (run_ld rfl (show a.tmps.getD 7 undef = _ from (I.oth_at (by kernel_rfl)).trans rfl) hs'.2.1 hs'.2.2) (show _ ∧ _ from ⟨rfl, Up.refl _⟩)
                · obtain rfl := Option.some.inj ho
                  have v1 := (I.val_at (i := 0) (by decide) (hd ⟨0, .data⟩ (by simp) rfl) (.inl rfl) rfl)
                  refine wpOp_callW rfl (wn rfl) (run_cl1 rfl rfl (fun v => enters_of Tryd.func5 (by kernel_rfl) rfl #[v] wx)) ?_
                  refine (show Calls Tryd.prog 5 #[a.tmps.getD _ undef] wx _ from ?_)
                  rw [v1]
                  exact (IS wx).mono (by rintro e w' ⟨rfl, hu⟩; exact ⟨_, rfl, (show _ ∧ _ from ⟨rfl, hu⟩)⟩)
                · obtain rfl := Option.some.inj ho
                  exact wpOp_valW rfl (wn rfl) (run_mv rfl (I.val_at (i := 1) (by decide) (hd ⟨1, .data⟩ (by simp) rfl) (.inl rfl) rfl)) (show _ ∧ _ from ⟨rfl, Up.refl _⟩)
                · obtain rfl := Option.some.inj ho
                  exact wpOp_valW rfl (wgT (c := true) rfl rfl (I.val_at (i := 2) (by decide) (hd ⟨2, .guard⟩ (by simp) rfl) (.inl rfl) rfl) rfl) (run_ld rfl (show a.tmps.getD 7 undef = _ from (I.oth_at (by kernel_rfl)).trans rfl) hs'.2.1 hs'.2.2) (show _ ∧ _ from ⟨rfl, Up.refl _⟩)
                · obtain rfl := Option.some.inj ho
                  exact wpOp_valW rfl (wgT (c := true) rfl rfl (I.val_at (i := 2) (by decide) (hd ⟨2, .guard⟩ (by simp) rfl) (.inl rfl) rfl) rfl) (run_ld rfl (show a.tmps.getD 4 undef = _ from (I.oth_at (by kernel_rfl)).trans rfl) hb'.2.1 hb'.2.2) (show _ ∧ _ from ⟨rfl, Up.refl _⟩)
                · obtain rfl := Option.some.inj ho
                  have v1 := (I.val_at (i := 3) (by decide) (hd ⟨3, .data⟩ (by simp) rfl) (.inl rfl) rfl)
                  have v2 := (I.val_at (i := 4) (by decide) (hd ⟨4, .data⟩ (by simp) rfl) (.inl rfl) rfl)
                  refine wpOp_callW rfl (wgT (c := true) rfl rfl (I.val_at (i := 2) (by decide) (hd ⟨2, .guard⟩ (by simp) rfl) (.inl rfl) rfl) rfl) (run_cl2 rfl rfl (fun v u => enters_of Tryd.func9 (by kernel_rfl) rfl #[v, u] wx)) ?_
                  refine (show Calls Tryd.prog 9 #[a.tmps.getD _ undef, a.tmps.getD _ undef] wx _ from ?_)
                  rw [v1, v2]
                  exact (CB wx).mono (by rintro e w' ⟨rfl, hu⟩; exact ⟨_, rfl, (show _ ∧ _ from ⟨rfl, hu⟩)⟩)
                · obtain rfl := Option.some.inj ho
                  exact wpOp_valW rfl (wgT (c := true) rfl rfl (I.val_at (i := 2) (by decide) (hd ⟨2, .guard⟩ (by simp) rfl) (.inl rfl) rfl) rfl) (run_ld rfl (show a.tmps.getD 3 undef = _ from (I.oth_at (by kernel_rfl)).trans rfl) ha'.2.1 ha'.2.2) (show _ ∧ _ from ⟨rfl, Up.refl _⟩)
                · obtain rfl := Option.some.inj ho
                  exact wpOp_valW rfl (wgT (c := true) rfl rfl (I.val_at (i := 2) (by decide) (hd ⟨2, .guard⟩ (by simp) rfl) (.inl rfl) rfl) rfl) (run_ne rfl (I.val_at (i := 5) (by decide) (hd ⟨5, .data⟩ (by simp) rfl) (.inl rfl) rfl) (I.val_at (i := 6) (by decide) (hd ⟨6, .data⟩ (by simp) rfl) (.inl rfl) rfl)) (show _ ∧ _ from ⟨rfl, Up.refl _⟩)
                · obtain rfl := Option.some.inj ho
                  exact wpOp_valW rfl (wn rfl) (run_pickT rfl (I.val_at (i := 2) (by decide) (hd ⟨2, .data⟩ (by simp) rfl) (.inl rfl) rfl) (I.val_at (i := 7) (by decide) (hd ⟨7, .data⟩ (by simp) rfl) (.inl rfl) rfl)) (show _ ∧ _ from ⟨rfl, Up.refl _⟩)
            · intro blk listed a' wx I hall
              have fr := I.frameL [(89, (rtq s)), (90, (.bool true)), (91, (.bool true)), (92, (rtq s)), (93, (rtq b)), (94, (rtq a)), (95, (rtq a)), (96, (.bool false)), (97, (.bool false))] (by
                intro p hp
                simp only [List.mem_cons, List.not_mem_nil, or_false] at hp
                rcases hp with rfl | rfl | rfl | rfl | rfl | rfl | rfl | rfl | rfl
                · exact ⟨by simp, I.val_at (i := 0) (by decide) (hall _ (by decide)) (.inl rfl) rfl⟩
                · exact ⟨by simp, I.val_at (i := 1) (by decide) (hall _ (by decide)) (.inl rfl) rfl⟩
                · exact ⟨by simp, I.val_at (i := 2) (by decide) (hall _ (by decide)) (.inl rfl) rfl⟩
                · exact ⟨by simp, I.val_at (i := 3) (by decide) (hall _ (by decide)) (.inl rfl) rfl⟩
                · exact ⟨by simp, I.val_at (i := 4) (by decide) (hall _ (by decide)) (.inl rfl) rfl⟩
                · exact ⟨by simp, I.val_at (i := 5) (by decide) (hall _ (by decide)) (.inl rfl) rfl⟩
                · exact ⟨by simp, I.val_at (i := 6) (by decide) (hall _ (by decide)) (.inl rfl) rfl⟩
                · exact ⟨by simp, I.val_at (i := 7) (by decide) (hall _ (by decide)) (.inl rfl) rfl⟩
                · exact ⟨by simp, I.val_at (i := 8) (by decide) (hall _ (by decide)) (.inl rfl) rfl⟩) (by kernel_rfl)
              replace u0 := u0.trans I.up
              clear I hall
              subst fr
              dsimp only [setsL, List.set_cons_zero, List.set_cons_succ, rtq]
              go_wp2_with fail
              go_meet
              exact ⟨rfl, u0⟩
        case rest =>
          obtain ⟨rfl, ux⟩ := hcut
          replace ha := ha.up ux
          replace hb := hb.up ux
          replace hc := hc.up ux
          replace hg := hg.up ux
          replace hs := hs.up ux
          replace hp := hp.up ux
          replace ua := ua.trans ux
          clear ux
          go_upto_region 11 with fail
          go_cut [111] from 204 (fun t wy => t = .bool false ∧ Up wc wy)
          case first =>
            clear CS CS2 CP CP2 CN CN2 CZ CQ CX CR CY CU CV CM CW CT IX IY IU IV IW IZ exy euv ewz hs2 hn2 hq2 hx2 hr2 hy2 hu2 hv2 hm2 hw2 hz2 jn jq jx jr jy ju jv jm jw jz ga gb gs gp va' vb' vc'
            cases vp : isV p.1 p.2 with
            | false =>
              have IP := isC jp vp
              have u0 := Up.refl wc
              refine wp_region_kdQ (by kernel_rfl) (kd11f w a b c s p ngv q x r y u v mq uw uz) (Stat.of (by kernel_rfl)) (acy_of (by kernel_rfl)) ?_ ?_
              · as_aux_lemma =>
                  intro Q' i o ho blk listed a wx I hd
                  have hi : i < 14 := (Array.getElem?_eq_some_iff.1 ho).1
                  have ha' := ha.up I.up
                  have hb' := hb.up I.up
                  have hc' := hc.up I.up
                  have hg' := hg.up I.up
                  have hs' := hs.up I.up
                  have hp' := hp.up I.up
                  rcases (show i = 0 ∨ i = 1 ∨ i = 2 ∨ i = 3 ∨ i = 4 ∨ i = 5 ∨ i = 6 ∨ i = 7 ∨ i = 8 ∨ i = 9 ∨ i = 10 ∨ i = 11 ∨ i = 12 ∨ i = 13 by omega) with rfl | rfl | rfl | rfl | rfl | rfl | rfl | rfl | rfl | rfl | rfl | rfl | rfl | rfl
                  · obtain rfl := Option.some.inj ho
                    exact wpOp_valW rfl (wn rfl) (run_ld rfl (show a.tmps.getD 8 undef = _ from (I.oth_at (by kernel_rfl)).trans rfl) hp'.2.1 hp'.2.2) (show _ ∧ _ from ⟨rfl, Up.refl _⟩)
                  · obtain rfl := Option.some.inj ho
                    have v1 := (I.val_at (i := 0) (by decide) (hd ⟨0, .data⟩ (by simp) rfl) (.inl rfl) rfl)
                    refine wpOp_callW rfl (wn rfl) (run_cl1 rfl rfl (fun v => enters_of Tryd.func5 (by kernel_rfl) rfl #[v] wx)) ?_
                    refine (show Calls Tryd.prog 5 #[a.tmps.getD _ undef] wx _ from ?_)
                    rw [v1]
                    exact (IP wx).mono (by rintro e w' ⟨rfl, hu⟩; exact ⟨_, rfl, (show _ ∧ _ from ⟨rfl, hu⟩)⟩)
                  · obtain rfl := Option.some.inj ho
                    exact wpOp_valW rfl (wn rfl) (run_mv rfl (I.val_at (i := 1) (by decide) (hd ⟨1, .data⟩ (by simp) rfl) (.inl rfl) rfl)) (show _ ∧ _ from ⟨rfl, Up.refl _⟩)
                  · obtain rfl := Option.some.inj ho
                    exact wpOp_notW rfl (wgF (c := false) rfl rfl (I.val_at (i := 2) (by decide) (hd ⟨2, .guard⟩ (by simp) rfl) (.inl rfl) rfl) rfl) (show _ ∧ _ from ⟨rfl, Up.refl _⟩)
                  · obtain rfl := Option.some.inj ho
                    exact wpOp_notW rfl (wgF (c := false) rfl rfl (I.val_at (i := 2) (by decide) (hd ⟨2, .guard⟩ (by simp) rfl) (.inl rfl) rfl) rfl) (show _ ∧ _ from ⟨rfl, Up.refl _⟩)
                  · obtain rfl := Option.some.inj ho
                    exact wpOp_notW rfl (wgF (c := false) rfl rfl (I.val_at (i := 2) (by decide) (hd ⟨2, .guard⟩ (by simp) rfl) (.inl rfl) rfl) rfl) (show _ ∧ _ from ⟨rfl, Up.refl _⟩)
                  · obtain rfl := Option.some.inj ho
                    exact wpOp_valW rfl (wn rfl) (run_pickF rfl (I.val_at (i := 2) (by decide) (hd ⟨2, .data⟩ (by simp) rfl) (.inl rfl) rfl) rfl) (show _ ∧ _ from ⟨rfl, Up.refl _⟩)
                  · obtain rfl := Option.some.inj ho
                    exact wpOp_valW rfl (wn rfl) (run_mv rfl (I.val_at (i := 6) (by decide) (hd ⟨6, .data⟩ (by simp) rfl) (.inl rfl) rfl)) (show _ ∧ _ from ⟨rfl, Up.refl _⟩)
                  · obtain rfl := Option.some.inj ho
                    exact wpOp_notW rfl (wgF (c := false) rfl rfl (I.val_at (i := 7) (by decide) (hd ⟨7, .guard⟩ (by simp) rfl) (.inl rfl) rfl) rfl) (show _ ∧ _ from ⟨rfl, Up.refl _⟩)
                  · obtain rfl := Option.some.inj ho
                    exact wpOp_notW rfl (wgF (c := false) rfl rfl (I.val_at (i := 7) (by decide) (hd ⟨7, .guard⟩ (by simp) rfl) (.inl rfl) rfl) rfl) (show _ ∧ _ from ⟨rfl, Up.refl _⟩)
                  · obtain rfl := Option.some.inj ho
                    exact wpOp_notW rfl (wgF (c := false) rfl rfl (I.val_at (i := 7) (by decide) (hd ⟨7, .guard⟩ (by simp) rfl) (.inl rfl) rfl) rfl) (show _ ∧ _ from ⟨rfl, Up.refl _⟩)
                  · obtain rfl := Option.some.inj ho
                    exact wpOp_notW rfl (wgF (c := false) rfl rfl (I.val_at (i := 7) (by decide) (hd ⟨7, .guard⟩ (by simp) rfl) (.inl rfl) rfl) rfl) (show _ ∧ _ from ⟨rfl, Up.refl _⟩)
                  · obtain rfl := Option.some.inj ho
                    exact wpOp_notW rfl (wgF (c := false) rfl rfl (I.val_at (i := 7) (by decide) (hd ⟨7, .guard⟩ (by simp) rfl) (.inl rfl) rfl) rfl) (show _ ∧ _ from ⟨rfl, Up.refl _⟩)
                  · obtain rfl := Option.some.inj ho
                    exact wpOp_valW rfl (wn rfl) (run_pickF rfl (I.val_at (i := 7) (by decide) (hd ⟨7, .data⟩ (by simp) rfl) (.inl rfl) rfl) rfl) (show _ ∧ _ from ⟨rfl, Up.refl _⟩)
              · intro blk listed a' wx I hall
                have fr := I.frameL [(98, (rtq p)), (99, (.bool false)), (100, (.bool false)), (101, undef), (102, undef), (103, undef), (104, (.bool false)), (105, (.bool false)), (106, undef), (107, undef), (108, undef), (109, undef), (110, undef), (111, (.bool false))] (by
                  intro p hp
                  simp only [List.mem_cons, List.not_mem_nil, or_false] at hp
                  rcases hp with rfl | rfl | rfl | rfl | rfl | rfl | rfl | rfl | rfl | rfl | rfl | rfl | rfl | rfl
                  · exact ⟨by simp, I.val_at (i := 0) (by decide) (hall _ (by decide)) (.inl rfl) rfl⟩
                  · exact ⟨by simp, I.val_at (i := 1) (by decide) (hall _ (by decide)) (.inl rfl) rfl⟩
                  · exact ⟨by simp, I.val_at (i := 2) (by decide) (hall _ (by decide)) (.inl rfl) rfl⟩
                  · exact ⟨by simp, I.val_at (i := 3) (by decide) (hall _ (by decide)) (.inl rfl) rfl⟩
                  · exact ⟨by simp, I.val_at (i := 4) (by decide) (hall _ (by decide)) (.inl rfl) rfl⟩
                  · exact ⟨by simp, I.val_at (i := 5) (by decide) (hall _ (by decide)) (.inl rfl) rfl⟩
                  · exact ⟨by simp, I.val_at (i := 6) (by decide) (hall _ (by decide)) (.inl rfl) rfl⟩
                  · exact ⟨by simp, I.val_at (i := 7) (by decide) (hall _ (by decide)) (.inl rfl) rfl⟩
                  · exact ⟨by simp, I.val_at (i := 8) (by decide) (hall _ (by decide)) (.inl rfl) rfl⟩
                  · exact ⟨by simp, I.val_at (i := 9) (by decide) (hall _ (by decide)) (.inl rfl) rfl⟩
                  · exact ⟨by simp, I.val_at (i := 10) (by decide) (hall _ (by decide)) (.inl rfl) rfl⟩
                  · exact ⟨by simp, I.val_at (i := 11) (by decide) (hall _ (by decide)) (.inl rfl) rfl⟩
                  · exact ⟨by simp, I.val_at (i := 12) (by decide) (hall _ (by decide)) (.inl rfl) rfl⟩
                  · exact ⟨by simp, I.val_at (i := 13) (by decide) (hall _ (by decide)) (.inl rfl) rfl⟩) (by kernel_rfl)
                replace u0 := u0.trans I.up
                clear I hall
                subst fr
                dsimp only [setsL, List.set_cons_zero, List.set_cons_succ, rtq]
                go_wp2_with fail
                go_meet
                exact ⟨rfl, u0⟩
            | true =>
              have IP := isC jp vp
              cases hbz : (b.1 != 0) with
              | false =>
                have u0 := Up.refl wc
                refine wp_region_kdQ (by kernel_rfl) (kd11z w a b c s p ngv q x r y u v mq uw uz) (Stat.of (by kernel_rfl)) (acy_of (by kernel_rfl)) ?_ ?_
                · as_aux_lemma =>
                    intro Q' i o ho blk listed a wx I hd
                    have hi : i < 14 := (Array.getElem?_eq_some_iff.1 ho).1
                    have ha' := ha.up I.up
                    have hb' := hb.up I.up
                    have hc' := hc.up I.up
                    have hg' := hg.up I.up
                    have hs' := hs.up I.up
                    have hp' := hp.up I.up
                    rcases (show i = 0 ∨ i = 1 ∨ i = 2 ∨ i = 3 ∨ i = 4 ∨ i = 5 ∨ i = 6 ∨ i = 7 ∨ i = 8 ∨ i = 9 ∨ i = 10 ∨ i = 11 ∨ i = 12 ∨ i = 13 by omega) with rfl | rfl | rfl | rfl | rfl | rfl | rfl | rfl | rfl | rfl | rfl | rfl | rfl | rfl
                    · obtain rfl := Option.some.inj ho
                      exact wpOp_valW rfl (wn rfl) (run_ld rfl (show a.tmps.getD 8 undef = _ from (I.oth_at (by kernel_rfl)).trans rfl) hp'.2.1 hp'.2.2) (show _ ∧ _ from ⟨rfl, Up.refl _⟩)
                    · obtain rfl := Option.some.inj ho
                      have v1 := (I.val_at (i := 0) (by decide) (hd ⟨0, .data⟩ (by simp) rfl) (.inl rfl) rfl)
                      refine wpOp_callW rfl (wn rfl) (run_cl1 rfl rfl (fun v => enters_of Tryd.func5 (by kernel_rfl) rfl #[v] wx)) ?_
                      refine (show Calls Tryd.prog 5 #[a.tmps.getD _ undef] wx _ from ?_)
                      rw [v1]
                      exact (IP wx).mono (by rintro e w' ⟨rfl, hu⟩; exact ⟨_, rfl, (show _ ∧ _ from ⟨rfl, hu⟩)⟩)
                    · obtain rfl := Option.some.inj ho
                      exact wpOp_valW rfl (wn rfl) (run_mv rfl (I.val_at (i := 1) (by decide) (hd ⟨1, .data⟩ (by simp) rfl) (.inl rfl) rfl)) (show _ ∧ _ from ⟨rfl, Up.refl _⟩)
                    · obtain rfl := Option.some.inj ho
                      exact wpOp_valW rfl (wgT (c := true) rfl rfl (I.val_at (i := 2) (by decide) (hd ⟨2, .guard⟩ (by simp) rfl) (.inl rfl) rfl) rfl) (run_fa rfl (show a.tmps.getD 4 undef = _ from (I.oth_at (by kernel_rfl)).trans rfl)) (show _ ∧ _ from ⟨rfl, Up.refl _⟩)
                    · obtain rfl := Option.some.inj ho
                      exact wpOp_valW rfl (wgT (c := true) rfl rfl (I.val_at (i := 2) (by decide) (hd ⟨2, .guard⟩ (by simp) rfl) (.inl rfl) rfl) rfl) (run_ldI rfl (I.val_at (i := 3) (by decide) (hd ⟨3, .data⟩ (by simp) rfl) (.inl rfl) rfl) hb'.2.1) (show _ ∧ _ from ⟨rfl, Up.refl _⟩)
                    · obtain rfl := Option.some.inj ho
                      exact wpOp_valW rfl (wgT (c := true) rfl rfl (I.val_at (i := 2) (by decide) (hd ⟨2, .guard⟩ (by simp) rfl) (.inl rfl) rfl) rfl) (run_ne0z rfl rfl (I.val_at (i := 4) (by decide) (hd ⟨4, .data⟩ (by simp) rfl) (.inl rfl) rfl) hbz) (show _ ∧ _ from ⟨rfl, Up.refl _⟩)
                    · obtain rfl := Option.some.inj ho
                      exact wpOp_valW rfl (wn rfl) (run_pickT rfl (I.val_at (i := 2) (by decide) (hd ⟨2, .data⟩ (by simp) rfl) (.inl rfl) rfl) (I.val_at (i := 5) (by decide) (hd ⟨5, .data⟩ (by simp) rfl) (.inl rfl) rfl)) (show _ ∧ _ from ⟨rfl, Up.refl _⟩)
                    · obtain rfl := Option.some.inj ho
                      exact wpOp_valW rfl (wn rfl) (run_mv rfl (I.val_at (i := 6) (by decide) (hd ⟨6, .data⟩ (by simp) rfl) (.inl rfl) rfl)) (show _ ∧ _ from ⟨rfl, Up.refl _⟩)
                    · obtain rfl := Option.some.inj ho
                      exact wpOp_notW rfl (wgF (c := false) rfl rfl (I.val_at (i := 7) (by decide) (hd ⟨7, .guard⟩ (by simp) rfl) (.inl rfl) rfl) rfl) (show _ ∧ _ from ⟨rfl, Up.refl _⟩)
                    · obtain rfl := Option.some.inj ho
                      exact wpOp_notW rfl (wgF (c := false) rfl rfl (I.val_at (i := 7) (by decide) (hd ⟨7, .guard⟩ (by simp) rfl) (.inl rfl) rfl) rfl) (show _ ∧ _ from ⟨rfl, Up.refl _⟩)
                    · obtain rfl := Option.some.inj ho
                      exact wpOp_notW rfl (wgF (c := false) rfl rfl (I.val_at (i := 7) (by decide) (hd ⟨7, .guard⟩ (by simp) rfl) (.inl rfl) rfl) rfl) (show _ ∧ _ from ⟨rfl, Up.refl _⟩)
                    · obtain rfl := Option.some.inj ho
                      exact wpOp_notW rfl (wgF (c := false) rfl rfl (I.val_at (i := 7) (by decide) (hd ⟨7, .guard⟩ (by simp) rfl) (.inl rfl) rfl) rfl) (show _ ∧ _ from ⟨rfl, Up.refl _⟩)
                    · obtain rfl := Option.some.inj ho
                      exact wpOp_notW rfl (wgF (c := false) rfl rfl (I.val_at (i := 7) (by decide) (hd ⟨7, .guard⟩ (by simp) rfl) (.inl rfl) rfl) rfl) (show _ ∧ _ from ⟨rfl, Up.refl _⟩)
                    · obtain rfl := Option.some.inj ho
                      exact wpOp_valW rfl (wn rfl) (run_pickF rfl (I.val_at (i := 7) (by decide) (hd ⟨7, .data⟩ (by simp) rfl) (.inl rfl) rfl) rfl) (show _ ∧ _ from ⟨rfl, Up.refl _⟩)
                · intro blk listed a' wx I hall
                  have fr := I.frameL [(98, (rtq p)), (99, (.bool true)), (100, (.bool true)), (101, (.pointer (some ⟨w.heap.size + 1, 0, none⟩))), (102, (.int .i64 b.1)), (103, (.bool false)), (104, (.bool false)), (105, (.bool false)), (106, undef), (107, undef), (108, undef), (109, undef), (110, undef), (111, (.bool false))] (by
                    intro p hp
                    simp only [List.mem_cons, List.not_mem_nil, or_false] at hp
                    rcases hp with rfl | rfl | rfl | rfl | rfl | rfl | rfl | rfl | rfl | rfl | rfl | rfl | rfl | rfl
                    · exact ⟨by simp, I.val_at (i := 0) (by decide) (hall _ (by decide)) (.inl rfl) rfl⟩
                    · exact ⟨by simp, I.val_at (i := 1) (by decide) (hall _ (by decide)) (.inl rfl) rfl⟩
                    · exact ⟨by simp, I.val_at (i := 2) (by decide) (hall _ (by decide)) (.inl rfl) rfl⟩
                    · exact ⟨by simp, I.val_at (i := 3) (by decide) (hall _ (by decide)) (.inl rfl) rfl⟩
                    · exact ⟨by simp, I.val_at (i := 4) (by decide) (hall _ (by decide)) (.inl rfl) rfl⟩
                    · exact ⟨by simp, I.val_at (i := 5) (by decide) (hall _ (by decide)) (.inl rfl) rfl⟩
                    · exact ⟨by simp, I.val_at (i := 6) (by decide) (hall _ (by decide)) (.inl rfl) rfl⟩
                    · exact ⟨by simp, I.val_at (i := 7) (by decide) (hall _ (by decide)) (.inl rfl) rfl⟩
                    · exact ⟨by simp, I.val_at (i := 8) (by decide) (hall _ (by decide)) (.inl rfl) rfl⟩
                    · exact ⟨by simp, I.val_at (i := 9) (by decide) (hall _ (by decide)) (.inl rfl) rfl⟩
                    · exact ⟨by simp, I.val_at (i := 10) (by decide) (hall _ (by decide)) (.inl rfl) rfl⟩
                    · exact ⟨by simp, I.val_at (i := 11) (by decide) (hall _ (by decide)) (.inl rfl) rfl⟩
                    · exact ⟨by simp, I.val_at (i := 12) (by decide) (hall _ (by decide)) (.inl rfl) rfl⟩
                    · exact ⟨by simp, I.val_at (i := 13) (by decide) (hall _ (by decide)) (.inl rfl) rfl⟩) (by kernel_rfl)
                  replace u0 := u0.trans I.up
                  clear I hall
                  subst fr
                  dsimp only [setsL, List.set_cons_zero, List.set_cons_succ, rtq]
                  go_wp2_with fail
                  go_meet
                  exact ⟨rfl, u0⟩
              | true =>
                have CD := divC jp jb (hp2 ▸ div_back ja va vb (hp2 ▸ vp) (by simpa using hbz))
                have u0 := Up.refl wc
                refine wp_region_kdQ (by kernel_rfl) (kd11t w a b c s p ngv q x r y u v mq uw uz) (Stat.of (by kernel_rfl)) (acy_of (by kernel_rfl)) ?_ ?_
                · as_aux_lemma =>
                    intro Q' i o ho blk listed a wx I hd
                    have hi : i < 14 := (Array.getElem?_eq_some_iff.1 ho).1
                    have ha' := ha.up I.up
                    have hb' := hb.up I.up
                    have hc' := hc.up I.up
                    have hg' := hg.up I.up
                    have hs' := hs.up I.up
                    have hp' := hp.up I.up
                    rcases (show i = 0 ∨ i = 1 ∨ i = 2 ∨ i = 3 ∨ i = 4 ∨ i = 5 ∨ i = 6 ∨ i = 7 ∨ i = 8 ∨ i = 9 ∨ i = 10 ∨ i = 11 ∨ i = 12 ∨ i = 13 by omega) with rfl | rfl | rfl | rfl | rfl | rfl | rfl | rfl | rfl | rfl | rfl | rfl | rfl | rfl
                    · obtain rfl := Option.some.inj ho
                      exact wpOp_valW rfl (wn rfl) (run_ld rfl (show a.tmps.getD 8 undef = _ from (I.oth_at (by kernel_rfl)).trans rfl) hp'.2.1 hp'.2.2) (show _ ∧ _ from ⟨rfl, Up.refl _⟩)
                    · obtain rfl := Option.some.inj ho
                      have v1 := (I.val_at (i := 0) (by decide) (hd ⟨0, .data⟩ (by simp) rfl) (.inl rfl) rfl)
                      refine wpOp_callW rfl (wn rfl) (run_cl1 rfl rfl (fun v => enters_of Tryd.func5 (by kernel_rfl) rfl #[v] wx)) ?_
                      refine (show Calls Tryd.prog 5 #[a.tmps.getD _ undef] wx _ from ?_)
                      rw [v1]
                      exact (IP wx).mono (by rintro e w' ⟨rfl, hu⟩; exact ⟨_, rfl, (show _ ∧ _ from ⟨rfl, hu⟩)⟩)
                    · obtain rfl := Option.some.inj ho
                      exact wpOp_valW rfl (wn rfl) (run_mv rfl (I.val_at (i := 1) (by decide) (hd ⟨1, .data⟩ (by simp) rfl) (.inl rfl) rfl)) (show _ ∧ _ from ⟨rfl, Up.refl _⟩)
                    · obtain rfl := Option.some.inj ho
                      exact wpOp_valW rfl (wgT (c := true) rfl rfl (I.val_at (i := 2) (by decide) (hd ⟨2, .guard⟩ (by simp) rfl) (.inl rfl) rfl) rfl) (run_fa rfl (show a.tmps.getD 4 undef = _ from (I.oth_at (by kernel_rfl)).trans rfl)) (show _ ∧ _ from ⟨rfl, Up.refl _⟩)
                    · obtain rfl := Option.some.inj ho
                      exact wpOp_valW rfl (wgT (c := true) rfl rfl (I.val_at (i := 2) (by decide) (hd ⟨2, .guard⟩ (by simp) rfl) (.inl rfl) rfl) rfl) (run_ldI rfl (I.val_at (i := 3) (by decide) (hd ⟨3, .data⟩ (by simp) rfl) (.inl rfl) rfl) hb'.2.1) (show _ ∧ _ from ⟨rfl, Up.refl _⟩)
                    · obtain rfl := Option.some.inj ho
                      exact wpOp_valW rfl (wgT (c := true) rfl rfl (I.val_at (i := 2) (by decide) (hd ⟨2, .guard⟩ (by simp) rfl) (.inl rfl) rfl) rfl) (run_ne0z rfl rfl (I.val_at (i := 4) (by decide) (hd ⟨4, .data⟩ (by simp) rfl) (.inl rfl) rfl) hbz) (show _ ∧ _ from ⟨rfl, Up.refl _⟩)
                    · obtain rfl := Option.some.inj ho
                      exact wpOp_valW rfl (wn rfl) (run_pickT rfl (I.val_at (i := 2) (by decide) (hd ⟨2, .data⟩ (by simp) rfl) (.inl rfl) rfl) (I.val_at (i := 5) (by decide) (hd ⟨5, .data⟩ (by simp) rfl) (.inl rfl) rfl)) (show _ ∧ _ from ⟨rfl, Up.refl _⟩)
                    · obtain rfl := Option.some.inj ho
                      exact wpOp_valW rfl (wn rfl) (run_mv rfl (I.val_at (i := 6) (by decide) (hd ⟨6, .data⟩ (by simp) rfl) (.inl rfl) rfl)) (show _ ∧ _ from ⟨rfl, Up.refl _⟩)
                    · obtain rfl := Option.some.inj ho
                      exact wpOp_valW rfl (wgT (c := true) rfl rfl (I.val_at (i := 7) (by decide) (hd ⟨7, .guard⟩ (by simp) rfl) (.inl rfl) rfl) rfl) (run_ld rfl (show a.tmps.getD 8 undef = _ from (I.oth_at (by kernel_rfl)).trans rfl) hp'.2.1 hp'.2.2) (show _ ∧ _ from ⟨rfl, Up.refl _⟩)
                    · obtain rfl := Option.some.inj ho
                      exact wpOp_valW rfl (wgT (c := true) rfl rfl (I.val_at (i := 7) (by decide) (hd ⟨7, .guard⟩ (by simp) rfl) (.inl rfl) rfl) rfl) (run_ld rfl (show a.tmps.getD 4 undef = _ from (I.oth_at (by kernel_rfl)).trans rfl) hb'.2.1 hb'.2.2) (show _ ∧ _ from ⟨rfl, Up.refl _⟩)
                    · obtain rfl := Option.some.inj ho
                      have v1 := (I.val_at (i := 8) (by decide) (hd ⟨8, .data⟩ (by simp) rfl) (.inl rfl) rfl)
                      have v2 := (I.val_at (i := 9) (by decide) (hd ⟨9, .data⟩ (by simp) rfl) (.inl rfl) rfl)
                      refine wpOp_callW rfl (wgT (c := true) rfl rfl (I.val_at (i := 7) (by decide) (hd ⟨7, .guard⟩ (by simp) rfl) (.inl rfl) rfl) rfl) (run_cl2 rfl rfl (fun v u => enters_of Tryd.func10 (by kernel_rfl) rfl #[v, u] wx)) ?_
                      refine (show Calls Tryd.prog 10 #[a.tmps.getD _ undef, a.tmps.getD _ undef] wx _ from ?_)
                      rw [v1, v2]
                      exact (CD wx).mono (by rintro e w' ⟨rfl, hu⟩; exact ⟨_, rfl, (show _ ∧ _ from ⟨rfl, hu⟩)⟩)
                    · obtain rfl := Option.some.inj ho
                      exact wpOp_valW rfl (wgT (c := true) rfl rfl (I.val_at (i := 7) (by decide) (hd ⟨7, .guard⟩ (by simp) rfl) (.inl rfl) rfl) rfl) (run_ld rfl (show a.tmps.getD 3 undef = _ from (I.oth_at (by kernel_rfl)).trans rfl) ha'.2.1 ha'.2.2) (show _ ∧ _ from ⟨rfl, Up.refl _⟩)
                    · obtain rfl := Option.some.inj ho
                      exact wpOp_valW rfl (wgT (c := true) rfl rfl (I.val_at (i := 7) (by decide) (hd ⟨7, .guard⟩ (by simp) rfl) (.inl rfl) rfl) rfl) (run_ne rfl (I.val_at (i := 10) (by decide) (hd ⟨10, .data⟩ (by simp) rfl) (.inl rfl) rfl) (I.val_at (i := 11) (by decide) (hd ⟨11, .data⟩ (by simp) rfl) (.inl rfl) rfl)) (show _ ∧ _ from ⟨rfl, Up.refl _⟩)
                    · obtain rfl := Option.some.inj ho
                      exact wpOp_valW rfl (wn rfl) (run_pickT rfl (I.val_at (i := 7) (by decide) (hd ⟨7, .data⟩ (by simp) rfl) (.inl rfl) rfl) (I.val_at (i := 12) (by decide) (hd ⟨12, .data⟩ (by simp) rfl) (.inl rfl) rfl)) (show _ ∧ _ from ⟨rfl, Up.refl _⟩)
                · intro blk listed a' wx I hall
                  have fr := I.frameL [(98, (rtq p)), (99, (.bool true)), (100, (.bool true)), (101, (.pointer (some ⟨w.heap.size + 1, 0, none⟩))), (102, (.int .i64 b.1)), (103, (.bool true)), (104, (.bool true)), (105, (.bool true)), (106, (rtq p)), (107, (rtq b)), (108, (rtq a)), (109, (rtq a)), (110, (.bool false)), (111, (.bool false))] (by
                    intro p hp
                    simp only [List.mem_cons, List.not_mem_nil, or_false] at hp
                    rcases hp with rfl | rfl | rfl | rfl | rfl | rfl | rfl | rfl | rfl | rfl | rfl | rfl | rfl | rfl
                    · exact ⟨by simp, I.val_at (i := 0) (by decide) (hall _ (by decide)) (.inl rfl) rfl⟩
                    · exact ⟨by simp, I.val_at (i := 1) (by decide) (hall _ (by decide)) (.inl rfl) rfl⟩
                    · exact ⟨by simp, I.val_at (i := 2) (by decide) (hall _ (by decide)) (.inl rfl) rfl⟩
                    · exact ⟨by simp, I.val_at (i := 3) (by decide) (hall _ (by decide)) (.inl rfl) rfl⟩
                    · exact ⟨by simp, I.val_at (i := 4) (by decide) (hall _ (by decide)) (.inl rfl) rfl⟩
                    · exact ⟨by simp, I.val_at (i := 5) (by decide) (hall _ (by decide)) (.inl rfl) rfl⟩
                    · exact ⟨by simp, I.val_at (i := 6) (by decide) (hall _ (by decide)) (.inl rfl) rfl⟩
                    · exact ⟨by simp, I.val_at (i := 7) (by decide) (hall _ (by decide)) (.inl rfl) rfl⟩
                    · exact ⟨by simp, I.val_at (i := 8) (by decide) (hall _ (by decide)) (.inl rfl) rfl⟩
                    · exact ⟨by simp, I.val_at (i := 9) (by decide) (hall _ (by decide)) (.inl rfl) rfl⟩
                    · exact ⟨by simp, I.val_at (i := 10) (by decide) (hall _ (by decide)) (.inl rfl) rfl⟩
                    · exact ⟨by simp, I.val_at (i := 11) (by decide) (hall _ (by decide)) (.inl rfl) rfl⟩
                    · exact ⟨by simp, I.val_at (i := 12) (by decide) (hall _ (by decide)) (.inl rfl) rfl⟩
                    · exact ⟨by simp, I.val_at (i := 13) (by decide) (hall _ (by decide)) (.inl rfl) rfl⟩) (by kernel_rfl)
                  replace u0 := u0.trans I.up
                  clear I hall
                  subst fr
                  dsimp only [setsL, List.set_cons_zero, List.set_cons_succ, rtq]
                  go_wp2_with fail
                  go_meet
                  exact ⟨rfl, u0⟩
          case rest =>
            obtain ⟨rfl, ux⟩ := hcut
            replace ha := ha.up ux
            replace hb := hb.up ux
            replace hc := hc.up ux
            replace hg := hg.up ux
            replace hs := hs.up ux
            replace hp := hp.up ux
            replace ua := ua.trans ux
            clear ux
            go_upto_region 13 with fail
            go_cut [121] from 204 (fun t wy => t = .bool false ∧ Up wc wy)
            case first =>
              clear CS CS2 CP CP2 CN CN2 CZ CQ CX CR CY CU CV CM CW CT IX IY IU IV IW IZ exy euv ewz hs2 hp2 hn2 hq2 hx2 hr2 hy2 hu2 hv2 hm2 hw2 hz2 jn jq jx jr jy ju jv jm jw jz ga gb gs gp va' vb' vc'
              obtain ⟨_, a0, a1⟩ := id ha
              by_cases h0 : a.1 = 0
              · rw [h0] at a0
                go_wp2_with fail
                go_meet
                exact ⟨rfl, Up.refl _⟩
              · have h1 : (a.1 != 0) = true := by simpa using h0
                have CE := divC ja ja (div_self' va h0)
                go_wp2_with (go_at_call 10; refine (CE _).mono ?_; rintro _ wl ⟨rfl, hl⟩; simp only [rtq])
                go_meet
                exact ⟨by simp, hl⟩
            case rest =>
              obtain ⟨rfl, ux⟩ := hcut
              replace ha := ha.up ux
              replace hb := hb.up ux
              replace hc := hc.up ux
              replace hg := hg.up ux
              replace hs := hs.up ux
              replace hp := hp.up ux
              replace ua := ua.trans ux
              clear ux
              go_upto_region 15 with fail
              refine wp_region_kdQ (by kernel_rfl) (kd15 w a b c s p ngv q x r y u v mq uw uz) (Stat.of (by kernel_rfl)) (acy_of (by kernel_rfl)) ?_ ?_
              · as_aux_lemma =>
                  intro Q' i o ho blk listed a wx I hd
                  have hi : i < 21 := (Array.getElem?_eq_some_iff.1 ho).1
                  have ha' := ha.up I.up
                  have hb' := hb.up I.up
                  have hc' := hc.up I.up
                  have hg' := hg.up I.up
                  have hs' := hs.up I.up
                  have hp' := hp.up I.up
                  rcases (show i = 0 ∨ i = 1 ∨ i = 2 ∨ i = 3 ∨ i = 4 ∨ i = 5 ∨ i = 6 ∨ i = 7 ∨ i = 8 ∨ i = 9 ∨ i = 10 ∨ i = 11 ∨ i = 12 ∨ i = 13 ∨ i = 14 ∨ i = 15 ∨ i = 16 ∨ i = 17 ∨ i = 18 ∨ i = 19 ∨ i = 20 by omega) with rfl | rfl | rfl | rfl | rfl | rfl | rfl | rfl | rfl | rfl | rfl | rfl | rfl | rfl | rfl | rfl | rfl | rfl | rfl | rfl | rfl
                  · obtain rfl := Option.some.inj ho
                    exact wpOp_valW rfl (wn rfl) (run_ld rfl (show a.tmps.getD 3 undef = _ from (I.oth_at (by kernel_rfl)).trans rfl) ha'.2.1 ha'.2.2) (show _ ∧ _ from ⟨rfl, Up.refl _⟩)
                  · obtain rfl := Option.some.inj ho
                    exact wpOp_valW rfl (wn rfl) (run_ld rfl (show a.tmps.getD 4 undef = _ from (I.oth_at (by kernel_rfl)).trans rfl) hb'.2.1 hb'.2.2) (show _ ∧ _ from ⟨rfl, Up.refl _⟩)
                  · obtain rfl := Option.some.inj ho
                    exact wpOp_valW rfl (wn rfl) (run_ld rfl (show a.tmps.getD 5 undef = _ from (I.oth_at (by kernel_rfl)).trans rfl) hc'.2.1 hc'.2.2) (show _ ∧ _ from ⟨rfl, Up.refl _⟩)
                  · obtain rfl := Option.some.inj ho
                    exact wpOp_valW rfl (wn rfl) (run_bs2 rfl (I.val_at (i := 1) (by decide) (hd ⟨1, .data⟩ (by simp) rfl) (.inl rfl) rfl) (I.val_at (i := 2) (by decide) (hd ⟨2, .data⟩ (by simp) rfl) (.inl rfl) rfl)) (show _ ∧ _ from ⟨rfl, rfl⟩)
                  · obtain rfl := Option.some.inj ho
                    obtain ⟨r1, r2⟩ := I.row_at (i := 3) (by decide) (hd ⟨3, .data⟩ (by simp) rfl) rfl rfl
                    refine wpOp_callW rfl (wn rfl) (run_cl1 rfl rfl (fun v => enters_of Tryd.func6 (by kernel_rfl) rfl #[v] wx)) ?_
                    refine (show Calls Tryd.prog 6 #[a.tmps.getD _ undef] wx _ from ?_)
                    rw [r1]
                    exact (CQ wx _ (row2h r2)).mono (by rintro e w' ⟨rfl, hu⟩; exact ⟨_, rfl, (show _ ∧ _ from ⟨rfl, hu⟩)⟩)
                  · obtain rfl := Option.some.inj ho
                    exact wpOp_valW rfl (wn rfl) (run_bs2 rfl (I.val_at (i := 0) (by decide) (hd ⟨0, .data⟩ (by simp) rfl) (.inl rfl) rfl) (I.val_at (i := 4) (by decide) (hd ⟨4, .data⟩ (by simp) rfl) (.inl rfl) rfl)) (show _ ∧ _ from ⟨rfl, rfl⟩)
                  · obtain rfl := Option.some.inj ho
                    obtain ⟨r1, r2⟩ := I.row_at (i := 5) (by decide) (hd ⟨5, .data⟩ (by simp) rfl) rfl rfl
                    refine wpOp_callW rfl (wn rfl) (run_cl1 rfl rfl (fun v => enters_of Tryd.func7 (by kernel_rfl) rfl #[v] wx)) ?_
                    refine (show Calls Tryd.prog 7 #[a.tmps.getD _ undef] wx _ from ?_)
                    rw [r1]
                    exact (CX wx _ (row2h r2)).mono (by rintro e w' ⟨rfl, hu⟩; exact ⟨_, rfl, (show _ ∧ _ from ⟨rfl, hu⟩)⟩)
                  · obtain rfl := Option.some.inj ho
                    exact wpOp_valW rfl (wn rfl) (run_ld rfl (show a.tmps.getD 3 undef = _ from (I.oth_at (by kernel_rfl)).trans rfl) ha'.2.1 ha'.2.2) (show _ ∧ _ from ⟨rfl, Up.refl _⟩)
                  · obtain rfl := Option.some.inj ho
                    exact wpOp_valW rfl (wn rfl) (run_ld rfl (show a.tmps.getD 4 undef = _ from (I.oth_at (by kernel_rfl)).trans rfl) hb'.2.1 hb'.2.2) (show _ ∧ _ from ⟨rfl, Up.refl _⟩)
                  · obtain rfl := Option.some.inj ho
                    exact wpOp_valW rfl (wn rfl) (run_bs2 rfl (I.val_at (i := 7) (by decide) (hd ⟨7, .data⟩ (by simp) rfl) (.inl rfl) rfl) (I.val_at (i := 8) (by decide) (hd ⟨8, .data⟩ (by simp) rfl) (.inl rfl) rfl)) (show _ ∧ _ from ⟨rfl, rfl⟩)
                  · obtain rfl := Option.some.inj ho
                    obtain ⟨r1, r2⟩ := I.row_at (i := 9) (by decide) (hd ⟨9, .data⟩ (by simp) rfl) rfl rfl
                    refine wpOp_callW rfl (wn rfl) (run_cl1 rfl rfl (fun v => enters_of Tryd.func7 (by kernel_rfl) rfl #[v] wx)) ?_
                    refine (show Calls Tryd.prog 7 #[a.tmps.getD _ undef] wx _ from ?_)
                    rw [r1]
                    exact (CP wx _ (row2h r2)).mono (by rintro e w' ⟨rfl, hu⟩; exact ⟨_, rfl, (show _ ∧ _ from ⟨rfl, hu⟩)⟩)
                  · obtain rfl := Option.some.inj ho
                    exact wpOp_valW rfl (wn rfl) (run_ld rfl (show a.tmps.getD 3 undef = _ from (I.oth_at (by kernel_rfl)).trans rfl) ha'.2.1 ha'.2.2) (show _ ∧ _ from ⟨rfl, Up.refl _⟩)
                  · obtain rfl := Option.some.inj ho
                    exact wpOp_valW rfl (wn rfl) (run_ld rfl (show a.tmps.getD 5 undef = _ from (I.oth_at (by kernel_rfl)).trans rfl) hc'.2.1 hc'.2.2) (show _ ∧ _ from ⟨rfl, Up.refl _⟩)
                  · obtain rfl := Option.some.inj ho
                    exact wpOp_valW rfl (wn rfl) (run_bs2 rfl (I.val_at (i := 11) (by decide) (hd ⟨11, .data⟩ (by simp) rfl) (.inl rfl) rfl) (I.val_at (i := 12) (by decide) (hd ⟨12, .data⟩ (by simp) rfl) (.inl rfl) rfl)) (show _ ∧ _ from ⟨rfl, rfl⟩)
                  · obtain rfl := Option.some.inj ho
                    obtain ⟨r1, r2⟩ := I.row_at (i := 13) (by decide) (hd ⟨13, .data⟩ (by simp) rfl) rfl rfl
                    refine wpOp_callW rfl (wn rfl) (run_cl1 rfl rfl (fun v => enters_of Tryd.func7 (by kernel_rfl) rfl #[v] wx)) ?_
                    refine (show Calls Tryd.prog 7 #[a.tmps.getD _ undef] wx _ from ?_)
                    rw [r1]
                    exact (CR wx _ (row2h r2)).mono (by rintro e w' ⟨rfl, hu⟩; exact ⟨_, rfl, (show _ ∧ _ from ⟨rfl, hu⟩)⟩)
                  · obtain rfl := Option.some.inj ho
                    exact wpOp_valW rfl (wn rfl) (run_bs2 rfl (I.val_at (i := 10) (by decide) (hd ⟨10, .data⟩ (by simp) rfl) (.inl rfl) rfl) (I.val_at (i := 14) (by decide) (hd ⟨14, .data⟩ (by simp) rfl) (.inl rfl) rfl)) (show _ ∧ _ from ⟨rfl, rfl⟩)
                  · obtain rfl := Option.some.inj ho
                    obtain ⟨r1, r2⟩ := I.row_at (i := 15) (by decide) (hd ⟨15, .data⟩ (by simp) rfl) rfl rfl
                    refine wpOp_callW rfl (wn rfl) (run_cl1 rfl rfl (fun v => enters_of Tryd.func6 (by kernel_rfl) rfl #[v] wx)) ?_
                    refine (show Calls Tryd.prog 6 #[a.tmps.getD _ undef] wx _ from ?_)
                    rw [r1]
                    exact (CY wx _ (row2h r2)).mono (by rintro e w' ⟨rfl, hu⟩; exact ⟨_, rfl, (show _ ∧ _ from ⟨rfl, hu⟩)⟩)
                  · obtain rfl := Option.some.inj ho
                    exact wpOp_val rfl rfl (run_alc rfl) (show ∃ _ _, _ ∧ _ from ⟨_, _, rfl, rfl⟩)
                  · obtain rfl := Option.some.inj ho
                    exact wpOp_val rfl rfl (run_alc rfl) (show ∃ _ _, _ ∧ _ from ⟨_, _, rfl, rfl⟩)
                  · obtain rfl := Option.some.inj ho
                    obtain ⟨r1, c0, c1, r2⟩ := I.box_at (i := 17) (by decide) (hd ⟨17, .data⟩ (by simp) rfl) rfl rfl
                    have v1 := (I.val_at (i := 6) (by decide) (hd ⟨6, .data⟩ (by simp) rfl) (.inl rfl) rfl)
                    have L8 := (hd ⟨17, .data⟩ (by simp) rfl)
                    exact wpOp_st rfl rfl rfl r1 v1 r2 (fun v => (show _ ∧ _ ∧ _ from ⟨L8, ⟨_, rfl⟩, rfl⟩))
                  · obtain rfl := Option.some.inj ho
                    obtain ⟨r1, c0, c1, r2⟩ := I.box_at (i := 18) (by decide) (hd ⟨18, .data⟩ (by simp) rfl) rfl rfl
                    have v1 := (I.val_at (i := 16) (by decide) (hd ⟨16, .data⟩ (by simp) rfl) (.inl rfl) rfl)
                    have L8 := (hd ⟨18, .data⟩ (by simp) rfl)
                    exact wpOp_st rfl rfl rfl r1 v1 r2 (fun v => (show _ ∧ _ ∧ _ from ⟨L8, ⟨_, rfl⟩, rfl⟩))
              · intro blk listed a' wx I hall
                have fr := I.frameL [(122, (rtq a)), (123, (rtq b)), (124, (rtq c)), (125, (.slice (some ⟨blk 3, 0, none⟩) 2 2)), (126, (rtq q)), (127, (.slice (some ⟨blk 5, 0, none⟩) 2 2)), (128, (rtq x)), (129, (rtq a)), (130, (rtq b)), (131, (.slice (some ⟨blk 9, 0, none⟩) 2 2)), (132, (rtq p)), (133, (rtq a)), (134, (rtq c)), (135, (.slice (some ⟨blk 13, 0, none⟩) 2 2)), (136, (rtq r)), (137, (.slice (some ⟨blk 15, 0, none⟩) 2 2)), (138, (rtq y)), (9, (.pointer (some ⟨blk 17, 0, none⟩))), (10, (.pointer (some ⟨blk 18, 0, none⟩)))] (by
                  intro p hp
                  simp only [List.mem_cons, List.not_mem_nil, or_false] at hp
                  rcases hp with rfl | rfl | rfl | rfl | rfl | rfl | rfl | rfl | rfl | rfl | rfl | rfl | rfl | rfl | rfl | rfl | rfl | rfl | rfl
                  · exact ⟨by simp, I.val_at (i := 0) (by decide) (hall _ (by decide)) (.inl rfl) rfl⟩
                  · exact ⟨by simp, I.val_at (i := 1) (by decide) (hall _ (by decide)) (.inl rfl) rfl⟩
                  · exact ⟨by simp, I.val_at (i := 2) (by decide) (hall _ (by decide)) (.inl rfl) rfl⟩
                  · exact ⟨by simp, (I.row_at (i := 3) (by decide) (hall _ (by decide)) rfl rfl).1⟩
                  · exact ⟨by simp, I.val_at (i := 4) (by decide) (hall _ (by decide)) (.inl rfl) rfl⟩
                  · exact ⟨by simp, (I.row_at (i := 5) (by decide) (hall _ (by decide)) rfl rfl).1⟩
                  · exact ⟨by simp, I.val_at (i := 6) (by decide) (hall _ (by decide)) (.inl rfl) rfl⟩
                  · exact ⟨by simp, I.val_at (i := 7) (by decide) (hall _ (by decide)) (.inl rfl) rfl⟩
                  · exact ⟨by simp, I.val_at (i := 8) (by decide) (hall _ (by decide)) (.inl rfl) rfl⟩
                  · exact ⟨by simp, (I.row_at (i := 9) (by decide) (hall _ (by decide)) rfl rfl).1⟩
                  · exact ⟨by simp, I.val_at (i := 10) (by decide) (hall _ (by decide)) (.inl rfl) rfl⟩
                  · exact ⟨by simp, I.val_at (i := 11) (by decide) (hall _ (by decide)) (.inl rfl) rfl⟩
                  · exact ⟨by simp, I.val_at (i := 12) (by decide) (hall _ (by decide)) (.inl rfl) rfl⟩
                  · exact ⟨by simp, (I.row_at (i := 13) (by decide) (hall _ (by decide)) rfl rfl).1⟩
                  · exact ⟨by simp, I.val_at (i := 14) (by decide) (hall _ (by decide)) (.inl rfl) rfl⟩
                  · exact ⟨by simp, (I.row_at (i := 15) (by decide) (hall _ (by decide)) rfl rfl).1⟩
                  · exact ⟨by simp, I.val_at (i := 16) (by decide) (hall _ (by decide)) (.inl rfl) rfl⟩
                  · exact ⟨by simp, (I.box_at (i := 17) (by decide) (hall _ (by decide)) rfl rfl).1⟩
                  · exact ⟨by simp, (I.box_at (i := 18) (by decide) (hall _ (by decide)) rfl rfl).1⟩) (by kernel_rfl)
                obtain ⟨_, hp17⟩ := I.put_at (i := 19) (by decide) (hall _ (by decide)) rfl
                replace hp17 := Bx.of hp17
                obtain ⟨_, hp18⟩ := I.put_at (i := 20) (by decide) (hall _ (by decide)) rfl
                replace hp18 := Bx.of hp18
                replace ha := ha.up I.up
                replace hb := hb.up I.up
                replace hc := hc.up I.up
                replace hg := hg.up I.up
                replace hs := hs.up I.up
                replace hp := hp.up I.up
                replace ua := ua.trans I.up
                clear I hall
                subst fr
                generalize blk 3 = k15_3 at *
                generalize blk 5 = k15_5 at *
                generalize blk 9 = k15_9 at *
                generalize blk 13 = k15_13 at *
                generalize blk 15 = k15_15 at *
                generalize blk 17 = k15_17 at *
                generalize blk 18 = k15_18 at *
                dsimp only [setsL, List.set_cons_zero, List.set_cons_succ, rtq]
                have hx := hp17
                have hy := hp18
                clear hp17 hp18
                go_upto_region 16 with fail
                refine wp_region_kdQ (by kernel_rfl) (kd16 w a b c s p ngv q x r y u v mq uw uz) (Stat.of (by kernel_rfl)) (acy_of (by kernel_rfl)) ?_ ?_
                · as_aux_lemma =>
                    intro Q' i o ho blk listed a wx I hd
                    have hi : i < 15 := (Array.getElem?_eq_some_iff.1 ho).1
                    have ha' := ha.up I.up
                    have hb' := hb.up I.up
                    have hc' := hc.up I.up
                    have hg' := hg.up I.up
                    have hs' := hs.up I.up
                    have hp' := hp.up I.up
                    rcases (show i = 0 ∨ i = 1 ∨ i = 2 ∨ i = 3 ∨ i = 4 ∨ i = 5 ∨ i = 6 ∨ i = 7 ∨ i = 8 ∨ i = 9 ∨ i = 10 ∨ i = 11 ∨ i = 12 ∨ i = 13 ∨ i = 14 by omega) with rfl | rfl | rfl | rfl | rfl | rfl | rfl | rfl | rfl | rfl | rfl | rfl | rfl | rfl | rfl
                    · obtain rfl := Option.some.inj ho
                      exact wpOp_valW rfl (wn rfl) (run_ld rfl (show a.tmps.getD 7 undef = _ from (I.oth_at (by kernel_rfl)).trans rfl) hs'.2.1 hs'.2.2) (show _ ∧ _ from ⟨rfl, Up.refl _⟩)
                    · obtain rfl := Option.some.inj ho
                      exact wpOp_valW rfl (wn rfl) (run_ld rfl (show a.tmps.getD 5 undef = _ from (I.oth_at (by kernel_rfl)).trans rfl) hc'.2.1 hc'.2.2) (show _ ∧ _ from ⟨rfl, Up.refl _⟩)
                    · obtain rfl := Option.some.inj ho
                      exact wpOp_valW rfl (wn rfl) (run_bs2 rfl (I.val_at (i := 0) (by decide) (hd ⟨0, .data⟩ (by simp) rfl) (.inl rfl) rfl) (I.val_at (i := 1) (by decide) (hd ⟨1, .data⟩ (by simp) rfl) (.inl rfl) rfl)) (show _ ∧ _ from ⟨rfl, rfl⟩)
                    · obtain rfl := Option.some.inj ho
                      obtain ⟨r1, r2⟩ := I.row_at (i := 2) (by decide) (hd ⟨2, .data⟩ (by simp) rfl) rfl rfl
                      refine wpOp_callW rfl (wn rfl) (run_cl1 rfl rfl (fun v => enters_of Tryd.func6 (by kernel_rfl) rfl #[v] wx)) ?_
                      refine (show Calls Tryd.prog 6 #[a.tmps.getD _ undef] wx _ from ?_)
                      rw [r1]
                      exact (CU wx _ (row2h r2)).mono (by rintro e w' ⟨rfl, hu⟩; exact ⟨_, rfl, (show _ ∧ _ from ⟨rfl, hu⟩)⟩)
                    · obtain rfl := Option.some.inj ho
                      exact wpOp_valW rfl (wn rfl) (run_ld rfl (show a.tmps.getD 3 undef = _ from (I.oth_at (by kernel_rfl)).trans rfl) ha'.2.1 ha'.2.2) (show _ ∧ _ from ⟨rfl, Up.refl _⟩)
                    · obtain rfl := Option.some.inj ho
                      exact wpOp_valW rfl (wn rfl) (run_ld rfl (show a.tmps.getD 4 undef = _ from (I.oth_at (by kernel_rfl)).trans rfl) hb'.2.1 hb'.2.2) (show _ ∧ _ from ⟨rfl, Up.refl _⟩)
                    · obtain rfl := Option.some.inj ho
                      exact wpOp_valW rfl (wn rfl) (run_ld rfl (show a.tmps.getD 5 undef = _ from (I.oth_at (by kernel_rfl)).trans rfl) hc'.2.1 hc'.2.2) (show _ ∧ _ from ⟨rfl, Up.refl _⟩)
                    · obtain rfl := Option.some.inj ho
                      exact wpOp_valW rfl (wn rfl) (run_bs2 rfl (I.val_at (i := 5) (by decide) (hd ⟨5, .data⟩ (by simp) rfl) (.inl rfl) rfl) (I.val_at (i := 6) (by decide) (hd ⟨6, .data⟩ (by simp) rfl) (.inl rfl) rfl)) (show _ ∧ _ from ⟨rfl, rfl⟩)
                    · obtain rfl := Option.some.inj ho
                      obtain ⟨r1, r2⟩ := I.row_at (i := 7) (by decide) (hd ⟨7, .data⟩ (by simp) rfl) rfl rfl
                      refine wpOp_callW rfl (wn rfl) (run_cl1 rfl rfl (fun v => enters_of Tryd.func6 (by kernel_rfl) rfl #[v] wx)) ?_
                      refine (show Calls Tryd.prog 6 #[a.tmps.getD _ undef] wx _ from ?_)
                      rw [r1]
                      exact (CQ wx _ (row2h r2)).mono (by rintro e w' ⟨rfl, hu⟩; exact ⟨_, rfl, (show _ ∧ _ from ⟨rfl, hu⟩)⟩)
                    · obtain rfl := Option.some.inj ho
                      exact wpOp_valW rfl (wn rfl) (run_bs2 rfl (I.val_at (i := 4) (by decide) (hd ⟨4, .data⟩ (by simp) rfl) (.inl rfl) rfl) (I.val_at (i := 8) (by decide) (hd ⟨8, .data⟩ (by simp) rfl) (.inl rfl) rfl)) (show _ ∧ _ from ⟨rfl, rfl⟩)
                    · obtain rfl := Option.some.inj ho
                      obtain ⟨r1, r2⟩ := I.row_at (i := 9) (by decide) (hd ⟨9, .data⟩ (by simp) rfl) rfl rfl
                      refine wpOp_callW rfl (wn rfl) (run_cl1 rfl rfl (fun v => enters_of Tryd.func6 (by kernel_rfl) rfl #[v] wx)) ?_
                      refine (show Calls Tryd.prog 6 #[a.tmps.getD _ undef] wx _ from ?_)
                      rw [r1]
                      exact (CV wx _ (row2h r2)).mono (by rintro e w' ⟨rfl, hu⟩; exact ⟨_, rfl, (show _ ∧ _ from ⟨rfl, hu⟩)⟩)
                    · obtain rfl := Option.some.inj ho
                      exact wpOp_val rfl rfl (run_alc rfl) (show ∃ _ _, _ ∧ _ from ⟨_, _, rfl, rfl⟩)
                    · obtain rfl := Option.some.inj ho
                      exact wpOp_val rfl rfl (run_alc rfl) (show ∃ _ _, _ ∧ _ from ⟨_, _, rfl, rfl⟩)
                    · obtain rfl := Option.some.inj ho
                      obtain ⟨r1, c0, c1, r2⟩ := I.box_at (i := 11) (by decide) (hd ⟨11, .data⟩ (by simp) rfl) rfl rfl
                      have v1 := (I.val_at (i := 3) (by decide) (hd ⟨3, .data⟩ (by simp) rfl) (.inl rfl) rfl)
                      have L8 := (hd ⟨11, .data⟩ (by simp) rfl)
                      exact wpOp_st rfl rfl rfl r1 v1 r2 (fun v => (show _ ∧ _ ∧ _ from ⟨L8, ⟨_, rfl⟩, rfl⟩))
                    · obtain rfl := Option.some.inj ho
                      obtain ⟨r1, c0, c1, r2⟩ := I.box_at (i := 12) (by decide) (hd ⟨12, .data⟩ (by simp) rfl) rfl rfl
                      have v1 := (I.val_at (i := 10) (by decide) (hd ⟨10, .data⟩ (by simp) rfl) (.inl rfl) rfl)
                      have L8 := (hd ⟨12, .data⟩ (by simp) rfl)
                      exact wpOp_st rfl rfl rfl r1 v1 r2 (fun v => (show _ ∧ _ ∧ _ from ⟨L8, ⟨_, rfl⟩, rfl⟩))
                · intro blk listed a' wx I hall
                  have fr := I.frameL [(139, (rtq s)), (140, (rtq c)), (141, (.slice (some ⟨blk 2, 0, none⟩) 2 2)), (142, (rtq u)), (143, (rtq a)), (144, (rtq b)), (145, (rtq c)), (146, (.slice (some ⟨blk 7, 0, none⟩) 2 2)), (147, (rtq q)), (148, (.slice (some ⟨blk 9, 0, none⟩) 2 2)), (149, (rtq v)), (11, (.pointer (some ⟨blk 11, 0, none⟩))), (12, (.pointer (some ⟨blk 12, 0, none⟩)))] (by
                    intro p hp
                    simp only [List.mem_cons, List.not_mem_nil, or_false] at hp
                    rcases hp with rfl | rfl | rfl | rfl | rfl | rfl | rfl | rfl | rfl | rfl | rfl | rfl | rfl
                    · exact ⟨by simp, I.val_at (i := 0) (by decide) (hall _ (by decide)) (.inl rfl) rfl⟩
                    · exact ⟨by simp, I.val_at (i := 1) (by decide) (hall _ (by decide)) (.inl rfl) rfl⟩
                    · exact ⟨by simp, (I.row_at (i := 2) (by decide) (hall _ (by decide)) rfl rfl).1⟩
                    · exact ⟨by simp, I.val_at (i := 3) (by decide) (hall _ (by decide)) (.inl rfl) rfl⟩
                    · exact ⟨by simp, I.val_at (i := 4) (by decide) (hall _ (by decide)) (.inl rfl) rfl⟩
                    · exact ⟨by simp, I.val_at (i := 5) (by decide) (hall _ (by decide)) (.inl rfl) rfl⟩
                    · exact ⟨by simp, I.val_at (i := 6) (by decide) (hall _ (by decide)) (.inl rfl) rfl⟩
                    · exact ⟨by simp, (I.row_at (i := 7) (by decide) (hall _ (by decide)) rfl rfl).1⟩
                    · exact ⟨by simp, I.val_at (i := 8) (by decide) (hall _ (by decide)) (.inl rfl) rfl⟩
                    · exact ⟨by simp, (I.row_at (i := 9) (by decide) (hall _ (by decide)) rfl rfl).1⟩
                    · exact ⟨by simp, I.val_at (i := 10) (by decide) (hall _ (by decide)) (.inl rfl) rfl⟩
                    · exact ⟨by simp, (I.box_at (i := 11) (by decide) (hall _ (by decide)) rfl rfl).1⟩
                    · exact ⟨by simp, (I.box_at (i := 12) (by decide) (hall _ (by decide)) rfl rfl).1⟩) (by kernel_rfl)
                  obtain ⟨_, hp11⟩ := I.put_at (i := 13) (by decide) (hall _ (by decide)) rfl
                  replace hp11 := Bx.of hp11
                  obtain ⟨_, hp12⟩ := I.put_at (i := 14) (by decide) (hall _ (by decide)) rfl
                  replace hp12 := Bx.of hp12
                  replace ha := ha.up I.up
                  replace hb := hb.up I.up
                  replace hc := hc.up I.up
                  replace hg := hg.up I.up
                  replace hs := hs.up I.up
                  replace hp := hp.up I.up
                  replace hx := hx.up I.up
                  replace hy := hy.up I.up
                  replace ua := ua.trans I.up
                  clear I hall
                  subst fr
                  generalize blk 2 = k16_2 at *
                  generalize blk 7 = k16_7 at *
                  generalize blk 9 = k16_9 at *
                  generalize blk 11 = k16_11 at *
                  generalize blk 12 = k16_12 at *
                  dsimp only [setsL, List.set_cons_zero, List.set_cons_succ, rtq]
                  have hu := hp11
                  have hv := hp12
                  clear hp11 hp12
                  go_upto_region 17 with fail
                  refine wp_region_kdQ (by kernel_rfl) (kd17 w a b c s p ngv q x r y u v mq uw uz) (Stat.of (by kernel_rfl)) (acy_of (by kernel_rfl)) ?_ ?_
                  · as_aux_lemma =>
                      intro Q' i o ho blk listed a wx I hd
                      have hi : i < 15 := (Array.getElem?_eq_some_iff.1 ho).1
                      have ha' := ha.up I.up
                      have hb' := hb.up I.up
                      have hc' := hc.up I.up
                      have hg' := hg.up I.up
                      have hs' := hs.up I.up
                      have hp' := hp.up I.up
                      rcases (show i = 0 ∨ i = 1 ∨ i = 2 ∨ i = 3 ∨ i = 4 ∨ i = 5 ∨ i = 6 ∨ i = 7 ∨ i = 8 ∨ i = 9 ∨ i = 10 ∨ i = 11 ∨ i = 12 ∨ i = 13 ∨ i = 14 by omega) with rfl | rfl | rfl | rfl | rfl | rfl | rfl | rfl | rfl | rfl | rfl | rfl | rfl | rfl | rfl
                      · obtain rfl := Option.some.inj ho
                        exact wpOp_valW rfl (wn rfl) (run_ld rfl (show a.tmps.getD 8 undef = _ from (I.oth_at (by kernel_rfl)).trans rfl) hp'.2.1 hp'.2.2) (show _ ∧ _ from ⟨rfl, Up.refl _⟩)
                      · obtain rfl := Option.some.inj ho
                        exact wpOp_valW rfl (wn rfl) (run_ld rfl (show a.tmps.getD 5 undef = _ from (I.oth_at (by kernel_rfl)).trans rfl) hc'.2.1 hc'.2.2) (show _ ∧ _ from ⟨rfl, Up.refl _⟩)
                      · obtain rfl := Option.some.inj ho
                        exact wpOp_valW rfl (wn rfl) (run_bs2 rfl (I.val_at (i := 0) (by decide) (hd ⟨0, .data⟩ (by simp) rfl) (.inl rfl) rfl) (I.val_at (i := 1) (by decide) (hd ⟨1, .data⟩ (by simp) rfl) (.inl rfl) rfl)) (show _ ∧ _ from ⟨rfl, rfl⟩)
                      · obtain rfl := Option.some.inj ho
                        obtain ⟨r1, r2⟩ := I.row_at (i := 2) (by decide) (hd ⟨2, .data⟩ (by simp) rfl) rfl rfl
                        refine wpOp_callW rfl (wn rfl) (run_cl1 rfl rfl (fun v => enters_of Tryd.func7 (by kernel_rfl) rfl #[v] wx)) ?_
                        refine (show Calls Tryd.prog 7 #[a.tmps.getD _ undef] wx _ from ?_)
                        rw [r1]
                        exact (CW wx _ (row2h r2)).mono (by rintro e w' ⟨rfl, hu⟩; exact ⟨_, rfl, (show _ ∧ _ from ⟨rfl, hu⟩)⟩)
                      · obtain rfl := Option.some.inj ho
                        exact wpOp_valW rfl (wn rfl) (run_ld rfl (show a.tmps.getD 3 undef = _ from (I.oth_at (by kernel_rfl)).trans rfl) ha'.2.1 ha'.2.2) (show _ ∧ _ from ⟨rfl, Up.refl _⟩)
                      · obtain rfl := Option.some.inj ho
                        exact wpOp_valW rfl (wn rfl) (run_ld rfl (show a.tmps.getD 4 undef = _ from (I.oth_at (by kernel_rfl)).trans rfl) hb'.2.1 hb'.2.2) (show _ ∧ _ from ⟨rfl, Up.refl _⟩)
                      · obtain rfl := Option.some.inj ho
                        exact wpOp_valW rfl (wn rfl) (run_ld rfl (show a.tmps.getD 5 undef = _ from (I.oth_at (by kernel_rfl)).trans rfl) hc'.2.1 hc'.2.2) (show _ ∧ _ from ⟨rfl, Up.refl _⟩)
                      · obtain rfl := Option.some.inj ho
                        exact wpOp_valW rfl (wn rfl) (run_bs2 rfl (I.val_at (i := 5) (by decide) (hd ⟨5, .data⟩ (by simp) rfl) (.inl rfl) rfl) (I.val_at (i := 6) (by decide) (hd ⟨6, .data⟩ (by simp) rfl) (.inl rfl) rfl)) (show _ ∧ _ from ⟨rfl, rfl⟩)
                      · obtain rfl := Option.some.inj ho
                        obtain ⟨r1, r2⟩ := I.row_at (i := 7) (by decide) (hd ⟨7, .data⟩ (by simp) rfl) rfl rfl
                        refine wpOp_callW rfl (wn rfl) (run_cl1 rfl rfl (fun v => enters_of Tryd.func7 (by kernel_rfl) rfl #[v] wx)) ?_
                        refine (show Calls Tryd.prog 7 #[a.tmps.getD _ undef] wx _ from ?_)
                        rw [r1]
                        exact (CM wx _ (row2h r2)).mono (by rintro e w' ⟨rfl, hu⟩; exact ⟨_, rfl, (show _ ∧ _ from ⟨rfl, hu⟩)⟩)
                      · obtain rfl := Option.some.inj ho
                        exact wpOp_valW rfl (wn rfl) (run_bs2 rfl (I.val_at (i := 4) (by decide) (hd ⟨4, .data⟩ (by simp) rfl) (.inl rfl) rfl) (I.val_at (i := 8) (by decide) (hd ⟨8, .data⟩ (by simp) rfl) (.inl rfl) rfl)) (show _ ∧ _ from ⟨rfl, rfl⟩)
                      · obtain rfl := Option.some.inj ho
                        obtain ⟨r1, r2⟩ := I.row_at (i := 9) (by decide) (hd ⟨9, .data⟩ (by simp) rfl) rfl rfl
                        refine wpOp_callW rfl (wn rfl) (run_cl1 rfl rfl (fun v => enters_of Tryd.func7 (by kernel_rfl) rfl #[v] wx)) ?_
                        refine (show Calls Tryd.prog 7 #[a.tmps.getD _ undef] wx _ from ?_)
                        rw [r1]
                        exact (CT wx _ (row2h r2)).mono (by rintro e w' ⟨rfl, hu⟩; exact ⟨_, rfl, (show _ ∧ _ from ⟨rfl, hu⟩)⟩)
                      · obtain rfl := Option.some.inj ho
                        exact wpOp_val rfl rfl (run_alc rfl) (show ∃ _ _, _ ∧ _ from ⟨_, _, rfl, rfl⟩)
                      · obtain rfl := Option.some.inj ho
                        exact wpOp_val rfl rfl (run_alc rfl) (show ∃ _ _, _ ∧ _ from ⟨_, _, rfl, rfl⟩)
                      · obtain rfl := Option.some.inj ho
                        obtain ⟨r1, c0, c1, r2⟩ := I.box_at (i := 11) (by decide) (hd ⟨11, .data⟩ (by simp) rfl) rfl rfl
                        have v1 := (I.val_at (i := 3) (by decide) (hd ⟨3, .data⟩ (by simp) rfl) (.inl rfl) rfl)
                        have L8 := (hd ⟨11, .data⟩ (by simp) rfl)
                        exact wpOp_st rfl rfl rfl r1 v1 r2 (fun v => (show _ ∧ _ ∧ _ from ⟨L8, ⟨_, rfl⟩, rfl⟩))
                      · obtain rfl := Option.some.inj ho
                        obtain ⟨r1, c0, c1, r2⟩ := I.box_at (i := 12) (by decide) (hd ⟨12, .data⟩ (by simp) rfl) rfl rfl
                        have v1 := (I.val_at (i := 10) (by decide) (hd ⟨10, .data⟩ (by simp) rfl) (.inl rfl) rfl)
                        have L8 := (hd ⟨12, .data⟩ (by simp) rfl)
                        exact wpOp_st rfl rfl rfl r1 v1 r2 (fun v => (show _ ∧ _ ∧ _ from ⟨L8, ⟨_, rfl⟩, rfl⟩))
                  · intro blk listed a' wx I hall
                    have fr := I.frameL [(150, (rtq p)), (151, (rtq c)), (152, (.slice (some ⟨blk 2, 0, none⟩) 2 2)), (153, (rtq uw)), (154, (rtq a)), (155, (rtq b)), (156, (rtq c)), (157, (.slice (some ⟨blk 7, 0, none⟩) 2 2)), (158, (rtq mq)), (159, (.slice (some ⟨blk 9, 0, none⟩) 2 2)), (160, (rtq uz)), (13, (.pointer (some ⟨blk 11, 0, none⟩))), (14, (.pointer (some ⟨blk 12, 0, none⟩)))] (by
                      intro p hp
                      simp only [List.mem_cons, List.not_mem_nil, or_false] at hp
                      rcases hp with rfl | rfl | rfl | rfl | rfl | rfl | rfl | rfl | rfl | rfl | rfl | rfl | rfl
                      · exact ⟨by simp, I.val_at (i := 0) (by decide) (hall _ (by decide)) (.inl rfl) rfl⟩
                      · exact ⟨by simp, I.val_at (i := 1) (by decide) (hall _ (by decide)) (.inl rfl) rfl⟩
                      · exact ⟨by simp, (I.row_at (i := 2) (by decide) (hall _ (by decide)) rfl rfl).1⟩
                      · exact ⟨by simp, I.val_at (i := 3) (by decide) (hall _ (by decide)) (.inl rfl) rfl⟩
                      · exact ⟨by simp, I.val_at (i := 4) (by decide) (hall _ (by decide)) (.inl rfl) rfl⟩
                      · exact ⟨by simp, I.val_at (i := 5) (by decide) (hall _ (by decide)) (.inl rfl) rfl⟩
                      · exact ⟨by simp, I.val_at (i := 6) (by decide) (hall _ (by decide)) (.inl rfl) rfl⟩
                      · exact ⟨by simp, (I.row_at (i := 7) (by decide) (hall _ (by decide)) rfl rfl).1⟩
                      · exact ⟨by simp, I.val_at (i := 8) (by decide) (hall _ (by decide)) (.inl rfl) rfl⟩
                      · exact ⟨by simp, (I.row_at (i := 9) (by decide) (hall _ (by decide)) rfl rfl).1⟩
                      · exact ⟨by simp, I.val_at (i := 10) (by decide) (hall _ (by decide)) (.inl rfl) rfl⟩
                      · exact ⟨by simp, (I.box_at (i := 11) (by decide) (hall _ (by decide)) rfl rfl).1⟩
                      · exact ⟨by simp, (I.box_at (i := 12) (by decide) (hall _ (by decide)) rfl rfl).1⟩) (by kernel_rfl)
                    obtain ⟨_, hp11⟩ := I.put_at (i := 13) (by decide) (hall _ (by decide)) rfl
                    replace hp11 := Bx.of hp11
                    obtain ⟨_, hp12⟩ := I.put_at (i := 14) (by decide) (hall _ (by decide)) rfl
                    replace hp12 := Bx.of hp12
                    replace ha := ha.up I.up
                    replace hb := hb.up I.up
                    replace hc := hc.up I.up
                    replace hg := hg.up I.up
                    replace hs := hs.up I.up
                    replace hp := hp.up I.up
                    replace hx := hx.up I.up
                    replace hy := hy.up I.up
                    replace hu := hu.up I.up
                    replace hv := hv.up I.up
                    replace ua := ua.trans I.up
                    clear I hall
                    subst fr
                    generalize blk 2 = k17_2 at *
                    generalize blk 7 = k17_7 at *
                    generalize blk 9 = k17_9 at *
                    generalize blk 11 = k17_11 at *
                    generalize blk 12 = k17_12 at *
                    dsimp only [setsL, List.set_cons_zero, List.set_cons_succ, rtq]
                    have hw := hp11
                    have hz := hp12
                    clear hp11 hp12
                    go_upto_region 18 with fail
                    have ua' := ua
                    refine wp_region_sqQ (kd18 w a b c s p ngv q x r y u v mq uw uz bX bY bU bV bW bZ) (Stat.of (by kernel_rfl)) ?_ ?_
                    · as_aux_lemma =>
                        intro Q' i o ho blk listed a wx I hl
                        have hi : i < 44 := (Array.getElem?_eq_some_iff.1 ho).1
                        have hx' := hx.up I.up
                        have hy' := hy.up I.up
                        have hu' := hu.up I.up
                        have hv' := hv.up I.up
                        have hw' := hw.up I.up
                        have hz' := hz.up I.up
                        rcases (show i = 0 ∨ i = 1 ∨ i = 2 ∨ i = 3 ∨ i = 4 ∨ i = 5 ∨ i = 6 ∨ i = 7 ∨ i = 8 ∨ i = 9 ∨ i = 10 ∨ i = 11 ∨ i = 12 ∨ i = 13 ∨ i = 14 ∨ i = 15 ∨ i = 16 ∨ i = 17 ∨ i = 18 ∨ i = 19 ∨ i = 20 ∨ i = 21 ∨ i = 22 ∨ i = 23 ∨ i = 24 ∨ i = 25 ∨ i = 26 ∨ i = 27 ∨ i = 28 ∨ i = 29 ∨ i = 30 ∨ i = 31 ∨ i = 32 ∨ i = 33 ∨ i = 34 ∨ i = 35 ∨ i = 36 ∨ i = 37 ∨ i = 38 ∨ i = 39 ∨ i = 40 ∨ i = 41 ∨ i = 42 ∨ i = 43 by omega) with rfl | rfl | rfl | rfl | rfl | rfl | rfl | rfl | rfl | rfl | rfl | rfl | rfl | rfl | rfl | rfl | rfl | rfl | rfl | rfl | rfl | rfl | rfl | rfl | rfl | rfl | rfl | rfl | rfl | rfl | rfl | rfl | rfl | rfl | rfl | rfl | rfl | rfl | rfl | rfl | rfl | rfl | rfl | rfl
                        · obtain rfl := Option.some.inj ho
                          exact wpOp_valW rfl (wn rfl) (run_ld rfl (show a.tmps.getD 9 undef = _ from (I.oth_at (by kernel_rfl)).trans rfl) hx'.2.1 hx'.2.2) (show _ ∧ _ from ⟨rfl, Up.refl _⟩)
                        · obtain rfl := Option.some.inj ho
                          have v1 := (I.val_at (i := 0) (by decide) (hl 0 (by omega)) (.inl rfl) rfl)
                          refine wpOp_callW rfl (wn rfl) (run_cl1 rfl rfl (fun v => enters_of Tryd.func5 (by kernel_rfl) rfl #[v] wx)) ?_
                          refine (show Calls Tryd.prog 5 #[a.tmps.getD _ undef] wx _ from ?_)
                          rw [v1]
                          exact (IX wx).mono (by rintro e w' ⟨rfl, hu⟩; exact ⟨_, rfl, (show _ ∧ _ from ⟨rfl, hu⟩)⟩)
                        · obtain rfl := Option.some.inj ho
                          exact wpOp_valW rfl (wn rfl) (run_not rfl (I.val_at (i := 1) (by decide) (hl 1 (by omega)) (.inl rfl) rfl)) (show _ ∧ _ from ⟨rfl, Up.refl _⟩)
                        · obtain rfl := Option.some.inj ho
                          exact wpOp_valW rfl (wn rfl) (run_mv rfl (I.val_at (i := 2) (by decide) (hl 2 (by omega)) (.inl rfl) rfl)) (show _ ∧ _ from ⟨rfl, Up.refl _⟩)
                        · obtain rfl := Option.some.inj ho
                          cases bX with
                          | true =>
                            exact wpOp_valW rfl (wgT (c := false) rfl rfl (I.val_at (i := 3) (by decide) (hl 3 (by omega)) (.inl rfl) rfl) rfl) (run_ld rfl (show a.tmps.getD 10 undef = _ from (I.oth_at (by kernel_rfl)).trans rfl) hy'.2.1 hy'.2.2) (show _ ∧ _ from ⟨rfl, Up.refl _⟩)
                          | false => exact wpOp_notW rfl (wgF (c := true) rfl rfl (I.val_at (i := 3) (by decide) (hl 3 (by omega)) (.inl rfl) rfl) rfl) (show _ ∧ _ from ⟨rfl, Up.refl _⟩)
                        · obtain rfl := Option.some.inj ho
                          cases bX with
                          | true =>
                            have v1 := (I.val_at (i := 4) (by decide) (hl 4 (by omega)) (.inl rfl) rfl)
                            refine wpOp_callW rfl (wgT (c := false) rfl rfl (I.val_at (i := 3) (by decide) (hl 3 (by omega)) (.inl rfl) rfl) rfl) (run_cl1 rfl rfl (fun v => enters_of Tryd.func5 (by kernel_rfl) rfl #[v] wx)) ?_
                            refine (show Calls Tryd.prog 5 #[a.tmps.getD _ undef] wx _ from ?_)
                            rw [v1]
                            exact (IY wx).mono (by rintro e w' ⟨rfl, hu⟩; exact ⟨_, rfl, (show _ ∧ _ from ⟨rfl, hu⟩)⟩)
                          | false => exact wpOp_notW rfl (wgF (c := true) rfl rfl (I.val_at (i := 3) (by decide) (hl 3 (by omega)) (.inl rfl) rfl) rfl) (show _ ∧ _ from ⟨rfl, Up.refl _⟩)
                        · obtain rfl := Option.some.inj ho
                          cases bX with
                          | true =>
                            exact wpOp_valW rfl (wgT (c := false) rfl rfl (I.val_at (i := 3) (by decide) (hl 3 (by omega)) (.inl rfl) rfl) rfl) (run_not rfl (I.val_at (i := 5) (by decide) (hl 5 (by omega)) (.inl rfl) rfl)) (show _ ∧ _ from ⟨rfl, Up.refl _⟩)
                          | false => exact wpOp_notW rfl (wgF (c := true) rfl rfl (I.val_at (i := 3) (by decide) (hl 3 (by omega)) (.inl rfl) rfl) rfl) (show _ ∧ _ from ⟨rfl, Up.refl _⟩)
                        · obtain rfl := Option.some.inj ho
                          cases bX with
                          | true => exact wpOp_valW rfl (wn rfl) (run_pickF rfl (I.val_at (i := 3) (by decide) (hl 3 (by omega)) (.inl rfl) rfl) (I.val_at (i := 6) (by decide) (hl 6 (by omega)) (.inl rfl) rfl)) (show _ ∧ _ from ⟨rfl, Up.refl _⟩)
                          | false => exact wpOp_valW rfl (wn rfl) (run_pickT rfl (I.val_at (i := 3) (by decide) (hl 3 (by omega)) (.inl rfl) rfl) rfl) (show _ ∧ _ from ⟨rfl, Up.refl _⟩)
                        · obtain rfl := Option.some.inj ho
                          exact wpOp_valW rfl (wn rfl) (run_mv rfl (I.val_at (i := 7) (by decide) (hl 7 (by omega)) (.inl rfl) rfl)) (show _ ∧ _ from ⟨rfl, Up.refl _⟩)
                        · obtain rfl := Option.some.inj ho
                          cases bX with
                          | false => exact wpOp_notW rfl (wgF (c := true) rfl rfl (I.val_at (i := 8) (by decide) (hl 8 (by omega)) (.inl rfl) rfl) rfl) (show _ ∧ _ from ⟨rfl, Up.refl _⟩)
                          | true =>
                            cases bY with
                            | false => exact wpOp_notW rfl (wgF (c := true) rfl rfl (I.val_at (i := 8) (by decide) (hl 8 (by omega)) (.inl rfl) rfl) rfl) (show _ ∧ _ from ⟨rfl, Up.refl _⟩)
                            | true =>
                              exact wpOp_valW rfl (wgT (c := false) rfl rfl (I.val_at (i := 8) (by decide) (hl 8 (by omega)) (.inl rfl) rfl) rfl) (run_ld rfl (show a.tmps.getD 9 undef = _ from (I.oth_at (by kernel_rfl)).trans rfl) hx'.2.1 hx'.2.2) (show _ ∧ _ from ⟨rfl, Up.refl _⟩)
                        · obtain rfl := Option.some.inj ho
                          cases bX with
                          | false => exact wpOp_notW rfl (wgF (c := true) rfl rfl (I.val_at (i := 8) (by decide) (hl 8 (by omega)) (.inl rfl) rfl) rfl) (show _ ∧ _ from ⟨rfl, Up.refl _⟩)
                          | true =>
                            cases bY with
                            | false => exact wpOp_notW rfl (wgF (c := true) rfl rfl (I.val_at (i := 8) (by decide) (hl 8 (by omega)) (.inl rfl) rfl) rfl) (show _ ∧ _ from ⟨rfl, Up.refl _⟩)
                            | true =>
                              exact wpOp_valW rfl (wgT (c := false) rfl rfl (I.val_at (i := 8) (by decide) (hl 8 (by omega)) (.inl rfl) rfl) rfl) (run_ld rfl (show a.tmps.getD 10 undef = _ from (I.oth_at (by kernel_rfl)).trans rfl) hy'.2.1 hy'.2.2) (show _ ∧ _ from ⟨rfl, Up.refl _⟩)
                        · obtain rfl := Option.some.inj ho
                          cases bX with
                          | false => exact wpOp_notW rfl (wgF (c := true) rfl rfl (I.val_at (i := 8) (by decide) (hl 8 (by omega)) (.inl rfl) rfl) rfl) (show _ ∧ _ from ⟨rfl, Up.refl _⟩)
                          | true =>
                            cases bY with
                            | false => exact wpOp_notW rfl (wgF (c := true) rfl rfl (I.val_at (i := 8) (by decide) (hl 8 (by omega)) (.inl rfl) rfl) rfl) (show _ ∧ _ from ⟨rfl, Up.refl _⟩)
                            | true =>
                              exact wpOp_valW rfl (wgT (c := false) rfl rfl (I.val_at (i := 8) (by decide) (hl 8 (by omega)) (.inl rfl) rfl) rfl) (run_eqz (p := x) (q := y) rfl (I.val_at (i := 9) (by decide) (hl 9 (by omega)) (.inl rfl) rfl) (I.val_at (i := 10) (by decide) (hl 10 (by omega)) (.inl rfl) rfl) (decide_eq_true (exy rfl rfl))) (show _ ∧ _ from ⟨rfl, Up.refl _⟩)
                        · obtain rfl := Option.some.inj ho
                          cases bX with
                          | false => exact wpOp_valW rfl (wn rfl) (run_pickT rfl (I.val_at (i := 8) (by decide) (hl 8 (by omega)) (.inl rfl) rfl) rfl) (show _ ∧ _ from ⟨rfl, Up.refl _⟩)
                          | true =>
                            cases bY with
                            | false => exact wpOp_valW rfl (wn rfl) (run_pickT rfl (I.val_at (i := 8) (by decide) (hl 8 (by omega)) (.inl rfl) rfl) rfl) (show _ ∧ _ from ⟨rfl, Up.refl _⟩)
                            | true => exact wpOp_valW rfl (wn rfl) (run_pickF rfl (I.val_at (i := 8) (by decide) (hl 8 (by omega)) (.inl rfl) rfl) (I.val_at (i := 11) (by decide) (hl 11 (by omega)) (.inl rfl) rfl)) (show _ ∧ _ from ⟨rfl, Up.refl _⟩)
                        · obtain rfl := Option.some.inj ho
                          exact wpOp_valW rfl (wn rfl) (run_mv rfl (I.val_at (i := 12) (by decide) (hl 12 (by omega)) (.inl rfl) rfl)) (show _ ∧ _ from ⟨rfl, Up.refl _⟩)
                        · obtain rfl := Option.some.inj ho
                          exact wpOp_valW rfl (wgT (c := true) rfl rfl (I.val_at (i := 13) (by decide) (hl 13 (by omega)) (.inl rfl) rfl) rfl) (run_ld rfl (show a.tmps.getD 11 undef = _ from (I.oth_at (by kernel_rfl)).trans rfl) hu'.2.1 hu'.2.2) (show _ ∧ _ from ⟨rfl, Up.refl _⟩)
                        · obtain rfl := Option.some.inj ho
                          have v1 := (I.val_at (i := 14) (by decide) (hl 14 (by omega)) (.inl rfl) rfl)
                          refine wpOp_callW rfl (wgT (c := true) rfl rfl (I.val_at (i := 13) (by decide) (hl 13 (by omega)) (.inl rfl) rfl) rfl) (run_cl1 rfl rfl (fun v => enters_of Tryd.func5 (by kernel_rfl) rfl #[v] wx)) ?_
                          refine (show Calls Tryd.prog 5 #[a.tmps.getD _ undef] wx _ from ?_)
                          rw [v1]
                          exact (IU wx).mono (by rintro e w' ⟨rfl, hu⟩; exact ⟨_, rfl, (show _ ∧ _ from ⟨rfl, hu⟩)⟩)
                        · obtain rfl := Option.some.inj ho
                          exact wpOp_valW rfl (wgT (c := true) rfl rfl (I.val_at (i := 13) (by decide) (hl 13 (by omega)) (.inl rfl) rfl) rfl) (run_not rfl (I.val_at (i := 15) (by decide) (hl 15 (by omega)) (.inl rfl) rfl)) (show _ ∧ _ from ⟨rfl, Up.refl _⟩)
                        · obtain rfl := Option.some.inj ho
                          exact wpOp_valW rfl (wgT (c := true) rfl rfl (I.val_at (i := 13) (by decide) (hl 13 (by omega)) (.inl rfl) rfl) rfl) (run_mv rfl (I.val_at (i := 16) (by decide) (hl 16 (by omega)) (.inl rfl) rfl)) (show _ ∧ _ from ⟨rfl, Up.refl _⟩)
                        · obtain rfl := Option.some.inj ho
                          cases bU with
                          | true =>
                            exact wpOp_valW rfl (wgT (c := false) rfl rfl (I.val_at (i := 17) (by decide) (hl 17 (by omega)) (.inl rfl) rfl) rfl) (run_ld rfl (show a.tmps.getD 12 undef = _ from (I.oth_at (by kernel_rfl)).trans rfl) hv'.2.1 hv'.2.2) (show _ ∧ _ from ⟨rfl, Up.refl _⟩)
                          | false => exact wpOp_notW rfl (wgF (c := true) rfl rfl (I.val_at (i := 17) (by decide) (hl 17 (by omega)) (.inl rfl) rfl) rfl) (show _ ∧ _ from ⟨rfl, Up.refl _⟩)
                        · obtain rfl := Option.some.inj ho
                          cases bU with
                          | true =>
                            have v1 := (I.val_at (i := 18) (by decide) (hl 18 (by omega)) (.inl rfl) rfl)
                            refine wpOp_callW rfl (wgT (c := false) rfl rfl (I.val_at (i := 17) (by decide) (hl 17 (by omega)) (.inl rfl) rfl) rfl) (run_cl1 rfl rfl (fun v => enters_of Tryd.func5 (by kernel_rfl) rfl #[v] wx)) ?_
                            refine (show Calls Tryd.prog 5 #[a.tmps.getD _ undef] wx _ from ?_)
                            rw [v1]
                            exact (IV wx).mono (by rintro e w' ⟨rfl, hu⟩; exact ⟨_, rfl, (show _ ∧ _ from ⟨rfl, hu⟩)⟩)
                          | false => exact wpOp_notW rfl (wgF (c := true) rfl rfl (I.val_at (i := 17) (by decide) (hl 17 (by omega)) (.inl rfl) rfl) rfl) (show _ ∧ _ from ⟨rfl, Up.refl _⟩)
                        · obtain rfl := Option.some.inj ho
                          cases bU with
                          | true =>
                            exact wpOp_valW rfl (wgT (c := false) rfl rfl (I.val_at (i := 17) (by decide) (hl 17 (by omega)) (.inl rfl) rfl) rfl) (run_not rfl (I.val_at (i := 19) (by decide) (hl 19 (by omega)) (.inl rfl) rfl)) (show _ ∧ _ from ⟨rfl, Up.refl _⟩)
                          | false => exact wpOp_notW rfl (wgF (c := true) rfl rfl (I.val_at (i := 17) (by decide) (hl 17 (by omega)) (.inl rfl) rfl) rfl) (show _ ∧ _ from ⟨rfl, Up.refl _⟩)
                        · obtain rfl := Option.some.inj ho
                          cases bU with
                          | true => exact wpOp_valW rfl (wgT (c := true) rfl rfl (I.val_at (i := 13) (by decide) (hl 13 (by omega)) (.inl rfl) rfl) rfl) (run_pickF rfl (I.val_at (i := 17) (by decide) (hl 17 (by omega)) (.inl rfl) rfl) (I.val_at (i := 20) (by decide) (hl 20 (by omega)) (.inl rfl) rfl)) (show _ ∧ _ from ⟨rfl, Up.refl _⟩)
                          | false => exact wpOp_valW rfl (wgT (c := true) rfl rfl (I.val_at (i := 13) (by decide) (hl 13 (by omega)) (.inl rfl) rfl) rfl) (run_pickT rfl (I.val_at (i := 17) (by decide) (hl 17 (by omega)) (.inl rfl) rfl) rfl) (show _ ∧ _ from ⟨rfl, Up.refl _⟩)
                        · obtain rfl := Option.some.inj ho
                          exact wpOp_valW rfl (wgT (c := true) rfl rfl (I.val_at (i := 13) (by decide) (hl 13 (by omega)) (.inl rfl) rfl) rfl) (run_mv rfl (I.val_at (i := 21) (by decide) (hl 21 (by omega)) (.inl rfl) rfl)) (show _ ∧ _ from ⟨rfl, Up.refl _⟩)
                        · obtain rfl := Option.some.inj ho
                          cases bU with
                          | false => exact wpOp_notW rfl (wgF (c := true) rfl rfl (I.val_at (i := 22) (by decide) (hl 22 (by omega)) (.inl rfl) rfl) rfl) (show _ ∧ _ from ⟨rfl, Up.refl _⟩)
                          | true =>
                            cases bV with
                            | false => exact wpOp_notW rfl (wgF (c := true) rfl rfl (I.val_at (i := 22) (by decide) (hl 22 (by omega)) (.inl rfl) rfl) rfl) (show _ ∧ _ from ⟨rfl, Up.refl _⟩)
                            | true =>
                              exact wpOp_valW rfl (wgT (c := false) rfl rfl (I.val_at (i := 22) (by decide) (hl 22 (by omega)) (.inl rfl) rfl) rfl) (run_ld rfl (show a.tmps.getD 11 undef = _ from (I.oth_at (by kernel_rfl)).trans rfl) hu'.2.1 hu'.2.2) (show _ ∧ _ from ⟨rfl, Up.refl _⟩)
                        · obtain rfl := Option.some.inj ho
                          cases bU with
                          | false => exact wpOp_notW rfl (wgF (c := true) rfl rfl (I.val_at (i := 22) (by decide) (hl 22 (by omega)) (.inl rfl) rfl) rfl) (show _ ∧ _ from ⟨rfl, Up.refl _⟩)
                          | true =>
                            cases bV with
                            | false => exact wpOp_notW rfl (wgF (c := true) rfl rfl (I.val_at (i := 22) (by decide) (hl 22 (by omega)) (.inl rfl) rfl) rfl) (show _ ∧ _ from ⟨rfl, Up.refl _⟩)
                            | true =>
                              exact wpOp_valW rfl (wgT (c := false) rfl rfl (I.val_at (i := 22) (by decide) (hl 22 (by omega)) (.inl rfl) rfl) rfl) (run_ld rfl (show a.tmps.getD 12 undef = _ from (I.oth_at (by kernel_rfl)).trans rfl) hv'.2.1 hv'.2.2) (show _ ∧ _ from ⟨rfl, Up.refl _⟩)
                        · obtain rfl := Option.some.inj ho
                          cases bU with
                          | false => exact wpOp_notW rfl (wgF (c := true) rfl rfl (I.val_at (i := 22) (by decide) (hl 22 (by omega)) (.inl rfl) rfl) rfl) (show _ ∧ _ from ⟨rfl, Up.refl _⟩)
                          | true =>
                            cases bV with
                            | false => exact wpOp_notW rfl (wgF (c := true) rfl rfl (I.val_at (i := 22) (by decide) (hl 22 (by omega)) (.inl rfl) rfl) rfl) (show _ ∧ _ from ⟨rfl, Up.refl _⟩)
                            | true =>
                              exact wpOp_valW rfl (wgT (c := false) rfl rfl (I.val_at (i := 22) (by decide) (hl 22 (by omega)) (.inl rfl) rfl) rfl) (run_eqz (p := u) (q := v) rfl (I.val_at (i := 23) (by decide) (hl 23 (by omega)) (.inl rfl) rfl) (I.val_at (i := 24) (by decide) (hl 24 (by omega)) (.inl rfl) rfl) (decide_eq_true (euv rfl rfl))) (show _ ∧ _ from ⟨rfl, Up.refl _⟩)
                        · obtain rfl := Option.some.inj ho
                          cases bU with
                          | false => exact wpOp_valW rfl (wgT (c := true) rfl rfl (I.val_at (i := 13) (by decide) (hl 13 (by omega)) (.inl rfl) rfl) rfl) (run_pickT rfl (I.val_at (i := 22) (by decide) (hl 22 (by omega)) (.inl rfl) rfl) rfl) (show _ ∧ _ from ⟨rfl, Up.refl _⟩)
                          | true =>
                            cases bV with
                            | false => exact wpOp_valW rfl (wgT (c := true) rfl rfl (I.val_at (i := 13) (by decide) (hl 13 (by omega)) (.inl rfl) rfl) rfl) (run_pickT rfl (I.val_at (i := 22) (by decide) (hl 22 (by omega)) (.inl rfl) rfl) rfl) (show _ ∧ _ from ⟨rfl, Up.refl _⟩)
                            | true => exact wpOp_valW rfl (wgT (c := true) rfl rfl (I.val_at (i := 13) (by decide) (hl 13 (by omega)) (.inl rfl) rfl) rfl) (run_pickF rfl (I.val_at (i := 22) (by decide) (hl 22 (by omega)) (.inl rfl) rfl) (I.val_at (i := 25) (by decide) (hl 25 (by omega)) (.inl rfl) rfl)) (show _ ∧ _ from ⟨rfl, Up.refl _⟩)
                        · obtain rfl := Option.some.inj ho
                          exact wpOp_valW rfl (wn rfl) (run_pickT rfl (I.val_at (i := 13) (by decide) (hl 13 (by omega)) (.inl rfl) rfl) (I.val_at (i := 26) (by decide) (hl 26 (by omega)) (.inl rfl) rfl)) (show _ ∧ _ from ⟨rfl, Up.refl _⟩)
                        · obtain rfl := Option.some.inj ho
                          exact wpOp_valW rfl (wn rfl) (run_mv rfl (I.val_at (i := 27) (by decide) (hl 27 (by omega)) (.inl rfl) rfl)) (show _ ∧ _ from ⟨rfl, Up.refl _⟩)
                        · obtain rfl := Option.some.inj ho
                          exact wpOp_valW rfl (wgT (c := true) rfl rfl (I.val_at (i := 28) (by decide) (hl 28 (by omega)) (.inl rfl) rfl) rfl) (run_ld rfl (show a.tmps.getD 13 undef = _ from (I.oth_at (by kernel_rfl)).trans rfl) hw'.2.1 hw'.2.2) (show _ ∧ _ from ⟨rfl, Up.refl _⟩)
                        · obtain rfl := Option.some.inj ho
                          have v1 := (I.val_at (i := 29) (by decide) (hl 29 (by omega)) (.inl rfl) rfl)
                          refine wpOp_callW rfl (wgT (c := true) rfl rfl (I.val_at (i := 28) (by decide) (hl 28 (by omega)) (.inl rfl) rfl) rfl) (run_cl1 rfl rfl (fun v => enters_of Tryd.func5 (by kernel_rfl) rfl #[v] wx)) ?_
                          refine (show Calls Tryd.prog 5 #[a.tmps.getD _ undef] wx _ from ?_)
                          rw [v1]
                          exact (IW wx).mono (by rintro e w' ⟨rfl, hu⟩; exact ⟨_, rfl, (show _ ∧ _ from ⟨rfl, hu⟩)⟩)
                        · obtain rfl := Option.some.inj ho
                          exact wpOp_valW rfl (wgT (c := true) rfl rfl (I.val_at (i := 28) (by decide) (hl 28 (by omega)) (.inl rfl) rfl) rfl) (run_not rfl (I.val_at (i := 30) (by decide) (hl 30 (by omega)) (.inl rfl) rfl)) (show _ ∧ _ from ⟨rfl, Up.refl _⟩)
                        · obtain rfl := Option.some.inj ho
                          exact wpOp_valW rfl (wgT (c := true) rfl rfl (I.val_at (i := 28) (by decide) (hl 28 (by omega)) (.inl rfl) rfl) rfl) (run_mv rfl (I.val_at (i := 31) (by decide) (hl 31 (by omega)) (.inl rfl) rfl)) (show _ ∧ _ from ⟨rfl, Up.refl _⟩)
                        · obtain rfl := Option.some.inj ho
                          cases bW with
                          | true =>
                            exact wpOp_valW rfl (wgT (c := false) rfl rfl (I.val_at (i := 32) (by decide) (hl 32 (by omega)) (.inl rfl) rfl) rfl) (run_ld rfl (show a.tmps.getD 14 undef = _ from (I.oth_at (by kernel_rfl)).trans rfl) hz'.2.1 hz'.2.2) (show _ ∧ _ from ⟨rfl, Up.refl _⟩)
                          | false => exact wpOp_notW rfl (wgF (c := true) rfl rfl (I.val_at (i := 32) (by decide) (hl 32 (by omega)) (.inl rfl) rfl) rfl) (show _ ∧ _ from ⟨rfl, Up.refl _⟩)
                        · obtain rfl := Option.some.inj ho
                          cases bW with
                          | true =>
                            have v1 := (I.val_at (i := 33) (by decide) (hl 33 (by omega)) (.inl rfl) rfl)
                            refine wpOp_callW rfl (wgT (c := false) rfl rfl (I.val_at (i := 32) (by decide) (hl 32 (by omega)) (.inl rfl) rfl) rfl) (run_cl1 rfl rfl (fun v => enters_of Tryd.func5 (by kernel_rfl) rfl #[v] wx)) ?_
                            refine (show Calls Tryd.prog 5 #[a.tmps.getD _ undef] wx _ from ?_)
                            rw [v1]
                            exact (IZ wx).mono (by rintro e w' ⟨rfl, hu⟩; exact ⟨_, rfl, (show _ ∧ _ from ⟨rfl, hu⟩)⟩)
                          | false => exact wpOp_notW rfl (wgF (c := true) rfl rfl (I.val_at (i := 32) (by decide) (hl 32 (by omega)) (.inl rfl) rfl) rfl) (show _ ∧ _ from ⟨rfl, Up.refl _⟩)
                        · obtain rfl := Option.some.inj ho
                          cases bW with
                          | true =>
                            exact wpOp_valW rfl (wgT (c := false) rfl rfl (I.val_at (i := 32) (by decide) (hl 32 (by omega)) (.inl rfl) rfl) rfl) (run_not rfl (I.val_at (i := 34) (by decide) (hl 34 (by omega)) (.inl rfl) rfl)) (show _ ∧ _ from ⟨rfl, Up.refl _⟩)
                          | false => exact wpOp_notW rfl (wgF (c := true) rfl rfl (I.val_at (i := 32) (by decide) (hl 32 (by omega)) (.inl rfl) rfl) rfl) (show _ ∧ _ from ⟨rfl, Up.refl _⟩)
                        · obtain rfl := Option.some.inj ho
                          cases bW with
                          | true => exact wpOp_valW rfl (wgT (c := true) rfl rfl (I.val_at (i := 28) (by decide) (hl 28 (by omega)) (.inl rfl) rfl) rfl) (run_pickF rfl (I.val_at (i := 32) (by decide) (hl 32 (by omega)) (.inl rfl) rfl) (I.val_at (i := 35) (by decide) (hl 35 (by omega)) (.inl rfl) rfl)) (show _ ∧ _ from ⟨rfl, Up.refl _⟩)
                          | false => exact wpOp_valW rfl (wgT (c := true) rfl rfl (I.val_at (i := 28) (by decide) (hl 28 (by omega)) (.inl rfl) rfl) rfl) (run_pickT rfl (I.val_at (i := 32) (by decide) (hl 32 (by omega)) (.inl rfl) rfl) rfl) (show _ ∧ _ from ⟨rfl, Up.refl _⟩)
                        · obtain rfl := Option.some.inj ho
                          exact wpOp_valW rfl (wgT (c := true) rfl rfl (I.val_at (i := 28) (by decide) (hl 28 (by omega)) (.inl rfl) rfl) rfl) (run_mv rfl (I.val_at (i := 36) (by decide) (hl 36 (by omega)) (.inl rfl) rfl)) (show _ ∧ _ from ⟨rfl, Up.refl _⟩)
                        · obtain rfl := Option.some.inj ho
                          cases bW with
                          | false => exact wpOp_notW rfl (wgF (c := true) rfl rfl (I.val_at (i := 37) (by decide) (hl 37 (by omega)) (.inl rfl) rfl) rfl) (show _ ∧ _ from ⟨rfl, Up.refl _⟩)
                          | true =>
                            cases bZ with
                            | false => exact wpOp_notW rfl (wgF (c := true) rfl rfl (I.val_at (i := 37) (by decide) (hl 37 (by omega)) (.inl rfl) rfl) rfl) (show _ ∧ _ from ⟨rfl, Up.refl _⟩)
                            | true =>
                              exact wpOp_valW rfl (wgT (c := false) rfl rfl (I.val_at (i := 37) (by decide) (hl 37 (by omega)) (.inl rfl) rfl) rfl) (run_ld rfl (show a.tmps.getD 13 undef = _ from (I.oth_at (by kernel_rfl)).trans rfl) hw'.2.1 hw'.2.2) (show _ ∧ _ from ⟨rfl, Up.refl _⟩)
                        · obtain rfl := Option.some.inj ho
                          cases bW with
                          | false => exact wpOp_notW rfl (wgF (c := true) rfl rfl (I.val_at (i := 37) (by decide) (hl 37 (by omega)) (.inl rfl) rfl) rfl) (show _ ∧ _ from ⟨rfl, Up.refl _⟩)
                          | true =>
                            cases bZ with
                            | false => exact wpOp_notW rfl (wgF (c := true) rfl rfl (I.val_at (i := 37) (by decide) (hl 37 (by omega)) (.inl rfl) rfl) rfl) (show _ ∧ _ from ⟨rfl, Up.refl _⟩)
                            | true =>
                              exact wpOp_valW rfl (wgT (c := false) rfl rfl (I.val_at (i := 37) (by decide) (hl 37 (by omega)) (.inl rfl) rfl) rfl) (run_ld rfl (show a.tmps.getD 14 undef = _ from (I.oth_at (by kernel_rfl)).trans rfl) hz'.2.1 hz'.2.2) (show _ ∧ _ from ⟨rfl, Up.refl _⟩)
                        · obtain rfl := Option.some.inj ho
                          cases bW with
                          | false => exact wpOp_notW rfl (wgF (c := true) rfl rfl (I.val_at (i := 37) (by decide) (hl 37 (by omega)) (.inl rfl) rfl) rfl) (show _ ∧ _ from ⟨rfl, Up.refl _⟩)
                          | true =>
                            cases bZ with
                            | false => exact wpOp_notW rfl (wgF (c := true) rfl rfl (I.val_at (i := 37) (by decide) (hl 37 (by omega)) (.inl rfl) rfl) rfl) (show _ ∧ _ from ⟨rfl, Up.refl _⟩)
                            | true =>
                              exact wpOp_valW rfl (wgT (c := false) rfl rfl (I.val_at (i := 37) (by decide) (hl 37 (by omega)) (.inl rfl) rfl) rfl) (run_eqz (p := uw) (q := uz) rfl (I.val_at (i := 38) (by decide) (hl 38 (by omega)) (.inl rfl) rfl) (I.val_at (i := 39) (by decide) (hl 39 (by omega)) (.inl rfl) rfl) (decide_eq_true (ewz rfl rfl))) (show _ ∧ _ from ⟨rfl, Up.refl _⟩)
                        · obtain rfl := Option.some.inj ho
                          cases bW with
                          | false => exact wpOp_valW rfl (wgT (c := true) rfl rfl (I.val_at (i := 28) (by decide) (hl 28 (by omega)) (.inl rfl) rfl) rfl) (run_pickT rfl (I.val_at (i := 37) (by decide) (hl 37 (by omega)) (.inl rfl) rfl) rfl) (show _ ∧ _ from ⟨rfl, Up.refl _⟩)
                          | true =>
                            cases bZ with
                            | false => exact wpOp_valW rfl (wgT (c := true) rfl rfl (I.val_at (i := 28) (by decide) (hl 28 (by omega)) (.inl rfl) rfl) rfl) (run_pickT rfl (I.val_at (i := 37) (by decide) (hl 37 (by omega)) (.inl rfl) rfl) rfl) (show _ ∧ _ from ⟨rfl, Up.refl _⟩)
                            | true => exact wpOp_valW rfl (wgT (c := true) rfl rfl (I.val_at (i := 28) (by decide) (hl 28 (by omega)) (.inl rfl) rfl) rfl) (run_pickF rfl (I.val_at (i := 37) (by decide) (hl 37 (by omega)) (.inl rfl) rfl) (I.val_at (i := 40) (by decide) (hl 40 (by omega)) (.inl rfl) rfl)) (show _ ∧ _ from ⟨rfl, Up.refl _⟩)
                        · obtain rfl := Option.some.inj ho
                          exact wpOp_valW rfl (wn rfl) (run_pickT rfl (I.val_at (i := 28) (by decide) (hl 28 (by omega)) (.inl rfl) rfl) (I.val_at (i := 41) (by decide) (hl 41 (by omega)) (.inl rfl) rfl)) (show _ ∧ _ from ⟨rfl, Up.refl _⟩)
                        · obtain rfl := Option.some.inj ho
                          exact wpOp_valW rfl (wn rfl) (run_as rfl (I.val_at (i := 42) (by decide) (hl 42 (by omega)) (.inl rfl) rfl)) (show _ ∧ _ from ⟨rfl, Up.refl _⟩)
                    · intro blk listed a' wx I hall
                      have fr := I.frameL [(161, (rtq x)), (162, (.bool bX)), (163, (.bool (!bX))), (164, (.bool (!bX))), (165, (cond bX (rtq y) undef)), (166, (cond bX (.bool bY) undef)), (167, (cond bX (.bool (!bY)) undef)), (168, (.bool (!bX || !bY))), (169, (.bool (!bX || !bY))), (170, (cond bX (cond bY (rtq x) undef) undef)), (171, (cond bX (cond bY (rtq y) undef) undef)), (172, (cond bX (cond bY (.bool true) undef) undef)), (173, (.bool true)), (174, (.bool true)), (175, (rtq u)), (176, (.bool bU)), (177, (.bool (!bU))), (178, (.bool (!bU))), (179, (cond bU (rtq v) undef)), (180, (cond bU (.bool bV) undef)), (181, (cond bU (.bool (!bV)) undef)), (182, (.bool (!bU || !bV))), (183, (.bool (!bU || !bV))), (184, (cond bU (cond bV (rtq u) undef) undef)), (185, (cond bU (cond bV (rtq v) undef) undef)), (186, (cond bU (cond bV (.bool true) undef) undef)), (187, (.bool true)), (188, (.bool true)), (189, (.bool true)), (190, (rtq uw)), (191, (.bool bW)), (192, (.bool (!bW))), (193, (.bool (!bW))), (194, (cond bW (rtq uz) undef)), (195, (cond bW (.bool bZ) undef)), (196, (cond bW (.bool (!bZ)) undef)), (197, (.bool (!bW || !bZ))), (198, (.bool (!bW || !bZ))), (199, (cond bW (cond bZ (rtq uw) undef) undef)), (200, (cond bW (cond bZ (rtq uz) undef) undef)), (201, (cond bW (cond bZ (.bool true) undef) undef)), (202, (.bool true)), (203, (.bool true)), (6, (.bool true))] (by
                        intro p hp
                        simp only [List.mem_cons, List.not_mem_nil, or_false] at hp
                        rcases hp with rfl | rfl | rfl | rfl | rfl | rfl | rfl | rfl | rfl | rfl | rfl | rfl | rfl | rfl | rfl | rfl | rfl | rfl | rfl | rfl | rfl | rfl | rfl | rfl | rfl | rfl | rfl | rfl | rfl | rfl | rfl | rfl | rfl | rfl | rfl | rfl | rfl | rfl | rfl | rfl | rfl | rfl | rfl | rfl
                        · exact ⟨by simp, I.val_at (i := 0) (by decide) (hall _ (by decide)) (.inl rfl) rfl⟩
                        · exact ⟨by simp, I.val_at (i := 1) (by decide) (hall _ (by decide)) (.inl rfl) rfl⟩
                        · exact ⟨by simp, I.val_at (i := 2) (by decide) (hall _ (by decide)) (.inl rfl) rfl⟩
                        · exact ⟨by simp, I.val_at (i := 3) (by decide) (hall _ (by decide)) (.inl rfl) rfl⟩
                        · exact ⟨by simp, I.val_at (i := 4) (by decide) (hall _ (by decide)) (.inl rfl) rfl⟩
                        · exact ⟨by simp, I.val_at (i := 5) (by decide) (hall _ (by decide)) (.inl rfl) rfl⟩
                        · exact ⟨by simp, I.val_at (i := 6) (by decide) (hall _ (by decide)) (.inl rfl) rfl⟩
                        · exact ⟨by simp, I.val_at (i := 7) (by decide) (hall _ (by decide)) (.inl rfl) rfl⟩
                        · exact ⟨by simp, I.val_at (i := 8) (by decide) (hall _ (by decide)) (.inl rfl) rfl⟩
                        · exact ⟨by simp, I.val_at (i := 9) (by decide) (hall _ (by decide)) (.inl rfl) rfl⟩
                        · exact ⟨by simp, I.val_at (i := 10) (by decide) (hall _ (by decide)) (.inl rfl) rfl⟩
                        · exact ⟨by simp, I.val_at (i := 11) (by decide) (hall _ (by decide)) (.inl rfl) rfl⟩
                        · exact ⟨by simp, I.val_at (i := 12) (by decide) (hall _ (by decide)) (.inl rfl) rfl⟩
                        · exact ⟨by simp, I.val_at (i := 13) (by decide) (hall _ (by decide)) (.inl rfl) rfl⟩
                        · exact ⟨by simp, I.val_at (i := 14) (by decide) (hall _ (by decide)) (.inl rfl) rfl⟩
                        · exact ⟨by simp, I.val_at (i := 15) (by decide) (hall _ (by decide)) (.inl rfl) rfl⟩
                        · exact ⟨by simp, I.val_at (i := 16) (by decide) (hall _ (by decide)) (.inl rfl) rfl⟩
                        · exact ⟨by simp, I.val_at (i := 17) (by decide) (hall _ (by decide)) (.inl rfl) rfl⟩
                        · exact ⟨by simp, I.val_at (i := 18) (by decide) (hall _ (by decide)) (.inl rfl) rfl⟩
                        · exact ⟨by simp, I.val_at (i := 19) (by decide) (hall _ (by decide)) (.inl rfl) rfl⟩
                        · exact ⟨by simp, I.val_at (i := 20) (by decide) (hall _ (by decide)) (.inl rfl) rfl⟩
                        · exact ⟨by simp, I.val_at (i := 21) (by decide) (hall _ (by decide)) (.inl rfl) rfl⟩
                        · exact ⟨by simp, I.val_at (i := 22) (by decide) (hall _ (by decide)) (.inl rfl) rfl⟩
                        · exact ⟨by simp, I.val_at (i := 23) (by decide) (hall _ (by decide)) (.inl rfl) rfl⟩
                        · exact ⟨by simp, I.val_at (i := 24) (by decide) (hall _ (by decide)) (.inl rfl) rfl⟩
                        · exact ⟨by simp, I.val_at (i := 25) (by decide) (hall _ (by decide)) (.inl rfl) rfl⟩
                        · exact ⟨by simp, I.val_at (i := 26) (by decide) (hall _ (by decide)) (.inl rfl) rfl⟩
                        · exact ⟨by simp, I.val_at (i := 27) (by decide) (hall _ (by decide)) (.inl rfl) rfl⟩
                        · exact ⟨by simp, I.val_at (i := 28) (by decide) (hall _ (by decide)) (.inl rfl) rfl⟩
                        · exact ⟨by simp, I.val_at (i := 29) (by decide) (hall _ (by decide)) (.inl rfl) rfl⟩
                        · exact ⟨by simp, I.val_at (i := 30) (by decide) (hall _ (by decide)) (.inl rfl) rfl⟩
                        · exact ⟨by simp, I.val_at (i := 31) (by decide) (hall _ (by decide)) (.inl rfl) rfl⟩
                        · exact ⟨by simp, I.val_at (i := 32) (by decide) (hall _ (by decide)) (.inl rfl) rfl⟩
                        · exact ⟨by simp, I.val_at (i := 33) (by decide) (hall _ (by decide)) (.inl rfl) rfl⟩
                        · exact ⟨by simp, I.val_at (i := 34) (by decide) (hall _ (by decide)) (.inl rfl) rfl⟩
                        · exact ⟨by simp, I.val_at (i := 35) (by decide) (hall _ (by decide)) (.inl rfl) rfl⟩
                        · exact ⟨by simp, I.val_at (i := 36) (by decide) (hall _ (by decide)) (.inl rfl) rfl⟩
                        · exact ⟨by simp, I.val_at (i := 37) (by decide) (hall _ (by decide)) (.inl rfl) rfl⟩
                        · exact ⟨by simp, I.val_at (i := 38) (by decide) (hall _ (by decide)) (.inl rfl) rfl⟩
                        · exact ⟨by simp, I.val_at (i := 39) (by decide) (hall _ (by decide)) (.inl rfl) rfl⟩
                        · exact ⟨by simp, I.val_at (i := 40) (by decide) (hall _ (by decide)) (.inl rfl) rfl⟩
                        · exact ⟨by simp, I.val_at (i := 41) (by decide) (hall _ (by decide)) (.inl rfl) rfl⟩
                        · exact ⟨by simp, I.val_at (i := 42) (by decide) (hall _ (by decide)) (.inl rfl) rfl⟩
                        · exact ⟨by simp, I.val_at (i := 43) (by decide) (hall _ (by decide)) (.inl rfl) rfl⟩) (by kernel_rfl)
                      replace ua := ua.trans I.up
                      clear I hall
                      subst fr
                      dsimp only [setsL, List.set_cons_zero, List.set_cons_succ, rtq]
                      go_wp2_with fail
                      go_ret
                      exact ⟨rfl, ua⟩
end Go.Proofs.YthnkaimhmldjoaaDoor
