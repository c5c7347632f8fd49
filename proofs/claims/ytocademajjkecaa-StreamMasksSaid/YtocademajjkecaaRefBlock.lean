/-
  The reference's block, by its text: the same rounds, the bytes one after another.
-/
import Derived.Test.YtocademajjkecaaRefWords
import Derived.Test.YtocademajjkecaaOwn
namespace Go.Proofs.Ytocademajjkecaa
open Go.RowKit
/-- a place of the words of a quarter round -/
def pl (i c : Nat) : Nat := (gi places (4 * i + c)).toNat
theorem pl_lt (i c : Nat) : pl i c < 16 := by
  have h : ∀ k, k < 32 → (gi places k).toNat < 16 := by decide
  unfold pl
  by_cases hk : 4 * i + c < 32
  · exact h _ hk
  · have : gi places (4 * i + c) = 0 := by
      unfold gi
      rw [List.getD_eq_getElem?_getD, List.getElem?_eq_none (by show 32 ≤ _; omega)]; rfl
    rw [this]; decide
theorem pl_int (i c : Nat) : gi places (4 * i + c) = (pl i c : Int) := by
  have h : ∀ k, k < 32 → 0 ≤ gi places k := by decide
  unfold pl
  by_cases hk : 4 * i + c < 32
  · have := h _ hk; omega
  · have : gi places (4 * i + c) = 0 := by
      unfold gi
      rw [List.getD_eq_getElem?_getD, List.getElem?_eq_none (by show 32 ≤ _; omega)]; rfl
    rw [this]; rfl
theorem pl_ne (i : Nat) (h : i < 8) : pl i 0 ≠ pl i 1 ∧ pl i 0 ≠ pl i 2 ∧ pl i 0 ≠ pl i 3 ∧ pl i 1 ≠ pl i 2 ∧ pl i 1 ≠ pl i 3 ∧ pl i 2 ≠ pl i 3 := by
  have h2 : ∀ i, i < 8 → pl i 0 ≠ pl i 1 ∧ pl i 0 ≠ pl i 2 ∧ pl i 0 ≠ pl i 3 ∧ pl i 1 ≠ pl i 2 ∧ pl i 1 ≠ pl i 3 ∧ pl i 2 ≠ pl i 3 := by decide
  exact h2 i h
theorem quarter_sets (l : List Int) (hl : l.length = 16) (a b c d : Nat) (ha : a < 16) (hb : b < 16) (hc : c < 16) (hd : d < 16)
    (h : a ≠ b ∧ a ≠ c ∧ a ≠ d ∧ b ≠ c ∧ b ≠ d ∧ c ≠ d) :
    quarter l a b c d = (((l.set a (q2a (gi l a) (gi l b) (gi l c) (gi l d))).set b (q2b (gi l a) (gi l b) (gi l c) (gi l d))).set c (q2c (gi l a) (gi l b) (gi l c) (gi l d))).set d (q2d (gi l a) (gi l b) (gi l c) (gi l d)) := by
  obtain ⟨hab, hac, had, hbc, hbd, hcd⟩ := h
  have hab' := hab.symm; have hac' := hac.symm; have had' := had.symm; have hbc' := hbc.symm; have hbd' := hbd.symm; have hcd' := hcd.symm
  apply list_ext_gi
  · simp [quarter_len]
  · intro i hi
    rw [quarter_len, hl] at hi
    unfold quarter turnBy addTo
    dsimp only
    by_cases ia : i = a
    · subst ia
      simp [gi_set, hl, hi, hb, hc, hd, hab, hac, had, hbc, hbd, hcd, hab', hac', had', hbc', hbd', hcd', q2a, q1a, q1b, q1c, q1d]
    by_cases ib : i = b
    · subst ib
      simp [gi_set, hl, hi, ha, hc, hd, hab, hac, had, hbc, hbd, hcd, hab', hac', had', hbc', hbd', hcd', q2a, q2b, q2c, q2d, q1a, q1b, q1c, q1d]
    by_cases ic : i = c
    · subst ic
      simp [gi_set, hl, hi, ha, hb, hd, hab, hac, had, hbc, hbd, hcd, hab', hac', had', hbc', hbd', hcd', q2a, q2b, q2c, q2d, q1a, q1b, q1c, q1d]
    by_cases id : i = d
    · subst id
      simp [gi_set, hl, hi, ha, hb, hc, hab, hac, had, hbc, hbd, hcd, hab', hac', had', hbc', hbd', hcd', q2a, q2b, q2c, q2d, q1a, q1b, q1c, q1d]
    have ja := Ne.symm ia; have jb := Ne.symm ib; have jc := Ne.symm ic; have jd := Ne.symm id
    simp [gi_set, hl, ha, hb, hc, hd, ja, jb, jc, jd]
/-- the first k quarter rounds of the eight -/
def plTo (l : List Int) : Nat → List Int
  | 0 => l
  | k + 1 => quarter (plTo l k) (pl k 0) (pl k 1) (pl k 2) (pl k 3)
theorem plTo_len (l : List Int) (k : Nat) : (plTo l k).length = l.length := by induction k <;> simp_all [plTo, quarter_len]
theorem refQuarter_same (a b c d : Int) (w : World) : Calls Try.prog 14 #[.int .u32 a, .int .u32 b, .int .u32 c, .int .u32 d] w fun e w' =>
    e = .returned (.tuple #[.int .u32 (q2a a b c d), .int .u32 (q2b a b c d), .int .u32 (q2c a b c d), .int .u32 (q2d a b c d)]) ∧ w' = w :=
  (refQuarter a b c d w).mono fun _ _ ⟨h, h2⟩ => ⟨h, h2.symm⟩
theorem plTo_all (l : List Int) : plTo l 8 = diags (cols l 4) 4 := by
  have e : ∀ i, i < 8 → pl i 0 = [0,1,2,3,0,1,2,3].getD i 0 ∧ pl i 1 = [4,5,6,7,5,6,7,4].getD i 0 ∧ pl i 2 = [8,9,10,11,10,11,8,9].getD i 0 ∧ pl i 3 = [12,13,14,15,15,12,13,14].getD i 0 := by decide
  simp only [plTo, diags, cols]
  rw [(e 0 (by omega)).1, (e 0 (by omega)).2.1, (e 0 (by omega)).2.2.1, (e 0 (by omega)).2.2.2,
    (e 1 (by omega)).1, (e 1 (by omega)).2.1, (e 1 (by omega)).2.2.1, (e 1 (by omega)).2.2.2,
    (e 2 (by omega)).1, (e 2 (by omega)).2.1, (e 2 (by omega)).2.2.1, (e 2 (by omega)).2.2.2,
    (e 3 (by omega)).1, (e 3 (by omega)).2.1, (e 3 (by omega)).2.2.1, (e 3 (by omega)).2.2.2,
    (e 4 (by omega)).1, (e 4 (by omega)).2.1, (e 4 (by omega)).2.2.1, (e 4 (by omega)).2.2.2,
    (e 5 (by omega)).1, (e 5 (by omega)).2.1, (e 5 (by omega)).2.2.1, (e 5 (by omega)).2.2.2,
    (e 6 (by omega)).1, (e 6 (by omega)).2.1, (e 6 (by omega)).2.2.1, (e 6 (by omega)).2.2.2,
    (e 7 (by omega)).1, (e 7 (by omega)).2.1, (e 7 (by omega)).2.2.1, (e 7 (by omega)).2.2.2]
  rfl

/-- what the reference's Block keeps: the words at first, the words now, the places -/
structure RB (w : World) (b7 b8 b9 : Nat) (l m : List Int) (W : World) : Prop where
  first : Row W b7 42 .u32 l
  now : Row W b8 42 .u32 m
  pls : Row W b9 49 .i64 places
  below : Below w.heap.size w W
  lo : w.heap.size ≤ b7 ∧ w.heap.size ≤ b8 ∧ w.heap.size ≤ b9 ∧ b8 ≠ b7 ∧ b8 ≠ b9
theorem RB.drewN {w W : World} {b7 b8 b9 : Nat} {l m : List Int} (h : RB w b7 b8 b9 l m W) (n : Nat) : RB w b7 b8 b9 l m (W.drewN n) := ⟨h.first, h.now, h.pls, below_drewN h.below n, h.lo⟩
theorem RB.alloc {w W : World} {b7 b8 b9 : Nat} {l m : List Int} (h : RB w b7 b8 b9 l m W) (o : Obj) : RB w b7 b8 b9 l m (W.alloc o) := ⟨h.first.alloc _, h.now.alloc _, h.pls.alloc _, h.below.alloc h.below.size _, h.lo⟩
theorem RB.store {w W : World} {b7 b8 b9 : Nat} {l m : List Int} (h : RB w b7 b8 b9 l m W) (i : Nat) (x : Int) : RB w b7 b8 b9 l (m.set i x) (W.setCell ⟨b8, i, none⟩ (.int .u32 x)) :=
  ⟨h.first.far (by have := h.lo; simp; omega) _, h.now.set_ i x, h.pls.far (by have := h.lo; simp; omega) _, h.below.setCell h.lo.2.1 _, h.lo⟩
theorem RB.grown {w W W' : World} {b7 b8 b9 : Nat} {l m : List Int} (h : RB w b7 b8 b9 l m W) (hb : Below W.heap.size W W') : RB w b7 b8 b9 l m W' :=
  ⟨h.first.below hb h.first.lt, h.now.below hb h.now.lt, h.pls.below hb h.pls.lt, h.below.trans (hb.mono h.below.size), h.lo⟩
/-- the same with the places of one quarter round -/
structure RC (w : World) (b7 b8 b9 b12 : Nat) (l m : List Int) (p0 p1 p2 p3 : Nat) (W : World) : Prop where
  rb : RB w b7 b8 b9 l m W
  c0 : W.cell? ⟨b12, 0, none⟩ = some (.int .i64 p0)
  c1 : W.cell? ⟨b12, 1, none⟩ = some (.int .i64 p1)
  c2 : W.cell? ⟨b12, 2, none⟩ = some (.int .i64 p2)
  c3 : W.cell? ⟨b12, 3, none⟩ = some (.int .i64 p3)
  ne : b8 ≠ b12
theorem RC.drewN {w W : World} {b7 b8 b9 b12 : Nat} {l m : List Int} {p0 p1 p2 p3 : Nat} (h : RC w b7 b8 b9 b12 l m p0 p1 p2 p3 W) (n : Nat) : RC w b7 b8 b9 b12 l m p0 p1 p2 p3 (W.drewN n) :=
  ⟨h.rb.drewN n, h.c0, h.c1, h.c2, h.c3, h.ne⟩
theorem RC.store {w W : World} {b7 b8 b9 b12 : Nat} {l m : List Int} {p0 p1 p2 p3 : Nat} (h : RC w b7 b8 b9 b12 l m p0 p1 p2 p3 W) (i : Nat) (x : Int) : RC w b7 b8 b9 b12 l (m.set i x) p0 p1 p2 p3 (W.setCell ⟨b8, i, none⟩ (.int .u32 x)) :=
  ⟨h.rb.store i x, (World.cell?_setCell_far _ _ _ _ h.ne).trans h.c0, (World.cell?_setCell_far _ _ _ _ h.ne).trans h.c1, (World.cell?_setCell_far _ _ _ _ h.ne).trans h.c2, (World.cell?_setCell_far _ _ _ _ h.ne).trans h.c3, h.ne⟩
theorem RC.start {w wr : World} {b7 b8 b9 : Nat} {l m : List Int} {p0 p1 p2 p3 : Nat} (h : RB w b7 b8 b9 l m wr) :
    RC w b7 b8 b9 wr.heap.size l m p0 p1 p2 p3 (wr.alloc (.cells #[.int .i64 p0, .int .i64 p1, .int .i64 p2, .int .i64 p3] 48)) :=
  ⟨h.alloc _, by rw [cell_of_row _ _ _ _ _ _ (heap_alloc_new _ _)]; rfl, by rw [cell_of_row _ _ _ _ _ _ (heap_alloc_new _ _)]; rfl, by rw [cell_of_row _ _ _ _ _ _ (heap_alloc_new _ _)]; rfl, by rw [cell_of_row _ _ _ _ _ _ (heap_alloc_new _ _)]; rfl, by have := h.now.lt; omega⟩
/-- a word's four bytes -/
def four (x : Int) : List Int := [x % 256, x / 256 % 256, x / 65536 % 256, x / 16777216 % 256]
/-- the bytes of the first sums, one after another -/
def outR (m l : List Int) : Nat → List Int
  | 0 => []
  | k + 1 => outR m l k ++ four (addU (gi m k) (gi l k))
theorem outR_len (m l : List Int) (k : Nat) : (outR m l k).length = 4 * k := by
  induction k with
  | zero => rfl
  | succ k ih => simp [outR, four, ih]; omega
theorem put4_front (o : List Int) (k n : Nat) (h : o.length = 4 * k) (x : Int) : put4 (o ++ zeros (n + 4)) k x = (o ++ four x) ++ zeros n := by
  have z : zeros (n + 4) = 0 :: 0 :: 0 :: 0 :: zeros n := rfl
  unfold put4 four
  rw [z]
  simp [h]
theorem outTo_front (m l : List Int) (k : Nat) (h : k ≤ 16) : outTo m l k = outR m l k ++ zeros (64 - 4 * k) := by
  induction k with
  | zero => rfl
  | succ k ih =>
    rw [outTo, outR, ih (by omega), show 64 - 4 * k = (64 - 4 * (k + 1)) + 4 by omega, put4_front _ _ _ (outR_len _ _ _)]
theorem outR_all (m l : List Int) : outR m l 16 = outTo m l 16 := by
  rw [outTo_front m l 16 (by omega)]
  exact (List.append_nil _).symm
structure RO (w : World) (b7 b8 b9 base : Nat) (l m : List Int) (k : Nat) (v : Value) (W : World) : Prop where
  rb : RB w b7 b8 b9 l m W
  own : OwnB W base 5 v (outR m l k)
  lo : b7 < base ∧ b8 < base ∧ b9 < base ∧ base ≤ W.heap.size
theorem RO.start {w W : World} {b7 b8 b9 : Nat} {l m : List Int} (h : RB w b7 b8 b9 l m W) : RO w b7 b8 b9 W.heap.size l m 0 (.slice none 0 0) W :=
  ⟨h, OwnB.nil _ _ _, by have := h.first.lt; have := h.now.lt; have := h.pls.lt; omega⟩
theorem RO.drewN {w W : World} {b7 b8 b9 base k : Nat} {v : Value} {l m : List Int} (h : RO w b7 b8 b9 base l m k v W) (n : Nat) : RO w b7 b8 b9 base l m k v (W.drewN n) := ⟨h.rb.drewN n, h.own, h.lo⟩
theorem RO.alloc {w W : World} {b7 b8 b9 base k : Nat} {v : Value} {l m : List Int} (h : RO w b7 b8 b9 base l m k v W) (o : Obj) : RO w b7 b8 b9 base l m k v (W.alloc o) := ⟨h.rb.alloc _, h.own.alloc _, by have := h.lo; simp; omega⟩
theorem RO.more {w W W' : World} {b7 b8 b9 base k : Nat} {v v' : Value} {l m : List Int} (h : RO w b7 b8 b9 base l m k v W)
    (ho : W'.ownsRow base 5 1 v' ((outR m l k).length + 4) ((outR m l k).map (Value.int .u8) ++ (four (addU (gi m k) (gi l k))).map (Value.int .u8))) (hg : W.grownBy W' v.ownBlock) : RO w b7 b8 b9 base l m (k + 1) v' W' := by
  have hlo := h.own.lo
  obtain ⟨l7, l8, l9, ls⟩ := h.lo
  refine ⟨⟨h.rb.first.grew hg hlo l7, h.rb.now.grew hg hlo l8, h.rb.pls.grew hg hlo l9, h.rb.below.grown hg h.rb.below.size (fun r hr => ?_), h.rb.lo⟩, OwnB.more rfl ho, l7, l8, l9, Nat.le_trans ls hg.size⟩
  have := hlo r hr
  have := h.rb.lo
  omega
theorem info_u8 : (Try.prog.info? 5).map (fun i => (i.zero, i.size, i.bytes)) = some (some (.int .u8 0), 1, 1) := by kernel_rfl
set_option maxRecDepth 100000 in
set_option maxHeartbeats 1000000 in
theorem refblock_any (kb : List Int) (hk : kb.length = 32) (hkb : Bytes kb) (s : ByteArray) (hs : s.size = 12) (ct : Int) (w : World) :
    Calls Try.prog 10 #[.agg (ints .u8 kb), .string s, .int .u32 ct] w fun e w' => e = .returned (.string (strOfNums (mixF (beginF kb s ct)))) ∧ Below w.heap.size w w' := by
  obtain ⟨i0, hi, hz0, hz1, hz2⟩ := info_parts info_u8
  have HI := hide hi
  have HZ := hide (And.intro hz0 (And.intro hz1 hz2))
  clear hi hz0 hz1 hz2
  have RW := hide (refwords_any kb hk hkb s hs ct)
  have PA := hide places_any
  have RQS := hide refQuarter_same
  obtain ⟨l, hl⟩ : ∃ l, l = beginF kb s ct := ⟨_, rfl⟩
  have ll : l.length = 16 := by rw [hl, beginF_len]
  rw [← hl] at RW ⊢
  have K23 : Hid ((Try.prog.info? 23).map (·.size) = some (ints .u8 kb).size) := by show _ = _; rw [ints_size, hk]; kernel_rfl
  have I42 := hide (sz42 l ll)
  have Z42 : Hid ((ints .u32 (zeros 16)).size = (ints .u32 l).size) := by show _ = _; rw [ints_size, ints_size, ll]; rfl
  have HR0 : Hid (Row (w.alloc (.cells (ints .u8 kb) 23)) w.heap.size 23 .u8 kb) := Row.new _ _ _ _
  have LL := hide ll
  have S49 := hide sz49
  have Z49 : Hid ((ints .i64 (List.replicate 32 0)).size = (ints .i64 places).size) := by show _ = _; rw [ints_size, ints_size]; rfl
  clear hl hk hs ll
  go_enter Try.func10, Try.ntmps10
  go_wp2_with (first | (refine wpList_load_row rfl 23 _ rfl _ rfl 23 (ints .u8 kb) (0, 0) _ HR0.out Try.underlying23 rfl K23.out ?_))
  refine (RW.out _).mono ?_
  rintro e W1 ⟨rfl, hb1⟩
  have HB1 : Hid (Below w.heap.size w W1) := ((Below.refl _ _).alloc (Nat.le_refl _) _).trans (hb1.mono (by simp))
  clear hb1 HR0
  go_upto_region 2 with (first | (refine wpList_store_row rfl 42 _ _ rfl _ (ints .u32 l) rfl rfl 42 _ (heap_alloc_new _ _) I42.out Z42.out (ints_one _ _) ?_))
  generalize hW2 : (W1.alloc _).setRow W1.heap.size _ = W2
  have R7 : Hid (Row W2 W1.heap.size 42 .u32 l) := by show Row _ _ _ _ _; rw [← hW2]; exact setRow_heap _ _ _ _ 42 _ (heap_alloc_new _ _)
  have B7 : Hid (Below w.heap.size w W2 ∧ w.heap.size ≤ W1.heap.size ∧ W1.heap.size < W2.heap.size) := by
    show _ ∧ _ ∧ _
    rw [← hW2]
    exact ⟨below_setRow (HB1.out.alloc HB1.out.size _) HB1.out.size _, HB1.out.size, by simp⟩
  clear hW2 HB1
  generalize W1.heap.size = b7 at *
  go_upto_region 3 with (first | (refine wpList_load_row rfl 42 _ rfl _ rfl 42 (ints .u32 l) (0, 0) _ R7.out Try.underlying42 rfl I42.out ?_) | (refine wpList_store_row rfl 42 _ _ rfl _ (ints .u32 l) rfl rfl 42 _ (heap_alloc_new _ _) I42.out Z42.out (ints_one _ _) ?_))
  generalize hW3 : (W2.alloc _).setRow W2.heap.size _ = W3
  have R8 : Hid (Row W3 W2.heap.size 42 .u32 l) := by show Row _ _ _ _ _; rw [← hW3]; exact setRow_heap _ _ _ _ 42 _ (heap_alloc_new _ _)
  have R72 : Hid (Row W3 b7 42 .u32 l) := by show Row _ _ _ _ _; rw [← hW3]; exact (R7.out.alloc _).farRow (by have := B7.out.2.2; omega) _
  have B8 : Hid (Below w.heap.size w W3 ∧ w.heap.size ≤ b7 ∧ b7 < W2.heap.size ∧ W2.heap.size < W3.heap.size) := by
    show _ ∧ _ ∧ _ ∧ _
    rw [← hW3]
    exact ⟨below_setRow (B7.out.1.alloc B7.out.1.size _) B7.out.1.size _, B7.out.2.1, B7.out.2.2, by simp⟩
  clear hW3 R7 B7
  generalize W2.heap.size = b8 at *
  go_wp2_with fail
  refine (PA.out _).mono ?_
  rintro e W4 ⟨rfl, hb4⟩
  have R8b := hide (R8.out.below hb4 R8.out.lt)
  have R7b := hide (R72.out.below hb4 R72.out.lt)
  have B9 : Hid (Below w.heap.size w W4 ∧ w.heap.size ≤ b7 ∧ b7 < b8 ∧ b8 < W4.heap.size) := ⟨B8.out.1.trans (hb4.mono B8.out.1.size), B8.out.2.1, B8.out.2.2.1, by have := B8.out.2.2.2; have := hb4.size; omega⟩
  clear hb4 R8 R72 B8
  go_upto_region 4 with (first | (refine wpList_store_row rfl 49 _ _ rfl _ (ints .i64 places) rfl rfl 49 _ (heap_alloc_new _ _) S49.out Z49.out (ints_one _ _) ?_))
  generalize hW5 : (W4.alloc _).setRow W4.heap.size _ = W5
  have hM : RB w b7 b8 W4.heap.size l l W5 := by
    rw [← hW5]
    have h1 := B9.out.1.size
    have h2 := B9.out.2.1
    have h3 := B9.out.2.2.1
    have h4 := B9.out.2.2.2
    exact ⟨(R7b.out.alloc _).farRow (by omega) _, (R8b.out.alloc _).farRow (by omega) _, setRow_heap _ _ _ _ 49 _ (heap_alloc_new _ _), below_setRow (B9.out.1.alloc h1 _) h1 _, by omega⟩
  clear hW5 R7b R8b B9
  generalize W4.heap.size = b9 at *
  clear RW PA K23 I42 Z42 S49 Z49
  go_wp2
  go_loopw [10] (fun i W => ∃ k : Nat, k ≤ 10 ∧ i = .int .i64 k ∧ RB w b7 b8 b9 l (rounds l k) W) (fun i _ => 10 - (intOf i).toNat)
  case atStart => exact ⟨0, by omega, rfl, hM⟩
  case round =>
    clear hM
    obtain ⟨k, hk, rfl, hM⟩ := hrel
    by_cases hlt : k < 10
    · obtain ⟨m, hm⟩ : ∃ m, m = rounds l k := ⟨_, rfl⟩
      have HML : Hid (m.length = 16) := by show _ = _; rw [hm, rounds_len, LL.out]
      rw [← hm] at hM
      have HM := hide hm
      clear hm
      go_wp2
      go_loopw [11] (fun i W => ∃ j : Nat, j ≤ 8 ∧ i = .int .i64 j ∧ RB w b7 b8 b9 l (plTo m j) W) (fun i _ => 8 - (intOf i).toNat)
      case atStart => exact ⟨0, by omega, rfl, hM⟩
      case round =>
        clear hM
        obtain ⟨j, hj, rfl, hM⟩ := hrel
        by_cases hlt2 : j < 8
        · have c0 := hM.pls.at_ (i := 4 * j + 0) (by show 4 * j + 0 < 32; omega)
          have c1 := hM.pls.at_ (i := 4 * j + 1) (by show 4 * j + 1 < 32; omega)
          have c2 := hM.pls.at_ (i := 4 * j + 2) (by show 4 * j + 2 < 32; omega)
          have c3 := hM.pls.at_ (i := 4 * j + 3) (by show 4 * j + 3 < 32; omega)
          rw [pl_int, Nat.mul_comm 4 j] at c0 c1 c2 c3
          rw [Nat.add_zero] at c0
          have HPN := hide (pl_ne j hlt2)
          have HP0 := hide (pl_lt j 0)
          have HP1 := hide (pl_lt j 1)
          have HP2 := hide (pl_lt j 2)
          have HP3 := hide (pl_lt j 3)
          have HQ : Hid (plTo m (j + 1) = quarter (plTo m j) (pl j 0) (pl j 1) (pl j 2) (pl j 3)) := rfl
          have HN : Hid ((plTo m j).length = 16) := by show _ = _; rw [plTo_len, HML.out]
          have HMM := hide hM
          clear hM
          generalize pl j 0 = p0 at *
          generalize pl j 1 = p1 at *
          generalize pl j 2 = p2 at *
          generalize pl j 3 = p3 at *
          go_upto_region 11 with fail
          clear c0 c1 c2 c3
          have HA := hide (RC.start (p0 := p0) (p1 := p1) (p2 := p2) (p3 := p3) HMM.out)
          generalize wr.alloc (.cells #[.int .i64 p0, .int .i64 p1, .int .i64 p2, .int .i64 p3] 48) = WA at *
          generalize wr.heap.size = b12 at *
          clear HMM
          have d0 := HA.out.c0
          have d1 := HA.out.c1
          have d2 := HA.out.c2
          have d3 := HA.out.c3
          have hl0 := HP0.out
          have hl1 := HP1.out
          have hl2 := HP2.out
          have hl3 := HP3.out
          have e0 := HA.out.rb.now.at_ (i := p0) (by rw [HN.out]; exact hl0)
          have e1 := HA.out.rb.now.at_ (i := p1) (by rw [HN.out]; exact hl1)
          have e2 := HA.out.rb.now.at_ (i := p2) (by rw [HN.out]; exact hl2)
          have e3 := HA.out.rb.now.at_ (i := p3) (by rw [HN.out]; exact hl3)
          have z0 : (0 : Int) ≤ p0 := by omega
          have z1 : (0 : Int) ≤ p1 := by omega
          have z2 : (0 : Int) ≤ p2 := by omega
          have z3 : (0 : Int) ≤ p3 := by omega
          have y0 : (p0 : Int) < 16 := by omega
          have y1 : (p1 : Int) < 16 := by omega
          have y2 : (p2 : Int) < 16 := by omega
          have y3 : (p3 : Int) < 16 := by omega
          go_quiet (first | (go_at_call 14; refine Calls.quiet_of_same (RQS.out _ _ _ _ _)))
          have HSS : Hid (plTo m (j + 1) = ((((plTo m j).set p0 (q2a (gi (plTo m j) p0) (gi (plTo m j) p1) (gi (plTo m j) p2) (gi (plTo m j) p3))).set p1 (q2b (gi (plTo m j) p0) (gi (plTo m j) p1) (gi (plTo m j) p2) (gi (plTo m j) p3))).set p2 (q2c (gi (plTo m j) p0) (gi (plTo m j) p1) (gi (plTo m j) p2) (gi (plTo m j) p3))).set p3 (q2d (gi (plTo m j) p0) (gi (plTo m j) p1) (gi (plTo m j) p2) (gi (plTo m j) p3))) := by
            show _ = _
            rw [HQ.out]
            exact quarter_sets _ HN.out p0 p1 p2 p3 hl0 hl1 hl2 hl3 HPN.out
          clear e0 e1 e2 e3 d0 d1 d2 d3 HQ
          generalize q2a (gi (plTo m j) p0) (gi (plTo m j) p1) (gi (plTo m j) p2) (gi (plTo m j) p3) = x0 at *
          generalize q2b (gi (plTo m j) p0) (gi (plTo m j) p1) (gi (plTo m j) p2) (gi (plTo m j) p3) = x1 at *
          generalize q2c (gi (plTo m j) p0) (gi (plTo m j) p1) (gi (plTo m j) p2) (gi (plTo m j) p3) = x2 at *
          generalize q2d (gi (plTo m j) p0) (gi (plTo m j) p1) (gi (plTo m j) p2) (gi (plTo m j) p3) = x3 at *
          have K0 := hide (HA.out.drewN nq)
          clear HA
          generalize WA.drewN nq = WB at *
          have d := K0.out.c0
          have c := K0.out.rb.now.at_ (i := p0) (by rw [HN.out]; exact hl0)
          have f := K0.out.rb.now.free p0
          go_upto_region 13 with fail
          have K1 := hide (K0.out.store p0 x0)
          generalize WB.setCell ⟨b8, p0, none⟩ (.int .u32 x0) = WC at *
          clear d c f K0
          have d := K1.out.c1
          have c := K1.out.rb.now.at_ (i := p1) (by rw [List.length_set, HN.out]; exact hl1)
          have f := K1.out.rb.now.free p1
          go_upto_region 14 with fail
          have K2 := hide (K1.out.store p1 x1)
          generalize WC.setCell ⟨b8, p1, none⟩ (.int .u32 x1) = WD at *
          clear d c f K1
          have d := K2.out.c2
          have c := K2.out.rb.now.at_ (i := p2) (by rw [List.length_set, List.length_set, HN.out]; exact hl2)
          have f := K2.out.rb.now.free p2
          go_upto_region 15 with fail
          have K3 := hide (K2.out.store p2 x2)
          generalize WD.setCell ⟨b8, p2, none⟩ (.int .u32 x2) = WE at *
          clear d c f K2
          have d := K3.out.c3
          have c := K3.out.rb.now.at_ (i := p3) (by rw [List.length_set, List.length_set, List.length_set, HN.out]; exact hl3)
          have f := K3.out.rb.now.free p3
          have K4 : Hid (RB w b7 b8 b9 l (plTo m (j + 1)) (WE.setCell ⟨b8, p3, none⟩ (.int .u32 x3))) := by show RB _ _ _ _ _ _ _; rw [HSS.out]; exact (K3.out.store p3 x3).rb
          clear K3
          go_wp2
          exact ⟨⟨j + 1, by omega, by go_num, K4.out⟩, by simp [intOf]; omega⟩
        · have hj8 : j = 8 := by omega
          rw [hj8, plTo_all] at hM
          clear hj8
          have e : diags (cols m 4) 4 = rounds l (k + 1) := by rw [HM.out]; rfl
          rw [e] at hM
          clear e
          go_wp2
          exact ⟨⟨k + 1, by omega, by go_num, hM⟩, by simp [intOf]; omega⟩
    · have hk10 : k = 10 := by omega
      rw [hk10] at hM
      clear hk10
      obtain ⟨m, hm⟩ : ∃ m, m = rounds l 10 := ⟨_, rfl⟩
      have HML : Hid (m.length = 16) := by show _ = _; rw [hm, rounds_len, LL.out]
      rw [← hm] at hM
      have HM := hide hm
      clear hm
      have hO := RO.start hM
      generalize wr.heap.size = base at hO
      clear hM
      go_wp2
      go_loopw [17, 18] (fun v i W => ∃ k : Nat, k ≤ 16 ∧ i = .int .i64 k ∧ RO w b7 b8 b9 base l m k v W) (fun _ i _ => 16 - (intOf i).toNat)
      case atStart => exact ⟨0, by omega, rfl, hO⟩
      case round =>
        clear hO
        obtain ⟨q, hq, rfl, hO⟩ := hrel
        by_cases hlt3 : q < 16
        · have q0 : (0 : Int) ≤ q := by omega
          have q1 : (q : Int) < 16 := by omega
          have c1 := hO.rb.now.at_ (i := q) (by rw [HML.out]; omega)
          have c2 := hO.rb.first.at_ (i := q) (by rw [LL.out]; omega)
          have HO := hide hO
          clear hO
          go_upto_region 20 with fail
          go_quiet (fail)
          clear c1 c2
          have HON := hide (HO.out.drewN nq)
          clear HO
          generalize wr.drewN nq = WB at *
          have hx0 : 0 ≤ (gi m q + gi l q) % 4294967296 := by omega
          have hx1 : (gi m q + gi l q) % 4294967296 ≤ 4294967295 := by omega
          have HX : Hid ((gi m q + gi l q) % 4294967296 = addU (gi m q) (gi l q)) := rfl
          generalize (gi m q + gi l q) % 4294967296 = x at *
          have HF : Hid ((four (addU (gi m q) (gi l q))).map (Value.int .u8) = [.int .u8 (x % 256), .int .u8 (x / 256 % 256), .int .u8 (x / 65536 % 256), .int .u8 (x / 16777216)]) := by
            show _ = _
            rw [← HX.out]
            simp only [four, List.map_cons, List.map_nil]
            rw [show x / 16777216 % 256 = x / 16777216 by omega]
          have hol : (outR m l q).length ≤ 64 := by rw [outR_len]; omega
          have HOL := hide hol
          clear hol
          have HAL := hide (fun o => HON.out.alloc o)
          go_wp2_with (at_builtin; refine wpList_append_own _ rfl _ _ 46 rfl base 5 i0 (.int .u8 0) 1 1 Try.underlying46 HI.out HZ.out.1 HZ.out.2.1 HZ.out.2.2 rfl (by decide) _ _ _ rfl (HAL.out _).own ⟨WB.heap.size, 0, none⟩ 4 4 [.int .u8 (x % 256), .int .u8 (x / 256 % 256), .int .u8 (x / 65536 % 256), .int .u8 (x / 16777216)] rfl rfl ?c1 ?c2 ?c3 ?c4 ?c5 ?_)
          case c1 => exact news_new _ _ _
          case c2 => simp [Value.oneCell']
          case c3 => have := HOL.out; unfold maxLen; omega
          case c4 => have := HOL.out; omega
          case c5 => exact (HAL.out _).lo.2.2.2
          intro v' w1 hown1 hgrow _
          rw [← HF.out] at hown1
          have hN := (HAL.out _).more hown1 hgrow
          clear hown1 hgrow
          go_wp2
          exact ⟨⟨q + 1, by omega, by go_num, hN⟩, by simp [intOf]; omega⟩
        · have hq16 : q = 16 := by omega
          rw [hq16] at hO
          clear hq16
          have cv := hO.own.conv Try.underlying46 Try.underlying5 Try.underlying9
          rw [outR_all] at cv
          have HB := hide hO.rb.below
          clear hO
          have e : outTo m l 16 = mixF l := by rw [HM.out]; rfl
          rw [e] at cv
          clear e
          go_wp2
          go_ret
          exact ⟨rfl, HB.out⟩
end Go.Proofs.Ytocademajjkecaa
