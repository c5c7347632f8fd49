/-
  Mask of the stream, by its text: each byte masked by the stream's byte at its place, or the refusal.
-/
import Derived.Test.YtocademajjkecaaAlive
import Derived.Test.YtocademajjkecaaBuf
import Derived.Test.YtocademajjkecaaTurn
import Derived.Deep.DeepCutAuto
namespace Go.Proofs.Ytocademajjkecaa
open Go.RowKit
/-- the words of the block with this number, ahead of all rounds -/
def blk (kb : List Int) (s : ByteArray) (ct : Int) (j : Nat) : List Int := (beginF kb s ct).set 12 ((ct + j) % 4294967296)
theorem blk_len (kb : List Int) (s : ByteArray) (ct : Int) (j : Nat) : (blk kb s ct j).length = 16 := by rw [blk, List.length_set, beginF_len]
theorem blk_zero (kb : List Int) (s : ByteArray) (ct : Int) (h : W32 ct) : blk kb s ct 0 = beginF kb s ct := by
  apply list_ext_gi
  · rw [blk_len, beginF_len]
  · intro i hi
    rw [blk, gi_set _ _ _ _ (by rw [beginF_len]; omega)]
    split
    · rename_i e
      subst e
      have e1 : gi (beginF kb s ct) 12 = ct := by
        unfold beginF
        simp only [begN]
        rw [gi_set_other _ _ _ _ (by omega), gi_set_other _ _ _ _ (by omega), gi_set_other _ _ _ _ (by omega), gi_set_same _ _ _ (by rw [begK_len]; omega)]
      rw [e1]
      have := h.1
      have := h.2
      omega
    · rfl
theorem blk_succ (kb : List Int) (s : ByteArray) (ct : Int) (j : Nat) : blk kb s ct (j + 1) = (blk kb s ct j).set 12 ((gi (blk kb s ct j) 12 + 1) % 4294967296) := by
  have e : gi (blk kb s ct j) 12 = (ct + j) % 4294967296 := gi_set_same _ _ _ (by rw [beginF_len]; omega)
  rw [e]
  unfold blk
  rw [List.set_set]
  congr 1
  omega
/-- the stream's byte at a place -/
def ks (kb : List Int) (s : ByteArray) (ct : Int) (k : Nat) : Int := gi (mixF (blk kb s ct (k / 64))) (k % 64)
/-- the first k bytes masked -/
def mskTo (f : Nat → Int) (l : List Int) : Nat → List Int
  | 0 => l
  | k + 1 => (mskTo f l k).set k (bits .xor .u8 (gi l k) (f k))
theorem mskTo_len (f : Nat → Int) (l : List Int) (k : Nat) : (mskTo f l k).length = l.length := by induction k <;> simp_all [mskTo]
theorem mskTo_at (f : Nat → Int) (l : List Int) (k i : Nat) (h : k ≤ i) : gi (mskTo f l k) i = gi l i := by
  induction k with
  | zero => rfl
  | succ k ih => rw [mskTo, gi_set_other _ _ _ _ (by omega), ih (by omega)]
theorem mskTo_done (f : Nat → Int) (l : List Int) (k i : Nat) (h : i < k) (hk : k ≤ l.length) : gi (mskTo f l k) i = bits .xor .u8 (gi l i) (f i) := by
  induction k with
  | zero => omega
  | succ k ih =>
    rw [mskTo]
    by_cases e : k = i
    · subst e; rw [gi_set_same _ _ _ (by rw [mskTo_len]; omega)]
    · rw [gi_set_other _ _ _ _ e, ih (by omega) (by omega)]
/-- what Mask keeps -/
structure MK (w : World) (bo bf : Nat) (o m : List Int) (W : World) : Prop where
  out : Buf W bo 5 o
  first : Row W bf 43 .u32 m
  below : Below w.heap.size w W
  lo : w.heap.size ≤ bo ∧ w.heap.size ≤ bf ∧ bo ≠ bf
theorem MK.below_ {w W W' : World} {bo bf : Nat} {o m : List Int} (h : MK w bo bf o m W) (hb : Below W.heap.size W W') : MK w bo bf o m W' :=
  ⟨h.out.below hb h.out.lt, h.first.below hb h.first.lt, h.below.trans (hb.mono h.below.size), h.lo⟩
theorem MK.put {w W : World} {bo bf : Nat} {o m : List Int} (h : MK w bo bf o m W) {i : Nat} (hi : i < o.length) (x : Int) : MK w bo bf (o.set i x) m (W.setCell ⟨bo, i, none⟩ (.int .u8 x)) :=
  ⟨h.out.set_ hi x, h.first.far (by have := h.lo; simp; omega) _, h.below.setCell h.lo.1 _, h.lo⟩
theorem MK.count {w W : World} {bo bf : Nat} {o m : List Int} (h : MK w bo bf o m W) (i : Nat) (x : Int) : MK w bo bf o (m.set i x) (W.setCell ⟨bf, i, none⟩ (.int .u32 x)) :=
  ⟨h.out.far (by have := h.lo; simp; omega) _, h.first.set_ i x, h.below.setCell h.lo.2.1 _, h.lo⟩
/-- the same with a block's bytes -/
structure MN (w : World) (bo bf bs : Nat) (o m st : List Int) (W : World) : Prop where
  k : MK w bo bf o m W
  str : Row W bs 41 .u8 st
  lo : w.heap.size ≤ bs ∧ bs ≠ bo ∧ bs ≠ bf
theorem MN.start {w W : World} {bo bf : Nat} {o m : List Int} (h : MK w bo bf o m W) (old : Array Value) (st : List Int) : MN w bo bf W.heap.size o m st ((W.alloc (.cells old 41)).setRow W.heap.size (ints .u8 st)) := by
  have l1 := h.out.lt
  have l2 := h.first.lt
  have l3 := h.below.size
  exact ⟨⟨(h.out.alloc _).farRow (by omega) _, (h.first.alloc _).farRow (by omega) _, below_setRow (h.below.alloc l3 _) l3 _, h.lo⟩, setRow_heap _ _ _ _ 41 _ (heap_alloc_new _ _), by omega⟩
theorem MN.put {w W : World} {bo bf bs : Nat} {o m st : List Int} (h : MN w bo bf bs o m st W) {i : Nat} (hi : i < o.length) (x : Int) : MN w bo bf bs (o.set i x) m st (W.setCell ⟨bo, i, none⟩ (.int .u8 x)) :=
  ⟨h.k.put hi x, h.str.far h.lo.2.1 _, h.lo⟩
theorem MN.drew {w W : World} {bo bf bs : Nat} {o m st : List Int} (h : MN w bo bf bs o m st W) : MN w bo bf bs o m st W.drew := ⟨⟨h.k.out, h.k.first, h.k.below.drew, h.k.lo⟩, h.str, h.lo⟩
set_option maxRecDepth 100000 in
set_option maxHeartbeats 1000000 in
theorem mask_yes (kb : List Int) (hk : kb.length = 32) (hkb : Bytes kb) (s : ByteArray) (hs : s.size = 12) (ct : Int) (hct : W32 ct) (text : ByteArray) (ht : text.size ≤ 2000) (hfit : ct + (text.size + 63) / 64 ≤ 4294967296) (w : World) :
    Calls Try.prog 11 #[.agg (ints .u8 kb), .string s, .int .u32 ct, .string text] w fun e w' => e = .returned (.tuple #[.string (strOfNums (mskTo (ks kb s ct) (nums text) text.size)), .int .i64 0]) ∧ Below w.heap.size w w' := by
  have B := hide (begin_any kb hk hkb s hs ct)
  have M := hide mixed_any
  have hs' : (s.size : Int) = 12 := by omega
  have c1 := hct.1
  have c2 := hct.2
  have hfit' : ct + ((text.size : Int) + 64 - 1) / 64 ≤ 4294967296 := by omega
  have cv := fun W => Lib.run_convert_string_bytes (P := Try.prog) W 9 46 5 text Try.underlying9 Try.underlying46 Try.underlying5
  have K23 : Hid ((Try.prog.info? 23).map (·.size) = some (ints .u8 kb).size) := by show _ = _; rw [ints_size, hk]; kernel_rfl
  have r0 : Row (w.alloc (.cells (ints .u8 kb) 23)) w.heap.size 23 .u8 kb := Row.new _ _ _ _
  have R0 := hide r0
  have F := hide hfit
  clear hs hfit hk r0
  go_enter Try.func11, Try.ntmps11
  go_upto_region 5 with fail
  clear cv hfit'
  generalize hcap : grownCap (w.alloc (.cells (ints .u8 kb) 23)) text.size 0 5 = cap
  clear hcap
  generalize hW1 : Lib.bytesWorld (w.alloc (.cells (ints .u8 kb) 23)) 5 text = W1
  have hb1 : Below w.heap.size w W1 := by rw [← hW1]; exact bytesWorld_below ((Below.refl _ _).alloc (Nat.le_refl _) _) (by simp) _ _
  have hk1 : Row W1 w.heap.size 23 .u8 kb := by rw [← hW1]; exact (Lib.bytesWorld_at_old _ _ _ _ (by simp)).trans R0.out
  have ho1 : Buf W1 (w.heap.size + 1) 5 (nums text) := by rw [← hW1]; have h := buf_new (w.alloc (.cells (ints .u8 kb) 23)) 5 text; simpa only [World.size_alloc] using h
  clear hW1 R0
  have HK1 := hide hk1
  have HB1 := hide hb1
  have HO1 := hide ho1
  clear hk1 hb1 ho1
  go_wp2_with (refine wpList_load_row rfl 23 _ rfl _ rfl 23 (ints .u8 kb) (0, 0) _ HK1.out Try.underlying23 rfl K23.out ?_)
  refine (B.out _).mono ?_
  rintro e W2 ⟨rfl, hb2⟩
  have hM0 : Buf W2 (w.heap.size + 1) 5 (nums text) := HO1.out.below hb2 HO1.out.lt
  have hB2 : Below w.heap.size w W2 := HB1.out.trans (hb2.mono HB1.out.size)
  clear hb2 HK1 HB1 HO1
  obtain ⟨m, hm⟩ : ∃ m, m = beginF kb s ct := ⟨_, rfl⟩
  have ml : m.length = 16 := by rw [hm, beginF_len]
  rw [← hm]
  have HM := hide hm
  have I43 := hide (sz43 m ml)
  have Z43 : Hid ((ints .u32 (zeros 16)).size = (ints .u32 m).size) := by show _ = _; rw [ints_size, ints_size, ml]; rfl
  have ML := hide ml
  have HB2 := hide hB2
  have HM0 := hide hM0
  clear hm ml hB2 hM0
  go_upto_region 6 with (refine wpList_store_row rfl 43 _ _ rfl _ (ints .u32 m) rfl rfl 43 _ (heap_alloc_new _ _) I43.out Z43.out (ints_one _ _) ?_)
  generalize hW3 : (W2.alloc _).setRow W2.heap.size _ = W3
  have hK : MK w (w.heap.size + 1) W2.heap.size (nums text) m W3 := by
    rw [← hW3]
    have hlt := HM0.out.lt
    exact ⟨(HM0.out.alloc _).farRow (by omega) _, setRow_heap _ _ _ _ 43 _ (heap_alloc_new _ _), below_setRow (HB2.out.alloc HB2.out.size _) HB2.out.size _, by have := HB2.out.size; omega⟩
  clear hW3 HM0 HB2
  generalize w.heap.size + 1 = bo at hK ⊢
  generalize W2.heap.size = bf at hK ⊢
  obtain ⟨fk, hfk⟩ : ∃ fk, fk = ks kb s ct := ⟨_, rfl⟩
  have hb0 : m = blk kb s ct 0 := by rw [HM.out, blk_zero kb s ct hct]
  have HF := hide hfk
  have hK0 : MK w bo bf (mskTo fk (nums text) 0) (blk kb s ct 0) W3 := by rw [← hb0]; exact hK
  have NN := hide (nums_len text)
  clear hK hfk hb0 I43 Z43 HM
  obtain ⟨nt, hnt⟩ : ∃ nt, nt = nums text := ⟨_, rfl⟩
  rw [← hnt] at hK0 NN
  have HNT := hide hnt
  clear hnt
  go_wp2
  go_loopw [13] (fun i W => ∃ j : Nat, 64 * j ≤ text.size + 63 ∧ i = .int .i64 (64 * j : Nat) ∧ MK w bo bf (mskTo fk nt (min (64 * j) text.size)) (blk kb s ct j) W) (fun i _ => text.size + 64 - (intOf i).toNat)
  case atStart => exact ⟨0, by omega, rfl, by simpa using hK0⟩
  case round =>
    clear hK0
    obtain ⟨j, hj, rfl, hK⟩ := hrel
    by_cases hlt : 64 * j < text.size
    · have e0 : min (64 * j) text.size = 64 * j := by omega
      rw [e0] at hK
      have L43 := hide (sz43 (blk kb s ct j) (blk_len kb s ct j))
      have FR := hide hK.first
      have BL := hide (blk_len kb s ct j)
      have HK := hide hK
      clear e0 hK
      go_wp2_with (refine wpList_load_row rfl 43 _ rfl _ rfl 43 (ints .u32 (blk kb s ct j)) (0, 0) _ FR.out Try.underlying43 rfl L43.out ?_)
      refine (M.out _ BL.out _).mono ?_
      rintro e W4 ⟨rfl, hb4⟩
      have hK4 := HK.out.below_ hb4
      clear hb4 HK FR L43
      obtain ⟨st, hst⟩ : ∃ st, st = mixF (blk kb s ct j) := ⟨_, rfl⟩
      have stl : st.length = 64 := by rw [hst, mixF_len]
      rw [← hst]
      have HS := hide hst
      have I41 := hide (sz41 st stl)
      have Z41 : Hid ((ints .u8 (zeros 64)).size = (ints .u8 st).size) := by show _ = _; rw [ints_size, ints_size, stl]; rfl
      have SL := hide stl
      have HK4 := hide hK4
      clear hst stl hK4
      go_upto_region 10 with (refine wpList_store_row rfl 41 _ _ rfl _ (ints .u8 st) rfl rfl 41 _ (heap_alloc_new _ _) I41.out Z41.out (ints_one _ _) ?_)
      generalize hW5 : (W4.alloc _).setRow W4.heap.size _ = W5
      have hN : MN w bo bf W4.heap.size (mskTo fk nt (64 * j)) (blk kb s ct j) st W5 := by
        rw [← hW5]
        exact MN.start HK4.out _ _
      clear hW5 HK4
      generalize W4.heap.size = bs at hN ⊢
      have hj1 : (64 : Int) * j ≤ text.size := by omega
      simp only [Act.put]
      go_cut [50, 51] (fun s50 s51 wx => s50 = .int .i64 ((min 64 (text.size - 64 * j) : Nat) : Int) ∧ s51 = .int .i64 ((0 : Nat) : Int) ∧ wx = W5)
      case first =>
        go_wp2
        all_goals (go_meet; exact ⟨by congr 1; omega, rfl, rfl⟩)
      case rest =>
        obtain ⟨rfl, rfl, rfl⟩ := hcut
        clear hj1
        obtain ⟨e, he⟩ : ∃ e, e = min 64 (text.size - 64 * j) := ⟨_, rfl⟩
        rw [← he]
        have he1 : e ≤ 64 := by omega
        have he2 : 64 * j + e ≤ text.size := by omega
        have HE := hide he
        clear he
        have hb51 : ((64 : Int) * j) < text.size := by omega
        go_wp2
        go_loopw [51] (fun i W => ∃ q : Nat, q ≤ e ∧ i = .int .i64 q ∧ MN w bo bf bs (mskTo fk nt (64 * j + q)) (blk kb s ct j) st W) (fun i _ => e - (intOf i).toNat)
        case atStart => exact ⟨0, by omega, by simp, hN⟩
        case round =>
          clear hN
          obtain ⟨q, hq, rfl, hN⟩ := hrel
          by_cases hlq : q < e
          · have p0 : (0 : Int) ≤ 64 * (j : Int) + q := by omega
            have p1 : (64 * (j : Int) + q) < text.size := by omega
            have q0 : (0 : Int) ≤ q := by omega
            have q1 : (q : Int) < 64 := by omega
            have lq : 64 * j + q < (mskTo fk nt (64 * j + q)).length := by rw [mskTo_len, NN.out]; omega
            have d1 := hN.k.out.at_ lq
            have d2 := hN.str.at_ (i := q) (by rw [SL.out]; omega)
            have d3 := hN.k.out.free lq
            have HN := hide hN
            have LQ := hide lq
            clear hN lq
            go_wp2_with fail
            go_region
            go_wp2
            refine ⟨⟨q + 1, by omega, by go_num, ?_⟩, by simp [intOf]; omega⟩
            have e1 : gi st q = fk (64 * j + q) := by
              rw [HF.out, HS.out]
              unfold ks
              rw [show (64 * j + q) / 64 = j by omega, show (64 * j + q) % 64 = q by omega]
            rw [mskTo_at fk nt _ _ (Nat.le_refl _), e1]
            exact (HN.out.put LQ.out _).drew
          · have hqe : q = e := by omega
            rw [hqe] at hN
            clear hqe
            have hK5 := hN.k.count 12 ((gi (blk kb s ct j) 12 + 1) % 4294967296)
            rw [← blk_succ] at hK5
            have g1 := hN.k.first.at_ (i := 12) (by rw [BL.out]; omega)
            have g2 := hN.k.first.free 12
            have HK5 := hide hK5
            clear hN hK5
            go_wp2
            refine ⟨⟨j + 1, by omega, by congr 1, ?_⟩, ?_⟩
            · have e2 : min (64 * (j + 1)) text.size = 64 * j + e := by have := HE.out; omega
              rw [e2]
              exact HK5.out
            · simp [intOf]; omega
    · have e0 : min (64 * j) text.size = text.size := by omega
      rw [e0] at hK
      have cv : (convert 46 9 (.slice (some ⟨bo, 0, none⟩) text.size cap)).run Try.prog wr = .ok (.string (strOfNums (mskTo fk nt text.size))) wr :=
        hK.out.conv Try.underlying46 Try.underlying5 Try.underlying9 text.size cap (by rw [mskTo_len, NN.out])
      have HB := hide hK.below
      clear hK e0
      go_wp2
      go_ret2
      exact ⟨by rw [HF.out, HNT.out]; rfl, HB.out⟩

set_option maxRecDepth 100000 in
set_option maxHeartbeats 400000 in
theorem mask_nonce (kb : List Int) (s : ByteArray) (ct : Int) (text : ByteArray) (hs : s.size ≠ 12) (ht : text.size ≤ 2000) (w : World) :
    Calls Try.prog 11 #[.agg (ints .u8 kb), .string s, .int .u32 ct, .string text] w fun e w' => e = .returned (.tuple #[.string ByteArray.empty, .int .i64 1]) ∧ Below w.heap.size w w' := by
  have h1 : ((s.size : Int) == 12) = false := by simp; omega
  have h2 : ((s.size : Int) != 12) = true := by simp; omega
  clear hs
  go_enter Try.func11, Try.ntmps11
  go_wp2
  go_ret2
  exact ⟨rfl, (Below.refl _ _).alloc (Nat.le_refl _) _⟩
set_option maxRecDepth 100000 in
set_option maxHeartbeats 400000 in
theorem mask_far (kb : List Int) (s : ByteArray) (ct : Int) (hct : W32 ct) (text : ByteArray) (hs : s.size = 12) (ht : text.size ≤ 2000) (hfit : ¬ ct + (text.size + 63) / 64 ≤ 4294967296) (w : World) :
    Calls Try.prog 11 #[.agg (ints .u8 kb), .string s, .int .u32 ct, .string text] w fun e w' => e = .returned (.tuple #[.string ByteArray.empty, .int .i64 1]) ∧ Below w.heap.size w w' := by
  have hs' : (s.size : Int) = 12 := by omega
  have c1 := hct.1
  have c2 := hct.2
  have hfit' : 4294967296 < ct + ((text.size : Int) + 64 - 1) / 64 := by omega
  clear hs hfit hct
  go_enter Try.func11, Try.ntmps11
  go_wp2
  go_ret2
  exact ⟨rfl, (Below.refl _ _).alloc (Nat.le_refl _) _⟩
end Go.Proofs.Ytocademajjkecaa
