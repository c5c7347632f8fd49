/-
  StreamMasks, by the text: the reference's Fits and Mask, and the statement's function.
-/
import Derived.Test.YtocademajjkecaaBlocks
import Derived.Test.YtocademajjkecaaParts
import Derived.Deep.RegionLaw
namespace Go.Proofs.Ytocademajjkecaa
open Go.RowKit
/-- append to a slice of the call's own, as one step of a region that draws. -/
theorem step_append_own {P : Program} {ops : Array Oper} {o : Oper} {a : Act} {w : World} {K : Act → World → Prop} {Q : Exit → Act → World → Prop} {E : Prop}
    (hg : o.guard = none) (s x : Operand) (t : TypeId) (ho : o.op = .call { callee := .builtin .append, args := #[s, x], argTypes := #[t, t] })
    (base : Nat) (e : TypeId) (i : TypeInfo) (z : Value) (size bytes : Nat) (ht : P.underlying t = some (.slice e)) (hi : P.info? e = some i) (hz : i.zero = some z)
    (hsize : i.size = size) (hby : i.bytes = bytes) (hzs : z.cells.size = size) (hsz : 0 < size)
    (v : Value) (n : Nat) (xs : List Value) (hs : a.eval s = v) (hown : w.ownsRow base e size v n xs)
    (ad : Addr) (m c : Nat) (news : List Value) (hx : a.eval x = .slice (some ad) m c) (hl : news.length = m * size) (hnews : ∀ j u, news[j]? = some u → w.cell? (ad.add j) = some u) (h1 : ∀ u ∈ news, u.oneCell' = true)
    (h63 : n + m ≤ maxLen) (hbytes : (n + m) * bytes ≤ 140737488355328) (hbase : base ≤ w.heap.size)
    (h : ∀ v' w', w'.ownsRow base e size v' (n + m) (xs ++ news) → w.grownBy w' v.ownBlock → K (a.put o.dst v') w') :
    if Region.wanted o (yielded ops a.tmps) = true then Oper.wp P o a w K Q else E := by
  rw [if_pos (by simp [Region.wanted, hg])]
  exact wp_append_own w s x t ho base e i z size bytes ht hi hz hsize hby hzs hsz v n xs hs hown ad m c news hx hl hnews h1 h63 hbytes hbase fun v' w' h2 h3 _ => h v' w' h2 h3
theorem fits_yes (ct : Int) (hct : W32 ct) (n : Nat) (hn : n ≤ 2000) (hfit : ct + ((n : Int) + 63) / 64 ≤ 4294967296) (w : World) :
    Calls Try.prog 12 #[.int .u32 ct, .int .i64 n] w fun e w' => e = .returned (.bool true) ∧ w' = w := by
  have c1 := hct.1
  have c2 := hct.2
  clear hct
  by_cases h0 : n = 0
  · subst h0
    clear hfit hn
    go_enter Try.func12, Try.ntmps12
    go_wp2
    go_ret
    exact ⟨rfl, rfl⟩
  · have z1 : (1 : Int) ≤ n := by omega
    have z2 : (n : Int) ≤ 2000 := by omega
    have z3 : ((n : Int) == 0) = false := by simp; omega
    have z4 : ((n : Int) - 1) / 64 ≤ 4294967295 - ct := by omega
    clear h0 hfit hn
    go_enter Try.func12, Try.ntmps12
    go_wp2
    go_ret
    exact ⟨rfl, rfl⟩
theorem fits_no (ct : Int) (hct : W32 ct) (n : Nat) (hn : n ≤ 2000) (hfit : ¬ ct + ((n : Int) + 63) / 64 ≤ 4294967296) (w : World) :
    Calls Try.prog 12 #[.int .u32 ct, .int .i64 n] w fun e w' => e = .returned (.bool false) ∧ w' = w := by
  have c1 := hct.1
  have c2 := hct.2
  clear hct
  have z1 : (1 : Int) ≤ n := by omega
  have z2 : (n : Int) ≤ 2000 := by omega
  have z3 : ((n : Int) == 0) = false := by simp; omega
  have z4 : ¬ ((n : Int) - 1) / 64 ≤ 4294967295 - ct := by omega
  clear hfit hn
  go_enter Try.func12, Try.ntmps12
  go_wp2
  go_ret
  exact ⟨rfl, rfl⟩

/-- the first k bytes of a text masked, one after another -/
def refTo (f : Nat → Int) (t : ByteArray) : Nat → List Int
  | 0 => []
  | k + 1 => refTo f t k ++ [bits .xor .u8 (gb t k) (f k)]
theorem refTo_len (f : Nat → Int) (t : ByteArray) (k : Nat) : (refTo f t k).length = k := by
  induction k with
  | zero => rfl
  | succ k ih => simp [refTo, ih]
theorem refTo_at (f : Nat → Int) (t : ByteArray) (k i : Nat) (h : i < k) : gi (refTo f t k) i = bits .xor .u8 (gb t i) (f i) := by
  induction k with
  | zero => omega
  | succ k ih =>
    by_cases e : i = k
    · subst e
      unfold gi refTo
      rw [List.getD_eq_getElem?_getD, List.getElem?_append_right (by rw [refTo_len]; omega), refTo_len, Nat.sub_self]
      rfl
    · have h2 : i < k := by omega
      rw [← ih h2]
      unfold gi
      rw [List.getD_eq_getElem?_getD, List.getD_eq_getElem?_getD, refTo, List.getElem?_append_left (by rw [refTo_len]; exact h2)]
theorem refTo_all (f : Nat → Int) (t : ByteArray) : refTo f t t.size = mskTo f (nums t) t.size := by
  apply list_ext_gi
  · rw [refTo_len, mskTo_len, nums_len]
  · intro i hi
    rw [refTo_len] at hi
    rw [refTo_at _ _ _ _ hi, mskTo_done _ _ _ _ hi (by rw [nums_len]; omega), gi_nums _ _ hi]
/-- what the reference's Mask keeps -/
structure MR (w : World) (b4 base : Nat) (kb o : List Int) (v : Value) (W : World) : Prop where
  key : Row W b4 23 .u8 kb
  own : OwnB W base 5 v o
  below : Below w.heap.size w W
  lo : w.heap.size ≤ b4 ∧ b4 < base ∧ base ≤ W.heap.size
theorem MR.drew {w W : World} {b4 base : Nat} {kb o : List Int} {v : Value} (h : MR w b4 base kb o v W) : MR w b4 base kb o v W.drew := ⟨h.key, h.own, h.below.drew, h.lo⟩
theorem MR.alloc {w W : World} {b4 base : Nat} {kb o : List Int} {v : Value} (h : MR w b4 base kb o v W) (x : Obj) : MR w b4 base kb o v (W.alloc x) := ⟨h.key.alloc _, h.own.alloc _, h.below.alloc h.below.size _, by have := h.lo; simp; omega⟩
theorem MR.next {w W W' : World} {b4 base : Nat} {kb o : List Int} {v : Value} (h : MR w b4 base kb o v W) (hb : Below W.heap.size W W') : MR w b4 base kb o v W' :=
  ⟨h.key.below hb h.key.lt, World.ownsRow.kept h.own (grown_of_below hb none) (by cases hv : v.ownBlock <;> simp), h.below.trans (hb.mono h.below.size), h.lo.1, h.lo.2.1, Nat.le_trans h.lo.2.2 hb.size⟩
theorem MR.more {w W W' : World} {b4 base : Nat} {kb o : List Int} {v v' : Value} {x : Int} (h : MR w b4 base kb o v W)
    (ho : W'.ownsRow base 5 1 v' (o.length + 1) (o.map (Value.int .u8) ++ [Value.int .u8 x])) (hg : W.grownBy W' v.ownBlock) : MR w b4 base kb (o ++ [x]) v' W' := by
  have hlo := h.own.lo
  obtain ⟨l1, l2, l3⟩ := h.lo
  refine ⟨h.key.grew hg hlo l2, OwnB.more (n := 1) (news := [x]) rfl ho, h.below.grown hg h.below.size (fun r hr => ?_), l1, l2, Nat.le_trans l3 hg.size⟩
  have := hlo r hr
  omega
theorem blk_begin (kb : List Int) (s : ByteArray) (ct : Int) (j : Nat) : blk kb s ct j = beginF kb s ((ct + j) % 4294967296) := by
  rw [blk, beginF_set]
set_option maxRecDepth 100000 in
set_option maxHeartbeats 1000000 in
theorem refmask_any (kb : List Int) (hk : kb.length = 32) (hkb : Bytes kb) (s : ByteArray) (hs : s.size = 12) (ct : Int) (text : ByteArray) (ht : text.size ≤ 2000) (w : World) :
    Calls Try.prog 13 #[.agg (ints .u8 kb), .string s, .int .u32 ct, .string text] w fun e w' => e = .returned (.string (strOfNums (mskTo (ks kb s ct) (nums text) text.size))) ∧ Below w.heap.size w w' := by
  obtain ⟨i0, hi, hz0, hz1, hz2⟩ := info_parts info_u8
  have HI := hide hi
  have HZ := hide (And.intro hz0 (And.intro hz1 hz2))
  clear hi hz0 hz1 hz2
  have K23 : Hid ((Try.prog.info? 23).map (·.size) = some (ints .u8 kb).size) := by show _ = _; rw [ints_size, hk]; kernel_rfl
  have RB := hide (fun c => refblock_any kb hk hkb s hs c)
  have HT := hide ht
  have hM0 : MR w w.heap.size (w.heap.size + 1) kb [] (.slice none 0 0) (w.alloc (.cells (ints .u8 kb) 23)) :=
    ⟨Row.new _ _ _ _, OwnB.nil _ _ _, (Below.refl _ _).alloc (Nat.le_refl _) _, by simp⟩
  have HM0 := hide hM0
  have ht' : (text.size : Int) ≤ 2000 := by omega
  clear hM0 hk hs ht
  go_enter Try.func13, Try.ntmps13
  go_wp2_with fail
  generalize hW : w.alloc (.cells (ints .u8 kb) 23) = W0 at *
  clear hW
  generalize w.heap.size + 1 = base at *
  obtain ⟨b4, hb4⟩ : ∃ b4, b4 = w.heap.size := ⟨_, rfl⟩
  rw [← hb4] at HM0 ⊢
  clear hb4
  go_loopw [9, 10, 11] (fun v b i W => ∃ k : Nat, k ≤ text.size ∧ i = .int .i64 k ∧ (∃ bs : ByteArray, b = .string bs ∧ (k % 64 ≠ 0 → bs = strOfNums (mixF (blk kb s ct (k / 64))))) ∧ MR w b4 base kb (refTo (ks kb s ct) text k) v W) (fun _ _ i _ => text.size - (intOf i).toNat)
  case atStart => exact ⟨0, by omega, rfl, ⟨_, rfl, by omega⟩, HM0.out⟩
  case round =>
    clear HM0
    obtain ⟨k, hk, rfl, ⟨bs, rfl, hbs⟩, hM⟩ := hrel
    by_cases hlt : k < text.size
    · have hlt' : (k : Int) < text.size := by omega
      have hk0 : (0 : Int) ≤ k := by omega
      obtain ⟨r, hr⟩ : ∃ r, r = k % 64 := ⟨_, rfl⟩
      obtain ⟨j, hj⟩ : ∃ j, j = k / 64 := ⟨_, rfl⟩
      have hr1 : (k : Int) % 64 = (r : Int) := by omega
      have hr2 : (k : Int).tmod 64 = (r : Int) := by rw [Int.tmod_eq_emod_of_nonneg hk0]; exact hr1
      have hj1 : (k : Int) / 64 = (j : Int) := by omega
      have hj2 : (k : Int).tdiv 64 = (j : Int) := by rw [Int.tdiv_eq_ediv_of_nonneg hk0]; exact hj1
      have hj3 : (0 : Int) ≤ j := by omega
      have hj4 : (j : Int) ≤ 2000 := by omega
      have hr64 : r < 64 := by omega
      have HL : Hid ((refTo (ks kb s ct) text k).length ≤ 2000) := by show _ ≤ _; rw [refTo_len]; have := HT.out; omega
      have ix : ∀ W : World, (Instr.index 9 (.string text) (.int .i64 (k : Int))).run Try.prog W = .ok (.int .u8 (gb text k)) W := fun W => index_str W 9 .i64 text k Try.underlying9 hlt
      have HKS : Hid (gb (strOfNums (mixF (blk kb s ct j))) r = ks kb s ct k) := by
        show _ = _
        rw [gb_nums _ (mixF_bytes _) _ (by rw [mixF_len]; exact hr64), ks, hr, hj]
      have HSZ : Hid ((strOfNums (mixF (blk kb s ct j))).size = 64) := by show _ = _; rw [snum_size, mixF_len]
      have HBK : Hid (blk kb s ct j = beginF kb s ((ct + j) % 4294967296)) := blk_begin _ _ _ _
      have HMM := hide hM
      rw [← hr, ← hj] at hbs
      clear hM hk
      have HJ := hide hj
      by_cases hz : r = 0
      · subst hz
        clear hbs hr hj
        have hr1' : (k : Int) % 64 = 0 := hr1
        have hr2' : (k : Int).tmod 64 = 0 := hr2
        clear hr1 hr2 hr64
        have HRB := hide (RB.out ((ct + j) % 4294967296))
        rw [← HBK.out] at HRB
        obtain ⟨o, ho⟩ : ∃ o, o = strOfNums (mixF (blk kb s ct j)) := ⟨_, rfl⟩
        rw [← ho] at HRB HKS HSZ
        have HOE := hide ho
        clear ho
        have R4 := hide HMM.out.key
        go_wp2_with (refine wpList_load_row rfl 23 _ rfl _ rfl 23 (ints .u8 kb) (0, 0) _ R4.out Try.underlying23 rfl K23.out ?_)
        refine (HRB.out _).mono ?_
        rintro e w2 ⟨rfl, hb2⟩
        have HMM2 := hide (HMM.out.next hb2)
        clear hb2 HMM R4
        have HMM := HMM2
        clear HMM2
        have ix2 : ∀ W : World, (Instr.index 9 (.string o) (.int .i64 0)).run Try.prog W = .ok (.int .u8 (gb o 0)) W := fun W => index_str W 9 .i64 o 0 Try.underlying9 (by rw [HSZ.out]; omega)
        have HD := hide (HMM.out.drew)
        clear HMM
        go_wp2_with fail
        go_region_law (first | (refine step_append_own rfl _ _ 46 rfl base 5 i0 (.int .u8 0) 1 1 Try.underlying46 HI.out HZ.out.1 HZ.out.2.1 HZ.out.2.2 rfl (by decide) _ _ _ rfl (HD.out.alloc _).own ⟨_, 0, none⟩ 1 1 [.int .u8 (bits .xor .u8 (gb text k) (gb o 0))] rfl rfl (news_new _ _ _) (by simp [Value.oneCell']) (by have := HL.out; unfold maxLen; omega) (by have := HL.out; omega) (HD.out.alloc _).lo.2.2 ?_; intro v' w1 hown hgrow))
        all_goals (
          rw [HKS.out] at hown
          have hN : MR w b4 base kb (refTo (ks kb s ct) text (k + 1)) v' w1 := (HD.out.alloc _).more hown hgrow
          clear hown hgrow ix ix2
          try go_wp2
          refine ⟨⟨k + 1, by omega, by go_num, ⟨o, rfl, fun h => ?_⟩, hN⟩, by simp [intOf]; omega⟩
          rw [HOE.out, HJ.out, show (k + 1) / 64 = k / 64 by omega])
      · have hz1 : ((r : Int) == 0) = false := by simp; omega
        obtain ⟨o, ho⟩ : ∃ o, o = strOfNums (mixF (blk kb s ct j)) := ⟨_, rfl⟩
        have hbs' : bs = o := by rw [ho]; exact hbs hz
        subst hbs'
        rw [← ho] at HKS HSZ
        have HOE := hide ho
        clear hbs hr hj ho hz
        have ix2 : ∀ W : World, (Instr.index 9 (.string bs) (.int .i64 (r : Int))).run Try.prog W = .ok (.int .u8 (gb bs r)) W := fun W => index_str W 9 .i64 bs r Try.underlying9 (by rw [HSZ.out]; exact hr64)
        have HD := hide (HMM.out.drew)
        clear HMM
        go_wp2_with fail
        go_region_law (first | (refine step_append_own rfl _ _ 46 rfl base 5 i0 (.int .u8 0) 1 1 Try.underlying46 HI.out HZ.out.1 HZ.out.2.1 HZ.out.2.2 rfl (by decide) _ _ _ rfl (HD.out.alloc _).own ⟨_, 0, none⟩ 1 1 [.int .u8 (bits .xor .u8 (gb text k) (gb bs r))] rfl rfl (news_new _ _ _) (by simp [Value.oneCell']) (by have := HL.out; unfold maxLen; omega) (by have := HL.out; omega) (HD.out.alloc _).lo.2.2 ?_; intro v' w1 hown hgrow))
        all_goals (
          rw [HKS.out] at hown
          have hN : MR w b4 base kb (refTo (ks kb s ct) text (k + 1)) v' w1 := (HD.out.alloc _).more hown hgrow
          clear hown hgrow ix ix2
          try go_wp2
          refine ⟨⟨k + 1, by omega, by go_num, ⟨bs, rfl, fun h => ?_⟩, hN⟩, by simp [intOf]; omega⟩
          rw [HOE.out, HJ.out, show (k + 1) / 64 = k / 64 by omega])
    · have hkn : k = text.size := by omega
      subst hkn
      have cv := hM.own.conv Try.underlying46 Try.underlying5 Try.underlying9
      rw [refTo_all] at cv
      have HB := hide hM.below
      clear hM hbs hlt hk
      have hlt : ¬ (text.size : Int) < text.size := by omega
      go_wp2
      go_ret
      exact ⟨rfl, HB.out⟩
set_option maxRecDepth 100000 in
set_option maxHeartbeats 400000 in
theorem masks_out (kb : List Int) (s : ByteArray) (ct : Int) (text : ByteArray) (h : 2000 < text.size) (w : World) :
    Calls Try.prog 4 #[.agg (ints .u8 kb), .string s, .int .u32 ct, .string text] w fun e w' => e = .returned (.bool true) ∧ Below w.heap.size w w' := by
  have A := hide alive_any
  have S := hide (KB.start w kb)
  have h2 : (2000 : Int) < text.size := by omega
  clear h
  go_enter Try.func4, Try.ntmps4
  go_wp2_with fail
  refine (A.out _).mono ?_
  rintro e w1 ⟨rfl, hb1⟩
  have K1 := hide (S.out.next hb1)
  clear hb1 S
  go_wp2_with fail
  refine (A.out _).mono ?_
  rintro e w3 ⟨rfl, hb3⟩
  have K3 := hide (K1.out.next hb3)
  clear hb3 K1
  go_wp2
  go_ret
  exact ⟨rfl, K3.out.below⟩
set_option maxRecDepth 100000 in
set_option maxHeartbeats 400000 in
theorem masks_nonce (kb : List Int) (hk : kb.length = 32) (s : ByteArray) (hs : s.size ≠ 12) (ct : Int) (text : ByteArray) (ht : text.size ≤ 2000) (w : World) :
    Calls Try.prog 4 #[.agg (ints .u8 kb), .string s, .int .u32 ct, .string text] w fun e w' => e = .returned (.bool true) ∧ Below w.heap.size w w' := by
  have A := hide alive_any
  have S := hide (KB.start w kb)
  have K23 : Hid ((Try.prog.info? 23).map (·.size) = some (ints .u8 kb).size) := by show _ = _; rw [ints_size, hk]; kernel_rfl
  have M := hide (mask_nonce kb s ct text hs ht)
  have h1 : ¬ (2000 : Int) < text.size := by omega
  have h2 : ((s.size : Int) == 12) = false := by simp; omega
  have h3 : ((s.size : Int) != 12) = true := by simp; omega
  clear hk hs ht
  go_enter Try.func4, Try.ntmps4
  go_wp2_with fail
  refine (A.out _).mono ?_
  rintro e w1 ⟨rfl, hb1⟩
  have K1 := hide (S.out.next hb1)
  clear hb1 S
  have R1 := hide K1.out.row
  go_wp2_with (refine wpList_load_row rfl 23 _ rfl _ rfl 23 (ints .u8 kb) (0, 0) _ R1.out Try.underlying23 rfl K23.out ?_)
  refine (M.out _).mono ?_
  rintro e w2 ⟨rfl, hb2⟩
  have K2 := hide (K1.out.next hb2)
  clear hb2 K1 R1
  go_wp2_with fail
  refine (A.out _).mono ?_
  rintro e w3 ⟨rfl, hb3⟩
  have K3 := hide (K2.out.next hb3)
  clear hb3 K2
  go_wp2
  go_ret
  exact ⟨rfl, K3.out.below⟩
set_option maxRecDepth 100000 in
set_option maxHeartbeats 400000 in
theorem masks_far (kb : List Int) (hk : kb.length = 32) (s : ByteArray) (hs : s.size = 12) (ct : Int) (hct : W32 ct) (text : ByteArray) (ht : text.size ≤ 2000) (hfit : ¬ ct + (text.size + 63) / 64 ≤ 4294967296) (w : World) :
    Calls Try.prog 4 #[.agg (ints .u8 kb), .string s, .int .u32 ct, .string text] w fun e w' => e = .returned (.bool true) ∧ Below w.heap.size w w' := by
  have A := hide alive_any
  have S := hide (KB.start w kb)
  have K23 : Hid ((Try.prog.info? 23).map (·.size) = some (ints .u8 kb).size) := by show _ = _; rw [ints_size, hk]; kernel_rfl
  have M := hide (mask_far kb s ct hct text hs ht hfit)
  have F := hide (fits_no ct hct text.size ht hfit)
  have h1 : ¬ (2000 : Int) < text.size := by omega
  have h2 : (s.size : Int) = 12 := by omega
  clear hk hs ht hfit hct
  go_enter Try.func4, Try.ntmps4
  go_wp2_with fail
  refine (A.out _).mono ?_
  rintro e w1 ⟨rfl, hb1⟩
  have K1 := hide (S.out.next hb1)
  clear hb1 S
  have R1 := hide K1.out.row
  go_wp2_with (refine wpList_load_row rfl 23 _ rfl _ rfl 23 (ints .u8 kb) (0, 0) _ R1.out Try.underlying23 rfl K23.out ?_)
  refine (M.out _).mono ?_
  rintro e w2 ⟨rfl, hb2⟩
  have K2 := hide (K1.out.next hb2)
  clear hb2 K1 R1
  go_wp2_with fail
  refine (F.out _).mono ?_
  rintro e w4 ⟨rfl, rfl⟩
  go_wp2_with fail
  refine (A.out _).mono ?_
  rintro e w3 ⟨rfl, hb3⟩
  have K3 := hide (K2.out.next hb3)
  clear hb3 K2
  go_wp2
  go_ret
  exact ⟨rfl, K3.out.below⟩
set_option maxRecDepth 100000 in
set_option maxHeartbeats 400000 in
theorem masks_yes (kb : List Int) (hk : kb.length = 32) (hkb : Bytes kb) (s : ByteArray) (hs : s.size = 12) (ct : Int) (hct : W32 ct) (text : ByteArray) (ht : text.size ≤ 2000) (hfit : ct + (text.size + 63) / 64 ≤ 4294967296) (w : World) :
    Calls Try.prog 4 #[.agg (ints .u8 kb), .string s, .int .u32 ct, .string text] w fun e w' => e = .returned (.bool true) ∧ Below w.heap.size w w' := by
  have A := hide alive_any
  have S := hide (KB.start w kb)
  have K23 : Hid ((Try.prog.info? 23).map (·.size) = some (ints .u8 kb).size) := by show _ = _; rw [ints_size, hk]; kernel_rfl
  have M := hide (mask_yes kb hk hkb s hs ct hct text ht hfit)
  have M2 := hide (refmask_any kb hk hkb s hs ct text ht)
  have F := hide (fits_yes ct hct text.size ht hfit)
  generalize strOfNums (mskTo (ks kb s ct) (nums text) text.size) = out at M M2
  have h1 : ¬ (2000 : Int) < text.size := by omega
  have h2 : (s.size : Int) = 12 := by omega
  clear hk hs ht hfit hct
  go_enter Try.func4, Try.ntmps4
  go_wp2_with fail
  refine (A.out _).mono ?_
  rintro e w1 ⟨rfl, hb1⟩
  have K1 := hide (S.out.next hb1)
  clear hb1 S
  have R1 := hide K1.out.row
  go_wp2_with (refine wpList_load_row rfl 23 _ rfl _ rfl 23 (ints .u8 kb) (0, 0) _ R1.out Try.underlying23 rfl K23.out ?_)
  refine (M.out _).mono ?_
  rintro e w2 ⟨rfl, hb2⟩
  have K2 := hide (K1.out.next hb2)
  clear hb2 K1 R1
  go_wp2_with fail
  refine (F.out _).mono ?_
  rintro e w4 ⟨rfl, rfl⟩
  go_wp2_with fail
  refine (A.out _).mono ?_
  rintro e w3 ⟨rfl, hb3⟩
  have K3 := hide (K2.out.next hb3)
  clear hb3 K2
  have R3 := hide K3.out.row
  go_wp2_with (refine wpList_load_row_w (by rfl) 23 _ rfl _ rfl 23 (ints .u8 kb) (0, 0) _ R3.out Try.underlying23 rfl K23.out ?_)
  refine (M2.out _).mono ?_
  rintro e w5 ⟨rfl, hb5⟩
  have K5 := hide (K3.out.next hb5)
  clear hb5 K3 R3
  go_wp2
  go_ret
  exact ⟨rfl, K5.out.below⟩
theorem masks_law (kb : List Int) (hk : kb.length = 32) (hkb : Bytes kb) (s : ByteArray) (ct : Int) (hct : W32 ct) (text : ByteArray) (w : World) :
    Calls Try.prog 4 #[.agg (ints .u8 kb), .string s, .int .u32 ct, .string text] w fun e w' => e = .returned (.bool true) ∧ Below w.heap.size w w' := by
  by_cases ht : text.size ≤ 2000
  · by_cases hs : s.size = 12
    · by_cases hfit : ct + (text.size + 63) / 64 ≤ 4294967296
      · exact masks_yes kb hk hkb s hs ct hct text ht hfit w
      · exact masks_far kb hk s hs ct hct text ht hfit w
    · exact masks_nonce kb hk s hs ct text ht w
  · exact masks_out kb s ct text (by omega) w
end Go.Proofs.Ytocademajjkecaa
