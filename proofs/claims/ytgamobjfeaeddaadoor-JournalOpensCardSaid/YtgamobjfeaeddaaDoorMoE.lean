/-
  A reader: where it lies; a number read.
  A reader's other calls: count, a text, a key, the end.
  A disk, as lists of texts: what is settled, what is unsynced, a fuse, whether it is dead; and where it lies.
  The disk's small functions, walked.
  A disk's fuse, and writing, walked.
  A new disk; the bytes that a law writes.
  A disk's sync and crash, walked.
  Records as bytes; too long ones.
  Records read of bytes.
  A journal in memory; half, areaSize, start, Room, bytes.
  The journal's bytes, as they are on the disk.
  A disk's journal, opened.
  The blocks that have some bytes of an area.
  Numbers as bytes and back: by numbers alone.
  Texts and lists as bytes and back: by numbers alone.
  What was written is read: records, the mark.
-/
import Derived.Test.YtgamobjfeaeddaaDoorMoD
import Derived.Test.YtgamobjfeaeddaaDoorMoB
import Derived.Test.YtgamobjfeaeddaaDoorTabm
namespace Go.Proofs.YtgamobjfeaeddaaDoor
section
open Go Go.RowKit
set_option linter.unusedVariables false
set_option linter.unusedSimpArgs false
set_option maxRecDepth 100000
set_option maxHeartbeats 4000000
/-- A reader's cells. -/
def rdC (l : List Int) (e : Int) : Blk := ⟨[.string (strOfNums l), .int .i64 e], 132, none⟩
theorem and127 : ∀ a : Nat, a < 256 → bitsOf .and .u8 (a : Int) 127 = ((a % 128 : Nat) : Int) := by decide +kernel
theorem or_low (n b : Nat) (hn : n < 4294967296) (hb : b < 128) : bitsOf .or .u64 ((n * 128 : Nat) : Int) (b : Int) = ((n * 128 + b : Nat) : Int) := by
  show IntKind.u64.wrap ((BitVec.ofInt 64 ((n * 128 : Nat) : Int) ||| BitVec.ofInt 64 (b : Int)).toNat : Int) = _
  have h : (BitVec.ofInt 64 ((n * 128 : Nat) : Int) ||| BitVec.ofInt 64 (b : Int)).toNat = n * 128 + b := by
    rw [BitVec.toNat_or]
    have h1 : (BitVec.ofInt 64 ((n * 128 : Nat) : Int)).toNat = n * 128 := by rw [BitVec.toNat_ofInt]; omega
    have h2 : (BitVec.ofInt 64 (b : Int)).toNat = b := by rw [BitVec.toNat_ofInt]; omega
    rw [h1, h2]
    have := Nat.shiftLeft_add_eq_or_of_lt (i := 7) (b := b) (by omega) n
    rw [Nat.shiftLeft_eq] at this
    exact this.symm
  rw [h]
  exact wu64 ⟨by omega, by omega⟩
/-- A number of at most so many bytes behind those that make n: it, what is left, the error. -/
def rdN : Nat → Nat → List Int → Nat × List Int × Int
  | 0, _, l => (0, l, 4)
  | _ + 1, _, [] => (0, [], 3)
  | g + 1, n, b :: l => if (g = 4 ∧ b = 128) ∨ 4294967295 < n * 128 + b.toNat % 128 then (0, l, 4) else if b < 128 then (n * 128 + b.toNat % 128, l, 0) else rdN g (n * 128 + b.toNat % 128) l
def rdNum (l : List Int) : Nat × List Int × Int := if (rdN 5 0 l).2.2 = 0 then rdN 5 0 l else (0, l, (rdN 5 0 l).2.2)
theorem rdN_cons {l : List Int} {i g n : Nat} {b : Int} (hb : l[i]? = some b) : rdN (g + 1) n (l.drop i) = if (g = 4 ∧ b = 128) ∨ 4294967295 < n * 128 + b.toNat % 128 then (0, l.drop (i + 1), 4) else if b < 128 then (n * 128 + b.toNat % 128, l.drop (i + 1), 0) else rdN g (n * 128 + b.toNat % 128) (l.drop (i + 1)) := by
  obtain ⟨hi, he⟩ := List.getElem?_eq_some_iff.1 hb
  rw [List.drop_eq_getElem_cons hi, he, rdN]
attribute [local simp] wb_bool wb_undef XL_nil XL_cons XLc_val XLc_call step1_eq stepW_t stepW_f stepC_n stepC_s stepX_s stepX_n stepN_s calleeX oneV xop_eq xopR_s xopR_n wantedA_eq wantedG_n wantedG_s plain1_int plain1_bool plain1_string bits_i64 bits_u64 bits_u32 bits_u16 bits_u8 xeqA xagg xcmp xarr allK_iv num_iv calleeOf xread xeff xbin xint xnil xun xstr xload xconv xpart xfield xfieldAddr xindexAddr xindex bnd asInt? xslice xlen xmin xmax xbuild xfill xappend xapp2 xappstr xappmk xcap xcopy xcells eval_tmp eval_const put_at put_none fr0_at cells_agg cells_int cells_bool cells_string cells_ptr cells_slice notTuple tab iv_all hget_app hget_app0 hget_cons0 hget_cons set_app set_app0 setR setR_one QL_nil QL_cons QLc_val stepQ_t stepQ_f stepQC_n stepQC_s stepQX_s SL_nil SL_cons SLc_val stepS_t stepS_f ltT ltF leT leF eqT eqF ltTn ltFn leTn leFn eqTn eqFn beqT beqF bneT bneF wi64 wu64 wu32 wu16 wu8 tmodP tdivP hgetL hgetNe hgetEq setL nums_def nums_len Nat.succ_le_of_lt List.getElem?_cons_zero List.getElem?_cons_succ Option.getD_some Int.toNat_add Int.toNat_mul agB agI agS agP agL agA okB okI okS okP okSl okA
theorem number_ac {H : AH} {γ : Nat → Option Nat} {nro p : Nat} {l : List Int} (hp : nro ≤ p) (h : hget H p = some (rdC l 0)) (hb : By l) (hl : l.length ≤ 1000000) :
    AC Tryd.prog nro γ 90 #[.pointer (some ⟨p, 0, none⟩)] H (fun v' H' => v' = .int .u32 ((rdNum l).1 : Nat) ∧ H' = H.set p (some (rdC (rdNum l).2.1 (rdNum l).2.2))) := by
  unfold rdC at h ⊢
  have hsz := sn_size l
  refine ac_of_aw Tryd.func90 rfl Tryd.ntmps90 Tryd.results90 (by simp) ?_
  refine aw_seq ?_
  (refine aw_ops (by kernel_rfl) (fun K hK => ?_); simp (disch := first | omega | (simp only [List.length_set, List.length_append, List.length_cons, List.length_nil, iv_length, zl_length]; try omega; done)) [-getElem?_pos, -getElem?_neg]; refine hK _ _ ?_; clear hK K)
  refine aw_scope ?_
  refine aw_seq ?_
  refine aw_seq ?_
  (refine aw_ops (by kernel_rfl) (fun K hK => ?_); simp (disch := first | omega | (simp only [List.length_set, List.length_append, List.length_cons, List.length_nil, iv_length, zl_length]; try omega; done)) [-getElem?_pos, -getElem?_neg, h]; refine hK _ _ ?_; clear hK K)
  refine aw_f (by (first | (simp [eval_tmp, put_at]; done) | (simp [eval_tmp, put_at]; omega))) (by kernel_rfl) ?_
  refine aw_skip ?_
  refine aw_seq ?_
  (refine aw_ops (by kernel_rfl) (fun K hK => ?_); simp (disch := first | omega | (simp only [List.length_set, List.length_append, List.length_cons, List.length_nil, iv_length, zl_length]; try omega; done)) [-getElem?_pos, -getElem?_neg]; refine hK _ _ ?_; clear hK K)
  refine aw_seq ?_
  (refine aw_ops (by kernel_rfl) (fun K hK => ?_); simp (disch := first | omega | (simp only [List.length_set, List.length_append, List.length_cons, List.length_nil, iv_length, zl_length]; try omega; done)) [-getElem?_pos, -getElem?_neg]; refine hK _ _ ?_; clear hK K)
  refine aw_seq ?_
  refine aw_label ?_
  refine aw_seq ?_
  refine aw_cut (fun α G => G = H ∧ α 0 = .pointer (some ⟨p, 0, none⟩) ∧ (rdN 5 0 l).2.2 ≠ 0 ∧ α 3 = .int .i64 (rdN 5 0 l).2.2) ?_ ?_
  case refine_2 =>
    rintro α G ⟨rfl, h0, hne, h3⟩
    have hr : rdNum l = (0, l, (rdN 5 0 l).2.2) := if_neg hne
    rw [hr]
    generalize (rdN 5 0 l).2.2 = e at h3
    refine aw_seq ?_
    (refine aw_ops (by kernel_rfl) (fun K hK => ?_); simp (disch := first | omega | (simp only [List.length_set, List.length_append, List.length_cons, List.length_nil, iv_length, zl_length]; try omega; done)) [-getElem?_pos, -getElem?_neg, h0, h3, h]; refine hK _ _ ?_; clear hK K)
    refine aw_seq ?_
    (refine aw_ops (by kernel_rfl) (fun K hK => ?_); simp (disch := first | omega | (simp only [List.length_set, List.length_append, List.length_cons, List.length_nil, iv_length, zl_length]; try omega; done)) [-getElem?_pos, -getElem?_neg]; refine hK _ _ ?_; clear hK K)
    (refine aw_ret ?_; simp (disch := first | omega | (simp only [List.length_set, List.length_append, List.length_cons, List.length_nil, iv_length, zl_length]; try omega; done)) [-getElem?_pos, -getElem?_neg, thenQ_ret, scopeQ_ret, inBlockQ_ret, RQ, resL, resV])
  refine aw_seq ?_
  (refine aw_ops (by kernel_rfl) (fun K hK => ?_); simp (disch := first | omega | (simp only [List.length_set, List.length_append, List.length_cons, List.length_nil, iv_length, zl_length]; try omega; done)) [-getElem?_pos, -getElem?_neg]; refine hK _ _ ?_; clear hK K)
  refine aw_block ?_
  refine aw_loop (fun c α G => G = H ∧ ∃ i n : Nat, i + c = 5 ∧ α 12 = .int .i64 (i : Nat) ∧ α 4 = .int .u64 (n : Nat) ∧ α 3 = .int .i64 4 ∧ α 0 = .pointer (some ⟨p, 0, none⟩) ∧ n ≤ 4294967295 ∧ i ≤ l.length ∧ rdN 5 0 l = rdN c n (l.drop i)) 5 ?_ ?_
  · exact ⟨rfl, 0, 0, by omega, by (first | (simp [put_at, put_none, fr0_at]; done) | rfl), by (first | (simp [put_at, put_none, fr0_at]; done) | rfl), by (first | (simp [put_at, put_none, fr0_at]; done) | rfl), by (first | (simp [put_at, put_none, fr0_at]; done) | rfl), by omega, by omega, rfl⟩
  rintro c α G ⟨rfl, i, n, hic, h12, h4, h3, h0, hn, hil, hrd⟩
  refine aw_seq ?_
  (refine aw_ops (by kernel_rfl) (fun K hK => ?_); simp (disch := first | omega | (simp only [List.length_set, List.length_append, List.length_cons, List.length_nil, iv_length, zl_length]; try omega; done)) [-getElem?_pos, -getElem?_neg, h12]; refine hK _ _ ?_; clear hK K)
  refine aw_seq ?_
  by_cases hi : i < 5
  case neg =>
    refine aw_f (by (first | (simp [eval_tmp, put_at, hi]; done) | (simp [eval_tmp, put_at, hi]; omega))) (by kernel_rfl) ?_
    refine aw_exit ?_
    obtain rfl : c = 0 := by omega
    rw [hrd]
    exact ⟨rfl, by (first | (simp [put_at, put_none, fr0_at, h0]; done) | rfl), by simp [rdN], by (first | (simp [put_at, put_none, fr0_at, h3, rdN]; done) | rfl)⟩
  refine aw_t (by (first | (simp [eval_tmp, put_at, hi]; done) | (simp [eval_tmp, put_at, hi]; omega))) (by kernel_rfl) ?_
  refine aw_skip ?_
  refine aw_seq ?_
  refine aw_block ?_
  refine aw_seq ?_
  (refine aw_ops (by kernel_rfl) (fun K hK => ?_); simp (disch := first | omega | (simp only [List.length_set, List.length_append, List.length_cons, List.length_nil, iv_length, zl_length]; try omega; done)) [-getElem?_pos, -getElem?_neg, h12]; refine hK _ _ ?_; clear hK K)
  refine aw_seq ?_
  refine aw_seq ?_
  obtain ⟨g, rfl⟩ : ∃ g, c = g + 1 := ⟨c - 1, by omega⟩
  (refine aw_ops (by kernel_rfl) (fun K hK => ?_); simp (disch := first | omega | (simp only [List.length_set, List.length_append, List.length_cons, List.length_nil, iv_length, zl_length]; try omega; done)) [-getElem?_pos, -getElem?_neg, h0, h, hsz]; refine hK _ _ ?_; clear hK K)
  by_cases hlast : i = l.length
  · refine aw_t (by (first | (simp [eval_tmp, put_at, hlast]; done) | (simp [eval_tmp, put_at, hlast]; omega))) (by kernel_rfl) ?_
    refine aw_seq ?_
    (refine aw_ops (by kernel_rfl) (fun K hK => ?_); simp (disch := first | omega | (simp only [List.length_set, List.length_append, List.length_cons, List.length_nil, iv_length, zl_length]; try omega; done)) [-getElem?_pos, -getElem?_neg]; refine hK _ _ ?_; clear hK K)
    refine aw_exit ?_
    have : rdN (g + 1) n (l.drop i) = (0, [], 3) := by rw [hlast, List.drop_length]; rfl
    rw [hrd, this]
    exact ⟨rfl, by (first | (simp [put_at, put_none, fr0_at, h0]; done) | rfl), by simp, by (first | (simp [put_at, put_none, fr0_at]; done) | rfl)⟩
  refine aw_f (by (first | (simp [eval_tmp, put_at, hlast]; done) | (simp [eval_tmp, put_at, hlast]; omega))) (by kernel_rfl) ?_
  refine aw_skip ?_
  have hil' : i < l.length := by omega
  obtain ⟨b, hbi⟩ : ∃ b, l[i]? = some b := ⟨_, List.getElem?_eq_getElem hil'⟩
  have hb2 := hb b (List.mem_of_getElem? hbi)
  have hgb : gb (strOfNums l) i = b := by rw [gb_sn hb, List.getD_eq_getElem?_getD, hbi]; rfl
  rw [rdN_cons hbi] at hrd
  obtain ⟨k, rfl⟩ : ∃ k : Nat, b = (k : Nat) := ⟨b.toNat, by omega⟩
  refine aw_seq ?_
  (refine aw_ops (by kernel_rfl) (fun K hK => ?_); simp (disch := first | omega | (simp only [List.length_set, List.length_append, List.length_cons, List.length_nil, iv_length, zl_length]; try omega; done)) [-getElem?_pos, -getElem?_neg, h0, h, hsz, hgb]; refine hK _ _ ?_; clear hK K)
  have hand := and127 k (by omega)
  obtain ⟨m, hm⟩ : ∃ m, m = k % 128 := ⟨_, rfl⟩
  have hm128 : m < 128 := by omega
  have hor := or_low n m (by omega) hm128
  simp only [Int.toNat_natCast] at hrd
  rw [← hm] at hand hrd
  obtain ⟨n2, hn2⟩ : ∃ n2, n2 = n * 128 + m := ⟨_, rfl⟩
  rw [← hn2] at hor hrd
  rw [Int.natCast_mul] at hor
  have hor : bitsOf .or .u64 ((n : Int) * 128) (m : Int) = (n2 : Int) := hor
  refine aw_seq ?_
  (refine aw_ops (by kernel_rfl) (fun K hK => ?_); simp (disch := first | omega | (simp only [List.length_set, List.length_append, List.length_cons, List.length_nil, iv_length, zl_length]; try omega; done)) [-getElem?_pos, -getElem?_neg, h4, hand, hor]; refine hK _ _ ?_; clear hK K)
  have hbad : ∀ q : (g = 4 ∧ ((k : Nat) : Int) = 128) ∨ 4294967295 < n2, rdN 5 0 l = (0, l.drop (i + 1), 4) := fun q => by rw [hrd, if_pos q]
  have hgood : ¬ ((g = 4 ∧ ((k : Nat) : Int) = 128) ∨ 4294967295 < n2) → k < 128 → rdNum l = (n2, l.drop (i + 1), 0) := fun q q2 => by
    have : rdN 5 0 l = (n2, l.drop (i + 1), 0) := by rw [hrd, if_neg q, if_pos (by omega)]
    unfold rdNum
    rw [this]
    rfl
  have hnext : ¬ ((g = 4 ∧ ((k : Nat) : Int) = 128) ∨ 4294967295 < n2) → ¬ k < 128 → rdN 5 0 l = rdN g n2 (l.drop (i + 1)) := fun q q2 => by
    rw [hrd, if_neg q, if_neg (by omega)]
  have hex := ex_drop l (i + 1)
  refine aw_block ?_
  refine aw_seq ?_
  obtain ⟨bad, hbd⟩ : ∃ bad : Bool, bad = decide ((g = 4 ∧ ((k : Nat) : Int) = 128) ∨ 4294967295 < n2) := ⟨_, rfl⟩
  refine aw_cut (fun α2 G2 => G2 = G ∧ α2 34 = .bool bad ∧ α2 0 = .pointer (some ⟨p, 0, none⟩) ∧ α2 3 = .int .i64 4 ∧ α2 4 = .int .u64 (n2 : Nat) ∧ α2 5 = .int .i64 (i : Nat) ∧ α2 6 = .int .u8 (k : Nat) ∧ α2 12 = .int .i64 (i : Nat)) ?_ ?_
  · refine aw_seq ?_
    by_cases q1 : i = 0 ∧ k = 128
    · obtain ⟨rfl, rfl⟩ := q1
      have : bad = true := by rw [hbd]; exact decide_eq_true (.inl ⟨by omega, rfl⟩)
      rw [this]
      (refine aw_ops (by kernel_rfl) (fun K hK => ?_); simp (disch := first | omega | (simp only [List.length_set, List.length_append, List.length_cons, List.length_nil, iv_length, zl_length]; try omega; done)) [-getElem?_pos, -getElem?_neg]; refine hK _ _ ?_; clear hK K)
      refine aw_t (by (first | (simp [eval_tmp, put_at]; done) | (simp [eval_tmp, put_at]; omega))) (by kernel_rfl) ?_
      refine aw_skip ?_
      exact ⟨rfl, by (first | (simp [put_at, put_none, fr0_at]; done) | rfl), by (first | (simp [put_at, put_none, fr0_at, h0]; done) | rfl), by (first | (simp [put_at, put_none, fr0_at, h3]; done) | rfl), by (first | (simp [put_at, put_none, fr0_at]; done) | rfl), by (first | (simp [put_at, put_none, fr0_at]; done) | rfl), by (first | (simp [put_at, put_none, fr0_at]; done) | rfl), by (first | (simp [put_at, put_none, fr0_at, h12]; done) | rfl)⟩
    have q4 : ¬ (g = 4 ∧ ((k : Nat) : Int) = 128) := by omega
    have hbd : bad = decide (4294967295 < n2) := hbd.trans (decide_eq_decide.2 ⟨fun h => h.resolve_left q4, .inr⟩)
    by_cases q0 : i = 0
    · subst q0
      have q6 : ¬ k = 128 := by omega
      (refine aw_ops (by kernel_rfl) (fun K hK => ?_); simp (disch := first | omega | (simp only [List.length_set, List.length_append, List.length_cons, List.length_nil, iv_length, zl_length]; try omega; done)) [-getElem?_pos, -getElem?_neg, q6]; refine hK _ _ ?_; clear hK K)
      refine aw_f (by (first | (simp [eval_tmp, put_at, q6]; done) | (simp [eval_tmp, put_at, q6]; omega))) (by kernel_rfl) ?_
      (refine aw_ops (by kernel_rfl) (fun K hK => ?_); simp (disch := first | omega | (simp only [List.length_set, List.length_append, List.length_cons, List.length_nil, iv_length, zl_length]; try omega; done)) [-getElem?_pos, -getElem?_neg]; refine hK _ _ ?_; clear hK K)
      exact ⟨rfl, by simp [put_at, hbd]; omega, by (first | (simp [put_at, put_none, fr0_at, h0]; done) | rfl), by (first | (simp [put_at, put_none, fr0_at, h3]; done) | rfl), by (first | (simp [put_at, put_none, fr0_at]; done) | rfl), by (first | (simp [put_at, put_none, fr0_at]; done) | rfl), by (first | (simp [put_at, put_none, fr0_at]; done) | rfl), by (first | (simp [put_at, put_none, fr0_at, h12]; done) | rfl)⟩
    · (refine aw_ops (by kernel_rfl) (fun K hK => ?_); simp (disch := first | omega | (simp only [List.length_set, List.length_append, List.length_cons, List.length_nil, iv_length, zl_length]; try omega; done)) [-getElem?_pos, -getElem?_neg, q0]; refine hK _ _ ?_; clear hK K)
      refine aw_f (by (first | (simp [eval_tmp, put_at, q0]; done) | (simp [eval_tmp, put_at, q0]; omega))) (by kernel_rfl) ?_
      (refine aw_ops (by kernel_rfl) (fun K hK => ?_); simp (disch := first | omega | (simp only [List.length_set, List.length_append, List.length_cons, List.length_nil, iv_length, zl_length]; try omega; done)) [-getElem?_pos, -getElem?_neg]; refine hK _ _ ?_; clear hK K)
      exact ⟨rfl, by simp [put_at, hbd]; omega, by (first | (simp [put_at, put_none, fr0_at, h0]; done) | rfl), by (first | (simp [put_at, put_none, fr0_at, h3]; done) | rfl), by (first | (simp [put_at, put_none, fr0_at]; done) | rfl), by (first | (simp [put_at, put_none, fr0_at]; done) | rfl), by (first | (simp [put_at, put_none, fr0_at]; done) | rfl), by (first | (simp [put_at, put_none, fr0_at, h12]; done) | rfl)⟩
  clear h0 h3 h4 h12
  rintro α2 G2 ⟨rfl, h34, h0, h3, h4, h5, h6, h12⟩
  by_cases q : (g = 4 ∧ ((k : Nat) : Int) = 128) ∨ 4294967295 < n2
  · rw [decide_eq_true q] at hbd
    subst hbd
    refine aw_t (by (first | (simp [eval_tmp, put_at, h34]; done) | (simp [eval_tmp, put_at, h34]; omega))) (by kernel_rfl) ?_
    refine aw_exit ?_
    have := hbad q
    refine ⟨rfl, by (first | (simp [put_at, put_none, fr0_at, h0]; done) | rfl), by rw [this]; simp, by rw [this]; exact h3⟩
  rw [decide_eq_false q] at hbd
  subst hbd
  refine aw_f (by (first | (simp [eval_tmp, put_at, h34]; done) | (simp [eval_tmp, put_at, h34]; omega))) (by kernel_rfl) ?_
  refine aw_seq ?_
  (refine aw_ops (by kernel_rfl) (fun K hK => ?_); simp (disch := first | omega | (simp only [List.length_set, List.length_append, List.length_cons, List.length_nil, iv_length, zl_length]; try omega; done)) [-getElem?_pos, -getElem?_neg, h6]; refine hK _ _ ?_; clear hK K)
  by_cases q2 : k < 128
  · refine aw_t (by (first | (simp [eval_tmp, put_at, q2]; done) | (simp [eval_tmp, put_at, q2]; omega))) (by kernel_rfl) ?_
    refine aw_seq ?_
    (refine aw_ops (by kernel_rfl) (fun K hK => ?_); simp (disch := first | omega | (simp only [List.length_set, List.length_append, List.length_cons, List.length_nil, iv_length, zl_length]; try omega; done)) [-getElem?_pos, -getElem?_neg, h0, h, h5, hsz, hex]; refine hK _ _ ?_; clear hK K)
    refine aw_seq ?_
    (refine aw_ops (by kernel_rfl) (fun K hK => ?_); simp (disch := first | omega | (simp only [List.length_set, List.length_append, List.length_cons, List.length_nil, iv_length, zl_length]; try omega; done)) [-getElem?_pos, -getElem?_neg, h4]; refine hK _ _ ?_; clear hK K)
    (refine aw_ret ?_; simp (disch := first | omega | (simp only [List.length_set, List.length_append, List.length_cons, List.length_nil, iv_length, zl_length]; try omega; done)) [-getElem?_pos, -getElem?_neg, thenQ_ret, scopeQ_ret, inBlockQ_ret, RQ, resL, resV, hgood q q2])
  refine aw_f (by (first | (simp [eval_tmp, put_at, q2]; done) | (simp [eval_tmp, put_at, q2]; omega))) (by kernel_rfl) ?_
  refine aw_skip ?_
  (refine aw_ops (by kernel_rfl) (fun K hK => ?_); simp (disch := first | omega | (simp only [List.length_set, List.length_append, List.length_cons, List.length_nil, iv_length, zl_length]; try omega; done)) [-getElem?_pos, -getElem?_neg, h12]; refine hK _ _ ?_; clear hK K)
  exact ⟨g, by omega, rfl, i + 1, n2, by omega, by (first | (simp [put_at, put_none, fr0_at]; done) | rfl), by (first | (simp [put_at, put_none, fr0_at, h4]; done) | rfl), by (first | (simp [put_at, put_none, fr0_at, h3]; done) | rfl), by (first | (simp [put_at, put_none, fr0_at, h0]; done) | rfl), by omega, by omega, hnext q q2⟩
end

section
open Go Go.RowKit
set_option linter.unusedVariables false
set_option linter.unusedSimpArgs false
set_option maxRecDepth 100000
set_option maxHeartbeats 4000000
theorem rdN_by {g n : Nat} {l : List Int} (h : By l) : By (rdN g n l).2.1 ∧ (rdN g n l).2.1.length ≤ l.length := by
  induction g generalizing n l with
  | zero => exact ⟨h, Nat.le_refl _⟩
  | succ g ih =>
    cases l with
    | nil => exact ⟨h, Nat.le_refl _⟩
    | cons b l =>
      have hl : By l := fun x hx => h x (by simp [hx])
      unfold rdN
      split
      · exact ⟨hl, by simp⟩
      split
      · exact ⟨hl, by simp⟩
      · have := ih (n := n * 128 + b.toNat % 128) hl
        exact ⟨this.1, by simp; omega⟩
theorem rdN_val {g n : Nat} {l : List Int} : (rdN g n l).1 ≤ 4294967295 := by
  induction g generalizing n l with
  | zero => simp [rdN]
  | succ g ih =>
    cases l with
    | nil => simp [rdN]
    | cons b l =>
      unfold rdN
      split
      · simp
      split
      · simp; omega
      · exact ih
theorem rdNum_by {l : List Int} (h : By l) : By (rdNum l).2.1 ∧ (rdNum l).2.1.length ≤ l.length := by
  unfold rdNum
  split
  · exact rdN_by h
  · exact ⟨h, Nat.le_refl _⟩
theorem rdNum_val {l : List Int} : (rdNum l).1 ≤ 4294967295 := by
  unfold rdNum
  split
  · exact rdN_val
  · simp
/-- A count read: it, what is left, the error. -/
def rdCount (most : Int) (l : List Int) : Nat × List Int × Int :=
  if (rdNum l).2.2 ≠ 0 then (0, l, (rdNum l).2.2) else if max most 0 < (rdNum l).1 then (0, l, 5) else rdNum l
def rdText (most : Int) (l : List Int) : List Int × List Int × Int :=
  if (rdCount most l).2.2 ≠ 0 then ([], l, (rdCount most l).2.2) else if (rdCount most l).2.1.length < (rdCount most l).1 then ([], l, 3)
  else ((rdCount most l).2.1.take (rdCount most l).1, (rdCount most l).2.1.drop (rdCount most l).1, 0)
theorem rdNum_bad {l : List Int} (h : (rdNum l).2.2 ≠ 0) : rdNum l = (0, l, (rdNum l).2.2) := by
  unfold rdNum at h ⊢
  split
  · rename_i e; rw [if_pos e, e] at h; exact absurd rfl h
  · rfl
theorem rdCount_by {most : Int} {l : List Int} (h : By l) : By (rdCount most l).2.1 ∧ (rdCount most l).2.1.length ≤ l.length := by
  unfold rdCount
  split
  · exact ⟨h, Nat.le_refl _⟩
  split
  · exact ⟨h, Nat.le_refl _⟩
  · exact rdNum_by h
theorem rdCount_val {most : Int} {l : List Int} : (rdCount most l).1 ≤ 4294967295 := by
  unfold rdCount
  split
  · simp
  split
  · simp
  · exact rdNum_val
theorem rdCount_bad {most : Int} {l : List Int} (h : (rdCount most l).2.2 ≠ 0) : rdCount most l = (0, l, (rdCount most l).2.2) := by
  unfold rdCount at h ⊢
  split
  · rfl
  split
  · rfl
  · rename_i e1 e2
    rw [if_neg e1, if_neg e2] at h
    exact absurd h e1
attribute [local simp] wb_bool wb_undef XL_nil XL_cons XLc_val XLc_call step1_eq stepW_t stepW_f stepC_n stepC_s stepX_s stepX_n stepN_s calleeX oneV xop_eq xopR_s xopR_n wantedA_eq wantedG_n wantedG_s plain1_int plain1_bool plain1_string bits_i64 bits_u64 bits_u32 bits_u16 bits_u8 xeqA xagg xcmp xarr allK_iv num_iv calleeOf xread xeff xbin xint xnil xun xstr xload xconv xpart xfield xfieldAddr xindexAddr xindex bnd asInt? xslice xlen xmin xmax xbuild xfill xappend xapp2 xappstr xappmk xcap xcopy xcells eval_tmp eval_const put_at put_none fr0_at cells_agg cells_int cells_bool cells_string cells_ptr cells_slice notTuple tab iv_all hget_app hget_app0 hget_cons0 hget_cons set_app set_app0 setR setR_one QL_nil QL_cons QLc_val stepQ_t stepQ_f stepQC_n stepQC_s stepQX_s SL_nil SL_cons SLc_val stepS_t stepS_f ltT ltF leT leF eqT eqF ltTn ltFn leTn leFn eqTn eqFn beqT beqF bneT bneF wi64 wu64 wu32 wu16 wu8 tmodP tdivP hgetL hgetNe hgetEq setL nums_def nums_len Nat.succ_le_of_lt List.getElem?_cons_zero List.getElem?_cons_succ Option.getD_some Int.toNat_add Int.toNat_mul agB agI agS agP agL agA okB okI okS okP okSl okA
theorem left_ac {H : AH} {γ : Nat → Option Nat} {nro p : Nat} {l : List Int} {e : Int} (h : hget H p = some (rdC l e)) (hl : l.length ≤ 1000000) :
    AC Tryd.prog nro γ 57 #[.pointer (some ⟨p, 0, none⟩)] H (fun v' H' => v' = .int .i64 (l.length : Nat) ∧ H' = H) := by
  unfold rdC at h
  have hsz := sn_size l
  refine ac_of_aw Tryd.func57 rfl Tryd.ntmps57 Tryd.results57 (by simp) ?_
  refine aw_seq ?_
  (refine aw_ops (by kernel_rfl) (fun K hK => ?_); simp (disch := first | omega | (simp only [List.length_set, List.length_append, List.length_cons, List.length_nil, iv_length, zl_length]; try omega; done)) [-getElem?_pos, -getElem?_neg]; refine hK _ _ ?_; clear hK K)
  refine aw_seq ?_
  (refine aw_ops (by kernel_rfl) (fun K hK => ?_); simp (disch := first | omega | (simp only [List.length_set, List.length_append, List.length_cons, List.length_nil, iv_length, zl_length]; try omega; done)) [-getElem?_pos, -getElem?_neg, h, hsz]; refine hK _ _ ?_; clear hK K)
  (refine aw_ret ?_; simp (disch := first | omega | (simp only [List.length_set, List.length_append, List.length_cons, List.length_nil, iv_length, zl_length]; try omega; done)) [-getElem?_pos, -getElem?_neg, thenQ_ret, scopeQ_ret, inBlockQ_ret, RQ, resL, resV])
theorem newreader_ac {H : AH} {γ : Nat → Option Nat} {nro : Nat} {l : List Int} :
    AC Tryd.prog nro γ 56 #[.string (strOfNums l)] H (fun v' H' => v' = .pointer (some ⟨H.length, 0, none⟩) ∧ H' = H ++ [some (rdC l 0)]) := by
  unfold rdC
  refine ac_of_aw Tryd.func56 rfl Tryd.ntmps56 Tryd.results56 (by simp) ?_
  refine aw_seq ?_
  (refine aw_ops (by kernel_rfl) (fun K hK => ?_); simp (disch := first | omega | (simp only [List.length_set, List.length_append, List.length_cons, List.length_nil, iv_length, zl_length]; try omega; done)) [-getElem?_pos, -getElem?_neg]; refine hK _ _ ?_; clear hK K)
  refine aw_seq ?_
  (refine aw_ops (by kernel_rfl) (fun K hK => ?_); simp (disch := first | omega | (simp only [List.length_set, List.length_append, List.length_cons, List.length_nil, iv_length, zl_length]; try omega; done)) [-getElem?_pos, -getElem?_neg]; refine hK _ _ ?_; clear hK K)
  (refine aw_ret ?_; simp (disch := first | omega | (simp only [List.length_set, List.length_append, List.length_cons, List.length_nil, iv_length, zl_length]; try omega; done)) [-getElem?_pos, -getElem?_neg, thenQ_ret, scopeQ_ret, inBlockQ_ret, RQ, resL, resV])
theorem giveup_ac {H : AH} {γ : Nat → Option Nat} {nro p : Nat} {l l2 : List Int} {e e2 : Int} (hp : nro ≤ p) (h : hget H p = some (rdC l e)) :
    AC Tryd.prog nro γ 79 #[.pointer (some ⟨p, 0, none⟩), .string (strOfNums l2), .int .i64 e2] H (fun v' H' => H' = H.set p (some (rdC l2 e2))) := by
  have hpl := hget_lt h
  unfold rdC at h ⊢
  refine ac_of_aw Tryd.func79 rfl Tryd.ntmps79 Tryd.results79 (by simp) ?_
  (refine aw_ops (by kernel_rfl) (fun K hK => ?_); simp (disch := first | omega | (simp only [List.length_set, List.length_append, List.length_cons, List.length_nil, iv_length, zl_length]; try omega; done)) [-getElem?_pos, -getElem?_neg, h]; refine hK _ _ ?_; clear hK K)
  exact ⟨_, _, rfl, rfl, rfl⟩
theorem count_ac {H : AH} {γ : Nat → Option Nat} {nro p : Nat} {l : List Int} {most : Int} (hp : nro ≤ p) (h : hget H p = some (rdC l 0)) (hb : By l) (hl : l.length ≤ 1000000) (hm : most ≤ 9223372036854775807) :
    AC Tryd.prog nro γ 78 #[.pointer (some ⟨p, 0, none⟩), .int .i64 most] H (fun v' H' => v' = .int .u64 ((rdCount most l).1 : Nat) ∧ H' = H.set p (some (rdC (rdCount most l).2.1 (rdCount most l).2.2))) := by
  have hnum := number_ac (γ := γ) hp h hb hl
  have hpl := hget_lt h
  obtain ⟨n, l2, e, hr⟩ : ∃ n l2 e, rdNum l = (n, l2, e) := ⟨_, _, _, rfl⟩
  have hv := rdNum_val (l := l)
  have hbad := rdNum_bad (l := l)
  have hc : rdCount most l = if e ≠ 0 then (0, l, e) else if max most 0 < n then (0, l, 5) else (n, l2, e) := by unfold rdCount; rw [hr]
  rw [hr] at hnum hv hbad
  simp only at hnum hv hbad
  obtain ⟨mx, hmx⟩ : ∃ mx, mx = max most 0 := ⟨_, rfl⟩
  have hmx0 : 0 ≤ mx ∧ mx ≤ 9223372036854775807 := by omega
  rw [← hmx] at hc
  unfold rdC at h hnum ⊢
  have hh := hgetEq (x := some ⟨[.string (strOfNums l2), .int .i64 e], 132, none⟩) hpl
  have hsl : p < (H.set p (some ⟨[.string (strOfNums l2), .int .i64 e], 132, none⟩)).length := by simpa using hpl
  refine ac_of_aw Tryd.func78 rfl Tryd.ntmps78 Tryd.results78 (by simp) ?_
  refine aw_seq ?_
  (refine aw_ops (by kernel_rfl) (fun K hK => ?_); simp (disch := first | omega | (simp only [List.length_set, List.length_append, List.length_cons, List.length_nil, iv_length, zl_length]; try omega; done)) [-getElem?_pos, -getElem?_neg]; refine hK _ _ ?_; clear hK K)
  refine aw_seq ?_
  (refine aw_ops (by kernel_rfl) (fun K hK => ?_); simp (disch := first | omega | (simp only [List.length_set, List.length_append, List.length_cons, List.length_nil, iv_length, zl_length]; try omega; done)) [-getElem?_pos, -getElem?_neg, h]; refine hK _ _ ?_; clear hK K)
  refine aw_seq ?_
  refine aw_ops (by kernel_rfl) (fun K hK => ?_)
  simp (disch := first | omega | (simp only [List.length_set, List.length_append, List.length_cons, List.length_nil, iv_length, zl_length]; try omega; done)) [-getElem?_pos, -getElem?_neg]
  refine ⟨by kernel_rfl, hnum.mono ?_⟩
  rintro v1 H1 ⟨rfl, rfl⟩
  try simp (disch := first | omega | (simp only [List.length_set, List.length_append, List.length_cons, List.length_nil, iv_length, zl_length]; try omega; done)) [-getElem?_pos, -getElem?_neg]
  refine hK _ _ ?_; clear hK K
  refine aw_seq ?_
  refine aw_seq ?_
  obtain ⟨H2, hH2⟩ : ∃ H2, H2 = H.set p (some ⟨[.string (strOfNums l2), .int .i64 e], 132, none⟩) := ⟨_, rfl⟩
  rw [← hH2] at hh hsl ⊢
  by_cases he : e = 0
  · subst he
    rw [if_neg (by simp)] at hc
    (refine aw_ops (by kernel_rfl) (fun K hK => ?_); simp (disch := first | omega | (simp only [List.length_set, List.length_append, List.length_cons, List.length_nil, iv_length, zl_length]; try omega; done)) [-getElem?_pos, -getElem?_neg, hh, ← hmx]; refine hK _ _ ?_; clear hK K)
    by_cases hq : mx < n
    · rw [if_pos hq] at hc
      refine aw_t (by (first | (simp [eval_tmp, put_at, hq]; done) | (simp [eval_tmp, put_at, hq]; omega))) (by kernel_rfl) ?_
      refine aw_seq ?_
      refine aw_ops (by kernel_rfl) (fun K hK => ?_)
      simp (disch := first | omega | (simp only [List.length_set, List.length_append, List.length_cons, List.length_nil, iv_length, zl_length]; try omega; done)) [-getElem?_pos, -getElem?_neg]
      refine ⟨by kernel_rfl, (giveup_ac (l := l2) (l2 := l) hp hh).mono ?_⟩
      rintro v1 H1 rfl
      try simp (disch := first | omega | (simp only [List.length_set, List.length_append, List.length_cons, List.length_nil, iv_length, zl_length]; try omega; done)) [-getElem?_pos, -getElem?_neg]
      refine hK _ _ ?_; clear hK K
      refine aw_seq ?_
      (refine aw_ops (by kernel_rfl) (fun K hK => ?_); simp (disch := first | omega | (simp only [List.length_set, List.length_append, List.length_cons, List.length_nil, iv_length, zl_length]; try omega; done)) [-getElem?_pos, -getElem?_neg]; refine hK _ _ ?_; clear hK K)
      (refine aw_ret ?_; simp (disch := first | omega | (simp only [List.length_set, List.length_append, List.length_cons, List.length_nil, iv_length, zl_length]; try omega; done)) [-getElem?_pos, -getElem?_neg, thenQ_ret, scopeQ_ret, inBlockQ_ret, RQ, resL, resV, hc, hH2, rdC])
    · rw [if_neg hq] at hc
      refine aw_f (by (first | (simp [eval_tmp, put_at, hq]; done) | (simp [eval_tmp, put_at, hq]; omega))) (by kernel_rfl) ?_
      refine aw_skip ?_
      refine aw_seq ?_
      (refine aw_ops (by kernel_rfl) (fun K hK => ?_); simp (disch := first | omega | (simp only [List.length_set, List.length_append, List.length_cons, List.length_nil, iv_length, zl_length]; try omega; done)) [-getElem?_pos, -getElem?_neg]; refine hK _ _ ?_; clear hK K)
      (refine aw_ret ?_; simp (disch := first | omega | (simp only [List.length_set, List.length_append, List.length_cons, List.length_nil, iv_length, zl_length]; try omega; done)) [-getElem?_pos, -getElem?_neg, thenQ_ret, scopeQ_ret, inBlockQ_ret, RQ, resL, resV, hc, hH2])
  · rw [if_pos he] at hc
    have hb2 := hbad he
    simp only [Prod.mk.injEq] at hb2
    obtain ⟨rfl, rfl, _⟩ := hb2
    (refine aw_ops (by kernel_rfl) (fun K hK => ?_); simp (disch := first | omega | (simp only [List.length_set, List.length_append, List.length_cons, List.length_nil, iv_length, zl_length]; try omega; done)) [-getElem?_pos, -getElem?_neg, hh, he]; refine hK _ _ ?_; clear hK K)
    refine aw_f (by (first | (simp [eval_tmp, put_at]; done) | (simp [eval_tmp, put_at]; omega))) (by kernel_rfl) ?_
    refine aw_skip ?_
    refine aw_seq ?_
    (refine aw_ops (by kernel_rfl) (fun K hK => ?_); simp (disch := first | omega | (simp only [List.length_set, List.length_append, List.length_cons, List.length_nil, iv_length, zl_length]; try omega; done)) [-getElem?_pos, -getElem?_neg]; refine hK _ _ ?_; clear hK K)
    (refine aw_ret ?_; simp (disch := first | omega | (simp only [List.length_set, List.length_append, List.length_cons, List.length_nil, iv_length, zl_length]; try omega; done)) [-getElem?_pos, -getElem?_neg, thenQ_ret, scopeQ_ret, inBlockQ_ret, RQ, resL, resV, hc, hH2])
theorem text_ac {H : AH} {γ : Nat → Option Nat} {nro p : Nat} {l : List Int} {most : Int} (hp : nro ≤ p) (h : hget H p = some (rdC l 0)) (hb : By l) (hl : l.length ≤ 1000000) (hm : most ≤ 9223372036854775807) :
    AC Tryd.prog nro γ 58 #[.pointer (some ⟨p, 0, none⟩), .int .i64 most] H (fun v' H' => v' = .string (strOfNums (rdText most l).1) ∧ H' = H.set p (some (rdC (rdText most l).2.1 (rdText most l).2.2))) := by
  have hnum := count_ac (γ := γ) hp h hb hl hm
  have hpl := hget_lt h
  obtain ⟨n, l2, e, hr⟩ : ∃ n l2 e, rdCount most l = (n, l2, e) := ⟨_, _, _, rfl⟩
  have hv := rdCount_val (l := l) (most := most)
  have hbad := rdCount_bad (l := l) (most := most)
  have hby := rdCount_by (l := l) (most := most) hb
  have hc : rdText most l = if e ≠ 0 then ([], l, e) else if l2.length < n then ([], l, 3) else (l2.take n, l2.drop n, 0) := by unfold rdText; rw [hr]
  rw [hr] at hnum hv hbad hby
  simp only at hnum hv hbad hby
  have hsz := sn_size l2
  have hex1 := ex_drop l2 n
  have hex2 := ex_take l2 n
  unfold rdC at h hnum ⊢
  have hh := hgetEq (x := some ⟨[.string (strOfNums l2), .int .i64 e], 132, none⟩) hpl
  have hsl : p < (H.set p (some ⟨[.string (strOfNums l2), .int .i64 e], 132, none⟩)).length := by simpa using hpl
  refine ac_of_aw Tryd.func58 rfl Tryd.ntmps58 Tryd.results58 (by simp) ?_
  refine aw_seq ?_
  (refine aw_ops (by kernel_rfl) (fun K hK => ?_); simp (disch := first | omega | (simp only [List.length_set, List.length_append, List.length_cons, List.length_nil, iv_length, zl_length]; try omega; done)) [-getElem?_pos, -getElem?_neg]; refine hK _ _ ?_; clear hK K)
  refine aw_seq ?_
  (refine aw_ops (by kernel_rfl) (fun K hK => ?_); simp (disch := first | omega | (simp only [List.length_set, List.length_append, List.length_cons, List.length_nil, iv_length, zl_length]; try omega; done)) [-getElem?_pos, -getElem?_neg, h]; refine hK _ _ ?_; clear hK K)
  refine aw_seq ?_
  refine aw_ops (by kernel_rfl) (fun K hK => ?_)
  simp (disch := first | omega | (simp only [List.length_set, List.length_append, List.length_cons, List.length_nil, iv_length, zl_length]; try omega; done)) [-getElem?_pos, -getElem?_neg]
  refine ⟨by kernel_rfl, hnum.mono ?_⟩
  rintro v1 H1 ⟨rfl, rfl⟩
  try simp (disch := first | omega | (simp only [List.length_set, List.length_append, List.length_cons, List.length_nil, iv_length, zl_length]; try omega; done)) [-getElem?_pos, -getElem?_neg]
  refine hK _ _ ?_; clear hK K
  refine aw_seq ?_
  obtain ⟨H2, hH2⟩ : ∃ H2, H2 = H.set p (some ⟨[.string (strOfNums l2), .int .i64 e], 132, none⟩) := ⟨_, rfl⟩
  rw [← hH2] at hh hsl ⊢
  by_cases he : e = 0
  · subst he
    rw [if_neg (by simp)] at hc
    refine aw_seq ?_
    (refine aw_ops (by kernel_rfl) (fun K hK => ?_); simp (disch := first | omega | (simp only [List.length_set, List.length_append, List.length_cons, List.length_nil, iv_length, zl_length]; try omega; done)) [-getElem?_pos, -getElem?_neg, hh, hsz]; refine hK _ _ ?_; clear hK K)
    by_cases hq : l2.length < n
    · rw [if_pos hq] at hc
      refine aw_t (by (first | (simp [eval_tmp, put_at, hq]; done) | (simp [eval_tmp, put_at, hq]; omega))) (by kernel_rfl) ?_
      refine aw_ops (by kernel_rfl) (fun K hK => ?_)
      simp (disch := first | omega | (simp only [List.length_set, List.length_append, List.length_cons, List.length_nil, iv_length, zl_length]; try omega; done)) [-getElem?_pos, -getElem?_neg]
      refine ⟨by kernel_rfl, (giveup_ac (l := l2) (l2 := l) hp hh).mono ?_⟩
      rintro v1 H1 rfl
      try simp (disch := first | omega | (simp only [List.length_set, List.length_append, List.length_cons, List.length_nil, iv_length, zl_length]; try omega; done)) [-getElem?_pos, -getElem?_neg]
      refine hK _ _ ?_; clear hK K
      have hh3 := hgetEq (x := some (rdC l 3)) hsl
      unfold rdC at hh3
      refine aw_seq ?_
      refine aw_seq ?_
      (refine aw_ops (by kernel_rfl) (fun K hK => ?_); simp (disch := first | omega | (simp only [List.length_set, List.length_append, List.length_cons, List.length_nil, iv_length, zl_length]; try omega; done)) [-getElem?_pos, -getElem?_neg, rdC, hh3]; refine hK _ _ ?_; clear hK K)
      refine aw_t (by (first | (simp [eval_tmp, put_at]; done) | (simp [eval_tmp, put_at]; omega))) (by kernel_rfl) ?_
      refine aw_seq ?_
      (refine aw_ops (by kernel_rfl) (fun K hK => ?_); simp (disch := first | omega | (simp only [List.length_set, List.length_append, List.length_cons, List.length_nil, iv_length, zl_length]; try omega; done)) [-getElem?_pos, -getElem?_neg]; refine hK _ _ ?_; clear hK K)
      (refine aw_ret ?_; simp (disch := first | omega | (simp only [List.length_set, List.length_append, List.length_cons, List.length_nil, iv_length, zl_length]; try omega; done)) [-getElem?_pos, -getElem?_neg, thenQ_ret, scopeQ_ret, inBlockQ_ret, RQ, resL, resV, hc, hH2, rdC, sn_nil0])
    · rw [if_neg hq] at hc
      refine aw_f (by (first | (simp [eval_tmp, put_at, hq]; done) | (simp [eval_tmp, put_at, hq]; omega))) (by kernel_rfl) ?_
      refine aw_skip ?_
      refine aw_seq ?_
      refine aw_seq ?_
      (refine aw_ops (by kernel_rfl) (fun K hK => ?_); simp (disch := first | omega | (simp only [List.length_set, List.length_append, List.length_cons, List.length_nil, iv_length, zl_length]; try omega; done)) [-getElem?_pos, -getElem?_neg, hh]; refine hK _ _ ?_; clear hK K)
      refine aw_f (by (first | (simp [eval_tmp, put_at]; done) | (simp [eval_tmp, put_at]; omega))) (by kernel_rfl) ?_
      refine aw_skip ?_
      refine aw_seq ?_
      (refine aw_ops (by kernel_rfl) (fun K hK => ?_); simp (disch := first | omega | (simp only [List.length_set, List.length_append, List.length_cons, List.length_nil, iv_length, zl_length]; try omega; done)) [-getElem?_pos, -getElem?_neg, hh, hsz, hex2]; refine hK _ _ ?_; clear hK K)
      refine aw_seq ?_
      (refine aw_ops (by kernel_rfl) (fun K hK => ?_); simp (disch := first | omega | (simp only [List.length_set, List.length_append, List.length_cons, List.length_nil, iv_length, zl_length]; try omega; done)) [-getElem?_pos, -getElem?_neg, hh, hsz, hex1]; refine hK _ _ ?_; clear hK K)
      refine aw_seq ?_
      (refine aw_ops (by kernel_rfl) (fun K hK => ?_); simp (disch := first | omega | (simp only [List.length_set, List.length_append, List.length_cons, List.length_nil, iv_length, zl_length]; try omega; done)) [-getElem?_pos, -getElem?_neg]; refine hK _ _ ?_; clear hK K)
      (refine aw_ret ?_; simp (disch := first | omega | (simp only [List.length_set, List.length_append, List.length_cons, List.length_nil, iv_length, zl_length]; try omega; done)) [-getElem?_pos, -getElem?_neg, thenQ_ret, scopeQ_ret, inBlockQ_ret, RQ, resL, resV, hc, hH2])
  · rw [if_pos he] at hc
    have hb2 := hbad he
    simp only [Prod.mk.injEq] at hb2
    obtain ⟨rfl, rfl, _⟩ := hb2
    refine aw_seq ?_
    (refine aw_ops (by kernel_rfl) (fun K hK => ?_); simp (disch := first | omega | (simp only [List.length_set, List.length_append, List.length_cons, List.length_nil, iv_length, zl_length]; try omega; done)) [-getElem?_pos, -getElem?_neg, hh, he]; refine hK _ _ ?_; clear hK K)
    refine aw_f (by (first | (simp [eval_tmp, put_at]; done) | (simp [eval_tmp, put_at]; omega))) (by kernel_rfl) ?_
    refine aw_skip ?_
    refine aw_seq ?_
    refine aw_seq ?_
    (refine aw_ops (by kernel_rfl) (fun K hK => ?_); simp (disch := first | omega | (simp only [List.length_set, List.length_append, List.length_cons, List.length_nil, iv_length, zl_length]; try omega; done)) [-getElem?_pos, -getElem?_neg, hh, he]; refine hK _ _ ?_; clear hK K)
    refine aw_t (by (first | (simp [eval_tmp, put_at, he]; done) | (simp [eval_tmp, put_at, he]; omega))) (by kernel_rfl) ?_
    refine aw_seq ?_
    (refine aw_ops (by kernel_rfl) (fun K hK => ?_); simp (disch := first | omega | (simp only [List.length_set, List.length_append, List.length_cons, List.length_nil, iv_length, zl_length]; try omega; done)) [-getElem?_pos, -getElem?_neg]; refine hK _ _ ?_; clear hK K)
    (refine aw_ret ?_; simp (disch := first | omega | (simp only [List.length_set, List.length_append, List.length_cons, List.length_nil, iv_length, zl_length]; try omega; done)) [-getElem?_pos, -getElem?_neg, thenQ_ret, scopeQ_ret, inBlockQ_ret, RQ, resL, resV, hc, hH2, sn_nil0])
end

section
open Go Go.RowKit
set_option linter.unusedVariables false
set_option linter.unusedSimpArgs false

structure DM where
  firm : List ByteArray
  uns : List (Nat × ByteArray)
  fuse : Int
  dead : Bool
def lateOf (firm : List ByteArray) (uns : List (Nat × ByteArray)) : List ByteArray := uns.foldl (fun l w => l.set w.1 w.2) firm
structure DM.Ok (D : DM) : Prop where
  one : 1 ≤ D.firm.length
  most : D.firm.length ≤ 1024
  rows : ∀ r ∈ D.firm, r.size = 256
  uns : ∀ w ∈ D.uns, w.1 < D.firm.length ∧ w.2.size = 256
  fuse : -1 ≤ D.fuse ∧ D.fuse ≤ 9223372036854775807
  few : D.uns.length ≤ 1000
theorem late_len (firm : List ByteArray) (uns : List (Nat × ByteArray)) : (lateOf firm uns).length = firm.length := by
  unfold lateOf
  induction uns generalizing firm with
  | nil => rfl
  | cons w uns ih => rw [List.foldl_cons, ih, List.length_set]
theorem mem_set {β : Type} {l : List β} {i : Nat} {x y : β} (h : y ∈ l.set i x) : y ∈ l ∨ y = x := by
  rcases List.mem_or_eq_of_mem_set h with h | h
  · exact .inl h
  · exact .inr h
theorem late_rows {uns : List (Nat × ByteArray)} : ∀ {firm : List ByteArray}, (∀ r ∈ firm, r.size = 256) → (∀ w ∈ uns, w.2.size = 256) → ∀ r ∈ lateOf firm uns, r.size = 256 := by
  unfold lateOf
  induction uns with
  | nil => intro firm h _; exact h
  | cons w uns ih =>
    intro firm h hu
    rw [List.foldl_cons]
    refine ih (fun r hr => ?_) (fun w' hw' => hu w' (List.mem_cons_of_mem _ hw'))
    rcases mem_set hr with hr | rfl
    · exact h r hr
    · exact hu w List.mem_cons_self
theorem late_app (firm : List ByteArray) (uns : List (Nat × ByteArray)) (w : Nat × ByteArray) : lateOf firm (uns ++ [w]) = (lateOf firm uns).set w.1 w.2 := by
  unfold lateOf; rw [List.foldl_append]; rfl
def DM.late (D : DM) : List ByteArray := lateOf D.firm D.uns
/-- Blocks, as cells; writes, as cells. -/
def fc (l : List ByteArray) : List Value := (l.map sv).flatten
def uc (u : List (Nat × ByteArray)) : List Value := (u.map fun w => Value.int .i64 (w.1 : Nat) :: sv w.2).flatten
theorem fc_rows {l : List ByteArray} (h : ∀ r ∈ l, r.size = 256) : ∀ r ∈ l.map sv, r.length = 256 := by
  intro r hr
  obtain ⟨s, hs, rfl⟩ := List.mem_map.1 hr
  rw [sv_length]; exact h s hs
theorem uc_rows {u : List (Nat × ByteArray)} (h : ∀ w ∈ u, w.2.size = 256) : ∀ r ∈ u.map (fun w => Value.int .i64 (w.1 : Nat) :: sv w.2), r.length = 257 := by
  intro r hr
  obtain ⟨s, hs, rfl⟩ := List.mem_map.1 hr
  rw [List.length_cons, sv_length, h s hs]
theorem fc_len {l : List ByteArray} (h : ∀ r ∈ l, r.size = 256) : (fc l).length = l.length * 256 := by
  unfold fc; rw [fl_len (fc_rows h), List.length_map]
theorem uc_len {u : List (Nat × ByteArray)} (h : ∀ w ∈ u, w.2.size = 256) : (uc u).length = u.length * 257 := by
  unfold uc; rw [fl_len (uc_rows h), List.length_map]
theorem fc_get {l : List ByteArray} (h : ∀ r ∈ l, r.size = 256) {k : Nat} {r : ByteArray} (hk : l[k]? = some r) : ((fc l).drop (k * 256)).take 256 = sv r :=
  fl_get (fc_rows h) (by rw [List.getElem?_map, hk]; rfl)
theorem uc_get {u : List (Nat × ByteArray)} (h : ∀ w ∈ u, w.2.size = 256) {k : Nat} {w : Nat × ByteArray} (hk : u[k]? = some w) : ((uc u).drop (k * 257)).take 257 = .int .i64 (w.1 : Nat) :: sv w.2 :=
  fl_get (uc_rows h) (by rw [List.getElem?_map, hk]; rfl)
theorem fc_set {l : List ByteArray} (h : ∀ r ∈ l, r.size = 256) {k : Nat} {r : ByteArray} (hk : k < l.length) (hr : r.size = 256) : setR (fc l) (k * 256) (sv r) = fc (l.set k r) := by
  unfold fc
  rw [fl_setR (fc_rows h) (q := sv l[k]) (by rw [List.getElem?_map, List.getElem?_eq_getElem hk]; rfl) (by rw [sv_length, hr]; exact Nat.le_refl _), List.map_set]
  rw [List.drop_of_length_le (by rw [sv_length, sv_length, h _ (List.getElem_mem hk), hr]; exact Nat.le_refl _), List.append_nil]
theorem uc_app (u : List (Nat × ByteArray)) (w : Nat × ByteArray) : uc u ++ (.int .i64 (w.1 : Nat) :: sv w.2) = uc (u ++ [w]) := by
  unfold uc; rw [fl_app, List.map_append]; rfl

/-- Where a disk lies. -/
structure DkR (H : AH) (p s l : Nat) (U : Value) (FU : List Nat) (D : DM) : Prop where
  hp : hget H p = some ⟨[.slice (some ⟨s, 0, none⟩) D.firm.length D.firm.length, .slice (some ⟨l, 0, none⟩) D.firm.length D.firm.length, U, .int .i64 D.fuse, .bool D.dead], 61, none⟩
  hs : hget H s = some ⟨fc D.firm, 90, some 256⟩
  hl : hget H l = some ⟨fc D.late, 90, some 256⟩
  hu : OwnF H U 92 257 (uc D.uns) FU
  ps : p ≠ s
  pl : p ≠ l
  sl : s ≠ l
  fu : p ∉ FU ∧ s ∉ FU ∧ l ∉ FU
def Dk (H : AH) (p : Nat) (F : List Nat) (D : DM) : Prop := D.Ok ∧ ∃ s l U FU, F = p :: s :: l :: FU ∧ DkR H p s l U FU D
theorem Dk.low {H H' : AH} {p : Nat} {F : List Nat} {D : DM} (h : Dk H p F D) (hl : ∀ j ∈ F, hget H' j = hget H j) : Dk H' p F D := by
  obtain ⟨h0, s, l, U, FU, rfl, h⟩ := h
  exact ⟨h0, s, l, U, FU, rfl, ⟨by rw [hl p (by simp)]; exact h.hp, by rw [hl s (by simp)]; exact h.hs, by rw [hl l (by simp)]; exact h.hl, h.hu.low (fun j hj => hl j (by simp [hj])), h.ps, h.pl, h.sl, h.fu⟩⟩
theorem Dk.lt {H : AH} {p : Nat} {F : List Nat} {D : DM} (h : Dk H p F D) : ∀ j ∈ F, j < H.length := by
  obtain ⟨h0, s, l, U, FU, rfl, h⟩ := h
  intro j hj
  simp only [List.mem_cons] at hj
  rcases hj with rfl | rfl | rfl | hj
  · exact hget_lt h.hp
  · exact hget_lt h.hs
  · exact hget_lt h.hl
  · rcases h.hu with ⟨_, _, rfl⟩ | ⟨i, len, _, h2, _, rfl⟩
    · cases hj
    · rw [List.mem_singleton] at hj; subst hj; exact hget_lt h2
end

section
open Go Go.RowKit
set_option linter.unusedVariables false
set_option linter.unusedSimpArgs false
set_option maxRecDepth 100000
set_option maxHeartbeats 4000000
attribute [local simp] wb_bool wb_undef XL_nil XL_cons XLc_val XLc_call step1_eq stepW_t stepW_f stepC_n stepC_s stepX_s stepX_n stepN_s calleeX oneV xop_eq xopR_s xopR_n wantedA_eq wantedG_n wantedG_s plain1_int plain1_bool plain1_string bits_i64 bits_u64 bits_u32 bits_u16 bits_u8 xeqA xagg xcmp xarr allK_iv num_iv calleeOf xread xeff xbin xint xnil xun xstr xload xconv xpart xfield xfieldAddr xindexAddr xindex bnd asInt? xslice xlen xmin xmax xbuild xfill xappend xapp2 xappstr xappmk xcap xcopy xcells eval_tmp eval_const put_at put_none fr0_at cells_agg cells_int cells_bool cells_string cells_ptr cells_slice notTuple tab iv_all hget_app hget_app0 hget_cons0 hget_cons set_app set_app0 setR setR_one QL_nil QL_cons QLc_val stepQ_t stepQ_f stepQC_n stepQC_s stepQX_s SL_nil SL_cons SLc_val stepS_t stepS_f ltT ltF leT leF eqT eqF ltTn ltFn leTn leFn eqTn eqFn beqT beqF bneT bneF wi64 wu64 wu32 wu16 wu8 tmodP tdivP hgetL hgetNe hgetEq setL nums_def nums_len Nat.succ_le_of_lt List.getElem?_cons_zero List.getElem?_cons_succ Option.getD_some Int.toNat_add Int.toNat_mul agB agI agS agP agL agA okB okI okS okP okSl okA

section
variable {H : AH} {γ : Nat → Option Nat} {nro p : Nat} {F : List Nat} {D : DM}
theorem blocks_ac (h : Dk H p F D) : AC Tryd.prog nro γ 30 #[.pointer (some ⟨p, 0, none⟩)] H (fun v' H' => v' = .int .i64 D.firm.length ∧ H' = H) := by
  obtain ⟨ho, s, l, U, FU, rfl, h⟩ := h
  have hp := h.hp
  refine ac_of_aw Tryd.func30 rfl Tryd.ntmps30 Tryd.results30 (by simp) ?_
  refine aw_seq ?_
  (refine aw_ops (by kernel_rfl) (fun K hK => ?_); simp (disch := first | omega | (simp only [List.length_set, List.length_append, List.length_cons, List.length_nil, iv_length, zl_length]; try omega; done)) [-getElem?_pos, -getElem?_neg]; refine hK _ _ ?_; clear hK K)
  refine aw_seq ?_
  refine aw_seq ?_
  (refine aw_ops (by kernel_rfl) (fun K hK => ?_); simp (disch := first | omega | (simp only [List.length_set, List.length_append, List.length_cons, List.length_nil, iv_length, zl_length]; try omega; done)) [-getElem?_pos, -getElem?_neg]; refine hK _ _ ?_; clear hK K)
  refine aw_f (by (first | (simp [eval_tmp, put_at]; done) | (simp [eval_tmp, put_at]; omega))) (by kernel_rfl) ?_
  refine aw_skip ?_
  refine aw_seq ?_
  (refine aw_ops (by kernel_rfl) (fun K hK => ?_); simp (disch := first | omega | (simp only [List.length_set, List.length_append, List.length_cons, List.length_nil, iv_length, zl_length]; try omega; done)) [-getElem?_pos, -getElem?_neg, hp]; refine hK _ _ ?_; clear hK K)
  (refine aw_ret ?_; simp (disch := first | omega | (simp only [List.length_set, List.length_append, List.length_cons, List.length_nil, iv_length, zl_length]; try omega; done)) [-getElem?_pos, -getElem?_neg, thenQ_ret, scopeQ_ret, inBlockQ_ret, RQ, resL, resV])
/-- Is there such a block? -/
def hasB (n : Nat) (at_ : Int) : Bool := decide (0 ≤ at_) && decide (at_ < n)
theorem has_ac (h : Dk H p F D) (at_ : Int) : AC Tryd.prog nro γ 47 #[.pointer (some ⟨p, 0, none⟩), .int .i64 at_] H (fun v' H' => v' = .bool (hasB D.firm.length at_) ∧ H' = H) := by
  refine ac_of_aw Tryd.func47 rfl Tryd.ntmps47 Tryd.results47 (by simp) ?_
  refine aw_seq ?_
  (refine aw_ops (by kernel_rfl) (fun K hK => ?_); simp (disch := first | omega | (simp only [List.length_set, List.length_append, List.length_cons, List.length_nil, iv_length, zl_length]; try omega; done)) [-getElem?_pos, -getElem?_neg]; refine hK _ _ ?_; clear hK K)
  refine aw_seq ?_
  refine aw_ops (by kernel_rfl) (fun K hK => ?_)
  by_cases hc : 0 ≤ at_
  · simp (disch := first | omega | (simp only [List.length_set, List.length_append, List.length_cons, List.length_nil, iv_length, zl_length]; try omega; done)) [-getElem?_pos, -getElem?_neg, hc]
    refine ⟨by kernel_rfl, (blocks_ac h).mono ?_⟩
    rintro v H' ⟨rfl, rfl⟩
    simp (disch := first | omega | (simp only [List.length_set, List.length_append, List.length_cons, List.length_nil, iv_length, zl_length]; try omega; done)) [-getElem?_pos, -getElem?_neg, hc]
    refine hK _ _ ?_; clear hK K
    (refine aw_ret ?_; simp (disch := first | omega | (simp only [List.length_set, List.length_append, List.length_cons, List.length_nil, iv_length, zl_length]; try omega; done)) [-getElem?_pos, -getElem?_neg, thenQ_ret, scopeQ_ret, inBlockQ_ret, RQ, resL, resV])
    simp [hasB, hc]
  · simp (disch := first | omega | (simp only [List.length_set, List.length_append, List.length_cons, List.length_nil, iv_length, zl_length]; try omega; done)) [-getElem?_pos, -getElem?_neg, hc]
    refine hK _ _ ?_; clear hK K
    (refine aw_ret ?_; simp (disch := first | omega | (simp only [List.length_set, List.length_append, List.length_cons, List.length_nil, iv_length, zl_length]; try omega; done)) [-getElem?_pos, -getElem?_neg, thenQ_ret, scopeQ_ret, inBlockQ_ret, RQ, resL, resV])
    simp [hasB, hc]
theorem dead_ac (h : Dk H p F D) : AC Tryd.prog nro γ 49 #[.pointer (some ⟨p, 0, none⟩)] H (fun v' H' => v' = .bool D.dead ∧ H' = H) := by
  obtain ⟨ho, s, l, U, FU, rfl, h⟩ := h
  have hp := h.hp
  refine ac_of_aw Tryd.func49 rfl Tryd.ntmps49 Tryd.results49 (by simp) ?_
  refine aw_seq ?_
  (refine aw_ops (by kernel_rfl) (fun K hK => ?_); simp (disch := first | omega | (simp only [List.length_set, List.length_append, List.length_cons, List.length_nil, iv_length, zl_length]; try omega; done)) [-getElem?_pos, -getElem?_neg]; refine hK _ _ ?_; clear hK K)
  refine aw_seq ?_
  (refine aw_ops (by kernel_rfl) (fun K hK => ?_); simp (disch := first | omega | (simp only [List.length_set, List.length_append, List.length_cons, List.length_nil, iv_length, zl_length]; try omega; done)) [-getElem?_pos, -getElem?_neg, hp]; refine hK _ _ ?_; clear hK K)
  (refine aw_ret ?_; simp (disch := first | omega | (simp only [List.length_set, List.length_append, List.length_cons, List.length_nil, iv_length, zl_length]; try omega; done)) [-getElem?_pos, -getElem?_neg, thenQ_ret, scopeQ_ret, inBlockQ_ret, RQ, resL, resV])
/-- A block's text, and the error. -/
theorem row_of {L : List ByteArray} (h : ∀ r ∈ L, r.size = 256) {i : Nat} (hi : i < L.length) : ∃ r, L[i]? = some r ∧ r.size = 256 ∧ (fc L).length = L.length * 256 ∧ ((fc L).drop (i * 256)).take 256 = sv r :=
  ⟨L[i], List.getElem?_eq_getElem hi, h _ (List.getElem_mem hi), fc_len h, fc_get h (List.getElem?_eq_getElem hi)⟩
def readV (L : List ByteArray) (at_ : Int) : ByteArray := if hasB L.length at_ = true then L.getD at_.toNat ⟨#[]⟩ else ⟨#[]⟩
theorem read_ac (h : Dk H p F D) (at_ : Int) : AC Tryd.prog nro γ 31 #[.pointer (some ⟨p, 0, none⟩), .int .i64 at_] H (fun v' H' => v' = .tuple #[.string (readV D.late at_), .int .i64 (if hasB D.firm.length at_ = true then 0 else 1)] ∧ H' = H) := by
  have hh := has_ac (nro := nro) (γ := γ) h at_
  obtain ⟨ho, s, l, U, FU, rfl, h⟩ := h
  have hp := h.hp
  have hs := h.hl
  have hr : ∀ r ∈ D.late, r.size = 256 := late_rows ho.rows (fun w hw => (ho.uns w hw).2)
  have hll : D.late.length = D.firm.length := late_len _ _
  refine ac_of_aw Tryd.func31 rfl Tryd.ntmps31 Tryd.results31 (by simp) ?_
  refine aw_seq ?_
  (refine aw_ops (by kernel_rfl) (fun K hK => ?_); simp (disch := first | omega | (simp only [List.length_set, List.length_append, List.length_cons, List.length_nil, iv_length, zl_length]; try omega; done)) [-getElem?_pos, -getElem?_neg]; refine hK _ _ ?_; clear hK K)
  refine aw_seq ?_
  refine aw_seq ?_
  refine aw_ops (by kernel_rfl) (fun K hK => ?_)
  simp (disch := first | omega | (simp only [List.length_set, List.length_append, List.length_cons, List.length_nil, iv_length, zl_length]; try omega; done)) [-getElem?_pos, -getElem?_neg]
  refine ⟨by kernel_rfl, hh.mono ?_⟩
  rintro v H' ⟨rfl, rfl⟩
  simp (disch := first | omega | (simp only [List.length_set, List.length_append, List.length_cons, List.length_nil, iv_length, zl_length]; try omega; done)) [-getElem?_pos, -getElem?_neg]
  refine hK _ _ ?_; clear hK K
  cases hc : hasB D.firm.length at_ with
  | false =>
    refine aw_t (by (first | (simp [eval_tmp, put_at, hc]; done) | (simp [eval_tmp, put_at, hc]; omega))) (by kernel_rfl) ?_
    refine aw_seq ?_
    (refine aw_ops (by kernel_rfl) (fun K hK => ?_); simp (disch := first | omega | (simp only [List.length_set, List.length_append, List.length_cons, List.length_nil, iv_length, zl_length]; try omega; done)) [-getElem?_pos, -getElem?_neg]; refine hK _ _ ?_; clear hK K)
    (refine aw_ret ?_; simp (disch := first | omega | (simp only [List.length_set, List.length_append, List.length_cons, List.length_nil, iv_length, zl_length]; try omega; done)) [-getElem?_pos, -getElem?_neg, thenQ_ret, scopeQ_ret, inBlockQ_ret, RQ, resL, resV])
    simp [readV, hll, hc]
  | true =>
    refine aw_f (by (first | (simp [eval_tmp, put_at, hc]; done) | (simp [eval_tmp, put_at, hc]; omega))) (by kernel_rfl) ?_
    refine aw_skip ?_
    refine aw_seq ?_
    have hcc := hc
    simp only [hasB, Bool.and_eq_true, decide_eq_true_eq] at hcc
    obtain ⟨i, rfl⟩ : ∃ i : Nat, at_ = (i : Nat) := ⟨at_.toNat, by omega⟩
    have hi : i < D.late.length := by omega
    obtain ⟨r, h1, h2, h3, h4⟩ := row_of hr hi
    have h5 := sv_bytes r
    have hle : i * 256 + 256 ≤ (fc D.late).length := by rw [h3]; omega
    have hnl := nums_len r
    have hg : readV D.late (i : Nat) = r := by simp [readV, hll, hc, h1]
    have ho := of_nums' r
    (refine aw_ops (by kernel_rfl) (fun K hK => ?_); simp (disch := first | omega | (simp only [List.length_set, List.length_append, List.length_cons, List.length_nil, iv_length, zl_length]; try omega; done)) [-getElem?_pos, -getElem?_neg, hp, hs, h4, h5, hnl, h2, ho]; refine hK _ _ ?_; clear hK K)
    (refine aw_ret ?_; simp (disch := first | omega | (simp only [List.length_set, List.length_append, List.length_cons, List.length_nil, iv_length, zl_length]; try omega; done)) [-getElem?_pos, -getElem?_neg, thenQ_ret, scopeQ_ret, inBlockQ_ret, RQ, resL, resV])
    simp [hg, hc]
end
end

section
open Go Go.RowKit
set_option linter.unusedVariables false
set_option linter.unusedSimpArgs false
set_option maxRecDepth 100000
set_option maxHeartbeats 4000000

def DM.burn (D : DM) : DM := if D.fuse = 0 then { D with dead := true } else if 0 < D.fuse then { D with fuse := D.fuse - 1 } else D
def DM.burnV (D : DM) : Int := if D.fuse = 0 then 7 else 0
theorem burn_firm (D : DM) : D.burn.firm = D.firm := by unfold DM.burn; split <;> (try split) <;> rfl
theorem burn_uns (D : DM) : D.burn.uns = D.uns := by unfold DM.burn; split <;> (try split) <;> rfl
theorem DM.Ok.upd {D D' : DM} (h : D.Ok) (hf : D'.firm = D.firm) (hu : D'.uns = D.uns) (hz : -1 ≤ D'.fuse ∧ D'.fuse ≤ 9223372036854775807) : D'.Ok :=
  ⟨by rw [hf]; exact h.one, by rw [hf]; exact h.most, by rw [hf]; exact h.rows, by rw [hf, hu]; exact h.uns, hz, by rw [hu]; exact h.few⟩
theorem fr_set {H : AH} {F : List Nat} {p : Nat} {x : Option Blk} (hp : p ∈ F) : Fr H (H.set p x) F F :=
  ⟨by simp, fun j hj hn => hget_set_ne (fun e => hn (e ▸ hp)), fun j h => .inl h⟩
theorem DkR.upd {H : AH} {p s l : Nat} {U : Value} {FU : List Nat} {D D' : DM} (h : DkR H p s l U FU D) (ho : D.Ok) (hf : D'.firm = D.firm) (hu : D'.uns = D.uns) (hz : -1 ≤ D'.fuse ∧ D'.fuse ≤ 9223372036854775807) :
    Dk (H.set p (some ⟨[.slice (some ⟨s, 0, none⟩) D.firm.length D.firm.length, .slice (some ⟨l, 0, none⟩) D.firm.length D.firm.length, U, .int .i64 D'.fuse, .bool D'.dead], 61, none⟩)) p (p :: s :: l :: FU) D' := by
  have hl : D'.late = D.late := by unfold DM.late; rw [hf, hu]
  have hpl := hget_lt h.hp
  refine ⟨ho.upd hf hu hz, s, l, U, FU, rfl, ⟨by rw [hget_set_eq hpl, hf], by rw [hget_set_ne h.ps, hf]; exact h.hs, by rw [hget_set_ne h.pl, hl]; exact h.hl, ?_, h.ps, h.pl, h.sl, h.fu⟩⟩
  rw [hu]
  exact h.hu.low (fun j hj => hget_set_ne (fun e => h.fu.1 (e ▸ hj)))
attribute [local simp] wb_bool wb_undef XL_nil XL_cons XLc_val XLc_call step1_eq stepW_t stepW_f stepC_n stepC_s stepX_s stepX_n stepN_s calleeX oneV xop_eq xopR_s xopR_n wantedA_eq wantedG_n wantedG_s plain1_int plain1_bool plain1_string bits_i64 bits_u64 bits_u32 bits_u16 bits_u8 xeqA xagg xcmp xarr allK_iv num_iv calleeOf xread xeff xbin xint xnil xun xstr xload xconv xpart xfield xfieldAddr xindexAddr xindex bnd asInt? xslice xlen xmin xmax xbuild xfill xappend xapp2 xappstr xappmk xcap xcopy xcells eval_tmp eval_const put_at put_none fr0_at cells_agg cells_int cells_bool cells_string cells_ptr cells_slice notTuple tab iv_all hget_app hget_app0 hget_cons0 hget_cons set_app set_app0 setR setR_one QL_nil QL_cons QLc_val stepQ_t stepQ_f stepQC_n stepQC_s stepQX_s SL_nil SL_cons SLc_val stepS_t stepS_f ltT ltF leT leF eqT eqF ltTn ltFn leTn leFn eqTn eqFn beqT beqF bneT bneF wi64 wu64 wu32 wu16 wu8 tmodP tdivP hgetL hgetNe hgetEq setL nums_def nums_len Nat.succ_le_of_lt List.getElem?_cons_zero List.getElem?_cons_succ Option.getD_some Int.toNat_add Int.toNat_mul agB agI agS agP agL agA okB okI okS okP okSl okA

section
variable {H : AH} {γ : Nat → Option Nat} {nro p : Nat} {F : List Nat} {D : DM}
theorem burn_ac (h : Dk H p F D) (hn : nro ≤ p) : AC Tryd.prog nro γ 48 #[.pointer (some ⟨p, 0, none⟩)] H (fun v' H' => v' = .int .i64 D.burnV ∧ Dk H' p F D.burn ∧ Fr H H' F F) := by
  obtain ⟨ho, s, l, U, FU, rfl, h⟩ := h
  have hp := h.hp
  have hpl := hget_lt hp
  have hz := ho.fuse
  refine ac_of_aw Tryd.func48 rfl Tryd.ntmps48 Tryd.results48 (by simp) ?_
  refine aw_seq ?_
  (refine aw_ops (by kernel_rfl) (fun K hK => ?_); simp (disch := first | omega | (simp only [List.length_set, List.length_append, List.length_cons, List.length_nil, iv_length, zl_length]; try omega; done)) [-getElem?_pos, -getElem?_neg]; refine hK _ _ ?_; clear hK K)
  refine aw_seq ?_
  refine aw_block ?_
  refine aw_seq ?_
  by_cases h0 : D.fuse = 0
  · (refine aw_ops (by kernel_rfl) (fun K hK => ?_); simp (disch := first | omega | (simp only [List.length_set, List.length_append, List.length_cons, List.length_nil, iv_length, zl_length]; try omega; done)) [-getElem?_pos, -getElem?_neg, hp, h0]; refine hK _ _ ?_; clear hK K)
    refine aw_t (by (first | (simp [eval_tmp, put_at, h0]; done) | (simp [eval_tmp, put_at, h0]; omega))) (by kernel_rfl) ?_
    refine aw_seq ?_
    (refine aw_ops (by kernel_rfl) (fun K hK => ?_); simp (disch := first | omega | (simp only [List.length_set, List.length_append, List.length_cons, List.length_nil, iv_length, zl_length]; try omega; done)) [-getElem?_pos, -getElem?_neg, hp, h0]; refine hK _ _ ?_; clear hK K)
    refine aw_seq ?_
    (refine aw_ops (by kernel_rfl) (fun K hK => ?_); simp (disch := first | omega | (simp only [List.length_set, List.length_append, List.length_cons, List.length_nil, iv_length, zl_length]; try omega; done)) [-getElem?_pos, -getElem?_neg]; refine hK _ _ ?_; clear hK K)
    (refine aw_ret ?_; simp (disch := first | omega | (simp only [List.length_set, List.length_append, List.length_cons, List.length_nil, iv_length, zl_length]; try omega; done)) [-getElem?_pos, -getElem?_neg, thenQ_ret, scopeQ_ret, inBlockQ_ret, RQ, resL, resV])
    have hb : D.burn = { D with dead := true } := by simp [DM.burn, h0]
    refine ⟨by simp [DM.burnV, h0], ?_, fr_set (by simp)⟩
    rw [hb]
    have := h.upd (D' := { D with dead := true }) ho rfl rfl hz
    simpa only [h0] using this
  · (refine aw_ops (by kernel_rfl) (fun K hK => ?_); simp (disch := first | omega | (simp only [List.length_set, List.length_append, List.length_cons, List.length_nil, iv_length, zl_length]; try omega; done)) [-getElem?_pos, -getElem?_neg, hp, h0]; refine hK _ _ ?_; clear hK K)
    refine aw_f (by (first | (simp [eval_tmp, put_at, h0]; done) | (simp [eval_tmp, put_at, h0]; omega))) (by kernel_rfl) ?_
    refine aw_seq ?_
    by_cases h1 : 0 < D.fuse
    · (refine aw_ops (by kernel_rfl) (fun K hK => ?_); simp (disch := first | omega | (simp only [List.length_set, List.length_append, List.length_cons, List.length_nil, iv_length, zl_length]; try omega; done)) [-getElem?_pos, -getElem?_neg, hp, h1]; refine hK _ _ ?_; clear hK K)
      refine aw_t (by (first | (simp [eval_tmp, put_at, h1]; done) | (simp [eval_tmp, put_at, h1]; omega))) (by kernel_rfl) ?_
      (refine aw_ops (by kernel_rfl) (fun K hK => ?_); simp (disch := first | omega | (simp only [List.length_set, List.length_append, List.length_cons, List.length_nil, iv_length, zl_length]; try omega; done)) [-getElem?_pos, -getElem?_neg, hp]; refine hK _ _ ?_; clear hK K)
      refine aw_seq ?_
      (refine aw_ops (by kernel_rfl) (fun K hK => ?_); simp (disch := first | omega | (simp only [List.length_set, List.length_append, List.length_cons, List.length_nil, iv_length, zl_length]; try omega; done)) [-getElem?_pos, -getElem?_neg]; refine hK _ _ ?_; clear hK K)
      (refine aw_ret ?_; simp (disch := first | omega | (simp only [List.length_set, List.length_append, List.length_cons, List.length_nil, iv_length, zl_length]; try omega; done)) [-getElem?_pos, -getElem?_neg, thenQ_ret, scopeQ_ret, inBlockQ_ret, RQ, resL, resV])
      have hb : D.burn = { D with fuse := D.fuse - 1 } := by simp [DM.burn, h0, h1]
      refine ⟨by simp [DM.burnV, h0], ?_, fr_set (by simp)⟩
      rw [hb]
      exact h.upd (D' := { D with fuse := D.fuse - 1 }) ho rfl rfl (by simp only; omega)
    · (refine aw_ops (by kernel_rfl) (fun K hK => ?_); simp (disch := first | omega | (simp only [List.length_set, List.length_append, List.length_cons, List.length_nil, iv_length, zl_length]; try omega; done)) [-getElem?_pos, -getElem?_neg, hp, h1]; refine hK _ _ ?_; clear hK K)
      refine aw_f (by (first | (simp [eval_tmp, put_at, h1]; done) | (simp [eval_tmp, put_at, h1]; omega))) (by kernel_rfl) ?_
      refine aw_skip ?_
      refine aw_seq ?_
      (refine aw_ops (by kernel_rfl) (fun K hK => ?_); simp (disch := first | omega | (simp only [List.length_set, List.length_append, List.length_cons, List.length_nil, iv_length, zl_length]; try omega; done)) [-getElem?_pos, -getElem?_neg]; refine hK _ _ ?_; clear hK K)
      (refine aw_ret ?_; simp (disch := first | omega | (simp only [List.length_set, List.length_append, List.length_cons, List.length_nil, iv_length, zl_length]; try omega; done)) [-getElem?_pos, -getElem?_neg, thenQ_ret, scopeQ_ret, inBlockQ_ret, RQ, resL, resV])
      have hb : D.burn = D := by simp [DM.burn, h0, h1]
      rw [hb]
      exact ⟨by simp [DM.burnV, h0], ⟨ho, s, l, U, FU, rfl, h⟩, Fr.refl _ _⟩
/-- Writing. -/
def okW (D : DM) (at_ : Int) (t : ByteArray) : Bool := hasB D.firm.length at_ && decide (t.size = 256)
def DM.put (D : DM) (at_ : Int) (t : ByteArray) : DM := { D with uns := D.uns ++ [(at_.toNat, t)] }
def DM.write (D : DM) (at_ : Int) (t : ByteArray) : DM := if okW D at_ t = true ∧ D.dead = false then (D.put at_ t).burn else D
def DM.writeV (D : DM) (at_ : Int) (t : ByteArray) : Int := if okW D at_ t = true then (if D.dead = true then 7 else (D.put at_ t).burnV) else 1
theorem dwrite_ac (h : Dk H p F D) (hn : ∀ j ∈ F, nro ≤ j) (hfew : D.uns.length < 1000) (at_ : Int) (t : ByteArray) :
    AC Tryd.prog nro γ 26 #[.pointer (some ⟨p, 0, none⟩), .int .i64 at_, .string t] H (fun v' H' => v' = .int .i64 (D.writeV at_ t) ∧ ∃ F', Dk H' p F' (D.write at_ t) ∧ Fr H H' F F') := by
  have hdk := h
  have hh := has_ac (nro := nro) (γ := γ) h at_
  obtain ⟨ho, s, l, U, FU, rfl, h⟩ := h
  have hp := h.hp
  have hpl := hget_lt hp
  have hnp : nro ≤ p := hn p (by simp)
  have hnl : nro ≤ l := hn l (by simp)
  refine ac_of_aw Tryd.func26 rfl Tryd.ntmps26 Tryd.results26 (by simp) ?_
  refine aw_seq ?_
  (refine aw_ops (by kernel_rfl) (fun K hK => ?_); simp (disch := first | omega | (simp only [List.length_set, List.length_append, List.length_cons, List.length_nil, iv_length, zl_length]; try omega; done)) [-getElem?_pos, -getElem?_neg]; refine hK _ _ ?_; clear hK K)
  refine aw_seq ?_
  refine aw_seq ?_
  refine aw_ops (by kernel_rfl) (fun K hK => ?_)
  simp (disch := first | omega | (simp only [List.length_set, List.length_append, List.length_cons, List.length_nil, iv_length, zl_length]; try omega; done)) [-getElem?_pos, -getElem?_neg]
  refine ⟨by kernel_rfl, hh.mono ?_⟩
  rintro v H' ⟨rfl, rfl⟩
  cases hok : okW D at_ t with
  | false =>
    have hww : D.writeV at_ t = 1 := by simp [DM.writeV, hok]
    have hwd : D.write at_ t = D := by simp [DM.write, hok]
    cases hb : hasB D.firm.length at_ with
    | false =>
      simp (disch := first | omega | (simp only [List.length_set, List.length_append, List.length_cons, List.length_nil, iv_length, zl_length]; try omega; done)) [-getElem?_pos, -getElem?_neg, hb]
      refine hK _ _ ?_; clear hK K
      refine aw_t (by (first | (simp [eval_tmp, put_at]; done) | (simp [eval_tmp, put_at]; omega))) (by kernel_rfl) ?_
      refine aw_seq ?_
      (refine aw_ops (by kernel_rfl) (fun K hK => ?_); simp (disch := first | omega | (simp only [List.length_set, List.length_append, List.length_cons, List.length_nil, iv_length, zl_length]; try omega; done)) [-getElem?_pos, -getElem?_neg]; refine hK _ _ ?_; clear hK K)
      (refine aw_ret ?_; simp (disch := first | omega | (simp only [List.length_set, List.length_append, List.length_cons, List.length_nil, iv_length, zl_length]; try omega; done)) [-getElem?_pos, -getElem?_neg, thenQ_ret, scopeQ_ret, inBlockQ_ret, RQ, resL, resV, hww, hwd])
      exact ⟨_, hdk, Fr.refl _ _⟩
    | true =>
      have hs : t.size ≠ 256 := by intro e; simp [okW, hb, e] at hok
      have hs' : ¬ (t.size : Int) = 256 := by omega
      simp (disch := first | omega | (simp only [List.length_set, List.length_append, List.length_cons, List.length_nil, iv_length, zl_length]; try omega; done)) [-getElem?_pos, -getElem?_neg, hb, hs, hs']
      refine hK _ _ ?_; clear hK K
      refine aw_t (by (first | (simp [eval_tmp, put_at, hs, hs']; done) | (simp [eval_tmp, put_at, hs, hs']; omega))) (by kernel_rfl) ?_
      refine aw_seq ?_
      (refine aw_ops (by kernel_rfl) (fun K hK => ?_); simp (disch := first | omega | (simp only [List.length_set, List.length_append, List.length_cons, List.length_nil, iv_length, zl_length]; try omega; done)) [-getElem?_pos, -getElem?_neg]; refine hK _ _ ?_; clear hK K)
      (refine aw_ret ?_; simp (disch := first | omega | (simp only [List.length_set, List.length_append, List.length_cons, List.length_nil, iv_length, zl_length]; try omega; done)) [-getElem?_pos, -getElem?_neg, thenQ_ret, scopeQ_ret, inBlockQ_ret, RQ, resL, resV, hww, hwd])
      exact ⟨_, hdk, Fr.refl _ _⟩
  | true =>
    have hokk := hok
    simp only [okW, Bool.and_eq_true, decide_eq_true_eq] at hokk
    obtain ⟨hb, hs⟩ := hokk
    have hs' : (t.size : Int) = 256 := by omega
    simp (disch := first | omega | (simp only [List.length_set, List.length_append, List.length_cons, List.length_nil, iv_length, zl_length]; try omega; done)) [-getElem?_pos, -getElem?_neg, hb, hs, hs']
    refine hK _ _ ?_; clear hK K
    refine aw_f (by (first | (simp [eval_tmp, put_at]; done) | (simp [eval_tmp, put_at]; omega))) (by kernel_rfl) ?_
    refine aw_skip ?_
    refine aw_seq ?_
    refine aw_seq ?_
    (refine aw_ops (by kernel_rfl) (fun K hK => ?_); simp (disch := first | omega | (simp only [List.length_set, List.length_append, List.length_cons, List.length_nil, iv_length, zl_length]; try omega; done)) [-getElem?_pos, -getElem?_neg, hp]; refine hK _ _ ?_; clear hK K)
    cases hd : D.dead with
    | true =>
      have hww : D.writeV at_ t = 7 := by simp [DM.writeV, hok, hd]
      have hwd : D.write at_ t = D := by simp [DM.write, hok, hd]
      refine aw_t (by (first | (simp [eval_tmp, put_at, hd]; done) | (simp [eval_tmp, put_at, hd]; omega))) (by kernel_rfl) ?_
      refine aw_seq ?_
      (refine aw_ops (by kernel_rfl) (fun K hK => ?_); simp (disch := first | omega | (simp only [List.length_set, List.length_append, List.length_cons, List.length_nil, iv_length, zl_length]; try omega; done)) [-getElem?_pos, -getElem?_neg]; refine hK _ _ ?_; clear hK K)
      (refine aw_ret ?_; simp (disch := first | omega | (simp only [List.length_set, List.length_append, List.length_cons, List.length_nil, iv_length, zl_length]; try omega; done)) [-getElem?_pos, -getElem?_neg, thenQ_ret, scopeQ_ret, inBlockQ_ret, RQ, resL, resV, hww, hwd])
      exact ⟨_, hdk, Fr.refl _ _⟩
    | false =>
      have hww : D.writeV at_ t = (D.put at_ t).burnV := by simp [DM.writeV, hok, hd]
      have hwd : D.write at_ t = (D.put at_ t).burn := by simp [DM.write, hok, hd]
      refine aw_f (by (first | (simp [eval_tmp, put_at, hd]; done) | (simp [eval_tmp, put_at, hd]; omega))) (by kernel_rfl) ?_
      refine aw_skip ?_
      have hbb := hb
      simp only [hasB, Bool.and_eq_true, decide_eq_true_eq] at hbb
      obtain ⟨i, rfl⟩ : ∃ i : Nat, at_ = (i : Nat) := ⟨at_.toNat, by omega⟩
      have hi : i < D.firm.length := by omega
      have hlr : ∀ r ∈ D.late, r.size = 256 := late_rows ho.rows (fun w hw => (ho.uns w hw).2)
      have hll : D.late.length = D.firm.length := late_len _ _
      have hhl := h.hl
      have hfl := fc_len hlr
      have hfs := fc_set hlr (by omega) hs (k := i)
      have hsv : iv .u8 (nums t) = sv t := rfl
      have hst : (sv t).take 256 = sv t := List.take_of_length_le (by simp [hs])
      have hsl : (sv t).length = 256 := by simp [hs]
      have hpt : D.put (i : Nat) t = { D with uns := D.uns ++ [(i, t)] } := by simp [DM.put]
      have hset : ∀ x : Value, setR (x :: iv .u8 (zl 256)) 1 (sv t) = x :: sv t := fun x => by
        have := setR_right [x] (iv .u8 (zl 256)) (sv t) 0 (by simp [hs])
        rw [setR_all _ _ (by simp [hs])] at this
        exact this
      have hset0 : ∀ x : Value, setR (x :: iv .u8 (zl 256)) 1 (iv .u8 (zl 256)) = x :: iv .u8 (zl 256) := fun x => by
        have := setR_right [x] (iv .u8 (zl 256)) (iv .u8 (zl 256)) 0 (by simp)
        rw [setR_all _ _ (by simp)] at this
        exact this
      have hlt : ∀ j ∈ FU, j < H'.length := fun j hj => hdk.lt j (by simp [hj])
      have hll' := hget_lt hhl
      have hss' := hget_lt h.hs
      have hps := h.ps
      have hpl2 := h.pl
      have hsl2 := h.sl
      have hfu := h.fu
      refine aw_seq ?_
      (refine aw_ops (by kernel_rfl) (fun K hK => ?_); simp (disch := first | omega | (simp only [List.length_set, List.length_append, List.length_cons, List.length_nil, iv_length, zl_length]; try omega; done)) [-getElem?_pos, -getElem?_neg, hp, hset0]; refine hK _ _ ?_; clear hK K)
      refine aw_seq ?_
      (refine aw_ops (by kernel_rfl) (fun K hK => ?_); simp (disch := first | omega | (simp only [List.length_set, List.length_append, List.length_cons, List.length_nil, iv_length, zl_length]; try omega; done)) [-getElem?_pos, -getElem?_neg, hsv, hst, hset, hsl, hs]; refine hK _ _ ?_; clear hK K)
      refine aw_seq ?_
      (refine aw_plan [] [] [0, 1, 2, 3, 4, 5, 6, 7] 8 1 (by kernel_rfl) (by kernel_rfl) (by kernel_rfl) (fun K hK => ?_)); simp only [sel, List.getElem?_cons_succ, List.getElem?_cons_zero, List.drop_succ_cons, List.drop_zero]; simp (disch := first | omega | (simp only [List.length_set, List.length_append, List.length_cons, List.length_nil, iv_length, zl_length]; try omega; done)) [-getElem?_pos, -getElem?_neg, hp, hhl, hst, hset, hsl, hs, hfl, hfs, PL_nil, PL_cons, PLc_val, PLc_new, stepP_t, stepP_f, stepPC_n, stepPC_s, stepPX_s, stepPX_n, stepPA_t, stepPA_c, stepPA_l, stepPN_s, allocOp, reloc_sl, reloc_ptr, List.map_cons, List.map_nil, List.nil_append, List.append_assoc, List.cons_append, Nat.add_assoc]
      refine hK _ _ ?_; clear hK K
      obtain ⟨X, hX⟩ : ∃ X, X = (some ⟨fc (D.late.set i t), 90, some 256⟩ : Option Blk) := ⟨_, rfl⟩
      obtain ⟨W, hW⟩ : ∃ W, W = (some ⟨.int .i64 (i : Nat) :: sv t, 92, none⟩ : Option Blk) := ⟨_, rfl⟩
      obtain ⟨B, hB⟩ : ∃ B, B = (some ⟨.int .i64 (i : Nat) :: sv t, 92, some 257⟩ : Option Blk) := ⟨_, rfl⟩
      obtain ⟨v2, H2, hap, hown, hlen2, hkeep⟩ := ownF_append (P := Tryd.prog) (nro := nro) (t := 59) (e := 92) (H := H'.set l X ++ [W, B]) (v := U) (x := .slice (some ⟨H'.length + 1, 0, none⟩) 1 1) (sz := 257)
        (cells := uc D.uns) (news := .int .i64 (i : Nat) :: sv t) (F := FU) (by simp) (by simp) (by omega) (by simp) (h.hu.low (fun j hj => by rw [hget_left (by rw [List.length_set]; exact hlt j hj), hget_set_ne (fun e : l = j => hfu.2.2 (by rw [e]; exact hj))]))
        (fun j hj => hn j (by simp [hj])) (fun s e => by cases e) (by simp [xcells, hB, hsl, hst, hga]) (by simp) (by simp [hs]) (by rw [uc_len (fun w hw => (ho.uns w hw).2)]; simp [hs]; omega) (by rw [uc_len (fun w hw => (ho.uns w hw).2)]; simp [hs, maxLen]; omega)
      have hgl : (H'.set l X ++ [W, B]).length = H'.length + 2 := by simp
      have hp2 : hget H2 p = some ⟨[.slice (some ⟨s, 0, none⟩) D.firm.length D.firm.length, .slice (some ⟨l, 0, none⟩) D.firm.length D.firm.length, U, .int .i64 D.fuse, .bool D.dead], 61, none⟩ := by
        rw [hkeep p (by omega) hfu.1, hget_left (by rw [List.length_set]; exact hpl), hget_set_ne (fun e => hpl2 e.symm)]; exact hp
      have hs2 : hget H2 s = some ⟨fc D.firm, 90, some 256⟩ := by
        rw [hkeep s (by omega) hfu.2.1, hget_left (by rw [List.length_set]; exact hss'), hget_set_ne (fun e => hsl2 e.symm)]; exact h.hs
      have hl2 : hget H2 l = some ⟨fc (D.late.set i t), 90, some 256⟩ := by
        rw [hkeep l (by omega) hfu.2.2, hget_left (by rw [List.length_set]; exact hll'), hget_set_eq hll', hX]
      have hpl3 : p < H2.length := by omega
      have hzr : setR (((List.range 257).map fun j => ((Value.int .i64 0 :: iv .u8 (zl 256))[j % 257]?).getD undef).set 0 (.int .i64 (i : Nat))) 1 (sv t) = .int .i64 (i : Nat) :: sv t := setR_all (List.map _ (List.range 257)) (.int .i64 (i : Nat) :: sv t) (by simp [hs])
      have hpln : ∀ x ∈ sv t, plain1 x = true := fun x hx => List.all_eq_true.1 (sv_plain t) x hx
      obtain ⟨len2, rfl⟩ := hown.new
      subst hX hW hB
      refine aw_seq ?_
      (refine aw_plan [] [0] [1, 2, 3, 4, 5, 6] 7 4 (by kernel_rfl) (by kernel_rfl) (by kernel_rfl) (fun K hK => ?_)); simp only [sel, List.getElem?_cons_succ, List.getElem?_cons_zero, List.drop_succ_cons, List.drop_zero]; simp (disch := first | omega | (simp only [List.length_set, List.length_append, List.length_cons, List.length_nil, iv_length, zl_length]; try omega; done)) [-getElem?_pos, -getElem?_neg, -xappend, hap, hp, hst, hsl, hs, hp2, hzr, hga, hga0, PL_nil, PL_cons, PLc_val, PLc_new, stepP_t, stepP_f, stepPC_n, stepPC_s, stepPX_s, stepPX_n, stepPA_t, stepPA_c, stepPA_l, stepPN_s, allocOp, reloc_sl, reloc_ptr, List.map_cons, List.map_nil, List.nil_append, List.append_assoc, List.cons_append, Nat.add_assoc]
      refine ⟨hpln, ?_⟩
      refine hK _ _ ?_; clear hK K
      rw [hgl] at hown
      have hp3 : p ∉ [H'.length + 2] := by rw [List.mem_singleton]; omega
      have hdk2 : Dk (H2.set p (some ⟨[.slice (some ⟨s, 0, none⟩) D.firm.length D.firm.length, .slice (some ⟨l, 0, none⟩) D.firm.length D.firm.length, .slice (some ⟨H'.length + 2, 0, none⟩) len2 len2, .int .i64 D.fuse, .bool false], 61, none⟩)) p (p :: s :: l :: [H'.length + 2]) (D.put (i : Nat) t) := by
        rw [hpt]
        refine ⟨⟨ho.one, ho.most, ho.rows, fun w hw => ?_, ho.fuse, by simp; omega⟩, s, l, .slice (some ⟨H'.length + 2, 0, none⟩) len2 len2, [H'.length + 2], rfl, ⟨by rw [hget_set_eq hpl3, hd], by rw [hget_set_ne hps]; exact hs2, ?_, ?_, hps, hpl2, hsl2, hp3, by rw [List.mem_singleton]; omega, by rw [List.mem_singleton]; omega⟩⟩
        · rcases List.mem_append.1 hw with hw | hw
          · exact ho.uns w hw
          · rw [List.mem_singleton] at hw; subst hw; exact ⟨hi, hs⟩
        · rw [hget_set_ne hpl2, hl2]
          unfold DM.late
          rw [late_app]
        · have := hown.low (H' := H2.set p (some ⟨[.slice (some ⟨s, 0, none⟩) D.firm.length D.firm.length, .slice (some ⟨l, 0, none⟩) D.firm.length D.firm.length, .slice (some ⟨H'.length + 2, 0, none⟩) len2 len2, .int .i64 D.fuse, .bool false], 61, none⟩)) (fun j hj => hget_set_ne (fun e => hp3 (e ▸ hj)))
          have e := uc_app D.uns (i, t)
          simp only at e
          rwa [e] at this
      have hfr2 : Fr H' (H2.set p (some ⟨[.slice (some ⟨s, 0, none⟩) D.firm.length D.firm.length, .slice (some ⟨l, 0, none⟩) D.firm.length D.firm.length, .slice (some ⟨H'.length + 2, 0, none⟩) len2 len2, .int .i64 D.fuse, .bool false], 61, none⟩)) (p :: s :: l :: FU) (p :: s :: l :: [H'.length + 2]) := by
        refine ⟨by simp; omega, fun j hj hnj => ?_, fun j hj => ?_⟩
        · simp only [List.mem_cons, not_or] at hnj
          rw [hget_set_ne (fun e => hnj.1 e.symm), hkeep j (by omega) hnj.2.2.2, hget_left (by rw [List.length_set]; exact hj), hget_set_ne (fun e => hnj.2.2.1 e.symm)]
        · simp only [List.mem_cons, List.not_mem_nil, or_false] at hj ⊢
          rcases hj with h1 | h1 | h1 | h1
          · exact .inl (.inl h1)
          · exact .inl (.inr (.inl h1))
          · exact .inl (.inr (.inr (.inl h1)))
          · right; omega
      have hbn := burn_ac (nro := nro) (γ := γ) hdk2 hnp
      refine aw_seq ?_
      refine aw_ops (by kernel_rfl) (fun K hK => ?_)
      rw [hd]
      simp (disch := first | omega | (simp only [List.length_set, List.length_append, List.length_cons, List.length_nil, iv_length, zl_length]; try omega; done)) [-getElem?_pos, -getElem?_neg]
      refine ⟨by kernel_rfl, hbn.mono ?_⟩
      rintro v H3 ⟨rfl, hdk3, hfr3⟩
      try simp (disch := first | omega | (simp only [List.length_set, List.length_append, List.length_cons, List.length_nil, iv_length, zl_length]; try omega; done)) [-getElem?_pos, -getElem?_neg]
      refine hK _ _ ?_; clear hK K
      (refine aw_ret ?_; simp (disch := first | omega | (simp only [List.length_set, List.length_append, List.length_cons, List.length_nil, iv_length, zl_length]; try omega; done)) [-getElem?_pos, -getElem?_neg, thenQ_ret, scopeQ_ret, inBlockQ_ret, RQ, resL, resV, hww, hwd])
      exact ⟨_, hdk3, hfr2.trans hfr3⟩
end
end

section
open Go Go.RowKit
set_option linter.unusedVariables false
set_option linter.unusedSimpArgs false
set_option maxRecDepth 100000
set_option maxHeartbeats 4000000

/-- A new disk's blocks, of noughts. -/
def newN (b : Int) : Nat := (if (if b < 1 then 1 else b) > 1024 then 1024 else (if b < 1 then 1 else b)).toNat
theorem newN_bd (b : Int) : 1 ≤ newN b ∧ newN b ≤ 1024 := by unfold newN; split <;> split <;> omega
def newD (b : Int) : DM := ⟨List.replicate (newN b) (zs 256), [], -1, false⟩
theorem newD_ok (b : Int) : (newD b).Ok := by
  have := newN_bd b
  refine ⟨?_, ?_, fun r hr => ?_, fun w hw => (by cases hw), by simp [newD], by simp [newD]⟩
  · simp [newD]; omega
  · simp [newD]; omega
  · simp only [newD] at hr; rw [List.eq_of_mem_replicate hr]; simp
theorem all_zl (n : Nat) : (∀ (i : Nat) (x : i < n), plain1 ((iv IntKind.u8 (zl n))[i]'(by simpa using x)) = true) = True := by
  refine eq_true fun i x => ?_
  have := List.all_eq_true.1 (iv_all .u8 (zl n)) _ (List.getElem_mem (by simpa using x : i < (iv IntKind.u8 (zl n)).length))
  exact this
theorem fc_plain (l : List ByteArray) : ∀ x ∈ fc l, plain1 x = true := by
  intro x hx
  obtain ⟨r, hr, hx⟩ := List.mem_flatten.1 hx
  obtain ⟨s, _, rfl⟩ := List.mem_map.1 hr
  exact List.all_eq_true.1 (sv_plain s) x hx
theorem plain_nil : plain1 (.slice none 0 0) = true := rfl
theorem rep_fc (n : Nat) : ((List.range (n * 256)).map fun j => ((iv .u8 (zl 256))[j % 256]?).getD undef) = fc (List.replicate n (zs 256)) := by
  simp only [← List.getD_eq_getElem?_getD]
  rw [zero_rows 256 n undef (iv .u8 (zl 256)) (by simp), fc, List.map_replicate, sv_zs]
attribute [local simp] wb_bool wb_undef XL_nil XL_cons XLc_val XLc_call step1_eq stepW_t stepW_f stepC_n stepC_s stepX_s stepX_n stepN_s calleeX oneV xop_eq xopR_s xopR_n wantedA_eq wantedG_n wantedG_s plain1_int plain1_bool plain1_string bits_i64 bits_u64 bits_u32 bits_u16 bits_u8 xeqA xagg xcmp xarr allK_iv num_iv calleeOf xread xeff xbin xint xnil xun xstr xload xconv xpart xfield xfieldAddr xindexAddr xindex bnd asInt? xslice xlen xmin xmax xbuild xfill xappend xapp2 xappstr xappmk xcap xcopy xcells eval_tmp eval_const put_at put_none fr0_at cells_agg cells_int cells_bool cells_string cells_ptr cells_slice notTuple tab iv_all hget_app hget_app0 hget_cons0 hget_cons set_app set_app0 setR setR_one QL_nil QL_cons QLc_val stepQ_t stepQ_f stepQC_n stepQC_s stepQX_s SL_nil SL_cons SLc_val stepS_t stepS_f ltT ltF leT leF eqT eqF ltTn ltFn leTn leFn eqTn eqFn beqT beqF bneT bneF wi64 wu64 wu32 wu16 wu8 tmodP tdivP hgetL hgetNe hgetEq setL nums_def nums_len Nat.succ_le_of_lt List.getElem?_cons_zero List.getElem?_cons_succ Option.getD_some Int.toNat_add Int.toNat_mul agB agI agS agP agL agA okB okI okS okP okSl okA

section
variable {H : AH} {γ : Nat → Option Nat} {nro : Nat}
theorem new_ac (b : Int) (hnro : nro ≤ H.length) : AC Tryd.prog nro γ 7 #[.int .i64 b] H (fun v' H' => v' = .pointer (some ⟨H.length + 2, 0, none⟩) ∧ Dk H' (H.length + 2) [H.length + 2, H.length, H.length + 1] (newD b) ∧ ∃ L, H' = H ++ L) := by
  have hbd := newN_bd b
  have hrep := rep_fc (newN b)
  have hmm : (if (if b < 1 then 1 else b) > 1024 then 1024 else (if b < 1 then 1 else b)) = (newN b : Int) := by unfold newN; split <;> split <;> omega
  refine ac_of_aw Tryd.func7 rfl Tryd.ntmps7 Tryd.results7 (by simp) ?_
  have hmx : newN b ≤ maxLen := by simp only [maxLen]; omega
  have hpl : ∀ n, (iv .u8 (zl n)).all plain1 = true := fun n => iv_all _ _
  refine aw_seq ?_
  (refine aw_ops (by kernel_rfl) (fun K hK => ?_); simp (disch := first | omega | (simp only [List.length_set, List.length_append, List.length_cons, List.length_nil, iv_length, zl_length]; try omega; done)) [-getElem?_pos, -getElem?_neg]; refine hK _ _ ?_; clear hK K)
  refine aw_seq ?_
  (refine aw_ops (by kernel_rfl) (fun K hK => ?_); simp (disch := first | omega | (simp only [List.length_set, List.length_append, List.length_cons, List.length_nil, iv_length, zl_length]; try omega; done)) [-getElem?_pos, -getElem?_neg, hmm]; refine hK _ _ ?_; clear hK K)
  refine aw_seq ?_
  (refine aw_plan [] [] [0, 1, 2, 3] 4 3 (by kernel_rfl) (by kernel_rfl) (by kernel_rfl) (fun K hK => ?_)); simp only [sel, List.getElem?_cons_succ, List.getElem?_cons_zero, List.drop_succ_cons, List.drop_zero]; simp (disch := first | omega | (simp only [List.length_set, List.length_append, List.length_cons, List.length_nil, iv_length, zl_length]; try omega; done)) [-getElem?_pos, -getElem?_neg, hmm, hrep, all_zl, plain_nil, PL_nil, PL_cons, PLc_val, PLc_new, stepP_t, stepP_f, stepPC_n, stepPC_s, stepPX_s, stepPX_n, stepPA_t, stepPA_c, stepPA_l, stepPN_s, allocOp, reloc_sl, reloc_ptr, List.map_cons, List.map_nil, List.nil_append, List.append_assoc, List.cons_append, Nat.add_assoc]
  refine ⟨fc_plain _, ?_⟩
  refine hK _ _ ?_; clear hK K
  (refine aw_ret ?_; simp (disch := first | omega | (simp only [List.length_set, List.length_append, List.length_cons, List.length_nil, iv_length, zl_length]; try omega; done)) [-getElem?_pos, -getElem?_neg, thenQ_ret, scopeQ_ret, inBlockQ_ret, RQ, resL, resV])
  have hl0 : (newD b).firm.length = newN b := by simp [newD]
  have hla : (newD b).late = (newD b).firm := rfl
  refine ⟨newD_ok b, H.length, H.length + 1, .slice none 0 0, [], rfl, ⟨?_, ?_, ?_, .inl ⟨rfl, rfl, rfl⟩, by omega, by omega, by omega, by simp⟩⟩
  · rw [hget_app, hl0]; rfl
  · rw [hget_app0]; rfl
  · rw [hget_app, hla]; rfl
end
end

section
open Go Go.RowKit
set_option linter.unusedVariables false
set_option linter.unusedSimpArgs false
set_option maxRecDepth 100000
set_option maxHeartbeats 4000000

def DM.sync (D : DM) : DM := if D.dead = true then D else if D.burnV = 0 then { D.burn with firm := D.late, uns := [] } else D.burn
def DM.syncV (D : DM) : Int := if D.dead = true then 7 else D.burnV
theorem late_take {firm : List ByteArray} {uns : List (Nat × ByteArray)} {i : Nat} {w : Nat × ByteArray} (h : uns[i]? = some w) : lateOf firm (uns.take (i + 1)) = (lateOf firm (uns.take i)).set w.1 w.2 := by
  rw [List.take_add_one, h]; exact late_app _ _ _
theorem burn_late (D : DM) : D.burn.late = D.late := by unfold DM.late; rw [burn_firm, burn_uns]
theorem rows_take {D : DM} (h : D.Ok) (i : Nat) : ∀ r ∈ lateOf D.firm (D.uns.take i), r.size = 256 := late_rows h.rows (fun w hw => (h.uns w (List.mem_of_mem_take hw)).2)
theorem OwnF.slice {H : AH} {v : Value} {e : TypeId} {sz : Nat} {cells : List Value} {F : List Nat} (h : OwnF H v e sz cells F) (hc : cells ≠ []) (h0 : 0 < sz) {n : Nat} (hn : cells.length = n * sz) : ∃ u, v = .slice (some ⟨u, 0, none⟩) n n ∧ hget H u = some ⟨cells, e, some sz⟩ ∧ F = [u] := by
  rcases h with ⟨_, h, _⟩ | ⟨j, len, rfl, h2, h3, rfl⟩
  · exact absurd h hc
  · have : len = n := Nat.eq_of_mul_eq_mul_right h0 (h3.symm.trans hn)
    subst this
    exact ⟨j, rfl, h2, rfl⟩
attribute [local simp] wb_bool wb_undef XL_nil XL_cons XLc_val XLc_call step1_eq stepW_t stepW_f stepC_n stepC_s stepX_s stepX_n stepN_s calleeX oneV xop_eq xopR_s xopR_n wantedA_eq wantedG_n wantedG_s plain1_int plain1_bool plain1_string bits_i64 bits_u64 bits_u32 bits_u16 bits_u8 xeqA xagg xcmp xarr allK_iv num_iv calleeOf xread xeff xbin xint xnil xun xstr xload xconv xpart xfield xfieldAddr xindexAddr xindex bnd asInt? xslice xlen xmin xmax xbuild xfill xappend xapp2 xappstr xappmk xcap xcopy xcells eval_tmp eval_const put_at put_none fr0_at cells_agg cells_int cells_bool cells_string cells_ptr cells_slice notTuple tab iv_all hget_app hget_app0 hget_cons0 hget_cons set_app set_app0 setR setR_one QL_nil QL_cons QLc_val stepQ_t stepQ_f stepQC_n stepQC_s stepQX_s SL_nil SL_cons SLc_val stepS_t stepS_f ltT ltF leT leF eqT eqF ltTn ltFn leTn leFn eqTn eqFn beqT beqF bneT bneF wi64 wu64 wu32 wu16 wu8 tmodP tdivP hgetL hgetNe hgetEq setL nums_def nums_len Nat.succ_le_of_lt List.getElem?_cons_zero List.getElem?_cons_succ Option.getD_some Int.toNat_add Int.toNat_mul agB agI agS agP agL agA okB okI okS okP okSl okA

section
variable {H : AH} {γ : Nat → Option Nat} {nro p : Nat} {F : List Nat} {D : DM}
theorem sync_ac (h : Dk H p F D) (hn : ∀ j ∈ F, nro ≤ j) (hnl : nro ≤ H.length) :
    AC Tryd.prog nro γ 27 #[.pointer (some ⟨p, 0, none⟩)] H (fun v' H' => v' = .int .i64 D.syncV ∧ ∃ F', Dk H' p F' D.sync ∧ Fr H H' F F') := by
  have hdk := h
  have hde := dead_ac (nro := nro) (γ := γ) h
  obtain ⟨ho, s, l, U, FU, rfl, h⟩ := h
  have hbu := burn_ac (nro := nro) (γ := γ) hdk (hn p (by simp))
  refine ac_of_aw Tryd.func27 rfl Tryd.ntmps27 Tryd.results27 (by simp) ?_
  refine aw_seq ?_
  (refine aw_ops (by kernel_rfl) (fun K hK => ?_); simp (disch := first | omega | (simp only [List.length_set, List.length_append, List.length_cons, List.length_nil, iv_length, zl_length]; try omega; done)) [-getElem?_pos, -getElem?_neg]; refine hK _ _ ?_; clear hK K)
  refine aw_seq ?_
  refine aw_seq ?_
  refine aw_ops (by kernel_rfl) (fun K hK => ?_)
  simp (disch := first | omega | (simp only [List.length_set, List.length_append, List.length_cons, List.length_nil, iv_length, zl_length]; try omega; done)) [-getElem?_pos, -getElem?_neg]
  refine ⟨by kernel_rfl, hde.mono ?_⟩
  rintro v H' ⟨rfl, rfl⟩
  try simp (disch := first | omega | (simp only [List.length_set, List.length_append, List.length_cons, List.length_nil, iv_length, zl_length]; try omega; done)) [-getElem?_pos, -getElem?_neg]
  refine hK _ _ ?_; clear hK K
  cases hd : D.dead with
  | true =>
    refine aw_t (by (first | (simp [eval_tmp, put_at, hd]; done) | (simp [eval_tmp, put_at, hd]; omega))) (by kernel_rfl) ?_
    refine aw_seq ?_
    (refine aw_ops (by kernel_rfl) (fun K hK => ?_); simp (disch := first | omega | (simp only [List.length_set, List.length_append, List.length_cons, List.length_nil, iv_length, zl_length]; try omega; done)) [-getElem?_pos, -getElem?_neg]; refine hK _ _ ?_; clear hK K)
    have e1 : D.syncV = 7 := by simp [DM.syncV, hd]
    have e2 : D.sync = D := by simp [DM.sync, hd]
    (refine aw_ret ?_; simp (disch := first | omega | (simp only [List.length_set, List.length_append, List.length_cons, List.length_nil, iv_length, zl_length]; try omega; done)) [-getElem?_pos, -getElem?_neg, thenQ_ret, scopeQ_ret, inBlockQ_ret, RQ, resL, resV, e1, e2])
    exact ⟨_, hdk, Fr.refl _ _⟩
  | false =>
    refine aw_f (by (first | (simp [eval_tmp, put_at, hd]; done) | (simp [eval_tmp, put_at, hd]; omega))) (by kernel_rfl) ?_
    refine aw_skip ?_
    refine aw_seq ?_
    refine aw_seq ?_
    refine aw_ops (by kernel_rfl) (fun K hK => ?_)
    simp (disch := first | omega | (simp only [List.length_set, List.length_append, List.length_cons, List.length_nil, iv_length, zl_length]; try omega; done)) [-getElem?_pos, -getElem?_neg]
    refine ⟨by kernel_rfl, hbu.mono ?_⟩
    rintro v H1 ⟨rfl, hdk1, hfr1⟩
    try simp (disch := first | omega | (simp only [List.length_set, List.length_append, List.length_cons, List.length_nil, iv_length, zl_length]; try omega; done)) [-getElem?_pos, -getElem?_neg]
    refine hK _ _ ?_; clear hK K
    refine aw_seq ?_
    have e1 : D.syncV = D.burnV := by simp [DM.syncV, hd]
    by_cases hb : D.burnV = 0
    case neg =>
      have e2 : D.sync = D.burn := by simp [DM.sync, hd, hb]
      (refine aw_ops (by kernel_rfl) (fun K hK => ?_); simp (disch := first | omega | (simp only [List.length_set, List.length_append, List.length_cons, List.length_nil, iv_length, zl_length]; try omega; done)) [-getElem?_pos, -getElem?_neg, hb]; refine hK _ _ ?_; clear hK K)
      refine aw_t (by (first | (simp [eval_tmp, put_at, hb]; done) | (simp [eval_tmp, put_at, hb]; omega))) (by kernel_rfl) ?_
      refine aw_seq ?_
      (refine aw_ops (by kernel_rfl) (fun K hK => ?_); simp (disch := first | omega | (simp only [List.length_set, List.length_append, List.length_cons, List.length_nil, iv_length, zl_length]; try omega; done)) [-getElem?_pos, -getElem?_neg]; refine hK _ _ ?_; clear hK K)
      (refine aw_ret ?_; simp (disch := first | omega | (simp only [List.length_set, List.length_append, List.length_cons, List.length_nil, iv_length, zl_length]; try omega; done)) [-getElem?_pos, -getElem?_neg, thenQ_ret, scopeQ_ret, inBlockQ_ret, RQ, resL, resV, e1, e2])
      exact ⟨_, hdk1, hfr1⟩
    have e2 : D.sync = { D.burn with firm := D.late, uns := [] } := by simp [DM.sync, hd, hb]
    rw [hb] at e1
    (refine aw_ops (by kernel_rfl) (fun K hK => ?_); simp (disch := first | omega | (simp only [List.length_set, List.length_append, List.length_cons, List.length_nil, iv_length, zl_length]; try omega; done)) [-getElem?_pos, -getElem?_neg, hb]; refine hK _ _ ?_; clear hK K)
    refine aw_f (by (first | (simp [eval_tmp, put_at, hb]; done) | (simp [eval_tmp, put_at, hb]; omega))) (by kernel_rfl) ?_
    refine aw_skip ?_
    refine aw_seq ?_
    refine aw_seq ?_
    have hlate := burn_late D
    rw [← hlate] at e2
    clear hbu hde h hdk hlate ho
    generalize D.burn = D1 at *
    obtain ⟨ho, s1, l1, U, FU1, hFF, h⟩ := hdk1
    simp only [List.cons.injEq] at hFF
    obtain ⟨_, rfl, rfl, rfl⟩ := hFF
    have hp := h.hp
    have hs0 := h.hs
    have hl0 := h.hl
    have hplt := hget_lt hp
    have hslt := hget_lt hs0
    have hllt := hget_lt hl0
    have hnp : nro ≤ p := hn p (by simp)
    have hns : nro ≤ s := hn s (by simp)
    have hps := h.ps
    have hpl := h.pl
    have hsl := h.sl
    have hul := uc_len (fun w hw => (ho.uns w hw).2)
    have hxl := h.hu.len (P := Tryd.prog) (t := 59) (by simp) hul (by omega)
    have hfew := ho.few
    (refine aw_ops (by kernel_rfl) (fun K hK => ?_); simp (disch := first | omega | (simp only [List.length_set, List.length_append, List.length_cons, List.length_nil, iv_length, zl_length]; try omega; done)) [-getElem?_pos, -getElem?_neg, hp, -xlen, hxl]; refine hK _ _ ?_; clear hK K)
    refine aw_block ?_
    refine aw_loop (fun q α G => ∃ i : Nat, i + q = D1.uns.length ∧ α 18 = .int .i64 (i : Nat) ∧ α 17 = .int .i64 (D1.uns.length : Nat) ∧ α 16 = U ∧ α 0 = .pointer (some ⟨p, 0, none⟩) ∧ H1.length ≤ G.length ∧ (∀ j, j < H1.length → j ≠ s → hget G j = hget H1 j) ∧
      hget G s = some ⟨fc (lateOf D1.firm (D1.uns.take i)), 90, some 256⟩) D1.uns.length ?_ ?_
    · exact ⟨0, by omega, by (first | (simp [put_at, put_none, fr0_at]; done) | rfl), by (first | (simp [put_at, put_none, fr0_at]; done) | rfl), by (first | (simp [put_at, put_none, fr0_at]; done) | rfl), by (first | (simp [put_at, put_none, fr0_at]; done) | rfl), Nat.le_refl _, fun _ _ _ => rfl, by rw [List.take_zero]; exact hs0⟩
    rintro q α G ⟨i, hiq, h18, h17, h16, h0, hgl, hgo, hgs⟩
    have hgp : hget G p = _ := (hgo p hplt hps).trans hp
    refine aw_seq ?_
    (refine aw_ops (by kernel_rfl) (fun K hK => ?_); simp (disch := first | omega | (simp only [List.length_set, List.length_append, List.length_cons, List.length_nil, iv_length, zl_length]; try omega; done)) [-getElem?_pos, -getElem?_neg, h18, h17]; refine hK _ _ ?_; clear hK K)
    refine aw_seq ?_
    by_cases hi : i < D1.uns.length
    · refine aw_t (by (first | (simp [eval_tmp, put_at, hi]; done) | (simp [eval_tmp, put_at, hi]; omega))) (by kernel_rfl) ?_
      refine aw_skip ?_
      refine aw_seq ?_
      refine aw_block ?_
      obtain ⟨w, hw⟩ : ∃ w, D1.uns[i]? = some w := ⟨_, List.getElem?_eq_getElem hi⟩
      have hwm := ho.uns w (List.mem_of_getElem? hw)
      have hwm2 := hwm.2
      have hwm1 := hwm.1
      obtain ⟨u, hU, hu, hFU⟩ := h.hu.slice (by intro e; rw [e] at hul; simp at hul; omega) (by omega) hul
      subst hU
      have hus : u ≠ s := fun e => h.fu.2.1 (by rw [hFU, e]; simp)
      have hgu : hget G u = _ := (hgo u (hget_lt hu) hus).trans hu
      have hrow := uc_get (fun w hw => (ho.uns w hw).2) hw
      have hst : (sv w.2).take 256 = sv w.2 := List.take_of_length_le (by simp [hwm2])
      have hsz : (sv w.2).length = 256 := by simp [hwm2]
      have hset0 : ∀ x : Value, setR (x :: iv .u8 (zl 256)) 1 (sv w.2) = x :: sv w.2 := fun x => by
        have := setR_right [x] (iv .u8 (zl 256)) (sv w.2) 0 (by simp [hwm2])
        rw [setR_all _ _ (by simp [hwm2])] at this
        exact this
      have hgb : i * 257 + 257 ≤ (uc D1.uns).length := by rw [hul]; omega
      refine aw_seq ?_
      (refine aw_ops (by kernel_rfl) (fun K hK => ?_); simp (disch := first | omega | (simp only [List.length_set, List.length_append, List.length_cons, List.length_nil, iv_length, zl_length]; try omega; done)) [-getElem?_pos, -getElem?_neg, h18, h17, h16, hgu, hrow, hset0, hsz, hst]; refine hK _ _ ?_; clear hK K)
      have hgs' := hget_lt hgs
      have hgp' := hget_lt hgp
      have hrl := rows_take ho i
      have hll : (lateOf D1.firm (D1.uns.take i)).length = D1.firm.length := late_len _ _
      have hfl := fc_len hrl
      have hfs := fc_set hrl (by omega) hwm2 (k := w.1)
      have hlt := late_take (firm := D1.firm) hw
      generalize lateOf D1.firm (D1.uns.take i) = L0 at *
      (refine aw_plan [] [] [0, 1, 2, 3, 4, 5, 6, 7, 8] 9 1 (by kernel_rfl) (by kernel_rfl) (by kernel_rfl) (fun K hK => ?_)); simp only [sel, List.getElem?_cons_succ, List.getElem?_cons_zero, List.drop_succ_cons, List.drop_zero]; simp (disch := first | omega | (simp only [List.length_set, List.length_append, List.length_cons, List.length_nil, iv_length, zl_length]; try omega; done)) [-getElem?_pos, -getElem?_neg, h0, hgp, hgs, hsz, hst, hfl, hfs, hga, hga0, sga, sga0, PL_nil, PL_cons, PLc_val, PLc_new, stepP_t, stepP_f, stepPC_n, stepPC_s, stepPX_s, stepPX_n, stepPA_t, stepPA_c, stepPA_l, stepPN_s, allocOp, reloc_sl, reloc_ptr, List.map_cons, List.map_nil, List.nil_append, List.append_assoc, List.cons_append, Nat.add_assoc]
      refine hK _ _ ?_; clear hK K
      (refine aw_ops (by kernel_rfl) (fun K hK => ?_); simp (disch := first | omega | (simp only [List.length_set, List.length_append, List.length_cons, List.length_nil, iv_length, zl_length]; try omega; done)) [-getElem?_pos, -getElem?_neg, h18]; refine hK _ _ ?_; clear hK K)
      refine ⟨q - 1, by omega, i + 1, by omega, by (first | (simp [put_at, put_none, fr0_at]; done) | rfl), by (first | (simp [put_at, put_none, fr0_at, h17]; done) | rfl), by (first | (simp [put_at, put_none, fr0_at, h16]; done) | rfl), by (first | (simp [put_at, put_none, fr0_at, h0]; done) | rfl), by simp; omega, fun j hj hjs => ?_, ?_⟩
      · rw [hget_left (by simp; omega), hget_set_ne (fun e => hjs e.symm)]
        exact hgo j hj hjs
      · rw [hget_left (by simp; omega), hget_set_eq hgs', hlt]
    · obtain rfl : i = D1.uns.length := by omega
      refine aw_f (by (first | (simp [eval_tmp, put_at]; done) | (simp [eval_tmp, put_at]; omega))) (by kernel_rfl) ?_
      refine aw_exit ?_
      have hgp' := hget_lt hgp
      have hgs' := hget_lt hgs
      rw [List.take_length] at hgs
      refine aw_seq ?_
      (refine aw_ops (by kernel_rfl) (fun K hK => ?_); simp (disch := first | omega | (simp only [List.length_set, List.length_append, List.length_cons, List.length_nil, iv_length, zl_length]; try omega; done)) [-getElem?_pos, -getElem?_neg, h0, hgp]; refine hK _ _ ?_; clear hK K)
      refine aw_seq ?_
      (refine aw_ops (by kernel_rfl) (fun K hK => ?_); simp (disch := first | omega | (simp only [List.length_set, List.length_append, List.length_cons, List.length_nil, iv_length, zl_length]; try omega; done)) [-getElem?_pos, -getElem?_neg]; refine hK _ _ ?_; clear hK K)
      (refine aw_ret ?_; simp (disch := first | omega | (simp only [List.length_set, List.length_append, List.length_cons, List.length_nil, iv_length, zl_length]; try omega; done)) [-getElem?_pos, -getElem?_neg, thenQ_ret, scopeQ_ret, inBlockQ_ret, RQ, resL, resV, e1, e2])
      refine ⟨[p, s, l], ⟨⟨?_, ?_, ?_, fun w hw => (by cases hw), ho.fuse, by simp⟩, s, l, .slice none 0 0, [], rfl, ⟨?_, ?_, ?_, .inl ⟨rfl, rfl, rfl⟩, hps, hpl, hsl, by simp⟩⟩, hfr1.trans ⟨by simp; omega, fun j hj hnj => ?_, fun j hj => .inl (by simp only [List.mem_cons, List.not_mem_nil, or_false] at hj ⊢; rcases hj with h1 | h1 | h1 <;> simp [h1])⟩⟩
      · simp only [DM.late, late_len]; exact ho.one
      · simp only [DM.late, late_len]; exact ho.most
      · exact late_rows ho.rows (fun w hw => (ho.uns w hw).2)
      · rw [hget_set_eq hgp']; simp only [DM.late, late_len]
      · rw [hget_set_ne hps, hgs]; rfl
      · rw [hget_set_ne hpl, hgo l hllt (fun e => hsl e.symm), hl0]; rfl
      · simp only [List.mem_cons, not_or] at hnj
        rw [hget_set_ne (fun e => hnj.1 e.symm), hgo j hj hnj.2.1]
end
end

section
open Go Go.RowKit
set_option linter.unusedSimpArgs false
set_option linter.unusedVariables false
set_option maxRecDepth 100000
set_option maxHeartbeats 4000000

theorem SlV.stab {H : AH} {v : Value} {cells : List Value} (h : SlV H v cells) (F : List Nat) (hF : ∀ j ∈ F, H.length ≤ j) (L : AH) : SlS (H ++ L) F v cells := by
  intro G hg
  rcases h with h | ⟨j, off, k, h1, h2, h3⟩
  · exact .inl h
  · have hj := hget_lt h2
    refine .inr ⟨j, off, k, h1, ?_, h3⟩
    rw [hg j (by simp; omega) (fun hm => by have := hF j hm; omega)]
    exact hget_left' h2
attribute [local simp] wb_bool wb_undef XL_nil XL_cons XLc_val XLc_call step1_eq stepW_t stepW_f stepC_n stepC_s stepX_s stepX_n stepN_s calleeX oneV xop_eq xopR_s xopR_n wantedA_eq wantedG_n wantedG_s plain1_int plain1_bool plain1_string bits_i64 bits_u64 bits_u32 bits_u16 bits_u8 xeqA xagg xcmp xarr allK_iv num_iv calleeOf xread xeff xbin xint xnil xun xstr xload xconv xpart xfield xfieldAddr xindexAddr xindex bnd asInt? xslice xlen xmin xmax xbuild xfill xappend xapp2 xappstr xappmk xcap xcopy xcells eval_tmp eval_const put_at put_none fr0_at cells_agg cells_int cells_bool cells_string cells_ptr cells_slice notTuple tab iv_all hget_app hget_app0 hget_cons0 hget_cons set_app set_app0 setR setR_one QL_nil QL_cons QLc_val stepQ_t stepQ_f stepQC_n stepQC_s stepQX_s SL_nil SL_cons SLc_val stepS_t stepS_f ltT ltF leT leF eqT eqF ltTn ltFn leTn leFn eqTn eqFn beqT beqF bneT bneF wi64 wu64 wu32 wu16 wu8 tmodP tdivP hgetL hgetNe hgetEq setL nums_def nums_len Nat.succ_le_of_lt List.getElem?_cons_zero List.getElem?_cons_succ Option.getD_some Int.toNat_add Int.toNat_mul agB agI agS agP agL agA okB okI okS okP okSl okA
theorem written_rc {H : AH} {γ : Nat → Option Nat} {v : Value} {ps : List ByteArray} (hv : SlV H v (ps.map .string)) (hps : ∀ s ∈ ps, s.size ≤ 3000) (hlen : ps.length ≤ 29) :
    AC Tryd.prog H.length γ 41 #[v] H (fun v' _ => v' = .string (strOfNums (textsB ps))) := by
  have hno : notTuple v = true := by rcases hv with ⟨a, rfl, _⟩ | ⟨j, off, k, rfl, _⟩ <;> rfl
  refine ac_of_aw Tryd.func41 rfl Tryd.ntmps41 Tryd.results41 (by simp) ?_
  refine aw_seq ?_
  (refine aw_ops (by kernel_rfl) (fun K hK => ?_); simp (disch := first | omega | (simp only [List.length_set, List.length_append, List.length_cons, List.length_nil, iv_length, zl_length]; try omega; done)) [-getElem?_pos, -getElem?_neg]; refine hK _ _ ?_; clear hK K)
  refine aw_seq ?_
  (refine aw_ops (by kernel_rfl) (fun K hK => ?_); simp (disch := first | omega | (simp only [List.length_set, List.length_append, List.length_cons, List.length_nil, iv_length, zl_length]; try omega; done)) [-getElem?_pos, -getElem?_neg]; refine hK _ _ ?_; clear hK K)
  have hw : Wr (H ++ [some ⟨[.slice none 0 0], 112, none⟩]) H.length [H.length] [] := ⟨.slice none 0 0, [], rfl, by rw [hget_app0]; rfl, .inl ⟨rfl, rfl, rfl⟩, by simp⟩
  refine aw_seq ?_
  refine aw_ops (by kernel_rfl) (fun K hK => ?_)
  simp (disch := first | omega | (simp only [List.length_set, List.length_append, List.length_cons, List.length_nil, iv_length, zl_length]; try omega; done)) [-getElem?_pos, -getElem?_neg, -notTuple, hno]
  refine ⟨by kernel_rfl, AC.mono (texts_ac hw (by simp) (by simp) (hv.stab [H.length] (by simp) _) hps (by simp; omega)) ?_⟩
  rintro v1 H1 ⟨F1, hw1, hf1⟩
  rw [List.nil_append] at hw1
  try simp (disch := first | omega | (simp only [List.length_set, List.length_append, List.length_cons, List.length_nil, iv_length, zl_length]; try omega; done)) [-getElem?_pos, -getElem?_neg]
  refine hK _ _ ?_; clear hK K
  refine aw_seq ?_
  refine aw_ops (by kernel_rfl) (fun K hK => ?_)
  simp (disch := first | omega | (simp only [List.length_set, List.length_append, List.length_cons, List.length_nil, iv_length, zl_length]; try omega; done)) [-getElem?_pos, -getElem?_neg]
  refine ⟨by kernel_rfl, AC.mono (wstring_ac hw1) ?_⟩
  rintro v2 H2 ⟨rfl, rfl⟩
  try simp (disch := first | omega | (simp only [List.length_set, List.length_append, List.length_cons, List.length_nil, iv_length, zl_length]; try omega; done)) [-getElem?_pos, -getElem?_neg]
  refine hK _ _ ?_; clear hK K
  (refine aw_ret ?_; simp (disch := first | omega | (simp only [List.length_set, List.length_append, List.length_cons, List.length_nil, iv_length, zl_length]; try omega; done)) [-getElem?_pos, -getElem?_neg, thenQ_ret, scopeQ_ret, inBlockQ_ret, RQ, resL, resV])
theorem eval_fn2 (γ : Nat → Option Nat) (α : Fm) (f : FuncId) : α.eval γ (.func f) = .func (.func f) #[] #[] := rfl
def fnV (f : FuncId) : Value := .func (.func f) #[] #[]
theorem tooLong1_vc (s : ByteArray) (hs : s.size ≤ 60000) : VC Tryd.prog 66 #[.string s] (.bool false) := by
  refine vc_of_ac (by simp [pv_iv, pv_int, pv_bool, pv_string, pv_tup2, pv_tup3, iv_plain, p2_int, p2_bool, p2_string]) (by simp [pv_iv, pv_int, pv_bool, pv_string, pv_tup2, pv_tup3, iv_plain, p2_int, p2_bool, p2_string]) ?_
  refine ac_of_aw Tryd.func66 rfl Tryd.ntmps66 Tryd.results66 (by simp) ?_
  refine aw_seq ?_
  (refine aw_ops (by kernel_rfl) (fun K hK => ?_); simp (disch := first | omega | (simp only [List.length_set, List.length_append, List.length_cons, List.length_nil, iv_length, zl_length]; try omega; done)) [-getElem?_pos, -getElem?_neg]; refine hK _ _ ?_; clear hK K)
  refine aw_seq ?_
  have : ¬ 60000 < s.size := by omega
  (refine aw_ops (by kernel_rfl) (fun K hK => ?_); simp (disch := first | omega | (simp only [List.length_set, List.length_append, List.length_cons, List.length_nil, iv_length, zl_length]; try omega; done)) [-getElem?_pos, -getElem?_neg, this]; refine hK _ _ ?_; clear hK K)
  (refine aw_ret ?_; simp (disch := first | omega | (simp only [List.length_set, List.length_append, List.length_cons, List.length_nil, iv_length, zl_length]; try omega; done)) [-getElem?_pos, -getElem?_neg, thenQ_ret, scopeQ_ret, inBlockQ_ret, RQ, resL, resV])
theorem SlV.atS {P : Program} {H : AH} {v : Value} {ps : List ByteArray} {t e : TypeId} (h : SlV H v (ps.map .string)) (ht : und P t = .slice e) (hs : szt P e = 1) (he : isAggD (und P e) = false) (ho : okD (und P e) = true) {i : Nat} {s : ByteArray} (hi : ps[i]? = some s) :
    ∃ p, xindexAddr P t v (.int .i64 (i : Nat)) = some p ∧ xload P e p H = some (.string s) := by
  have hil : i < ps.length := (List.getElem?_eq_some_iff.1 hi).1
  rcases h with ⟨a, rfl, h0⟩ | ⟨j, off, b, rfl, hb, hc⟩
  · have : ps = [] := by simpa using h0
    subst this
    simp at hil
  · refine ⟨.pointer (some ⟨j, off + i, none⟩), ?_, ?_⟩
    · simp [xindexAddr, ht, hs, bnd, hil]
    · have := hc i (.string s) (by rw [List.getElem?_map, hi]; rfl)
      simp [xload, hb, he, ho, this]
theorem indexFunc_rc {H : AH} {γ : Nat → Option Nat} {v : Value} {ps : List ByteArray} (hv : SlV H v (ps.map .string)) (hps : ∀ s ∈ ps, s.size ≤ 60000) (hlen : ps.length ≤ 1000000) :
    AC Tryd.prog H.length γ 82 #[v, fnV 66] H (fun v' _ => v' = .int .i64 (-1)) := by
  have hno : notTuple v = true := by rcases hv with ⟨a, rfl, _⟩ | ⟨j, off, k, rfl, _⟩ <;> rfl
  have hxl := hv.len (P := Tryd.prog) (t := 22) (e := 9) (by simp)
  rw [List.length_map] at hxl
  refine ac_of_aw Tryd.func82 rfl Tryd.ntmps82 Tryd.results82 (by simp) ?_
  refine aw_seq ?_
  (refine aw_ops (by kernel_rfl) (fun K hK => ?_); simp (disch := first | omega | (simp only [List.length_set, List.length_append, List.length_cons, List.length_nil, iv_length, zl_length]; try omega; done)) [-getElem?_pos, -getElem?_neg]; refine hK _ _ ?_; clear hK K)
  refine aw_seq ?_
  refine aw_seq ?_
  (refine aw_ops (by kernel_rfl) (fun K hK => ?_); simp (disch := first | omega | (simp only [List.length_set, List.length_append, List.length_cons, List.length_nil, iv_length, zl_length]; try omega; done)) [-getElem?_pos, -getElem?_neg, -notTuple, hno, -xlen, hxl]; refine hK _ _ ?_; clear hK K)
  refine aw_block ?_
  refine aw_loop (fun q α H' => ∃ i : Nat, i + q = ps.length ∧ α 0 = v ∧ α 1 = fnV 66 ∧ α 7 = .int .i64 (ps.length : Nat) ∧ α 8 = .int .i64 (i : Nat) ∧ H' = H) ps.length ?_ ?_
  · exact ⟨0, by omega, by (first | (simp [put_at, put_none, fr0_at]; done) | rfl), by (first | (simp [put_at, put_none, fr0_at]; done) | rfl), by (first | (simp [put_at, put_none, fr0_at]; done) | rfl), by (first | (simp [put_at, put_none, fr0_at]; done) | rfl), rfl⟩
  rintro q α H' ⟨i, hi, h0, h1, h7, h8, rfl⟩
  refine aw_seq ?_
  by_cases hlt : i < ps.length
  · (refine aw_ops (by kernel_rfl) (fun K hK => ?_); simp (disch := first | omega | (simp only [List.length_set, List.length_append, List.length_cons, List.length_nil, iv_length, zl_length]; try omega; done)) [-getElem?_pos, -getElem?_neg, h7, h8, hlt]; refine hK _ _ ?_; clear hK K)
    refine aw_seq ?_
    refine aw_t (by (first | (simp [eval_tmp, put_at]; done) | (simp [eval_tmp, put_at]; omega))) (by kernel_rfl) ?_
    refine aw_skip ?_
    refine aw_seq ?_
    refine aw_block ?_
    refine aw_seq ?_
    (refine aw_ops (by kernel_rfl) (fun K hK => ?_); simp (disch := first | omega | (simp only [List.length_set, List.length_append, List.length_cons, List.length_nil, iv_length, zl_length]; try omega; done)) [-getElem?_pos, -getElem?_neg, h8]; refine hK _ _ ?_; clear hK K)
    obtain ⟨s, hs⟩ : ∃ s, ps[i]? = some s := ⟨_, List.getElem?_eq_getElem hlt⟩
    obtain ⟨p, hp1, hp2⟩ := hv.atS (P := Tryd.prog) (t := 22) (e := 9) (by simp) (by simp) (by simp) (by simp) hs
    refine aw_seq ?_
    refine aw_ops (by kernel_rfl) (fun K hK => ?_)
    simp (disch := first | omega | (simp only [List.length_set, List.length_append, List.length_cons, List.length_nil, iv_length, zl_length]; try omega; done)) [-getElem?_pos, -getElem?_neg, h0, h1, fnV, -notTuple, hno, -xindexAddr, hp1, -xload, hp2]
    refine ⟨by kernel_rfl, ac_of_vc (by simp [pv_iv, pv_int, pv_bool, pv_string, pv_tup2, pv_tup3, iv_plain, p2_int, p2_bool, p2_string]) (tooLong1_vc s (hps s (List.mem_of_getElem? hs))) ?_⟩
    try simp (disch := first | omega | (simp only [List.length_set, List.length_append, List.length_cons, List.length_nil, iv_length, zl_length]; try omega; done)) [-getElem?_pos, -getElem?_neg]
    refine hK _ _ ?_; clear hK K
    refine aw_f (by (first | (simp [eval_tmp, put_at]; done) | (simp [eval_tmp, put_at]; omega))) (by kernel_rfl) ?_
    refine aw_skip ?_
    (refine aw_ops (by kernel_rfl) (fun K hK => ?_); simp (disch := first | omega | (simp only [List.length_set, List.length_append, List.length_cons, List.length_nil, iv_length, zl_length]; try omega; done)) [-getElem?_pos, -getElem?_neg, h8]; refine hK _ _ ?_; clear hK K)
    refine ⟨q - 1, by omega, i + 1, by omega, by (first | (simp [put_at, put_none, fr0_at, h0]; done) | rfl), by (first | (simp [put_at, put_none, fr0_at, h1]; done) | rfl), by (first | (simp [put_at, put_none, fr0_at, h7]; done) | rfl), by (first | (simp [put_at, put_none, fr0_at]; done) | rfl), rfl⟩
  · (refine aw_ops (by kernel_rfl) (fun K hK => ?_); simp (disch := first | omega | (simp only [List.length_set, List.length_append, List.length_cons, List.length_nil, iv_length, zl_length]; try omega; done)) [-getElem?_pos, -getElem?_neg, h7, h8, hlt]; refine hK _ _ ?_; clear hK K)
    refine aw_seq ?_
    refine aw_f (by (first | (simp [eval_tmp, put_at]; done) | (simp [eval_tmp, put_at]; omega))) (by kernel_rfl) ?_
    refine aw_exit ?_
    refine aw_seq ?_
    (refine aw_ops (by kernel_rfl) (fun K hK => ?_); simp (disch := first | omega | (simp only [List.length_set, List.length_append, List.length_cons, List.length_nil, iv_length, zl_length]; try omega; done)) [-getElem?_pos, -getElem?_neg]; refine hK _ _ ?_; clear hK K)
    (refine aw_ret ?_; simp (disch := first | omega | (simp only [List.length_set, List.length_append, List.length_cons, List.length_nil, iv_length, zl_length]; try omega; done)) [-getElem?_pos, -getElem?_neg, thenQ_ret, scopeQ_ret, inBlockQ_ret, RQ, resL, resV])
theorem tooLong_rc {H : AH} {γ : Nat → Option Nat} {v : Value} {ps : List ByteArray} (hv : SlV H v (ps.map .string)) (hps : ∀ s ∈ ps, s.size ≤ 60000) (hlen : ps.length ≤ 1000000) :
    AC Tryd.prog H.length γ 40 #[v] H (fun v' _ => v' = .bool false) := by
  have hno : notTuple v = true := by rcases hv with ⟨a, rfl, _⟩ | ⟨j, off, k, rfl, _⟩ <;> rfl
  have hcon : AC Tryd.prog H.length γ 65 #[v, fnV 66] H (fun v' _ => v' = .bool false) := by
    refine ac_of_aw Tryd.func65 rfl Tryd.ntmps65 Tryd.results65 (by simp) ?_
    refine aw_seq ?_
    (refine aw_ops (by kernel_rfl) (fun K hK => ?_); simp (disch := first | omega | (simp only [List.length_set, List.length_append, List.length_cons, List.length_nil, iv_length, zl_length]; try omega; done)) [-getElem?_pos, -getElem?_neg]; refine hK _ _ ?_; clear hK K)
    refine aw_seq ?_
    refine aw_ops (by kernel_rfl) (fun K hK => ?_)
    simp (disch := first | omega | (simp only [List.length_set, List.length_append, List.length_cons, List.length_nil, iv_length, zl_length]; try omega; done)) [-getElem?_pos, -getElem?_neg, fnV, -notTuple, hno]
    refine ⟨by kernel_rfl, ac_of_rc (indexFunc_rc hv hps hlen) (by simp [pv_iv, pv_int, pv_bool, pv_string, pv_tup2, pv_tup3, iv_plain, p2_int, p2_bool, p2_string]) ?_⟩
    simp (disch := first | omega | (simp only [List.length_set, List.length_append, List.length_cons, List.length_nil, iv_length, zl_length]; try omega; done)) [-getElem?_pos, -getElem?_neg]
    refine hK _ _ ?_; clear hK K
    (refine aw_ret ?_; simp (disch := first | omega | (simp only [List.length_set, List.length_append, List.length_cons, List.length_nil, iv_length, zl_length]; try omega; done)) [-getElem?_pos, -getElem?_neg, thenQ_ret, scopeQ_ret, inBlockQ_ret, RQ, resL, resV])
  refine ac_of_aw Tryd.func40 rfl Tryd.ntmps40 Tryd.results40 (by simp) ?_
  refine aw_seq ?_
  (refine aw_ops (by kernel_rfl) (fun K hK => ?_); simp (disch := first | omega | (simp only [List.length_set, List.length_append, List.length_cons, List.length_nil, iv_length, zl_length]; try omega; done)) [-getElem?_pos, -getElem?_neg]; refine hK _ _ ?_; clear hK K)
  refine aw_seq ?_
  refine aw_ops (by kernel_rfl) (fun K hK => ?_)
  simp (disch := first | omega | (simp only [List.length_set, List.length_append, List.length_cons, List.length_nil, iv_length, zl_length]; try omega; done)) [-getElem?_pos, -getElem?_neg, -notTuple, hno, eval_fn2]
  refine ⟨by kernel_rfl, ac_of_rc hcon (by simp [pv_iv, pv_int, pv_bool, pv_string, pv_tup2, pv_tup3, iv_plain, p2_int, p2_bool, p2_string]) ?_⟩
  try simp (disch := first | omega | (simp only [List.length_set, List.length_append, List.length_cons, List.length_nil, iv_length, zl_length]; try omega; done)) [-getElem?_pos, -getElem?_neg]
  refine hK _ _ ?_; clear hK K
  (refine aw_ret ?_; simp (disch := first | omega | (simp only [List.length_set, List.length_append, List.length_cons, List.length_nil, iv_length, zl_length]; try omega; done)) [-getElem?_pos, -getElem?_neg, thenQ_ret, scopeQ_ret, inBlockQ_ret, RQ, resL, resV])
end

section
open Go Go.RowKit
set_option linter.unusedSimpArgs false
set_option linter.unusedVariables false
set_option maxRecDepth 100000
set_option maxHeartbeats 4000000

theorem rdN_short : ∀ (g n : Nat) (l : List Int), (rdN g n l).2.2 = 0 → (rdN g n l).2.1.length < l.length
  | 0, _, l, h => by simp [rdN] at h
  | _ + 1, _, [], h => by simp [rdN] at h
  | g + 1, n, b :: l, h => by
    unfold rdN at h ⊢
    split at h
    · simp at h
    · rename_i h1
      rw [if_neg h1]
      split at h
      · rename_i h2
        rw [if_pos h2]
        simp
      · rename_i h2
        rw [if_neg h2]
        have := rdN_short g _ l h
        simp only [List.length_cons]
        omega
theorem rdNum_short {l : List Int} (h : (rdNum l).2.2 = 0) : (rdNum l).2.1.length < l.length := by
  unfold rdNum at h ⊢
  split
  · rename_i e; exact rdN_short _ _ _ e
  · rename_i e; rw [if_neg e] at h; exact absurd h e
theorem rdText_short {most : Int} {l : List Int} : ((rdText most l).2.2 = 0 ∧ (rdText most l).2.1.length < l.length) ∨ ((rdText most l).2.2 ≠ 0 ∧ (rdText most l).2.1 = l) := by
  unfold rdText
  split
  · rename_i h; exact .inr ⟨h, rfl⟩
  · rename_i h
    split
    · exact .inr ⟨by simp, rfl⟩
    · refine .inl ⟨rfl, ?_⟩
      have h2 : (rdCount most l).2.1.length < l.length := by
        unfold rdCount at h ⊢
        split at h
        · rename_i h3; exact absurd h3 (by simpa using h)
        · rename_i h3
          rw [if_neg h3]
          split at h
          · simp at h
          · rename_i h4
            rw [if_neg h4]
            exact rdNum_short (by simpa using h3)
      rw [List.length_drop]
      omega
theorem rdText_by {most : Int} {l : List Int} (h : By l) : By (rdText most l).2.1 := by
  have := rdCount_by (most := most) h
  unfold rdText
  split
  · exact h
  · split
    · exact h
    · exact this.1.drop _
/-- The records in bytes, if there is nothing else; those that were read already ahead of them. -/
def recsR : Nat → List Int → List ByteArray → Option (List ByteArray)
  | 0, l, acc => if l = [] then some acc else none
  | f + 1, l, acc => if l = [] then some acc else if (rdText 60000 l).2.2 ≠ 0 then none else recsR f (rdText 60000 l).2.1 (acc ++ [strOfNums (rdText 60000 l).1])
attribute [local irreducible] rdText
theorem nt_strJ (s : ByteArray) : notTuple (.string s) = true := rfl
theorem nt_slJ (a : Option Addr) (n c : Nat) : notTuple (.slice a n c) = true := rfl
attribute [local simp] wb_bool wb_undef XL_nil XL_cons XLc_val XLc_call step1_eq stepW_t stepW_f stepC_n stepC_s stepX_s stepX_n stepN_s calleeX oneV xop_eq xopR_s xopR_n wantedA_eq wantedG_n wantedG_s plain1_int plain1_bool plain1_string bits_i64 bits_u64 bits_u32 bits_u16 bits_u8 xeqA xagg xcmp xarr allK_iv num_iv calleeOf xread xeff xbin xint xnil xun xstr xload xconv xpart xfield xfieldAddr xindexAddr xindex bnd asInt? xslice xlen xmin xmax xbuild xfill xappend xapp2 xappstr xappmk xcap xcopy xcells eval_tmp eval_const put_at put_none fr0_at cells_agg cells_int cells_bool cells_string cells_ptr cells_slice notTuple tab iv_all hget_app hget_app0 hget_cons0 hget_cons set_app set_app0 setR setR_one QL_nil QL_cons QLc_val stepQ_t stepQ_f stepQC_n stepQC_s stepQX_s SL_nil SL_cons SLc_val stepS_t stepS_f ltT ltF leT leF eqT eqF ltTn ltFn leTn leFn eqTn eqFn beqT beqF bneT bneF wi64 wu64 wu32 wu16 wu8 tmodP tdivP hgetL hgetNe hgetEq setL nums_def nums_len Nat.succ_le_of_lt List.getElem?_cons_zero List.getElem?_cons_succ Option.getD_some Int.toNat_add Int.toNat_mul agB agI agS agP agL agA okB okI okS okP okSl okA
theorem readRecs_ac {nro : Nat} {H : AH} {γ : Nat → Option Nat} (hnl : nro ≤ H.length) (l : List Int) (hb : By l) (hl : l.length ≤ 400000) :
    AC Tryd.prog nro γ 35 #[.string (strOfNums l)] H (fun v' H' => Low H.length H H' ∧ (recsR l.length l [] = none ∧ v' = .tuple #[.slice none 0 0, .bool false] ∨
      ∃ rs rv FR, recsR l.length l [] = some rs ∧ v' = .tuple #[rv, .bool true] ∧ OwnF H' rv 9 1 (rs.map .string) FR ∧ ∀ j ∈ FR, H.length ≤ j)) := by
  refine ac_of_aw Tryd.func35 rfl Tryd.ntmps35 Tryd.results35 (by simp) ?_
  refine aw_seq ?_
  (refine aw_ops (by kernel_rfl) (fun K hK => ?_); simp (disch := first | omega | (simp only [List.length_set, List.length_append, List.length_cons, List.length_nil, iv_length, zl_length]; try omega; done)) [-getElem?_pos, -getElem?_neg]; refine hK _ _ ?_; clear hK K)
  refine aw_seq ?_
  (refine aw_ops (by kernel_rfl) (fun K hK => ?_); simp (disch := first | omega | (simp only [List.length_set, List.length_append, List.length_cons, List.length_nil, iv_length, zl_length]; try omega; done)) [-getElem?_pos, -getElem?_neg]; refine hK _ _ ?_; clear hK K)
  refine aw_seq ?_
  refine aw_ops (by kernel_rfl) (fun K hK => ?_)
  simp (disch := first | omega | (simp only [List.length_set, List.length_append, List.length_cons, List.length_nil, iv_length, zl_length]; try omega; done)) [-getElem?_pos, -getElem?_neg]
  refine ⟨by kernel_rfl, AC.mono (newreader_ac (nro := nro)) ?_⟩
  rintro _ H1 ⟨rfl, rfl⟩
  try simp (disch := first | omega | (simp only [List.length_set, List.length_append, List.length_cons, List.length_nil, iv_length, zl_length]; try omega; done)) [-getElem?_pos, -getElem?_neg]
  refine hK _ _ ?_; clear hK K
  have hr0 : hget (H ++ [some (rdC l 0)]) H.length = some (rdC l 0) := by rw [hget_app0]; rfl
  refine aw_seq ?_
  refine aw_seq ?_
  refine aw_ops (by kernel_rfl) (fun K hK => ?_)
  simp (disch := first | omega | (simp only [List.length_set, List.length_append, List.length_cons, List.length_nil, iv_length, zl_length]; try omega; done)) [-getElem?_pos, -getElem?_neg]
  refine ⟨by kernel_rfl, AC.mono (left_ac (nro := nro) hr0 (by omega)) ?_⟩
  rintro _ H1 ⟨rfl, rfl⟩
  try simp (disch := first | omega | (simp only [List.length_set, List.length_append, List.length_cons, List.length_nil, iv_length, zl_length]; try omega; done)) [-getElem?_pos, -getElem?_neg]
  refine hK _ _ ?_; clear hK K
  refine aw_block ?_
  refine aw_loop (fun q α G => ∃ (s : List Int) (acc : List ByteArray) (v : Value) (F : List Nat), s.length ≤ q ∧ acc.length + s.length ≤ l.length ∧ recsR q s acc = recsR l.length l [] ∧ By s ∧ α 4 = v ∧ α 5 = .pointer (some ⟨H.length, 0, none⟩) ∧ α 6 = .int .i64 (s.length : Nat) ∧
    hget G H.length = some (rdC s 0) ∧ OwnF G v 9 1 (acc.map .string) F ∧ (∀ j ∈ F, H.length < j) ∧ Low H.length H G) l.length ?_ ?_
  · exact ⟨l, [], .slice none 0 0, [], Nat.le_refl _, by simp, rfl, hb, by (first | (simp [put_at, put_none, fr0_at]; done) | rfl), by (first | (simp [put_at, put_none, fr0_at]; done) | rfl), by (first | (simp [put_at, put_none, fr0_at]; done) | rfl), hr0, .inl ⟨rfl, rfl, rfl⟩, by simp, Low.push (Nat.le_refl _) _⟩
  rintro q α G ⟨s, acc, v, F, hq, hal, hrec, hsb, h4, h5, h6, hrd, hown, hF, hlow⟩
  have hlt := hget_lt hrd
  refine aw_seq ?_
  refine aw_seq ?_
  by_cases hs0 : 0 < s.length
  · (refine aw_ops (by kernel_rfl) (fun K hK => ?_); simp (disch := first | omega | (simp only [List.length_set, List.length_append, List.length_cons, List.length_nil, iv_length, zl_length]; try omega; done)) [-getElem?_pos, -getElem?_neg, h6, hs0]; refine hK _ _ ?_; clear hK K)
    refine aw_t (by (first | (simp [eval_tmp, put_at]; done) | (simp [eval_tmp, put_at]; omega))) (by kernel_rfl) ?_
    refine aw_skip ?_
    refine aw_seq ?_
    refine aw_block ?_
    refine aw_seq ?_
    refine aw_ops (by kernel_rfl) (fun K hK => ?_)
    have hsh := ownF_shape hown
    simp (disch := first | omega | (simp only [List.length_set, List.length_append, List.length_cons, List.length_nil, iv_length, zl_length]; try omega; done)) [-getElem?_pos, -getElem?_neg, h4, h5, -notTuple, hsh.1]
    refine ⟨by kernel_rfl, AC.mono (text_ac (most := 60000) hnl hrd hsb (by omega) (by omega)) ?_⟩
    rintro _ G1 ⟨rfl, rfl⟩
    have hsh2 := @rdText_short 60000 s
    have hrb := @rdText_by 60000 s hsb
    obtain ⟨t, s2, e, hr⟩ : ∃ t s2 e, rdText 60000 s = (t, s2, e) := ⟨_, _, _, rfl⟩
    rw [hr] at hsh2 hrb ⊢
    simp only at hsh2 hrb ⊢
    obtain ⟨G2, hG2⟩ : ∃ G2, G2 = G.set H.length (some (rdC s2 e)) := ⟨_, rfl⟩
    rw [← hG2]
    have hl2 : G2.length = G.length := by rw [hG2]; simp
    have hg2 : hget G2 H.length = some (rdC s2 e) := by rw [hG2]; exact hget_set_eq hlt
    have k2 : ∀ j, j ≠ H.length → hget G2 j = hget G j := fun j hj => by rw [hG2]; exact hget_set_ne (Ne.symm hj)
    have hown2 := (hown.low (H' := G2) (fun j hj => k2 j (by have := hF j hj; omega))).low (H' := G2 ++ [some ⟨[.string (strOfNums t)], 9, some 1⟩]) (fun j hj => hget_left (by have := hown.lt j hj; omega))
    obtain ⟨v', G3, hap, ho, hlen, hk⟩ := ownF_append (P := Tryd.prog) (nro := nro) (t := 22) (e := 9) (H := G2 ++ [some ⟨[.string (strOfNums t)], 9, some 1⟩]) (v := v) (x := .slice (some ⟨G2.length, 0, none⟩) 1 1) (sz := 1) (cells := acc.map .string) (news := [.string (strOfNums t)]) (F := F)
      (by simp) (by simp) (by omega) (by simp) hown2 (fun j hj => by have := hF j hj; omega) (fun s h => by cases h) (by simp [xcells, hget_app0, hget_cons0]) (by simp) (by simp) (by simp; omega) (by simp [maxLen]; omega)
    have hsh3 := ownF_shape ho
    simp (disch := first | omega | (simp only [List.length_set, List.length_append, List.length_cons, List.length_nil, iv_length, zl_length]; try omega; done)) [-getElem?_pos, -getElem?_neg, -notTuple, nt_strJ, nt_slJ, hsh.1, hsh3.1, hsh3.2, -xappend, hap]
    refine hK _ _ ?_; clear hK K
    have hg3 : hget G3 H.length = some (rdC s2 e) := by
      rw [hk _ (by simp; omega) (fun hm => by have := hF _ hm; omega), hget_left (by omega)]
      exact hg2
    have hl3 : G.length ≤ G3.length := by simp at hlen; omega
    have hlow3 : Low H.length H G3 := ⟨fun j hj => by
      rw [hk j (by simp; omega) (fun hm => by have := hF _ hm; omega), hget_left (by omega), k2 j (by omega)]
      exact hlow.1 j hj, by omega⟩
    have hrec2 : ∃ q', q = q' + 1 := ⟨q - 1, by omega⟩
    obtain ⟨q', rfl⟩ := hrec2
    have hsn : s ≠ [] := fun h => by rw [h] at hs0; simp at hs0
    have hunf : recsR (q' + 1) s acc = if e ≠ 0 then none else recsR q' s2 (acc ++ [strOfNums t]) := by
      rw [recsR, if_neg hsn, hr]
    rw [hunf] at hrec
    have hs2l : s2.length ≤ s.length := by
      rcases hsh2 with ⟨_, h⟩ | ⟨_, h⟩
      · omega
      · rw [h]; omega
    refine aw_seq ?_
    refine aw_ops (by kernel_rfl) (fun K hK => ?_)
    simp (disch := first | omega | (simp only [List.length_set, List.length_append, List.length_cons, List.length_nil, iv_length, zl_length]; try omega; done)) [-getElem?_pos, -getElem?_neg, h5]
    refine ⟨by kernel_rfl, AC.mono (left_ac (nro := nro) hg3 (by omega)) ?_⟩
    rintro _ G4 ⟨rfl, e4⟩
    rw [e4]
    clear e4 G4
    rcases hsh2 with ⟨he, hlt2⟩ | ⟨he, heq⟩
    · have hne : ¬ ((s2.length : Nat) : Int) = (s.length : Nat) := by omega
      simp (disch := first | omega | (simp only [List.length_set, List.length_append, List.length_cons, List.length_nil, iv_length, zl_length]; try omega; done)) [-getElem?_pos, -getElem?_neg, h6, hne]
      refine hK _ _ ?_; clear hK K
      refine aw_f (by (first | (simp [eval_tmp, put_at]; done) | (simp [eval_tmp, put_at]; omega))) (by kernel_rfl) ?_
      refine aw_skip ?_
      refine aw_ops (by kernel_rfl) (fun K hK => ?_)
      simp (disch := first | omega | (simp only [List.length_set, List.length_append, List.length_cons, List.length_nil, iv_length, zl_length]; try omega; done)) [-getElem?_pos, -getElem?_neg, h5]
      refine ⟨by kernel_rfl, AC.mono (left_ac (nro := nro) hg3 (by omega)) ?_⟩
      rintro _ G5 ⟨rfl, e5⟩
      rw [e5]
      clear e5 G5
      try simp (disch := first | omega | (simp only [List.length_set, List.length_append, List.length_cons, List.length_nil, iv_length, zl_length]; try omega; done)) [-getElem?_pos, -getElem?_neg]
      refine hK _ _ ?_; clear hK K
      subst he
      rw [if_neg (by simp)] at hrec
      have ho' : OwnF G3 v' 9 1 ((acc ++ [strOfNums t]).map .string) [G2.length + 1] := by
        rw [List.map_append]
        simpa using ho
      refine ⟨q', by omega, s2, acc ++ [strOfNums t], v', [G2.length + 1], by omega, by simp; omega, hrec, hrb, by (first | (simp [put_at, put_none, fr0_at]; done) | rfl), by (first | (simp [put_at, put_none, fr0_at, h5]; done) | rfl), by (first | (simp [put_at, put_none, fr0_at]; done) | rfl), hg3, ho', by simp; omega, hlow3⟩
    · subst heq
      simp (disch := first | omega | (simp only [List.length_set, List.length_append, List.length_cons, List.length_nil, iv_length, zl_length]; try omega; done)) [-getElem?_pos, -getElem?_neg, h6]
      refine hK _ _ ?_; clear hK K
      refine aw_t (by (first | (simp [eval_tmp, put_at]; done) | (simp [eval_tmp, put_at]; omega))) (by kernel_rfl) ?_
      refine aw_seq ?_
      (refine aw_ops (by kernel_rfl) (fun K hK => ?_); simp (disch := first | omega | (simp only [List.length_set, List.length_append, List.length_cons, List.length_nil, iv_length, zl_length]; try omega; done)) [-getElem?_pos, -getElem?_neg]; refine hK _ _ ?_; clear hK K)
      rw [if_pos he] at hrec
      (refine aw_ret ?_; simp (disch := first | omega | (simp only [List.length_set, List.length_append, List.length_cons, List.length_nil, iv_length, zl_length]; try omega; done)) [-getElem?_pos, -getElem?_neg, thenQ_ret, scopeQ_ret, inBlockQ_ret, RQ, resL, resV])
      exact ⟨hlow3, hrec.symm⟩
  · (refine aw_ops (by kernel_rfl) (fun K hK => ?_); simp (disch := first | omega | (simp only [List.length_set, List.length_append, List.length_cons, List.length_nil, iv_length, zl_length]; try omega; done)) [-getElem?_pos, -getElem?_neg, h6, hs0]; refine hK _ _ ?_; clear hK K)
    refine aw_f (by (first | (simp [eval_tmp, put_at]; done) | (simp [eval_tmp, put_at]; omega))) (by kernel_rfl) ?_
    refine aw_exit ?_
    refine aw_seq ?_
    have hsh := ownF_shape hown
    (refine aw_ops (by kernel_rfl) (fun K hK => ?_); simp (disch := first | omega | (simp only [List.length_set, List.length_append, List.length_cons, List.length_nil, iv_length, zl_length]; try omega; done)) [-getElem?_pos, -getElem?_neg, h4, -notTuple, hsh.1]; refine hK _ _ ?_; clear hK K)
    have hsn : s = [] := List.eq_nil_of_length_eq_zero (by omega)
    have hrec2 : recsR l.length l [] = some acc := by
      rw [← hrec, hsn]
      cases q <;> simp [recsR]
    (refine aw_ret ?_; simp (disch := first | omega | (simp only [List.length_set, List.length_append, List.length_cons, List.length_nil, iv_length, zl_length]; try omega; done)) [-getElem?_pos, -getElem?_neg, thenQ_ret, scopeQ_ret, inBlockQ_ret, RQ, resL, resV, -notTuple, hsh.1])
    exact ⟨_, ⟨rfl, rfl⟩, hlow, .inr ⟨acc, hrec2, v, rfl, F, hown, fun j hj => by have := hF j hj; omega⟩⟩
end

section
open Go Go.RowKit
set_option linter.unusedSimpArgs false
set_option linter.unusedVariables false
set_option maxRecDepth 100000
set_option maxHeartbeats 4000000

/-- A slice that shows these cells, as long as F stays. -/
structure OwnG (H : AH) (v : Value) (cells : List Value) (F : List Nat) : Prop where
  shape : ∃ a c, v = .slice a cells.length c
  lt : ∀ j ∈ F, j < H.length
  cells : ∀ G : AH, (∀ j ∈ F, hget G j = hget H j) → xcells 1 v G = some cells
theorem OwnG.low {H H' : AH} {v : Value} {cells : List Value} {F : List Nat} (h : OwnG H v cells F) (hl : ∀ j ∈ F, hget H' j = hget H j) (hlen : H.length ≤ H'.length) : OwnG H' v cells F :=
  ⟨h.shape, fun j hj => Nat.lt_of_lt_of_le (h.lt j hj) hlen, fun G hg => h.cells G (fun j hj => (hg j hj).trans (hl j hj))⟩
theorem OwnG.nt {H : AH} {v : Value} {cells : List Value} {F : List Nat} (h : OwnG H v cells F) : notTuple v = true ∧ v.cells = #[v] := by
  obtain ⟨a, c, rfl⟩ := h.shape
  exact ⟨rfl, rfl⟩
theorem OwnF.g {H : AH} {v : Value} {e : TypeId} {cells : List Value} {F : List Nat} (h : OwnF H v e 1 cells F) : OwnG H v cells F := by
  rcases h with ⟨rfl, rfl, rfl⟩ | ⟨j, len, rfl, h2, h3, rfl⟩
  · exact ⟨⟨none, 0, rfl⟩, by simp, fun G _ => rfl⟩
  · have hl : len = cells.length := by omega
    subst hl
    refine ⟨⟨_, _, rfl⟩, fun i hi => by simp at hi; subst hi; exact hget_lt h2, fun G hg => ?_⟩
    simp only [xcells]
    rw [hg j (by simp), h2]
    simp
/-- A journal: its disk, its records, its area, how many bytes of it. -/
structure JM where
  D : DM
  recs : List ByteArray
  area : Nat
  size : Nat
structure JrR (H : AH) (q d : Nat) (rv : Value) (FD FR : List Nat) (J : JM) : Prop where
  hq : hget H q = some ⟨[.pointer (some ⟨d, 0, none⟩), rv, .int .i64 (J.area : Nat), .int .i64 (J.size : Nat)], 72, none⟩
  hd : Dk H d FD J.D
  hr : OwnG H rv (J.recs.map .string) FR
  qd : q ∉ FD
  qr : q ∉ FR
  dr : ∀ j ∈ FD, j ∉ FR
def JM.half (J : JM) : Nat := (J.D.firm.length - 1) / 2
structure JM.Ok (J : JM) : Prop where
  area : J.area ≤ 1
  size : J.size ≤ J.half * 256
def Jr (H : AH) (q : Nat) (F : List Nat) (J : JM) : Prop := J.Ok ∧ ∃ d rv FD FR, F = q :: (FD ++ FR) ∧ JrR H q d rv FD FR J
theorem JrR.low {H H' : AH} {q d : Nat} {rv : Value} {FD FR : List Nat} {J : JM} (h : JrR H q d rv FD FR J) (hl : ∀ j ∈ q :: (FD ++ FR), hget H' j = hget H j) (hlen : H.length ≤ H'.length := by first | omega | (simp; done) | (simp; omega)) : JrR H' q d rv FD FR J :=
  ⟨(hl q (by simp)).trans h.hq, h.hd.low (fun j hj => hl j (by simp [hj])), h.hr.low (fun j hj => hl j (by simp [hj])) hlen, h.qd, h.qr, h.dr⟩
theorem Jr.low {H H' : AH} {q : Nat} {F : List Nat} {J : JM} (h : Jr H q F J) (hl : ∀ j ∈ F, hget H' j = hget H j) (hlen : H.length ≤ H'.length) : Jr H' q F J := by
  obtain ⟨h0, d, rv, FD, FR, rfl, h1⟩ := h
  exact ⟨h0, d, rv, FD, FR, rfl, h1.low hl hlen⟩
theorem Jr.lt {H : AH} {q : Nat} {F : List Nat} {J : JM} (h : Jr H q F J) : ∀ j ∈ F, j < H.length := by
  obtain ⟨h0, d, rv, FD, FR, rfl, h1⟩ := h
  intro j hj
  simp only [List.mem_cons, List.mem_append] at hj
  rcases hj with rfl | hj | hj
  · exact hget_lt h1.hq
  · exact h1.hd.lt j hj
  · exact h1.hr.lt j hj
attribute [local simp] wb_bool wb_undef XL_nil XL_cons XLc_val XLc_call step1_eq stepW_t stepW_f stepC_n stepC_s stepX_s stepX_n stepN_s calleeX oneV xop_eq xopR_s xopR_n wantedA_eq wantedG_n wantedG_s plain1_int plain1_bool plain1_string bits_i64 bits_u64 bits_u32 bits_u16 bits_u8 xeqA xagg xcmp xarr allK_iv num_iv calleeOf xread xeff xbin xint xnil xun xstr xload xconv xpart xfield xfieldAddr xindexAddr xindex bnd asInt? xslice xlen xmin xmax xbuild xfill xappend xapp2 xappstr xappmk xcap xcopy xcells eval_tmp eval_const put_at put_none fr0_at cells_agg cells_int cells_bool cells_string cells_ptr cells_slice notTuple tab iv_all hget_app hget_app0 hget_cons0 hget_cons set_app set_app0 setR setR_one QL_nil QL_cons QLc_val stepQ_t stepQ_f stepQC_n stepQC_s stepQX_s SL_nil SL_cons SLc_val stepS_t stepS_f ltT ltF leT leF eqT eqF ltTn ltFn leTn leFn eqTn eqFn beqT beqF bneT bneF wi64 wu64 wu32 wu16 wu8 tmodP tdivP hgetL hgetNe hgetEq setL nums_def nums_len Nat.succ_le_of_lt List.getElem?_cons_zero List.getElem?_cons_succ Option.getD_some Int.toNat_add Int.toNat_mul agB agI agS agP agL agA okB okI okS okP okSl okA
section
variable {nro : Nat} {γ : Nat → Option Nat} {H : AH} {q d : Nat} {rv : Value} {FD FR : List Nat} {J : JM}
theorem half_ac (h : JrR H q d rv FD FR J) : AC Tryd.prog nro γ 55 #[.pointer (some ⟨q, 0, none⟩)] H (fun v' H' => v' = .int .i64 (J.half : Nat) ∧ H' = H) := by
  have hq := h.hq
  have h1 := h.hd.1.one
  have h2 := h.hd.1.most
  have hlt : J.half ≤ 1024 := by unfold JM.half; omega
  have hh : ((J.D.firm.length : Nat) - 1 : Int).tdiv 2 = (J.half : Nat) := by
    unfold JM.half
    rw [Int.tdiv_eq_ediv_of_nonneg (by omega)]
    omega
  have hb := blocks_ac (nro := nro) (γ := γ) h.hd
  refine ac_of_aw Tryd.func55 rfl Tryd.ntmps55 Tryd.results55 (by simp) ?_
  refine aw_seq ?_
  (refine aw_ops (by kernel_rfl) (fun K hK => ?_); simp (disch := first | omega | (simp only [List.length_set, List.length_append, List.length_cons, List.length_nil, iv_length, zl_length]; try omega; done)) [-getElem?_pos, -getElem?_neg]; refine hK _ _ ?_; clear hK K)
  refine aw_seq ?_
  refine aw_ops (by kernel_rfl) (fun K hK => ?_)
  simp (disch := first | omega | (simp only [List.length_set, List.length_append, List.length_cons, List.length_nil, iv_length, zl_length]; try omega; done)) [-getElem?_pos, -getElem?_neg, hq]
  refine ⟨by kernel_rfl, AC.mono hb ?_⟩
  rintro _ G ⟨rfl, e⟩
  rw [e]
  clear e G
  simp (disch := first | omega | (simp only [List.length_set, List.length_append, List.length_cons, List.length_nil, iv_length, zl_length]; try omega; done)) [-getElem?_pos, -getElem?_neg, hh, -tdivP]
  refine hK _ _ ?_; clear hK K
  (refine aw_ret ?_; simp (disch := first | omega | (simp only [List.length_set, List.length_append, List.length_cons, List.length_nil, iv_length, zl_length]; try omega; done)) [-getElem?_pos, -getElem?_neg, thenQ_ret, scopeQ_ret, inBlockQ_ret, RQ, resL, resV])
theorem areaSize_ac (h : JrR H q d rv FD FR J) : AC Tryd.prog nro γ 34 #[.pointer (some ⟨q, 0, none⟩)] H (fun v' H' => v' = .int .i64 ((J.half * 256 : Nat) : Int) ∧ H' = H) := by
  have h2 := h.hd.1.most
  have hlt : J.half ≤ 1024 := by unfold JM.half; omega
  have hb := half_ac (nro := nro) (γ := γ) h
  refine ac_of_aw Tryd.func34 rfl Tryd.ntmps34 Tryd.results34 (by simp) ?_
  refine aw_seq ?_
  (refine aw_ops (by kernel_rfl) (fun K hK => ?_); simp (disch := first | omega | (simp only [List.length_set, List.length_append, List.length_cons, List.length_nil, iv_length, zl_length]; try omega; done)) [-getElem?_pos, -getElem?_neg]; refine hK _ _ ?_; clear hK K)
  refine aw_seq ?_
  refine aw_ops (by kernel_rfl) (fun K hK => ?_)
  simp (disch := first | omega | (simp only [List.length_set, List.length_append, List.length_cons, List.length_nil, iv_length, zl_length]; try omega; done)) [-getElem?_pos, -getElem?_neg]
  refine ⟨by kernel_rfl, AC.mono hb ?_⟩
  rintro _ G ⟨rfl, e⟩
  rw [e]
  clear e G
  simp (disch := first | omega | (simp only [List.length_set, List.length_append, List.length_cons, List.length_nil, iv_length, zl_length]; try omega; done)) [-getElem?_pos, -getElem?_neg]
  refine hK _ _ ?_; clear hK K
  (refine aw_ret ?_; simp (disch := first | omega | (simp only [List.length_set, List.length_append, List.length_cons, List.length_nil, iv_length, zl_length]; try omega; done)) [-getElem?_pos, -getElem?_neg, thenQ_ret, scopeQ_ret, inBlockQ_ret, RQ, resL, resV])
def JM.start (J : JM) (a : Nat) : Nat := 1 + a * J.half
theorem start_ac (h : JrR H q d rv FD FR J) (a : Nat) (ha : a ≤ 1) : AC Tryd.prog nro γ 59 #[.pointer (some ⟨q, 0, none⟩), .int .i64 (a : Nat)] H (fun v' H' => v' = .int .i64 (J.start a : Nat) ∧ H' = H) := by
  have h2 := h.hd.1.most
  have hlt : J.half ≤ 1024 := by unfold JM.half; omega
  have hb := half_ac (nro := nro) (γ := γ) h
  have hm : (a : Int) * (J.half : Int) = ((a * J.half : Nat) : Int) := by simp
  have hm2 : a * J.half ≤ 1024 := by
    have := Nat.mul_le_mul ha hlt
    omega
  have hs : J.start a = 1 + a * J.half := rfl
  generalize a * J.half = m at *
  refine ac_of_aw Tryd.func59 rfl Tryd.ntmps59 Tryd.results59 (by simp) ?_
  refine aw_seq ?_
  (refine aw_ops (by kernel_rfl) (fun K hK => ?_); simp (disch := first | omega | (simp only [List.length_set, List.length_append, List.length_cons, List.length_nil, iv_length, zl_length]; try omega; done)) [-getElem?_pos, -getElem?_neg]; refine hK _ _ ?_; clear hK K)
  refine aw_seq ?_
  refine aw_ops (by kernel_rfl) (fun K hK => ?_)
  simp (disch := first | omega | (simp only [List.length_set, List.length_append, List.length_cons, List.length_nil, iv_length, zl_length]; try omega; done)) [-getElem?_pos, -getElem?_neg]
  refine ⟨by kernel_rfl, AC.mono hb ?_⟩
  rintro _ G ⟨rfl, e⟩
  rw [e]
  clear e G
  simp (disch := first | omega | (simp only [List.length_set, List.length_append, List.length_cons, List.length_nil, iv_length, zl_length]; try omega; done)) [-getElem?_pos, -getElem?_neg, hm]
  refine hK _ _ ?_; clear hK K
  (refine aw_ret ?_; simp (disch := first | omega | (simp only [List.length_set, List.length_append, List.length_cons, List.length_nil, iv_length, zl_length]; try omega; done)) [-getElem?_pos, -getElem?_neg, thenQ_ret, scopeQ_ret, inBlockQ_ret, RQ, resL, resV])
end
theorem room_rc {γ : Nat → Option Nat} {H : AH} {q d : Nat} {rv : Value} {FD FR : List Nat} {J : JM} (h : JrR H q d rv FD FR J) (ho : J.Ok) : AC Tryd.prog H.length γ 16 #[.pointer (some ⟨q, 0, none⟩)] H (fun v' _ => v' = .int .i64 ((J.half * 256 : Nat) - (J.size : Nat) : Int)) := by
  have h2 := h.hd.1.most
  have hlt : J.half ≤ 1024 := by unfold JM.half; omega
  have hsz := ho.size
  have hq := h.hq
  have hql := hget_lt hq
  refine ac_of_aw Tryd.func16 rfl Tryd.ntmps16 Tryd.results16 (by simp) ?_
  refine aw_seq ?_
  (refine aw_ops (by kernel_rfl) (fun K hK => ?_); simp (disch := first | omega | (simp only [List.length_set, List.length_append, List.length_cons, List.length_nil, iv_length, zl_length]; try omega; done)) [-getElem?_pos, -getElem?_neg]; refine hK _ _ ?_; clear hK K)
  refine aw_seq ?_
  refine aw_seq ?_
  (refine aw_ops (by kernel_rfl) (fun K hK => ?_); simp (disch := first | omega | (simp only [List.length_set, List.length_append, List.length_cons, List.length_nil, iv_length, zl_length]; try omega; done)) [-getElem?_pos, -getElem?_neg]; refine hK _ _ ?_; clear hK K)
  refine aw_f (by (first | (simp [eval_tmp, put_at]; done) | (simp [eval_tmp, put_at]; omega))) (by kernel_rfl) ?_
  refine aw_skip ?_
  refine aw_seq ?_
  (refine aw_plan [] [] [0, 1, 2, 3, 4, 5, 6, 7] 8 0 (by kernel_rfl) (by kernel_rfl) (by kernel_rfl) (fun K hK => ?_)); simp only [sel, List.getElem?_cons_succ, List.getElem?_cons_zero, List.drop_succ_cons, List.drop_zero]; simp (disch := first | omega | (simp only [List.length_set, List.length_append, List.length_cons, List.length_nil, iv_length, zl_length]; try omega; done)) [-getElem?_pos, -getElem?_neg, hq, PL_nil, PL_cons, PLc_val, PLc_new, stepP_t, stepP_f, stepPC_n, stepPC_s, stepPX_s, stepPX_n, stepPA_t, stepPA_c, stepPA_l, stepPN_s, allocOp, reloc_sl, reloc_ptr, List.map_cons, List.map_nil, List.nil_append, List.append_assoc, List.cons_append, Nat.add_assoc]
  refine PLc_call (v := .int .i64 ((J.half * 256 : Nat) : Int)) (by kernel_rfl) (fun L hL => ?_) (by simp [pv_iv, pv_int, pv_bool, pv_string, pv_tup2, pv_tup3, iv_plain, p2_int, p2_bool, p2_string]) ?_
  · have hL2 := areaSize_ac (nro := (H ++ L).length) (γ := γ) (h.low (H' := H ++ L) (fun j hj => hget_left (Jr.lt (J := J) ⟨ho, d, rv, FD, FR, rfl, h⟩ j hj)))
    exact hL2.mono fun _ _ hh => hh.1
  try simp (disch := first | omega | (simp only [List.length_set, List.length_append, List.length_cons, List.length_nil, iv_length, zl_length]; try omega; done)) [-getElem?_pos, -getElem?_neg, hq, PL_nil, PL_cons, PLc_val, PLc_new, stepP_t, stepP_f, stepPC_n, stepPC_s, stepPX_s, stepPX_n, stepPA_t, stepPA_c, stepPA_l, stepPN_s, allocOp, reloc_sl, reloc_ptr, List.map_cons, List.map_nil, List.nil_append, List.append_assoc, List.cons_append, Nat.add_assoc]
  refine hK _ _ ?_; clear hK K
  (refine aw_ret ?_; simp (disch := first | omega | (simp only [List.length_set, List.length_append, List.length_cons, List.length_nil, iv_length, zl_length]; try omega; done)) [-getElem?_pos, -getElem?_neg, thenQ_ret, scopeQ_ret, inBlockQ_ret, RQ, resL, resV])
end

section
open Go Go.RowKit
set_option linter.unusedSimpArgs false
set_option linter.unusedVariables false
set_option maxRecDepth 100000
set_option maxHeartbeats 4000000

/-- So many blocks' bytes, from block s on. -/
def catK (L : List ByteArray) (s : Nat) : Nat → List Int
  | 0 => []
  | k + 1 => catK L s k ++ nums (L.getD (s + k) ⟨#[]⟩)
theorem catK_by (L : List ByteArray) (s : Nat) : ∀ k, By (catK L s k)
  | 0 => by intro x hx; cases hx
  | k + 1 => (catK_by L s k).app (nums_bd _)
theorem catK_len {L : List ByteArray} (hL : ∀ r ∈ L, r.size = 256) (s : Nat) : ∀ k, s + k ≤ L.length → (catK L s k).length = 256 * k
  | 0, _ => rfl
  | k + 1, h => by
    have h1 := catK_len hL s k (by omega)
    have h2 : (L.getD (s + k) ⟨#[]⟩).size = 256 := by
      rw [List.getD_eq_getElem?_getD, List.getElem?_eq_getElem (by omega)]
      exact hL _ (List.getElem_mem _)
    simp only [catK, List.length_append, nums_len, h1, h2]
    omega
theorem catK_take {L : List ByteArray} (hL : ∀ r ∈ L, r.size = 256) (s i k n : Nat) (h : s + (i + k) ≤ L.length) (hn : n ≤ 256 * i) : (catK L s (i + k)).take n = (catK L s i).take n := by
  induction k with
  | zero => rfl
  | succ k ih =>
    rw [← Nat.add_assoc]
    show (catK L s (i + k) ++ _).take n = _
    rw [List.take_append_of_le_length (by rw [catK_len hL s _ (by omega)]; omega)]
    exact ih (by omega)
def JM.bytes (J : JM) : List Int := (catK J.D.late (J.start J.area) J.half).take J.size
theorem JM.bytes_by (J : JM) : By J.bytes := (catK_by _ _ _).take _
theorem bl_new {H : AH} : Bl (H ++ [some ⟨[.pointer none, .slice none 0 0], 102, none⟩]) H.length (strOfNums []) [] :=
  ⟨.pointer none, .slice none 0 0, .inl rfl, by rw [hget_app0]; rfl, .inl ⟨rfl, rfl, rfl⟩, by simp, fun _ => rfl⟩
attribute [local irreducible] catK
attribute [local simp] wb_bool wb_undef XL_nil XL_cons XLc_val XLc_call step1_eq stepW_t stepW_f stepC_n stepC_s stepX_s stepX_n stepN_s calleeX oneV xop_eq xopR_s xopR_n wantedA_eq wantedG_n wantedG_s plain1_int plain1_bool plain1_string bits_i64 bits_u64 bits_u32 bits_u16 bits_u8 xeqA xagg xcmp xarr allK_iv num_iv calleeOf xread xeff xbin xint xnil xun xstr xload xconv xpart xfield xfieldAddr xindexAddr xindex bnd asInt? xslice xlen xmin xmax xbuild xfill xappend xapp2 xappstr xappmk xcap xcopy xcells eval_tmp eval_const put_at put_none fr0_at cells_agg cells_int cells_bool cells_string cells_ptr cells_slice notTuple tab iv_all hget_app hget_app0 hget_cons0 hget_cons set_app set_app0 setR setR_one QL_nil QL_cons QLc_val stepQ_t stepQ_f stepQC_n stepQC_s stepQX_s SL_nil SL_cons SLc_val stepS_t stepS_f ltT ltF leT leF eqT eqF ltTn ltFn leTn leFn eqTn eqFn beqT beqF bneT bneF wi64 wu64 wu32 wu16 wu8 tmodP tdivP hgetL hgetNe hgetEq setL nums_def nums_len Nat.succ_le_of_lt List.getElem?_cons_zero List.getElem?_cons_succ Option.getD_some Int.toNat_add Int.toNat_mul agB agI agS agP agL agA okB okI okS okP okSl okA
theorem bytes_rc {γ : Nat → Option Nat} {H : AH} {q d : Nat} {rv : Value} {FD FR : List Nat} {J : JM} (h : JrR H q d rv FD FR J) (ho : J.Ok) :
    AC Tryd.prog H.length γ 36 #[.pointer (some ⟨q, 0, none⟩)] H (fun v' _ => v' = .string (strOfNums J.bytes)) := by
  have h1 := h.hd.1.one
  have h2 := h.hd.1.most
  have hhf : 2 * J.half + 1 ≤ J.D.firm.length := by unfold JM.half; omega
  have hsz := ho.size
  have har := ho.area
  have hlate : ∀ r ∈ J.D.late, r.size = 256 := late_rows h.hd.1.rows (fun w hw => (h.hd.1.uns w hw).2)
  have hll : J.D.late.length = J.D.firm.length := late_len _ _
  have hst : J.start J.area + J.half ≤ J.D.firm.length := by
    unfold JM.start
    rcases Nat.le_one_iff_eq_zero_or_eq_one.1 har with e | e <;> rw [e] <;> omega
  have hfl : ∀ j ∈ q :: (FD ++ FR), j < H.length := Jr.lt (J := J) ⟨ho, d, rv, FD, FR, rfl, h⟩
  have hq := h.hq
  have hql := hget_lt hq
  refine ac_of_aw Tryd.func36 rfl Tryd.ntmps36 Tryd.results36 (by simp) ?_
  refine aw_seq ?_
  (refine aw_ops (by kernel_rfl) (fun K hK => ?_); simp (disch := first | omega | (simp only [List.length_set, List.length_append, List.length_cons, List.length_nil, iv_length, zl_length]; try omega; done)) [-getElem?_pos, -getElem?_neg]; refine hK _ _ ?_; clear hK K)
  refine aw_seq ?_
  (refine aw_ops (by kernel_rfl) (fun K hK => ?_); simp (disch := first | omega | (simp only [List.length_set, List.length_append, List.length_cons, List.length_nil, iv_length, zl_length]; try omega; done)) [-getElem?_pos, -getElem?_neg]; refine hK _ _ ?_; clear hK K)
  refine aw_seq ?_
  refine aw_seq ?_
  refine aw_ops (by kernel_rfl) (fun K hK => ?_)
  simp (disch := first | omega | (simp only [List.length_set, List.length_append, List.length_cons, List.length_nil, iv_length, zl_length]; try omega; done)) [-getElem?_pos, -getElem?_neg, hq]
  refine ⟨by kernel_rfl, AC.mono (start_ac (nro := H.length) (h.low (H' := H ++ [some ⟨[.pointer none, .slice none 0 0], 102, none⟩]) (fun j hj => hget_left (hfl j hj))) J.area har) ?_⟩
  rintro _ G ⟨rfl, e⟩
  rw [e]
  clear e G
  try simp (disch := first | omega | (simp only [List.length_set, List.length_append, List.length_cons, List.length_nil, iv_length, zl_length]; try omega; done)) [-getElem?_pos, -getElem?_neg]
  refine hK _ _ ?_; clear hK K
  refine aw_block ?_
  refine aw_loop (fun c α G => ∃ (i : Nat) (F : List Nat), i + c = J.half ∧ α 0 = .pointer (some ⟨q, 0, none⟩) ∧ α 3 = .pointer (some ⟨H.length, 0, none⟩) ∧ α 4 = .int .i64 ((J.start J.area + i : Nat) : Int) ∧
    Low H.length H G ∧ Bl G H.length (strOfNums (catK J.D.late (J.start J.area) i)) F ∧ ∀ j ∈ F, H.length ≤ j) J.half ?_ ?_
  · have : catK J.D.late (J.start J.area) 0 = [] := by unfold catK; rfl
    refine ⟨0, [], by omega, by (first | (simp [put_at, put_none, fr0_at]; done) | rfl), by (first | (simp [put_at, put_none, fr0_at]; done) | rfl), by (first | (simp [put_at, put_none, fr0_at]; done) | rfl), Low.push (Nat.le_refl _) _, ?_, by simp⟩
    rw [this]
    exact bl_new
  rintro c α G ⟨i, F, hi, h0, h3, h4, hlow, hbl, hF⟩
  have hG : JrR G q d rv FD FR J := h.low (fun j hj => hlow.1 j (hfl j hj)) hlow.2
  have hgq := hG.hq
  have hbs : (strOfNums (catK J.D.late (J.start J.area) i)).size = 256 * i := by rw [sn_size, catK_len hlate _ _ (by omega)]
  have hblt := hbl.lt
  have hgql := hget_lt hgq
  refine aw_seq ?_
  refine aw_seq ?_
  by_cases hlt : 256 * i < J.size
  · (refine aw_plan [] [] [0, 1, 2, 3, 4, 5] 6 0 (by kernel_rfl) (by kernel_rfl) (by kernel_rfl) (fun K hK => ?_)); simp only [sel, List.getElem?_cons_succ, List.getElem?_cons_zero, List.drop_succ_cons, List.drop_zero]; simp (disch := first | omega | (simp only [List.length_set, List.length_append, List.length_cons, List.length_nil, iv_length, zl_length]; try omega; done)) [-getElem?_pos, -getElem?_neg, hgq, h0, h3, hlt, PL_nil, PL_cons, PLc_val, PLc_new, stepP_t, stepP_f, stepPC_n, stepPC_s, stepPX_s, stepPX_n, stepPA_t, stepPA_c, stepPA_l, stepPN_s, allocOp, reloc_sl, reloc_ptr, List.map_cons, List.map_nil, List.nil_append, List.append_assoc, List.cons_append, Nat.add_assoc]
    refine PLc_call (v := .int .i64 ((256 * i : Nat) : Int)) (by kernel_rfl) (fun L hL => ?_) (by simp [pv_iv, pv_int, pv_bool, pv_string, pv_tup2, pv_tup3, iv_plain, p2_int, p2_bool, p2_string]) ?_
    · have := bl_len (nro := (G ++ L).length) (γ := γ) (hbl.low (H' := G ++ L) (hget_left hblt.1) (fun j hj => hget_left (hblt.2 j hj)))
      rw [hbs] at this
      exact this.mono fun _ _ hh => hh.1
    try simp (disch := first | omega | (simp only [List.length_set, List.length_append, List.length_cons, List.length_nil, iv_length, zl_length]; try omega; done)) [-getElem?_pos, -getElem?_neg, hgq, h0, h3, hlt, PL_nil, PL_cons, PLc_val, PLc_new, stepP_t, stepP_f, stepPC_n, stepPC_s, stepPX_s, stepPX_n, stepPA_t, stepPA_c, stepPA_l, stepPN_s, allocOp, reloc_sl, reloc_ptr, List.map_cons, List.map_nil, List.nil_append, List.append_assoc, List.cons_append, Nat.add_assoc]
    refine hK _ _ ?_; clear hK K
    refine aw_t (by (first | (simp [eval_tmp, put_at]; done) | (simp [eval_tmp, put_at]; omega))) (by kernel_rfl) ?_
    refine aw_skip ?_
    refine aw_seq ?_
    refine aw_block ?_
    have hat : hasB J.D.firm.length ((J.start J.area + i : Nat) : Int) = true := by simp [hasB]; omega
    have hat2 : hasB J.D.late.length ((J.start J.area + i : Nat) : Int) = true := by rw [hll]; exact hat
    have hrv : readV J.D.late ((J.start J.area + i : Nat) : Int) = J.D.late.getD (J.start J.area + i) ⟨#[]⟩ := by
      unfold readV
      rw [if_pos hat2]
      simp
    have hrs : (J.D.late.getD (J.start J.area + i) ⟨#[]⟩).size = 256 := by
      rw [List.getD_eq_getElem?_getD, List.getElem?_eq_getElem (by omega)]
      exact hlate _ (List.getElem_mem _)
    have hcat : catK J.D.late (J.start J.area) (i + 1) = catK J.D.late (J.start J.area) i ++ nums (J.D.late.getD (J.start J.area + i) ⟨#[]⟩) := by with_unfolding_all rfl
    generalize J.D.late.getD (J.start J.area + i) ⟨#[]⟩ = r at *
    refine aw_seq ?_
    refine aw_ops (by kernel_rfl) (fun K hK => ?_)
    simp (disch := first | omega | (simp only [List.length_set, List.length_append, List.length_cons, List.length_nil, iv_length, zl_length]; try omega; done)) [-getElem?_pos, -getElem?_neg, hgq, h0, h4]
    refine ⟨by kernel_rfl, AC.mono (read_ac (nro := H.length) hG.hd ((J.start J.area + i : Nat) : Int)) ?_⟩
    rintro _ G1 ⟨rfl, e⟩
    rw [e, hrv, if_pos hat]
    clear e G1
    try simp (disch := first | omega | (simp only [List.length_set, List.length_append, List.length_cons, List.length_nil, iv_length, zl_length]; try omega; done)) [-getElem?_pos, -getElem?_neg]
    refine hK _ _ ?_; clear hK K
    refine aw_ops (by kernel_rfl) (fun K hK => ?_)
    simp (disch := first | omega | (simp only [List.length_set, List.length_append, List.length_cons, List.length_nil, iv_length, zl_length]; try omega; done)) [-getElem?_pos, -getElem?_neg, h3]
    refine ⟨by kernel_rfl, AC.mono (bl_write (t := r) hbl (Nat.le_refl _) hF (by rw [hbs, hrs]; omega)) ?_⟩
    rintro _ G2 ⟨rfl, F2, b1, b2, b3, b4⟩
    try simp (disch := first | omega | (simp only [List.length_set, List.length_append, List.length_cons, List.length_nil, iv_length, zl_length]; try omega; done)) [-getElem?_pos, -getElem?_neg]
    refine hK _ _ ?_; clear hK K
    (refine aw_ops (by kernel_rfl) (fun K hK => ?_); simp (disch := first | omega | (simp only [List.length_set, List.length_append, List.length_cons, List.length_nil, iv_length, zl_length]; try omega; done)) [-getElem?_pos, -getElem?_neg, h4]; refine hK _ _ ?_; clear hK K)
    refine ⟨c - 1, by omega, i + 1, F2, by omega, by (first | (simp [put_at, put_none, fr0_at, h0]; done) | rfl), by (first | (simp [put_at, put_none, fr0_at, h3]; done) | rfl), by (first | (simp [put_at, put_none, fr0_at]; done) | rfl), ⟨fun j hj => ?_, by have := hlow.2; omega⟩, ?_, fun j hj => by have := b3 j hj; have := hlow.2; omega⟩
    · rw [b4 j (by have := hlow.2; omega) (by omega) (fun hm => by have := hF j hm; omega)]
      exact hlow.1 j hj
    · rw [hcat, ← sn_app, of_nums']
      exact b1
  · (refine aw_plan [] [] [0, 1, 2, 3, 4, 5] 6 0 (by kernel_rfl) (by kernel_rfl) (by kernel_rfl) (fun K hK => ?_)); simp only [sel, List.getElem?_cons_succ, List.getElem?_cons_zero, List.drop_succ_cons, List.drop_zero]; simp (disch := first | omega | (simp only [List.length_set, List.length_append, List.length_cons, List.length_nil, iv_length, zl_length]; try omega; done)) [-getElem?_pos, -getElem?_neg, hgq, h0, h3, hlt, PL_nil, PL_cons, PLc_val, PLc_new, stepP_t, stepP_f, stepPC_n, stepPC_s, stepPX_s, stepPX_n, stepPA_t, stepPA_c, stepPA_l, stepPN_s, allocOp, reloc_sl, reloc_ptr, List.map_cons, List.map_nil, List.nil_append, List.append_assoc, List.cons_append, Nat.add_assoc]
    refine PLc_call (v := .int .i64 ((256 * i : Nat) : Int)) (by kernel_rfl) (fun L hL => ?_) (by simp [pv_iv, pv_int, pv_bool, pv_string, pv_tup2, pv_tup3, iv_plain, p2_int, p2_bool, p2_string]) ?_
    · have := bl_len (nro := (G ++ L).length) (γ := γ) (hbl.low (H' := G ++ L) (hget_left hblt.1) (fun j hj => hget_left (hblt.2 j hj)))
      rw [hbs] at this
      exact this.mono fun _ _ hh => hh.1
    try simp (disch := first | omega | (simp only [List.length_set, List.length_append, List.length_cons, List.length_nil, iv_length, zl_length]; try omega; done)) [-getElem?_pos, -getElem?_neg, hgq, h0, h3, hlt, PL_nil, PL_cons, PLc_val, PLc_new, stepP_t, stepP_f, stepPC_n, stepPC_s, stepPX_s, stepPX_n, stepPA_t, stepPA_c, stepPA_l, stepPN_s, allocOp, reloc_sl, reloc_ptr, List.map_cons, List.map_nil, List.nil_append, List.append_assoc, List.cons_append, Nat.add_assoc]
    refine hK _ _ ?_; clear hK K
    refine aw_f (by (first | (simp [eval_tmp, put_at]; done) | (simp [eval_tmp, put_at]; omega))) (by kernel_rfl) ?_
    refine aw_exit ?_
    refine aw_seq ?_
    have hexn : (strOfNums (catK J.D.late (J.start J.area) i)).extract 0 J.size = strOfNums J.bytes := by
      rw [ex_take]
      congr 1
      unfold JM.bytes
      rw [← hi, catK_take hlate _ i c J.size (by omega) (by omega)]
    (refine aw_tree [[0, 1, 2, 3, 4, 5, 6], [1, 0, 2, 3, 4, 5, 6], [1, 2, 0, 3, 4, 5, 6], [1, 2, 3, 0, 4, 5, 6], [1, 2, 3, 4, 0, 5, 6]] (by kernel_rfl) (by kernel_rfl) (by kernel_rfl) (fun K hK => ?_)); simp (disch := first | omega | (simp only [List.length_set, List.length_append, List.length_cons, List.length_nil, iv_length, zl_length]; try omega; done)) [-getElem?_pos, -getElem?_neg, hgq, h0, h3, XO_s, XO_z, XLk_val, XLk_call, headsO, behind, List.length_cons, List.length_nil, List.mem_cons, List.not_mem_nil, or_false, forall_eq_or_imp, forall_eq, List.contains_cons, List.contains_nil]
    repeat' apply And.intro
    all_goals try kernel_rfl
    all_goals
      refine AC.mono (bl_string hbl (Nat.le_refl _) hF) ?_
      rintro _ G1 ⟨rfl, b1, b2⟩
      have hgq1 := (b2 q (fun hm => by have := hF q hm; omega)).trans hgq
      try simp (disch := first | omega | (simp only [List.length_set, List.length_append, List.length_cons, List.length_nil, iv_length, zl_length]; try omega; done)) [-getElem?_pos, -getElem?_neg, hgq1, hbs, hexn, XO_s, XO_z, XLk_val, XLk_call, headsO, behind, List.length_cons, List.length_nil, List.mem_cons, List.not_mem_nil, or_false, forall_eq_or_imp, forall_eq, List.contains_cons, List.contains_nil]
      refine hK _ _ ?_; clear hK K
      (refine aw_ret ?_; simp (disch := first | omega | (simp only [List.length_set, List.length_append, List.length_cons, List.length_nil, iv_length, zl_length]; try omega; done)) [-getElem?_pos, -getElem?_neg, thenQ_ret, scopeQ_ret, inBlockQ_ret, RQ, resL, resV])
end

section
open Go Go.RowKit
set_option linter.unusedSimpArgs false
set_option linter.unusedVariables false
set_option maxRecDepth 100000
set_option maxHeartbeats 4000000

/-- The first sector. -/
def firstL (D : DM) : List Int := (nums (D.late.getD 0 ⟨#[]⟩)).take 64
def openJ (D : DM) : Option JM × Int :=
  if D.firm.length < 3 then (none, 1)
  else if firstL D = zl 64 then (some ⟨D, [], 0, 0⟩, 0)
  else if isMark (firstL D) = false ∨ (D.firm.length - 1) / 2 * 256 < mSize (firstL D) then (none, 9)
  else match recsR (JM.bytes ⟨D, [], mArea (firstL D), mSize (firstL D)⟩).length (JM.bytes ⟨D, [], mArea (firstL D), mSize (firstL D)⟩) [] with
    | none => (none, 9)
    | some rs => (some ⟨D, rs, mArea (firstL D), mSize (firstL D)⟩, 0)
def OpenQ (H : AH) (d : Nat) (FD : List Nat) (o : Option JM × Int) (v' : Value) (H' : AH) : Prop :=
  Low H.length H H' ∧ match o with
    | (none, e) => v' = .tuple #[.pointer none, .int .i64 e]
    | (some J, e) => ∃ q rv FR, v' = .tuple #[.pointer (some ⟨q, 0, none⟩), .int .i64 e] ∧ JrR H' q d rv FD FR J ∧ J.Ok ∧ H.length ≤ q ∧ ∀ j ∈ FR, H.length ≤ j
attribute [local irreducible] markL
attribute [local simp] wb_bool wb_undef XL_nil XL_cons XLc_val XLc_call step1_eq stepW_t stepW_f stepC_n stepC_s stepX_s stepX_n stepN_s calleeX oneV xop_eq xopR_s xopR_n wantedA_eq wantedG_n wantedG_s plain1_int plain1_bool plain1_string bits_i64 bits_u64 bits_u32 bits_u16 bits_u8 xeqA xagg xcmp xarr allK_iv num_iv calleeOf xread xeff xbin xint xnil xun xstr xload xconv xpart xfield xfieldAddr xindexAddr xindex bnd asInt? xslice xlen xmin xmax xbuild xfill xappend xapp2 xappstr xappmk xcap xcopy xcells eval_tmp eval_const put_at put_none fr0_at cells_agg cells_int cells_bool cells_string cells_ptr cells_slice notTuple tab iv_all hget_app hget_app0 hget_cons0 hget_cons set_app set_app0 setR setR_one QL_nil QL_cons QLc_val stepQ_t stepQ_f stepQC_n stepQC_s stepQX_s SL_nil SL_cons SLc_val stepS_t stepS_f ltT ltF leT leF eqT eqF ltTn ltFn leTn leFn eqTn eqFn beqT beqF bneT bneF wi64 wu64 wu32 wu16 wu8 tmodP tdivP hgetL hgetNe hgetEq setL nums_def nums_len Nat.succ_le_of_lt List.getElem?_cons_zero List.getElem?_cons_succ Option.getD_some Int.toNat_add Int.toNat_mul agB agI agS agP agL agA okB okI okS okP okSl okA
theorem open_ac {nro : Nat} {H : AH} (hG : GG H) (hnl : nro ≤ H.length) {d : Nat} {FD : List Nat} {D : DM} (hd : Dk H d FD D) :
    AC Tryd.prog nro gm 13 #[.pointer (some ⟨d, 0, none⟩)] H (OpenQ H d FD (openJ D)) := by
  have h1 := hd.1.one
  have h2 := hd.1.most
  have hlate : ∀ r ∈ D.late, r.size = 256 := late_rows hd.1.rows (fun w hw => (hd.1.uns w hw).2)
  have hll : D.late.length = D.firm.length := late_len _ _
  have hopen : openJ D = openJ D := rfl
  generalize ho : openJ D = o at hopen ⊢
  unfold openJ at ho
  refine ac_of_aw Tryd.func13 rfl Tryd.ntmps13 Tryd.results13 (by simp) ?_
  refine aw_seq ?_
  (refine aw_ops (by kernel_rfl) (fun K hK => ?_); simp (disch := first | omega | (simp only [List.length_set, List.length_append, List.length_cons, List.length_nil, iv_length, zl_length]; try omega; done)) [-getElem?_pos, -getElem?_neg]; refine hK _ _ ?_; clear hK K)
  refine aw_seq ?_
  refine aw_seq ?_
  refine aw_ops (by kernel_rfl) (fun K hK => ?_)
  simp (disch := first | omega | (simp only [List.length_set, List.length_append, List.length_cons, List.length_nil, iv_length, zl_length]; try omega; done)) [-getElem?_pos, -getElem?_neg]
  refine ⟨by kernel_rfl, AC.mono (blocks_ac (nro := nro) hd) ?_⟩
  rintro _ G ⟨rfl, e⟩
  rw [e]
  clear e G
  by_cases hs3 : D.firm.length < 3
  · simp (disch := first | omega | (simp only [List.length_set, List.length_append, List.length_cons, List.length_nil, iv_length, zl_length]; try omega; done)) [-getElem?_pos, -getElem?_neg, hs3]
    refine hK _ _ ?_; clear hK K
    refine aw_t (by (first | (simp [eval_tmp, put_at]; done) | (simp [eval_tmp, put_at]; omega))) (by kernel_rfl) ?_
    rw [if_pos hs3] at ho
    refine aw_seq ?_
    (refine aw_ops (by kernel_rfl) (fun K hK => ?_); simp (disch := first | omega | (simp only [List.length_set, List.length_append, List.length_cons, List.length_nil, iv_length, zl_length]; try omega; done)) [-getElem?_pos, -getElem?_neg]; refine hK _ _ ?_; clear hK K)
    (refine aw_ret ?_; simp (disch := first | omega | (simp only [List.length_set, List.length_append, List.length_cons, List.length_nil, iv_length, zl_length]; try omega; done)) [-getElem?_pos, -getElem?_neg, thenQ_ret, scopeQ_ret, inBlockQ_ret, RQ, resL, resV])
    subst ho
    exact ⟨Low.refl (Nat.le_refl _), rfl⟩
  rw [if_neg hs3] at ho
  simp (disch := first | omega | (simp only [List.length_set, List.length_append, List.length_cons, List.length_nil, iv_length, zl_length]; try omega; done)) [-getElem?_pos, -getElem?_neg, hs3]
  refine hK _ _ ?_; clear hK K
  refine aw_f (by (first | (simp [eval_tmp, put_at]; done) | (simp [eval_tmp, put_at]; omega))) (by kernel_rfl) ?_
  refine aw_skip ?_
  refine aw_seq ?_
  (refine aw_ops (by kernel_rfl) (fun K hK => ?_); simp (disch := first | omega | (simp only [List.length_set, List.length_append, List.length_cons, List.length_nil, iv_length, zl_length]; try omega; done)) [-getElem?_pos, -getElem?_neg]; refine hK _ _ ?_; clear hK K)
  have hdl : ∀ j ∈ FD, j < H.length := hd.lt
  have hrd := read_ac (nro := nro) (γ := gm) (hd.low (H' := H ++ [some ⟨[.pointer (some ⟨d, 0, none⟩), .slice none 0 0, .int .i64 0, .int .i64 0], 72, none⟩]) (fun j hj => hget_left (hdl j hj))) 0
  have hat : hasB D.firm.length 0 = true := by simp [hasB]; omega
  have hrv : readV D.late 0 = D.late.getD 0 ⟨#[]⟩ := by
    unfold readV
    rw [if_pos (by rw [hll]; exact hat)]
    simp
  have hrs : (D.late.getD 0 ⟨#[]⟩).size = 256 := by
    rw [List.getD_eq_getElem?_getD, List.getElem?_eq_getElem (by omega)]
    exact hlate _ (List.getElem_mem _)
  have hF : firstL D = (nums (D.late.getD 0 ⟨#[]⟩)).take 64 := rfl
  rw [hrv, if_pos hat] at hrd
  generalize D.late.getD 0 ⟨#[]⟩ = r at *
  have hx : r.extract 0 64 = strOfNums (firstL D) := by rw [hF, ← ex_take, of_nums']
  have hFl : (firstL D).length = 64 := by rw [hF, List.length_take, nums_len, hrs]; rfl
  have hFb : By (firstL D) := by
    rw [hF]
    exact By.take (fun x hx => nums_bd r x hx) 64
  clear hF
  generalize firstL D = F at *
  refine aw_seq ?_
  refine aw_ops (by kernel_rfl) (fun K hK => ?_)
  simp (disch := first | omega | (simp only [List.length_set, List.length_append, List.length_cons, List.length_nil, iv_length, zl_length]; try omega; done)) [-getElem?_pos, -getElem?_neg]
  refine ⟨by kernel_rfl, AC.mono hrd ?_⟩
  rintro _ G ⟨rfl, e⟩
  rw [e]
  clear e G
  try simp (disch := first | omega | (simp only [List.length_set, List.length_append, List.length_cons, List.length_nil, iv_length, zl_length]; try omega; done)) [-getElem?_pos, -getElem?_neg]
  refine hK _ _ ?_; clear hK K
  refine aw_seq ?_
  (refine aw_ops (by kernel_rfl) (fun K hK => ?_); simp (disch := first | omega | (simp only [List.length_set, List.length_append, List.length_cons, List.length_nil, iv_length, zl_length]; try omega; done)) [-getElem?_pos, -getElem?_neg, hrs, hx]; refine hK _ _ ?_; clear hK K)
  refine aw_seq ?_
  refine aw_seq ?_
  refine aw_ops (by kernel_rfl) (fun K hK => ?_)
  simp (disch := first | omega | (simp only [List.length_set, List.length_append, List.length_cons, List.length_nil, iv_length, zl_length]; try omega; done)) [-getElem?_pos, -getElem?_neg]
  refine ⟨by kernel_rfl, ac_of_vc (by simp [pv_iv, pv_int, pv_bool, pv_string, pv_tup2, pv_tup3, iv_plain, p2_int, p2_bool, p2_string]) (zeros_vc 64 (by omega)) ?_⟩
  have he := sn_eq hFb (zl_by 64)
  have hJ0 : JrR (H ++ [some ⟨[.pointer (some ⟨d, 0, none⟩), .slice none 0 0, .int .i64 0, .int .i64 0], 72, none⟩]) H.length d (.slice none 0 0) FD [] ⟨D, [], 0, 0⟩ :=
    ⟨by rw [hget_app0]; rfl, hd.low (fun j hj => hget_left (hdl j hj)), OwnF.g (e := 9) (.inl ⟨rfl, rfl, rfl⟩), fun hm => by have := hdl _ hm; omega, by simp, by simp⟩
  by_cases hz : F = zl 64
  · rw [if_pos hz] at ho
    have hb : ((strOfNums F).toList == (strOfNums (zl 64)).toList) = true := by rw [hz]; simp
    simp (disch := first | omega | (simp only [List.length_set, List.length_append, List.length_cons, List.length_nil, iv_length, zl_length]; try omega; done)) [-getElem?_pos, -getElem?_neg, he, hz]
    refine hK _ _ ?_; clear hK K
    refine aw_t (by (first | (simp [eval_tmp, put_at]; done) | (simp [eval_tmp, put_at]; omega))) (by kernel_rfl) ?_
    refine aw_seq ?_
    (refine aw_ops (by kernel_rfl) (fun K hK => ?_); simp (disch := first | omega | (simp only [List.length_set, List.length_append, List.length_cons, List.length_nil, iv_length, zl_length]; try omega; done)) [-getElem?_pos, -getElem?_neg]; refine hK _ _ ?_; clear hK K)
    (refine aw_ret ?_; simp (disch := first | omega | (simp only [List.length_set, List.length_append, List.length_cons, List.length_nil, iv_length, zl_length]; try omega; done)) [-getElem?_pos, -getElem?_neg, thenQ_ret, scopeQ_ret, inBlockQ_ret, RQ, resL, resV])
    subst ho
    exact ⟨Low.push (Nat.le_refl _) _, H.length, .slice none 0 0, [], rfl, hJ0, ⟨by simp, by simp⟩, Nat.le_refl _, by simp⟩
  rw [if_neg hz] at ho
  have hb : ((strOfNums F).toList == (strOfNums (zl 64)).toList) = false := by
    rw [beq_eq_false_iff_ne]
    exact fun h => hz (he.1 h)
  simp (disch := first | omega | (simp only [List.length_set, List.length_append, List.length_cons, List.length_nil, iv_length, zl_length]; try omega; done)) [-getElem?_pos, -getElem?_neg, he, hz, hb]
  refine hK _ _ ?_; clear hK K
  refine aw_f (by (first | (simp [eval_tmp, put_at]; done) | (simp [eval_tmp, put_at]; omega))) (by kernel_rfl) ?_
  refine aw_skip ?_
  refine aw_seq ?_
  have hmk := readMark_rc (hG.app [some ⟨[.pointer (some ⟨d, 0, none⟩), .slice none 0 0, .int .i64 0, .int .i64 0], 72, none⟩]) F hFl hFb
  have hm2 : isMark F = true → mArea F < 2 := fun h => by
    unfold isMark at h
    simp only [Bool.and_eq_true, decide_eq_true_eq] at h
    exact h.1
  generalize isMark F = M at *
  generalize mArea F = A at *
  generalize mSize F = S at *
  refine aw_ops (by kernel_rfl) (fun K hK => ?_)
  simp (disch := first | omega | (simp only [List.length_set, List.length_append, List.length_cons, List.length_nil, iv_length, zl_length]; try omega; done)) [-getElem?_pos, -getElem?_neg]
  refine ⟨by kernel_rfl, ac_of_rc hmk (by simp [pv_iv, pv_int, pv_bool, pv_string, pv_tup2, pv_tup3, iv_plain, p2_int, p2_bool, p2_string]) ?_⟩
  simp (disch := first | omega | (simp only [List.length_set, List.length_append, List.length_cons, List.length_nil, iv_length, zl_length]; try omega; done)) [-getElem?_pos, -getElem?_neg]
  refine hK _ _ ?_; clear hK K
  refine aw_seq ?_
  refine aw_seq ?_
  cases M with
  | false =>
    rw [if_pos (.inl rfl)] at ho
    (refine aw_ops (by kernel_rfl) (fun K hK => ?_); simp (disch := first | omega | (simp only [List.length_set, List.length_append, List.length_cons, List.length_nil, iv_length, zl_length]; try omega; done)) [-getElem?_pos, -getElem?_neg]; refine hK _ _ ?_; clear hK K)
    refine aw_t (by (first | (simp [eval_tmp, put_at]; done) | (simp [eval_tmp, put_at]; omega))) (by kernel_rfl) ?_
    refine aw_seq ?_
    (refine aw_ops (by kernel_rfl) (fun K hK => ?_); simp (disch := first | omega | (simp only [List.length_set, List.length_append, List.length_cons, List.length_nil, iv_length, zl_length]; try omega; done)) [-getElem?_pos, -getElem?_neg]; refine hK _ _ ?_; clear hK K)
    (refine aw_ret ?_; simp (disch := first | omega | (simp only [List.length_set, List.length_append, List.length_cons, List.length_nil, iv_length, zl_length]; try omega; done)) [-getElem?_pos, -getElem?_neg, thenQ_ret, scopeQ_ret, inBlockQ_ret, RQ, resL, resV])
    subst ho
    exact ⟨Low.push (Nat.le_refl _) _, rfl⟩
  | true =>
    have hA := hm2 rfl
    have has := areaSize_ac (nro := nro) (γ := gm) hJ0
    have hJh : (JM.half ⟨D, [], 0, 0⟩) = (D.firm.length - 1) / 2 := rfl
    rw [hJh] at has
    have hhb : (D.firm.length - 1) / 2 ≤ 512 := by omega
    generalize hHf : (D.firm.length - 1) / 2 = Hf at *
    refine aw_ops (by kernel_rfl) (fun K hK => ?_)
    simp (disch := first | omega | (simp only [List.length_set, List.length_append, List.length_cons, List.length_nil, iv_length, zl_length]; try omega; done)) [-getElem?_pos, -getElem?_neg]
    refine ⟨by kernel_rfl, AC.mono has ?_⟩
    rintro _ G ⟨rfl, e⟩
    rw [e]
    clear e G
    by_cases hS : Hf * 256 < S
    · rw [if_pos (.inr hS)] at ho
      have hS2 : ((Hf * 256 : Nat) : Int) < (S : Nat) := by omega
      simp only [Int.natCast_mul] at hS2
      simp (disch := first | omega | (simp only [List.length_set, List.length_append, List.length_cons, List.length_nil, iv_length, zl_length]; try omega; done)) [-getElem?_pos, -getElem?_neg, hS, hS2]
      refine hK _ _ ?_; clear hK K
      refine aw_t (by (first | (simp [eval_tmp, put_at]; done) | (simp [eval_tmp, put_at]; omega))) (by kernel_rfl) ?_
      refine aw_seq ?_
      (refine aw_ops (by kernel_rfl) (fun K hK => ?_); simp (disch := first | omega | (simp only [List.length_set, List.length_append, List.length_cons, List.length_nil, iv_length, zl_length]; try omega; done)) [-getElem?_pos, -getElem?_neg]; refine hK _ _ ?_; clear hK K)
      (refine aw_ret ?_; simp (disch := first | omega | (simp only [List.length_set, List.length_append, List.length_cons, List.length_nil, iv_length, zl_length]; try omega; done)) [-getElem?_pos, -getElem?_neg, thenQ_ret, scopeQ_ret, inBlockQ_ret, RQ, resL, resV])
      subst ho
      exact ⟨Low.push (Nat.le_refl _) _, rfl⟩
    rw [if_neg (by simp; omega)] at ho
    have hS2 : ¬ ((Hf * 256 : Nat) : Int) < (S : Nat) := by omega
    simp only [Int.natCast_mul] at hS2
    simp (disch := first | omega | (simp only [List.length_set, List.length_append, List.length_cons, List.length_nil, iv_length, zl_length]; try omega; done)) [-getElem?_pos, -getElem?_neg, hS, hS2]
    refine hK _ _ ?_; clear hK K
    refine aw_f (by (first | (simp [eval_tmp, put_at]; done) | (simp [eval_tmp, put_at]; omega))) (by kernel_rfl) ?_
    refine aw_skip ?_
    refine aw_seq ?_
    (refine aw_ops (by kernel_rfl) (fun K hK => ?_); simp (disch := first | omega | (simp only [List.length_set, List.length_append, List.length_cons, List.length_nil, iv_length, zl_length]; try omega; done)) [-getElem?_pos, -getElem?_neg]; refine hK _ _ ?_; clear hK K)
    have hok : (JM.mk D [] A S).Ok := ⟨by show A ≤ 1; omega, by show S ≤ JM.half ⟨D, [], A, S⟩ * 256; unfold JM.half; show S ≤ (D.firm.length - 1) / 2 * 256; omega⟩
    have hJ1 : JrR (H ++ [some ⟨[.pointer (some ⟨d, 0, none⟩), .slice none 0 0, .int .i64 (A : Nat), .int .i64 (S : Nat)], 72, none⟩]) H.length d (.slice none 0 0) FD [] ⟨D, [], A, S⟩ :=
      ⟨by rw [hget_app0]; rfl, hd.low (fun j hj => hget_left (hdl j hj)), OwnF.g (e := 9) (.inl ⟨rfl, rfl, rfl⟩), fun hm => by have := hdl _ hm; omega, by simp, by simp⟩
    have hby := bytes_rc (γ := gm) hJ1 hok
    have hbl : (JM.bytes ⟨D, [], A, S⟩).length ≤ S := by
      unfold JM.bytes
      rw [List.length_take]
      exact Nat.min_le_left _ _
    have hbb := JM.bytes_by ⟨D, [], A, S⟩
    generalize JM.bytes ⟨D, [], A, S⟩ = B at *
    obtain ⟨H1, hH1⟩ : ∃ H1, H1 = H ++ [some ⟨[.pointer (some ⟨d, 0, none⟩), .slice none 0 0, .int .i64 (A : Nat), .int .i64 (S : Nat)], 72, none⟩] := ⟨_, rfl⟩
    have hH1l : H1.length = H.length + 1 := by rw [hH1]; simp
    have hlow1 : Low H.length H H1 := by rw [hH1]; exact Low.push (Nat.le_refl _) _
    rw [← hH1] at hJ1 hby
    refine aw_seq ?_
    refine aw_seq ?_
    refine aw_ops (by kernel_rfl) (fun K hK => ?_)
    simp (disch := first | omega | (simp only [List.length_set, List.length_append, List.length_cons, List.length_nil, iv_length, zl_length]; try omega; done)) [-getElem?_pos, -getElem?_neg]
    rw [← hH1]
    refine ⟨by kernel_rfl, ac_of_rc hby (by simp [pv_iv, pv_int, pv_bool, pv_string, pv_tup2, pv_tup3, iv_plain, p2_int, p2_bool, p2_string]) ?_⟩
    try simp (disch := first | omega | (simp only [List.length_set, List.length_append, List.length_cons, List.length_nil, iv_length, zl_length]; try omega; done)) [-getElem?_pos, -getElem?_neg]
    refine ⟨by kernel_rfl, AC.mono (readRecs_ac (nro := nro) (by omega) B hbb (by omega)) ?_⟩
    rintro v1 G ⟨hlow2, hres⟩
    have hgJ := (hlow2.1 H.length (by omega)).trans hJ1.hq
    have hgl := hlow2.2
    have hlow3 : Low H.length H G := ⟨fun j hj => (hlow2.1 j (by omega)).trans (hlow1.1 j hj), by omega⟩
    rcases hres with ⟨hnone, rfl⟩ | ⟨rs, rv, FR, hsome, rfl, hown, hfr⟩
    · rw [hnone] at ho
      simp (disch := first | omega | (simp only [List.length_set, List.length_append, List.length_cons, List.length_nil, iv_length, zl_length]; try omega; done)) [-getElem?_pos, -getElem?_neg, hgJ]
      refine hK _ _ ?_; clear hK K
      refine aw_seq ?_
      (refine aw_ops (by kernel_rfl) (fun K hK => ?_); simp (disch := first | omega | (simp only [List.length_set, List.length_append, List.length_cons, List.length_nil, iv_length, zl_length]; try omega; done)) [-getElem?_pos, -getElem?_neg]; refine hK _ _ ?_; clear hK K)
      refine aw_t (by (first | (simp [eval_tmp, put_at]; done) | (simp [eval_tmp, put_at]; omega))) (by kernel_rfl) ?_
      refine aw_seq ?_
      (refine aw_ops (by kernel_rfl) (fun K hK => ?_); simp (disch := first | omega | (simp only [List.length_set, List.length_append, List.length_cons, List.length_nil, iv_length, zl_length]; try omega; done)) [-getElem?_pos, -getElem?_neg]; refine hK _ _ ?_; clear hK K)
      (refine aw_ret ?_; simp (disch := first | omega | (simp only [List.length_set, List.length_append, List.length_cons, List.length_nil, iv_length, zl_length]; try omega; done)) [-getElem?_pos, -getElem?_neg, thenQ_ret, scopeQ_ret, inBlockQ_ret, RQ, resL, resV])
      subst ho
      exact ⟨⟨fun j hj => by rw [hget_set_ne (by omega)]; exact hlow3.1 j hj, by simp; omega⟩, rfl⟩
    · rw [hsome] at ho
      have hsh := ownF_shape hown
      simp (disch := first | omega | (simp only [List.length_set, List.length_append, List.length_cons, List.length_nil, iv_length, zl_length]; try omega; done)) [-getElem?_pos, -getElem?_neg, hgJ, -notTuple, nt_strJ, hsh.1, hsh.2]
      refine hK _ _ ?_; clear hK K
      refine aw_seq ?_
      (refine aw_ops (by kernel_rfl) (fun K hK => ?_); simp (disch := first | omega | (simp only [List.length_set, List.length_append, List.length_cons, List.length_nil, iv_length, zl_length]; try omega; done)) [-getElem?_pos, -getElem?_neg]; refine hK _ _ ?_; clear hK K)
      refine aw_f (by (first | (simp [eval_tmp, put_at]; done) | (simp [eval_tmp, put_at]; omega))) (by kernel_rfl) ?_
      refine aw_skip ?_
      refine aw_seq ?_
      (refine aw_ops (by kernel_rfl) (fun K hK => ?_); simp (disch := first | omega | (simp only [List.length_set, List.length_append, List.length_cons, List.length_nil, iv_length, zl_length]; try omega; done)) [-getElem?_pos, -getElem?_neg]; refine hK _ _ ?_; clear hK K)
      (refine aw_ret ?_; simp (disch := first | omega | (simp only [List.length_set, List.length_append, List.length_cons, List.length_nil, iv_length, zl_length]; try omega; done)) [-getElem?_pos, -getElem?_neg, thenQ_ret, scopeQ_ret, inBlockQ_ret, RQ, resL, resV])
      subst ho
      refine ⟨⟨fun j hj => by rw [hget_set_ne (by omega)]; exact hlow3.1 j hj, by simp; omega⟩, H.length, rv, FR, rfl, ⟨hget_set_eq (by omega), ?_, ?_, fun hm => by have := hdl _ hm; omega, fun hm => by have := hfr _ hm; omega, fun j hj hm => by have := hdl _ hj; have := hfr _ hm; omega⟩, ⟨hok.area, hok.size⟩, Nat.le_refl _, fun j hj => by have := hfr j hj; omega⟩
      · exact hd.low (fun j hj => by rw [hget_set_ne (by have := hdl j hj; omega)]; exact hlow3.1 j (hdl j hj))
      · exact (hown.low (fun j hj => hget_set_ne (by have := hfr j hj; omega))).g
end

section
open Go Go.RowKit
set_option linter.unusedSimpArgs false
set_option linter.unusedVariables false
set_option maxRecDepth 100000
set_option maxHeartbeats 4000000

def pgV (p : Nat × List Int) : List Value := [.int .i64 (p.1 : Nat), .string (strOfNums p.2)]
def pgC (ps : List (Nat × List Int)) : List Value := ps.flatMap pgV
theorem pgC_len (ps : List (Nat × List Int)) : (pgC ps).length = ps.length * 2 := by
  induction ps with
  | nil => rfl
  | cons p ps ih =>
    simp only [pgC, List.flatMap_cons, List.length_append, List.length_cons] at ih ⊢
    rw [ih]
    simp [pgV]
    omega
/-- So many pages of bytes, from block s on. -/
def pgL (s : Nat) (l : List Int) : Nat → List (Nat × List Int)
  | 0 => []
  | k + 1 => pgL s l k ++ [(s + k, fillB ((l.drop (256 * k)).take 256))]
theorem pgL_len (s : Nat) (l : List Int) : ∀ k, (pgL s l k).length = k
  | 0 => rfl
  | k + 1 => by simp [pgL, pgL_len s l k]
def JM.pageAt (J : JM) (a b : Nat) : Nat := J.start a + b / 256
def JM.pageB (J : JM) (a b : Nat) (xs : List Int) : List Int := if b % 256 = 0 then xs else (nums (J.D.late.getD (J.pageAt a b) ⟨#[]⟩)).take (b % 256) ++ xs
def JM.pages (J : JM) (a b : Nat) (xs : List Int) : List (Nat × List Int) := pgL (J.pageAt a b) (J.pageB a b xs) (((J.pageB a b xs).length + 255) / 256)
attribute [local irreducible] pgL
theorem nt_intJ (k : IntKind) (x : Int) : notTuple (.int k x) = true := rfl
theorem nt_aggJ (a : Array Value) : notTuple (.agg a) = true := rfl
attribute [local simp] wb_bool wb_undef XL_nil XL_cons XLc_val XLc_call step1_eq stepW_t stepW_f stepC_n stepC_s stepX_s stepX_n stepN_s calleeX oneV xop_eq xopR_s xopR_n wantedA_eq wantedG_n wantedG_s plain1_int plain1_bool plain1_string bits_i64 bits_u64 bits_u32 bits_u16 bits_u8 xeqA xagg xcmp xarr allK_iv num_iv calleeOf xread xeff xbin xint xnil xun xstr xload xconv xpart xfield xfieldAddr xindexAddr xindex bnd asInt? xslice xlen xmin xmax xbuild xfill xappend xapp2 xappstr xappmk xcap xcopy xcells eval_tmp eval_const put_at put_none fr0_at cells_agg cells_int cells_bool cells_string cells_ptr cells_slice notTuple tab iv_all hget_app hget_app0 hget_cons0 hget_cons set_app set_app0 setR setR_one QL_nil QL_cons QLc_val stepQ_t stepQ_f stepQC_n stepQC_s stepQX_s SL_nil SL_cons SLc_val stepS_t stepS_f ltT ltF leT leF eqT eqF ltTn ltFn leTn leFn eqTn eqFn beqT beqF bneT bneF wi64 wu64 wu32 wu16 wu8 tmodP tdivP hgetL hgetNe hgetEq setL nums_def nums_len Nat.succ_le_of_lt List.getElem?_cons_zero List.getElem?_cons_succ Option.getD_some Int.toNat_add Int.toNat_mul agB agI agS agP agL agA okB okI okS okP okSl okA
theorem pages_ac {nro : Nat} {γ : Nat → Option Nat} {H : AH} (hnl : nro ≤ H.length) {q d : Nat} {rv : Value} {FD FR : List Nat} {J : JM} (h : JrR H q d rv FD FR J) (a b : Nat) (ha : a ≤ 1) (xs : List Int) (hxb : By xs) (hxl : b + xs.length ≤ J.half * 256) :
    AC Tryd.prog nro γ 70 #[.pointer (some ⟨q, 0, none⟩), .int .i64 (a : Nat), .int .i64 (b : Nat), .string (strOfNums xs)] H
      (fun v' H' => Low H.length H H' ∧ ∃ F, OwnF H' v' 115 2 (pgC (J.pages a b xs)) F ∧ ∀ j ∈ F, H.length ≤ j) := by
  have h1 := h.hd.1.one
  have h2 := h.hd.1.most
  have hhf : 2 * J.half + 1 ≤ J.D.firm.length := by unfold JM.half; omega
  have hlate : ∀ r ∈ J.D.late, r.size = 256 := late_rows h.hd.1.rows (fun w hw => (h.hd.1.uns w hw).2)
  have hll : J.D.late.length = J.D.firm.length := late_len _ _
  have hst : J.start a + J.half ≤ J.D.firm.length := by
    unfold JM.start
    rcases Nat.le_one_iff_eq_zero_or_eq_one.1 ha with e | e <;> rw [e] <;> omega
  have hq := h.hq
  have hpa : J.pageAt a b = J.start a + b / 256 := rfl
  have hpb : J.pageB a b xs = if b % 256 = 0 then xs else (nums (J.D.late.getD (J.pageAt a b) ⟨#[]⟩)).take (b % 256) ++ xs := rfl
  have hpg : J.pages a b xs = pgL (J.pageAt a b) (J.pageB a b xs) (((J.pageB a b xs).length + 255) / 256) := rfl
  have hq2 : ((b : Nat) : Int).tdiv 256 = ((b / 256 : Nat) : Int) := by rw [Int.tdiv_eq_ediv_of_nonneg (by omega)]; omega
  have hm2 : ((b : Nat) : Int).tmod 256 = ((b % 256 : Nat) : Int) := by rw [Int.tmod_eq_emod_of_nonneg (by omega)]; omega
  refine ac_of_aw Tryd.func70 rfl Tryd.ntmps70 Tryd.results70 (by simp) ?_
  refine aw_seq ?_
  (refine aw_ops (by kernel_rfl) (fun K hK => ?_); simp (disch := first | omega | (simp only [List.length_set, List.length_append, List.length_cons, List.length_nil, iv_length, zl_length]; try omega; done)) [-getElem?_pos, -getElem?_neg]; refine hK _ _ ?_; clear hK K)
  refine aw_seq ?_
  refine aw_ops (by kernel_rfl) (fun K hK => ?_)
  simp (disch := first | omega | (simp only [List.length_set, List.length_append, List.length_cons, List.length_nil, iv_length, zl_length]; try omega; done)) [-getElem?_pos, -getElem?_neg]
  refine ⟨by kernel_rfl, AC.mono (start_ac (nro := nro) h a ha) ?_⟩
  rintro _ G ⟨rfl, e⟩
  rw [e]
  clear e G
  simp (disch := first | omega | (simp only [List.length_set, List.length_append, List.length_cons, List.length_nil, iv_length, zl_length]; try omega; done)) [-getElem?_pos, -getElem?_neg]
  refine hK _ _ ?_; clear hK K
  refine aw_seq ?_
  have hYb : By (J.pageB a b xs) := by
    rw [hpb]
    split
    · exact hxb
    · exact (By.take (fun x hx => nums_bd _ x hx) _).app hxb
  have hYl : (J.pageB a b xs).length ≤ 200000 := by
    have : J.half ≤ 512 := by unfold JM.half; omega
    rw [hpb]
    split
    · omega
    · rw [List.length_append, List.length_take]; omega
  rw [hpg]
  generalize hY : J.pageB a b xs = Y at *
  generalize hPa : J.pageAt a b = A at *
  refine aw_cut (fun α G => G = H ∧ α 0 = .pointer (some ⟨q, 0, none⟩) ∧ α 9 = .int .i64 (A : Nat) ∧ α 3 = .string (strOfNums Y)) ?_ ?_
  · refine aw_seq ?_
    by_cases hin : b % 256 = 0
    · rw [if_pos hin] at hpb
      have hin2 : ¬ 0 < b % 256 := by omega
      (refine aw_ops (by kernel_rfl) (fun K hK => ?_); simp (disch := first | omega | (simp only [List.length_set, List.length_append, List.length_cons, List.length_nil, iv_length, zl_length]; try omega; done)) [-getElem?_pos, -getElem?_neg, hm2, hq2, hin2]; refine hK _ _ ?_; clear hK K)
      refine aw_f (by (first | (simp [eval_tmp, put_at]; done) | (simp [eval_tmp, put_at]; omega))) (by kernel_rfl) ?_
      refine aw_skip ?_
      exact ⟨rfl, by (first | (simp [put_at, put_none, fr0_at]; done) | rfl), by (first | (simp [put_at, put_none, fr0_at, hpa]; done) | rfl), by (first | (simp [put_at, put_none, fr0_at, hpb]; done) | rfl)⟩
    · rw [if_neg hin] at hpb
      have hin2 : 0 < b % 256 := by omega
      have hAr : A < J.D.firm.length := by omega
      have hA : ((A : Nat) : Int) = (J.start a : Nat) + (b : Int) / 256 := by omega
      have hat : hasB J.D.firm.length ((A : Nat) : Int) = true := by simp [hasB]; omega
      have hrv : readV J.D.late ((A : Nat) : Int) = J.D.late.getD A ⟨#[]⟩ := by
        unfold readV
        rw [if_pos (by rw [hll]; exact hat)]
        simp
      have hrs : (J.D.late.getD A ⟨#[]⟩).size = 256 := by
        rw [List.getD_eq_getElem?_getD, List.getElem?_eq_getElem (by omega)]
        exact hlate _ (List.getElem_mem _)
      have hrd := read_ac (nro := nro) (γ := γ) h.hd ((A : Nat) : Int)
      rw [hrv, if_pos hat, hA] at hrd
      generalize J.D.late.getD A ⟨#[]⟩ = r at *
      have hm3 : ((b : Int) % 256).toNat = b % 256 := by omega
      have hx : r.extract 0 (b % 256) = strOfNums ((nums r).take (b % 256)) := by rw [← ex_take, of_nums']
      have hx1 : (strOfNums ((nums r).take (b % 256))).size = b % 256 := by rw [sn_size, List.length_take, nums_len, hrs]; omega
      have hx2 : (strOfNums xs).size = xs.length := sn_size xs
      have hhb : J.half ≤ 512 := by unfold JM.half; omega
      (refine aw_ops (by kernel_rfl) (fun K hK => ?_); simp (disch := first | omega | (simp only [List.length_set, List.length_append, List.length_cons, List.length_nil, iv_length, zl_length]; try omega; done)) [-getElem?_pos, -getElem?_neg, hm2, hq2, hin2]; refine hK _ _ ?_; clear hK K)
      refine aw_t (by (first | (simp [eval_tmp, put_at]; done) | (simp [eval_tmp, put_at]; omega))) (by kernel_rfl) ?_
      refine aw_seq ?_
      refine aw_ops (by kernel_rfl) (fun K hK => ?_)
      simp (disch := first | omega | (simp only [List.length_set, List.length_append, List.length_cons, List.length_nil, iv_length, zl_length]; try omega; done)) [-getElem?_pos, -getElem?_neg, hq]
      refine ⟨by kernel_rfl, AC.mono hrd ?_⟩
      rintro _ G ⟨rfl, e⟩
      rw [e]
      clear e G
      try simp (disch := first | omega | (simp only [List.length_set, List.length_append, List.length_cons, List.length_nil, iv_length, zl_length]; try omega; done)) [-getElem?_pos, -getElem?_neg]
      refine hK _ _ ?_; clear hK K
      (refine aw_ops (by kernel_rfl) (fun K hK => ?_); simp (disch := first | omega | (simp only [List.length_set, List.length_append, List.length_cons, List.length_nil, iv_length, zl_length]; try omega; done)) [-getElem?_pos, -getElem?_neg, hrs, hm3, hx, hx1, hx2, sn_app, hpb]; refine hK _ _ ?_; clear hK K)
      exact ⟨rfl, by (first | (simp [put_at, put_none, fr0_at]; done) | rfl), by (first | (simp [put_at, put_none, fr0_at, hpa]; done) | rfl), by (first | (simp [put_at, put_none, fr0_at, hpb]; done) | rfl)⟩
  rintro α G ⟨rfl, h0, h9, h3⟩
  refine aw_seq ?_
  (refine aw_ops (by kernel_rfl) (fun K hK => ?_); simp (disch := first | omega | (simp only [List.length_set, List.length_append, List.length_cons, List.length_nil, iv_length, zl_length]; try omega; done)) [-getElem?_pos, -getElem?_neg]; refine hK _ _ ?_; clear hK K)
  refine aw_seq ?_
  refine aw_block ?_
  refine aw_loop (fun c α G' => ∃ (k : Nat) (v : Value) (F : List Nat), k + c = (Y.length + 255) / 256 ∧ α 3 = .string (strOfNums (Y.drop (256 * k))) ∧ α 9 = .int .i64 ((A + k : Nat) : Int) ∧ α 13 = v ∧ OwnF G' v 115 2 (pgC (pgL A Y k)) F ∧ (∀ j ∈ F, G.length ≤ j) ∧ Low G.length G G') ((Y.length + 255) / 256) ?_ ?_
  · have : pgL A Y 0 = [] := by unfold pgL; rfl
    refine ⟨0, .slice none 0 0, [], by omega, by (first | (simp [put_at, put_none, fr0_at, h3]; done) | rfl), by (first | (simp [put_at, put_none, fr0_at, h9]; done) | rfl), by (first | (simp [put_at, put_none, fr0_at]; done) | rfl), ?_, by simp, Low.refl (Nat.le_refl _)⟩
    rw [this]
    exact .inl ⟨rfl, rfl, rfl⟩
  rintro c α G' ⟨k, v, F, hk, h3, h9, h13, hown, hF, hlow⟩
  refine aw_seq ?_
  refine aw_seq ?_
  have hdl : (Y.drop (256 * k)).length = Y.length - 256 * k := List.length_drop
  have hnx : pgL A Y (k + 1) = pgL A Y k ++ [(A + k, fillB ((Y.drop (256 * k)).take 256))] := by with_unfolding_all rfl
  have hnd : Y.drop (256 * (k + 1)) = (Y.drop (256 * k)).drop 256 := by rw [List.drop_drop]; congr 1
  generalize hW : Y.drop (256 * k) = W at *
  have hWs : (strOfNums W).size = W.length := sn_size W
  by_cases hw0 : W = []
  · subst hw0
    have hie : (strOfNums []).toList.isEmpty = true := by rw [sn_tl]; rfl
    (refine aw_ops (by kernel_rfl) (fun K hK => ?_); simp (disch := first | omega | (simp only [List.length_set, List.length_append, List.length_cons, List.length_nil, iv_length, zl_length]; try omega; done)) [-getElem?_pos, -getElem?_neg, h3, hie]; refine hK _ _ ?_; clear hK K)
    refine aw_f (by (first | (simp [eval_tmp, put_at]; done) | (simp [eval_tmp, put_at]; omega))) (by kernel_rfl) ?_
    refine aw_exit ?_
    refine aw_seq ?_
    have hsh := (show notTuple v = true by rcases hown with ⟨rfl, _, _⟩ | ⟨j, len, rfl, _, _, _⟩ <;> rfl)
    (refine aw_ops (by kernel_rfl) (fun K hK => ?_); simp (disch := first | omega | (simp only [List.length_set, List.length_append, List.length_cons, List.length_nil, iv_length, zl_length]; try omega; done)) [-getElem?_pos, -getElem?_neg, h13, -notTuple, hsh]; refine hK _ _ ?_; clear hK K)
    have hkN : k = (Y.length + 255) / 256 := by simp at hdl; omega
    rw [← hkN]
    (refine aw_ret ?_; simp (disch := first | omega | (simp only [List.length_set, List.length_append, List.length_cons, List.length_nil, iv_length, zl_length]; try omega; done)) [-getElem?_pos, -getElem?_neg, thenQ_ret, scopeQ_ret, inBlockQ_ret, RQ, resL, resV, -notTuple, hsh])
    exact ⟨hlow, F, hown, hF⟩
  · have hwl : 0 < W.length := List.length_pos_iff.2 hw0
    have hie : (strOfNums W).toList.isEmpty = false := by
      rw [sn_tl]
      cases W with
      | nil => exact absurd rfl hw0
      | cons x l => rfl
    (refine aw_ops (by kernel_rfl) (fun K hK => ?_); simp (disch := first | omega | (simp only [List.length_set, List.length_append, List.length_cons, List.length_nil, iv_length, zl_length]; try omega; done)) [-getElem?_pos, -getElem?_neg, h3, hie]; refine hK _ _ ?_; clear hK K)
    refine aw_t (by (first | (simp [eval_tmp, put_at]; done) | (simp [eval_tmp, put_at]; omega))) (by kernel_rfl) ?_
    refine aw_skip ?_
    refine aw_seq ?_
    refine aw_block ?_
    refine aw_seq ?_
    obtain ⟨n, hn⟩ : ∃ n : Nat, n = min W.length 256 := ⟨_, rfl⟩
    have hnI : (if (256 : Int) < (W.length : Nat) then (256 : Int) else (W.length : Nat)) = (n : Nat) := by split <;> omega
    have htk : W.take n = W.take 256 := by
      rw [hn, Nat.min_comm, ← List.take_take]
      simp
    have hdr : W.drop n = W.drop 256 := by
      by_cases h : W.length ≤ 256
      · rw [List.drop_of_length_le (by omega), List.drop_of_length_le h]
      · rw [hn, Nat.min_eq_right (by omega)]
    have hx1 : (strOfNums W).extract 0 n = strOfNums (W.take 256) := by rw [ex_take, htk]
    have hx2 : (strOfNums W).extract n W.length = strOfNums (W.drop 256) := by rw [ex_drop, hdr]
    have hfv := filled_vc (W.take 256) (by rw [List.length_take]; omega)
    (refine aw_ops (by kernel_rfl) (fun K hK => ?_); simp (disch := first | omega | (simp only [List.length_set, List.length_append, List.length_cons, List.length_nil, iv_length, zl_length]; try omega; done)) [-getElem?_pos, -getElem?_neg, h3, hWs, hnI]; refine hK _ _ ?_; clear hK K)
    refine aw_seq ?_
    refine aw_ops (by kernel_rfl) (fun K hK => ?_)
    have hsh := (show notTuple v = true by rcases hown with ⟨rfl, _, _⟩ | ⟨j, len, rfl, _, _, _⟩ <;> rfl)
    simp (disch := first | omega | (simp only [List.length_set, List.length_append, List.length_cons, List.length_nil, iv_length, zl_length]; try omega; done)) [-getElem?_pos, -getElem?_neg, h3, h9, h13, -notTuple, nt_strJ, nt_slJ, hsh, hWs, hx1]
    refine ⟨by kernel_rfl, ac_of_vc (by simp [pv_iv, pv_int, pv_bool, pv_string, pv_tup2, pv_tup3, iv_plain, p2_int, p2_bool, p2_string]) hfv ?_⟩
    obtain ⟨v', G3, hap, ho, hlen, hkk⟩ := ownF_append (P := Tryd.prog) (nro := nro) (t := 116) (e := 115) (H := G' ++ [some ⟨pgV (A + k, fillB (W.take 256)), 115, some 2⟩]) (v := v) (x := .slice (some ⟨G'.length, 0, none⟩) 1 1) (sz := 2) (cells := pgC (pgL A Y k)) (news := pgV (A + k, fillB (W.take 256))) (F := F)
      (by simp) (by simp) (by omega) (by simp) (hown.low (fun j hj => hget_left (hown.lt j hj))) (fun j hj => by have := hF j hj; omega) (fun s h => by cases h) (by simp [xcells, hget_app0, hget_cons0, pgV]) (by simp [pgV]) (by simp [pgV]) (by rw [pgC_len, pgL_len]; simp [pgV]; omega) (by rw [pgC_len, pgL_len]; simp [pgV, maxLen]; omega)
    have hs3 := own_shape ho
    have ho' : OwnF G3 v' 115 2 (pgC (pgL A Y (k + 1))) [G'.length + 1] := by
      rw [hnx, show pgC (pgL A Y k ++ [(A + k, fillB (W.take 256))]) = pgC (pgL A Y k) ++ pgV (A + k, fillB (W.take 256)) by simp [pgC]]
      simpa using ho
    simp only [pgV, Int.natCast_add] at hap
    have r2 : List.range 2 = [0, 1] := rfl
    simp (disch := first | omega | (simp only [List.length_set, List.length_append, List.length_cons, List.length_nil, iv_length, zl_length]; try omega; done)) [-getElem?_pos, -getElem?_neg, r2, -notTuple, nt_strJ, nt_slJ, nt_intJ, nt_aggJ, hsh, hs3.1, hs3.2, -xappend, hap]
    refine hK _ _ ?_; clear hK K
    have hk3 : ∀ j, j < G.length → hget G3 j = hget G' j := fun j hj => by
      have := hlow.2
      rw [hkk j (by simp; omega) (fun hm => by have := hF j hm; omega), hget_left (by omega)]
    (refine aw_ops (by kernel_rfl) (fun K hK => ?_); simp (disch := first | omega | (simp only [List.length_set, List.length_append, List.length_cons, List.length_nil, iv_length, zl_length]; try omega; done)) [-getElem?_pos, -getElem?_neg, h3, hWs, hx2]; refine hK _ _ ?_; clear hK K)
    (refine aw_ops (by kernel_rfl) (fun K hK => ?_); simp (disch := first | omega | (simp only [List.length_set, List.length_append, List.length_cons, List.length_nil, iv_length, zl_length]; try omega; done)) [-getElem?_pos, -getElem?_neg, h9]; refine hK _ _ ?_; clear hK K)
    refine ⟨c - 1, by omega, k + 1, v', [G'.length + 1], by omega, by (first | (simp [put_at, put_none, fr0_at, hnd]; done) | rfl), by (first | (simp [put_at, put_none, fr0_at]; done) | rfl), by (first | (simp [put_at, put_none, fr0_at]; done) | rfl), ho', by have := hlow.2; simp; omega, ⟨fun j hj => (hk3 j hj).trans (hlow.1 j hj), by have := hlow.2; simp at hlen; omega⟩⟩
end

section
open Go Go.RowKit
set_option linter.unusedVariables false
set_option linter.unusedSimpArgs false
theorem div_step (v k : Nat) : v / 128 ^ (k + 2) = v / 128 ^ (k + 1) / 128 := by
  rw [Nat.div_div_eq_div_mul, ← Nat.pow_succ]
theorem rdN_one : ∀ (g n : Nat) (l : List Int) (v : Nat) (l' : List Int), n ≠ 0 → By l → g ≤ 4 → rdN g n l = (v, l', 0) → ∃ k, k < g ∧ v / 128 ^ (k + 1) = n ∧ l = lowB v k ++ l'
  | 0, n, l, v, l', _, _, _, h => by simp [rdN] at h
  | g + 1, n, [], v, l', _, _, _, h => by simp [rdN] at h
  | g + 1, n, b :: l, v, l', hn, hb, hg, h => by
    have hb0 := hb b (by simp)
    have hbl : By l := fun x hx => hb x (by simp [hx])
    unfold rdN at h
    split at h
    · simp at h
    split at h
    · rename_i hlt
      simp only [Prod.mk.injEq] at h
      obtain ⟨rfl, rfl, _⟩ := h
      obtain ⟨m, rfl⟩ : ∃ m : Nat, b = (m : Nat) := ⟨b.toNat, by omega⟩
      simp only [Int.toNat_natCast]
      refine ⟨0, by omega, by omega, ?_⟩
      have : (n * 128 + m % 128) % 128 = m := by omega
      simp [lowB, hiG, this]
    · rename_i hge
      obtain ⟨m, rfl⟩ : ∃ m : Nat, b = (m : Nat) := ⟨b.toNat, by omega⟩
      simp only [Int.toNat_natCast] at h
      obtain ⟨k, hk, hv, rfl⟩ := rdN_one g _ l v l' (by omega) hbl (by omega) h
      refine ⟨k + 1, by omega, by rw [div_step, hv]; omega, ?_⟩
      rw [lowB_next (by rw [hv]; omega), hv, List.cons_append]
      congr 1
      omega
theorem numB_low (n : Nat) : numB n = lowB n 4 := rfl
theorem numB_cut {n k : Nat} (h : n / 128 ^ (k + 1) = 0) (hk : k ≤ 4) : numB n = lowB n k := by
  rw [numB_low, lowB, lowB, hiG_cut h hk]
theorem rdNum_one {l l' : List Int} {v : Nat} (hb : By l) (h : rdNum l = (v, l', 0)) : l = numB v ++ l' := by
  unfold rdNum at h
  split at h
  case isFalse => rename_i e; simp only [Prod.mk.injEq] at h; exact absurd h.2.2 e
  cases l with
  | nil => simp [rdN] at h
  | cons b l =>
    have hb0 := hb b (by simp)
    have hbl : By l := fun x hx => hb x (by simp [hx])
    unfold rdN at h
    split at h
    · simp at h
    rename_i hno
    have hb128 : b ≠ 128 := fun h => hno (.inl ⟨rfl, h⟩)
    split at h
    · rename_i hlt
      simp only [Prod.mk.injEq] at h
      obtain ⟨rfl, rfl, _⟩ := h
      obtain ⟨m, rfl⟩ : ∃ m : Nat, b = (m : Nat) := ⟨b.toNat, by omega⟩
      simp only [Int.toNat_natCast]
      have e : 0 * 128 + m % 128 = m := by omega
      rw [e, numB_cut (n := m) (k := 0) (by omega) (by omega)]
      have : m % 128 = m := by omega
      simp [lowB, hiG, this]
    · rename_i hge
      obtain ⟨m, rfl⟩ : ∃ m : Nat, b = (m : Nat) := ⟨b.toNat, by omega⟩
      simp only [Int.toNat_natCast] at h
      clear hno
      have e : 0 * 128 + m % 128 = m % 128 := by omega
      rw [e] at h
      have hne : m % 128 ≠ 0 := by omega
      obtain ⟨k, hk, hv, rfl⟩ := rdN_one 4 (m % 128) l v l' hne hbl (by omega) h
      rw [numB_cut (n := v) (k := k + 1) (by rw [div_step, hv]; omega) (by omega), lowB_next (n := v) (k := k) (by rw [hv]; omega), hv, List.cons_append]
      congr 1
      omega
/-- The groups below those that are read. -/
theorem rdN_low : ∀ (k g v : Nat) (r : List Int), v ≤ 4294967295 → k < g → g ≤ 4 → (k ≠ 0 → v / 128 ^ (k + 1) ≠ 0) → rdN g (v / 128 ^ (k + 1)) (lowB v k ++ r) = (v, r, 0)
  | 0, 0, v, r, _, h, _, _ => by omega
  | 0, g + 1, v, r, hv, _, hg, _ => by
    simp only [lowB, hiG, List.nil_append, List.cons_append]
    unfold rdN
    simp only [Int.toNat_natCast]
    have e : v / 128 ^ (0 + 1) * 128 + v % 128 % 128 = v := by omega
    rw [if_neg (by rw [e]; omega), if_pos (by omega), e]
  | k + 1, 0, v, r, _, h, _, _ => by omega
  | k + 1, g + 1, v, r, hv, hk, hg, hne => by
    have h1 := hne (by omega)
    have h2 : v / 128 ^ (k + 1) ≠ 0 := fun h => h1 (by rw [div_step, h])
    rw [lowB_next h2, List.cons_append, div_step]
    have hle : v / 128 ^ (k + 1) ≤ v := Nat.div_le_self _ _
    generalize hq : v / 128 ^ (k + 1) = q at *
    unfold rdN
    have e0 : ((((q % 128 : Nat) : Int) + 128).toNat) % 128 = q % 128 := by omega
    have e : q / 128 * 128 + ((((q % 128 : Nat) : Int) + 128).toNat) % 128 = q := by rw [e0]; omega
    rw [if_neg (by rw [e]; omega), if_neg (by omega), e, ← hq]
    exact rdN_low k g v r hv (by omega) (by omega) (fun _ => by rw [hq]; exact h2)
theorem top_group {v : Nat} (hv : v ≤ 4294967295) : v < 128 ∨ ∃ k, k < 4 ∧ v / 128 ^ (k + 1) ≠ 0 ∧ v / 128 ^ (k + 2) = 0 := by
  by_cases h0 : v < 128
  · exact .inl h0
  right
  by_cases h1 : v / 128 ^ 2 = 0
  · exact ⟨0, by omega, by omega, h1⟩
  by_cases h2 : v / 128 ^ 3 = 0
  · exact ⟨1, by omega, h1, h2⟩
  by_cases h3 : v / 128 ^ 4 = 0
  · exact ⟨2, by omega, h2, h3⟩
  · exact ⟨3, by omega, h3, by omega⟩
theorem rdNum_back {v : Nat} (hv : v ≤ 4294967295) (r : List Int) : rdNum (numB v ++ r) = (v, r, 0) := by
  have : rdN 5 0 (numB v ++ r) = (v, r, 0) := by
    rcases top_group hv with h0 | ⟨k, hk, h1, h2⟩
    · rw [numB_cut (n := v) (k := 0) (by omega) (by omega)]
      simp only [lowB, hiG, List.nil_append, List.cons_append]
      unfold rdN
      simp only [Int.toNat_natCast]
      have e : 0 * 128 + v % 128 % 128 = v := by omega
      rw [if_neg (by rw [e]; omega), if_pos (by omega), e]
    · rw [numB_cut (n := v) (k := k + 1) h2 (by omega), lowB_next h1, List.cons_append]
      rw [div_step] at h2
      have hlow := rdN_low k 4 v r hv (by omega) (by omega) (fun _ => h1)
      have hle : v / 128 ^ (k + 1) ≤ v := Nat.div_le_self _ _
      generalize v / 128 ^ (k + 1) = q at *
      unfold rdN
      have e : 0 * 128 + ((((q % 128 : Nat) : Int) + 128).toNat) % 128 = q := by omega
      rw [if_neg (by rw [e]; omega), if_neg (by omega), e]
      exact hlow
  unfold rdNum
  rw [this]
  rfl
end

section
open Go Go.RowKit
set_option linter.unusedVariables false
set_option linter.unusedSimpArgs false
theorem rdCount_back {n : Nat} {most : Int} (h1 : (n : Int) ≤ max most 0) (h2 : n ≤ 4294967295) (r : List Int) : rdCount most (numB n ++ r) = (n, r, 0) := by
  unfold rdCount
  rw [rdNum_back h2]
  simp only [ne_eq, not_true_eq_false, if_false]
  rw [if_neg (by omega)]
theorem rdText_back {s : ByteArray} {most : Int} (h1 : (s.size : Int) ≤ most) (h2 : s.size ≤ 4294967295) (r : List Int) : rdText most (textB s ++ r) = (nums s, r, 0) := by
  unfold rdText textB
  rw [List.append_assoc, rdCount_back (by omega) h2]
  have := nums_size s
  simp only [ne_eq, not_true_eq_false, if_false]
  rw [if_neg (by rw [List.length_append]; omega), ← this, List.take_left, List.drop_left]
end

section
open Go Go.RowKit
set_option linter.unusedSimpArgs false
set_option linter.unusedVariables false
set_option maxRecDepth 100000
set_option maxHeartbeats 4000000

theorem textB_pos (s : ByteArray) : 0 < (textB s).length := by
  unfold textB numB
  simp
  omega
theorem recs_back : ∀ (ps acc : List ByteArray) (f : Nat), (∀ s ∈ ps, s.size ≤ 60000) → (textsB ps).length ≤ f → recsR f (textsB ps) acc = some (acc ++ ps)
  | [], acc, f, _, _ => by
    have : textsB [] = [] := rfl
    rw [this]
    cases f <;> simp [recsR]
  | s :: ps, acc, f, hs, hf => by
    have e : textsB (s :: ps) = textB s ++ textsB ps := by simp [textsB]
    have hp := textB_pos s
    rw [e, List.length_append] at hf
    obtain ⟨f', rfl⟩ : ∃ f', f = f' + 1 := ⟨f - 1, by omega⟩
    have hsz := hs s (by simp)
    have hr := rdText_back (s := s) (most := 60000) (by omega) (by omega) (textsB ps)
    rw [e, recsR, if_neg (fun h => by have := congrArg List.length h; rw [List.length_append, List.length_nil] at this; omega), hr]
    simp only [ne_eq, not_true_eq_false, if_false]
    rw [of_nums', recs_back ps _ f' (fun x hx => hs x (by simp [hx])) (by omega)]
    simp
theorem mark_get (a n k : Nat) (hk : k < 9) : (markL a n).getD k 0 = (headL a n).getD k 0 := by
  unfold markL
  rw [List.getD_eq_getElem?_getD, List.getElem?_append_left (by rw [headL_len]; exact hk), ← List.getD_eq_getElem?_getD]
theorem mArea_mark {a n : Nat} (ha : a < 256) : mArea (markL a n) = a := by
  unfold mArea
  rw [mark_get a n 4 (by omega)]
  show ((a : Int) % 256).toNat = a
  omega
theorem mSize_mark {a n : Nat} (hn : n < 4294967296) : mSize (markL a n) = n := by
  unfold mSize
  rw [mark_get a n 5 (by omega), mark_get a n 6 (by omega), mark_get a n 7 (by omega), mark_get a n 8 (by omega)]
  show (((n : Int) / 16777216 % 256) * 16777216 + ((n : Int) / 65536 % 256) * 65536 + ((n : Int) / 256 % 256) * 256 + (n : Int) % 256).toNat = n
  omega
theorem isMark_mark {a n : Nat} (ha : a < 2) (hn : n < 4294967296) : isMark (markL a n) = true := by
  unfold isMark
  rw [mArea_mark (by omega), mSize_mark hn]
  simp [ha]
theorem mark_ne {a n : Nat} : markL a n ≠ zl 64 := fun h => by
  have h1 := mark_get a n 0 (by omega)
  rw [h] at h1
  revert h1
  show ¬ (0 : Int) = 109
  decide
end
end Go.Proofs.YtgamobjfeaeddaaDoor
