/-
  A reader: where it lies; a number read.
  A reader's other calls: count, a text, a key, the end.
-/
import Derived.Test.YtpdijcaikjobiaaWrB
import Derived.Test.YtpdijcaikjobiaaLibC
import Derived.Test.YtpdijcaikjobiaaLibB
namespace Go.Proofs.Ytpdijcaikjobiaa
section
open Go Go.RowKit
set_option linter.unusedVariables false
set_option linter.unusedSimpArgs false
set_option maxRecDepth 100000
set_option maxHeartbeats 4000000
/-- A reader's cells. -/
def rdC (l : List Int) (e : Int) : Blk := ⟨[.string (strOfNums l), .int .i64 e], 63, none⟩
theorem and127 : ∀ a : Nat, a < 256 → bitsOf .and .u8 (a : Int) 127 = ((a % 128 : Nat) : Int) := by decide +kernel
theorem or_low (n b : Nat) (hn : n < 4294967296) (hb : b < 128) : bitsOf .or .u64 ((n * 128 : Nat) : Int) (b : Int) = ((n * 128 + b : Nat) : Int) := by
  show IntKind.u64.wrap ((BitVec.ofInt 64 ((n * 128 : Nat) : Int) ||| BitVec.ofInt 64 (b : Int)).toNat : Int) = _
  have h : (BitVec.ofInt 64 ((n * 128 : Nat) : Int) ||| BitVec.ofInt 64 (b : Int)).toNat = n * 128 + b := by
    rw [BitVec.toNat_or]
    have h1 : (BitVec.ofInt 64 ((n * 128 : Nat) : Int)).toNat = n * 128 := by rw [BitVec.toNat_ofInt]; omega
    have h2 : (BitVec.ofInt 64 (b : Int)).toNat = b := by rw [BitVec.toNat_ofInt]; omega
    rw [h1, h2]
    have := Nat.shiftLeft_add_eq_or_of_lt (i := 7) (b := b) (by omega) n
    rw [Nat.shiftLeft_eq] at this
    exact this.symm
  rw [h]
  exact wu64 ⟨by omega, by omega⟩
/-- A number of at most so many bytes behind those that make n: it, what is left, the error. -/
def rdN : Nat → Nat → List Int → Nat × List Int × Int
  | 0, _, l => (0, l, 4)
  | _ + 1, _, [] => (0, [], 3)
  | g + 1, n, b :: l => if (g = 4 ∧ b = 128) ∨ 4294967295 < n * 128 + b.toNat % 128 then (0, l, 4) else if b < 128 then (n * 128 + b.toNat % 128, l, 0) else rdN g (n * 128 + b.toNat % 128) l
def rdNum (l : List Int) : Nat × List Int × Int := if (rdN 5 0 l).2.2 = 0 then rdN 5 0 l else (0, l, (rdN 5 0 l).2.2)
theorem gb_sn {l : List Int} (h : By l) (i : Nat) : gb (strOfNums l) i = l.getD i 0 := by
  unfold gb
  rw [strOfNums_data, List.getD_eq_getElem?_getD, List.getD_eq_getElem?_getD, List.getElem?_map]
  cases hq : l[i]? with
  | none => rfl
  | some x =>
    have := h x (List.mem_of_getElem? hq)
    simp only [Option.map_some, Option.getD_some, UInt8.toNat_ofNat']
    omega
theorem ex_range (l : List Int) (i j : Nat) : (strOfNums l).extract i j = strOfNums ((l.take j).drop i) := by
  apply ByteArray.ext
  rw [ByteArray.data_extract]
  apply Array.toList_inj.1
  rw [Array.toList_extract, strOfNums_data, strOfNums_data, List.map_drop, List.map_take, List.drop_take]
theorem ex_drop (l : List Int) (i : Nat) : (strOfNums l).extract i l.length = strOfNums (l.drop i) := by
  rw [ex_range, List.take_length]
theorem ex_take (l : List Int) (n : Nat) : (strOfNums l).extract 0 n = strOfNums (l.take n) := by
  rw [ex_range, List.drop_zero]
theorem rdN_cons {l : List Int} {i g n : Nat} {b : Int} (hb : l[i]? = some b) : rdN (g + 1) n (l.drop i) = if (g = 4 ∧ b = 128) ∨ 4294967295 < n * 128 + b.toNat % 128 then (0, l.drop (i + 1), 4) else if b < 128 then (n * 128 + b.toNat % 128, l.drop (i + 1), 0) else rdN g (n * 128 + b.toNat % 128) (l.drop (i + 1)) := by
  obtain ⟨hi, he⟩ := List.getElem?_eq_some_iff.1 hb
  rw [List.drop_eq_getElem_cons hi, he, rdN]
attribute [local simp] wb_bool wb_undef XL_nil XL_cons XLc_val XLc_call step1_eq stepW_t stepW_f stepC_n stepC_s stepX_s stepX_n stepN_s calleeX oneV xop_eq xopR_s xopR_n wantedA_eq wantedG_n wantedG_s plain1_int plain1_bool plain1_string bits_i64 bits_u64 bits_u32 bits_u16 bits_u8 xeqA xarr allK_iv num_iv calleeOf xread xeff xbin xint xnil xun xstr xload xconv xpart xfield xfieldAddr xindexAddr xindex bnd asInt? xslice xlen xmin xmax xbuild xfill xappend xapp2 xappstr xappmk xcap xcopy xcells eval_tmp eval_const put_at put_none fr0_at cells_agg cells_int cells_bool cells_string cells_ptr cells_slice notTuple tab iv_all hget_app hget_app0 hget_cons0 hget_cons set_app set_app0 setR setR_one QL_nil QL_cons QLc_val stepQ_t stepQ_f stepQC_n stepQC_s stepQX_s SL_nil SL_cons SLc_val stepS_t stepS_f ltT ltF leT leF eqT eqF ltTn ltFn leTn leFn eqTn eqFn beqT beqF bneT bneF wi64 wu64 wu32 wu16 wu8 tmodP tdivP hgetL hgetNe hgetEq setL nums_def nums_len Nat.succ_le_of_lt List.getElem?_cons_zero List.getElem?_cons_succ Option.getD_some Int.toNat_add Int.toNat_mul agB agI agS agP agL agA okB okI okS okP okSl okA
theorem number_ac {H : AH} {γ : Nat → Option Nat} {nro p : Nat} {l : List Int} (hp : nro ≤ p) (h : hget H p = some (rdC l 0)) (hb : By l) (hl : l.length ≤ 1000000) :
    AC Try.prog nro γ 12 #[.pointer (some ⟨p, 0, none⟩)] H (fun v' H' => v' = .int .u32 ((rdNum l).1 : Nat) ∧ H' = H.set p (some (rdC (rdNum l).2.1 (rdNum l).2.2))) := by
  unfold rdC at h ⊢
  have hsz := sn_size l
  refine ac_of_aw Try.func12 rfl Try.ntmps12 Try.results12 (by simp) ?_
  refine aw_seq ?_
  (refine aw_ops (by kernel_rfl) (fun K hK => ?_); simp (disch := first | omega | (simp only [List.length_set, List.length_append, List.length_cons, List.length_nil, iv_length, zl_length]; try omega; done)) [-getElem?_pos, -getElem?_neg]; refine hK _ _ ?_; clear hK K)
  refine aw_scope ?_
  refine aw_seq ?_
  refine aw_seq ?_
  (refine aw_ops (by kernel_rfl) (fun K hK => ?_); simp (disch := first | omega | (simp only [List.length_set, List.length_append, List.length_cons, List.length_nil, iv_length, zl_length]; try omega; done)) [-getElem?_pos, -getElem?_neg, h]; refine hK _ _ ?_; clear hK K)
  refine aw_f (by (first | (simp [eval_tmp, put_at]; done) | (simp [eval_tmp, put_at]; omega))) (by kernel_rfl) ?_
  refine aw_skip ?_
  refine aw_seq ?_
  (refine aw_ops (by kernel_rfl) (fun K hK => ?_); simp (disch := first | omega | (simp only [List.length_set, List.length_append, List.length_cons, List.length_nil, iv_length, zl_length]; try omega; done)) [-getElem?_pos, -getElem?_neg]; refine hK _ _ ?_; clear hK K)
  refine aw_seq ?_
  (refine aw_ops (by kernel_rfl) (fun K hK => ?_); simp (disch := first | omega | (simp only [List.length_set, List.length_append, List.length_cons, List.length_nil, iv_length, zl_length]; try omega; done)) [-getElem?_pos, -getElem?_neg]; refine hK _ _ ?_; clear hK K)
  refine aw_seq ?_
  refine aw_label ?_
  refine aw_seq ?_
  refine aw_cut (fun α G => G = H ∧ α 0 = .pointer (some ⟨p, 0, none⟩) ∧ (rdN 5 0 l).2.2 ≠ 0 ∧ α 3 = .int .i64 (rdN 5 0 l).2.2) ?_ ?_
  case refine_2 =>
    rintro α G ⟨rfl, h0, hne, h3⟩
    have hr : rdNum l = (0, l, (rdN 5 0 l).2.2) := if_neg hne
    rw [hr]
    generalize (rdN 5 0 l).2.2 = e at h3
    refine aw_seq ?_
    (refine aw_ops (by kernel_rfl) (fun K hK => ?_); simp (disch := first | omega | (simp only [List.length_set, List.length_append, List.length_cons, List.length_nil, iv_length, zl_length]; try omega; done)) [-getElem?_pos, -getElem?_neg, h0, h3, h]; refine hK _ _ ?_; clear hK K)
    refine aw_seq ?_
    (refine aw_ops (by kernel_rfl) (fun K hK => ?_); simp (disch := first | omega | (simp only [List.length_set, List.length_append, List.length_cons, List.length_nil, iv_length, zl_length]; try omega; done)) [-getElem?_pos, -getElem?_neg]; refine hK _ _ ?_; clear hK K)
    (refine aw_ret ?_; simp (disch := first | omega | (simp only [List.length_set, List.length_append, List.length_cons, List.length_nil, iv_length, zl_length]; try omega; done)) [-getElem?_pos, -getElem?_neg, thenQ_ret, scopeQ_ret, inBlockQ_ret, RQ, resL, resV])
  refine aw_seq ?_
  (refine aw_ops (by kernel_rfl) (fun K hK => ?_); simp (disch := first | omega | (simp only [List.length_set, List.length_append, List.length_cons, List.length_nil, iv_length, zl_length]; try omega; done)) [-getElem?_pos, -getElem?_neg]; refine hK _ _ ?_; clear hK K)
  refine aw_block ?_
  refine aw_loop (fun c α G => G = H ∧ ∃ i n : Nat, i + c = 5 ∧ α 12 = .int .i64 (i : Nat) ∧ α 4 = .int .u64 (n : Nat) ∧ α 3 = .int .i64 4 ∧ α 0 = .pointer (some ⟨p, 0, none⟩) ∧ n ≤ 4294967295 ∧ i ≤ l.length ∧ rdN 5 0 l = rdN c n (l.drop i)) 5 ?_ ?_
  · exact ⟨rfl, 0, 0, by omega, by (first | (simp [put_at, put_none, fr0_at]; done) | rfl), by (first | (simp [put_at, put_none, fr0_at]; done) | rfl), by (first | (simp [put_at, put_none, fr0_at]; done) | rfl), by (first | (simp [put_at, put_none, fr0_at]; done) | rfl), by omega, by omega, rfl⟩
  rintro c α G ⟨rfl, i, n, hic, h12, h4, h3, h0, hn, hil, hrd⟩
  refine aw_seq ?_
  (refine aw_ops (by kernel_rfl) (fun K hK => ?_); simp (disch := first | omega | (simp only [List.length_set, List.length_append, List.length_cons, List.length_nil, iv_length, zl_length]; try omega; done)) [-getElem?_pos, -getElem?_neg, h12]; refine hK _ _ ?_; clear hK K)
  refine aw_seq ?_
  by_cases hi : i < 5
  case neg =>
    refine aw_f (by (first | (simp [eval_tmp, put_at, hi]; done) | (simp [eval_tmp, put_at, hi]; omega))) (by kernel_rfl) ?_
    refine aw_exit ?_
    obtain rfl : c = 0 := by omega
    rw [hrd]
    exact ⟨rfl, by (first | (simp [put_at, put_none, fr0_at, h0]; done) | rfl), by simp [rdN], by (first | (simp [put_at, put_none, fr0_at, h3, rdN]; done) | rfl)⟩
  refine aw_t (by (first | (simp [eval_tmp, put_at, hi]; done) | (simp [eval_tmp, put_at, hi]; omega))) (by kernel_rfl) ?_
  refine aw_skip ?_
  refine aw_seq ?_
  refine aw_block ?_
  refine aw_seq ?_
  (refine aw_ops (by kernel_rfl) (fun K hK => ?_); simp (disch := first | omega | (simp only [List.length_set, List.length_append, List.length_cons, List.length_nil, iv_length, zl_length]; try omega; done)) [-getElem?_pos, -getElem?_neg, h12]; refine hK _ _ ?_; clear hK K)
  refine aw_seq ?_
  refine aw_seq ?_
  obtain ⟨g, rfl⟩ : ∃ g, c = g + 1 := ⟨c - 1, by omega⟩
  (refine aw_ops (by kernel_rfl) (fun K hK => ?_); simp (disch := first | omega | (simp only [List.length_set, List.length_append, List.length_cons, List.length_nil, iv_length, zl_length]; try omega; done)) [-getElem?_pos, -getElem?_neg, h0, h, hsz]; refine hK _ _ ?_; clear hK K)
  by_cases hlast : i = l.length
  · refine aw_t (by (first | (simp [eval_tmp, put_at, hlast]; done) | (simp [eval_tmp, put_at, hlast]; omega))) (by kernel_rfl) ?_
    refine aw_seq ?_
    (refine aw_ops (by kernel_rfl) (fun K hK => ?_); simp (disch := first | omega | (simp only [List.length_set, List.length_append, List.length_cons, List.length_nil, iv_length, zl_length]; try omega; done)) [-getElem?_pos, -getElem?_neg]; refine hK _ _ ?_; clear hK K)
    refine aw_exit ?_
    have : rdN (g + 1) n (l.drop i) = (0, [], 3) := by rw [hlast, List.drop_length]; rfl
    rw [hrd, this]
    exact ⟨rfl, by (first | (simp [put_at, put_none, fr0_at, h0]; done) | rfl), by simp, by (first | (simp [put_at, put_none, fr0_at]; done) | rfl)⟩
  refine aw_f (by (first | (simp [eval_tmp, put_at, hlast]; done) | (simp [eval_tmp, put_at, hlast]; omega))) (by kernel_rfl) ?_
  refine aw_skip ?_
  have hil' : i < l.length := by omega
  obtain ⟨b, hbi⟩ : ∃ b, l[i]? = some b := ⟨_, List.getElem?_eq_getElem hil'⟩
  have hb2 := hb b (List.mem_of_getElem? hbi)
  have hgb : gb (strOfNums l) i = b := by rw [gb_sn hb, List.getD_eq_getElem?_getD, hbi]; rfl
  rw [rdN_cons hbi] at hrd
  obtain ⟨k, rfl⟩ : ∃ k : Nat, b = (k : Nat) := ⟨b.toNat, by omega⟩
  refine aw_seq ?_
  (refine aw_ops (by kernel_rfl) (fun K hK => ?_); simp (disch := first | omega | (simp only [List.length_set, List.length_append, List.length_cons, List.length_nil, iv_length, zl_length]; try omega; done)) [-getElem?_pos, -getElem?_neg, h0, h, hsz, hgb]; refine hK _ _ ?_; clear hK K)
  have hand := and127 k (by omega)
  obtain ⟨m, hm⟩ : ∃ m, m = k % 128 := ⟨_, rfl⟩
  have hm128 : m < 128 := by omega
  have hor := or_low n m (by omega) hm128
  simp only [Int.toNat_natCast] at hrd
  rw [← hm] at hand hrd
  obtain ⟨n2, hn2⟩ : ∃ n2, n2 = n * 128 + m := ⟨_, rfl⟩
  rw [← hn2] at hor hrd
  rw [Int.natCast_mul] at hor
  have hor : bitsOf .or .u64 ((n : Int) * 128) (m : Int) = (n2 : Int) := hor
  refine aw_seq ?_
  (refine aw_ops (by kernel_rfl) (fun K hK => ?_); simp (disch := first | omega | (simp only [List.length_set, List.length_append, List.length_cons, List.length_nil, iv_length, zl_length]; try omega; done)) [-getElem?_pos, -getElem?_neg, h4, hand, hor]; refine hK _ _ ?_; clear hK K)
  have hbad : ∀ q : (g = 4 ∧ ((k : Nat) : Int) = 128) ∨ 4294967295 < n2, rdN 5 0 l = (0, l.drop (i + 1), 4) := fun q => by rw [hrd, if_pos q]
  have hgood : ¬ ((g = 4 ∧ ((k : Nat) : Int) = 128) ∨ 4294967295 < n2) → k < 128 → rdNum l = (n2, l.drop (i + 1), 0) := fun q q2 => by
    have : rdN 5 0 l = (n2, l.drop (i + 1), 0) := by rw [hrd, if_neg q, if_pos (by omega)]
    unfold rdNum
    rw [this]
    rfl
  have hnext : ¬ ((g = 4 ∧ ((k : Nat) : Int) = 128) ∨ 4294967295 < n2) → ¬ k < 128 → rdN 5 0 l = rdN g n2 (l.drop (i + 1)) := fun q q2 => by
    rw [hrd, if_neg q, if_neg (by omega)]
  have hex := ex_drop l (i + 1)
  refine aw_block ?_
  refine aw_seq ?_
  obtain ⟨bad, hbd⟩ : ∃ bad : Bool, bad = decide ((g = 4 ∧ ((k : Nat) : Int) = 128) ∨ 4294967295 < n2) := ⟨_, rfl⟩
  refine aw_cut (fun α2 G2 => G2 = G ∧ α2 34 = .bool bad ∧ α2 0 = .pointer (some ⟨p, 0, none⟩) ∧ α2 3 = .int .i64 4 ∧ α2 4 = .int .u64 (n2 : Nat) ∧ α2 5 = .int .i64 (i : Nat) ∧ α2 6 = .int .u8 (k : Nat) ∧ α2 12 = .int .i64 (i : Nat)) ?_ ?_
  · refine aw_seq ?_
    by_cases q1 : i = 0 ∧ k = 128
    · obtain ⟨rfl, rfl⟩ := q1
      have : bad = true := by rw [hbd]; exact decide_eq_true (.inl ⟨by omega, rfl⟩)
      rw [this]
      (refine aw_ops (by kernel_rfl) (fun K hK => ?_); simp (disch := first | omega | (simp only [List.length_set, List.length_append, List.length_cons, List.length_nil, iv_length, zl_length]; try omega; done)) [-getElem?_pos, -getElem?_neg]; refine hK _ _ ?_; clear hK K)
      refine aw_t (by (first | (simp [eval_tmp, put_at]; done) | (simp [eval_tmp, put_at]; omega))) (by kernel_rfl) ?_
      refine aw_skip ?_
      exact ⟨rfl, by (first | (simp [put_at, put_none, fr0_at]; done) | rfl), by (first | (simp [put_at, put_none, fr0_at, h0]; done) | rfl), by (first | (simp [put_at, put_none, fr0_at, h3]; done) | rfl), by (first | (simp [put_at, put_none, fr0_at]; done) | rfl), by (first | (simp [put_at, put_none, fr0_at]; done) | rfl), by (first | (simp [put_at, put_none, fr0_at]; done) | rfl), by (first | (simp [put_at, put_none, fr0_at, h12]; done) | rfl)⟩
    have q4 : ¬ (g = 4 ∧ ((k : Nat) : Int) = 128) := by omega
    have hbd : bad = decide (4294967295 < n2) := hbd.trans (decide_eq_decide.2 ⟨fun h => h.resolve_left q4, .inr⟩)
    by_cases q0 : i = 0
    · subst q0
      have q6 : ¬ k = 128 := by omega
      (refine aw_ops (by kernel_rfl) (fun K hK => ?_); simp (disch := first | omega | (simp only [List.length_set, List.length_append, List.length_cons, List.length_nil, iv_length, zl_length]; try omega; done)) [-getElem?_pos, -getElem?_neg, q6]; refine hK _ _ ?_; clear hK K)
      refine aw_f (by (first | (simp [eval_tmp, put_at, q6]; done) | (simp [eval_tmp, put_at, q6]; omega))) (by kernel_rfl) ?_
      (refine aw_ops (by kernel_rfl) (fun K hK => ?_); simp (disch := first | omega | (simp only [List.length_set, List.length_append, List.length_cons, List.length_nil, iv_length, zl_length]; try omega; done)) [-getElem?_pos, -getElem?_neg]; refine hK _ _ ?_; clear hK K)
      exact ⟨rfl, by simp [put_at, hbd]; omega, by (first | (simp [put_at, put_none, fr0_at, h0]; done) | rfl), by (first | (simp [put_at, put_none, fr0_at, h3]; done) | rfl), by (first | (simp [put_at, put_none, fr0_at]; done) | rfl), by (first | (simp [put_at, put_none, fr0_at]; done) | rfl), by (first | (simp [put_at, put_none, fr0_at]; done) | rfl), by (first | (simp [put_at, put_none, fr0_at, h12]; done) | rfl)⟩
    · (refine aw_ops (by kernel_rfl) (fun K hK => ?_); simp (disch := first | omega | (simp only [List.length_set, List.length_append, List.length_cons, List.length_nil, iv_length, zl_length]; try omega; done)) [-getElem?_pos, -getElem?_neg, q0]; refine hK _ _ ?_; clear hK K)
      refine aw_f (by (first | (simp [eval_tmp, put_at, q0]; done) | (simp [eval_tmp, put_at, q0]; omega))) (by kernel_rfl) ?_
      (refine aw_ops (by kernel_rfl) (fun K hK => ?_); simp (disch := first | omega | (simp only [List.length_set, List.length_append, List.length_cons, List.length_nil, iv_length, zl_length]; try omega; done)) [-getElem?_pos, -getElem?_neg]; refine hK _ _ ?_; clear hK K)
      exact ⟨rfl, by simp [put_at, hbd]; omega, by (first | (simp [put_at, put_none, fr0_at, h0]; done) | rfl), by (first | (simp [put_at, put_none, fr0_at, h3]; done) | rfl), by (first | (simp [put_at, put_none, fr0_at]; done) | rfl), by (first | (simp [put_at, put_none, fr0_at]; done) | rfl), by (first | (simp [put_at, put_none, fr0_at]; done) | rfl), by (first | (simp [put_at, put_none, fr0_at, h12]; done) | rfl)⟩
  clear h0 h3 h4 h12
  rintro α2 G2 ⟨rfl, h34, h0, h3, h4, h5, h6, h12⟩
  by_cases q : (g = 4 ∧ ((k : Nat) : Int) = 128) ∨ 4294967295 < n2
  · rw [decide_eq_true q] at hbd
    subst hbd
    refine aw_t (by (first | (simp [eval_tmp, put_at, h34]; done) | (simp [eval_tmp, put_at, h34]; omega))) (by kernel_rfl) ?_
    refine aw_exit ?_
    have := hbad q
    refine ⟨rfl, by (first | (simp [put_at, put_none, fr0_at, h0]; done) | rfl), by rw [this]; simp, by rw [this]; exact h3⟩
  rw [decide_eq_false q] at hbd
  subst hbd
  refine aw_f (by (first | (simp [eval_tmp, put_at, h34]; done) | (simp [eval_tmp, put_at, h34]; omega))) (by kernel_rfl) ?_
  refine aw_seq ?_
  (refine aw_ops (by kernel_rfl) (fun K hK => ?_); simp (disch := first | omega | (simp only [List.length_set, List.length_append, List.length_cons, List.length_nil, iv_length, zl_length]; try omega; done)) [-getElem?_pos, -getElem?_neg, h6]; refine hK _ _ ?_; clear hK K)
  by_cases q2 : k < 128
  · refine aw_t (by (first | (simp [eval_tmp, put_at, q2]; done) | (simp [eval_tmp, put_at, q2]; omega))) (by kernel_rfl) ?_
    refine aw_seq ?_
    (refine aw_ops (by kernel_rfl) (fun K hK => ?_); simp (disch := first | omega | (simp only [List.length_set, List.length_append, List.length_cons, List.length_nil, iv_length, zl_length]; try omega; done)) [-getElem?_pos, -getElem?_neg, h0, h, h5, hsz, hex]; refine hK _ _ ?_; clear hK K)
    refine aw_seq ?_
    (refine aw_ops (by kernel_rfl) (fun K hK => ?_); simp (disch := first | omega | (simp only [List.length_set, List.length_append, List.length_cons, List.length_nil, iv_length, zl_length]; try omega; done)) [-getElem?_pos, -getElem?_neg, h4]; refine hK _ _ ?_; clear hK K)
    (refine aw_ret ?_; simp (disch := first | omega | (simp only [List.length_set, List.length_append, List.length_cons, List.length_nil, iv_length, zl_length]; try omega; done)) [-getElem?_pos, -getElem?_neg, thenQ_ret, scopeQ_ret, inBlockQ_ret, RQ, resL, resV, hgood q q2])
  refine aw_f (by (first | (simp [eval_tmp, put_at, q2]; done) | (simp [eval_tmp, put_at, q2]; omega))) (by kernel_rfl) ?_
  refine aw_skip ?_
  (refine aw_ops (by kernel_rfl) (fun K hK => ?_); simp (disch := first | omega | (simp only [List.length_set, List.length_append, List.length_cons, List.length_nil, iv_length, zl_length]; try omega; done)) [-getElem?_pos, -getElem?_neg, h12]; refine hK _ _ ?_; clear hK K)
  exact ⟨g, by omega, rfl, i + 1, n2, by omega, by (first | (simp [put_at, put_none, fr0_at]; done) | rfl), by (first | (simp [put_at, put_none, fr0_at, h4]; done) | rfl), by (first | (simp [put_at, put_none, fr0_at, h3]; done) | rfl), by (first | (simp [put_at, put_none, fr0_at, h0]; done) | rfl), by omega, by omega, hnext q q2⟩
end

section
open Go Go.RowKit
set_option linter.unusedVariables false
set_option linter.unusedSimpArgs false
set_option maxRecDepth 100000
set_option maxHeartbeats 4000000
theorem sn_nil0 : strOfNums [] = { data := #[] } := rfl
theorem sn_tl (l : List Int) : (strOfNums l).toList = l.map fun n => UInt8.ofNat n.toNat := by
  rw [ByteArray.toList_eq]; rfl
theorem sn_tnil (l : List Int) : ((strOfNums l).toList = []) = (l = []) := by
  rw [sn_tl]
  cases l <;> simp
theorem sn_eq {a b : List Int} (ha : By a) (hb : By b) : (strOfNums a).toList = (strOfNums b).toList ↔ a = b := by
  constructor
  · intro h
    rw [ByteArray.toList_eq, ByteArray.toList_eq] at h
    have h2 : strOfNums a = strOfNums b := ByteArray.ext (Array.toList_inj.1 h)
    rw [← nums_of a ha, h2, nums_of b hb]
  · rintro rfl; rfl
theorem rdN_by {g n : Nat} {l : List Int} (h : By l) : By (rdN g n l).2.1 ∧ (rdN g n l).2.1.length ≤ l.length := by
  induction g generalizing n l with
  | zero => exact ⟨h, Nat.le_refl _⟩
  | succ g ih =>
    cases l with
    | nil => exact ⟨h, Nat.le_refl _⟩
    | cons b l =>
      have hl : By l := fun x hx => h x (by simp [hx])
      unfold rdN
      split
      · exact ⟨hl, by simp⟩
      split
      · exact ⟨hl, by simp⟩
      · have := ih (n := n * 128 + b.toNat % 128) hl
        exact ⟨this.1, by simp; omega⟩
theorem rdN_val {g n : Nat} {l : List Int} : (rdN g n l).1 ≤ 4294967295 := by
  induction g generalizing n l with
  | zero => simp [rdN]
  | succ g ih =>
    cases l with
    | nil => simp [rdN]
    | cons b l =>
      unfold rdN
      split
      · simp
      split
      · simp; omega
      · exact ih
theorem rdN_err {g n : Nat} {l : List Int} : (rdN g n l).2.2 = 0 ∨ (rdN g n l).2.2 = 3 ∨ (rdN g n l).2.2 = 4 := by
  induction g generalizing n l with
  | zero => simp [rdN]
  | succ g ih =>
    cases l with
    | nil => simp [rdN]
    | cons b l =>
      unfold rdN
      split
      · simp
      split
      · simp
      · exact ih
theorem rdNum_by {l : List Int} (h : By l) : By (rdNum l).2.1 ∧ (rdNum l).2.1.length ≤ l.length := by
  unfold rdNum
  split
  · exact rdN_by h
  · exact ⟨h, Nat.le_refl _⟩
theorem rdNum_val {l : List Int} : (rdNum l).1 ≤ 4294967295 := by
  unfold rdNum
  split
  · exact rdN_val
  · simp
/-- A count read: it, what is left, the error. -/
def rdCount (most : Int) (l : List Int) : Nat × List Int × Int :=
  if (rdNum l).2.2 ≠ 0 then (0, l, (rdNum l).2.2) else if max most 0 < (rdNum l).1 then (0, l, 5) else rdNum l
def rdText (most : Int) (l : List Int) : List Int × List Int × Int :=
  if (rdCount most l).2.2 ≠ 0 then ([], l, (rdCount most l).2.2) else if (rdCount most l).2.1.length < (rdCount most l).1 then ([], l, 3)
  else ((rdCount most l).2.1.take (rdCount most l).1, (rdCount most l).2.1.drop (rdCount most l).1, 0)
theorem rdNum_bad {l : List Int} (h : (rdNum l).2.2 ≠ 0) : rdNum l = (0, l, (rdNum l).2.2) := by
  unfold rdNum at h ⊢
  split
  · rename_i e; rw [if_pos e, e] at h; exact absurd rfl h
  · rfl
theorem rdCount_by {most : Int} {l : List Int} (h : By l) : By (rdCount most l).2.1 ∧ (rdCount most l).2.1.length ≤ l.length := by
  unfold rdCount
  split
  · exact ⟨h, Nat.le_refl _⟩
  split
  · exact ⟨h, Nat.le_refl _⟩
  · exact rdNum_by h
theorem rdCount_val {most : Int} {l : List Int} : (rdCount most l).1 ≤ 4294967295 := by
  unfold rdCount
  split
  · simp
  split
  · simp
  · exact rdNum_val
theorem rdCount_bad {most : Int} {l : List Int} (h : (rdCount most l).2.2 ≠ 0) : rdCount most l = (0, l, (rdCount most l).2.2) := by
  unfold rdCount at h ⊢
  split
  · rfl
  split
  · rfl
  · rename_i e1 e2
    rw [if_neg e1, if_neg e2] at h
    exact absurd h e1
attribute [local simp] wb_bool wb_undef XL_nil XL_cons XLc_val XLc_call step1_eq stepW_t stepW_f stepC_n stepC_s stepX_s stepX_n stepN_s calleeX oneV xop_eq xopR_s xopR_n wantedA_eq wantedG_n wantedG_s plain1_int plain1_bool plain1_string bits_i64 bits_u64 bits_u32 bits_u16 bits_u8 xeqA xarr allK_iv num_iv calleeOf xread xeff xbin xint xnil xun xstr xload xconv xpart xfield xfieldAddr xindexAddr xindex bnd asInt? xslice xlen xmin xmax xbuild xfill xappend xapp2 xappstr xappmk xcap xcopy xcells eval_tmp eval_const put_at put_none fr0_at cells_agg cells_int cells_bool cells_string cells_ptr cells_slice notTuple tab iv_all hget_app hget_app0 hget_cons0 hget_cons set_app set_app0 setR setR_one QL_nil QL_cons QLc_val stepQ_t stepQ_f stepQC_n stepQC_s stepQX_s SL_nil SL_cons SLc_val stepS_t stepS_f ltT ltF leT leF eqT eqF ltTn ltFn leTn leFn eqTn eqFn beqT beqF bneT bneF wi64 wu64 wu32 wu16 wu8 tmodP tdivP hgetL hgetNe hgetEq setL nums_def nums_len Nat.succ_le_of_lt List.getElem?_cons_zero List.getElem?_cons_succ Option.getD_some Int.toNat_add Int.toNat_mul agB agI agS agP agL agA okB okI okS okP okSl okA
theorem end_ac {H : AH} {γ : Nat → Option Nat} {nro p : Nat} {l : List Int} {e : Int} (h : hget H p = some (rdC l e)) :
    AC Try.prog nro γ 19 #[.pointer (some ⟨p, 0, none⟩)] H (fun v' H' => v' = .int .i64 (if e = 0 ∧ l ≠ [] then 6 else e) ∧ H' = H) := by
  unfold rdC at h
  have hse := sn_tnil l
  refine ac_of_aw Try.func19 rfl Try.ntmps19 Try.results19 (by simp) ?_
  refine aw_seq ?_
  (refine aw_ops (by kernel_rfl) (fun K hK => ?_); simp (disch := first | omega | (simp only [List.length_set, List.length_append, List.length_cons, List.length_nil, iv_length, zl_length]; try omega; done)) [-getElem?_pos, -getElem?_neg]; refine hK _ _ ?_; clear hK K)
  refine aw_seq ?_
  refine aw_seq ?_
  by_cases he : e = 0
  · subst he
    (refine aw_ops (by kernel_rfl) (fun K hK => ?_); simp (disch := first | omega | (simp only [List.length_set, List.length_append, List.length_cons, List.length_nil, iv_length, zl_length]; try omega; done)) [-getElem?_pos, -getElem?_neg, h, hse]; refine hK _ _ ?_; clear hK K)
    by_cases hl : l = []
    · subst hl
      refine aw_f (by (first | (simp [eval_tmp, put_at, hse]; done) | (simp [eval_tmp, put_at, hse]; omega))) (by kernel_rfl) ?_
      refine aw_skip ?_
      refine aw_seq ?_
      (refine aw_ops (by kernel_rfl) (fun K hK => ?_); simp (disch := first | omega | (simp only [List.length_set, List.length_append, List.length_cons, List.length_nil, iv_length, zl_length]; try omega; done)) [-getElem?_pos, -getElem?_neg, h]; refine hK _ _ ?_; clear hK K)
      (refine aw_ret ?_; simp (disch := first | omega | (simp only [List.length_set, List.length_append, List.length_cons, List.length_nil, iv_length, zl_length]; try omega; done)) [-getElem?_pos, -getElem?_neg, thenQ_ret, scopeQ_ret, inBlockQ_ret, RQ, resL, resV])
    · refine aw_t (by (first | (simp [eval_tmp, put_at, hse, hl]; done) | (simp [eval_tmp, put_at, hse, hl]; omega))) (by kernel_rfl) ?_
      refine aw_seq ?_
      (refine aw_ops (by kernel_rfl) (fun K hK => ?_); simp (disch := first | omega | (simp only [List.length_set, List.length_append, List.length_cons, List.length_nil, iv_length, zl_length]; try omega; done)) [-getElem?_pos, -getElem?_neg]; refine hK _ _ ?_; clear hK K)
      (refine aw_ret ?_; simp (disch := first | omega | (simp only [List.length_set, List.length_append, List.length_cons, List.length_nil, iv_length, zl_length]; try omega; done)) [-getElem?_pos, -getElem?_neg, thenQ_ret, scopeQ_ret, inBlockQ_ret, RQ, resL, resV, hl])
  · (refine aw_ops (by kernel_rfl) (fun K hK => ?_); simp (disch := first | omega | (simp only [List.length_set, List.length_append, List.length_cons, List.length_nil, iv_length, zl_length]; try omega; done)) [-getElem?_pos, -getElem?_neg, h, he]; refine hK _ _ ?_; clear hK K)
    refine aw_f (by (first | (simp [eval_tmp, put_at]; done) | (simp [eval_tmp, put_at]; omega))) (by kernel_rfl) ?_
    refine aw_skip ?_
    refine aw_seq ?_
    (refine aw_ops (by kernel_rfl) (fun K hK => ?_); simp (disch := first | omega | (simp only [List.length_set, List.length_append, List.length_cons, List.length_nil, iv_length, zl_length]; try omega; done)) [-getElem?_pos, -getElem?_neg, h]; refine hK _ _ ?_; clear hK K)
    (refine aw_ret ?_; simp (disch := first | omega | (simp only [List.length_set, List.length_append, List.length_cons, List.length_nil, iv_length, zl_length]; try omega; done)) [-getElem?_pos, -getElem?_neg, thenQ_ret, scopeQ_ret, inBlockQ_ret, RQ, resL, resV, he])
theorem left_ac {H : AH} {γ : Nat → Option Nat} {nro p : Nat} {l : List Int} {e : Int} (h : hget H p = some (rdC l e)) (hl : l.length ≤ 1000000) :
    AC Try.prog nro γ 20 #[.pointer (some ⟨p, 0, none⟩)] H (fun v' H' => v' = .int .i64 (l.length : Nat) ∧ H' = H) := by
  unfold rdC at h
  have hsz := sn_size l
  refine ac_of_aw Try.func20 rfl Try.ntmps20 Try.results20 (by simp) ?_
  refine aw_seq ?_
  (refine aw_ops (by kernel_rfl) (fun K hK => ?_); simp (disch := first | omega | (simp only [List.length_set, List.length_append, List.length_cons, List.length_nil, iv_length, zl_length]; try omega; done)) [-getElem?_pos, -getElem?_neg]; refine hK _ _ ?_; clear hK K)
  refine aw_seq ?_
  (refine aw_ops (by kernel_rfl) (fun K hK => ?_); simp (disch := first | omega | (simp only [List.length_set, List.length_append, List.length_cons, List.length_nil, iv_length, zl_length]; try omega; done)) [-getElem?_pos, -getElem?_neg, h, hsz]; refine hK _ _ ?_; clear hK K)
  (refine aw_ret ?_; simp (disch := first | omega | (simp only [List.length_set, List.length_append, List.length_cons, List.length_nil, iv_length, zl_length]; try omega; done)) [-getElem?_pos, -getElem?_neg, thenQ_ret, scopeQ_ret, inBlockQ_ret, RQ, resL, resV])
theorem newreader_ac {H : AH} {γ : Nat → Option Nat} {nro : Nat} {l : List Int} :
    AC Try.prog nro γ 11 #[.string (strOfNums l)] H (fun v' H' => v' = .pointer (some ⟨H.length, 0, none⟩) ∧ H' = H ++ [some (rdC l 0)]) := by
  unfold rdC
  refine ac_of_aw Try.func11 rfl Try.ntmps11 Try.results11 (by simp) ?_
  refine aw_seq ?_
  (refine aw_ops (by kernel_rfl) (fun K hK => ?_); simp (disch := first | omega | (simp only [List.length_set, List.length_append, List.length_cons, List.length_nil, iv_length, zl_length]; try omega; done)) [-getElem?_pos, -getElem?_neg]; refine hK _ _ ?_; clear hK K)
  refine aw_seq ?_
  (refine aw_ops (by kernel_rfl) (fun K hK => ?_); simp (disch := first | omega | (simp only [List.length_set, List.length_append, List.length_cons, List.length_nil, iv_length, zl_length]; try omega; done)) [-getElem?_pos, -getElem?_neg]; refine hK _ _ ?_; clear hK K)
  (refine aw_ret ?_; simp (disch := first | omega | (simp only [List.length_set, List.length_append, List.length_cons, List.length_nil, iv_length, zl_length]; try omega; done)) [-getElem?_pos, -getElem?_neg, thenQ_ret, scopeQ_ret, inBlockQ_ret, RQ, resL, resV])
theorem giveup_ac {H : AH} {γ : Nat → Option Nat} {nro p : Nat} {l l2 : List Int} {e e2 : Int} (hp : nro ≤ p) (h : hget H p = some (rdC l e)) :
    AC Try.prog nro γ 31 #[.pointer (some ⟨p, 0, none⟩), .string (strOfNums l2), .int .i64 e2] H (fun v' H' => H' = H.set p (some (rdC l2 e2))) := by
  have hpl := hget_lt h
  unfold rdC at h ⊢
  refine ac_of_aw Try.func31 rfl Try.ntmps31 Try.results31 (by simp) ?_
  (refine aw_ops (by kernel_rfl) (fun K hK => ?_); simp (disch := first | omega | (simp only [List.length_set, List.length_append, List.length_cons, List.length_nil, iv_length, zl_length]; try omega; done)) [-getElem?_pos, -getElem?_neg, h]; refine hK _ _ ?_; clear hK K)
  exact ⟨_, _, rfl, rfl, rfl⟩
theorem count_ac {H : AH} {γ : Nat → Option Nat} {nro p : Nat} {l : List Int} {most : Int} (hp : nro ≤ p) (h : hget H p = some (rdC l 0)) (hb : By l) (hl : l.length ≤ 1000000) (hm : most ≤ 9223372036854775807) :
    AC Try.prog nro γ 30 #[.pointer (some ⟨p, 0, none⟩), .int .i64 most] H (fun v' H' => v' = .int .u64 ((rdCount most l).1 : Nat) ∧ H' = H.set p (some (rdC (rdCount most l).2.1 (rdCount most l).2.2))) := by
  have hnum := number_ac (γ := γ) hp h hb hl
  have hpl := hget_lt h
  obtain ⟨n, l2, e, hr⟩ : ∃ n l2 e, rdNum l = (n, l2, e) := ⟨_, _, _, rfl⟩
  have hv := rdNum_val (l := l)
  have hbad := rdNum_bad (l := l)
  have hc : rdCount most l = if e ≠ 0 then (0, l, e) else if max most 0 < n then (0, l, 5) else (n, l2, e) := by unfold rdCount; rw [hr]
  rw [hr] at hnum hv hbad
  simp only at hnum hv hbad
  obtain ⟨mx, hmx⟩ : ∃ mx, mx = max most 0 := ⟨_, rfl⟩
  have hmx0 : 0 ≤ mx ∧ mx ≤ 9223372036854775807 := by omega
  rw [← hmx] at hc
  unfold rdC at h hnum ⊢
  have hh := hgetEq (x := some ⟨[.string (strOfNums l2), .int .i64 e], 63, none⟩) hpl
  have hsl : p < (H.set p (some ⟨[.string (strOfNums l2), .int .i64 e], 63, none⟩)).length := by simpa using hpl
  refine ac_of_aw Try.func30 rfl Try.ntmps30 Try.results30 (by simp) ?_
  refine aw_seq ?_
  (refine aw_ops (by kernel_rfl) (fun K hK => ?_); simp (disch := first | omega | (simp only [List.length_set, List.length_append, List.length_cons, List.length_nil, iv_length, zl_length]; try omega; done)) [-getElem?_pos, -getElem?_neg]; refine hK _ _ ?_; clear hK K)
  refine aw_seq ?_
  (refine aw_ops (by kernel_rfl) (fun K hK => ?_); simp (disch := first | omega | (simp only [List.length_set, List.length_append, List.length_cons, List.length_nil, iv_length, zl_length]; try omega; done)) [-getElem?_pos, -getElem?_neg, h]; refine hK _ _ ?_; clear hK K)
  refine aw_seq ?_
  refine aw_ops (by kernel_rfl) (fun K hK => ?_)
  simp (disch := first | omega | (simp only [List.length_set, List.length_append, List.length_cons, List.length_nil, iv_length, zl_length]; try omega; done)) [-getElem?_pos, -getElem?_neg]
  refine ⟨by kernel_rfl, hnum.mono ?_⟩
  rintro v1 H1 ⟨rfl, rfl⟩
  try simp (disch := first | omega | (simp only [List.length_set, List.length_append, List.length_cons, List.length_nil, iv_length, zl_length]; try omega; done)) [-getElem?_pos, -getElem?_neg]
  refine hK _ _ ?_; clear hK K
  refine aw_seq ?_
  refine aw_seq ?_
  obtain ⟨H2, hH2⟩ : ∃ H2, H2 = H.set p (some ⟨[.string (strOfNums l2), .int .i64 e], 63, none⟩) := ⟨_, rfl⟩
  rw [← hH2] at hh hsl ⊢
  by_cases he : e = 0
  · subst he
    rw [if_neg (by simp)] at hc
    (refine aw_ops (by kernel_rfl) (fun K hK => ?_); simp (disch := first | omega | (simp only [List.length_set, List.length_append, List.length_cons, List.length_nil, iv_length, zl_length]; try omega; done)) [-getElem?_pos, -getElem?_neg, hh, ← hmx]; refine hK _ _ ?_; clear hK K)
    by_cases hq : mx < n
    · rw [if_pos hq] at hc
      refine aw_t (by (first | (simp [eval_tmp, put_at, hq]; done) | (simp [eval_tmp, put_at, hq]; omega))) (by kernel_rfl) ?_
      refine aw_seq ?_
      refine aw_ops (by kernel_rfl) (fun K hK => ?_)
      simp (disch := first | omega | (simp only [List.length_set, List.length_append, List.length_cons, List.length_nil, iv_length, zl_length]; try omega; done)) [-getElem?_pos, -getElem?_neg]
      refine ⟨by kernel_rfl, (giveup_ac (l := l2) (l2 := l) hp hh).mono ?_⟩
      rintro v1 H1 rfl
      try simp (disch := first | omega | (simp only [List.length_set, List.length_append, List.length_cons, List.length_nil, iv_length, zl_length]; try omega; done)) [-getElem?_pos, -getElem?_neg]
      refine hK _ _ ?_; clear hK K
      refine aw_seq ?_
      (refine aw_ops (by kernel_rfl) (fun K hK => ?_); simp (disch := first | omega | (simp only [List.length_set, List.length_append, List.length_cons, List.length_nil, iv_length, zl_length]; try omega; done)) [-getElem?_pos, -getElem?_neg]; refine hK _ _ ?_; clear hK K)
      (refine aw_ret ?_; simp (disch := first | omega | (simp only [List.length_set, List.length_append, List.length_cons, List.length_nil, iv_length, zl_length]; try omega; done)) [-getElem?_pos, -getElem?_neg, thenQ_ret, scopeQ_ret, inBlockQ_ret, RQ, resL, resV, hc, hH2, rdC])
    · rw [if_neg hq] at hc
      refine aw_f (by (first | (simp [eval_tmp, put_at, hq]; done) | (simp [eval_tmp, put_at, hq]; omega))) (by kernel_rfl) ?_
      refine aw_skip ?_
      refine aw_seq ?_
      (refine aw_ops (by kernel_rfl) (fun K hK => ?_); simp (disch := first | omega | (simp only [List.length_set, List.length_append, List.length_cons, List.length_nil, iv_length, zl_length]; try omega; done)) [-getElem?_pos, -getElem?_neg]; refine hK _ _ ?_; clear hK K)
      (refine aw_ret ?_; simp (disch := first | omega | (simp only [List.length_set, List.length_append, List.length_cons, List.length_nil, iv_length, zl_length]; try omega; done)) [-getElem?_pos, -getElem?_neg, thenQ_ret, scopeQ_ret, inBlockQ_ret, RQ, resL, resV, hc, hH2])
  · rw [if_pos he] at hc
    have hb2 := hbad he
    simp only [Prod.mk.injEq] at hb2
    obtain ⟨rfl, rfl, _⟩ := hb2
    (refine aw_ops (by kernel_rfl) (fun K hK => ?_); simp (disch := first | omega | (simp only [List.length_set, List.length_append, List.length_cons, List.length_nil, iv_length, zl_length]; try omega; done)) [-getElem?_pos, -getElem?_neg, hh, he]; refine hK _ _ ?_; clear hK K)
    refine aw_f (by (first | (simp [eval_tmp, put_at]; done) | (simp [eval_tmp, put_at]; omega))) (by kernel_rfl) ?_
    refine aw_skip ?_
    refine aw_seq ?_
    (refine aw_ops (by kernel_rfl) (fun K hK => ?_); simp (disch := first | omega | (simp only [List.length_set, List.length_append, List.length_cons, List.length_nil, iv_length, zl_length]; try omega; done)) [-getElem?_pos, -getElem?_neg]; refine hK _ _ ?_; clear hK K)
    (refine aw_ret ?_; simp (disch := first | omega | (simp only [List.length_set, List.length_append, List.length_cons, List.length_nil, iv_length, zl_length]; try omega; done)) [-getElem?_pos, -getElem?_neg, thenQ_ret, scopeQ_ret, inBlockQ_ret, RQ, resL, resV, hc, hH2])
theorem text_ac {H : AH} {γ : Nat → Option Nat} {nro p : Nat} {l : List Int} {most : Int} (hp : nro ≤ p) (h : hget H p = some (rdC l 0)) (hb : By l) (hl : l.length ≤ 1000000) (hm : most ≤ 9223372036854775807) :
    AC Try.prog nro γ 13 #[.pointer (some ⟨p, 0, none⟩), .int .i64 most] H (fun v' H' => v' = .string (strOfNums (rdText most l).1) ∧ H' = H.set p (some (rdC (rdText most l).2.1 (rdText most l).2.2))) := by
  have hnum := count_ac (γ := γ) hp h hb hl hm
  have hpl := hget_lt h
  obtain ⟨n, l2, e, hr⟩ : ∃ n l2 e, rdCount most l = (n, l2, e) := ⟨_, _, _, rfl⟩
  have hv := rdCount_val (l := l) (most := most)
  have hbad := rdCount_bad (l := l) (most := most)
  have hby := rdCount_by (l := l) (most := most) hb
  have hc : rdText most l = if e ≠ 0 then ([], l, e) else if l2.length < n then ([], l, 3) else (l2.take n, l2.drop n, 0) := by unfold rdText; rw [hr]
  rw [hr] at hnum hv hbad hby
  simp only at hnum hv hbad hby
  have hsz := sn_size l2
  have hex1 := ex_drop l2 n
  have hex2 := ex_take l2 n
  unfold rdC at h hnum ⊢
  have hh := hgetEq (x := some ⟨[.string (strOfNums l2), .int .i64 e], 63, none⟩) hpl
  have hsl : p < (H.set p (some ⟨[.string (strOfNums l2), .int .i64 e], 63, none⟩)).length := by simpa using hpl
  refine ac_of_aw Try.func13 rfl Try.ntmps13 Try.results13 (by simp) ?_
  refine aw_seq ?_
  (refine aw_ops (by kernel_rfl) (fun K hK => ?_); simp (disch := first | omega | (simp only [List.length_set, List.length_append, List.length_cons, List.length_nil, iv_length, zl_length]; try omega; done)) [-getElem?_pos, -getElem?_neg]; refine hK _ _ ?_; clear hK K)
  refine aw_seq ?_
  (refine aw_ops (by kernel_rfl) (fun K hK => ?_); simp (disch := first | omega | (simp only [List.length_set, List.length_append, List.length_cons, List.length_nil, iv_length, zl_length]; try omega; done)) [-getElem?_pos, -getElem?_neg, h]; refine hK _ _ ?_; clear hK K)
  refine aw_seq ?_
  refine aw_ops (by kernel_rfl) (fun K hK => ?_)
  simp (disch := first | omega | (simp only [List.length_set, List.length_append, List.length_cons, List.length_nil, iv_length, zl_length]; try omega; done)) [-getElem?_pos, -getElem?_neg]
  refine ⟨by kernel_rfl, hnum.mono ?_⟩
  rintro v1 H1 ⟨rfl, rfl⟩
  try simp (disch := first | omega | (simp only [List.length_set, List.length_append, List.length_cons, List.length_nil, iv_length, zl_length]; try omega; done)) [-getElem?_pos, -getElem?_neg]
  refine hK _ _ ?_; clear hK K
  refine aw_seq ?_
  obtain ⟨H2, hH2⟩ : ∃ H2, H2 = H.set p (some ⟨[.string (strOfNums l2), .int .i64 e], 63, none⟩) := ⟨_, rfl⟩
  rw [← hH2] at hh hsl ⊢
  by_cases he : e = 0
  · subst he
    rw [if_neg (by simp)] at hc
    refine aw_seq ?_
    (refine aw_ops (by kernel_rfl) (fun K hK => ?_); simp (disch := first | omega | (simp only [List.length_set, List.length_append, List.length_cons, List.length_nil, iv_length, zl_length]; try omega; done)) [-getElem?_pos, -getElem?_neg, hh, hsz]; refine hK _ _ ?_; clear hK K)
    by_cases hq : l2.length < n
    · rw [if_pos hq] at hc
      refine aw_t (by (first | (simp [eval_tmp, put_at, hq]; done) | (simp [eval_tmp, put_at, hq]; omega))) (by kernel_rfl) ?_
      refine aw_ops (by kernel_rfl) (fun K hK => ?_)
      simp (disch := first | omega | (simp only [List.length_set, List.length_append, List.length_cons, List.length_nil, iv_length, zl_length]; try omega; done)) [-getElem?_pos, -getElem?_neg]
      refine ⟨by kernel_rfl, (giveup_ac (l := l2) (l2 := l) hp hh).mono ?_⟩
      rintro v1 H1 rfl
      try simp (disch := first | omega | (simp only [List.length_set, List.length_append, List.length_cons, List.length_nil, iv_length, zl_length]; try omega; done)) [-getElem?_pos, -getElem?_neg]
      refine hK _ _ ?_; clear hK K
      have hh3 := hgetEq (x := some (rdC l 3)) hsl
      unfold rdC at hh3
      refine aw_seq ?_
      refine aw_seq ?_
      (refine aw_ops (by kernel_rfl) (fun K hK => ?_); simp (disch := first | omega | (simp only [List.length_set, List.length_append, List.length_cons, List.length_nil, iv_length, zl_length]; try omega; done)) [-getElem?_pos, -getElem?_neg, rdC, hh3]; refine hK _ _ ?_; clear hK K)
      refine aw_t (by (first | (simp [eval_tmp, put_at]; done) | (simp [eval_tmp, put_at]; omega))) (by kernel_rfl) ?_
      refine aw_seq ?_
      (refine aw_ops (by kernel_rfl) (fun K hK => ?_); simp (disch := first | omega | (simp only [List.length_set, List.length_append, List.length_cons, List.length_nil, iv_length, zl_length]; try omega; done)) [-getElem?_pos, -getElem?_neg]; refine hK _ _ ?_; clear hK K)
      (refine aw_ret ?_; simp (disch := first | omega | (simp only [List.length_set, List.length_append, List.length_cons, List.length_nil, iv_length, zl_length]; try omega; done)) [-getElem?_pos, -getElem?_neg, thenQ_ret, scopeQ_ret, inBlockQ_ret, RQ, resL, resV, hc, hH2, rdC, sn_nil0])
    · rw [if_neg hq] at hc
      refine aw_f (by (first | (simp [eval_tmp, put_at, hq]; done) | (simp [eval_tmp, put_at, hq]; omega))) (by kernel_rfl) ?_
      refine aw_skip ?_
      refine aw_seq ?_
      refine aw_seq ?_
      (refine aw_ops (by kernel_rfl) (fun K hK => ?_); simp (disch := first | omega | (simp only [List.length_set, List.length_append, List.length_cons, List.length_nil, iv_length, zl_length]; try omega; done)) [-getElem?_pos, -getElem?_neg, hh]; refine hK _ _ ?_; clear hK K)
      refine aw_f (by (first | (simp [eval_tmp, put_at]; done) | (simp [eval_tmp, put_at]; omega))) (by kernel_rfl) ?_
      refine aw_skip ?_
      refine aw_seq ?_
      (refine aw_ops (by kernel_rfl) (fun K hK => ?_); simp (disch := first | omega | (simp only [List.length_set, List.length_append, List.length_cons, List.length_nil, iv_length, zl_length]; try omega; done)) [-getElem?_pos, -getElem?_neg, hh, hsz, hex2]; refine hK _ _ ?_; clear hK K)
      refine aw_seq ?_
      (refine aw_ops (by kernel_rfl) (fun K hK => ?_); simp (disch := first | omega | (simp only [List.length_set, List.length_append, List.length_cons, List.length_nil, iv_length, zl_length]; try omega; done)) [-getElem?_pos, -getElem?_neg, hh, hsz, hex1]; refine hK _ _ ?_; clear hK K)
      refine aw_seq ?_
      (refine aw_ops (by kernel_rfl) (fun K hK => ?_); simp (disch := first | omega | (simp only [List.length_set, List.length_append, List.length_cons, List.length_nil, iv_length, zl_length]; try omega; done)) [-getElem?_pos, -getElem?_neg]; refine hK _ _ ?_; clear hK K)
      (refine aw_ret ?_; simp (disch := first | omega | (simp only [List.length_set, List.length_append, List.length_cons, List.length_nil, iv_length, zl_length]; try omega; done)) [-getElem?_pos, -getElem?_neg, thenQ_ret, scopeQ_ret, inBlockQ_ret, RQ, resL, resV, hc, hH2])
  · rw [if_pos he] at hc
    have hb2 := hbad he
    simp only [Prod.mk.injEq] at hb2
    obtain ⟨rfl, rfl, _⟩ := hb2
    refine aw_seq ?_
    (refine aw_ops (by kernel_rfl) (fun K hK => ?_); simp (disch := first | omega | (simp only [List.length_set, List.length_append, List.length_cons, List.length_nil, iv_length, zl_length]; try omega; done)) [-getElem?_pos, -getElem?_neg, hh, he]; refine hK _ _ ?_; clear hK K)
    refine aw_f (by (first | (simp [eval_tmp, put_at]; done) | (simp [eval_tmp, put_at]; omega))) (by kernel_rfl) ?_
    refine aw_skip ?_
    refine aw_seq ?_
    refine aw_seq ?_
    (refine aw_ops (by kernel_rfl) (fun K hK => ?_); simp (disch := first | omega | (simp only [List.length_set, List.length_append, List.length_cons, List.length_nil, iv_length, zl_length]; try omega; done)) [-getElem?_pos, -getElem?_neg, hh, he]; refine hK _ _ ?_; clear hK K)
    refine aw_t (by (first | (simp [eval_tmp, put_at, he]; done) | (simp [eval_tmp, put_at, he]; omega))) (by kernel_rfl) ?_
    refine aw_seq ?_
    (refine aw_ops (by kernel_rfl) (fun K hK => ?_); simp (disch := first | omega | (simp only [List.length_set, List.length_append, List.length_cons, List.length_nil, iv_length, zl_length]; try omega; done)) [-getElem?_pos, -getElem?_neg]; refine hK _ _ ?_; clear hK K)
    (refine aw_ret ?_; simp (disch := first | omega | (simp only [List.length_set, List.length_append, List.length_cons, List.length_nil, iv_length, zl_length]; try omega; done)) [-getElem?_pos, -getElem?_neg, thenQ_ret, scopeQ_ret, inBlockQ_ret, RQ, resL, resV, hc, hH2, sn_nil0])
end
end Go.Proofs.Ytpdijcaikjobiaa
