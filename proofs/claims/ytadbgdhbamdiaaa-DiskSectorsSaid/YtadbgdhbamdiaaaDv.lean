/-
  The reference's new disk; what every right program answers.
-/
import Derived.Test.YtadbgdhbamdiaaaDt
namespace Go.Proofs.Ytadbgdhbamdiaaa
open Go Go.RowKit
set_option linter.unusedVariables false
set_option linter.unusedSimpArgs false
set_option maxRecDepth 100000
set_option maxHeartbeats 4000000

theorem zeros_u8 (n : Nat) : ((List.range n).map fun j => [Value.int .u8 0][j % 1]?.getD undef) = iv .u8 (zl n) := by
  have e : (fun j : Nat => [Value.int .u8 0][j % 1]?.getD undef) = fun _ => Value.int .u8 0 := by
    funext j
    rw [Nat.mod_one]; rfl
  rw [e, List.map_const', List.length_range]
  simp [iv, zl]
theorem shown_get (l : Nat) {H L : AH} {N : List Blk} {i j : Nat} {b : Blk} (h : Shown H.length N L (.slice (some ⟨i, 0, none⟩) l l)) (hi : i = H.length + j) (hb : N[j]? = some b) : hget (H ++ L) i = some b := by
  have := h j b hi hb
  rw [hi, hget_app]
  exact this
theorem hget_end (H : AH) : hget H H.length = none := by unfold hget; simp
theorem zs256 : strOfNums (zl 256) = zs 256 := by rw [← nums_zs, of_nums']
attribute [local simp] wb_bool wb_undef XL_nil XL_cons XLc_val XLc_call step1_eq stepW_t stepW_f stepC_n stepC_s stepX_s xop_eq xopR_s xopR_n wantedA_eq wantedG_n wantedG_s plain1_int plain1_bool plain1_string bits_i64 bits_u64 bits_u32 bits_u16 bits_u8 xeqA xarr allK_iv num_iv calleeOf xread xeff xbin xint xnil xun xstr xload xconv xpart xfield xfieldAddr xindexAddr xindex bnd asInt? xslice xlen xmin xmax xbuild xfill xappend xcopy xcells eval_tmp eval_const put_at put_none fr0_at cells_agg cells_int cells_bool cells_string cells_ptr cells_slice notTuple tab iv_all hget_app hget_app0 hget_cons0 hget_cons set_app set_app0 setR setR_one QL_nil QL_cons QLc_val stepQ_t stepQ_f stepQC_n stepQC_s stepQX_s SL_nil SL_cons SLc_val stepS_t stepS_f ltT ltF leT leF eqT eqF ltTn ltFn leTn leFn eqTn eqFn beqT beqF bneT bneF wi64 wu64 wu32 wu16 wu8 tmodP tdivP hgetL hgetNe hgetEq setL nums_def nums_len Nat.succ_le_of_lt List.getElem?_cons_zero List.getElem?_cons_succ Option.getD_some Int.toNat_add Int.toNat_mul agB agI agS agP agL agA okB okI okS okP okSl okA

section
variable {H : AH} {γ : Nat → Option Nat} {nro : Nat}
theorem rnew_ac (b : Int) (hnro : nro ≤ H.length) : AC Try.prog nro γ 9 #[.int .i64 b] H (fun v' H' => v' = .pointer (some ⟨H.length, 0, none⟩) ∧ ∃ F, Rk H' H.length F (newD b) ∧ Fr H H' [] F) := by
  have hbd := newN_bd b
  refine ac_of_aw Try.func9 rfl Try.ntmps9 Try.results9 (by simp) ?_
  refine aw_seq ?_
  (refine aw_ops (by kernel_rfl) (fun K hK => ?_); simp (disch := first | omega | (simp only [List.length_set, List.length_append, List.length_cons, List.length_nil, iv_length, zl_length]; try omega; done)) [-getElem?_pos, -getElem?_neg]; refine hK _ _ ?_; clear hK K)
  refine aw_seq ?_
  refine aw_cut (fun α G => α 0 = .int .i64 (if b < 1 then 1 else b) ∧ G = H) ?_ ?_
  · refine aw_seq ?_
    by_cases hc : b < 1
    · (refine aw_ops (by kernel_rfl) (fun K hK => ?_); simp (disch := first | omega | (simp only [List.length_set, List.length_append, List.length_cons, List.length_nil, iv_length, zl_length]; try omega; done)) [-getElem?_pos, -getElem?_neg, hc]; refine hK _ _ ?_; clear hK K)
      refine aw_t (by (first | (simp [eval_tmp, put_at, hc]; done) | (simp [eval_tmp, put_at, hc]; omega))) (by kernel_rfl) ?_
      (refine aw_ops (by kernel_rfl) (fun K hK => ?_); simp (disch := first | omega | (simp only [List.length_set, List.length_append, List.length_cons, List.length_nil, iv_length, zl_length]; try omega; done)) [-getElem?_pos, -getElem?_neg]; refine hK _ _ ?_; clear hK K)
      exact ⟨by simp [put_at, hc], rfl⟩
    · (refine aw_ops (by kernel_rfl) (fun K hK => ?_); simp (disch := first | omega | (simp only [List.length_set, List.length_append, List.length_cons, List.length_nil, iv_length, zl_length]; try omega; done)) [-getElem?_pos, -getElem?_neg, hc]; refine hK _ _ ?_; clear hK K)
      refine aw_f (by (first | (simp [eval_tmp, put_at, hc]; done) | (simp [eval_tmp, put_at, hc]; omega))) (by kernel_rfl) ?_
      refine aw_skip ?_
      exact ⟨by simp [put_at, hc, fr0_at], rfl⟩
  rintro α G ⟨h0, rfl⟩
  generalize hb1 : (if b < 1 then 1 else b) = b1 at h0
  refine aw_seq ?_
  refine aw_cut (fun α G2 => α 0 = .int .i64 (newN b : Nat) ∧ G2 = G) ?_ ?_
  · have hnb : (newN b : Int) = if b1 > 1024 then 1024 else b1 := by unfold newN; rw [hb1]; split <;> split at hb1 <;> omega
    refine aw_seq ?_
    by_cases hc : b1 > 1024
    · (refine aw_ops (by kernel_rfl) (fun K hK => ?_); simp (disch := first | omega | (simp only [List.length_set, List.length_append, List.length_cons, List.length_nil, iv_length, zl_length]; try omega; done)) [-getElem?_pos, -getElem?_neg, h0, hc]; refine hK _ _ ?_; clear hK K)
      refine aw_t (by (first | (simp [eval_tmp, put_at, hc]; done) | (simp [eval_tmp, put_at, hc]; omega))) (by kernel_rfl) ?_
      (refine aw_ops (by kernel_rfl) (fun K hK => ?_); simp (disch := first | omega | (simp only [List.length_set, List.length_append, List.length_cons, List.length_nil, iv_length, zl_length]; try omega; done)) [-getElem?_pos, -getElem?_neg]; refine hK _ _ ?_; clear hK K)
      exact ⟨by simp [put_at, hc, hnb], rfl⟩
    · (refine aw_ops (by kernel_rfl) (fun K hK => ?_); simp (disch := first | omega | (simp only [List.length_set, List.length_append, List.length_cons, List.length_nil, iv_length, zl_length]; try omega; done)) [-getElem?_pos, -getElem?_neg, h0, hc]; refine hK _ _ ?_; clear hK K)
      refine aw_f (by (first | (simp [eval_tmp, put_at, hc]; done) | (simp [eval_tmp, put_at, hc]; omega))) (by kernel_rfl) ?_
      refine aw_skip ?_
      exact ⟨by simp [put_at, hc, hnb, h0], rfl⟩
  clear h0
  rintro α G2 ⟨h0, rfl⟩
  refine aw_seq ?_
  (refine aw_ops (by kernel_rfl) (fun K hK => ?_); simp (disch := first | omega | (simp only [List.length_set, List.length_append, List.length_cons, List.length_nil, iv_length, zl_length]; try omega; done)) [-getElem?_pos, -getElem?_neg, plain_nil]; refine hK _ _ ?_; clear hK K)
  refine aw_seq ?_
  refine aw_seq ?_
  (refine aw_ops (by kernel_rfl) (fun K hK => ?_); simp (disch := first | omega | (simp only [List.length_set, List.length_append, List.length_cons, List.length_nil, iv_length, zl_length]; try omega; done)) [-getElem?_pos, -getElem?_neg]; refine hK _ _ ?_; clear hK K)
  refine aw_block ?_
  refine aw_loop (fun q α H' => ∃ i : Nat, i + q = newN b ∧ α 4 = .int .i64 (i : Nat) ∧ α 0 = .int .i64 (newN b : Nat) ∧ α 3 = .pointer (some ⟨G2.length, 0, none⟩) ∧ G2.length < H'.length ∧ (∀ j, j < G2.length → hget H' j = hget G2 j) ∧
    ∃ V FF, hget H' G2.length = some ⟨[V, .slice none 0 0, .slice none 0 0, .int .i64 (-1), .bool false], 44, none⟩ ∧ OwnF H' V 9 1 (List.replicate i (.string (zs 256))) FF ∧ ∀ j ∈ FF, G2.length < j) (newN b) ?_ ?_
  · exact ⟨0, by omega, by (first | (simp [put_at, put_none, fr0_at]; done) | rfl), by (first | (simp [put_at, put_none, fr0_at, h0]; done) | rfl), by (first | (simp [put_at, put_none, fr0_at]; done) | rfl), by simp, fun j hj => hget_left hj, .slice none 0 0, [], by rw [hget_app0]; rfl, .inl ⟨rfl, rfl, rfl⟩, by simp⟩
  clear h0
  rintro q α H' ⟨i, hiq, h4, h0, h3, hgl, hgo, V, FF, hgv, hV, hFF⟩
  refine aw_seq ?_
  refine aw_seq ?_
  (refine aw_ops (by kernel_rfl) (fun K hK => ?_); simp (disch := first | omega | (simp only [List.length_set, List.length_append, List.length_cons, List.length_nil, iv_length, zl_length]; try omega; done)) [-getElem?_pos, -getElem?_neg, h4, h0]; refine hK _ _ ?_; clear hK K)
  by_cases hi : i < newN b
  · refine aw_t (by (first | (simp [eval_tmp, put_at, hi]; done) | (simp [eval_tmp, put_at, hi]; omega))) (by kernel_rfl) ?_
    refine aw_skip ?_
    refine aw_seq ?_
    refine aw_block ?_
    obtain ⟨B1, hB1⟩ : ∃ B1, B1 = (some ⟨iv .u8 (zl 256), 5, some 1⟩ : Option Blk) := ⟨_, rfl⟩
    obtain ⟨B2, hB2⟩ : ∃ B2, B2 = (some ⟨[.string (zs 256)], 9, some 1⟩ : Option Blk) := ⟨_, rfl⟩
    obtain ⟨V2, H2, hap, hown, hlen2, hkeep⟩ := ownF_append (P := Try.prog) (nro := nro) (t := 41) (e := 9) (H := H' ++ [B1, B2]) (v := V) (x := .slice (some ⟨H'.length + 1, 0, none⟩) 1 1) (sz := 1)
        (cells := List.replicate i (.string (zs 256))) (news := [.string (zs 256)]) (F := FF) (by simp) (by simp) (by omega) (by simp) (hV.low (fun j hj => by rw [hget_left (hV.lt j hj)]))
        (fun j hj => by have := hFF j hj; omega) (fun s e => by cases e) (by simp [xcells, hB2, hget_app, hget_cons]) (by simp) (by simp) (by simp; omega) (by simp [maxLen]; omega)
    have hgl1 : (H' ++ [B1, B2]).length = H'.length + 2 := by simp
    rw [hgl1] at hown hlen2
    have hv2 : hget H2 G2.length = _ := (hkeep G2.length (by omega) (fun hm => by have := hFF _ hm; omega)).trans ((hget_left hgl).trans hgv)
    obtain ⟨len2, rfl⟩ := hown.new
    subst hB1 hB2
    have hvl2 := hget_lt hv2
    (refine aw_plan [] [0] [1, 2, 3, 4, 5, 6, 7] 8 4 (by kernel_rfl) (by kernel_rfl) (by kernel_rfl) (fun K hK => ?_)); simp only [sel, List.getElem?_cons_succ, List.getElem?_cons_zero, List.drop_succ_cons, List.drop_zero]; simp (disch := first | omega | (simp only [List.length_set, List.length_append, List.length_cons, List.length_nil, iv_length, zl_length]; try omega; done)) [-getElem?_pos, -getElem?_neg, -xappend, hap, h3, hgv, zeros_u8, maxLen, hget_end, PL_nil, PL_cons, PLc_val, PLc_new, stepP_t, stepP_f, stepPC_n, stepPC_s, stepPX_s, stepPX_n, stepPA_t, stepPA_c, stepPA_l, stepPN_s, allocOp, reloc_sl, reloc_ptr, List.map_cons, List.map_nil, List.nil_append, List.append_assoc, List.cons_append, Nat.add_assoc]
    refine PLc_conv (v := .string (zs 256)) (fun L hL => ?_) (by simp [pv_iv, pv_int, pv_bool, pv_string, pv_tup2, pv_tup3, iv_plain, p2_int, p2_bool, p2_string]) ?_
    · try simp only [eval_tmp] at hL ⊢
      try simp [put_at] at hL ⊢
      have := shown_get 256 (H := H') (j := 0) (by simpa using hL) (by simp) rfl
      have t256 : (iv .u8 (zl 256)).take 256 = iv .u8 (zl 256) := rfl
      rw [hget_app0] at this
      simp [this, t256, byteList_iv, zs256]
    simp (disch := first | omega | (simp only [List.length_set, List.length_append, List.length_cons, List.length_nil, iv_length, zl_length]; try omega; done)) [-getElem?_pos, -getElem?_neg, -xappend, hap, hv2, h3, PL_nil, PL_cons, PLc_val, PLc_new, stepP_t, stepP_f, stepPC_n, stepPC_s, stepPX_s, stepPX_n, stepPA_t, stepPA_c, stepPA_l, stepPN_s, allocOp, reloc_sl, reloc_ptr, List.map_cons, List.map_nil, List.nil_append, List.append_assoc, List.cons_append, Nat.add_assoc]
    refine hK _ _ ?_; clear hK K
    (refine aw_ops (by kernel_rfl) (fun K hK => ?_); simp (disch := first | omega | (simp only [List.length_set, List.length_append, List.length_cons, List.length_nil, iv_length, zl_length]; try omega; done)) [-getElem?_pos, -getElem?_neg, h4]; refine hK _ _ ?_; clear hK K)
    refine ⟨q - 1, by omega, i + 1, by omega, by (first | (simp [put_at, put_none, fr0_at]; done) | rfl), by (first | (simp [put_at, put_none, fr0_at, h0]; done) | rfl), by (first | (simp [put_at, put_none, fr0_at, h3]; done) | rfl), by simp; omega, fun j hj => ?_, _, [H'.length + 2], by rw [hget_set_eq hvl2], ?_, fun j hj => by rw [List.mem_singleton] at hj; omega⟩
    · rw [hget_set_ne (by omega), hkeep j (by omega) (fun hm => by have := hFF _ hm; omega), hget_left (by omega)]
      exact hgo j hj
    · rw [List.replicate_succ']
      exact hown.low (fun j hj => hget_set_ne (by rw [List.mem_singleton] at hj; omega))
  · obtain rfl : i = newN b := by omega
    refine aw_f (by (first | (simp [eval_tmp, put_at, hi]; done) | (simp [eval_tmp, put_at, hi]; omega))) (by kernel_rfl) ?_
    refine aw_exit ?_
    refine aw_seq ?_
    (refine aw_ops (by kernel_rfl) (fun K hK => ?_); simp (disch := first | omega | (simp only [List.length_set, List.length_append, List.length_cons, List.length_nil, iv_length, zl_length]; try omega; done)) [-getElem?_pos, -getElem?_neg, h3]; refine hK _ _ ?_; clear hK K)
    (refine aw_ret ?_; simp (disch := first | omega | (simp only [List.length_set, List.length_append, List.length_cons, List.length_nil, iv_length, zl_length]; try omega; done)) [-getElem?_pos, -getElem?_neg, thenQ_ret, inBlockQ_ret, RQ, resL, resV])
    have hgvl := hget_lt hgv
    have hnl : (newD b).firm.length = newN b := by simp [newD]
    have hV2 : ∃ f, V = .slice (some ⟨f, 0, none⟩) (newN b) (newN b) ∧ hget H' f = some ⟨List.replicate (newN b) (.string (zs 256)), 9, some 1⟩ ∧ FF = [f] :=
      hV.slice (by intro e; have := congrArg List.length e; simp at this; omega) (by omega) (by simp)
    obtain ⟨f, rfl, hf, rfl⟩ := hV2
    have hff := hFF f (by simp)
    refine ⟨[G2.length, f], ⟨newD_ok b, f, .slice none 0 0, .slice none 0 0, [], [], rfl, ⟨by rw [hgv, hnl]; rfl, by rw [hf]; simp [newD], .inl ⟨rfl, rfl, rfl⟩, .inl ⟨rfl, rfl, rfl⟩, by omega, by simp, by simp, by simp⟩⟩, ⟨by omega, fun j hj _ => hgo j hj, fun j hj => ?_⟩⟩
    simp only [List.mem_cons, List.not_mem_nil, or_false] at hj
    right; omega
end
end Go.Proofs.Ytadbgdhbamdiaaa
