/-
  Numbers, texts between quotes; the first token of a text.
-/
import Derived.Test.YtcdkpeepboofhaaTb
namespace Go.Proofs.Ytcdkpeepboofhaa
open Go Go.RowKit
set_option linter.unusedVariables false
set_option linter.unusedSimpArgs false
set_option maxRecDepth 100000
set_option maxHeartbeats 4000000
theorem own_shape {H : AH} {v : Value} {e : TypeId} {sz : Nat} {cells : List Value} {F : List Nat} (h : OwnF H v e sz cells F) : notTuple v = true ∧ v.cells = #[v] := by
  rcases h with ⟨rfl, _⟩ | ⟨j, len, rfl, _⟩ <;> exact ⟨rfl, rfl⟩
theorem numV_bd : ∀ {v : Int} {l : List Int} {r : Int}, 0 ≤ v → v ≤ 999999999 → (∀ c ∈ l, 48 ≤ c) → numV v l = some r → 0 ≤ r ∧ r ≤ 999999999
  | v, [], r, h0, h1, _, h => by
    cases h
    exact ⟨h0, h1⟩
  | v, c :: l, r, h0, h1, hc, h => by
    rw [numV] at h
    split at h
    · cases h
    · rename_i hn
      have := hc c (by simp)
      exact numV_bd (by omega) (by omega) (fun x hx => hc x (by simp [hx])) h
attribute [local simp] wb_bool wb_undef XL_nil XL_cons XLc_val XLc_call step1_eq stepW_t stepW_f stepC_n stepC_s stepX_s stepX_n stepN_s calleeX oneV xop_eq xopR_s xopR_n wantedA_eq wantedG_n wantedG_s plain1_int plain1_bool plain1_string bits_i64 bits_u64 bits_u32 bits_u16 bits_u8 xeqA xagg xcmp xarr allK_iv num_iv calleeOf xread xeff xbin xint xnil xun xstr xload xconv xpart xfield xfieldAddr xindexAddr xindex bnd asInt? xslice xlen xmin xmax xbuild xfill xappend xapp2 xappstr xappmk xcap xcopy xcells eval_tmp eval_const put_at put_none fr0_at cells_agg cells_int cells_bool cells_string cells_ptr cells_slice notTuple tab iv_all hget_app hget_app0 hget_cons0 hget_cons set_app set_app0 setR setR_one QL_nil QL_cons QLc_val stepQ_t stepQ_f stepQC_n stepQC_s stepQX_s SL_nil SL_cons SLc_val stepS_t stepS_f ltT ltF leT leF eqT eqF ltTn ltFn leTn leFn eqTn eqFn beqT beqF bneT bneF wi64 wu64 wu32 wu16 wu8 tmodP tdivP hgetL hgetNe hgetEq setL nums_def nums_len Nat.succ_le_of_lt List.getElem?_cons_zero List.getElem?_cons_succ Option.getD_some Int.toNat_add Int.toNat_mul agB agI agS agP agL agA okB okI okS okP okSl okA
theorem buf_append {H : AH} {v : Value} {b : List Int} {F : List Nat} (x : Int) (h : OwnF H v 5 1 (iv .u8 b) F) (hb : b.length ≤ 1000000) :
    ∃ v' H', xappend Try.prog 0 22 v (.slice (some ⟨H.length, 0, none⟩) 1 1) (H ++ [some ⟨[.int .u8 x], 5, some 1⟩]) = some (v', H') ∧ notTuple v' = true ∧ v'.cells = #[v'] ∧ OwnF H' v' 5 1 (iv .u8 (b ++ [x])) [H.length + 1] ∧ H'.length = H.length + 2 ∧ ∀ j, j < H.length → j ∉ F → hget H' j = hget H j := by
  have hlt := h.lt
  have hxc : xcells 1 (.slice (some ⟨H.length, 0, none⟩) 1 1) (H ++ [some ⟨[.int .u8 x], 5, some 1⟩]) = some (iv .u8 [x]) := by simp [xcells, iv, hget_app0]
  have hivb : (iv .u8 b).length = b.length := iv_length _ _
  obtain ⟨v', H', hap, ho, hlen, hk⟩ := ownF_append (P := Try.prog) (nro := 0) (t := 22) (e := 5) (H := H ++ [some ⟨[.int .u8 x], 5, some 1⟩]) (v := v) (x := .slice (some ⟨H.length, 0, none⟩) 1 1) (sz := 1) (cells := iv .u8 b) (news := iv .u8 [x]) (F := F) (by simp) (by simp) (by omega) (by simp) (h.low (fun j hj => hget_left (hlt j hj)))
    (fun j hj => Nat.zero_le _) (fun s e => by cases e) hxc (by simp [iv]) (Nat.mod_one _) (by rw [hivb]; simp [iv]; omega) (by rw [hivb]; simp [iv, maxLen]; omega)
  have hs := own_shape ho
  refine ⟨v', H', hap, hs.1, hs.2, ?_, by rw [hlen]; simp, fun j hj hn => (hk j (by simp; omega) hn).trans (hget_left hj)⟩
  rw [iv_append]
  simpa using ho
theorem nt_int (k : IntKind) (x : Int) : notTuple (.int k x) = true := rfl
theorem nt_sl (a : Option Addr) (n c : Nat) : notTuple (.slice a n c) = true := rfl
section
variable {l : List Int}
theorem number_vc (hb : By l) (hl : l.length ≤ 1000000) (hne : l ≠ []) : VC Try.prog 16 #[.string (strOfNums l)] (numberL l).val := by
  have hsz := sn_size l
  have hle := runL_le isDigB l
  have hall := runL_all (f := isDigB) (l := l)
  have hru := run_vc (F := 15) (f := isDigB) (by kernel_rfl) (fun c hc => dig_vc hc) hb hl
  have hpos : 0 < l.length := List.length_pos_iff.2 hne
  have hg0 : gb (strOfNums l) 0 = l.getD 0 0 := gb_sn hb 0
  have hc0 := hb.get 0
  obtain ⟨R, hR⟩ : ∃ R, R = numberL l := ⟨_, rfl⟩
  have hR2 := hR
  unfold numberL at hR2
  rw [← hR]
  generalize runL isDigB l = n at hle hru hall hR2
  generalize l.getD 0 0 = c0 at hg0 hR2 hc0
  have hex := ex_take l n
  obtain ⟨D, hD⟩ : ∃ D, D = l.take n := ⟨_, rfl⟩
  have hDb : By D := by rw [hD]; exact hb.take n
  have hDl : D.length = n := by rw [hD, List.length_take]; omega
  have hnD := nums_of D hDb
  have hszD := sn_size D
  have hDd : ∀ x ∈ D, 48 ≤ x ∧ x ≤ 57 := fun x hx => by
    have := hall x (by rw [← hD]; exact hx)
    simpa [isDigB] using this
  rw [← hD] at hex hR2
  clear hall
  refine vc_of_ac (by simp [pv_iv, pv_int, pv_bool, pv_string, pv_tup2, pv_tup3, iv_plain, p2_int, p2_bool, p2_string]) (pv_tr _) ?_
  refine ac_of_aw Try.func16 rfl Try.ntmps16 Try.results16 (by simp) ?_
  refine aw_seq ?_
  (refine aw_ops (by kernel_rfl) (fun K hK => ?_); simp (disch := first | omega | (simp only [List.length_set, List.length_append, List.length_cons, List.length_nil, iv_length, zl_length]; try omega; done)) [-getElem?_pos, -getElem?_neg]; refine hK _ _ ?_; clear hK K)
  refine aw_seq ?_
  refine aw_ops (by kernel_rfl) (fun K hK => ?_)
  simp (disch := first | omega | (simp only [List.length_set, List.length_append, List.length_cons, List.length_nil, iv_length, zl_length]; try omega; done)) [-getElem?_pos, -getElem?_neg]
  refine ⟨by kernel_rfl, ac_of_vc (by simp [pv_fn, pv_string, pv_int, eval_fn]) hru ?_⟩
  try simp (disch := first | omega | (simp only [List.length_set, List.length_append, List.length_cons, List.length_nil, iv_length, zl_length]; try omega; done)) [-getElem?_pos, -getElem?_neg]
  refine hK _ _ ?_; clear hK K
  refine aw_seq ?_
  refine aw_seq ?_
  refine aw_cut (fun α G => G = [some ⟨tk0.cells 0, 29, none⟩] ∧ α 0 = .string (strOfNums l) ∧ α 2 = .pointer (some ⟨0, 0, none⟩) ∧ α 5 = .int .i64 (n : Nat) ∧ α 17 = .bool (decide (c0 = 48 ∧ 1 < n))) ?_ ?_
  · by_cases h1 : c0 = 48
    · (refine aw_ops (by kernel_rfl) (fun K hK => ?_); simp (disch := first | omega | (simp only [List.length_set, List.length_append, List.length_cons, List.length_nil, iv_length, zl_length]; try omega; done)) [-getElem?_pos, -getElem?_neg, hsz, hg0, h1]; refine hK _ _ ?_; clear hK K)
      exact ⟨rfl, by (first | (simp [put_at, put_none, fr0_at]; done) | rfl), by (first | (simp [put_at, put_none, fr0_at]; done) | rfl), by (first | (simp [put_at, put_none, fr0_at]; done) | rfl), by simp [put_at, h1]; omega⟩
    · (refine aw_ops (by kernel_rfl) (fun K hK => ?_); simp (disch := first | omega | (simp only [List.length_set, List.length_append, List.length_cons, List.length_nil, iv_length, zl_length]; try omega; done)) [-getElem?_pos, -getElem?_neg, hsz, hg0, h1]; refine hK _ _ ?_; clear hK K)
      exact ⟨rfl, by (first | (simp [put_at, put_none, fr0_at]; done) | rfl), by (first | (simp [put_at, put_none, fr0_at]; done) | rfl), by (first | (simp [put_at, put_none, fr0_at]; done) | rfl), by simp [put_at, h1]⟩
  rintro α G ⟨rfl, h0, h2, h5, h17⟩
  by_cases h1 : c0 = 48 ∧ 1 < n
  · rw [if_pos h1] at hR2
    refine aw_t (by (first | (simp [eval_tmp, put_at, h17, h1]; done) | (simp [eval_tmp, put_at, h17, h1]; omega))) (by kernel_rfl) ?_
    refine aw_seq ?_
    (refine aw_ops (by kernel_rfl) (fun K hK => ?_); simp (disch := first | omega | (simp only [List.length_set, List.length_append, List.length_cons, List.length_nil, iv_length, zl_length]; try omega; done)) [-getElem?_pos, -getElem?_neg, h2, tk0, Tk.cells]; refine hK _ _ ?_; clear hK K)
    (refine aw_ret ?_; simp (disch := first | omega | (simp only [List.length_set, List.length_append, List.length_cons, List.length_nil, iv_length, zl_length]; try omega; done)) [-getElem?_pos, -getElem?_neg, thenQ_ret, scopeQ_ret, inBlockQ_ret, RQ, resL, resV, h2, hR2, TR.val, Tk.val, tk0])
    rfl
  rw [if_neg h1] at hR2
  refine aw_f (by (first | (simp [eval_tmp, put_at, h17, h1]; done) | (simp [eval_tmp, put_at, h17, h1]; omega))) (by kernel_rfl) ?_
  refine aw_skip ?_
  refine aw_seq ?_
  (refine aw_ops (by kernel_rfl) (fun K hK => ?_); simp (disch := first | omega | (simp only [List.length_set, List.length_append, List.length_cons, List.length_nil, iv_length, zl_length]; try omega; done)) [-getElem?_pos, -getElem?_neg]; refine hK _ _ ?_; clear hK K)
  refine aw_seq ?_
  refine aw_seq ?_
  (refine aw_ops (by kernel_rfl) (fun K hK => ?_); simp (disch := first | omega | (simp only [List.length_set, List.length_append, List.length_cons, List.length_nil, iv_length, zl_length]; try omega; done)) [-getElem?_pos, -getElem?_neg, h0, h5, hsz, hex, hnD, hszD]; refine hK _ _ ?_; clear hK K)
  refine aw_block ?_
  refine aw_loop (fun q α G => G = [some ⟨tk0.cells 0, 29, none⟩, some ⟨iv .u8 D, 5, none⟩] ∧ ∃ (i : Nat) (v : Int), i + q = n ∧ α 24 = .int .i64 (i : Nat) ∧ α 23 = .int .i64 (n : Nat) ∧ α 22 = .slice (some ⟨1, 0, none⟩) n n ∧ α 2 = .pointer (some ⟨0, 0, none⟩) ∧ α 5 = .int .i64 (n : Nat) ∧ α 6 = .int .i64 v ∧ 0 ≤ v ∧ v ≤ 999999999 ∧ numV 0 D = numV v (D.drop i)) n ?_ ?_
  · exact ⟨rfl, 0, 0, by omega, by (first | (simp [put_at, put_none, fr0_at]; done) | rfl), by simp [put_at, hDl], by simp [put_at, hDl], by (first | (simp [put_at, put_none, fr0_at, h2]; done) | rfl), by (first | (simp [put_at, put_none, fr0_at, h5]; done) | rfl), by (first | (simp [put_at, put_none, fr0_at]; done) | rfl), by omega, by omega, rfl⟩
  clear h0 h2 h5 h17
  rintro q α G ⟨rfl, i, v, hiq, h24, h23, h22, h2, h5, h6, hv0, hv9, hnv⟩
  refine aw_seq ?_
  (refine aw_ops (by kernel_rfl) (fun K hK => ?_); simp (disch := first | omega | (simp only [List.length_set, List.length_append, List.length_cons, List.length_nil, iv_length, zl_length]; try omega; done)) [-getElem?_pos, -getElem?_neg, h24, h23]; refine hK _ _ ?_; clear hK K)
  refine aw_seq ?_
  by_cases hi : i < n
  case neg =>
    refine aw_f (by (first | (simp [eval_tmp, put_at, hi]; done) | (simp [eval_tmp, put_at, hi]; omega))) (by kernel_rfl) ?_
    refine aw_exit ?_
    rw [List.drop_of_length_le (by omega), numV] at hnv
    rw [hnv] at hR2
    simp only at hR2
    refine aw_seq ?_
    (refine aw_ops (by kernel_rfl) (fun K hK => ?_); simp (disch := first | omega | (simp only [List.length_set, List.length_append, List.length_cons, List.length_nil, iv_length, zl_length]; try omega; done)) [-getElem?_pos, -getElem?_neg, h6, h5, h2, tk0, Tk.cells]; refine hK _ _ ?_; clear hK K)
    (refine aw_ret ?_; simp (disch := first | omega | (simp only [List.length_set, List.length_append, List.length_cons, List.length_nil, iv_length, zl_length]; try omega; done)) [-getElem?_pos, -getElem?_neg, thenQ_ret, scopeQ_ret, inBlockQ_ret, RQ, resL, resV, h2, hR2, TR.val, Tk.val, sn_nil0])
    rfl
  refine aw_t (by (first | (simp [eval_tmp, put_at, hi]; done) | (simp [eval_tmp, put_at, hi]; omega))) (by kernel_rfl) ?_
  refine aw_skip ?_
  refine aw_seq ?_
  refine aw_block ?_
  obtain ⟨x, hx⟩ : ∃ x, D[i]? = some x := ⟨_, List.getElem?_eq_getElem (by omega)⟩
  have hxd := hDd x (List.mem_of_getElem? hx)
  have hxi : (iv .u8 D)[i]? = some (.int .u8 x) := by simp [iv, hx]
  have hivl := iv_length .u8 D
  have hdr : D.drop i = x :: D.drop (i + 1) := by
    obtain ⟨_, rfl⟩ := List.getElem?_eq_some_iff.1 hx
    exact List.drop_eq_getElem_cons _
  rw [hdr, numV] at hnv
  refine aw_seq ?_
  (refine aw_ops (by kernel_rfl) (fun K hK => ?_); simp (disch := first | omega | (simp only [List.length_set, List.length_append, List.length_cons, List.length_nil, iv_length, zl_length]; try omega; done)) [-getElem?_pos, -getElem?_neg, h22, h24, hxi, hivl]; refine hK _ _ ?_; clear hK K)
  refine aw_seq ?_
  (refine aw_ops (by kernel_rfl) (fun K hK => ?_); simp (disch := first | omega | (simp only [List.length_set, List.length_append, List.length_cons, List.length_nil, iv_length, zl_length]; try omega; done)) [-getElem?_pos, -getElem?_neg, h6]; refine hK _ _ ?_; clear hK K)
  refine aw_seq ?_
  (refine aw_ops (by kernel_rfl) (fun K hK => ?_); simp (disch := first | omega | (simp only [List.length_set, List.length_append, List.length_cons, List.length_nil, iv_length, zl_length]; try omega; done)) [-getElem?_pos, -getElem?_neg]; refine hK _ _ ?_; clear hK K)
  by_cases hbig : 999999999 < 10 * v + (x - 48)
  · rw [if_pos hbig] at hnv
    rw [hnv] at hR2
    simp only at hR2
    refine aw_t (by (first | (simp [eval_tmp, put_at, hbig]; done) | (simp [eval_tmp, put_at, hbig]; omega))) (by kernel_rfl) ?_
    refine aw_seq ?_
    (refine aw_ops (by kernel_rfl) (fun K hK => ?_); simp (disch := first | omega | (simp only [List.length_set, List.length_append, List.length_cons, List.length_nil, iv_length, zl_length]; try omega; done)) [-getElem?_pos, -getElem?_neg, h2, tk0, Tk.cells]; refine hK _ _ ?_; clear hK K)
    (refine aw_ret ?_; simp (disch := first | omega | (simp only [List.length_set, List.length_append, List.length_cons, List.length_nil, iv_length, zl_length]; try omega; done)) [-getElem?_pos, -getElem?_neg, thenQ_ret, scopeQ_ret, inBlockQ_ret, RQ, resL, resV, h2, hR2, TR.val, Tk.val, tk0])
    rfl
  · rw [if_neg hbig] at hnv
    refine aw_f (by (first | (simp [eval_tmp, put_at, hbig]; done) | (simp [eval_tmp, put_at, hbig]; omega))) (by kernel_rfl) ?_
    refine aw_skip ?_
    (refine aw_ops (by kernel_rfl) (fun K hK => ?_); simp (disch := first | omega | (simp only [List.length_set, List.length_append, List.length_cons, List.length_nil, iv_length, zl_length]; try omega; done)) [-getElem?_pos, -getElem?_neg, h24]; refine hK _ _ ?_; clear hK K)
    exact ⟨q - 1, by omega, rfl, i + 1, 10 * v + (x - 48), by omega, by (first | (simp [put_at, put_none, fr0_at]; done) | rfl), by (first | (simp [put_at, put_none, fr0_at, h23]; done) | rfl), by (first | (simp [put_at, put_none, fr0_at, h22]; done) | rfl), by (first | (simp [put_at, put_none, fr0_at, h2]; done) | rfl), by (first | (simp [put_at, put_none, fr0_at, h5]; done) | rfl), by (first | (simp [put_at, put_none, fr0_at]; done) | rfl), by omega, by omega, hnv⟩
theorem text_vc (hb : By l) (hl : l.length ≤ 1000000) (hne : l ≠ []) : VC Try.prog 17 #[.string (strOfNums l)] (textT l).val := by
  have hsz := sn_size l
  have hpos : 0 < l.length := List.length_pos_iff.2 hne
  obtain ⟨R, hR⟩ : ∃ R, R = textT l := ⟨_, rfl⟩
  have hR2 := hR
  unfold textT at hR2
  rw [← hR]
  refine vc_of_ac (by simp [pv_iv, pv_int, pv_bool, pv_string, pv_tup2, pv_tup3, iv_plain, p2_int, p2_bool, p2_string]) (pv_tr _) ?_
  refine ac_of_aw Try.func17 rfl Try.ntmps17 Try.results17 (by simp) ?_
  refine aw_seq ?_
  (refine aw_ops (by kernel_rfl) (fun K hK => ?_); simp (disch := first | omega | (simp only [List.length_set, List.length_append, List.length_cons, List.length_nil, iv_length, zl_length]; try omega; done)) [-getElem?_pos, -getElem?_neg]; refine hK _ _ ?_; clear hK K)
  refine aw_seq ?_
  (refine aw_ops (by kernel_rfl) (fun K hK => ?_); simp (disch := first | omega | (simp only [List.length_set, List.length_append, List.length_cons, List.length_nil, iv_length, zl_length]; try omega; done)) [-getElem?_pos, -getElem?_neg]; refine hK _ _ ?_; clear hK K)
  refine aw_seq ?_
  (refine aw_ops (by kernel_rfl) (fun K hK => ?_); simp (disch := first | omega | (simp only [List.length_set, List.length_append, List.length_cons, List.length_nil, iv_length, zl_length]; try omega; done)) [-getElem?_pos, -getElem?_neg]; refine hK _ _ ?_; clear hK K)
  refine aw_seq ?_
  refine aw_block ?_
  refine aw_loop (fun q α G => ∃ (at_ : Nat) (b : List Int) (w : Value) (F : List Nat), at_ ≤ l.length ∧ l.length - at_ < q ∧ α 0 = .string (strOfNums l) ∧ α 2 = .pointer (some ⟨0, 0, none⟩) ∧ α 5 = w ∧ α 6 = .int .i64 (at_ : Nat) ∧ hget G 0 = some ⟨tk0.cells 0, 29, none⟩ ∧ OwnF G w 5 1 (iv .u8 b) F ∧ 0 ∉ F ∧ b.length ≤ at_ ∧ By b ∧ txL q (l.drop at_) b at_ = R) (l.length + 1) ?_ ?_
  · exact ⟨1, [], _, [], by omega, by omega, by (first | (simp [put_at, put_none, fr0_at]; done) | rfl), by (first | (simp [put_at, put_none, fr0_at]; done) | rfl), rfl, by (first | (simp [put_at, put_none, fr0_at]; done) | rfl), rfl, .inl ⟨by (first | (simp [put_at, put_none, fr0_at]; done) | rfl), rfl, rfl⟩, by simp, by simp, .nil, hR2.symm⟩
  rintro q α G ⟨at_, b, w, F, hal, hq, h0, h2, h5, h6, hg0, ho, hF0, hbl, hbb, htx⟩
  obtain ⟨q, rfl⟩ : ∃ q', q = q' + 1 := ⟨q - 1, by omega⟩
  have hos := own_shape ho
  have hnt := hos.1
  have hgl := hget_lt hg0
  refine aw_seq ?_
  refine aw_seq ?_
  rcases Nat.lt_or_ge at_ l.length with hat | hat
  case inr =>
    obtain rfl : at_ = l.length := by omega
    rw [List.drop_length, txL] at htx
    (refine aw_ops (by kernel_rfl) (fun K hK => ?_); simp (disch := first | omega | (simp only [List.length_set, List.length_append, List.length_cons, List.length_nil, iv_length, zl_length]; try omega; done)) [-getElem?_pos, -getElem?_neg, h0, h6, hsz]; refine hK _ _ ?_; clear hK K)
    refine aw_f (by (first | (simp [eval_tmp, put_at]; done) | (simp [eval_tmp, put_at]; omega))) (by kernel_rfl) ?_
    refine aw_exit ?_
    refine aw_seq ?_
    refine aw_block ?_
    refine aw_seq ?_
    (refine aw_ops (by kernel_rfl) (fun K hK => ?_); simp (disch := first | omega | (simp only [List.length_set, List.length_append, List.length_cons, List.length_nil, iv_length, zl_length]; try omega; done)) [-getElem?_pos, -getElem?_neg, h0, h6, hsz]; refine hK _ _ ?_; clear hK K)
    refine aw_t (by (first | (simp [eval_tmp, put_at]; done) | (simp [eval_tmp, put_at]; omega))) (by kernel_rfl) ?_
    refine aw_seq ?_
    (refine aw_ops (by kernel_rfl) (fun K hK => ?_); simp (disch := first | omega | (simp only [List.length_set, List.length_append, List.length_cons, List.length_nil, iv_length, zl_length]; try omega; done)) [-getElem?_pos, -getElem?_neg, h2, hg0, tk0, Tk.cells]; refine hK _ _ ?_; clear hK K)
    (refine aw_ret ?_; simp (disch := first | omega | (simp only [List.length_set, List.length_append, List.length_cons, List.length_nil, iv_length, zl_length]; try omega; done)) [-getElem?_pos, -getElem?_neg, thenQ_ret, scopeQ_ret, inBlockQ_ret, RQ, resL, resV, h2, hg0, ← htx, TR.val, Tk.val, tk0, Tk.cells])
    rfl
  obtain ⟨c, hc⟩ : ∃ c, l[at_]? = some c := ⟨_, List.getElem?_eq_getElem hat⟩
  have hcb := hb c (List.mem_of_getElem? hc)
  have hgb := gb_get hb hc
  have hdr : l.drop at_ = c :: l.drop (at_ + 1) := by
    obtain ⟨_, rfl⟩ := List.getElem?_eq_some_iff.1 hc
    exact List.drop_eq_getElem_cons hat
  rw [hdr, txL, ← hdr] at htx
  by_cases hcq : c = 34
  · rw [if_pos hcq] at htx
    subst hcq
    (refine aw_ops (by kernel_rfl) (fun K hK => ?_); simp (disch := first | omega | (simp only [List.length_set, List.length_append, List.length_cons, List.length_nil, iv_length, zl_length]; try omega; done)) [-getElem?_pos, -getElem?_neg, h0, h6, hsz, hgb]; refine hK _ _ ?_; clear hK K)
    refine aw_f (by (first | (simp [eval_tmp, put_at]; done) | (simp [eval_tmp, put_at]; omega))) (by kernel_rfl) ?_
    refine aw_exit ?_
    refine aw_seq ?_
    refine aw_block ?_
    refine aw_seq ?_
    (refine aw_ops (by kernel_rfl) (fun K hK => ?_); simp (disch := first | omega | (simp only [List.length_set, List.length_append, List.length_cons, List.length_nil, iv_length, zl_length]; try omega; done)) [-getElem?_pos, -getElem?_neg, h0, h6, hsz]; refine hK _ _ ?_; clear hK K)
    refine aw_f (by (first | (simp [eval_tmp, put_at]; done) | (simp [eval_tmp, put_at]; omega))) (by kernel_rfl) ?_
    refine aw_seq ?_
    have hol := ho.len (P := Try.prog) (t := 22) (by simp) (n := b.length) (by rw [iv_length, Nat.mul_one]) (by omega)
    (refine aw_ops (by kernel_rfl) (fun K hK => ?_); simp (disch := first | omega | (simp only [List.length_set, List.length_append, List.length_cons, List.length_nil, iv_length, zl_length]; try omega; done)) [-getElem?_pos, -getElem?_neg, h5, -xlen, hol]; refine hK _ _ ?_; clear hK K)
    by_cases hlong : 64 < b.length
    · rw [if_pos hlong] at htx
      refine aw_t (by (first | (simp [eval_tmp, put_at, hlong]; done) | (simp [eval_tmp, put_at, hlong]; omega))) (by kernel_rfl) ?_
      refine aw_seq ?_
      (refine aw_ops (by kernel_rfl) (fun K hK => ?_); simp (disch := first | omega | (simp only [List.length_set, List.length_append, List.length_cons, List.length_nil, iv_length, zl_length]; try omega; done)) [-getElem?_pos, -getElem?_neg, h2, hg0, tk0, Tk.cells]; refine hK _ _ ?_; clear hK K)
      (refine aw_ret ?_; simp (disch := first | omega | (simp only [List.length_set, List.length_append, List.length_cons, List.length_nil, iv_length, zl_length]; try omega; done)) [-getElem?_pos, -getElem?_neg, thenQ_ret, scopeQ_ret, inBlockQ_ret, RQ, resL, resV, h2, hg0, ← htx, TR.val, Tk.val, tk0, Tk.cells])
      rfl
    · rw [if_neg hlong] at htx
      refine aw_f (by (first | (simp [eval_tmp, put_at, hlong]; done) | (simp [eval_tmp, put_at, hlong]; omega))) (by kernel_rfl) ?_
      refine aw_skip ?_
      refine aw_seq ?_
      have hcv : xconv Try.prog 22 9 w G = some (.string (strOfNums b)) := by
        rcases ho with ⟨rfl, hb0, _⟩ | ⟨j, len, rfl, hg, hl2, _⟩
        · obtain rfl : b = [] := by cases b with
            | nil => rfl
            | cons x l => simp [iv] at hb0
          simp [xconv]
          rfl
        · have hbl := byteList_iv b
          have hll : len = b.length := by rw [iv_length] at hl2; omega
          subst hll
          have htk : (iv .u8 b).take b.length = iv .u8 b := by rw [List.take_of_length_le]; rw [iv_length]; exact Nat.le_refl _
          simp [xconv, hg, htk, hbl]
      (refine aw_ops (by kernel_rfl) (fun K hK => ?_); simp (disch := first | omega | (simp only [List.length_set, List.length_append, List.length_cons, List.length_nil, iv_length, zl_length]; try omega; done)) [-getElem?_pos, -getElem?_neg, h5, h6, -xconv, hcv, h2, hg0, tk0, Tk.cells]; refine hK _ _ ?_; clear hK K)
      (refine aw_ret ?_; simp (disch := first | omega | (simp only [List.length_set, List.length_append, List.length_cons, List.length_nil, iv_length, zl_length]; try omega; done)) [-getElem?_pos, -getElem?_neg, thenQ_ret, scopeQ_ret, inBlockQ_ret, RQ, resL, resV, h2, hg0, ← htx, TR.val, Tk.val, tk0, Tk.cells])
  rw [if_neg hcq] at htx
  (refine aw_ops (by kernel_rfl) (fun K hK => ?_); simp (disch := first | omega | (simp only [List.length_set, List.length_append, List.length_cons, List.length_nil, iv_length, zl_length]; try omega; done)) [-getElem?_pos, -getElem?_neg, h0, h6, hsz, hgb]; refine hK _ _ ?_; clear hK K)
  refine aw_t (by (first | (simp [eval_tmp, put_at, hcq]; done) | (simp [eval_tmp, put_at, hcq]; omega))) (by kernel_rfl) ?_
  refine aw_skip ?_
  refine aw_block ?_
  have hex := ex_drop l at_
  have hlb := hb.drop at_
  have hlt := letter_vc (l := l.drop at_) hlb (by rw [List.length_drop]; omega) (by rw [hdr]; simp)
  have hlbd := letterL_bd hlb
  obtain ⟨r, hr⟩ : ∃ r, r = letterL (l.drop at_) := ⟨_, rfl⟩
  rw [← hr] at hlt hlbd htx
  obtain ⟨x, n, e⟩ := r
  simp only at hlt hlbd htx
  obtain ⟨hxb, hn1, hn4, he0, he26⟩ := hlbd
  have hxb := hxb x (by simp)
  refine aw_seq ?_
  refine aw_ops (by kernel_rfl) (fun K hK => ?_)
  simp (disch := first | omega | (simp only [List.length_set, List.length_append, List.length_cons, List.length_nil, iv_length, zl_length]; try omega; done)) [-getElem?_pos, -getElem?_neg, h0, h6, hsz, hex]
  refine ⟨by kernel_rfl, ac_of_vc (by simp [pv_iv, pv_int, pv_bool, pv_string, pv_tup2, pv_tup3, iv_plain, p2_int, p2_bool, p2_string]) hlt ?_⟩
  try simp (disch := first | omega | (simp only [List.length_set, List.length_append, List.length_cons, List.length_nil, iv_length, zl_length]; try omega; done)) [-getElem?_pos, -getElem?_neg]
  refine hK _ _ ?_; clear hK K
  refine aw_seq ?_
  refine aw_seq ?_
  (refine aw_ops (by kernel_rfl) (fun K hK => ?_); simp (disch := first | omega | (simp only [List.length_set, List.length_append, List.length_cons, List.length_nil, iv_length, zl_length]; try omega; done)) [-getElem?_pos, -getElem?_neg]; refine hK _ _ ?_; clear hK K)
  by_cases he : e = 0
  case neg =>
    rw [if_pos he] at htx
    refine aw_t (by (first | (simp [eval_tmp, put_at, he]; done) | (simp [eval_tmp, put_at, he]; omega))) (by kernel_rfl) ?_
    refine aw_seq ?_
    (refine aw_ops (by kernel_rfl) (fun K hK => ?_); simp (disch := first | omega | (simp only [List.length_set, List.length_append, List.length_cons, List.length_nil, iv_length, zl_length]; try omega; done)) [-getElem?_pos, -getElem?_neg, h2, hg0, tk0, Tk.cells]; refine hK _ _ ?_; clear hK K)
    (refine aw_ret ?_; simp (disch := first | omega | (simp only [List.length_set, List.length_append, List.length_cons, List.length_nil, iv_length, zl_length]; try omega; done)) [-getElem?_pos, -getElem?_neg, thenQ_ret, scopeQ_ret, inBlockQ_ret, RQ, resL, resV, h2, hg0, ← htx, TR.val, Tk.val, tk0, Tk.cells])
    rfl
  rw [if_neg (by simpa using he)] at htx
  obtain ⟨hn1, hn2⟩ := hn1 he (by rw [hdr]; simp)
  rw [List.length_drop] at hn2
  refine aw_f (by (first | (simp [eval_tmp, put_at, he]; done) | (simp [eval_tmp, put_at, he]; omega))) (by kernel_rfl) ?_
  refine aw_skip ?_
  obtain ⟨w', H', hap, hnw', hcw', ho', hlen', hk'⟩ := buf_append x ho (by omega)
  refine aw_seq ?_
  (refine aw_ops (by kernel_rfl) (fun K hK => ?_); simp (disch := first | omega | (simp only [List.length_set, List.length_append, List.length_cons, List.length_nil, iv_length, zl_length]; try omega; done)) [-getElem?_pos, -getElem?_neg, h5, hnt, hnw', -notTuple, nt_int, nt_sl, -xappend, hap]; refine hK _ _ ?_; clear hK K)
  (refine aw_ops (by kernel_rfl) (fun K hK => ?_); simp (disch := first | omega | (simp only [List.length_set, List.length_append, List.length_cons, List.length_nil, iv_length, zl_length]; try omega; done)) [-getElem?_pos, -getElem?_neg, h6]; refine hK _ _ ?_; clear hK K)
  refine ⟨q, by omega, at_ + n, b ++ [x], w', _, by omega, by omega, by (first | (simp [put_at, put_none, fr0_at, h0]; done) | rfl), by (first | (simp [put_at, put_none, fr0_at, h2]; done) | rfl), by (first | (simp [put_at, put_none, fr0_at]; done) | rfl), by (first | (simp [put_at, put_none, fr0_at]; done) | rfl), (hk' 0 (hget_lt hg0) hF0).trans hg0, ho', by simp, by simp; omega, hbb.app (.cons hxb .nil), ?_⟩
  rw [← List.drop_drop, ← htx, Nat.add_comm] 
end
end Go.Proofs.Ytcdkpeepboofhaa
