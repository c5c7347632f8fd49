/-
  The reference's text and list of numbers.
-/
import Derived.Test.YtpdijcaikjobiaaWe
import Derived.Test.YtpdijcaikjobiaaXrw
import Derived.Test.YtpdijcaikjobiaaXz
namespace Go.Proofs.Ytpdijcaikjobiaa
open Go Go.RowKit
set_option linter.unusedVariables false
set_option linter.unusedSimpArgs false
set_option maxRecDepth 100000
set_option maxHeartbeats 4000000
attribute [local simp] wb_bool wb_undef XL_nil XL_cons XLc_val XLc_call step1_eq stepW_t stepW_f stepC_n stepC_s stepX_s xop_eq xopR_s xopR_n wantedA_eq wantedG_n wantedG_s plain1_int plain1_bool plain1_string bits_i64 bits_u64 bits_u32 bits_u16 bits_u8 xeqA xarr allK_iv num_iv calleeOf xread xeff xbin xint xnil xun xstr xload xconv xpart xfield xfieldAddr xindexAddr xindex bnd asInt? xslice xlen xmin xmax xbuild xfill xappend xapp2 xappstr xappmk xcap xcopy xcells eval_tmp eval_const put_at put_none fr0_at cells_agg cells_int cells_bool cells_string cells_ptr cells_slice notTuple tab iv_all hget_app hget_app0 hget_cons0 hget_cons set_app set_app0 setR setR_one QL_nil QL_cons QLc_val stepQ_t stepQ_f stepQC_n stepQC_s stepQX_s SL_nil SL_cons SLc_val stepS_t stepS_f ltT ltF leT leF eqT eqF ltTn ltFn leTn leFn eqTn eqFn beqT beqF bneT bneF wi64 wu64 wu32 wu16 wu8 tmodP tdivP hgetL hgetNe hgetEq setL nums_def nums_len Nat.succ_le_of_lt List.getElem?_cons_zero List.getElem?_cons_succ Option.getD_some Int.toNat_add Int.toNat_mul agB agI agS agP agL agA okB okI okS okP okSl okA
theorem refText_ac {H : AH} {γ : Nat → Option Nat} {nro : Nat} {s : ByteArray} (hs : s.size ≤ 100000) (hnl : nro ≤ H.length) :
    AC Try.prog nro γ 26 #[.string s] H (fun v' H' => v' = .string (strOfNums (numB s.size ++ nums s)) ∧ ∃ L, H' = H ++ L) := by
  have hw : IntKind.u32.wrap (s.size : Nat) = (s.size : Nat) := by simp only [IntKind.wrap_u32']; omega
  have h5 := numB_len s.size
  have hsz : (strOfNums (numB s.size)).size + s.size ≤ 9223372036854775807 := by rw [sn_size]; omega
  have happ : strOfNums (numB s.size) ++ s = strOfNums (numB s.size ++ nums s) := by
    rw [← sn_app, of_nums' s]
  refine ac_of_aw Try.func26 rfl Try.ntmps26 Try.results26 (by simp) ?_
  refine aw_seq ?_
  (refine aw_ops (by kernel_rfl) (fun K hK => ?_); simp (disch := first | omega | (simp only [List.length_set, List.length_append, List.length_cons, List.length_nil, iv_length, zl_length]; try omega; done)) [-getElem?_pos, -getElem?_neg]; refine hK _ _ ?_; clear hK K)
  refine aw_seq ?_
  refine aw_ops (by kernel_rfl) (fun K hK => ?_)
  simp (disch := first | omega | (simp only [List.length_set, List.length_append, List.length_cons, List.length_nil, iv_length, zl_length]; try omega; done)) [-getElem?_pos, -getElem?_neg, hw]
  refine ⟨by kernel_rfl, (refNumber_ac (by omega) hnl).mono ?_⟩
  rintro v1 H1 ⟨rfl, L, rfl⟩
  try simp (disch := first | omega | (simp only [List.length_set, List.length_append, List.length_cons, List.length_nil, iv_length, zl_length]; try omega; done)) [-getElem?_pos, -getElem?_neg, hsz, happ]
  refine hK _ _ ?_; clear hK K
  (refine aw_ret ?_; simp (disch := first | omega | (simp only [List.length_set, List.length_append, List.length_cons, List.length_nil, iv_length, zl_length]; try omega; done)) [-getElem?_pos, -getElem?_neg, thenQ_ret, inBlockQ_ret, RQ, resL, resV])
theorem refNumberList_ac {H : AH} {γ : Nat → Option Nat} {nro : Nat} {l : List Int} {v : Value} (hv : SlV H v (iv .u32 l)) (hl : ∀ x ∈ l, 0 ≤ x ∧ x ≤ 4294967295) (hlen : l.length ≤ 10000) (hnl : nro ≤ H.length) :
    AC Try.prog nro γ 29 #[v] H (fun v' H' => v' = .string (strOfNums (numB l.length ++ numsB l)) ∧ ∃ L, H' = H ++ L) := by
  have hno : notTuple v = true := by rcases hv with ⟨a, rfl, _⟩ | ⟨j, off, k, rfl, _⟩ <;> rfl
  have hxl := hv.len (P := Try.prog) (t := 30) (e := 37) (by simp)
  have hil : (iv .u32 l).length = l.length := iv_length _ _
  rw [hil] at hxl
  have hwl : IntKind.u32.wrap (l.length : Nat) = (l.length : Nat) := by simp only [IntKind.wrap_u32']; omega
  refine ac_of_aw Try.func29 rfl Try.ntmps29 Try.results29 (by simp) ?_
  refine aw_seq ?_
  (refine aw_ops (by kernel_rfl) (fun K hK => ?_); simp (disch := first | omega | (simp only [List.length_set, List.length_append, List.length_cons, List.length_nil, iv_length, zl_length]; try omega; done)) [-getElem?_pos, -getElem?_neg]; refine hK _ _ ?_; clear hK K)
  refine aw_seq ?_
  refine aw_ops (by kernel_rfl) (fun K hK => ?_)
  simp (disch := first | omega | (simp only [List.length_set, List.length_append, List.length_cons, List.length_nil, iv_length, zl_length]; try omega; done)) [-getElem?_pos, -getElem?_neg, -xlen, hxl, hwl]
  refine ⟨by kernel_rfl, (refNumber_ac (by omega) hnl).mono ?_⟩
  rintro v1 H1 ⟨rfl, L, rfl⟩
  try simp (disch := first | omega | (simp only [List.length_set, List.length_append, List.length_cons, List.length_nil, iv_length, zl_length]; try omega; done)) [-getElem?_pos, -getElem?_neg]
  refine hK _ _ ?_; clear hK K
  refine aw_seq ?_
  refine aw_seq ?_
  (refine aw_ops (by kernel_rfl) (fun K hK => ?_); simp (disch := first | omega | (simp only [List.length_set, List.length_append, List.length_cons, List.length_nil, iv_length, zl_length]; try omega; done)) [-getElem?_pos, -getElem?_neg]; refine hK _ _ ?_; clear hK K)
  refine aw_cut (fun α G => α 3 = .string (strOfNums (numB l.length ++ numsB l)) ∧ ∃ L, G = H ++ L) ?_ ?_
  · refine aw_block ?_
    refine aw_loop (fun c α G => ∃ i : Nat, i + c = l.length ∧ α 4 = .int .i64 (i : Nat) ∧ α 0 = v ∧ α 3 = .string (strOfNums (numB l.length ++ numsB (l.take i))) ∧ ∃ L, G = H ++ L) l.length ?_ ?_
    · exact ⟨0, by omega, by (first | (simp [put_at, put_none, fr0_at]; done) | rfl), by (first | (simp [put_at, put_none, fr0_at]; done) | rfl), by simp [put_at, numsB], _, rfl⟩
    rintro c α G ⟨i, hic, h4, h0, h3, L, rfl⟩
    refine aw_seq ?_
    refine aw_seq ?_
    by_cases hi : i < l.length
    case neg =>
      obtain rfl : i = l.length := by omega
      rw [List.take_length] at h3
      (refine aw_ops (by kernel_rfl) (fun K hK => ?_); simp (disch := first | omega | (simp only [List.length_set, List.length_append, List.length_cons, List.length_nil, iv_length, zl_length]; try omega; done)) [-getElem?_pos, -getElem?_neg, h4, h0, -xlen, hxl]; refine hK _ _ ?_; clear hK K)
      refine aw_f (by (first | (simp [eval_tmp, put_at]; done) | (simp [eval_tmp, put_at]; omega))) (by kernel_rfl) ?_
      refine aw_exit ?_
      exact ⟨by (first | (simp [put_at, put_none, fr0_at, h3]; done) | rfl), _, rfl⟩
    obtain ⟨x, hx⟩ : ∃ x, l[i]? = some x := ⟨_, List.getElem?_eq_getElem hi⟩
    obtain ⟨hx0, hx1⟩ := hl x (List.mem_of_getElem? hx)
    obtain ⟨n, rfl⟩ : ∃ n : Nat, x = (n : Nat) := ⟨x.toNat, by omega⟩
    have hcx : (iv .u32 l)[i]? = some (.int .u32 (n : Nat)) := by simp [iv, hx]
    obtain ⟨px, hpx, hlx⟩ := (hv.keep (H' := H ++ L) (fun j hj => hget_left hj)).cell (P := Try.prog) (t := 30) (e := 37) (by simp) (by simp) (by simp) (by simp) hcx
    have hxa : xindexAddr Try.prog 30 v (.int .i64 (i : Nat)) = some px := hpx
    have hnpx : notTuple px = true := by
      unfold xload at hlx
      cases px <;> first | rfl | (simp at hlx)
    (refine aw_ops (by kernel_rfl) (fun K hK => ?_); simp (disch := first | omega | (simp only [List.length_set, List.length_append, List.length_cons, List.length_nil, iv_length, zl_length]; try omega; done)) [-getElem?_pos, -getElem?_neg, h4, h0, -xlen, hxl, hi]; refine hK _ _ ?_; clear hK K)
    refine aw_t (by (first | (simp [eval_tmp, put_at, hi]; done) | (simp [eval_tmp, put_at, hi]; omega))) (by kernel_rfl) ?_
    refine aw_skip ?_
    refine aw_seq ?_
    refine aw_block ?_
    have h5 := numB_len n
    have h6 := numB_len l.length
    have h7 := numsB_len (l.take i)
    rw [List.length_take] at h7
    have hsz : (strOfNums (numB l.length ++ numsB (l.take i))).size + (strOfNums (numB n)).size ≤ 9223372036854775807 := by rw [sn_size, sn_size, List.length_append]; omega
    have happ : strOfNums (numB l.length ++ numsB (l.take i)) ++ strOfNums (numB n) = strOfNums (numB l.length ++ numsB (l.take (i + 1))) := by
      rw [sn_app, numsB_next hx]
      simp
    refine aw_ops (by kernel_rfl) (fun K hK => ?_)
    simp (disch := first | omega | (simp only [List.length_set, List.length_append, List.length_cons, List.length_nil, iv_length, zl_length]; try omega; done)) [-getElem?_pos, -getElem?_neg, h3, h0, h4, -xindexAddr, hxa, -xload, hlx, hnpx]
    refine ⟨by kernel_rfl, (refNumber_ac (by omega) (by rw [List.length_append]; omega)).mono ?_⟩
    rintro v1 H1 ⟨rfl, L2, rfl⟩
    try simp (disch := first | omega | (simp only [List.length_set, List.length_append, List.length_cons, List.length_nil, iv_length, zl_length]; try omega; done)) [-getElem?_pos, -getElem?_neg, h3, hsz, happ]
    refine hK _ _ ?_; clear hK K
    (refine aw_ops (by kernel_rfl) (fun K hK => ?_); simp (disch := first | omega | (simp only [List.length_set, List.length_append, List.length_cons, List.length_nil, iv_length, zl_length]; try omega; done)) [-getElem?_pos, -getElem?_neg, h4]; refine hK _ _ ?_; clear hK K)
    exact ⟨c - 1, by omega, i + 1, by omega, by (first | (simp [put_at, put_none, fr0_at]; done) | rfl), by (first | (simp [put_at, put_none, fr0_at, h0]; done) | rfl), by simp [put_at], _, rfl⟩
  · rintro α G ⟨h3, L, rfl⟩
    refine aw_seq ?_
    (refine aw_ops (by kernel_rfl) (fun K hK => ?_); simp (disch := first | omega | (simp only [List.length_set, List.length_append, List.length_cons, List.length_nil, iv_length, zl_length]; try omega; done)) [-getElem?_pos, -getElem?_neg, h3]; refine hK _ _ ?_; clear hK K)
    (refine aw_ret ?_; simp (disch := first | omega | (simp only [List.length_set, List.length_append, List.length_cons, List.length_nil, iv_length, zl_length]; try omega; done)) [-getElem?_pos, -getElem?_neg, thenQ_ret, inBlockQ_ret, RQ, resL, resV])
end Go.Proofs.Ytpdijcaikjobiaa
