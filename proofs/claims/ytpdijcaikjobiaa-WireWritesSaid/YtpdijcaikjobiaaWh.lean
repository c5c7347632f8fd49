/-
  The reference's list of keys.
-/
import Derived.Test.YtpdijcaikjobiaaWf
import Derived.Test.YtpdijcaikjobiaaWg
import Derived.Test.YtpdijcaikjobiaaXrw
import Derived.Test.YtpdijcaikjobiaaXz
namespace Go.Proofs.Ytpdijcaikjobiaa
open Go Go.RowKit
set_option linter.unusedVariables false
set_option linter.unusedSimpArgs false
set_option maxRecDepth 100000
set_option maxHeartbeats 4000000
attribute [local simp] wb_bool wb_undef XL_nil XL_cons XLc_val XLc_call step1_eq stepW_t stepW_f stepC_n stepC_s stepX_s xop_eq xopR_s xopR_n wantedA_eq wantedG_n wantedG_s plain1_int plain1_bool plain1_string bits_i64 bits_u64 bits_u32 bits_u16 bits_u8 xeqA xarr allK_iv num_iv calleeOf xread xeff xbin xint xnil xun xstr xload xconv xpart xfield xfieldAddr xindexAddr xindex bnd asInt? xslice xlen xmin xmax xbuild xfill xappend xapp2 xappstr xappmk xcap xcopy xcells eval_tmp eval_const put_at put_none fr0_at cells_agg cells_int cells_bool cells_string cells_ptr cells_slice notTuple tab iv_all hget_app hget_app0 hget_cons0 hget_cons set_app set_app0 setR setR_one QL_nil QL_cons QLc_val stepQ_t stepQ_f stepQC_n stepQC_s stepQX_s SL_nil SL_cons SLc_val stepS_t stepS_f ltT ltF leT leF eqT eqF ltTn ltFn leTn leFn eqTn eqFn beqT beqF bneT bneF wi64 wu64 wu32 wu16 wu8 tmodP tdivP hgetL hgetNe hgetEq setL nums_def nums_len Nat.succ_le_of_lt List.getElem?_cons_zero List.getElem?_cons_succ Option.getD_some Int.toNat_add Int.toNat_mul agB agI agS agP agL agA okB okI okS okP okSl okA
theorem refKeyList_ac {H : AH} {γ : Nat → Option Nat} {nro : Nat} {l : List (List Int)} {v : Value} (hv : SlK 32 .u8 H v l) (hl : ∀ key ∈ l, key.length = 32) (hlen : l.length ≤ 10000) (hnl : nro ≤ H.length) :
    AC Try.prog nro γ 28 #[v] H (fun v' H' => v' = .string (strOfNums (numB l.length ++ l.flatten)) ∧ ∃ L, H' = H ++ L) := by
  have hno : notTuple v = true := by rcases hv with ⟨a, rfl, _⟩ | ⟨j, k, rfl, _⟩ <;> rfl
  have hxl := hv.len (P := Try.prog) (t := 31) (e := 41) (by simp)
  have hwl : IntKind.u32.wrap (l.length : Nat) = (l.length : Nat) := by simp only [IntKind.wrap_u32']; omega
  refine ac_of_aw Try.func28 rfl Try.ntmps28 Try.results28 (by simp) ?_
  refine aw_seq ?_
  (refine aw_ops (by kernel_rfl) (fun K hK => ?_); simp (disch := first | omega | (simp only [List.length_set, List.length_append, List.length_cons, List.length_nil, iv_length, zl_length]; try omega; done)) [-getElem?_pos, -getElem?_neg]; refine hK _ _ ?_; clear hK K)
  refine aw_seq ?_
  refine aw_ops (by kernel_rfl) (fun K hK => ?_)
  simp (disch := first | omega | (simp only [List.length_set, List.length_append, List.length_cons, List.length_nil, iv_length, zl_length]; try omega; done)) [-getElem?_pos, -getElem?_neg, -xlen, hxl, hwl]
  refine ⟨by kernel_rfl, (refNumber_ac (by omega) hnl).mono ?_⟩
  rintro v1 H1 ⟨rfl, L, rfl⟩
  try simp (disch := first | omega | (simp only [List.length_set, List.length_append, List.length_cons, List.length_nil, iv_length, zl_length]; try omega; done)) [-getElem?_pos, -getElem?_neg]
  refine hK _ _ ?_; clear hK K
  refine aw_seq ?_
  refine aw_seq ?_
  (refine aw_ops (by kernel_rfl) (fun K hK => ?_); simp (disch := first | omega | (simp only [List.length_set, List.length_append, List.length_cons, List.length_nil, iv_length, zl_length]; try omega; done)) [-getElem?_pos, -getElem?_neg]; refine hK _ _ ?_; clear hK K)
  refine aw_cut (fun α G => α 3 = .string (strOfNums (numB l.length ++ l.flatten)) ∧ ∃ L, G = H ++ L) ?_ ?_
  · refine aw_block ?_
    refine aw_loop (fun c α G => ∃ i : Nat, i + c = l.length ∧ α 4 = .int .i64 (i : Nat) ∧ α 0 = v ∧ α 3 = .string (strOfNums (numB l.length ++ (l.take i).flatten)) ∧ ∃ L, G = H ++ L) l.length ?_ ?_
    · exact ⟨0, by omega, by (first | (simp [put_at, put_none, fr0_at]; done) | rfl), by (first | (simp [put_at, put_none, fr0_at]; done) | rfl), by simp [put_at], _, rfl⟩
    rintro c α G ⟨i, hic, h4, h0, h3, L, rfl⟩
    refine aw_seq ?_
    refine aw_seq ?_
    by_cases hi : i < l.length
    case neg =>
      obtain rfl : i = l.length := by omega
      rw [List.take_length] at h3
      (refine aw_ops (by kernel_rfl) (fun K hK => ?_); simp (disch := first | omega | (simp only [List.length_set, List.length_append, List.length_cons, List.length_nil, iv_length, zl_length]; try omega; done)) [-getElem?_pos, -getElem?_neg, h4, h0, -xlen, hxl]; refine hK _ _ ?_; clear hK K)
      refine aw_f (by (first | (simp [eval_tmp, put_at]; done) | (simp [eval_tmp, put_at]; omega))) (by kernel_rfl) ?_
      refine aw_exit ?_
      exact ⟨by (first | (simp [put_at, put_none, fr0_at, h3]; done) | rfl), _, rfl⟩
    obtain ⟨key, hx⟩ : ∃ key, l[i]? = some key := ⟨_, List.getElem?_eq_getElem hi⟩
    have hk32 := hl key (List.mem_of_getElem? hx)
    (refine aw_ops (by kernel_rfl) (fun K hK => ?_); simp (disch := first | omega | (simp only [List.length_set, List.length_append, List.length_cons, List.length_nil, iv_length, zl_length]; try omega; done)) [-getElem?_pos, -getElem?_neg, h4, h0, -xlen, hxl, hi]; refine hK _ _ ?_; clear hK K)
    refine aw_t (by (first | (simp [eval_tmp, put_at, hi]; done) | (simp [eval_tmp, put_at, hi]; omega))) (by kernel_rfl) ?_
    refine aw_skip ?_
    refine aw_seq ?_
    refine aw_block ?_
    have h6 := numB_len l.length
    have hfl : (l.take i).flatten.length = 32 * i := by
      rw [List.length_flatten]
      have : (l.take i).map List.length = List.replicate i 32 := by
        apply List.eq_replicate_iff.2
        refine ⟨by rw [List.length_map, List.length_take]; omega, fun b hb => ?_⟩
        obtain ⟨a, ha, rfl⟩ := List.mem_map.1 hb
        exact hl a (List.mem_of_mem_take ha)
      rw [this, List.sum_replicate_nat]; omega
    have hsz : (strOfNums (numB l.length ++ (l.take i).flatten)).size + (strOfNums key).size ≤ 9223372036854775807 := by rw [sn_size, sn_size, List.length_append]; omega
    have happ : strOfNums (numB l.length ++ (l.take i).flatten) ++ strOfNums key = strOfNums (numB l.length ++ (l.take (i + 1)).flatten) := by
      rw [sn_app, List.take_add_one, hx, List.flatten_append]
      simp
    rcases hv with ⟨a, _, h⟩ | ⟨j, b, rfl, hb, hc, hkk⟩
    · rw [h] at hi; cases hi
    have hbL : hget (H ++ L) j = some b := (hget_left (hget_lt hb)).trans hb
    have hkey := hkk i key hx
    have hbl := byteList_iv key
    (refine aw_ops (by kernel_rfl) (fun K hK => ?_); simp (disch := first | omega | (simp only [List.length_set, List.length_append, List.length_cons, List.length_nil, iv_length, zl_length]; try omega; done)) [-getElem?_pos, -getElem?_neg, h3, h0, h4, hbL, hi, hkey, hbl, hk32, hsz, happ]; refine hK _ _ ?_; clear hK K)
    (refine aw_ops (by kernel_rfl) (fun K hK => ?_); simp (disch := first | omega | (simp only [List.length_set, List.length_append, List.length_cons, List.length_nil, iv_length, zl_length]; try omega; done)) [-getElem?_pos, -getElem?_neg, h4]; refine hK _ _ ?_; clear hK K)
    exact ⟨c - 1, by omega, i + 1, by omega, by (first | (simp [put_at, put_none, fr0_at]; done) | rfl), by (first | (simp [put_at, put_none, fr0_at, h0]; done) | rfl), by simp [put_at], _, rfl⟩
  · rintro α G ⟨h3, L, rfl⟩
    refine aw_seq ?_
    (refine aw_ops (by kernel_rfl) (fun K hK => ?_); simp (disch := first | omega | (simp only [List.length_set, List.length_append, List.length_cons, List.length_nil, iv_length, zl_length]; try omega; done)) [-getElem?_pos, -getElem?_neg, h3]; refine hK _ _ ?_; clear hK K)
    (refine aw_ret ?_; simp (disch := first | omega | (simp only [List.length_set, List.length_append, List.length_cons, List.length_nil, iv_length, zl_length]; try omega; done)) [-getElem?_pos, -getElem?_neg, thenQ_ret, inBlockQ_ret, RQ, resL, resV])
end Go.Proofs.Ytpdijcaikjobiaa
