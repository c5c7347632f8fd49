/-
  The reference's number.
-/
import Derived.Test.YtpdijcaikjobiaaWd
namespace Go.Proofs.Ytpdijcaikjobiaa
open Go Go.RowKit
set_option linter.unusedVariables false
set_option linter.unusedSimpArgs false
set_option maxRecDepth 100000
set_option maxHeartbeats 4000000
theorem sn_size (l : List Int) : (strOfNums l).size = l.length := by simp [strOfNums, ByteArray.size]
theorem sn_app (a b : List Int) : strOfNums a ++ strOfNums b = strOfNums (a ++ b) := by
  apply ByteArray.ext
  simp [strOfNums]
theorem hiG_cut {n k : Nat} (h : n / 128 ^ (k + 1) = 0) : ∀ {g : Nat}, k ≤ g → hiG n g = hiG n k := by
  intro g
  induction g with
  | zero => intro hk; obtain rfl : k = 0 := by omega
            rfl
  | succ g ih =>
    intro hk
    rcases Nat.eq_or_lt_of_le hk with rfl | hk
    · rfl
    · have hz : n / 128 ^ (g + 1) = 0 := by
        have h1 : n < 128 ^ (k + 1) := by
          rcases Nat.div_eq_zero_iff.1 h with h2 | h2
          · have : 0 < 128 ^ (k + 1) := Nat.pow_pos (by omega); omega
          · exact h2
        exact Nat.div_eq_of_lt (Nat.lt_of_lt_of_le h1 (Nat.pow_le_pow_right (by omega) (by omega)))
      rw [hiG, if_pos hz, List.nil_append]
      exact ih (by omega)
/-- The bytes from the k-th group on down. -/
def lowB (n k : Nat) : List Int := hiG n k ++ [((n % 128 : Nat) : Int)]
theorem lowB_next {n k : Nat} (h : n / 128 ^ (k + 1) ≠ 0) : lowB n (k + 1) = (((n / 128 ^ (k + 1) % 128 : Nat) : Int) + 128) :: lowB n k := by
  simp [lowB, hiG, h]
theorem lowB_len (n k : Nat) : (lowB n k).length ≤ k + 1 := by
  have := hiG_len n k
  simp [lowB]; omega
attribute [local simp] wb_bool wb_undef XL_nil XL_cons XLc_val XLc_call step1_eq stepW_t stepW_f stepC_n stepC_s stepX_s xop_eq xopR_s xopR_n wantedA_eq wantedG_n wantedG_s plain1_int plain1_bool plain1_string bits_i64 bits_u64 bits_u32 bits_u16 bits_u8 xeqA xarr allK_iv num_iv calleeOf xread xeff xbin xint xnil xun xstr xload xconv xpart xfield xfieldAddr xindexAddr xindex bnd asInt? xslice xlen xmin xmax xbuild xfill xappend xapp2 xappstr xappmk xcap xcopy xcells eval_tmp eval_const put_at put_none fr0_at cells_agg cells_int cells_bool cells_string cells_ptr cells_slice notTuple tab iv_all hget_app hget_app0 hget_cons0 hget_cons set_app set_app0 setR setR_one QL_nil QL_cons QLc_val stepQ_t stepQ_f stepQC_n stepQC_s stepQX_s SL_nil SL_cons SLc_val stepS_t stepS_f ltT ltF leT leF eqT eqF ltTn ltFn leTn leFn eqTn eqFn beqT beqF bneT bneF wi64 wu64 wu32 wu16 wu8 tmodP tdivP hgetL hgetNe hgetEq setL nums_def nums_len Nat.succ_le_of_lt List.getElem?_cons_zero List.getElem?_cons_succ Option.getD_some Int.toNat_add Int.toNat_mul agB agI agS agP agL agA okB okI okS okP okSl okA
theorem refNumber_ac {H : AH} {γ : Nat → Option Nat} {nro n : Nat} (hn : n < 4294967296) (hnl : nro ≤ H.length) :
    AC Try.prog nro γ 25 #[.int .u32 (n : Nat)] H (fun v' H' => v' = .string (strOfNums (numB n)) ∧ ∃ L, H' = H ++ L) := by
  have hmm : n % 128 < 128 := Nat.mod_lt _ (by omega)
  have hw0 : IntKind.u8.wrap ((n : Int) % 128) = (n : Int) % 128 := wrap8_in (by omega)
  obtain ⟨x0, hx0⟩ : ∃ x0 : Int, x0 = (n : Int) % 128 := ⟨_, rfl⟩
  rw [← hx0] at hw0
  have hb0 : byteList [.int .u8 x0] = some [x0] := byteList_iv [x0]
  refine ac_of_aw Try.func25 rfl Try.ntmps25 Try.results25 (by simp) ?_
  refine aw_seq ?_
  (refine aw_ops (by kernel_rfl) (fun K hK => ?_); simp (disch := first | omega | (simp only [List.length_set, List.length_append, List.length_cons, List.length_nil, iv_length, zl_length]; try omega; done)) [-getElem?_pos, -getElem?_neg]; refine hK _ _ ?_; clear hK K)
  refine aw_seq ?_
  (refine aw_ops (by kernel_rfl) (fun K hK => ?_); simp (disch := first | omega | (simp only [List.length_set, List.length_append, List.length_cons, List.length_nil, iv_length, zl_length]; try omega; done)) [-getElem?_pos, -getElem?_neg, ← hx0, hw0, hb0]; refine hK _ _ ?_; clear hK K)
  refine aw_seq ?_
  refine aw_seq ?_
  (refine aw_ops (by kernel_rfl) (fun K hK => ?_); simp (disch := first | omega | (simp only [List.length_set, List.length_append, List.length_cons, List.length_nil, iv_length, zl_length]; try omega; done)) [-getElem?_pos, -getElem?_neg]; refine hK _ _ ?_; clear hK K)
  refine aw_cut (fun α G => α 3 = .string (strOfNums (numB n)) ∧ ∃ L, G = H ++ L) ?_ ?_
  · refine aw_block ?_
    refine aw_loop (fun c α G => ∃ k : Nat, k + c = 4 ∧ α 0 = .int .u32 ((n / 128 ^ (k + 1) : Nat) : Int) ∧ α 3 = .string (strOfNums (lowB n k)) ∧ ∃ L, G = H ++ L) 4 ?_ ?_
    · refine ⟨0, by omega, by simp [put_at], ?_, _, rfl⟩
      simp [put_at, lowB, hiG, hx0]
    rintro c α G ⟨k, hkc, h0, h3, L, rfl⟩
    obtain ⟨m, hm⟩ : ∃ m, m = n / 128 ^ (k + 1) := ⟨_, rfl⟩
    rw [← hm] at h0
    have hmn : m ≤ n := by rw [hm]; exact Nat.div_le_self _ _
    refine aw_seq ?_
    refine aw_seq ?_
    by_cases hz : m = 0
    · (refine aw_ops (by kernel_rfl) (fun K hK => ?_); simp (disch := first | omega | (simp only [List.length_set, List.length_append, List.length_cons, List.length_nil, iv_length, zl_length]; try omega; done)) [-getElem?_pos, -getElem?_neg, h0, hz]; refine hK _ _ ?_; clear hK K)
      refine aw_f (by (first | (simp [eval_tmp, put_at, hz]; done) | (simp [eval_tmp, put_at, hz]; omega))) (by kernel_rfl) ?_
      refine aw_exit ?_
      refine ⟨?_, _, rfl⟩
      have e : numB n = lowB n k := by
        unfold numB lowB
        rw [hiG_cut (by rw [← hm]; exact hz) (by omega : k ≤ 4)]
      rw [e]
      simp [put_at, h3]
    · have hk4 : k < 4 := by
        rcases Nat.lt_or_ge k 4 with h | h
        · exact h
        · exfalso
          obtain rfl : k = 4 := by omega
          apply hz; rw [hm]; exact Nat.div_eq_of_lt (by omega)
      have hpos : 0 < m := by omega
      have hmm : m % 128 < 128 := Nat.mod_lt _ (by omega)
      have hw2 : IntKind.u32.wrap ((m : Int) % 128 + 128) = (m : Int) % 128 + 128 := by simp only [IntKind.wrap_u32']; omega
      have hw1 : IntKind.u8.wrap ((m : Int) % 128 + 128) = (m : Int) % 128 + 128 := wrap8_in (by omega)
      obtain ⟨x1, hx1⟩ : ∃ x1 : Int, x1 = (m : Int) % 128 + 128 := ⟨_, rfl⟩
      rw [← hx1] at hw1 hw2
      have hb1 : byteList [.int .u8 x1] = some [x1] := byteList_iv [x1]
      have hsz : (strOfNums [x1]).size + (strOfNums (lowB n k)).size ≤ 9223372036854775807 := by
        rw [sn_size, sn_size]
        have := lowB_len n k
        simp; omega
      (refine aw_ops (by kernel_rfl) (fun K hK => ?_); simp (disch := first | omega | (simp only [List.length_set, List.length_append, List.length_cons, List.length_nil, iv_length, zl_length]; try omega; done)) [-getElem?_pos, -getElem?_neg, h0, hpos]; refine hK _ _ ?_; clear hK K)
      refine aw_t (by (first | (simp [eval_tmp, put_at, hpos]; done) | (simp [eval_tmp, put_at, hpos]; omega))) (by kernel_rfl) ?_
      refine aw_skip ?_
      refine aw_seq ?_
      refine aw_block ?_
      (refine aw_ops (by kernel_rfl) (fun K hK => ?_); simp (disch := first | omega | (simp only [List.length_set, List.length_append, List.length_cons, List.length_nil, iv_length, zl_length]; try omega; done)) [-getElem?_pos, -getElem?_neg, h0, h3, ← hx1, hw1, hw2, hb1, hsz, sn_app]; refine hK _ _ ?_; clear hK K)
      (refine aw_ops (by kernel_rfl) (fun K hK => ?_); simp (disch := first | omega | (simp only [List.length_set, List.length_append, List.length_cons, List.length_nil, iv_length, zl_length]; try omega; done)) [-getElem?_pos, -getElem?_neg, h0]; refine hK _ _ ?_; clear hK K)
      refine ⟨c - 1, by omega, k + 1, by omega, ?_, ?_, ?_⟩
      · have e : n / 128 ^ (k + 1 + 1) = m / 128 := by rw [hm, Nat.div_div_eq_div_mul, ← Nat.pow_succ]
        rw [e]
        simp [put_at]
      · have e := lowB_next (n := n) (k := k) (by rw [← hm]; exact hz)
        rw [e, ← hm]
        simp [put_at, hx1]
      · exact ⟨_, rfl⟩
  · rintro α G ⟨h3, L, rfl⟩
    refine aw_seq ?_
    (refine aw_ops (by kernel_rfl) (fun K hK => ?_); simp (disch := first | omega | (simp only [List.length_set, List.length_append, List.length_cons, List.length_nil, iv_length, zl_length]; try omega; done)) [-getElem?_pos, -getElem?_neg, h3]; refine hK _ _ ?_; clear hK K)
    (refine aw_ret ?_; simp (disch := first | omega | (simp only [List.length_set, List.length_append, List.length_cons, List.length_nil, iv_length, zl_length]; try omega; done)) [-getElem?_pos, -getElem?_neg, thenQ_ret, inBlockQ_ret, RQ, resL, resV])
end Go.Proofs.Ytpdijcaikjobiaa
