/-
  The reference's number.
  The reference's text and list of numbers.
  Keys, walked.
  The reference's list of keys.
  Texts, walked.
-/
import Derived.Test.YtpdijcaikjobiaaWrA
import Derived.Test.YtpdijcaikjobiaaLibC
namespace Go.Proofs.Ytpdijcaikjobiaa
section
open Go Go.RowKit
set_option linter.unusedVariables false
set_option linter.unusedSimpArgs false
set_option maxRecDepth 100000
set_option maxHeartbeats 4000000
theorem sn_size (l : List Int) : (strOfNums l).size = l.length := by simp [strOfNums, ByteArray.size]
theorem sn_app (a b : List Int) : strOfNums a ++ strOfNums b = strOfNums (a ++ b) := by
  apply ByteArray.ext
  simp [strOfNums]
theorem hiG_cut {n k : Nat} (h : n / 128 ^ (k + 1) = 0) : ∀ {g : Nat}, k ≤ g → hiG n g = hiG n k := by
  intro g
  induction g with
  | zero => intro hk; obtain rfl : k = 0 := by omega
            rfl
  | succ g ih =>
    intro hk
    rcases Nat.eq_or_lt_of_le hk with rfl | hk
    · rfl
    · have hz : n / 128 ^ (g + 1) = 0 := by
        have h1 : n < 128 ^ (k + 1) := by
          rcases Nat.div_eq_zero_iff.1 h with h2 | h2
          · have : 0 < 128 ^ (k + 1) := Nat.pow_pos (by omega); omega
          · exact h2
        exact Nat.div_eq_of_lt (Nat.lt_of_lt_of_le h1 (Nat.pow_le_pow_right (by omega) (by omega)))
      rw [hiG, if_pos hz, List.nil_append]
      exact ih (by omega)
/-- The bytes from the k-th group on down. -/
def lowB (n k : Nat) : List Int := hiG n k ++ [((n % 128 : Nat) : Int)]
theorem lowB_next {n k : Nat} (h : n / 128 ^ (k + 1) ≠ 0) : lowB n (k + 1) = (((n / 128 ^ (k + 1) % 128 : Nat) : Int) + 128) :: lowB n k := by
  simp [lowB, hiG, h]
theorem lowB_len (n k : Nat) : (lowB n k).length ≤ k + 1 := by
  have := hiG_len n k
  simp [lowB]; omega
attribute [local simp] wb_bool wb_undef XL_nil XL_cons XLc_val XLc_call step1_eq stepW_t stepW_f stepC_n stepC_s stepX_s stepX_n stepN_s calleeX oneV xop_eq xopR_s xopR_n wantedA_eq wantedG_n wantedG_s plain1_int plain1_bool plain1_string bits_i64 bits_u64 bits_u32 bits_u16 bits_u8 xeqA xarr allK_iv num_iv calleeOf xread xeff xbin xint xnil xun xstr xload xconv xpart xfield xfieldAddr xindexAddr xindex bnd asInt? xslice xlen xmin xmax xbuild xfill xappend xapp2 xappstr xappmk xcap xcopy xcells eval_tmp eval_const put_at put_none fr0_at cells_agg cells_int cells_bool cells_string cells_ptr cells_slice notTuple tab iv_all hget_app hget_app0 hget_cons0 hget_cons set_app set_app0 setR setR_one QL_nil QL_cons QLc_val stepQ_t stepQ_f stepQC_n stepQC_s stepQX_s SL_nil SL_cons SLc_val stepS_t stepS_f ltT ltF leT leF eqT eqF ltTn ltFn leTn leFn eqTn eqFn beqT beqF bneT bneF wi64 wu64 wu32 wu16 wu8 tmodP tdivP hgetL hgetNe hgetEq setL nums_def nums_len Nat.succ_le_of_lt List.getElem?_cons_zero List.getElem?_cons_succ Option.getD_some Int.toNat_add Int.toNat_mul agB agI agS agP agL agA okB okI okS okP okSl okA
theorem refNumber_ac {H : AH} {γ : Nat → Option Nat} {nro n : Nat} (hn : n < 4294967296) (hnl : nro ≤ H.length) :
    AC Try.prog nro γ 25 #[.int .u32 (n : Nat)] H (fun v' H' => v' = .string (strOfNums (numB n)) ∧ ∃ L, H' = H ++ L) := by
  have hmm : n % 128 < 128 := Nat.mod_lt _ (by omega)
  have hw0 : IntKind.u8.wrap ((n : Int) % 128) = (n : Int) % 128 := wrap8_in (by omega)
  obtain ⟨x0, hx0⟩ : ∃ x0 : Int, x0 = (n : Int) % 128 := ⟨_, rfl⟩
  rw [← hx0] at hw0
  have hb0 : byteList [.int .u8 x0] = some [x0] := byteList_iv [x0]
  refine ac_of_aw Try.func25 rfl Try.ntmps25 Try.results25 (by simp) ?_
  refine aw_seq ?_
  (refine aw_ops (by kernel_rfl) (fun K hK => ?_); simp (disch := first | omega | (simp only [List.length_set, List.length_append, List.length_cons, List.length_nil, iv_length, zl_length]; try omega; done)) [-getElem?_pos, -getElem?_neg]; refine hK _ _ ?_; clear hK K)
  refine aw_seq ?_
  (refine aw_ops (by kernel_rfl) (fun K hK => ?_); simp (disch := first | omega | (simp only [List.length_set, List.length_append, List.length_cons, List.length_nil, iv_length, zl_length]; try omega; done)) [-getElem?_pos, -getElem?_neg, ← hx0, hw0, hb0]; refine hK _ _ ?_; clear hK K)
  refine aw_seq ?_
  refine aw_seq ?_
  (refine aw_ops (by kernel_rfl) (fun K hK => ?_); simp (disch := first | omega | (simp only [List.length_set, List.length_append, List.length_cons, List.length_nil, iv_length, zl_length]; try omega; done)) [-getElem?_pos, -getElem?_neg]; refine hK _ _ ?_; clear hK K)
  refine aw_cut (fun α G => α 3 = .string (strOfNums (numB n)) ∧ ∃ L, G = H ++ L) ?_ ?_
  · refine aw_block ?_
    refine aw_loop (fun c α G => ∃ k : Nat, k + c = 4 ∧ α 0 = .int .u32 ((n / 128 ^ (k + 1) : Nat) : Int) ∧ α 3 = .string (strOfNums (lowB n k)) ∧ ∃ L, G = H ++ L) 4 ?_ ?_
    · refine ⟨0, by omega, by simp [put_at], ?_, _, rfl⟩
      simp [put_at, lowB, hiG, hx0]
    rintro c α G ⟨k, hkc, h0, h3, L, rfl⟩
    obtain ⟨m, hm⟩ : ∃ m, m = n / 128 ^ (k + 1) := ⟨_, rfl⟩
    rw [← hm] at h0
    have hmn : m ≤ n := by rw [hm]; exact Nat.div_le_self _ _
    refine aw_seq ?_
    refine aw_seq ?_
    by_cases hz : m = 0
    · (refine aw_ops (by kernel_rfl) (fun K hK => ?_); simp (disch := first | omega | (simp only [List.length_set, List.length_append, List.length_cons, List.length_nil, iv_length, zl_length]; try omega; done)) [-getElem?_pos, -getElem?_neg, h0, hz]; refine hK _ _ ?_; clear hK K)
      refine aw_f (by (first | (simp [eval_tmp, put_at, hz]; done) | (simp [eval_tmp, put_at, hz]; omega))) (by kernel_rfl) ?_
      refine aw_exit ?_
      refine ⟨?_, _, rfl⟩
      have e : numB n = lowB n k := by
        unfold numB lowB
        rw [hiG_cut (by rw [← hm]; exact hz) (by omega : k ≤ 4)]
      rw [e]
      simp [put_at, h3]
    · have hk4 : k < 4 := by
        rcases Nat.lt_or_ge k 4 with h | h
        · exact h
        · exfalso
          obtain rfl : k = 4 := by omega
          apply hz; rw [hm]; exact Nat.div_eq_of_lt (by omega)
      have hpos : 0 < m := by omega
      have hmm : m % 128 < 128 := Nat.mod_lt _ (by omega)
      have hw2 : IntKind.u32.wrap ((m : Int) % 128 + 128) = (m : Int) % 128 + 128 := by simp only [IntKind.wrap_u32']; omega
      have hw1 : IntKind.u8.wrap ((m : Int) % 128 + 128) = (m : Int) % 128 + 128 := wrap8_in (by omega)
      obtain ⟨x1, hx1⟩ : ∃ x1 : Int, x1 = (m : Int) % 128 + 128 := ⟨_, rfl⟩
      rw [← hx1] at hw1 hw2
      have hb1 : byteList [.int .u8 x1] = some [x1] := byteList_iv [x1]
      have hsz : (strOfNums [x1]).size + (strOfNums (lowB n k)).size ≤ 9223372036854775807 := by
        rw [sn_size, sn_size]
        have := lowB_len n k
        simp; omega
      (refine aw_ops (by kernel_rfl) (fun K hK => ?_); simp (disch := first | omega | (simp only [List.length_set, List.length_append, List.length_cons, List.length_nil, iv_length, zl_length]; try omega; done)) [-getElem?_pos, -getElem?_neg, h0, hpos]; refine hK _ _ ?_; clear hK K)
      refine aw_t (by (first | (simp [eval_tmp, put_at, hpos]; done) | (simp [eval_tmp, put_at, hpos]; omega))) (by kernel_rfl) ?_
      refine aw_skip ?_
      refine aw_seq ?_
      refine aw_block ?_
      (refine aw_ops (by kernel_rfl) (fun K hK => ?_); simp (disch := first | omega | (simp only [List.length_set, List.length_append, List.length_cons, List.length_nil, iv_length, zl_length]; try omega; done)) [-getElem?_pos, -getElem?_neg, h0, h3, ← hx1, hw1, hw2, hb1, hsz, sn_app]; refine hK _ _ ?_; clear hK K)
      (refine aw_ops (by kernel_rfl) (fun K hK => ?_); simp (disch := first | omega | (simp only [List.length_set, List.length_append, List.length_cons, List.length_nil, iv_length, zl_length]; try omega; done)) [-getElem?_pos, -getElem?_neg, h0]; refine hK _ _ ?_; clear hK K)
      refine ⟨c - 1, by omega, k + 1, by omega, ?_, ?_, ?_⟩
      · have e : n / 128 ^ (k + 1 + 1) = m / 128 := by rw [hm, Nat.div_div_eq_div_mul, ← Nat.pow_succ]
        rw [e]
        simp [put_at]
      · have e := lowB_next (n := n) (k := k) (by rw [← hm]; exact hz)
        rw [e, ← hm]
        simp [put_at, hx1]
      · exact ⟨_, rfl⟩
  · rintro α G ⟨h3, L, rfl⟩
    refine aw_seq ?_
    (refine aw_ops (by kernel_rfl) (fun K hK => ?_); simp (disch := first | omega | (simp only [List.length_set, List.length_append, List.length_cons, List.length_nil, iv_length, zl_length]; try omega; done)) [-getElem?_pos, -getElem?_neg, h3]; refine hK _ _ ?_; clear hK K)
    (refine aw_ret ?_; simp (disch := first | omega | (simp only [List.length_set, List.length_append, List.length_cons, List.length_nil, iv_length, zl_length]; try omega; done)) [-getElem?_pos, -getElem?_neg, thenQ_ret, scopeQ_ret, inBlockQ_ret, RQ, resL, resV])
end

section
open Go Go.RowKit
set_option linter.unusedVariables false
set_option linter.unusedSimpArgs false
set_option maxRecDepth 100000
set_option maxHeartbeats 4000000
attribute [local simp] wb_bool wb_undef XL_nil XL_cons XLc_val XLc_call step1_eq stepW_t stepW_f stepC_n stepC_s stepX_s stepX_n stepN_s calleeX oneV xop_eq xopR_s xopR_n wantedA_eq wantedG_n wantedG_s plain1_int plain1_bool plain1_string bits_i64 bits_u64 bits_u32 bits_u16 bits_u8 xeqA xarr allK_iv num_iv calleeOf xread xeff xbin xint xnil xun xstr xload xconv xpart xfield xfieldAddr xindexAddr xindex bnd asInt? xslice xlen xmin xmax xbuild xfill xappend xapp2 xappstr xappmk xcap xcopy xcells eval_tmp eval_const put_at put_none fr0_at cells_agg cells_int cells_bool cells_string cells_ptr cells_slice notTuple tab iv_all hget_app hget_app0 hget_cons0 hget_cons set_app set_app0 setR setR_one QL_nil QL_cons QLc_val stepQ_t stepQ_f stepQC_n stepQC_s stepQX_s SL_nil SL_cons SLc_val stepS_t stepS_f ltT ltF leT leF eqT eqF ltTn ltFn leTn leFn eqTn eqFn beqT beqF bneT bneF wi64 wu64 wu32 wu16 wu8 tmodP tdivP hgetL hgetNe hgetEq setL nums_def nums_len Nat.succ_le_of_lt List.getElem?_cons_zero List.getElem?_cons_succ Option.getD_some Int.toNat_add Int.toNat_mul agB agI agS agP agL agA okB okI okS okP okSl okA
theorem refText_ac {H : AH} {γ : Nat → Option Nat} {nro : Nat} {s : ByteArray} (hs : s.size ≤ 100000) (hnl : nro ≤ H.length) :
    AC Try.prog nro γ 26 #[.string s] H (fun v' H' => v' = .string (strOfNums (numB s.size ++ nums s)) ∧ ∃ L, H' = H ++ L) := by
  have hw : IntKind.u32.wrap (s.size : Nat) = (s.size : Nat) := by simp only [IntKind.wrap_u32']; omega
  have h5 := numB_len s.size
  have hsz : (strOfNums (numB s.size)).size + s.size ≤ 9223372036854775807 := by rw [sn_size]; omega
  have happ : strOfNums (numB s.size) ++ s = strOfNums (numB s.size ++ nums s) := by
    rw [← sn_app, of_nums' s]
  refine ac_of_aw Try.func26 rfl Try.ntmps26 Try.results26 (by simp) ?_
  refine aw_seq ?_
  (refine aw_ops (by kernel_rfl) (fun K hK => ?_); simp (disch := first | omega | (simp only [List.length_set, List.length_append, List.length_cons, List.length_nil, iv_length, zl_length]; try omega; done)) [-getElem?_pos, -getElem?_neg]; refine hK _ _ ?_; clear hK K)
  refine aw_seq ?_
  refine aw_ops (by kernel_rfl) (fun K hK => ?_)
  simp (disch := first | omega | (simp only [List.length_set, List.length_append, List.length_cons, List.length_nil, iv_length, zl_length]; try omega; done)) [-getElem?_pos, -getElem?_neg, hw]
  refine ⟨by kernel_rfl, (refNumber_ac (by omega) hnl).mono ?_⟩
  rintro v1 H1 ⟨rfl, L, rfl⟩
  try simp (disch := first | omega | (simp only [List.length_set, List.length_append, List.length_cons, List.length_nil, iv_length, zl_length]; try omega; done)) [-getElem?_pos, -getElem?_neg, hsz, happ]
  refine hK _ _ ?_; clear hK K
  (refine aw_ret ?_; simp (disch := first | omega | (simp only [List.length_set, List.length_append, List.length_cons, List.length_nil, iv_length, zl_length]; try omega; done)) [-getElem?_pos, -getElem?_neg, thenQ_ret, scopeQ_ret, inBlockQ_ret, RQ, resL, resV])
theorem refNumberList_ac {H : AH} {γ : Nat → Option Nat} {nro : Nat} {l : List Int} {v : Value} (hv : SlV H v (iv .u32 l)) (hl : ∀ x ∈ l, 0 ≤ x ∧ x ≤ 4294967295) (hlen : l.length ≤ 10000) (hnl : nro ≤ H.length) :
    AC Try.prog nro γ 29 #[v] H (fun v' H' => v' = .string (strOfNums (numB l.length ++ numsB l)) ∧ ∃ L, H' = H ++ L) := by
  have hno : notTuple v = true := by rcases hv with ⟨a, rfl, _⟩ | ⟨j, off, k, rfl, _⟩ <;> rfl
  have hxl := hv.len (P := Try.prog) (t := 30) (e := 37) (by simp)
  have hil : (iv .u32 l).length = l.length := iv_length _ _
  rw [hil] at hxl
  have hwl : IntKind.u32.wrap (l.length : Nat) = (l.length : Nat) := by simp only [IntKind.wrap_u32']; omega
  refine ac_of_aw Try.func29 rfl Try.ntmps29 Try.results29 (by simp) ?_
  refine aw_seq ?_
  (refine aw_ops (by kernel_rfl) (fun K hK => ?_); simp (disch := first | omega | (simp only [List.length_set, List.length_append, List.length_cons, List.length_nil, iv_length, zl_length]; try omega; done)) [-getElem?_pos, -getElem?_neg]; refine hK _ _ ?_; clear hK K)
  refine aw_seq ?_
  refine aw_ops (by kernel_rfl) (fun K hK => ?_)
  simp (disch := first | omega | (simp only [List.length_set, List.length_append, List.length_cons, List.length_nil, iv_length, zl_length]; try omega; done)) [-getElem?_pos, -getElem?_neg, -xlen, hxl, hwl]
  refine ⟨by kernel_rfl, (refNumber_ac (by omega) hnl).mono ?_⟩
  rintro v1 H1 ⟨rfl, L, rfl⟩
  try simp (disch := first | omega | (simp only [List.length_set, List.length_append, List.length_cons, List.length_nil, iv_length, zl_length]; try omega; done)) [-getElem?_pos, -getElem?_neg]
  refine hK _ _ ?_; clear hK K
  refine aw_seq ?_
  refine aw_seq ?_
  (refine aw_ops (by kernel_rfl) (fun K hK => ?_); simp (disch := first | omega | (simp only [List.length_set, List.length_append, List.length_cons, List.length_nil, iv_length, zl_length]; try omega; done)) [-getElem?_pos, -getElem?_neg]; refine hK _ _ ?_; clear hK K)
  refine aw_cut (fun α G => α 3 = .string (strOfNums (numB l.length ++ numsB l)) ∧ ∃ L, G = H ++ L) ?_ ?_
  · refine aw_block ?_
    refine aw_loop (fun c α G => ∃ i : Nat, i + c = l.length ∧ α 4 = .int .i64 (i : Nat) ∧ α 0 = v ∧ α 3 = .string (strOfNums (numB l.length ++ numsB (l.take i))) ∧ ∃ L, G = H ++ L) l.length ?_ ?_
    · exact ⟨0, by omega, by (first | (simp [put_at, put_none, fr0_at]; done) | rfl), by (first | (simp [put_at, put_none, fr0_at]; done) | rfl), by simp [put_at, numsB], _, rfl⟩
    rintro c α G ⟨i, hic, h4, h0, h3, L, rfl⟩
    refine aw_seq ?_
    refine aw_seq ?_
    by_cases hi : i < l.length
    case neg =>
      obtain rfl : i = l.length := by omega
      rw [List.take_length] at h3
      (refine aw_ops (by kernel_rfl) (fun K hK => ?_); simp (disch := first | omega | (simp only [List.length_set, List.length_append, List.length_cons, List.length_nil, iv_length, zl_length]; try omega; done)) [-getElem?_pos, -getElem?_neg, h4, h0, -xlen, hxl]; refine hK _ _ ?_; clear hK K)
      refine aw_f (by (first | (simp [eval_tmp, put_at]; done) | (simp [eval_tmp, put_at]; omega))) (by kernel_rfl) ?_
      refine aw_exit ?_
      exact ⟨by (first | (simp [put_at, put_none, fr0_at, h3]; done) | rfl), _, rfl⟩
    obtain ⟨x, hx⟩ : ∃ x, l[i]? = some x := ⟨_, List.getElem?_eq_getElem hi⟩
    obtain ⟨hx0, hx1⟩ := hl x (List.mem_of_getElem? hx)
    obtain ⟨n, rfl⟩ : ∃ n : Nat, x = (n : Nat) := ⟨x.toNat, by omega⟩
    have hcx : (iv .u32 l)[i]? = some (.int .u32 (n : Nat)) := by simp [iv, hx]
    obtain ⟨px, hpx, hlx⟩ := (hv.keep (H' := H ++ L) (fun j hj => hget_left hj)).cell (P := Try.prog) (t := 30) (e := 37) (by simp) (by simp) (by simp) (by simp) hcx
    have hxa : xindexAddr Try.prog 30 v (.int .i64 (i : Nat)) = some px := hpx
    have hnpx : notTuple px = true := by
      unfold xload at hlx
      cases px <;> first | rfl | (simp at hlx)
    (refine aw_ops (by kernel_rfl) (fun K hK => ?_); simp (disch := first | omega | (simp only [List.length_set, List.length_append, List.length_cons, List.length_nil, iv_length, zl_length]; try omega; done)) [-getElem?_pos, -getElem?_neg, h4, h0, -xlen, hxl, hi]; refine hK _ _ ?_; clear hK K)
    refine aw_t (by (first | (simp [eval_tmp, put_at, hi]; done) | (simp [eval_tmp, put_at, hi]; omega))) (by kernel_rfl) ?_
    refine aw_skip ?_
    refine aw_seq ?_
    refine aw_block ?_
    have h5 := numB_len n
    have h6 := numB_len l.length
    have h7 := numsB_len (l.take i)
    rw [List.length_take] at h7
    have hsz : (strOfNums (numB l.length ++ numsB (l.take i))).size + (strOfNums (numB n)).size ≤ 9223372036854775807 := by rw [sn_size, sn_size, List.length_append]; omega
    have happ : strOfNums (numB l.length ++ numsB (l.take i)) ++ strOfNums (numB n) = strOfNums (numB l.length ++ numsB (l.take (i + 1))) := by
      rw [sn_app, numsB_next hx]
      simp
    refine aw_ops (by kernel_rfl) (fun K hK => ?_)
    simp (disch := first | omega | (simp only [List.length_set, List.length_append, List.length_cons, List.length_nil, iv_length, zl_length]; try omega; done)) [-getElem?_pos, -getElem?_neg, h3, h0, h4, -xindexAddr, hxa, -xload, hlx, hnpx]
    refine ⟨by kernel_rfl, (refNumber_ac (by omega) (by rw [List.length_append]; omega)).mono ?_⟩
    rintro v1 H1 ⟨rfl, L2, rfl⟩
    try simp (disch := first | omega | (simp only [List.length_set, List.length_append, List.length_cons, List.length_nil, iv_length, zl_length]; try omega; done)) [-getElem?_pos, -getElem?_neg, h3, hsz, happ]
    refine hK _ _ ?_; clear hK K
    (refine aw_ops (by kernel_rfl) (fun K hK => ?_); simp (disch := first | omega | (simp only [List.length_set, List.length_append, List.length_cons, List.length_nil, iv_length, zl_length]; try omega; done)) [-getElem?_pos, -getElem?_neg, h4]; refine hK _ _ ?_; clear hK K)
    exact ⟨c - 1, by omega, i + 1, by omega, by (first | (simp [put_at, put_none, fr0_at]; done) | rfl), by (first | (simp [put_at, put_none, fr0_at, h0]; done) | rfl), by simp [put_at], _, rfl⟩
  · rintro α G ⟨h3, L, rfl⟩
    refine aw_seq ?_
    (refine aw_ops (by kernel_rfl) (fun K hK => ?_); simp (disch := first | omega | (simp only [List.length_set, List.length_append, List.length_cons, List.length_nil, iv_length, zl_length]; try omega; done)) [-getElem?_pos, -getElem?_neg, h3]; refine hK _ _ ?_; clear hK K)
    (refine aw_ret ?_; simp (disch := first | omega | (simp only [List.length_set, List.length_append, List.length_cons, List.length_nil, iv_length, zl_length]; try omega; done)) [-getElem?_pos, -getElem?_neg, thenQ_ret, scopeQ_ret, inBlockQ_ret, RQ, resL, resV])
end

section
open Go Go.RowKit
set_option linter.unusedVariables false
set_option linter.unusedSimpArgs false
set_option maxRecDepth 100000
set_option maxHeartbeats 4000000
def KyS (H : AH) (F : List Nat) (v : Value) (ks : List (List Int)) : Prop := ∀ G : AH, (∀ j, j < H.length → j ∉ F → hget G j = hget H j) → SlK 32 .u8 G v ks
theorem KyS.now {H : AH} {F : List Nat} {v : Value} {ks : List (List Int)} (h : KyS H F v ks) : SlK 32 .u8 H v ks := h H (fun _ _ _ => rfl)
theorem KyS.fr {H H' : AH} {F F' : List Nat} {v : Value} {ks : List (List Int)} (h : KyS H F v ks) (hf : Fr H H' F F') : KyS H' F' v ks := fun G hg => h G (fun j hj hn => by
  rw [hg j (Nat.lt_of_lt_of_le hj hf.len) (fun hm => ?_), hf.out j hj hn]
  rcases hf.new j hm with h1 | h1
  · exact hn h1
  · omega)
attribute [local simp] wb_bool wb_undef XL_nil XL_cons XLc_val XLc_call step1_eq stepW_t stepW_f stepC_n stepC_s stepX_s stepX_n stepN_s calleeX oneV xop_eq xopR_s xopR_n wantedA_eq wantedG_n wantedG_s plain1_int plain1_bool plain1_string bits_i64 bits_u64 bits_u32 bits_u16 bits_u8 xeqA xarr allK_iv num_iv calleeOf xread xeff xbin xint xnil xun xstr xload xconv xpart xfield xfieldAddr xindexAddr xindex bnd asInt? xslice xlen xmin xmax xbuild xfill xappend xapp2 xappstr xappmk xcap xcopy xcells eval_tmp eval_const put_at put_none fr0_at cells_agg cells_int cells_bool cells_string cells_ptr cells_slice notTuple tab iv_all hget_app hget_app0 hget_cons0 hget_cons set_app set_app0 setR setR_one QL_nil QL_cons QLc_val stepQ_t stepQ_f stepQC_n stepQC_s stepQX_s SL_nil SL_cons SLc_val stepS_t stepS_f ltT ltF leT leF eqT eqF ltTn ltFn leTn leFn eqTn eqFn beqT beqF bneT bneF wi64 wu64 wu32 wu16 wu8 tmodP tdivP hgetL hgetNe hgetEq setL nums_def nums_len Nat.succ_le_of_lt List.getElem?_cons_zero List.getElem?_cons_succ Option.getD_some Int.toNat_add Int.toNat_mul agB agI agS agP agL agA okB okI okS okP okSl okA
theorem keys_ac {H : AH} {γ : Nat → Option Nat} {nro p : Nat} {F : List Nat} {bs : List Int} {ks : List (List Int)} {v : Value} (h : Wr H p F bs) (hlo : ∀ j ∈ F, nro ≤ j) (hnl : nro ≤ H.length) (hv : KyS H F v ks) (hk : ∀ key ∈ ks, key.length = 32) (hlen : bs.length + 32 * ks.length ≤ 100000) :
    AC Try.prog nro γ 27 #[.pointer (some ⟨p, 0, none⟩), v] H (fun v' H' => ∃ F', Wr H' p F' (bs ++ ks.flatten) ∧ Fr H H' F F') := by
  have hxl := hv.now.len (P := Try.prog) (t := 31) (e := 41) (by simp)
  have hno : notTuple v = true := by
    rcases hv.now with ⟨a, rfl, _⟩ | ⟨j, k, rfl, _⟩ <;> rfl
  have hnp : nro ≤ p := hlo p (by obtain ⟨v, FU, rfl, _⟩ := h; simp)
  refine ac_of_aw Try.func27 rfl Try.ntmps27 Try.results27 (by simp) ?_
  refine aw_seq ?_
  (refine aw_ops (by kernel_rfl) (fun K hK => ?_); simp (disch := first | omega | (simp only [List.length_set, List.length_append, List.length_cons, List.length_nil, iv_length, zl_length]; try omega; done)) [-getElem?_pos, -getElem?_neg, -xlen, hxl]; refine hK _ _ ?_; clear hK K)
  refine aw_block ?_
  refine aw_loop (fun c α G => ∃ i : Nat, i + c = ks.length ∧ α 8 = .int .i64 (i : Nat) ∧ α 7 = .int .i64 (ks.length : Nat) ∧ α 6 = v ∧ α 0 = .pointer (some ⟨p, 0, none⟩) ∧ ∃ F', Wr G p F' (bs ++ (ks.take i).flatten) ∧ Fr H G F F') ks.length ?_ ?_
  · exact ⟨0, by omega, by (first | (simp [put_at, put_none, fr0_at]; done) | rfl), by (first | (simp [put_at, put_none, fr0_at]; done) | rfl), by (first | (simp [put_at, put_none, fr0_at]; done) | rfl), by (first | (simp [put_at, put_none, fr0_at]; done) | rfl), F, by simpa using h, .refl _ _⟩
  rintro c α G ⟨i, hic, h8, h7, h6, h0, F1, hw, hf⟩
  refine aw_seq ?_
  (refine aw_ops (by kernel_rfl) (fun K hK => ?_); simp (disch := first | omega | (simp only [List.length_set, List.length_append, List.length_cons, List.length_nil, iv_length, zl_length]; try omega; done)) [-getElem?_pos, -getElem?_neg, h8, h7]; refine hK _ _ ?_; clear hK K)
  refine aw_seq ?_
  by_cases hi : i < ks.length
  case neg =>
    refine aw_f (by (first | (simp [eval_tmp, put_at, hi]; done) | (simp [eval_tmp, put_at, hi]; omega))) (by kernel_rfl) ?_
    refine aw_exit ?_
    refine ⟨_, _, rfl, rfl, F1, ?_, hf⟩
    obtain rfl : i = ks.length := by omega
    rwa [List.take_length] at hw
  refine aw_t (by (first | (simp [eval_tmp, put_at, hi]; done) | (simp [eval_tmp, put_at, hi]; omega))) (by kernel_rfl) ?_
  refine aw_skip ?_
  refine aw_seq ?_
  refine aw_block ?_
  obtain ⟨key, hx⟩ : ∃ key, ks[i]? = some key := ⟨_, List.getElem?_eq_getElem hi⟩
  have hk32 := hk key (List.mem_of_getElem? hx)
  have hvG := (hv.fr hf).now
  obtain ⟨px, hpx, hlx0⟩ := hvG.at (P := Try.prog) (t := 31) (e := 41) (by simp) (by simp) (by omega) (by simp) hx
  have hlx := hlx0 G (fun _ _ => rfl)
  have hxa : xindexAddr Try.prog 31 v (.int .i64 (i : Nat)) = some px := hpx
  have hnpx : notTuple px = true := by
    unfold xload at hlx
    cases px <;> first | rfl | (simp at hlx)
  have hnG : nro ≤ G.length := Nat.le_trans hnl hf.len
  have hset : setR (iv .u8 (zl 32)) 0 (iv .u8 key) = iv .u8 key := setR_all _ _ (by rw [iv_length, iv_length, hk32]; rfl)
  have hagg : notTuple (.agg (iv .u8 key).toArray) = true := rfl
  have hkl : (iv .u8 key).length = 32 := by rw [iv_length, hk32]
  refine aw_seq ?_
  (refine aw_ops (by kernel_rfl) (fun K hK => ?_); simp (disch := first | omega | (simp only [List.length_set, List.length_append, List.length_cons, List.length_nil, iv_length, zl_length]; try omega; done)) [-getElem?_pos, -getElem?_neg, h6, h8, -xindexAddr, hxa, -xload, hlx, hnpx, -notTuple, hnG, hset, hagg]; refine hK _ _ ?_; clear hK K)
  have lt2 : ∀ j ∈ F1, nro ≤ j := fun j hj => by
    rcases hf.new j hj with h1 | h1
    · exact hlo j h1
    · omega
  have hfl : (ks.take i).flatten.length = 32 * i := by
    rw [List.length_flatten]
    have : (ks.take i).map List.length = List.replicate i 32 := by
      apply List.eq_replicate_iff.2
      refine ⟨by rw [List.length_map, List.length_take]; omega, fun b hb => ?_⟩
      obtain ⟨a, ha, rfl⟩ := List.mem_map.1 hb
      exact hk a (List.mem_of_mem_take ha)
    rw [this, List.sum_replicate_nat]; omega
  have htk : (iv .u8 key).take 32 = iv .u8 key := List.take_of_length_le (by omega)
  have hxc : xcells 1 (.slice (some ⟨G.length, 0, none⟩) 32 32) (G ++ [some ⟨iv .u8 key, 41, none⟩]) = some (iv .u8 key) := by simp [xcells, hget_app0, hkl, htk]
  obtain ⟨w, w', H', hgw, hnw, hap, hnw', hcw', hgw', hwr, hfr⟩ := wr_append (nro := nro) (G := G ++ [some ⟨iv .u8 key, 41, none⟩]) hw lt2 (by simp) (fun j hj => hget_left hj) (fun s e => by cases e) hxc (fun e => by rw [e] at hk32; simp at hk32) (by rw [List.length_append, hfl]; omega)
  have hgw2 : hget (G ++ [some ⟨iv .u8 key, 41, none⟩]) p = _ := (hget_left (hget_lt hgw)).trans hgw
  (refine aw_plan [] [0, 1, 2, 3] [4, 5] 6 4 (by kernel_rfl) (by kernel_rfl) (by kernel_rfl) (fun K hK => ?_)); simp only [sel, List.getElem?_cons_succ, List.getElem?_cons_zero, List.drop_succ_cons, List.drop_zero]; simp (disch := first | omega | (simp only [List.length_set, List.length_append, List.length_cons, List.length_nil, iv_length, zl_length]; try omega; done)) [-getElem?_pos, -getElem?_neg, h0, hgw2, hgw', hnw, hnw', hcw', -notTuple, nt_sl, -xappend, hap, hnp, PL_nil, PL_cons, PLc_val, PLc_new, stepP_t, stepP_f, stepPC_n, stepPC_s, stepPX_s, stepPX_n, stepPA_t, stepPA_c, stepPA_l, stepPN_s, allocOp, reloc_sl, reloc_ptr, List.map_cons, List.map_nil, List.nil_append, List.append_assoc, List.cons_append, Nat.add_assoc]
  refine hK _ _ ?_; clear hK K
  (refine aw_ops (by kernel_rfl) (fun K hK => ?_); simp (disch := first | omega | (simp only [List.length_set, List.length_append, List.length_cons, List.length_nil, iv_length, zl_length]; try omega; done)) [-getElem?_pos, -getElem?_neg, h8]; refine hK _ _ ?_; clear hK K)
  refine ⟨c - 1, by omega, i + 1, by omega, by (first | (simp [put_at, put_none, fr0_at]; done) | rfl), by (first | (simp [put_at, put_none, fr0_at, h7]; done) | rfl), by (first | (simp [put_at, put_none, fr0_at, h6]; done) | rfl), by (first | (simp [put_at, put_none, fr0_at, h0]; done) | rfl), _, ?_, hf.trans hfr⟩
  rw [List.take_add_one, hx, List.flatten_append]
  simp only [Option.toList_some, List.flatten_cons, List.flatten_nil, List.append_nil]
  rw [← List.append_assoc]
  exact hwr
theorem keylist_ac {H : AH} {γ : Nat → Option Nat} {nro p : Nat} {F : List Nat} {bs : List Int} {l : List (List Int)} {v : Value} (h : Wr H p F bs) (hlo : ∀ j ∈ F, nro ≤ j) (hnl : nro ≤ H.length) (hv : KyS H F v l) (hl : ∀ key ∈ l, key.length = 32) (hlen : bs.length + 32 * l.length ≤ 90000) :
    AC Try.prog nro γ 23 #[.pointer (some ⟨p, 0, none⟩), v] H (fun v' H' => ∃ F', Wr H' p F' (bs ++ numB l.length ++ l.flatten) ∧ Fr H H' F F') := by
  have hno : notTuple v = true := by rcases hv.now with ⟨a, rfl, _⟩ | ⟨j, k, rfl, _⟩ <;> rfl
  have hxl := hv.now.len (P := Try.prog) (t := 31) (e := 41) (by simp)
  have hwl : IntKind.u32.wrap (l.length : Nat) = (l.length : Nat) := by simp only [IntKind.wrap_u32']; omega
  have hlt := h.lt
  have hs1 := one_sls (x := (l.length : Nat)) hlt _ rfl
  have hf0 : Fr H (H ++ [some ⟨[.int .u32 (l.length : Nat)], 37, some 1⟩]) F F := Fr.mk (by simp) (fun j hj _ => hget_left hj) (fun j hj => .inl hj)
  have hw1 := h.low (H' := H ++ [some ⟨[.int .u32 (l.length : Nat)], 37, some 1⟩]) (fun j hj => hget_left (hlt j hj))
  have hn5 := numB_len l.length
  refine ac_of_aw Try.func23 rfl Try.ntmps23 Try.results23 (by simp) ?_
  refine aw_seq ?_
  refine aw_ops (by kernel_rfl) (fun K hK => ?_)
  simp (disch := first | omega | (simp only [List.length_set, List.length_append, List.length_cons, List.length_nil, iv_length, zl_length]; try omega; done)) [-getElem?_pos, -getElem?_neg, -xlen, hxl, hwl]
  refine ⟨by kernel_rfl, (numbers_ac hw1 hlo (by rw [List.length_append]; omega) hs1 (by simp; omega) (by simp; omega)).mono ?_⟩
  rintro v1 H1 ⟨F1, hw2, hf1⟩
  try simp (disch := first | omega | (simp only [List.length_set, List.length_append, List.length_cons, List.length_nil, iv_length, zl_length]; try omega; done)) [-getElem?_pos, -getElem?_neg]
  refine hK _ _ ?_; clear hK K
  have hf2 := hf0.trans hf1
  have e1 : numsB [((l.length : Nat) : Int)] = numB l.length := by simp [numsB]
  rw [e1] at hw2
  have hbl : (bs ++ numB l.length).length + 32 * l.length ≤ 100000 := by rw [List.length_append]; omega
  refine aw_ops (by kernel_rfl) (fun K hK => ?_)
  simp (disch := first | omega | (simp only [List.length_set, List.length_append, List.length_cons, List.length_nil, iv_length, zl_length]; try omega; done)) [-getElem?_pos, -getElem?_neg]
  refine ⟨by kernel_rfl, (keys_ac hw2 (fun j hj => ?_) (by have := hf2.len; omega) (hv.fr hf2) hl hbl).mono ?_⟩
  · rcases hf2.new j hj with h1 | h1
    · exact hlo j h1
    · omega
  rintro v2 H2 ⟨F2, hw3, hf3⟩
  try simp (disch := first | omega | (simp only [List.length_set, List.length_append, List.length_cons, List.length_nil, iv_length, zl_length]; try omega; done)) [-getElem?_pos, -getElem?_neg]
  refine hK _ _ ?_; clear hK K
  exact ⟨_, _, rfl, rfl, F2, hw3, hf2.trans hf3⟩
end

section
open Go Go.RowKit
set_option linter.unusedVariables false
set_option linter.unusedSimpArgs false
set_option maxRecDepth 100000
set_option maxHeartbeats 4000000
attribute [local simp] wb_bool wb_undef XL_nil XL_cons XLc_val XLc_call step1_eq stepW_t stepW_f stepC_n stepC_s stepX_s stepX_n stepN_s calleeX oneV xop_eq xopR_s xopR_n wantedA_eq wantedG_n wantedG_s plain1_int plain1_bool plain1_string bits_i64 bits_u64 bits_u32 bits_u16 bits_u8 xeqA xarr allK_iv num_iv calleeOf xread xeff xbin xint xnil xun xstr xload xconv xpart xfield xfieldAddr xindexAddr xindex bnd asInt? xslice xlen xmin xmax xbuild xfill xappend xapp2 xappstr xappmk xcap xcopy xcells eval_tmp eval_const put_at put_none fr0_at cells_agg cells_int cells_bool cells_string cells_ptr cells_slice notTuple tab iv_all hget_app hget_app0 hget_cons0 hget_cons set_app set_app0 setR setR_one QL_nil QL_cons QLc_val stepQ_t stepQ_f stepQC_n stepQC_s stepQX_s SL_nil SL_cons SLc_val stepS_t stepS_f ltT ltF leT leF eqT eqF ltTn ltFn leTn leFn eqTn eqFn beqT beqF bneT bneF wi64 wu64 wu32 wu16 wu8 tmodP tdivP hgetL hgetNe hgetEq setL nums_def nums_len Nat.succ_le_of_lt List.getElem?_cons_zero List.getElem?_cons_succ Option.getD_some Int.toNat_add Int.toNat_mul agB agI agS agP agL agA okB okI okS okP okSl okA
theorem refKeyList_ac {H : AH} {γ : Nat → Option Nat} {nro : Nat} {l : List (List Int)} {v : Value} (hv : SlK 32 .u8 H v l) (hl : ∀ key ∈ l, key.length = 32) (hlen : l.length ≤ 10000) (hnl : nro ≤ H.length) :
    AC Try.prog nro γ 28 #[v] H (fun v' H' => v' = .string (strOfNums (numB l.length ++ l.flatten)) ∧ ∃ L, H' = H ++ L) := by
  have hno : notTuple v = true := by rcases hv with ⟨a, rfl, _⟩ | ⟨j, k, rfl, _⟩ <;> rfl
  have hxl := hv.len (P := Try.prog) (t := 31) (e := 41) (by simp)
  have hwl : IntKind.u32.wrap (l.length : Nat) = (l.length : Nat) := by simp only [IntKind.wrap_u32']; omega
  refine ac_of_aw Try.func28 rfl Try.ntmps28 Try.results28 (by simp) ?_
  refine aw_seq ?_
  (refine aw_ops (by kernel_rfl) (fun K hK => ?_); simp (disch := first | omega | (simp only [List.length_set, List.length_append, List.length_cons, List.length_nil, iv_length, zl_length]; try omega; done)) [-getElem?_pos, -getElem?_neg]; refine hK _ _ ?_; clear hK K)
  refine aw_seq ?_
  refine aw_ops (by kernel_rfl) (fun K hK => ?_)
  simp (disch := first | omega | (simp only [List.length_set, List.length_append, List.length_cons, List.length_nil, iv_length, zl_length]; try omega; done)) [-getElem?_pos, -getElem?_neg, -xlen, hxl, hwl]
  refine ⟨by kernel_rfl, (refNumber_ac (by omega) hnl).mono ?_⟩
  rintro v1 H1 ⟨rfl, L, rfl⟩
  try simp (disch := first | omega | (simp only [List.length_set, List.length_append, List.length_cons, List.length_nil, iv_length, zl_length]; try omega; done)) [-getElem?_pos, -getElem?_neg]
  refine hK _ _ ?_; clear hK K
  refine aw_seq ?_
  refine aw_seq ?_
  (refine aw_ops (by kernel_rfl) (fun K hK => ?_); simp (disch := first | omega | (simp only [List.length_set, List.length_append, List.length_cons, List.length_nil, iv_length, zl_length]; try omega; done)) [-getElem?_pos, -getElem?_neg]; refine hK _ _ ?_; clear hK K)
  refine aw_cut (fun α G => α 3 = .string (strOfNums (numB l.length ++ l.flatten)) ∧ ∃ L, G = H ++ L) ?_ ?_
  · refine aw_block ?_
    refine aw_loop (fun c α G => ∃ i : Nat, i + c = l.length ∧ α 4 = .int .i64 (i : Nat) ∧ α 0 = v ∧ α 3 = .string (strOfNums (numB l.length ++ (l.take i).flatten)) ∧ ∃ L, G = H ++ L) l.length ?_ ?_
    · exact ⟨0, by omega, by (first | (simp [put_at, put_none, fr0_at]; done) | rfl), by (first | (simp [put_at, put_none, fr0_at]; done) | rfl), by simp [put_at], _, rfl⟩
    rintro c α G ⟨i, hic, h4, h0, h3, L, rfl⟩
    refine aw_seq ?_
    refine aw_seq ?_
    by_cases hi : i < l.length
    case neg =>
      obtain rfl : i = l.length := by omega
      rw [List.take_length] at h3
      (refine aw_ops (by kernel_rfl) (fun K hK => ?_); simp (disch := first | omega | (simp only [List.length_set, List.length_append, List.length_cons, List.length_nil, iv_length, zl_length]; try omega; done)) [-getElem?_pos, -getElem?_neg, h4, h0, -xlen, hxl]; refine hK _ _ ?_; clear hK K)
      refine aw_f (by (first | (simp [eval_tmp, put_at]; done) | (simp [eval_tmp, put_at]; omega))) (by kernel_rfl) ?_
      refine aw_exit ?_
      exact ⟨by (first | (simp [put_at, put_none, fr0_at, h3]; done) | rfl), _, rfl⟩
    obtain ⟨key, hx⟩ : ∃ key, l[i]? = some key := ⟨_, List.getElem?_eq_getElem hi⟩
    have hk32 := hl key (List.mem_of_getElem? hx)
    (refine aw_ops (by kernel_rfl) (fun K hK => ?_); simp (disch := first | omega | (simp only [List.length_set, List.length_append, List.length_cons, List.length_nil, iv_length, zl_length]; try omega; done)) [-getElem?_pos, -getElem?_neg, h4, h0, -xlen, hxl, hi]; refine hK _ _ ?_; clear hK K)
    refine aw_t (by (first | (simp [eval_tmp, put_at, hi]; done) | (simp [eval_tmp, put_at, hi]; omega))) (by kernel_rfl) ?_
    refine aw_skip ?_
    refine aw_seq ?_
    refine aw_block ?_
    have h6 := numB_len l.length
    have hfl : (l.take i).flatten.length = 32 * i := by
      rw [List.length_flatten]
      have : (l.take i).map List.length = List.replicate i 32 := by
        apply List.eq_replicate_iff.2
        refine ⟨by rw [List.length_map, List.length_take]; omega, fun b hb => ?_⟩
        obtain ⟨a, ha, rfl⟩ := List.mem_map.1 hb
        exact hl a (List.mem_of_mem_take ha)
      rw [this, List.sum_replicate_nat]; omega
    have hsz : (strOfNums (numB l.length ++ (l.take i).flatten)).size + (strOfNums key).size ≤ 9223372036854775807 := by rw [sn_size, sn_size, List.length_append]; omega
    have happ : strOfNums (numB l.length ++ (l.take i).flatten) ++ strOfNums key = strOfNums (numB l.length ++ (l.take (i + 1)).flatten) := by
      rw [sn_app, List.take_add_one, hx, List.flatten_append]
      simp
    rcases hv with ⟨a, _, h⟩ | ⟨j, b, rfl, hb, hc, hkk⟩
    · rw [h] at hi; cases hi
    have hbL : hget (H ++ L) j = some b := (hget_left (hget_lt hb)).trans hb
    have hkey := hkk i key hx
    have hbl := byteList_iv key
    (refine aw_ops (by kernel_rfl) (fun K hK => ?_); simp (disch := first | omega | (simp only [List.length_set, List.length_append, List.length_cons, List.length_nil, iv_length, zl_length]; try omega; done)) [-getElem?_pos, -getElem?_neg, h3, h0, h4, hbL, hi, hkey, hbl, hk32, hsz, happ]; refine hK _ _ ?_; clear hK K)
    (refine aw_ops (by kernel_rfl) (fun K hK => ?_); simp (disch := first | omega | (simp only [List.length_set, List.length_append, List.length_cons, List.length_nil, iv_length, zl_length]; try omega; done)) [-getElem?_pos, -getElem?_neg, h4]; refine hK _ _ ?_; clear hK K)
    exact ⟨c - 1, by omega, i + 1, by omega, by (first | (simp [put_at, put_none, fr0_at]; done) | rfl), by (first | (simp [put_at, put_none, fr0_at, h0]; done) | rfl), by simp [put_at], _, rfl⟩
  · rintro α G ⟨h3, L, rfl⟩
    refine aw_seq ?_
    (refine aw_ops (by kernel_rfl) (fun K hK => ?_); simp (disch := first | omega | (simp only [List.length_set, List.length_append, List.length_cons, List.length_nil, iv_length, zl_length]; try omega; done)) [-getElem?_pos, -getElem?_neg, h3]; refine hK _ _ ?_; clear hK K)
    (refine aw_ret ?_; simp (disch := first | omega | (simp only [List.length_set, List.length_append, List.length_cons, List.length_nil, iv_length, zl_length]; try omega; done)) [-getElem?_pos, -getElem?_neg, thenQ_ret, scopeQ_ret, inBlockQ_ret, RQ, resL, resV])
end

section
open Go Go.RowKit
set_option linter.unusedVariables false
set_option linter.unusedSimpArgs false
set_option maxRecDepth 100000
set_option maxHeartbeats 4000000
theorem ownF_appstr {P : Program} {nro : Nat} {t e : TypeId} {H : AH} {v : Value} {b : ByteArray} {cells : List Value} {F : List Nat} (hu : und P t = .slice e) (hz : zer P e = some (.int .u8 0)) (hs : szt P e = 1) (hby : byt P e = 1)
    (hv : OwnF H v e 1 cells F) (hnro : ∀ j ∈ F, nro ≤ j) (hb : cells.length + b.size ≤ 140737488355328) (hm : cells.length + b.size ≤ maxLen) :
    ∃ v' H' F', xappstr P nro t v (.string b) H = some (v', H') ∧ OwnF H' v' e 1 (cells ++ iv .u8 (nums b)) F' ∧ H.length ≤ H'.length ∧ (∀ j ∈ F', H.length ≤ j) ∧ ∀ j, j < H.length → j ∉ F → hget H' j = hget H j := by
  have hnl : (iv .u8 (nums b)).length = b.size := by rw [iv_length]; simp [nums]
  rcases hv with ⟨rfl, rfl, rfl⟩ | ⟨j, len, rfl, h3, h4, rfl⟩
  · simp only [List.length_nil, Nat.zero_add] at hb hm
    by_cases h0 : b.size = 0
    · refine ⟨.slice none 0 0, H, [], ?_, .inl ⟨rfl, List.eq_nil_of_length_eq_zero (by simp [hnl, h0]), rfl⟩, Nat.le_refl _, (by simp), fun _ _ _ => rfl⟩
      unfold xappstr
      simp only [hu, hz]
      rw [if_pos ⟨trivial, hs, hby⟩, if_pos ⟨hb, hm⟩, if_pos h0]
    · refine ⟨.slice (some ⟨H.length, 0, none⟩) b.size b.size, H ++ [some ⟨iv .u8 (nums b), e, some 1⟩], [H.length], ?_, .inr ⟨H.length, b.size, rfl, ?_, by simp [hnl], rfl⟩, by simp, by simp, fun i hi _ => hget_left hi⟩
      · unfold xappstr
        simp only [hu, hz]
        rw [if_pos ⟨trivial, hs, hby⟩, if_pos ⟨hb, hm⟩, if_neg h0]
      · rw [hget_app0, hget_cons0]; rfl
  · have hj := hget_lt h3
    refine ⟨.slice (some ⟨H.length, 0, none⟩) (len + b.size) (len + b.size), H.set j none ++ [some ⟨cells ++ iv .u8 (nums b), e, some 1⟩], [H.length], ?_, .inr ⟨H.length, len + b.size, rfl, ?_, by simp [hnl]; omega, rfl⟩, by simp, by simp, fun i hi hni => ?_⟩
    · unfold xappstr
      simp only [hu, hz, h3]
      rw [if_pos ⟨trivial, hs, hby⟩, if_pos ⟨trivial, hnro j (by simp), trivial, trivial, by omega, by omega, by omega⟩, show len = cells.length by omega, List.take_length]
    · have : (H.set j none).length = H.length := by simp
      rw [← this, hget_app0, hget_cons0]
    · rw [hget_left (by simp; omega), hget_set_ne (fun e => hni (by simp [e]))]
theorem nums_size (s : ByteArray) : (nums s).length = s.size := by simp [nums]
attribute [local simp] wb_bool wb_undef XL_nil XL_cons XLc_val XLc_call step1_eq stepW_t stepW_f stepC_n stepC_s stepX_s stepX_n stepN_s calleeX oneV xop_eq xopR_s xopR_n wantedA_eq wantedG_n wantedG_s plain1_int plain1_bool plain1_string bits_i64 bits_u64 bits_u32 bits_u16 bits_u8 xeqA xarr allK_iv num_iv calleeOf xread xeff xbin xint xnil xun xstr xload xconv xpart xfield xfieldAddr xindexAddr xindex bnd asInt? xslice xlen xmin xmax xbuild xfill xappend xapp2 xappstr xappmk xcap xcopy xcells eval_tmp eval_const put_at put_none fr0_at cells_agg cells_int cells_bool cells_string cells_ptr cells_slice notTuple tab iv_all hget_app hget_app0 hget_cons0 hget_cons set_app set_app0 setR setR_one QL_nil QL_cons QLc_val stepQ_t stepQ_f stepQC_n stepQC_s stepQX_s SL_nil SL_cons SLc_val stepS_t stepS_f ltT ltF leT leF eqT eqF ltTn ltFn leTn leFn eqTn eqFn beqT beqF bneT bneF wi64 wu64 wu32 wu16 wu8 tmodP tdivP hgetL hgetNe hgetEq setL nums_def nums_len Nat.succ_le_of_lt List.getElem?_cons_zero List.getElem?_cons_succ Option.getD_some Int.toNat_add Int.toNat_mul agB agI agS agP agL agA okB okI okS okP okSl okA
/-- A text's bytes more. -/
theorem wr_appstr {nro : Nat} {H : AH} {p : Nat} {F : List Nat} {bs : List Int} {s : ByteArray} (h : Wr H p F bs) (hnro : ∀ j ∈ F, nro ≤ j) (hb : bs.length + s.size ≤ 1000000) :
    ∃ v v' H' F', hget H p = some ⟨[v], 27, none⟩ ∧ notTuple v = true ∧ xappstr Try.prog nro 25 v (.string s) H = some (v', H') ∧ notTuple v' = true ∧ v'.cells = #[v'] ∧ hget H' p = some ⟨[v], 27, none⟩ ∧
      Wr (H'.set p (some ⟨[v'], 27, none⟩)) p F' (bs ++ nums s) ∧ Fr H (H'.set p (some ⟨[v'], 27, none⟩)) F F' := by
  have hlt := h.lt
  obtain ⟨v, FU, rfl, h1, h2, h3⟩ := h
  have hpl := hget_lt h1
  have hivb : (iv .u8 bs).length = bs.length := iv_length _ _
  obtain ⟨v', H', F', hap, ho, hlen, hnew, hk⟩ := ownF_appstr (P := Try.prog) (nro := nro) (t := 25) (e := 5) (H := H) (v := v) (b := s) (cells := iv .u8 bs) (F := FU) (by simp) (by simp) (by simp) (by simp) h2
    (fun j hj => hnro j (by simp [hj])) (by rw [hivb]; omega) (by rw [hivb]; simp [maxLen]; omega)
  have hp' : hget H' p = some ⟨[v], 27, none⟩ := (hk p hpl h3).trans h1
  have hs := own_shape h2
  have hs' := own_shape ho
  have hpF : p ∉ F' := fun hm => by have := hnew p hm; omega
  refine ⟨v, v', H', p :: F', h1, hs.1, hap, hs'.1, hs'.2, hp', ⟨v', F', rfl, hget_set_eq (by omega), ?_, hpF⟩, ⟨by simp; omega, fun j hj hn => ?_, fun j hj => ?_⟩⟩
  · rw [iv_append]
    exact ho.low (fun j hj => hget_set_ne (fun e => hpF (e ▸ hj)))
  · rw [hget_set_ne (fun e => hn (by simp [e])), hk j (by omega) (fun hm => hn (by simp [hm]))]
  · rcases List.mem_cons.1 hj with rfl | hj
    · exact .inl (by simp)
    · exact .inr (hnew j hj)
def textB (s : ByteArray) : List Int := numB s.size ++ nums s
def textsB (ps : List ByteArray) : List Int := ps.flatMap textB
theorem textsB_next {ps : List ByteArray} {i : Nat} {s : ByteArray} (h : ps[i]? = some s) : textsB (ps.take (i + 1)) = textsB (ps.take i) ++ textB s := by
  unfold textsB
  rw [List.take_add_one, h, List.flatMap_append]
  simp
theorem textB_len (s : ByteArray) : (textB s).length ≤ 5 + s.size := by
  have := numB_len s.size
  simp only [textB, List.length_append, nums_size]; omega
theorem textsB_len {ps : List ByteArray} (h : ∀ s ∈ ps, s.size ≤ 3000) : (textsB ps).length ≤ 3005 * ps.length := by
  induction ps with
  | nil => simp [textsB]
  | cons s l ih =>
    have := textB_len s
    have := h s (by simp)
    have := ih (fun x hx => h x (by simp [hx]))
    simp only [textsB, List.flatMap_cons, List.length_append, List.length_cons] at this ⊢
    omega
theorem texts_ac {H : AH} {γ : Nat → Option Nat} {nro p : Nat} {F : List Nat} {bs : List Int} {ps : List ByteArray} {v : Value} (h : Wr H p F bs) (hlo : ∀ j ∈ F, nro ≤ j) (hnl : nro ≤ H.length) (hv : SlS H F v (ps.map .string)) (hps : ∀ s ∈ ps, s.size ≤ 3000) (hlen : bs.length + 3005 * ps.length ≤ 90000) :
    AC Try.prog nro γ 22 #[.pointer (some ⟨p, 0, none⟩), v] H (fun v' H' => ∃ F', Wr H' p F' (bs ++ textsB ps) ∧ Fr H H' F F') := by
  have hno : notTuple v = true := by rcases hv.now with ⟨a, rfl, _⟩ | ⟨j, off, k, rfl, _⟩ <;> rfl
  have hxl := hv.now.len (P := Try.prog) (t := 69) (e := 9) (by simp)
  rw [List.length_map] at hxl
  have hnp : nro ≤ p := hlo p (by obtain ⟨v, FU, rfl, _⟩ := h; simp)
  refine ac_of_aw Try.func22 rfl Try.ntmps22 Try.results22 (by simp) ?_
  refine aw_seq ?_
  (refine aw_ops (by kernel_rfl) (fun K hK => ?_); simp (disch := first | omega | (simp only [List.length_set, List.length_append, List.length_cons, List.length_nil, iv_length, zl_length]; try omega; done)) [-getElem?_pos, -getElem?_neg, -xlen, hxl]; refine hK _ _ ?_; clear hK K)
  refine aw_block ?_
  refine aw_loop (fun c α G => ∃ i : Nat, i + c = ps.length ∧ α 8 = .int .i64 (i : Nat) ∧ α 7 = .int .i64 (ps.length : Nat) ∧ α 6 = v ∧ α 0 = .pointer (some ⟨p, 0, none⟩) ∧ ∃ F', Wr G p F' (bs ++ textsB (ps.take i)) ∧ Fr H G F F') ps.length ?_ ?_
  · exact ⟨0, by omega, by (first | (simp [put_at, put_none, fr0_at]; done) | rfl), by (first | (simp [put_at, put_none, fr0_at]; done) | rfl), by (first | (simp [put_at, put_none, fr0_at]; done) | rfl), by (first | (simp [put_at, put_none, fr0_at]; done) | rfl), F, by simpa [textsB] using h, .refl _ _⟩
  rintro c α G ⟨i, hic, h8, h7, h6, h0, F1, hw, hf⟩
  refine aw_seq ?_
  (refine aw_ops (by kernel_rfl) (fun K hK => ?_); simp (disch := first | omega | (simp only [List.length_set, List.length_append, List.length_cons, List.length_nil, iv_length, zl_length]; try omega; done)) [-getElem?_pos, -getElem?_neg, h8, h7]; refine hK _ _ ?_; clear hK K)
  refine aw_seq ?_
  by_cases hi : i < ps.length
  case neg =>
    refine aw_f (by (first | (simp [eval_tmp, put_at, hi]; done) | (simp [eval_tmp, put_at, hi]; omega))) (by kernel_rfl) ?_
    refine aw_exit ?_
    refine ⟨_, _, rfl, rfl, F1, ?_, hf⟩
    obtain rfl : i = ps.length := by omega
    rwa [List.take_length] at hw
  refine aw_t (by (first | (simp [eval_tmp, put_at, hi]; done) | (simp [eval_tmp, put_at, hi]; omega))) (by kernel_rfl) ?_
  refine aw_skip ?_
  refine aw_seq ?_
  refine aw_block ?_
  obtain ⟨s, hx⟩ : ∃ s, ps[i]? = some s := ⟨_, List.getElem?_eq_getElem hi⟩
  have hs1 := hps s (List.mem_of_getElem? hx)
  have hvG := hv.fr hf
  have hcx : (ps.map Value.string)[i]? = some (.string s) := by simp [hx]
  obtain ⟨px, hpx, hlx⟩ := hvG.now.cell (P := Try.prog) (t := 69) (e := 9) (by simp) (by simp) (by simp) (by simp) hcx
  have hxa : xindexAddr Try.prog 69 v (.int .i64 (i : Nat)) = some px := hpx
  have hnpx : notTuple px = true := by
    unfold xload at hlx
    cases px <;> first | rfl | (simp at hlx)
  refine aw_seq ?_
  (refine aw_ops (by kernel_rfl) (fun K hK => ?_); simp (disch := first | omega | (simp only [List.length_set, List.length_append, List.length_cons, List.length_nil, iv_length, zl_length]; try omega; done)) [-getElem?_pos, -getElem?_neg, h6, h8, -xindexAddr, hxa, -xload, hlx, hnpx]; refine hK _ _ ?_; clear hK K)
  have lt2 : ∀ {G : AH} {F' : List Nat}, Fr H G F F' → ∀ j ∈ F', nro ≤ j := fun hf j hj => by
    rcases hf.new j hj with h1 | h1
    · exact hlo j h1
    · omega
  have hft : (textsB (ps.take i)).length ≤ 3005 * i := by
    have := textsB_len (ps := ps.take i) (fun s hs => hps s (List.mem_of_mem_take hs))
    rw [List.length_take] at this; omega
  have hwl : IntKind.u32.wrap (s.size : Nat) = (s.size : Nat) := by simp only [IntKind.wrap_u32']; omega
  have hwlt := hw.lt
  have hs1' := one_sls (x := (s.size : Nat)) hwlt _ rfl
  have hf0 : Fr G (G ++ [some ⟨[.int .u32 (s.size : Nat)], 37, some 1⟩]) F1 F1 := Fr.mk (by simp) (fun j hj _ => hget_left hj) (fun j hj => .inl hj)
  have hw1 := hw.low (H' := G ++ [some ⟨[.int .u32 (s.size : Nat)], 37, some 1⟩]) (fun j hj => hget_left (hwlt j hj))
  have hn5 := numB_len s.size
  have hbl : (bs ++ textsB (ps.take i)).length = bs.length + (textsB (ps.take i)).length := List.length_append ..
  refine aw_seq ?_
  refine aw_ops (by kernel_rfl) (fun K hK => ?_)
  simp (disch := first | omega | (simp only [List.length_set, List.length_append, List.length_cons, List.length_nil, iv_length, zl_length]; try omega; done)) [-getElem?_pos, -getElem?_neg, h0, hwl]
  have hfl := hf.len
  refine ⟨by kernel_rfl, (numbers_ac hw1 (lt2 (hf.trans hf0)) (by rw [List.length_append]; omega) hs1' (by simp; omega) (by simp; omega)).mono ?_⟩
  rintro v1 H1 ⟨F2, hw2, hf2⟩
  try simp (disch := first | omega | (simp only [List.length_set, List.length_append, List.length_cons, List.length_nil, iv_length, zl_length]; try omega; done)) [-getElem?_pos, -getElem?_neg]
  refine hK _ _ ?_; clear hK K
  have e1 : numsB [((s.size : Nat) : Int)] = numB s.size := by simp [numsB]
  rw [e1] at hw2
  have hf3 := hf.trans (hf0.trans hf2)
  obtain ⟨w, w', H', F3, hgw, hnw, hap, hnw', hcw', hgw', hwr, hfr⟩ := wr_appstr (nro := nro) (s := s) hw2 (lt2 hf3) (by rw [List.length_append]; omega)
  (refine aw_ops (by kernel_rfl) (fun K hK => ?_); simp (disch := first | omega | (simp only [List.length_set, List.length_append, List.length_cons, List.length_nil, iv_length, zl_length]; try omega; done)) [-getElem?_pos, -getElem?_neg, h0, hgw, hgw', hnw, hnw', hcw', -notTuple, nt_sl, -xappstr, hap, hnp]; refine hK _ _ ?_; clear hK K)
  (refine aw_ops (by kernel_rfl) (fun K hK => ?_); simp (disch := first | omega | (simp only [List.length_set, List.length_append, List.length_cons, List.length_nil, iv_length, zl_length]; try omega; done)) [-getElem?_pos, -getElem?_neg, h8]; refine hK _ _ ?_; clear hK K)
  refine ⟨c - 1, by omega, i + 1, by omega, by (first | (simp [put_at, put_none, fr0_at]; done) | rfl), by (first | (simp [put_at, put_none, fr0_at, h7]; done) | rfl), by (first | (simp [put_at, put_none, fr0_at, h6]; done) | rfl), by (first | (simp [put_at, put_none, fr0_at, h0]; done) | rfl), _, ?_, hf3.trans hfr⟩
  rw [textsB_next hx, textB]
  simp only [← List.append_assoc] at hwr ⊢
  exact hwr
end
end Go.Proofs.Ytpdijcaikjobiaa
