/-
  A new disk; the bytes that a law writes.
-/
import Derived.Test.YtadbgdhbamdiaaaDw
import Derived.Test.YtadbgdhbamdiaaaXb
namespace Go.Proofs.Ytadbgdhbamdiaaa
open Go Go.RowKit
set_option linter.unusedVariables false
set_option linter.unusedSimpArgs false
set_option maxRecDepth 100000
set_option maxHeartbeats 4000000

def dat (b : Int) (n : Nat) : List Int := (List.range n).map fun i : Nat => IntKind.u8.wrap (b + ((i / 64 : Nat) : Int))
theorem dat_len (b : Int) (n : Nat) : (dat b n).length = n := by simp [dat]
theorem dat_get (b : Int) (n : Nat) {i : Nat} (h : i < n) : (dat b n).getD i 0 = IntKind.u8.wrap (b + ((i / 64 : Nat) : Int)) := by simp [dat, h]
theorem dat_by (b : Int) (n : Nat) : By (dat b n) := by
  intro x hx
  unfold dat at hx
  obtain ⟨i, _, rfl⟩ := List.mem_map.1 hx
  exact by_u8 _
def datS (b long : Int) : ByteArray := strOfNums (dat b (256 + long).toNat)
theorem datS_size (b long : Int) (h : -128 ≤ long) : ((datS b long).size : Int) = 256 + long := by
  unfold datS
  rw [← nums_len, nums_of _ (dat_by _ _), dat_len]
  omega
/-- A new disk's blocks, of noughts. -/
def newN (b : Int) : Nat := (if (if b < 1 then 1 else b) > 1024 then 1024 else (if b < 1 then 1 else b)).toNat
theorem newN_bd (b : Int) : 1 ≤ newN b ∧ newN b ≤ 1024 := by unfold newN; split <;> split <;> omega
def newD (b : Int) : DM := ⟨List.replicate (newN b) (zs 256), [], -1, false⟩
theorem newD_ok (b : Int) : (newD b).Ok := by
  have := newN_bd b
  refine ⟨?_, ?_, fun r hr => ?_, fun w hw => (by cases hw), by simp [newD], by simp [newD]⟩
  · simp [newD]; omega
  · simp [newD]; omega
  · simp only [newD] at hr; rw [List.eq_of_mem_replicate hr]; simp
theorem all_zl (n : Nat) : (∀ (i : Nat) (x : i < n), plain1 ((iv IntKind.u8 (zl n))[i]'(by simpa using x)) = true) = True := by
  refine eq_true fun i x => ?_
  have := List.all_eq_true.1 (iv_all .u8 (zl n)) _ (List.getElem_mem (by simpa using x : i < (iv IntKind.u8 (zl n)).length))
  exact this
theorem fc_plain (l : List ByteArray) : ∀ x ∈ fc l, plain1 x = true := by
  intro x hx
  obtain ⟨r, hr, hx⟩ := List.mem_flatten.1 hx
  obtain ⟨s, _, rfl⟩ := List.mem_map.1 hr
  exact List.all_eq_true.1 (sv_plain s) x hx
theorem plain_nil : plain1 (.slice none 0 0) = true := rfl
theorem rep_fc (n : Nat) : ((List.range (n * 256)).map fun j => ((iv .u8 (zl 256))[j % 256]?).getD undef) = fc (List.replicate n (zs 256)) := by
  simp only [← List.getD_eq_getElem?_getD]
  rw [zero_rows 256 n undef (iv .u8 (zl 256)) (by simp), fc, List.map_replicate, sv_zs]
attribute [local simp] wb_bool wb_undef XL_nil XL_cons XLc_val XLc_call step1_eq stepW_t stepW_f stepC_n stepC_s stepX_s xop_eq xopR_s xopR_n wantedA_eq wantedG_n wantedG_s plain1_int plain1_bool plain1_string bits_i64 bits_u64 bits_u32 bits_u16 bits_u8 xeqA xarr allK_iv num_iv calleeOf xread xeff xbin xint xnil xun xstr xload xconv xpart xfield xfieldAddr xindexAddr xindex bnd asInt? xslice xlen xmin xmax xbuild xfill xappend xcopy xcells eval_tmp eval_const put_at put_none fr0_at cells_agg cells_int cells_bool cells_string cells_ptr cells_slice notTuple tab iv_all hget_app hget_app0 hget_cons0 hget_cons set_app set_app0 setR setR_one QL_nil QL_cons QLc_val stepQ_t stepQ_f stepQC_n stepQC_s stepQX_s SL_nil SL_cons SLc_val stepS_t stepS_f ltT ltF leT leF eqT eqF ltTn ltFn leTn leFn eqTn eqFn beqT beqF bneT bneF wi64 wu64 wu32 wu16 wu8 tmodP tdivP hgetL hgetNe hgetEq setL nums_def nums_len Nat.succ_le_of_lt List.getElem?_cons_zero List.getElem?_cons_succ Option.getD_some Int.toNat_add Int.toNat_mul agB agI agS agP agL agA okB okI okS okP okSl okA

section
variable {H : AH} {γ : Nat → Option Nat} {nro : Nat}
theorem data_ac {b long : Int} (hb : 0 ≤ b ∧ b ≤ 255) (hl : -128 ≤ long ∧ long ≤ 127) (hnro : nro ≤ H.length) : AC Try.prog nro γ 11 #[.int .u8 b, .int .i8 long] H (fun v' H' => v' = .string (datS b long) ∧ ∃ L, H' = H ++ L) := by
  obtain ⟨n, hn⟩ : ∃ n : Nat, (n : Int) = 256 + long := ⟨(256 + long).toNat, by omega⟩
  have hds : datS b long = strOfNums (dat b n) := by unfold datS; rw [← hn]; rfl
  rw [hds]
  have hll := dat_len b n
  have hgt := fun i hi => dat_get b n (i := i) hi
  have hzz : ((List.range n).map fun j => ([Value.int .u8 0][j % 1]?).getD undef) = iv .u8 (zl n) := by
    have := zero_rows 1 n undef [Value.int .u8 0] rfl
    simp only [Nat.mul_one, List.getD_eq_getElem?_getD] at this
    rw [this]
    clear this hgt hll hds hn
    induction n with
    | zero => rfl
    | succ n ih => rw [List.replicate_succ, List.flatten_cons, ih]; rfl
  generalize dat b n = B at *
  refine ac_of_aw Try.func11 rfl Try.ntmps11 Try.results11 (by simp) ?_
  refine aw_seq ?_
  (refine aw_ops (by kernel_rfl) (fun K hK => ?_); simp (disch := first | omega | (simp only [List.length_set, List.length_append, List.length_cons, List.length_nil, iv_length, zl_length]; try omega; done)) [-getElem?_pos, -getElem?_neg]; refine hK _ _ ?_; clear hK K)
  refine aw_seq ?_
  (refine aw_ops (by kernel_rfl) (fun K hK => ?_); simp (disch := first | omega | (simp only [List.length_set, List.length_append, List.length_cons, List.length_nil, iv_length, zl_length]; try omega; done)) [-getElem?_pos, -getElem?_neg]; refine hK _ _ ?_; clear hK K)
  refine aw_seq ?_
  have hmx : n ≤ maxLen := by simp only [maxLen]; omega
  (refine aw_ops (by kernel_rfl) (fun K hK => ?_); simp (disch := first | omega | (simp only [List.length_set, List.length_append, List.length_cons, List.length_nil, iv_length, zl_length]; try omega; done)) [-getElem?_pos, -getElem?_neg, hn.symm, hzz]; refine hK _ _ ?_; clear hK K)
  refine aw_seq ?_
  refine aw_seq ?_
  (refine aw_ops (by kernel_rfl) (fun K hK => ?_); simp (disch := first | omega | (simp only [List.length_set, List.length_append, List.length_cons, List.length_nil, iv_length, zl_length]; try omega; done)) [-getElem?_pos, -getElem?_neg]; refine hK _ _ ?_; clear hK K)
  refine aw_block ?_
  refine aw_loop (fun q α H' => ∃ i : Nat, i + q = n ∧ α 7 = .int .i64 (i : Nat) ∧ α 0 = .int .u8 b ∧ α 5 = .int .i64 n ∧ α 6 = .slice (some ⟨H.length, 0, none⟩) n n ∧ H' = H ++ [some ⟨iv .u8 (B.take i ++ zl (n - i)), 5, some 1⟩]) n ?_ ?_
  · exact ⟨0, by omega, by (first | (simp [put_at, put_none, fr0_at]; done) | rfl), by (first | (simp [put_at, put_none, fr0_at]; done) | rfl), by (first | (simp [put_at, put_none, fr0_at, hn.symm]; done) | rfl), by (first | (simp [put_at, put_none, fr0_at]; done) | rfl), by simp⟩
  rintro q α H' ⟨i, hiq, h7, h0, h5, h6, rfl⟩
  have hfl := fill_len B n i hll (by omega)
  refine aw_seq ?_
  refine aw_seq ?_
  (refine aw_ops (by kernel_rfl) (fun K hK => ?_); simp (disch := first | omega | (simp only [List.length_set, List.length_append, List.length_cons, List.length_nil, iv_length, zl_length]; try omega; done)) [-getElem?_pos, -getElem?_neg, h7, h5]; refine hK _ _ ?_; clear hK K)
  by_cases hi : i < n
  · have hnx := set_next B n i hll hi
    rw [hgt i hi] at hnx
    generalize B.take i ++ zl (n - i) = C at *
    have hq : ((i : Int) / 64) = ((i / 64 : Nat) : Int) := by omega
    have hqb : i / 64 ≤ 5 := by omega
    generalize i / 64 = q64 at *
    refine aw_t (by (first | (simp [eval_tmp, put_at, hi]; done) | (simp [eval_tmp, put_at, hi]; omega))) (by kernel_rfl) ?_
    refine aw_skip ?_
    refine aw_seq ?_
    refine aw_block ?_
    (refine aw_ops (by kernel_rfl) (fun K hK => ?_); simp (disch := first | omega | (simp only [List.length_set, List.length_append, List.length_cons, List.length_nil, iv_length, zl_length]; try omega; done)) [-getElem?_pos, -getElem?_neg, h6, h7, h0, hq, iv_set, hfl, hnx]; refine hK _ _ ?_; clear hK K)
    (refine aw_ops (by kernel_rfl) (fun K hK => ?_); simp (disch := first | omega | (simp only [List.length_set, List.length_append, List.length_cons, List.length_nil, iv_length, zl_length]; try omega; done)) [-getElem?_pos, -getElem?_neg, h7]; refine hK _ _ ?_; clear hK K)
    exact ⟨q - 1, by omega, i + 1, by omega, by (first | (simp [put_at, put_none, fr0_at]; done) | rfl), by (first | (simp [put_at, put_none, fr0_at, h0]; done) | rfl), by (first | (simp [put_at, put_none, fr0_at, h5]; done) | rfl), by (first | (simp [put_at, put_none, fr0_at, h6]; done) | rfl), by simp [hnx]⟩
  · obtain rfl : i = n := by omega
    refine aw_f (by (first | (simp [eval_tmp, put_at]; done) | (simp [eval_tmp, put_at]; omega))) (by kernel_rfl) ?_
    refine aw_exit ?_
    have hB : B.take i ++ zl (i - i) = B := by rw [List.take_of_length_le (by omega)]; simp [zl]
    have hT : (iv .u8 B).take i = iv .u8 B := List.take_of_length_le (by simp [hll])
    rw [hB]
    refine aw_seq ?_
    (refine aw_ops (by kernel_rfl) (fun K hK => ?_); simp (disch := first | omega | (simp only [List.length_set, List.length_append, List.length_cons, List.length_nil, iv_length, zl_length]; try omega; done)) [-getElem?_pos, -getElem?_neg, h6, hll, hT, byteList_iv]; refine hK _ _ ?_; clear hK K)
    (refine aw_ret ?_; simp (disch := first | omega | (simp only [List.length_set, List.length_append, List.length_cons, List.length_nil, iv_length, zl_length]; try omega; done)) [-getElem?_pos, -getElem?_neg, thenQ_ret, inBlockQ_ret, RQ, resL, resV])
theorem new_ac (b : Int) (hnro : nro ≤ H.length) : AC Try.prog nro γ 8 #[.int .i64 b] H (fun v' H' => v' = .pointer (some ⟨H.length + 2, 0, none⟩) ∧ Dk H' (H.length + 2) [H.length + 2, H.length, H.length + 1] (newD b) ∧ ∃ L, H' = H ++ L) := by
  have hbd := newN_bd b
  have hrep := rep_fc (newN b)
  have hmm : (if (if b < 1 then 1 else b) > 1024 then 1024 else (if b < 1 then 1 else b)) = (newN b : Int) := by unfold newN; split <;> split <;> omega
  refine ac_of_aw Try.func8 rfl Try.ntmps8 Try.results8 (by simp) ?_
  have hmx : newN b ≤ maxLen := by simp only [maxLen]; omega
  have hpl : ∀ n, (iv .u8 (zl n)).all plain1 = true := fun n => iv_all _ _
  refine aw_seq ?_
  (refine aw_ops (by kernel_rfl) (fun K hK => ?_); simp (disch := first | omega | (simp only [List.length_set, List.length_append, List.length_cons, List.length_nil, iv_length, zl_length]; try omega; done)) [-getElem?_pos, -getElem?_neg]; refine hK _ _ ?_; clear hK K)
  refine aw_seq ?_
  (refine aw_ops (by kernel_rfl) (fun K hK => ?_); simp (disch := first | omega | (simp only [List.length_set, List.length_append, List.length_cons, List.length_nil, iv_length, zl_length]; try omega; done)) [-getElem?_pos, -getElem?_neg, hmm]; refine hK _ _ ?_; clear hK K)
  refine aw_seq ?_
  (refine aw_plan [] [] [0, 1, 2, 3] 4 3 (by kernel_rfl) (by kernel_rfl) (by kernel_rfl) (fun K hK => ?_)); simp only [sel, List.getElem?_cons_succ, List.getElem?_cons_zero, List.drop_succ_cons, List.drop_zero]; simp (disch := first | omega | (simp only [List.length_set, List.length_append, List.length_cons, List.length_nil, iv_length, zl_length]; try omega; done)) [-getElem?_pos, -getElem?_neg, hmm, hrep, all_zl, plain_nil, PL_nil, PL_cons, PLc_val, PLc_new, stepP_t, stepP_f, stepPC_n, stepPC_s, stepPX_s, stepPX_n, stepPA_t, stepPA_c, stepPA_l, stepPN_s, allocOp, reloc_sl, reloc_ptr, List.map_cons, List.map_nil, List.nil_append, List.append_assoc, List.cons_append, Nat.add_assoc]
  refine ⟨fc_plain _, ?_⟩
  refine hK _ _ ?_; clear hK K
  (refine aw_ret ?_; simp (disch := first | omega | (simp only [List.length_set, List.length_append, List.length_cons, List.length_nil, iv_length, zl_length]; try omega; done)) [-getElem?_pos, -getElem?_neg, thenQ_ret, inBlockQ_ret, RQ, resL, resV])
  have hl0 : (newD b).firm.length = newN b := by simp [newD]
  have hla : (newD b).late = (newD b).firm := rfl
  refine ⟨newD_ok b, H.length, H.length + 1, .slice none 0 0, [], rfl, ⟨?_, ?_, ?_, .inl ⟨rfl, rfl, rfl⟩, by omega, by omega, by omega, by simp⟩⟩
  · rw [hget_app, hl0]; rfl
  · rw [hget_app0]; rfl
  · rw [hget_app, hla]; rfl
end
end Go.Proofs.Ytadbgdhbamdiaaa
