/-
  The program is awake; TokenBack, walked.
-/
import Derived.Test.YtcdkpeepboofhaaTi
namespace Go.Proofs.Ytcdkpeepboofhaa
open Go Go.RowKit
set_option linter.unusedVariables false
set_option linter.unusedSimpArgs false
set_option maxRecDepth 100000
set_option maxHeartbeats 4000000
def liveS : List Int := [100, 111, 32, 48, 32, 115, 97, 121, 32, 34, 104, 105, 34, 59, 32, 35, 32, 115, 111]
def liveT : List (Tk × Nat) := [(⟨1, 0, [100, 111]⟩, 0), (⟨2, 0, []⟩, 3), (⟨1, 0, [115, 97, 121]⟩, 5), (⟨3, 0, [104, 105]⟩, 9), (⟨4, 0, [59]⟩, 13)]
theorem live1 : cutR liveS = (liveT, 0, 0) := by kernel_rfl
theorem live2 : cutR [100, 111, 32, 48, 49] = ([], 3, 25) := by kernel_rfl
theorem live_by : By liveS := by unfold liveS By; decide
theorem live_by2 : By [100, 111, 32, 48, 49] := by unfold By; decide
theorem sn_hi : strOfNums [104, 105] = { data := #[104, 105] } := rfl
theorem nt_bool (b : Bool) : notTuple (.bool b) = true := rfl
theorem nt_str (b : ByteArray) : notTuple (.string b) = true := rfl
theorem nt_ptr (a : Option Addr) : notTuple (.pointer a) = true := rfl
theorem pcs_len {a : Nat} {l : List Int} {us : List (Tk × Nat)} (h : Pcs a l us) : us.length ≤ l.length := by
  induction h with
  | nil => simp
  | @cons a w b r t us hw _ _ _ ih =>
    obtain ⟨⟨c, w', rfl, _⟩, _⟩ := hw
    simp only [List.length_cons, List.length_append]
    omega
/-- What it means that a text was cut. -/
theorem cut_told {l : List Int} (hb : By l) (hl : l.length ≤ 4000) (h : (cutR l).2.2 = 0) : ∃ us b r, cutR l = (us, 0, 0) ∧ l = b ++ r ∧ Skp b ∧ Pcs b.length r us ∧ (∀ p ∈ us, ValidT p.1) ∧ us.length ≤ l.length := by
  unfold cutR at h ⊢
  rw [if_neg (by omega)] at h ⊢
  obtain ⟨e1, e2⟩ := cutL_acc _ _ _ _ h
  rw [List.nil_append] at e1
  obtain ⟨b, r, g1, g2, g3, g4⟩ := pcs_of (l.length + 1) 0 l _ hb (by omega) e1
  rw [Nat.zero_add] at g3
  have := pcs_len g3
  refine ⟨_, b, r, e1, g1, g2, g3, g4, ?_⟩
  have := congrArg List.length g1
  rw [List.length_append] at this
  omega
theorem cut_back {l : List Int} {ts : List Tk} (h : Adds l ts) (hl : l.length ≤ 4000) : ∃ us, cutR l = (us, 0, 0) ∧ us.map (·.1) = ts := by
  unfold cutR
  rw [if_neg (by omega)]
  exact cutL_of h.cuts _ _ (by omega)
attribute [local simp] wb_bool wb_undef XL_nil XL_cons XLc_val XLc_call step1_eq stepW_t stepW_f stepC_n stepC_s stepX_s stepX_n stepN_s calleeX oneV xop_eq xopR_s xopR_n wantedA_eq wantedG_n wantedG_s plain1_int plain1_bool plain1_string bits_i64 bits_u64 bits_u32 bits_u16 bits_u8 xeqA xagg xcmp xarr allK_iv num_iv calleeOf xread xeff xbin xint xnil xun xstr xload xconv xpart xfield xfieldAddr xindexAddr xindex bnd asInt? xslice xlen xmin xmax xbuild xfill xappend xapp2 xappstr xappmk xcap xcopy xcells eval_tmp eval_const put_at put_none fr0_at cells_agg cells_int cells_bool cells_string cells_ptr cells_slice notTuple tab iv_all hget_app hget_app0 hget_cons0 hget_cons set_app set_app0 setR setR_one QL_nil QL_cons QLc_val stepQ_t stepQ_f stepQC_n stepQC_s stepQX_s SL_nil SL_cons SLc_val stepS_t stepS_f ltT ltF leT leF eqT eqF ltTn ltFn leTn leFn eqTn eqFn beqT beqF bneT bneF wi64 wu64 wu32 wu16 wu8 tmodP tdivP hgetL hgetNe hgetEq setL nums_def nums_len Nat.succ_le_of_lt List.getElem?_cons_zero List.getElem?_cons_succ Option.getD_some Int.toNat_add Int.toNat_mul agB agI agS agP agL agA okB okI okS okP okSl okA
theorem alive_ac {H : AH} {γ : Nat → Option Nat} {nro : Nat} (hnl : nro ≤ H.length) :
    AC Try.prog nro γ 5 #[] H (fun v' H' => v' = .bool true ∧ Same0 H H') := by
  refine ac_of_aw Try.func5 rfl Try.ntmps5 Try.results5 (by simp) ?_
  refine aw_seq ?_
  (refine aw_ops (by kernel_rfl) (fun K hK => ?_); simp (disch := first | omega | (simp only [List.length_set, List.length_append, List.length_cons, List.length_nil, iv_length, zl_length]; try omega; done)) [-getElem?_pos, -getElem?_neg]; refine hK _ _ ?_; clear hK K)
  refine aw_seq ?_
  refine aw_ops (by kernel_rfl) (fun K hK => ?_)
  simp (disch := first | omega | (simp only [List.length_set, List.length_append, List.length_cons, List.length_nil, iv_length, zl_length]; try omega; done)) [-getElem?_pos, -getElem?_neg]
  have hc1 := cut_ac (γ := γ) hnl live_by (by decide)
  rw [live1] at hc1
  refine ⟨by kernel_rfl, hc1.mono ?_⟩
  rintro v1 G1 ⟨w1, F1, rfl, ho1, hF1, s1⟩
  have hn1 := (own_shape ho1).1
  simp only at ho1 ⊢
  try simp (disch := first | omega | (simp only [List.length_set, List.length_append, List.length_cons, List.length_nil, iv_length, zl_length]; try omega; done)) [-getElem?_pos, -getElem?_neg, -notTuple, hn1, nt_int, nt_sl]
  refine hK _ _ ?_; clear hK K
  refine aw_seq ?_
  refine aw_ops (by kernel_rfl) (fun K hK => ?_)
  simp (disch := first | omega | (simp only [List.length_set, List.length_append, List.length_cons, List.length_nil, iv_length, zl_length]; try omega; done)) [-getElem?_pos, -getElem?_neg]
  have hc2 := cut_ac (γ := γ) (Nat.le_trans hnl s1.1) live_by2 (by decide)
  rw [live2] at hc2
  refine ⟨by kernel_rfl, hc2.mono ?_⟩
  rintro v2 G2 ⟨w2, F2, rfl, ho2, hF2, s2⟩
  have hn2 := (own_shape ho2).1
  simp only at ho2 ⊢
  try simp (disch := first | omega | (simp only [List.length_set, List.length_append, List.length_cons, List.length_nil, iv_length, zl_length]; try omega; done)) [-getElem?_pos, -getElem?_neg, -notTuple, hn2, nt_int, nt_sl]
  refine hK _ _ ?_; clear hK K
  have ho1 := ho1.low (H' := G2) (fun j hj => s2.2 j (ho1.lt j hj))
  have hlen := ho1.len (P := Try.prog) (t := 24) (by simp) (n := 5) (toksC_len liveT) (by omega)
  obtain ⟨j, o, _, hp3, _, _, _, _, hl3⟩ := own_tok ho1 (i := 3) (t := ⟨3, 0, [104, 105]⟩) (a := 9) rfl
  obtain ⟨k, o2, _, hp1, _, _, _, _, hl1⟩ := own_tok ho1 (i := 1) (t := ⟨2, 0, []⟩) (a := 3) rfl
  simp only [Tk.val, sn_hi] at hl3 hl1
  have hp3 : xindexAddr Try.prog 24 w1 (.int .i64 3) = _ := hp3
  have hp1 : xindexAddr Try.prog 24 w1 (.int .i64 1) = _ := hp1
  have hlen : xlen Try.prog 24 w1 = some (.int .i64 5) := hlen
  have he : strOfNums [] = ByteArray.empty := rfl
  refine aw_seq ?_
  (refine aw_ops (by kernel_rfl) (fun K hK => ?_); simp (disch := first | omega | (simp only [List.length_set, List.length_append, List.length_cons, List.length_nil, iv_length, zl_length]; try omega; done)) [-getElem?_pos, -getElem?_neg, -notTuple, hn1, nt_int, nt_sl, nt_agg, nt_bool, nt_ptr, nt_str, -xlen, hlen, -xindexAddr, hp3, hp1, -xload, hl3, hl1, he, tab]; refine hK _ _ ?_; clear hK K)
  (refine aw_ret ?_; simp (disch := first | omega | (simp only [List.length_set, List.length_append, List.length_cons, List.length_nil, iv_length, zl_length]; try omega; done)) [-getElem?_pos, -getElem?_neg, thenQ_ret, scopeQ_ret, inBlockQ_ret, RQ, resL, resV])
  exact s1.trans s2
theorem back_law {H : AH} {γ : Nat → Option Nat} (s : ByteArray) (hs : s.size ≤ maxLen) :
    AC Try.prog H.length γ 4 #[.string s] H (fun v' H' => v' = .bool true) := by
  obtain ⟨l, hl⟩ : ∃ l, l = nums s := ⟨_, rfl⟩
  have hb : By l := by rw [hl]; exact nums_bd s
  have hsl : s = strOfNums l := by rw [hl, of_nums']
  have hsz := sn_size l
  rw [hsl] at hs ⊢
  clear hl hsl
  rw [hsz] at hs
  simp only [maxLen] at hs
  refine ac_of_aw Try.func4 rfl Try.ntmps4 Try.results4 (by simp) ?_
  refine aw_seq ?_
  (refine aw_ops (by kernel_rfl) (fun K hK => ?_); simp (disch := first | omega | (simp only [List.length_set, List.length_append, List.length_cons, List.length_nil, iv_length, zl_length]; try omega; done)) [-getElem?_pos, -getElem?_neg]; refine hK _ _ ?_; clear hK K)
  refine aw_seq ?_
  refine aw_seq ?_
  refine aw_ops (by kernel_rfl) (fun K hK => ?_)
  simp (disch := first | omega | (simp only [List.length_set, List.length_append, List.length_cons, List.length_nil, iv_length, zl_length]; try omega; done)) [-getElem?_pos, -getElem?_neg]
  refine ⟨by kernel_rfl, (alive_ac (Nat.le_refl _)).mono ?_⟩
  rintro v1 G1 ⟨rfl, s1⟩
  try simp (disch := first | omega | (simp only [List.length_set, List.length_append, List.length_cons, List.length_nil, iv_length, zl_length]; try omega; done)) [-getElem?_pos, -getElem?_neg]
  refine hK _ _ ?_; clear hK K
  refine aw_f (by (first | (simp [eval_tmp, put_at]; done) | (simp [eval_tmp, put_at]; omega))) (by kernel_rfl) ?_
  refine aw_skip ?_
  refine aw_seq ?_
  refine aw_seq ?_
  (refine aw_ops (by kernel_rfl) (fun K hK => ?_); simp (disch := first | omega | (simp only [List.length_set, List.length_append, List.length_cons, List.length_nil, iv_length, zl_length]; try omega; done)) [-getElem?_pos, -getElem?_neg, hsz]; refine hK _ _ ?_; clear hK K)
  by_cases hlong : 900 < l.length
  · refine aw_t (by (first | (simp [eval_tmp, put_at, hlong]; done) | (simp [eval_tmp, put_at, hlong]; omega))) (by kernel_rfl) ?_
    refine aw_seq ?_
    refine aw_ops (by kernel_rfl) (fun K hK => ?_)
    simp (disch := first | omega | (simp only [List.length_set, List.length_append, List.length_cons, List.length_nil, iv_length, zl_length]; try omega; done)) [-getElem?_pos, -getElem?_neg]
    refine ⟨by kernel_rfl, (alive_ac s1.1).mono ?_⟩
    rintro v3 G3 ⟨rfl, s3⟩
    try simp (disch := first | omega | (simp only [List.length_set, List.length_append, List.length_cons, List.length_nil, iv_length, zl_length]; try omega; done)) [-getElem?_pos, -getElem?_neg]
    refine hK _ _ ?_; clear hK K
    (refine aw_ret ?_; simp (disch := first | omega | (simp only [List.length_set, List.length_append, List.length_cons, List.length_nil, iv_length, zl_length]; try omega; done)) [-getElem?_pos, -getElem?_neg, thenQ_ret, scopeQ_ret, inBlockQ_ret, RQ, resL, resV])
  refine aw_f (by (first | (simp [eval_tmp, put_at, hlong]; done) | (simp [eval_tmp, put_at, hlong]; omega))) (by kernel_rfl) ?_
  refine aw_skip ?_
  have htold := cut_told hb (by omega)
  obtain ⟨R, hR⟩ : ∃ R, R = cutR l := ⟨_, rfl⟩
  refine aw_seq ?_
  refine aw_ops (by kernel_rfl) (fun K hK => ?_)
  simp (disch := first | omega | (simp only [List.length_set, List.length_append, List.length_cons, List.length_nil, iv_length, zl_length]; try omega; done)) [-getElem?_pos, -getElem?_neg]
  have hc1 := cut_ac (γ := γ) (nro := H.length) s1.1 hb (by omega)
  rw [← hR] at hc1 htold
  refine ⟨by kernel_rfl, hc1.mono ?_⟩
  rintro v2 G2 ⟨w1, F1, rfl, ho1, hF1, s2⟩
  have hn1 := (own_shape ho1).1
  try simp (disch := first | omega | (simp only [List.length_set, List.length_append, List.length_cons, List.length_nil, iv_length, zl_length]; try omega; done)) [-getElem?_pos, -getElem?_neg, -notTuple, hn1, nt_int, nt_sl]
  refine hK _ _ ?_; clear hK K
  have sG := s1.trans s2
  refine aw_seq ?_
  refine aw_seq ?_
  (refine aw_ops (by kernel_rfl) (fun K hK => ?_); simp (disch := first | omega | (simp only [List.length_set, List.length_append, List.length_cons, List.length_nil, iv_length, zl_length]; try omega; done)) [-getElem?_pos, -getElem?_neg]; refine hK _ _ ?_; clear hK K)
  by_cases he : R.2.2 = 0
  case neg =>
    refine aw_t (by (first | (simp [eval_tmp, put_at, he]; done) | (simp [eval_tmp, put_at, he]; omega))) (by kernel_rfl) ?_
    refine aw_seq ?_
    refine aw_ops (by kernel_rfl) (fun K hK => ?_)
    simp (disch := first | omega | (simp only [List.length_set, List.length_append, List.length_cons, List.length_nil, iv_length, zl_length]; try omega; done)) [-getElem?_pos, -getElem?_neg]
    refine ⟨by kernel_rfl, (alive_ac sG.1).mono ?_⟩
    rintro v3 G3 ⟨rfl, s3⟩
    try simp (disch := first | omega | (simp only [List.length_set, List.length_append, List.length_cons, List.length_nil, iv_length, zl_length]; try omega; done)) [-getElem?_pos, -getElem?_neg]
    refine hK _ _ ?_; clear hK K
    (refine aw_ret ?_; simp (disch := first | omega | (simp only [List.length_set, List.length_append, List.length_cons, List.length_nil, iv_length, zl_length]; try omega; done)) [-getElem?_pos, -getElem?_neg, thenQ_ret, scopeQ_ret, inBlockQ_ret, RQ, resL, resV])
  obtain ⟨us, b, r, hRu, hbr, hsk, hpc, hV, hul⟩ := htold he
  rw [hRu] at ho1
  simp only at ho1
  refine aw_f (by (first | (simp [eval_tmp, put_at, he]; done) | (simp [eval_tmp, put_at, he]; omega))) (by kernel_rfl) ?_
  refine aw_skip ?_
  refine aw_seq ?_
  (refine aw_ops (by kernel_rfl) (fun K hK => ?_); simp (disch := first | omega | (simp only [List.length_set, List.length_append, List.length_cons, List.length_nil, iv_length, zl_length]; try omega; done)) [-getElem?_pos, -getElem?_neg]; refine hK _ _ ?_; clear hK K)
  refine aw_seq ?_
  refine aw_seq ?_
  (refine aw_ops (by kernel_rfl) (fun K hK => ?_); simp (disch := first | omega | (simp only [List.length_set, List.length_append, List.length_cons, List.length_nil, iv_length, zl_length]; try omega; done)) [-getElem?_pos, -getElem?_neg]; refine hK _ _ ?_; clear hK K)
  have hlen := ho1.len (P := Try.prog) (t := 24) (by simp) (n := us.length) (toksC_len us) (by omega)
  refine aw_block ?_
  refine aw_loop (fun c α G => G = G2 ∧ ∃ (i : Nat) (q : List Int), i + c = us.length ∧ α 7 = .int .i64 (i : Nat) ∧ α 3 = w1 ∧ α 6 = .string (strOfNums q) ∧ By q ∧ q.length ≤ 261 * i ∧ Adds q ((us.take i).map (·.1))) us.length ?_ ?_
  · exact ⟨rfl, 0, [], by omega, by (first | (simp [put_at, put_none, fr0_at]; done) | rfl), by (first | (simp [put_at, put_none, fr0_at]; done) | rfl), by (first | (simp [put_at, put_none, fr0_at]; done) | rfl), .nil, by simp, .nil⟩
  rintro c α G ⟨rfl, i, q, hic, h7, h3, h6, hqb, hql, hadd⟩
  refine aw_seq ?_
  refine aw_seq ?_
  (refine aw_ops (by kernel_rfl) (fun K hK => ?_); simp (disch := first | omega | (simp only [List.length_set, List.length_append, List.length_cons, List.length_nil, iv_length, zl_length]; try omega; done)) [-getElem?_pos, -getElem?_neg, h7, h3, -notTuple, hn1, nt_int, nt_sl, -xlen, hlen]; refine hK _ _ ?_; clear hK K)
  by_cases hi : i < us.length
  case neg =>
    refine aw_f (by (first | (simp [eval_tmp, put_at, hi]; done) | (simp [eval_tmp, put_at, hi]; omega))) (by kernel_rfl) ?_
    refine aw_exit ?_
    obtain rfl : i = us.length := by omega
    rw [List.take_length] at hadd
    have hc2 := cut_ac (γ := γ) (nro := H.length) (H := G) sG.1 hqb (by omega)
    have hsq := sn_size q
    refine aw_seq ?_
    refine aw_ops (by kernel_rfl) (fun K hK => ?_)
    simp (disch := first | omega | (simp only [List.length_set, List.length_append, List.length_cons, List.length_nil, iv_length, zl_length]; try omega; done)) [-getElem?_pos, -getElem?_neg, h6]
    by_cases hq4 : 4000 < q.length
    · have hR2 : cutR q = ([], 0, 24) := by unfold cutR; rw [if_pos hq4]
      rw [hR2] at hc2
      refine ⟨by kernel_rfl, hc2.mono ?_⟩
      rintro v3 G3 ⟨w2, F2, rfl, ho2, hF2, s3⟩
      have hn2 := (own_shape ho2).1
      simp only
      try simp (disch := first | omega | (simp only [List.length_set, List.length_append, List.length_cons, List.length_nil, iv_length, zl_length]; try omega; done)) [-getElem?_pos, -getElem?_neg, -notTuple, hn2, nt_int, nt_sl]
      refine hK _ _ ?_; clear hK K
      have sG3 := sG.trans s3
      refine aw_seq ?_
      refine aw_ops (by kernel_rfl) (fun K hK => ?_)
      simp (disch := first | omega | (simp only [List.length_set, List.length_append, List.length_cons, List.length_nil, iv_length, zl_length]; try omega; done)) [-getElem?_pos, -getElem?_neg, h6]
      refine ⟨by kernel_rfl, (alive_ac sG3.1).mono ?_⟩
      rintro v4 G4 ⟨rfl, s4⟩
      try simp (disch := first | omega | (simp only [List.length_set, List.length_append, List.length_cons, List.length_nil, iv_length, zl_length]; try omega; done)) [-getElem?_pos, -getElem?_neg, h6, hsq, hq4]
      refine hK _ _ ?_; clear hK K
      (refine aw_ret ?_; simp (disch := first | omega | (simp only [List.length_set, List.length_append, List.length_cons, List.length_nil, iv_length, zl_length]; try omega; done)) [-getElem?_pos, -getElem?_neg, thenQ_ret, scopeQ_ret, inBlockQ_ret, RQ, resL, resV])
    · obtain ⟨vs, hR2, hvs⟩ := cut_back hadd (by omega)
      rw [hR2] at hc2
      refine ⟨by kernel_rfl, hc2.mono ?_⟩
      rintro v3 G3 ⟨w2, F2, rfl, ho2, hF2, s3⟩
      have hn2 := (own_shape ho2).1
      simp only at ho2 ⊢
      try simp (disch := first | omega | (simp only [List.length_set, List.length_append, List.length_cons, List.length_nil, iv_length, zl_length]; try omega; done)) [-getElem?_pos, -getElem?_neg, -notTuple, hn2, nt_int, nt_sl]
      refine hK _ _ ?_; clear hK K
      have sG3 := sG.trans s3
      have ho1 := ho1.low (H' := G3) (fun j hj => s3.2 j (ho1.lt j hj))
      refine aw_seq ?_
      refine aw_ops (by kernel_rfl) (fun K hK => ?_)
      simp (disch := first | omega | (simp only [List.length_set, List.length_append, List.length_cons, List.length_nil, iv_length, zl_length]; try omega; done)) [-getElem?_pos, -getElem?_neg, h6]
      refine ⟨by kernel_rfl, (alive_ac sG3.1).mono ?_⟩
      rintro v4 G4 ⟨rfl, s4⟩
      have ho1 := ho1.low (H' := G4) (fun j hj => s4.2 j (ho1.lt j hj))
      have ho2 := ho2.low (H' := G4) (fun j hj => s4.2 j (ho2.lt j hj))
      try simp (disch := first | omega | (simp only [List.length_set, List.length_append, List.length_cons, List.length_nil, iv_length, zl_length]; try omega; done)) [-getElem?_pos, -getElem?_neg, h6, h3, -notTuple, hn1, hn2, nt_int, nt_sl, nt_bool]
      refine ⟨by kernel_rfl, (same_ac ho1 ho2 hvs.symm (by omega)).mono ?_⟩
      rintro v5 G5 ⟨rfl, rfl⟩
      try simp (disch := first | omega | (simp only [List.length_set, List.length_append, List.length_cons, List.length_nil, iv_length, zl_length]; try omega; done)) [-getElem?_pos, -getElem?_neg]
      refine hK _ _ ?_; clear hK K
      (refine aw_ret ?_; simp (disch := first | omega | (simp only [List.length_set, List.length_append, List.length_cons, List.length_nil, iv_length, zl_length]; try omega; done)) [-getElem?_pos, -getElem?_neg, thenQ_ret, scopeQ_ret, inBlockQ_ret, RQ, resL, resV])
  refine aw_t (by (first | (simp [eval_tmp, put_at, hi]; done) | (simp [eval_tmp, put_at, hi]; omega))) (by kernel_rfl) ?_
  refine aw_skip ?_
  refine aw_seq ?_
  refine aw_block ?_
  obtain ⟨t, p, hti⟩ : ∃ t p, us[i]? = some (t, p) := ⟨us[i].1, us[i].2, by rw [List.getElem?_eq_getElem hi]⟩
  have hVt : ValidT t := hV _ (List.mem_of_getElem? hti)
  have hvo := valid_ok hVt
  have hwb := writeT_by hVt
  obtain ⟨j, o, _, hpa, _, _, _, _, hld⟩ := own_tok ho1 hti
  have hw := write_vc (t := t) (a := p) hvo.1 hvo.2.1 hvo.2.2.1 (by omega)
  have hnv : notTuple (t.val p) = true := rfl
  have hpv : plainV (t.val p) = true := by simp [Tk.val, plainV, plain2, plain1]
  obtain ⟨W, hW⟩ : ∃ W, W = writeT t := ⟨_, rfl⟩
  rw [← hW] at hw hwb
  have hs1 := sn_size q
  have hs2 := sn_size W
  have ha1 := sn_app q W
  have hs3 := sn_size (q ++ W)
  rw [List.length_append] at hs3
  have ha2 : strOfNums (q ++ W) ++ { data := #[32] } = strOfNums (q ++ (W ++ [32])) := by rw [← List.append_assoc]; exact sn_app (q ++ W) [32]
  have hs4 : (⟨#[32]⟩ : ByteArray).size = 1 := rfl
  obtain ⟨tv, htv⟩ : ∃ tv, tv = t.val p := ⟨_, rfl⟩
  rw [← htv] at hld hw hnv hpv
  refine aw_ops (by kernel_rfl) (fun K hK => ?_)
  simp (disch := first | omega | (simp only [List.length_set, List.length_append, List.length_cons, List.length_nil, iv_length, zl_length]; try omega; done)) [-getElem?_pos, -getElem?_neg, h6, h3, h7, -notTuple, hn1, nt_int, nt_sl, nt_str, nt_ptr, -xindexAddr, hpa, -xload, hld, hnv]
  refine ⟨by kernel_rfl, ac_of_vc (by simp [hpv, pv_string]) hw ?_⟩
  try simp (disch := first | omega | (simp only [List.length_set, List.length_append, List.length_cons, List.length_nil, iv_length, zl_length]; try omega; done)) [-getElem?_pos, -getElem?_neg, hs1, hs2, ha1, hs3, ha2, hs4]
  refine hK _ _ ?_; clear hK K
  (refine aw_ops (by kernel_rfl) (fun K hK => ?_); simp (disch := first | omega | (simp only [List.length_set, List.length_append, List.length_cons, List.length_nil, iv_length, zl_length]; try omega; done)) [-getElem?_pos, -getElem?_neg, h7]; refine hK _ _ ?_; clear hK K)
  refine ⟨c - 1, by omega, rfl, i + 1, _, by omega, by (first | (simp [put_at, put_none, fr0_at]; done) | rfl), by (first | (simp [put_at, put_none, fr0_at, h3]; done) | rfl), by (first | (simp [put_at, put_none, fr0_at]; done) | rfl), hqb.app (hwb.1.app (.cons (by omega) .nil)), by simp only [List.length_append, List.length_singleton]; omega, ?_⟩
  have htk : (us.take (i + 1)).map (·.1) = (us.take i).map (·.1) ++ [t] := by rw [List.take_add_one, hti, List.map_append]; rfl
  rw [htk, hW]
  exact hadd.app (.word (write_tok hVt))
end Go.Proofs.Ytcdkpeepboofhaa
