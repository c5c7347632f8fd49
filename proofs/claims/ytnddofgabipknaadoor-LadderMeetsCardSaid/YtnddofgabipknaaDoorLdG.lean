/-
  LadderFirst and LadderMeets, walked.
-/
import Derived.Test.YtnddofgabipknaaDoorLdC
import Derived.Test.YtnddofgabipknaaDoorLdF
namespace Go.Proofs.YtnddofgabipknaaDoor
section
open Go Go.RowKit
set_option linter.unusedVariables false
set_option linter.unusedSimpArgs false
set_option maxRecDepth 100000
set_option maxHeartbeats 8000000

theorem ezl_by (n : Nat) : By (zl n) := by intro x hx; rw [List.eq_of_mem_replicate hx]; omega
theorem enine_by : By (9 :: zl 31) := by
  intro x hx
  rcases List.mem_cons.1 hx with h | h
  · omega
  · exact ezl_by 31 x h
theorem enine_from : fromM (9 :: zl 31) = 9 := by decide +kernel
theorem first_L (k : List Int) : agrL k (9 :: zl 31) = puL k := by unfold agrL puL; rw [enine_from]
theorem first_B (k : List Int) : agrB k (9 :: zl 31) = true := by unfold agrB; rw [enine_from, decide_eq_false (EdG.climb_first k)]; rfl
theorem none_L (k : List Int) : agrL k (zl 32) = zl 32 := by unfold agrL; rw [from_0, EdG.climb_zero, bytes_0]
theorem none_B (k : List Int) : agrB k (zl 32) = false := by unfold agrB; rw [from_0, EdG.climb_zero]; rfl
theorem meets_L (a b : List Int) : agrL a (puL b) = agrL b (puL a) := by unfold agrL; rw [from_pu, from_pu, (EdG.climb_meets a b).1]
theorem meets_B (a b : List Int) : agrB a (puL b) = true := by unfold agrB; rw [from_pu, decide_eq_false (EdG.climb_meets a b).2]; rfl
attribute [local irreducible] wl addM subM mulM pM climbM fromM bytesM lad sb agrL agrB puL
attribute [local simp] wb_bool wb_undef with_lit XL_nil XL_cons XLc_val XLc_call step1_eq stepW_t stepW_f stepC_n stepC_s stepX_s stepX_n stepN_s calleeX xrecv oneV xop_eq xopR_s xopR_n wantedA_eq wantedG_n wantedG_s plain1_int plain1_bool plain1_string bits_i64 bits_u64 bits_u32 bits_u16 bits_u8 xeqA xagg xcmp xarr allK_iv num_iv calleeOf xread xeff xbin xint xnil xun xstr xload xconv xpart xfield xfieldAddr xindexAddr xindex bnd asInt? xslice xlen xmin xmax xbuild xfill xappend xapp2 xappstr xappmk xcap xcopy xcells eval_tmp eval_const put_at put_none fr0_at cells_agg cells_int cells_bool cells_string cells_ptr cells_slice notTuple tab iv_all hget_app hget_app0 hget_cons0 hget_cons set_app set_app0 setR setR_one QL_nil QL_cons QLc_val stepQ_t stepQ_f stepQC_n stepQC_s stepQX_s SL_nil SL_cons SLc_val stepS_t stepS_f ltT ltF leT leF eqT eqF ltTn ltFn leTn leFn eqTn eqFn beqT beqF bneT bneF wi64 wu64 wu32 wu16 wu8 tmodP tdivP hgetL hgetNe hgetEq setL nums_def nums_len Nat.succ_le_of_lt List.getElem?_cons_zero List.getElem?_cons_succ Option.getD_some Int.toNat_add Int.toNat_mul agM okM agB agI agS agP agL agA okB okI okS okP okSl okA
theorem first_law {H : AH} (hG : GP H) {k : List Int} (hk : k.length = 32) (hb : By k) : AC Tryd.prog H.length gm 6 #[.agg (iv .u8 k).toArray] H (fun v' _ => v' = .bool true) := by
  have htk : (iv .u8 k).take 32 = iv .u8 k := List.take_of_length_le (by simp [hk])
  have hal := fun (G : AH) (hG : GP G) => alive_rc hG
  have hp := fun (G : AH) hG => pub_of (H := G) hG hk hb rfl
  have ha := fun (G : AH) hG => agr_of (H := G) hG hk hb (p := 9 :: zl 31) rfl enine_by (first_L k) (first_B k)
  have hn := fun (G : AH) hG => agr_of (H := G) hG hk hb (p := zl 32) rfl (ezl_by 32) (none_L k) (none_B k)
  have o1 : setR (iv .u8 (zl 32)) 0 [.int .u8 9] = iv .u8 (9 :: zl 31) := rfl
  have o2 : (iv .u8 (zl 32)).set 0 (.int .u8 9) = iv .u8 (9 :: zl 31) := rfl
  have lP := puL_len k
  generalize puL k = P at *
  generalize 9 :: zl 31 = w9 at *
  have tP : (iv .u8 P).take 32 = iv .u8 P := List.take_of_length_le (by simp [lP])
  have sP : setR (iv .u8 (zl 32)) 0 (iv .u8 P) = iv .u8 P := setR_all _ _ (by simp [lP])
  have tZ : (iv .u8 (zl 32)).take 32 = iv .u8 (zl 32) := rfl
  have sZ : setR (iv .u8 (zl 32)) 0 (iv .u8 (zl 32)) = iv .u8 (zl 32) := rfl
  refine ac_of_aw Tryd.func6 rfl Tryd.ntmps6 Tryd.results6 (by simp) ?_
  refine aw_seq ?_
  (refine aw_ops (by kernel_rfl) (fun K hK => ?_); simp (disch := first | omega | (simp only [lnS]; try omega)) [-getElem?_pos, -getElem?_neg]; refine hK _ _ ?_; clear hK K)
  refine aw_seq ?_
  refine aw_seq ?_
  refine aw_ops (by kernel_rfl) (fun K hK => ?_)
  simp (disch := first | omega | (simp only [lnS]; try omega)) [-getElem?_pos, -getElem?_neg]
  refine ⟨by kernel_rfl, ac_of_rc (hal _ (hG.app _)) (by simp [pv_iv, pv_int, pv_bool, pv_string, pv_tup2, pv_tup3, iv_plain, p2_int, p2_bool, p2_string]) ?_⟩
  try simp (disch := first | omega | (simp only [lnS]; try omega)) [-getElem?_pos, -getElem?_neg]
  refine hK _ _ ?_; clear hK K
  refine aw_f (by (first | (simp [eval_tmp, put_at]; done) | (simp [eval_tmp, put_at]; omega))) (by kernel_rfl) ?_
  refine aw_skip ?_
  refine aw_seq ?_
  refine aw_ops (by kernel_rfl) (fun K hK => ?_)
  simp (disch := first | omega | (simp only [lnS]; try omega)) [-getElem?_pos, -getElem?_neg, htk, o1, o2]
  refine ⟨by kernel_rfl, ac_of_rc (ha _ (hG.app _)) (by simp [pv_key]) ?_⟩
  try simp (disch := first | omega | (simp only [lnS]; try omega)) [-getElem?_pos, -getElem?_neg, sP, lP]
  refine hK _ _ ?_; clear hK K
  refine aw_seq ?_
  refine aw_ops (by kernel_rfl) (fun K hK => ?_)
  simp (disch := first | omega | (simp only [lnS]; try omega)) [-getElem?_pos, -getElem?_neg, htk]
  refine ⟨by kernel_rfl, ac_of_rc (hn _ (hG.app _)) (by simp [pv_key]) ?_⟩
  try simp (disch := first | omega | (simp only [lnS]; try omega)) [-getElem?_pos, -getElem?_neg, sZ]
  refine hK _ _ ?_; clear hK K
  refine aw_seq ?_
  (refine aw_plan [] [] [0, 1, 2, 3, 4, 5, 6, 7, 8, 9, 10, 11, 12, 13, 14, 15, 16, 17, 18, 19] 20 0 (by kernel_rfl) (by kernel_rfl) (by kernel_rfl) (fun K hK => ?_)); simp only [sel, List.getElem?_cons_succ, List.getElem?_cons_zero, List.drop_succ_cons, List.drop_zero]; simp (disch := first | omega | (simp only [lnS]; try omega)) [-getElem?_pos, -getElem?_neg, htk, tP, tZ, lP, PL_nil, plainB_lit, PL_cons, PLc_val, PLc_new, stepP_t, stepP_f, stepPC_n, stepPC_s, stepPX_s, stepPX_n, stepPV_n, stepPV_s, stepPA_t, stepPA_c, stepPA_l, stepPN_s, allocOp, reloc_sl, reloc_ptr, List.map_cons, List.map_nil, List.nil_append, List.append_assoc, List.cons_append, Nat.add_assoc]
  refine PLc_call (by kernel_rfl) (fun L hL => hal _ ((hG.app _).app L)) (by simp [pv_iv, pv_int, pv_bool, pv_string, pv_tup2, pv_tup3, iv_plain, p2_int, p2_bool, p2_string]) ?_
  try simp (disch := first | omega | (simp only [lnS]; try omega)) [-getElem?_pos, -getElem?_neg, htk, tP, tZ, lP, PL_nil, plainB_lit, PL_cons, PLc_val, PLc_new, stepP_t, stepP_f, stepPC_n, stepPC_s, stepPX_s, stepPX_n, stepPV_n, stepPV_s, stepPA_t, stepPA_c, stepPA_l, stepPN_s, allocOp, reloc_sl, reloc_ptr, List.map_cons, List.map_nil, List.nil_append, List.append_assoc, List.cons_append, Nat.add_assoc]
  refine PLc_call (by kernel_rfl) (fun L hL => hp _ ((hG.app _).app L)) (by simp [pv_iv, pv_int, pv_bool, pv_string, pv_tup2, pv_tup3, iv_plain, p2_int, p2_bool, p2_string]) ?_
  try simp (disch := first | omega | (simp only [lnS]; try omega)) [-getElem?_pos, -getElem?_neg, htk, tP, tZ, lP, PL_nil, plainB_lit, PL_cons, PLc_val, PLc_new, stepP_t, stepP_f, stepPC_n, stepPC_s, stepPX_s, stepPX_n, stepPV_n, stepPV_s, stepPA_t, stepPA_c, stepPA_l, stepPN_s, allocOp, reloc_sl, reloc_ptr, List.map_cons, List.map_nil, List.nil_append, List.append_assoc, List.cons_append, Nat.add_assoc]
  refine hK _ _ ?_; clear hK K
  (refine aw_ret ?_; simp (disch := first | omega | (simp only [lnS]; try omega)) [-getElem?_pos, -getElem?_neg, thenQ_ret, scopeQ_ret, inBlockQ_ret, RQ, resL, resV])
theorem meets_law {H : AH} (hG : GP H) {a b : List Int} (hk : a.length = 32) (hb : By a) (hl : b.length = 32) (hc : By b) : AC Tryd.prog H.length gm 7 #[.agg (iv .u8 a).toArray, .agg (iv .u8 b).toArray] H (fun v' _ => v' = .bool true) := by
  have hta : (iv .u8 a).take 32 = iv .u8 a := List.take_of_length_le (by simp [hk])
  have htb : (iv .u8 b).take 32 = iv .u8 b := List.take_of_length_le (by simp [hl])
  have hal := fun (G : AH) (hG : GP G) => alive_rc hG
  have hpa := fun (G : AH) hG => pub_of (H := G) hG hk hb rfl
  have hpb := fun (G : AH) hG => pub_of (H := G) hG hl hc rfl
  have h1 := fun (G : AH) hG => agr_of (H := G) hG hk hb (puL_len b) (puL_by b) rfl (meets_B a b)
  have h2 := fun (G : AH) hG => agr_of (H := G) hG hl hc (puL_len a) (puL_by a) (meets_L a b).symm (meets_B b a)
  have lA := puL_len a
  have lB := puL_len b
  have lL := agrL_len a (puL b)
  generalize agrL a (puL b) = L at *
  generalize puL a = PA at *
  generalize puL b = PB at *
  have htL : (iv .u8 L).take 32 = iv .u8 L := List.take_of_length_le (by simp [lL])
  have sL : setR (iv .u8 (zl 32)) 0 (iv .u8 L) = iv .u8 L := setR_all _ _ (by simp [lL])
  refine ac_of_aw Tryd.func7 rfl Tryd.ntmps7 Tryd.results7 (by simp) ?_
  refine aw_seq ?_
  (refine aw_ops (by kernel_rfl) (fun K hK => ?_); simp (disch := first | omega | (simp only [lnS]; try omega)) [-getElem?_pos, -getElem?_neg]; refine hK _ _ ?_; clear hK K)
  refine aw_seq ?_
  refine aw_seq ?_
  refine aw_ops (by kernel_rfl) (fun K hK => ?_)
  simp (disch := first | omega | (simp only [lnS]; try omega)) [-getElem?_pos, -getElem?_neg]
  refine ⟨by kernel_rfl, ac_of_rc (hal _ (hG.app _)) (by simp [pv_iv, pv_int, pv_bool, pv_string, pv_tup2, pv_tup3, iv_plain, p2_int, p2_bool, p2_string]) ?_⟩
  try simp (disch := first | omega | (simp only [lnS]; try omega)) [-getElem?_pos, -getElem?_neg]
  refine hK _ _ ?_; clear hK K
  refine aw_f (by (first | (simp [eval_tmp, put_at]; done) | (simp [eval_tmp, put_at]; omega))) (by kernel_rfl) ?_
  refine aw_skip ?_
  refine aw_seq ?_
  refine aw_cut (fun α' H' => α' 2 = .pointer (some ⟨H.length, 0, none⟩) ∧ α' 3 = .pointer (some ⟨H.length + 1, 0, none⟩) ∧ α' 5 = .pointer (some ⟨H.length + 2, 0, none⟩) ∧ α' 6 = .bool true ∧ H' = H ++ [some ⟨iv .u8 a, 23, none⟩, some ⟨iv .u8 b, 23, none⟩, some ⟨iv .u8 L, 23, none⟩]) ?_ ?_
  · (refine aw_planL [] [0, 1, 2, 3, 4, 5, 6, 7] [6] 2 [([], [], [[8, 9]]), ([6], [17], [[6, 8, 9], [8, 6, 9]])] (by kernel_rfl) (by kernel_rfl) (by kernel_rfl) (fun K hK => ?_)); simp only [sel, List.getElem?_cons_succ, List.getElem?_cons_zero]; simp (disch := first | omega | (simp only [lnS]; try omega)) [-getElem?_pos, -getElem?_neg, hta, htb, htL, sL, PL_nil, plainB_lit, PL_cons, PLc_val, PLc_new, stepP_t, stepP_f, stepPC_n, stepPC_s, stepPX_s, stepPX_n, stepPV_n, stepPV_s, stepPA_t, stepPA_c, stepPA_l, stepPN_s, allocOp, reloc_sl, reloc_ptr, List.map_cons, List.map_nil, List.nil_append, List.append_assoc, List.cons_append, Nat.add_assoc]
    refine PLc_call (by kernel_rfl) (fun L hL => hpb _ ((hG.app _).app L)) (by simp [pv_iv, pv_int, pv_bool, pv_string, pv_tup2, pv_tup3, iv_plain, p2_int, p2_bool, p2_string]) ?_
    try simp (disch := first | omega | (simp only [lnS]; try omega)) [-getElem?_pos, -getElem?_neg, hta, htb, htL, sL, PL_nil, plainB_lit, PL_cons, PLc_val, PLc_new, stepP_t, stepP_f, stepPC_n, stepPC_s, stepPX_s, stepPX_n, stepPV_n, stepPV_s, stepPA_t, stepPA_c, stepPA_l, stepPN_s, allocOp, reloc_sl, reloc_ptr, List.map_cons, List.map_nil, List.nil_append, List.append_assoc, List.cons_append, Nat.add_assoc]
    refine PLc_call (by kernel_rfl) (fun L hL => h1 _ ((hG.app _).app L)) (by simp [pv_key]) ?_
    try simp (disch := first | omega | (simp only [lnS]; try omega)) [-getElem?_pos, -getElem?_neg, hta, htb, htL, sL, PL_nil, plainB_lit, PL_cons, PLc_val, PLc_new, stepP_t, stepP_f, stepPC_n, stepPC_s, stepPX_s, stepPX_n, stepPV_n, stepPV_s, stepPA_t, stepPA_c, stepPA_l, stepPN_s, allocOp, reloc_sl, reloc_ptr, List.map_cons, List.map_nil, List.nil_append, List.append_assoc, List.cons_append, Nat.add_assoc]
    simp only [List.mem_cons, List.not_mem_nil, or_false, forall_eq_or_imp, forall_eq, sel, List.getElem?_cons_succ, List.getElem?_cons_zero]; simp (disch := first | omega | (simp only [lnS]; try omega)) [-getElem?_pos, -getElem?_neg, hta, htb, htL, sL, mixF_at, mixF_nil, List.contains_cons, List.contains_nil]
    repeat' (first | apply And.intro | refine hK _ _ ?_)
    all_goals clear hK K
    all_goals first | rfl | (simp [put_at, put_none, fr0_at, mixF_at, List.contains_cons]; done)
  rintro α H' ⟨g2, g3, g5, g6, rfl⟩
  refine aw_seq ?_
  refine aw_cut (fun α' H' => α' 2 = .pointer (some ⟨H.length, 0, none⟩) ∧ α' 3 = .pointer (some ⟨H.length + 1, 0, none⟩) ∧ α' 5 = .pointer (some ⟨H.length + 2, 0, none⟩) ∧ α' 6 = .bool true ∧ α' 7 = .pointer (some ⟨H.length + 3, 0, none⟩) ∧ α' 8 = .bool true ∧ H' = H ++ [some ⟨iv .u8 a, 23, none⟩, some ⟨iv .u8 b, 23, none⟩, some ⟨iv .u8 L, 23, none⟩, some ⟨iv .u8 L, 23, none⟩]) ?_ ?_
  · (refine aw_planL [] [0, 1, 2, 3, 4, 5, 6, 7] [6] 2 [([], [], [[8, 9]]), ([6], [24], [[6, 8, 9], [8, 6, 9]])] (by kernel_rfl) (by kernel_rfl) (by kernel_rfl) (fun K hK => ?_)); simp only [sel, List.getElem?_cons_succ, List.getElem?_cons_zero]; simp (disch := first | omega | (simp only [lnS]; try omega)) [-getElem?_pos, -getElem?_neg, g2, g3, hta, htb, htL, sL, PL_nil, plainB_lit, PL_cons, PLc_val, PLc_new, stepP_t, stepP_f, stepPC_n, stepPC_s, stepPX_s, stepPX_n, stepPV_n, stepPV_s, stepPA_t, stepPA_c, stepPA_l, stepPN_s, allocOp, reloc_sl, reloc_ptr, List.map_cons, List.map_nil, List.nil_append, List.append_assoc, List.cons_append, Nat.add_assoc]
    refine PLc_call (by kernel_rfl) (fun L hL => hpa _ ((hG.app _).app L)) (by simp [pv_iv, pv_int, pv_bool, pv_string, pv_tup2, pv_tup3, iv_plain, p2_int, p2_bool, p2_string]) ?_
    try simp (disch := first | omega | (simp only [lnS]; try omega)) [-getElem?_pos, -getElem?_neg, g2, g3, hta, htb, htL, sL, PL_nil, plainB_lit, PL_cons, PLc_val, PLc_new, stepP_t, stepP_f, stepPC_n, stepPC_s, stepPX_s, stepPX_n, stepPV_n, stepPV_s, stepPA_t, stepPA_c, stepPA_l, stepPN_s, allocOp, reloc_sl, reloc_ptr, List.map_cons, List.map_nil, List.nil_append, List.append_assoc, List.cons_append, Nat.add_assoc]
    refine PLc_call (by kernel_rfl) (fun L hL => h2 _ ((hG.app _).app L)) (by simp [pv_key]) ?_
    try simp (disch := first | omega | (simp only [lnS]; try omega)) [-getElem?_pos, -getElem?_neg, g2, g3, hta, htb, htL, sL, PL_nil, plainB_lit, PL_cons, PLc_val, PLc_new, stepP_t, stepP_f, stepPC_n, stepPC_s, stepPX_s, stepPX_n, stepPV_n, stepPV_s, stepPA_t, stepPA_c, stepPA_l, stepPN_s, allocOp, reloc_sl, reloc_ptr, List.map_cons, List.map_nil, List.nil_append, List.append_assoc, List.cons_append, Nat.add_assoc]
    simp only [List.mem_cons, List.not_mem_nil, or_false, forall_eq_or_imp, forall_eq, sel, List.getElem?_cons_succ, List.getElem?_cons_zero]; simp (disch := first | omega | (simp only [lnS]; try omega)) [-getElem?_pos, -getElem?_neg, g2, g3, hta, htb, htL, sL, mixF_at, mixF_nil, List.contains_cons, List.contains_nil]
    repeat' (first | apply And.intro | refine hK _ _ ?_)
    all_goals clear hK K
    all_goals first | rfl | (simp [put_at, put_none, fr0_at, mixF_at, List.contains_cons, g2, g3, g5, g6]; done)
  clear g2 g3 g5 g6
  rintro α H' ⟨g2, g3, g5, g6, g7, g8, rfl⟩
  refine aw_seq ?_
  refine aw_ops (by kernel_rfl) (fun K hK => ?_)
  simp (disch := first | omega | (simp only [lnS]; try omega)) [-getElem?_pos, -getElem?_neg]
  refine ⟨by kernel_rfl, ac_of_rc (hal _ (hG.app _)) (by simp [pv_iv, pv_int, pv_bool, pv_string, pv_tup2, pv_tup3, iv_plain, p2_int, p2_bool, p2_string]) ?_⟩
  try simp (disch := first | omega | (simp only [lnS]; try omega)) [-getElem?_pos, -getElem?_neg, g5, g6, g7, g8, htL, lL]
  refine hK _ _ ?_; clear hK K
  (refine aw_ret ?_; simp (disch := first | omega | (simp only [lnS]; try omega)) [-getElem?_pos, -getElem?_neg, thenQ_ret, scopeQ_ret, inBlockQ_ret, RQ, resL, resV])
end
end Go.Proofs.YtnddofgabipknaaDoor
