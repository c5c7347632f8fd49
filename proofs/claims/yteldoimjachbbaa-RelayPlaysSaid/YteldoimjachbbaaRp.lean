/-
  The law RelayPlays, walked.
-/
import Derived.Test.YteldoimjachbbaaRi
namespace Go.Proofs.Yteldoimjachbbaa
open Go Go.RowKit
set_option linter.unusedVariables false
set_option linter.unusedSimpArgs false
set_option maxRecDepth 100000
set_option maxHeartbeats 8000000
attribute [local simp] wb_bool wb_undef XL_nil XL_cons XLc_val XLc_call step1_eq stepW_t stepW_f stepC_n stepC_s stepX_s xop_eq xopR_s xopR_n wantedA_eq wantedG_n wantedG_s plain1_int plain1_bool plain1_string bits_i64 bits_u64 bits_u32 bits_u16 bits_u8 xeqA xarr allK_iv num_iv calleeOf xread xeff xbin xint xnil xun xstr xload xconv xpart xfield xfieldAddr xindexAddr xindex bnd asInt? xslice xlen xmin xmax xbuild xfill xappend xappmk xcap xcopy xcells eval_tmp eval_const put_at put_none fr0_at cells_agg cells_int cells_bool cells_string cells_ptr cells_slice notTuple tab iv_all hget_app hget_app0 hget_cons0 hget_cons set_app set_app0 setR setR_one QL_nil QL_cons QLc_val stepQ_t stepQ_f stepQC_n stepQC_s stepQX_s SL_nil SL_cons SLc_val stepS_t stepS_f ltT ltF leT leF eqT eqF ltTn ltFn leTn leFn eqTn eqFn beqT beqF bneT bneF wi64 wu64 wu32 wu16 wu8 tmodP tdivP hgetL hgetNe hgetEq setL nums_def nums_len Nat.succ_le_of_lt List.getElem?_cons_zero List.getElem?_cons_succ Option.getD_some Int.toNat_add Int.toNat_mul agB agI agS agP agL agA okB okI okS okP okSl okA
theorem plays_law {H : AH} {γ : Nat → Option Nat} {v : Value} {rows : List (List FD)} (hv : SlR 5 H v rows) (hok : RowsOk rows) (hlen : rows.length ≤ maxLen) :
    AC Try.prog H.length γ 3 #[v] H (fun v' _ => v' = .bool true) := by
  simp only [maxLen] at hlen
  have hno : notTuple v = true := by rcases hv with ⟨a, rfl, _⟩ | ⟨j, k, rfl, _⟩ <;> rfl
  refine ac_of_aw Try.func3 rfl Try.ntmps3 Try.results3 (by simp) ?_
  refine aw_seq ?_
  (refine aw_ops (by kernel_rfl) (fun K hK => ?_); simp (disch := first | omega | (simp only [List.length_set, List.length_append, List.length_cons, List.length_nil, iv_length, zl_length]; try omega; done)) [-getElem?_pos, -getElem?_neg]; refine hK _ _ ?_; clear hK K)
  refine aw_seq ?_
  refine aw_seq ?_
  refine aw_ops (by kernel_rfl) (fun K hK => ?_)
  simp (disch := first | omega | (simp only [List.length_set, List.length_append, List.length_cons, List.length_nil, iv_length, zl_length]; try omega; done)) [-getElem?_pos, -getElem?_neg]
  refine ⟨by kernel_rfl, ac_of_vc (by simp [pv_iv, pv_int, pv_bool, pv_string, pv_tup2, pv_tup3, iv_plain, p2_int, p2_bool, p2_string]) alive_vc ?_⟩
  simp (disch := first | omega | (simp only [List.length_set, List.length_append, List.length_cons, List.length_nil, iv_length, zl_length]; try omega; done)) [-getElem?_pos, -getElem?_neg]
  refine hK _ _ ?_; clear hK K
  refine aw_f (by (first | (simp [eval_tmp, put_at]; done) | (simp [eval_tmp, put_at]; omega))) (by kernel_rfl) ?_
  refine aw_skip ?_
  refine aw_seq ?_
  (refine aw_ops (by kernel_rfl) (fun K hK => ?_); simp (disch := first | omega | (simp only [List.length_set, List.length_append, List.length_cons, List.length_nil, iv_length, zl_length]; try omega; done)) [-getElem?_pos, -getElem?_neg]; refine hK _ _ ?_; clear hK K)
  have hp0 := Pr.start (T1 := 28) (T2 := 31) (H := H) rfl rfl
  refine aw_seq ?_
  (refine aw_ops (by kernel_rfl) (fun K hK => ?_); simp (disch := first | omega | (simp only [List.length_set, List.length_append, List.length_cons, List.length_nil, iv_length, zl_length]; try omega; done)) [-getElem?_pos, -getElem?_neg]; refine hK _ _ ?_; clear hK K)
  refine aw_seq ?_
  refine aw_seq ?_
  (refine aw_ops (by kernel_rfl) (fun K hK => ?_); simp (disch := first | omega | (simp only [List.length_set, List.length_append, List.length_cons, List.length_nil, iv_length, zl_length]; try omega; done)) [-getElem?_pos, -getElem?_neg]; refine hK _ _ ?_; clear hK K)
  have hxl := hv.len (P := Try.prog) (t := 22) (e := 33) (by simp)
  obtain ⟨p, hp⟩ : ∃ p, p = H.length := ⟨_, rfl⟩
  obtain ⟨q, hq⟩ : ∃ q, q = H.length + 1 := ⟨_, rfl⟩
  refine aw_block ?_
  refine aw_loop (fun c α G' => ∃ i : Nat, i + c = rows.length ∧ i ≤ 150 ∧ α 6 = .int .i64 (i : Nat) ∧ α 0 = v ∧ α 3 = .pointer (some ⟨p, 0, none⟩) ∧ α 4 = .pointer (some ⟨q, 0, none⟩) ∧ α 5 = .pointer none ∧
    ∃ L, LB L ∧ Pr (fun j => j < H.length) H H.length p q 28 31 G' L L) rows.length ?_ ?_
  · refine ⟨0, by omega, by omega, by (first | (simp [put_at, put_none, fr0_at]; done) | rfl), by (first | (simp [put_at, put_none, fr0_at]; done) | rfl), by simp [put_at, hp], by simp [put_at, hq], by (first | (simp [put_at, put_none, fr0_at]; done) | rfl), eL, eL_b, ?_⟩
    rw [hp, hq]
    exact hp0
  clear hp0
  rintro c α G' ⟨i, hic, hi150, h6, h0, h3, h4, h5, L, hb, hpr⟩
  refine aw_seq ?_
  refine aw_seq ?_
  by_cases hi : i < rows.length
  case neg =>
    (refine aw_ops (by kernel_rfl) (fun K hK => ?_); simp (disch := first | omega | (simp only [List.length_set, List.length_append, List.length_cons, List.length_nil, iv_length, zl_length]; try omega; done)) [-getElem?_pos, -getElem?_neg, h6, h0, -xlen, hxl, hi]; refine hK _ _ ?_; clear hK K)
    refine aw_f (by (first | (simp [eval_tmp, put_at, hi]; done) | (simp [eval_tmp, put_at, hi]; omega))) (by kernel_rfl) ?_
    refine aw_exit ?_
    refine aw_seq ?_
    refine aw_ops (by kernel_rfl) (fun K hK => ?_)
    simp (disch := first | omega | (simp only [List.length_set, List.length_append, List.length_cons, List.length_nil, iv_length, zl_length]; try omega; done)) [-getElem?_pos, -getElem?_neg]
    refine ⟨by kernel_rfl, ac_of_vc (by simp [pv_iv, pv_int, pv_bool, pv_string, pv_tup2, pv_tup3, iv_plain, p2_int, p2_bool, p2_string]) alive_vc ?_⟩
    try simp (disch := first | omega | (simp only [List.length_set, List.length_append, List.length_cons, List.length_nil, iv_length, zl_length]; try omega; done)) [-getElem?_pos, -getElem?_neg]
    refine hK _ _ ?_; clear hK K
    (refine aw_ret ?_; simp (disch := first | omega | (simp only [List.length_set, List.length_append, List.length_cons, List.length_nil, iv_length, zl_length]; try omega; done)) [-getElem?_pos, -getElem?_neg, thenQ_ret, inBlockQ_ret, RQ, resL, resV])
  by_cases hi8 : i < 150
  case neg =>
    (refine aw_ops (by kernel_rfl) (fun K hK => ?_); simp (disch := first | omega | (simp only [List.length_set, List.length_append, List.length_cons, List.length_nil, iv_length, zl_length]; try omega; done)) [-getElem?_pos, -getElem?_neg, h6, h0, -xlen, hxl, hi, hi8]; refine hK _ _ ?_; clear hK K)
    refine aw_f (by (first | (simp [eval_tmp, put_at, hi8]; done) | (simp [eval_tmp, put_at, hi8]; omega))) (by kernel_rfl) ?_
    refine aw_exit ?_
    refine aw_seq ?_
    refine aw_ops (by kernel_rfl) (fun K hK => ?_)
    simp (disch := first | omega | (simp only [List.length_set, List.length_append, List.length_cons, List.length_nil, iv_length, zl_length]; try omega; done)) [-getElem?_pos, -getElem?_neg]
    refine ⟨by kernel_rfl, ac_of_vc (by simp [pv_iv, pv_int, pv_bool, pv_string, pv_tup2, pv_tup3, iv_plain, p2_int, p2_bool, p2_string]) alive_vc ?_⟩
    try simp (disch := first | omega | (simp only [List.length_set, List.length_append, List.length_cons, List.length_nil, iv_length, zl_length]; try omega; done)) [-getElem?_pos, -getElem?_neg]
    refine hK _ _ ?_; clear hK K
    (refine aw_ret ?_; simp (disch := first | omega | (simp only [List.length_set, List.length_append, List.length_cons, List.length_nil, iv_length, zl_length]; try omega; done)) [-getElem?_pos, -getElem?_neg, thenQ_ret, inBlockQ_ret, RQ, resL, resV])
  (refine aw_ops (by kernel_rfl) (fun K hK => ?_); simp (disch := first | omega | (simp only [List.length_set, List.length_append, List.length_cons, List.length_nil, iv_length, zl_length]; try omega; done)) [-getElem?_pos, -getElem?_neg, h6, h0, -xlen, hxl, hi, hi8]; refine hK _ _ ?_; clear hK K)
  refine aw_t (by (first | (simp [eval_tmp, put_at, hi8]; done) | (simp [eval_tmp, put_at, hi8]; omega))) (by kernel_rfl) ?_
  refine aw_skip ?_
  refine aw_seq ?_
  refine aw_block ?_
  have hlow : ∀ j, j < H.length → hget G' j = hget H j := fun j hj => (hpr.st j hj).2.2.2
  obtain ⟨jv, kb, rfl, hjl, hkb, hkl, hrow, _, _⟩ := act_at hv hok hi
  have hgk : hget G' jv = some kb := (hlow jv hjl).trans hkb
  generalize aKind rows i = kd at *
  generalize aTo rows i = to at *
  generalize aI rows i = ai at *
  generalize aK rows i = ak at *
  generalize aTx rows i = s at *
  have hgl : H.length ≤ G'.length := hpr.len
  refine aw_seq ?_
  (refine aw_ops (by kernel_rfl) (fun K hK => ?_); simp (disch := first | omega | (simp only [List.length_set, List.length_append, List.length_cons, List.length_nil, iv_length, zl_length]; try omega; done)) [-getElem?_pos, -getElem?_neg, h6, h0, hgk, hrow, plain_nil, hgl]; refine hK _ _ ?_; clear hK K)
  have hm := hpr.more (some ⟨[.int .i64 kd, .int .i64 to, .int .i64 ai, .int .i64 ak, .string s], 33, none⟩)
  obtain ⟨a8, ha8⟩ : ∃ a8, a8 = G'.length := ⟨_, rfl⟩
  have hga8 : hget (G' ++ [some ⟨[.int .i64 kd, .int .i64 to, .int .i64 ai, .int .i64 ak, .string s], 33, none⟩]) a8 = some ⟨[.int .i64 kd, .int .i64 to, .int .i64 ai, .int .i64 ak, .string s], 33, none⟩ := by
    rw [ha8, hget_app0]; rfl
  rw [← ha8] at hm
  have hlowG : ∀ j, j < H.length → hget (G' ++ [some ⟨[.int .i64 kd, .int .i64 to, .int .i64 ai, .int .i64 ak, .string s], 33, none⟩]) j = hget H j := fun j hj => (hget_left (by omega)).trans (hlow j hj)
  generalize hG1 : G' ++ [some ⟨[.int .i64 kd, .int .i64 to, .int .i64 ai, .int .i64 ak, .string s], 33, none⟩] = G1 at *
  have back : ∀ {G2 : AH} {L' : Nat → List ByteArray}, Pr (fun j => j < H.length ∨ j = a8) G1 H.length p q 28 31 G2 L' L' → Pr (fun j => j < H.length) H H.length p q 28 31 G2 L' L' := fun h => h.less (fun j hj => ⟨.inl hj, hlowG j hj⟩)
  refine aw_seq ?_
  refine aw_seq ?_
  by_cases hlong : 1000 < s.size
  · (refine aw_ops (by kernel_rfl) (fun K hK => ?_); simp (disch := first | omega | (simp only [List.length_set, List.length_append, List.length_cons, List.length_nil, iv_length, zl_length]; try omega; done)) [-getElem?_pos, -getElem?_neg, ← ha8, hga8, hlong]; refine hK _ _ ?_; clear hK K)
    refine aw_t (by (first | (simp [eval_tmp, put_at, hlong]; done) | (simp [eval_tmp, put_at, hlong]; omega))) (by kernel_rfl) ?_
    refine aw_exit ?_
    (refine aw_ops (by kernel_rfl) (fun K hK => ?_); simp (disch := first | omega | (simp only [List.length_set, List.length_append, List.length_cons, List.length_nil, iv_length, zl_length]; try omega; done)) [-getElem?_pos, -getElem?_neg, h6]; refine hK _ _ ?_; clear hK K)
    exact ⟨c - 1, by omega, i + 1, by omega, by omega, by (first | (simp [put_at, put_none, fr0_at]; done) | rfl), by (first | (simp [put_at, put_none, fr0_at, h0]; done) | rfl), by (first | (simp [put_at, put_none, fr0_at, h3]; done) | rfl), by (first | (simp [put_at, put_none, fr0_at, h4]; done) | rfl), by (first | (simp [put_at, put_none, fr0_at, h5]; done) | rfl), L, hb, back hm⟩
  (refine aw_ops (by kernel_rfl) (fun K hK => ?_); simp (disch := first | omega | (simp only [List.length_set, List.length_append, List.length_cons, List.length_nil, iv_length, zl_length]; try omega; done)) [-getElem?_pos, -getElem?_neg, ← ha8, hga8, hlong]; refine hK _ _ ?_; clear hK K)
  refine aw_f (by (first | (simp [eval_tmp, put_at, hlong]; done) | (simp [eval_tmp, put_at, hlong]; omega))) (by kernel_rfl) ?_
  refine aw_skip ?_
  refine aw_seq ?_
  have hlo1 := hm.lo1
  have hlo2 := hm.lo2
  refine aw_ops (by kernel_rfl) (fun K hK => ?_)
  simp (disch := first | omega | (simp only [List.length_set, List.length_append, List.length_cons, List.length_nil, iv_length, zl_length]; try omega; done)) [-getElem?_pos, -getElem?_neg, h3, hga8]
  refine ⟨by kernel_rfl, (do_ac hm.a hb hlo1 hm.len hm.hX).mono ?_⟩
  rintro _ G2 ⟨rfl, h2r, hf2⟩
  try simp (disch := first | omega | (simp only [List.length_set, List.length_append, List.length_cons, List.length_nil, iv_length, zl_length]; try omega; done)) [-getElem?_pos, -getElem?_neg]
  refine hK _ _ ?_; clear hK K
  have hm2 := hm.l h2r hf2
  have hga2 : hget G2 a8 = _ := ((hm2.st a8 (.inr rfl)).2.2.2).trans hga8
  refine aw_seq ?_
  (refine aw_ops (by kernel_rfl) (fun K hK => ?_); simp (disch := first | omega | (simp only [List.length_set, List.length_append, List.length_cons, List.length_nil, iv_length, zl_length]; try omega; done)) [-getElem?_pos, -getElem?_neg]; refine hK _ _ ?_; clear hK K)
  refine aw_seq ?_
  refine aw_seq ?_
  (refine aw_ops (by kernel_rfl) (fun K hK => ?_); simp (disch := first | omega | (simp only [List.length_set, List.length_append, List.length_cons, List.length_nil, iv_length, zl_length]; try omega; done)) [-getElem?_pos, -getElem?_neg, ← ha8, hga2, -tmodP]; refine hK _ _ ?_; clear hK K)
  have hk5 : kd.tmod 5 < 5 := Int.tmod_lt_of_pos kd (by decide)
  refine aw_cut (fun α G3 => Pr (fun j => j < H.length ∨ j = a8) G1 H.length p q 28 31 G3 (doL L (kd.tmod 5) to ai ak s) (doL L (kd.tmod 5) to ai ak s) ∧ α 10 = .string (doS L (kd.tmod 5) to ai) ∧ α 11 = .int .i64 (doE L (kd.tmod 5) to ai ak) ∧ α 8 = .string (doS L (kd.tmod 5) to ai) ∧ α 9 = .int .i64 (doE L (kd.tmod 5) to ai ak) ∧ α 3 = .pointer (some ⟨p, 0, none⟩) ∧ α 4 = .pointer (some ⟨q, 0, none⟩) ∧ α 5 = .pointer none ∧ α 6 = .int .i64 (i : Nat) ∧ α 0 = .slice (some ⟨jv, 0, none⟩) rows.length rows.length ∧ α 7 = .pointer (some ⟨a8, 0, none⟩)) ?_ ?_
  · generalize kd.tmod 5 = k5 at *
    refine aw_block ?_
    refine aw_seq ?_
    by_cases k0 : k5 = 0
    · (refine aw_ops (by kernel_rfl) (fun K hK => ?_); simp (disch := first | omega | (simp only [List.length_set, List.length_append, List.length_cons, List.length_nil, iv_length, zl_length]; try omega; done)) [-getElem?_pos, -getElem?_neg, k0]; refine hK _ _ ?_; clear hK K)
      refine aw_t (by (first | (simp [eval_tmp, put_at]; done) | (simp [eval_tmp, put_at]; omega))) (by kernel_rfl) ?_
      refine aw_ops (by kernel_rfl) (fun K hK => ?_)
      simp (disch := first | omega | (simp only [List.length_set, List.length_append, List.length_cons, List.length_nil, iv_length, zl_length]; try omega; done)) [-getElem?_pos, -getElem?_neg, h4, hga2, ← ha8]
      refine ⟨by kernel_rfl, (rpost_ac (s := s) hm2.b hb (by omega) (Nat.le_trans hm2.len (Nat.le_refl _)) hm2.hX).mono ?_⟩
      rintro _ G3 ⟨rfl, h3r, hf3⟩
      try simp (disch := first | omega | (simp only [List.length_set, List.length_append, List.length_cons, List.length_nil, iv_length, zl_length]; try omega; done)) [-getElem?_pos, -getElem?_neg]
      refine hK _ _ ?_; clear hK K
      exact ⟨by simpa [doL, k0] using hm2.r h3r hf3, by simp [put_at, doS, empty_is, k0], by simp [put_at, doE, k0], by simp [put_at, k0], by simp [put_at, k0], by (first | (simp [put_at, put_none, fr0_at, h3]; done) | rfl), by (first | (simp [put_at, put_none, fr0_at, h4]; done) | rfl), by (first | (simp [put_at, put_none, fr0_at, h5]; done) | rfl), by (first | (simp [put_at, put_none, fr0_at, h6]; done) | rfl), by (first | (simp [put_at, put_none, fr0_at, h0]; done) | rfl), by (first | (simp [put_at, put_none, fr0_at, ha8]; done) | rfl)⟩
    · (refine aw_ops (by kernel_rfl) (fun K hK => ?_); simp (disch := first | omega | (simp only [List.length_set, List.length_append, List.length_cons, List.length_nil, iv_length, zl_length]; try omega; done)) [-getElem?_pos, -getElem?_neg, k0]; refine hK _ _ ?_; clear hK K)
      refine aw_f (by (first | (simp [eval_tmp, put_at]; done) | (simp [eval_tmp, put_at]; omega))) (by kernel_rfl) ?_
      refine aw_seq ?_
      by_cases k1 : k5 = 1
      · (refine aw_ops (by kernel_rfl) (fun K hK => ?_); simp (disch := first | omega | (simp only [List.length_set, List.length_append, List.length_cons, List.length_nil, iv_length, zl_length]; try omega; done)) [-getElem?_pos, -getElem?_neg, k1]; refine hK _ _ ?_; clear hK K)
        refine aw_t (by (first | (simp [eval_tmp, put_at]; done) | (simp [eval_tmp, put_at]; omega))) (by kernel_rfl) ?_
        refine aw_ops (by kernel_rfl) (fun K hK => ?_)
        simp (disch := first | omega | (simp only [List.length_set, List.length_append, List.length_cons, List.length_nil, iv_length, zl_length]; try omega; done)) [-getElem?_pos, -getElem?_neg, h4, hga2, ← ha8]
        refine ⟨by kernel_rfl, (rtake_ac hm2.b hb (by omega) (Nat.le_trans hm2.len (Nat.le_refl _)) hm2.hX).mono ?_⟩
        rintro _ G3 ⟨rfl, h3r, hf3⟩
        try simp (disch := first | omega | (simp only [List.length_set, List.length_append, List.length_cons, List.length_nil, iv_length, zl_length]; try omega; done)) [-getElem?_pos, -getElem?_neg]
        refine hK _ _ ?_; clear hK K
        exact ⟨by simpa [doL, k1] using hm2.r h3r hf3, by simp [put_at, doS, empty_is, k1], by simp [put_at, doE, k1], by simp [put_at, k1], by simp [put_at, k1], by (first | (simp [put_at, put_none, fr0_at, h3]; done) | rfl), by (first | (simp [put_at, put_none, fr0_at, h4]; done) | rfl), by (first | (simp [put_at, put_none, fr0_at, h5]; done) | rfl), by (first | (simp [put_at, put_none, fr0_at, h6]; done) | rfl), by (first | (simp [put_at, put_none, fr0_at, h0]; done) | rfl), by (first | (simp [put_at, put_none, fr0_at, ha8]; done) | rfl)⟩
      · (refine aw_ops (by kernel_rfl) (fun K hK => ?_); simp (disch := first | omega | (simp only [List.length_set, List.length_append, List.length_cons, List.length_nil, iv_length, zl_length]; try omega; done)) [-getElem?_pos, -getElem?_neg, k1]; refine hK _ _ ?_; clear hK K)
        refine aw_f (by (first | (simp [eval_tmp, put_at]; done) | (simp [eval_tmp, put_at]; omega))) (by kernel_rfl) ?_
        refine aw_seq ?_
        by_cases k2 : k5 = 2
        · (refine aw_ops (by kernel_rfl) (fun K hK => ?_); simp (disch := first | omega | (simp only [List.length_set, List.length_append, List.length_cons, List.length_nil, iv_length, zl_length]; try omega; done)) [-getElem?_pos, -getElem?_neg, k2]; refine hK _ _ ?_; clear hK K)
          refine aw_t (by (first | (simp [eval_tmp, put_at]; done) | (simp [eval_tmp, put_at]; omega))) (by kernel_rfl) ?_
          refine aw_ops (by kernel_rfl) (fun K hK => ?_)
          simp (disch := first | omega | (simp only [List.length_set, List.length_append, List.length_cons, List.length_nil, iv_length, zl_length]; try omega; done)) [-getElem?_pos, -getElem?_neg, h4, hga2, ← ha8]
          refine ⟨by kernel_rfl, (rtake_ac hm2.b hb (by omega) (Nat.le_trans hm2.len (Nat.le_refl _)) hm2.hX).mono ?_⟩
          rintro _ G3 ⟨rfl, h3r, hf3⟩
          try simp (disch := first | omega | (simp only [List.length_set, List.length_append, List.length_cons, List.length_nil, iv_length, zl_length]; try omega; done)) [-getElem?_pos, -getElem?_neg]
          refine hK _ _ ?_; clear hK K
          exact ⟨by simpa [doL, k2] using hm2.r h3r hf3, by simp [put_at, doS, empty_is, k2], by simp [put_at, doE, k2], by simp [put_at, k2], by simp [put_at, k2], by (first | (simp [put_at, put_none, fr0_at, h3]; done) | rfl), by (first | (simp [put_at, put_none, fr0_at, h4]; done) | rfl), by (first | (simp [put_at, put_none, fr0_at, h5]; done) | rfl), by (first | (simp [put_at, put_none, fr0_at, h6]; done) | rfl), by (first | (simp [put_at, put_none, fr0_at, h0]; done) | rfl), by (first | (simp [put_at, put_none, fr0_at, ha8]; done) | rfl)⟩
        · (refine aw_ops (by kernel_rfl) (fun K hK => ?_); simp (disch := first | omega | (simp only [List.length_set, List.length_append, List.length_cons, List.length_nil, iv_length, zl_length]; try omega; done)) [-getElem?_pos, -getElem?_neg, k2]; refine hK _ _ ?_; clear hK K)
          refine aw_f (by (first | (simp [eval_tmp, put_at]; done) | (simp [eval_tmp, put_at]; omega))) (by kernel_rfl) ?_
          refine aw_seq ?_
          by_cases k3 : k5 = 3
          · (refine aw_ops (by kernel_rfl) (fun K hK => ?_); simp (disch := first | omega | (simp only [List.length_set, List.length_append, List.length_cons, List.length_nil, iv_length, zl_length]; try omega; done)) [-getElem?_pos, -getElem?_neg, k3]; refine hK _ _ ?_; clear hK K)
            refine aw_t (by (first | (simp [eval_tmp, put_at]; done) | (simp [eval_tmp, put_at]; omega))) (by kernel_rfl) ?_
            refine aw_ops (by kernel_rfl) (fun K hK => ?_)
            simp (disch := first | omega | (simp only [List.length_set, List.length_append, List.length_cons, List.length_nil, iv_length, zl_length]; try omega; done)) [-getElem?_pos, -getElem?_neg, h4, hga2, ← ha8]
            refine ⟨by kernel_rfl, (rdouble_ac hm2.b hb (by omega) (Nat.le_trans hm2.len (Nat.le_refl _)) hm2.hX).mono ?_⟩
            rintro _ G3 ⟨rfl, h3r, hf3⟩
            try simp (disch := first | omega | (simp only [List.length_set, List.length_append, List.length_cons, List.length_nil, iv_length, zl_length]; try omega; done)) [-getElem?_pos, -getElem?_neg]
            refine hK _ _ ?_; clear hK K
            exact ⟨by simpa [doL, k3] using hm2.r h3r hf3, by simp [put_at, doS, empty_is, k3], by simp [put_at, doE, k3], by simp [put_at, k3], by simp [put_at, k3], by (first | (simp [put_at, put_none, fr0_at, h3]; done) | rfl), by (first | (simp [put_at, put_none, fr0_at, h4]; done) | rfl), by (first | (simp [put_at, put_none, fr0_at, h5]; done) | rfl), by (first | (simp [put_at, put_none, fr0_at, h6]; done) | rfl), by (first | (simp [put_at, put_none, fr0_at, h0]; done) | rfl), by (first | (simp [put_at, put_none, fr0_at, ha8]; done) | rfl)⟩
          · (refine aw_ops (by kernel_rfl) (fun K hK => ?_); simp (disch := first | omega | (simp only [List.length_set, List.length_append, List.length_cons, List.length_nil, iv_length, zl_length]; try omega; done)) [-getElem?_pos, -getElem?_neg, k3]; refine hK _ _ ?_; clear hK K)
            refine aw_f (by (first | (simp [eval_tmp, put_at]; done) | (simp [eval_tmp, put_at]; omega))) (by kernel_rfl) ?_
            refine aw_seq ?_
            by_cases k4 : k5 = 4
            · (refine aw_ops (by kernel_rfl) (fun K hK => ?_); simp (disch := first | omega | (simp only [List.length_set, List.length_append, List.length_cons, List.length_nil, iv_length, zl_length]; try omega; done)) [-getElem?_pos, -getElem?_neg, k4]; refine hK _ _ ?_; clear hK K)
              refine aw_t (by (first | (simp [eval_tmp, put_at]; done) | (simp [eval_tmp, put_at]; omega))) (by kernel_rfl) ?_
              refine aw_ops (by kernel_rfl) (fun K hK => ?_)
              simp (disch := first | omega | (simp only [List.length_set, List.length_append, List.length_cons, List.length_nil, iv_length, zl_length]; try omega; done)) [-getElem?_pos, -getElem?_neg, h4, hga2, ← ha8]
              refine ⟨by kernel_rfl, (rmove_ac hm2.b hb (by omega) (Nat.le_trans hm2.len (Nat.le_refl _)) hm2.hX).mono ?_⟩
              rintro _ G3 ⟨rfl, h3r, hf3⟩
              try simp (disch := first | omega | (simp only [List.length_set, List.length_append, List.length_cons, List.length_nil, iv_length, zl_length]; try omega; done)) [-getElem?_pos, -getElem?_neg]
              refine hK _ _ ?_; clear hK K
              exact ⟨by simpa [doL, k4] using hm2.r h3r hf3, by simp [put_at, doS, empty_is, k4], by simp [put_at, doE, k4], by simp [put_at, k4], by simp [put_at, k4], by (first | (simp [put_at, put_none, fr0_at, h3]; done) | rfl), by (first | (simp [put_at, put_none, fr0_at, h4]; done) | rfl), by (first | (simp [put_at, put_none, fr0_at, h5]; done) | rfl), by (first | (simp [put_at, put_none, fr0_at, h6]; done) | rfl), by (first | (simp [put_at, put_none, fr0_at, h0]; done) | rfl), by (first | (simp [put_at, put_none, fr0_at, ha8]; done) | rfl)⟩
            · (refine aw_ops (by kernel_rfl) (fun K hK => ?_); simp (disch := first | omega | (simp only [List.length_set, List.length_append, List.length_cons, List.length_nil, iv_length, zl_length]; try omega; done)) [-getElem?_pos, -getElem?_neg, k4]; refine hK _ _ ?_; clear hK K)
              refine aw_f (by (first | (simp [eval_tmp, put_at]; done) | (simp [eval_tmp, put_at]; omega))) (by kernel_rfl) ?_
              refine aw_skip ?_
              exact ⟨by simpa [doL, k0, k1, k2, k3, k4] using hm2, by simp [put_at, doS, empty_is, k0, k1, k2, k3, k4], by simp [put_at, doE, k0, k1, k2, k3, k4], by simp [put_at, k0, k1, k2, k3, k4], by simp [put_at, k0, k1, k2, k3, k4], by (first | (simp [put_at, put_none, fr0_at, h3]; done) | rfl), by (first | (simp [put_at, put_none, fr0_at, h4]; done) | rfl), by (first | (simp [put_at, put_none, fr0_at, h5]; done) | rfl), by (first | (simp [put_at, put_none, fr0_at, h6]; done) | rfl), by (first | (simp [put_at, put_none, fr0_at, h0]; done) | rfl), by (first | (simp [put_at, put_none, fr0_at, ha8]; done) | rfl)⟩
  clear h6 h0 h3 h4 h5
  rintro α G3 ⟨hm3, h10, h11, h8, h9, h3, h4, h5, h6, h0, h7⟩
  have hb3 : LB (doL L (kd.tmod 5) to ai ak s) := doL_b hb
  generalize doL L (kd.tmod 5) to ai ak s = L3 at *
  generalize doS L (kd.tmod 5) to ai = rs at *
  generalize doE L (kd.tmod 5) to ai ak = re at *
  refine aw_seq ?_
  refine aw_seq ?_
  (refine aw_ops (by kernel_rfl) (fun K hK => ?_); simp (disch := first | omega | (simp only [List.length_set, List.length_append, List.length_cons, List.length_nil, iv_length, zl_length]; try omega; done)) [-getElem?_pos, -getElem?_neg, h8, h9, h10, h11, bne_self_eq_false]; refine hK _ _ ?_; clear hK K)
  refine aw_f (by (first | (simp [eval_tmp, put_at]; done) | (simp [eval_tmp, put_at]; omega))) (by kernel_rfl) ?_
  refine aw_skip ?_
  refine aw_seq ?_
  refine aw_seq ?_
  (refine aw_ops (by kernel_rfl) (fun K hK => ?_); simp (disch := first | omega | (simp only [List.length_set, List.length_append, List.length_cons, List.length_nil, iv_length, zl_length]; try omega; done)) [-getElem?_pos, -getElem?_neg]; refine hK _ _ ?_; clear hK K)
  refine aw_cut (fun α G4 => Pr (fun j => j < H.length ∨ j = a8) G1 H.length p q 28 31 G4 L3 L3 ∧ α 3 = .pointer (some ⟨p, 0, none⟩) ∧ α 4 = .pointer (some ⟨q, 0, none⟩) ∧ α 5 = .pointer none ∧ α 6 = .int .i64 (i : Nat) ∧ α 0 = .slice (some ⟨jv, 0, none⟩) rows.length rows.length ∧ α 7 = .pointer (some ⟨a8, 0, none⟩)) ?_ ?_
  · refine aw_block ?_
    refine aw_loop (fun c α G4 => ∃ k : Nat, k + c = 10 ∧ α 12 = .int .i64 ((k : Nat) - 1 : Int) ∧ Pr (fun j => j < H.length ∨ j = a8) G1 H.length p q 28 31 G4 L3 L3 ∧ α 3 = .pointer (some ⟨p, 0, none⟩) ∧ α 4 = .pointer (some ⟨q, 0, none⟩) ∧ α 5 = .pointer none ∧ α 6 = .int .i64 (i : Nat) ∧ α 0 = .slice (some ⟨jv, 0, none⟩) rows.length rows.length ∧ α 7 = .pointer (some ⟨a8, 0, none⟩)) 10 ?_ ?_
    · exact ⟨0, by omega, by (first | (simp [put_at, put_none, fr0_at]; done) | rfl), hm3, by (first | (simp [put_at, put_none, fr0_at, h3]; done) | rfl), by (first | (simp [put_at, put_none, fr0_at, h4]; done) | rfl), by (first | (simp [put_at, put_none, fr0_at, h5]; done) | rfl), by (first | (simp [put_at, put_none, fr0_at, h6]; done) | rfl), by (first | (simp [put_at, put_none, fr0_at, h0]; done) | rfl), by (first | (simp [put_at, put_none, fr0_at, h7]; done) | rfl)⟩
    clear hm3 h10 h11 h8 h9 h3 h4 h5 h6 h0 h7
    rintro c2 α G4 ⟨k, hkc, h12, hm4, h3, h4, h5, h6, h0, h7⟩
    refine aw_seq ?_
    refine aw_seq ?_
    by_cases hk : k < 10
    case neg =>
      (refine aw_ops (by kernel_rfl) (fun K hK => ?_); simp (disch := first | omega | (simp only [List.length_set, List.length_append, List.length_cons, List.length_nil, iv_length, zl_length]; try omega; done)) [-getElem?_pos, -getElem?_neg, h12]; refine hK _ _ ?_; clear hK K)
      refine aw_f (by (first | (simp [eval_tmp, put_at]; done) | (simp [eval_tmp, put_at]; omega))) (by kernel_rfl) ?_
      refine aw_exit ?_
      exact ⟨hm4, by (first | (simp [put_at, put_none, fr0_at, h3]; done) | rfl), by (first | (simp [put_at, put_none, fr0_at, h4]; done) | rfl), by (first | (simp [put_at, put_none, fr0_at, h5]; done) | rfl), by (first | (simp [put_at, put_none, fr0_at, h6]; done) | rfl), by (first | (simp [put_at, put_none, fr0_at, h0]; done) | rfl), by (first | (simp [put_at, put_none, fr0_at, h7]; done) | rfl)⟩
    (refine aw_ops (by kernel_rfl) (fun K hK => ?_); simp (disch := first | omega | (simp only [List.length_set, List.length_append, List.length_cons, List.length_nil, iv_length, zl_length]; try omega; done)) [-getElem?_pos, -getElem?_neg, h12]; refine hK _ _ ?_; clear hK K)
    refine aw_t (by (first | (simp [eval_tmp, put_at]; done) | (simp [eval_tmp, put_at]; omega))) (by kernel_rfl) ?_
    refine aw_skip ?_
    refine aw_seq ?_
    refine aw_block ?_
    obtain ⟨v0, hmail⟩ := mail_fix (γ := γ) (nro := H.length) (to := ((k : Nat) - 1 : Int)) hm4.a hb3 hm4.len
    refine aw_seq ?_
    by_cases hin : 1 ≤ k ∧ k < 9
    · obtain ⟨kk, hkk⟩ : ∃ kk : Nat, ((k : Nat) - 1 : Int) = (kk : Nat) := ⟨k - 1, by omega⟩
      rw [hkk] at h12 hmail
      have hk8 : kk < 8 := by omega
      have hml : mailL L3 (kk : Nat) = L3 kk := by simp [mailL, memB_nat hk8]
      rw [hml] at hmail
      have hlk := hb3 kk hk8
      obtain ⟨Ms, hq4⟩ := hm4.b
      have hcells := hq4.cells
      have hql := hget_lt hcells
      have hck : ((List.range 8).map Ms)[kk]? = some (Ms kk) := by rw [List.getElem?_map, List.getElem?_range hk8]; rfl
      obtain ⟨cs, hcs⟩ : ∃ cs, cs = (List.range 8).map Ms := ⟨_, rfl⟩
      rw [← hcs] at hck hcells
      have hcl : cs.length = 8 := by rw [hcs]; simp
      have hsk := (hq4.sl kk hk8).part
      have hnk := hsk.nt
      (refine aw_ops (by kernel_rfl) (fun K hK => ?_); simp (disch := first | omega | (simp only [List.length_set, List.length_append, List.length_cons, List.length_nil, iv_length, zl_length]; try omega; done)) [-getElem?_pos, -getElem?_neg, h12, hk8]; refine hK _ _ ?_; clear hK K)
      refine aw_f (by (first | (simp [eval_tmp, put_at, hk8]; done) | (simp [eval_tmp, put_at, hk8]; omega))) (by kernel_rfl) ?_
      refine aw_seq ?_
      obtain ⟨Φ, e0, e1, e2, eS⟩ : ∃ Φ : Nat → AH → Prop, (∀ G, Φ 0 G ↔ G = G4) ∧ (∀ G, Φ 1 G ↔ (Part G G.length v0 (ss (L3 kk)) ∧ G4.length ≤ G.length ∧ ∀ j, j < G4.length → hget G j = hget G4 j)) ∧ (∀ G, Φ 2 G ↔ (Part G G.length v0 (ss (L3 kk)) ∧ G4.length ≤ G.length ∧ ∀ j, j < G4.length → hget G j = hget G4 j)) ∧
          (∀ s G, Φ s G → G4.length ≤ G.length ∧ ∀ j, j < G4.length → hget G j = hget G4 j) :=
        ⟨fun s G => match s with
          | 0 => G = G4
          | _ => Part G G.length v0 (ss (L3 kk)) ∧ G4.length ≤ G.length ∧ ∀ j, j < G4.length → hget G j = hget G4 j, fun _ => Iff.rfl, fun _ => Iff.rfl, fun _ => Iff.rfl, fun s G h => by
            match s, h with
            | 0, h => cases h; exact ⟨Nat.le_refl _, fun _ _ => rfl⟩
            | s + 1, h => exact h.2⟩
      refine aw_chain (fun j => j == q) Φ (by kernel_rfl) (by kernel_rfl) (by kernel_rfl) (fun s G h j hj => by
        have e : j = q := by simpa using hj
        rw [e]; exact (eS s G h).2 q hql) ((e0 _).2 rfl) (fun K hK => ?_)
      simp (disch := first | omega | (simp only [List.length_set, List.length_append, List.length_cons, List.length_nil, iv_length, zl_length]; try omega; done)) [-getElem?_pos, -getElem?_neg, h3, h4, h12, hcells, hck, hcl, CL_nil, CL_cons, CLc_val, CLc_skip, memS, inS, inSp, isCallF, effF]
      refine CLc_call (v := v0) (by kernel_rfl) (fun G hG => ?_) ?_
      · obtain rfl := (e0 _).1 hG
        exact hmail.mono fun v' G' h => ⟨h.1, (e1 _).2 (by rw [← h.1]; exact h.2)⟩
      try simp (disch := first | omega | (simp only [List.length_set, List.length_append, List.length_cons, List.length_nil, iv_length, zl_length]; try omega; done)) [-getElem?_pos, -getElem?_neg, h3, h4, h12, hcells, hck, hcl, CL_nil, CL_cons, CLc_val, CLc_skip, memS, inS, inSp, isCallF, effF]
      refine CLc_call (v := .bool true) (by kernel_rfl) (fun G hG => ?_) ?_
      · obtain ⟨g1, g2, g3⟩ := (e1 _).1 hG
        exact (same_ac g1 (hsk.keep (Nat.le_refl _) g3) (by omega)).mono fun v' G' h => ⟨h.1, by rw [h.2]; exact (e2 _).2 ⟨g1, g2, g3⟩⟩
      try simp (disch := first | omega | (simp only [List.length_set, List.length_append, List.length_cons, List.length_nil, iv_length, zl_length]; try omega; done)) [-getElem?_pos, -getElem?_neg, h3, h4, h12, hcells, hck, hcl, CL_nil, CL_cons, CLc_val, CLc_skip, memS, inS, inSp, isCallF, effF]
      intro G5 hG5
      obtain ⟨g2, g3⟩ := eS _ _ hG5
      refine hK _ _ ?_; clear hK K
      refine aw_f (by (first | (simp [eval_tmp, put_at]; done) | (simp [eval_tmp, put_at]; omega))) (by kernel_rfl) ?_
      refine aw_skip ?_
      (refine aw_ops (by kernel_rfl) (fun K hK => ?_); simp (disch := first | omega | (simp only [List.length_set, List.length_append, List.length_cons, List.length_nil, iv_length, zl_length]; try omega; done)) [-getElem?_pos, -getElem?_neg, h12]; refine hK _ _ ?_; clear hK K)
      exact ⟨c2 - 1, by omega, k + 1, by omega, by simp [put_at]; omega, hm4.ext g2 g3, by (first | (simp [put_at, put_none, fr0_at, h3]; done) | rfl), by (first | (simp [put_at, put_none, fr0_at, h4]; done) | rfl), by (first | (simp [put_at, put_none, fr0_at, h5]; done) | rfl), by (first | (simp [put_at, put_none, fr0_at, h6]; done) | rfl), by (first | (simp [put_at, put_none, fr0_at, h0]; done) | rfl), by (first | (simp [put_at, put_none, fr0_at, h7]; done) | rfl)⟩
    · have hmn : memB ((k : Nat) - 1 : Int) = false := by
        cases hmm : memB ((k : Nat) - 1 : Int) with
        | false => rfl
        | true => have := memB_iff.1 hmm; omega
      have hml : mailL L3 ((k : Nat) - 1 : Int) = [] := by simp [mailL, hmn]
      rw [hml] at hmail
      have hko : k = 0 ∨ k = 9 := by omega
      refine aw_cut (fun α G5 => G5 = G4 ∧ α 113 = .bool true ∧ α 12 = .int .i64 ((k : Nat) - 1 : Int) ∧ α 3 = .pointer (some ⟨p, 0, none⟩) ∧ α 4 = .pointer (some ⟨q, 0, none⟩) ∧ α 5 = .pointer none ∧ α 6 = .int .i64 (i : Nat) ∧ α 0 = .slice (some ⟨jv, 0, none⟩) rows.length rows.length ∧ α 7 = .pointer (some ⟨a8, 0, none⟩)) ?_ ?_
      · rcases hko with rfl | rfl
        · (refine aw_ops (by kernel_rfl) (fun K hK => ?_); simp (disch := first | omega | (simp only [List.length_set, List.length_append, List.length_cons, List.length_nil, iv_length, zl_length]; try omega; done)) [-getElem?_pos, -getElem?_neg, h12]; refine hK _ _ ?_; clear hK K)
          exact ⟨rfl, by (first | (simp [put_at, put_none, fr0_at]; done) | rfl), by (first | (simp [put_at, put_none, fr0_at, h12]; done) | rfl), by (first | (simp [put_at, put_none, fr0_at, h3]; done) | rfl), by (first | (simp [put_at, put_none, fr0_at, h4]; done) | rfl), by (first | (simp [put_at, put_none, fr0_at, h5]; done) | rfl), by (first | (simp [put_at, put_none, fr0_at, h6]; done) | rfl), by (first | (simp [put_at, put_none, fr0_at, h0]; done) | rfl), by (first | (simp [put_at, put_none, fr0_at, h7]; done) | rfl)⟩
        · (refine aw_ops (by kernel_rfl) (fun K hK => ?_); simp (disch := first | omega | (simp only [List.length_set, List.length_append, List.length_cons, List.length_nil, iv_length, zl_length]; try omega; done)) [-getElem?_pos, -getElem?_neg, h12]; refine hK _ _ ?_; clear hK K)
          exact ⟨rfl, by (first | (simp [put_at, put_none, fr0_at]; done) | rfl), by (first | (simp [put_at, put_none, fr0_at, h12]; done) | rfl), by (first | (simp [put_at, put_none, fr0_at, h3]; done) | rfl), by (first | (simp [put_at, put_none, fr0_at, h4]; done) | rfl), by (first | (simp [put_at, put_none, fr0_at, h5]; done) | rfl), by (first | (simp [put_at, put_none, fr0_at, h6]; done) | rfl), by (first | (simp [put_at, put_none, fr0_at, h0]; done) | rfl), by (first | (simp [put_at, put_none, fr0_at, h7]; done) | rfl)⟩
      clear h12 h3 h4 h5 h6 h0 h7
      rintro α G5 ⟨rfl, h113, h12, h3, h4, h5, h6, h0, h7⟩
      refine aw_t (by (first | (simp [eval_tmp, put_at, h113]; done) | (simp [eval_tmp, put_at, h113]; omega))) (by kernel_rfl) ?_
      refine aw_seq ?_
      refine aw_ops (by kernel_rfl) (fun K hK => ?_)
      simp (disch := first | omega | (simp only [List.length_set, List.length_append, List.length_cons, List.length_nil, iv_length, zl_length]; try omega; done)) [-getElem?_pos, -getElem?_neg, h3, h12, -xlen]
      refine ⟨by kernel_rfl, hmail.mono ?_⟩
      rintro v5 G6 ⟨e5, g1, g2, g3⟩
      have hl := g1.len (P := Try.prog) (t := 25) (e := 9) (by simp)
      have hnt := g1.nt
      rw [ss_len, List.length_nil] at hl
      try simp (disch := first | omega | (simp only [List.length_set, List.length_append, List.length_cons, List.length_nil, iv_length, zl_length]; try omega; done)) [-getElem?_pos, -getElem?_neg, -xlen, hl]
      refine hK _ _ ?_; clear hK K
      refine aw_f (by (first | (simp [eval_tmp, put_at]; done) | (simp [eval_tmp, put_at]; omega))) (by kernel_rfl) ?_
      refine aw_skip ?_
      (refine aw_ops (by kernel_rfl) (fun K hK => ?_); simp (disch := first | omega | (simp only [List.length_set, List.length_append, List.length_cons, List.length_nil, iv_length, zl_length]; try omega; done)) [-getElem?_pos, -getElem?_neg, h12]; refine hK _ _ ?_; clear hK K)
      exact ⟨c2 - 1, by omega, k + 1, by omega, by simp [put_at], hm4.ext g2 g3, by (first | (simp [put_at, put_none, fr0_at, h3]; done) | rfl), by (first | (simp [put_at, put_none, fr0_at, h4]; done) | rfl), by (first | (simp [put_at, put_none, fr0_at, h5]; done) | rfl), by (first | (simp [put_at, put_none, fr0_at, h6]; done) | rfl), by (first | (simp [put_at, put_none, fr0_at, h0]; done) | rfl), by (first | (simp [put_at, put_none, fr0_at, h7]; done) | rfl)⟩
  · clear hm3 h10 h11 h8 h9 h3 h4 h5 h6 h0 h7
    rintro α G4 ⟨hm4, h3, h4, h5, h6, h0, h7⟩
    have hga4 : hget G4 a8 = _ := ((hm4.st a8 (.inr rfl)).2.2.2).trans hga8
    refine aw_seq ?_
    refine aw_ops (by kernel_rfl) (fun K hK => ?_)
    simp (disch := first | omega | (simp only [List.length_set, List.length_append, List.length_cons, List.length_nil, iv_length, zl_length]; try omega; done)) [-getElem?_pos, -getElem?_neg, h5, h7, hga4]
    refine ⟨by kernel_rfl, (do_nil_ac hm4.len).mono ?_⟩
    rintro _ G5 ⟨rfl, hl5, hk5'⟩
    try simp (disch := first | omega | (simp only [List.length_set, List.length_append, List.length_cons, List.length_nil, iv_length, zl_length]; try omega; done)) [-getElem?_pos, -getElem?_neg]
    refine hK _ _ ?_; clear hK K
    have hm5 := hm4.ext hl5 hk5'
    have hga5 : hget G5 a8 = _ := ((hm5.st a8 (.inr rfl)).2.2.2).trans hga8
    refine aw_seq ?_
    generalize hkk : kd.tmod 5 = k5 at *
    obtain ⟨e, hnil⟩ : ∃ e, nilE k5 = e := ⟨_, rfl⟩
    have hnl : (k5 = 0 ∧ e = 1) ∨ (0 < k5 ∧ e = 22) ∨ k5 < 0 := by
      rw [← hnil]
      unfold nilE
      by_cases h0 : k5 = 0
      · exact .inl ⟨h0, by rw [if_pos h0]⟩
      · by_cases h1 : 0 < k5
        · exact .inr (.inl ⟨h1, by rw [if_neg h0, if_pos (by omega)]⟩)
        · exact .inr (.inr (by omega))
    rcases hnl with ⟨rfl, rfl⟩ | ⟨hpos, rfl⟩ | hneg
    · skip
      refine aw_ops (by kernel_rfl) (fun K hK => ?_)
      simp (disch := first | omega | (simp only [List.length_set, List.length_append, List.length_cons, List.length_nil, iv_length, zl_length]; try omega; done)) [-getElem?_pos, -getElem?_neg, h5, h7, hga5, -tmodP, hkk, hnil, empty_is, bne_self_eq_false, -xlen]
      refine ⟨by kernel_rfl, mail_nil_ac.mono ?_⟩
      rintro _ G6 ⟨rfl, e6⟩; subst G6
      try simp (disch := first | omega | (simp only [List.length_set, List.length_append, List.length_cons, List.length_nil, iv_length, zl_length]; try omega; done)) [-getElem?_pos, -getElem?_neg]
      refine hK _ _ ?_; clear hK K
      refine aw_f (by (first | (simp [eval_tmp, put_at]; done) | (simp [eval_tmp, put_at]; omega))) (by kernel_rfl) ?_
      refine aw_skip ?_
      (refine aw_ops (by kernel_rfl) (fun K hK => ?_); simp (disch := first | omega | (simp only [List.length_set, List.length_append, List.length_cons, List.length_nil, iv_length, zl_length]; try omega; done)) [-getElem?_pos, -getElem?_neg, h6]; refine hK _ _ ?_; clear hK K)
      exact ⟨c - 1, by omega, i + 1, by omega, by omega, by (first | (simp [put_at, put_none, fr0_at]; done) | rfl), by (first | (simp [put_at, put_none, fr0_at, h0]; done) | rfl), by (first | (simp [put_at, put_none, fr0_at, h3]; done) | rfl), by (first | (simp [put_at, put_none, fr0_at, h4]; done) | rfl), by (first | (simp [put_at, put_none, fr0_at, h5]; done) | rfl), L3, hb3, back hm5⟩
    · have hne : ¬ k5 = 0 := by omega
      refine aw_ops (by kernel_rfl) (fun K hK => ?_)
      simp (disch := first | omega | (simp only [List.length_set, List.length_append, List.length_cons, List.length_nil, iv_length, zl_length]; try omega; done)) [-getElem?_pos, -getElem?_neg, h5, h7, hga5, -tmodP, hkk, hnil, empty_is, bne_self_eq_false, hpos, hne, -xlen]
      refine ⟨by kernel_rfl, mail_nil_ac.mono ?_⟩
      rintro _ G6 ⟨rfl, e6⟩; subst G6
      try simp (disch := first | omega | (simp only [List.length_set, List.length_append, List.length_cons, List.length_nil, iv_length, zl_length]; try omega; done)) [-getElem?_pos, -getElem?_neg]
      refine hK _ _ ?_; clear hK K
      refine aw_f (by (first | (simp [eval_tmp, put_at]; done) | (simp [eval_tmp, put_at]; omega))) (by kernel_rfl) ?_
      refine aw_skip ?_
      (refine aw_ops (by kernel_rfl) (fun K hK => ?_); simp (disch := first | omega | (simp only [List.length_set, List.length_append, List.length_cons, List.length_nil, iv_length, zl_length]; try omega; done)) [-getElem?_pos, -getElem?_neg, h6]; refine hK _ _ ?_; clear hK K)
      exact ⟨c - 1, by omega, i + 1, by omega, by omega, by (first | (simp [put_at, put_none, fr0_at]; done) | rfl), by (first | (simp [put_at, put_none, fr0_at, h0]; done) | rfl), by (first | (simp [put_at, put_none, fr0_at, h3]; done) | rfl), by (first | (simp [put_at, put_none, fr0_at, h4]; done) | rfl), by (first | (simp [put_at, put_none, fr0_at, h5]; done) | rfl), L3, hb3, back hm5⟩
    · have hne : ¬ k5 = 0 := by omega
      have hnp : ¬ 0 < k5 := by omega
      refine aw_ops (by kernel_rfl) (fun K hK => ?_)
      simp (disch := first | omega | (simp only [List.length_set, List.length_append, List.length_cons, List.length_nil, iv_length, zl_length]; try omega; done)) [-getElem?_pos, -getElem?_neg, h5, h7, hga5, -tmodP, hkk, hnil, empty_is, bne_self_eq_false, hneg, hne, hnp, -xlen]
      refine ⟨by kernel_rfl, mail_nil_ac.mono ?_⟩
      rintro _ G6 ⟨rfl, e6⟩; subst G6
      try simp (disch := first | omega | (simp only [List.length_set, List.length_append, List.length_cons, List.length_nil, iv_length, zl_length]; try omega; done)) [-getElem?_pos, -getElem?_neg]
      refine hK _ _ ?_; clear hK K
      refine aw_f (by (first | (simp [eval_tmp, put_at]; done) | (simp [eval_tmp, put_at]; omega))) (by kernel_rfl) ?_
      refine aw_skip ?_
      (refine aw_ops (by kernel_rfl) (fun K hK => ?_); simp (disch := first | omega | (simp only [List.length_set, List.length_append, List.length_cons, List.length_nil, iv_length, zl_length]; try omega; done)) [-getElem?_pos, -getElem?_neg, h6]; refine hK _ _ ?_; clear hK K)
      exact ⟨c - 1, by omega, i + 1, by omega, by omega, by (first | (simp [put_at, put_none, fr0_at]; done) | rfl), by (first | (simp [put_at, put_none, fr0_at, h0]; done) | rfl), by (first | (simp [put_at, put_none, fr0_at, h3]; done) | rfl), by (first | (simp [put_at, put_none, fr0_at, h4]; done) | rfl), by (first | (simp [put_at, put_none, fr0_at, h5]; done) | rfl), L3, hb3, back hm5⟩
end Go.Proofs.Yteldoimjachbbaa
