/-
  The law DiskPlays, walked.
-/
import Derived.Test.YtadbgdhbamdiaaaDo
namespace Go.Proofs.Ytadbgdhbamdiaaa
open Go Go.RowKit
set_option linter.unusedVariables false
set_option linter.unusedSimpArgs false
set_option maxRecDepth 100000
set_option maxHeartbeats 8000000
theorem write_few (D : DM) (at_ : Int) (t : ByteArray) : (D.write at_ t).uns.length ≤ D.uns.length + 1 := by
  unfold DM.write
  split
  · rw [burn_uns]; simp [DM.put]
  · omega
theorem sync_few (D : DM) : D.sync.uns.length ≤ D.uns.length := by
  unfold DM.sync
  split
  · omega
  · split
    · simp
    · rw [burn_uns]; omega
attribute [local irreducible] aD1 aD2 newD datS
attribute [local simp] wb_bool wb_undef XL_nil XL_cons XLc_val XLc_call step1_eq stepW_t stepW_f stepC_n stepC_s stepX_s xop_eq xopR_s xopR_n wantedA_eq wantedG_n wantedG_s plain1_int plain1_bool plain1_string bits_i64 bits_u64 bits_u32 bits_u16 bits_u8 xeqA xarr allK_iv num_iv calleeOf xread xeff xbin xint xnil xun xstr xload xconv xpart xfield xfieldAddr xindexAddr xindex bnd asInt? xslice xlen xmin xmax xbuild xfill xappend xcopy xcells eval_tmp eval_const put_at put_none fr0_at cells_agg cells_int cells_bool cells_string cells_ptr cells_slice notTuple tab iv_all hget_app hget_app0 hget_cons0 hget_cons set_app set_app0 setR setR_one QL_nil QL_cons QLc_val stepQ_t stepQ_f stepQC_n stepQC_s stepQX_s SL_nil SL_cons SLc_val stepS_t stepS_f ltT ltF leT leF eqT eqF ltTn ltFn leTn leFn eqTn eqFn beqT beqF bneT bneF wi64 wu64 wu32 wu16 wu8 tmodP tdivP hgetL hgetNe hgetEq setL nums_def nums_len Nat.succ_le_of_lt List.getElem?_cons_zero List.getElem?_cons_succ Option.getD_some Int.toNat_add Int.toNat_mul agB agI agS agP agL agA okB okI okS okP okSl okA
theorem plays_law {H : AH} {γ : Nat → Option Nat} (b : Int) {v : Value} {rows : List (List FD)} (hv : SlR 6 H v rows) (hok : RowsOk rows) (hlen : rows.length ≤ maxLen) :
    AC Try.prog H.length γ 3 #[.int .i64 b, v] H (fun v' _ => v' = .bool true) := by
  simp only [maxLen] at hlen
  have hno : notTuple v = true := by rcases hv with ⟨a, rfl, _⟩ | ⟨j, k, rfl, _⟩ <;> rfl
  refine ac_of_aw Try.func3 rfl Try.ntmps3 Try.results3 (by simp) ?_
  refine aw_seq ?_
  (refine aw_ops (by kernel_rfl) (fun K hK => ?_); simp (disch := first | omega | (simp only [List.length_set, List.length_append, List.length_cons, List.length_nil, iv_length, zl_length]; try omega; done)) [-getElem?_pos, -getElem?_neg]; refine hK _ _ ?_; clear hK K)
  refine aw_seq ?_
  refine aw_seq ?_
  refine aw_ops (by kernel_rfl) (fun K hK => ?_)
  simp (disch := first | omega | (simp only [List.length_set, List.length_append, List.length_cons, List.length_nil, iv_length, zl_length]; try omega; done)) [-getElem?_pos, -getElem?_neg]
  refine ⟨by kernel_rfl, ac_of_vc (by simp [pv_iv, pv_int, pv_bool, pv_string, pv_tup2, pv_tup3, iv_plain, p2_int, p2_bool, p2_string]) alive_vc ?_⟩
  simp (disch := first | omega | (simp only [List.length_set, List.length_append, List.length_cons, List.length_nil, iv_length, zl_length]; try omega; done)) [-getElem?_pos, -getElem?_neg]
  refine hK _ _ ?_; clear hK K
  refine aw_f (by (first | (simp [eval_tmp, put_at]; done) | (simp [eval_tmp, put_at]; omega))) (by kernel_rfl) ?_
  refine aw_skip ?_
  refine aw_seq ?_
  refine aw_cut (fun α G => (∃ b' : Int, α 0 = .int .i64 b') ∧ α 1 = v ∧ G = H) ?_ ?_
  · refine aw_seq ?_
    by_cases hc : b > 10
    · (refine aw_ops (by kernel_rfl) (fun K hK => ?_); simp (disch := first | omega | (simp only [List.length_set, List.length_append, List.length_cons, List.length_nil, iv_length, zl_length]; try omega; done)) [-getElem?_pos, -getElem?_neg, hc]; refine hK _ _ ?_; clear hK K)
      refine aw_t (by (first | (simp [eval_tmp, put_at, hc]; done) | (simp [eval_tmp, put_at, hc]; omega))) (by kernel_rfl) ?_
      (refine aw_ops (by kernel_rfl) (fun K hK => ?_); simp (disch := first | omega | (simp only [List.length_set, List.length_append, List.length_cons, List.length_nil, iv_length, zl_length]; try omega; done)) [-getElem?_pos, -getElem?_neg]; refine hK _ _ ?_; clear hK K)
      exact ⟨⟨10, by (first | (simp [put_at, put_none, fr0_at]; done) | rfl)⟩, by (first | (simp [put_at, put_none, fr0_at]; done) | rfl), rfl⟩
    · (refine aw_ops (by kernel_rfl) (fun K hK => ?_); simp (disch := first | omega | (simp only [List.length_set, List.length_append, List.length_cons, List.length_nil, iv_length, zl_length]; try omega; done)) [-getElem?_pos, -getElem?_neg, hc]; refine hK _ _ ?_; clear hK K)
      refine aw_f (by (first | (simp [eval_tmp, put_at, hc]; done) | (simp [eval_tmp, put_at, hc]; omega))) (by kernel_rfl) ?_
      refine aw_skip ?_
      exact ⟨⟨b, by (first | (simp [put_at, put_none, fr0_at]; done) | rfl)⟩, by (first | (simp [put_at, put_none, fr0_at]; done) | rfl), rfl⟩
  rintro α G ⟨⟨b', h0⟩, h1, rfl⟩
  refine aw_seq ?_
  refine aw_ops (by kernel_rfl) (fun K hK => ?_)
  simp (disch := first | omega | (simp only [List.length_set, List.length_append, List.length_cons, List.length_nil, iv_length, zl_length]; try omega; done)) [-getElem?_pos, -getElem?_neg, h0]
  refine ⟨by kernel_rfl, (new_ac b' (Nat.le_refl _)).mono ?_⟩
  rintro v1 H1 ⟨rfl, hd1, L1, rfl⟩
  try simp (disch := first | omega | (simp only [List.length_set, List.length_append, List.length_cons, List.length_nil, iv_length, zl_length]; try omega; done)) [-getElem?_pos, -getElem?_neg, h0]
  refine ⟨by kernel_rfl, (rnew_ac b' (by simp)).mono ?_⟩
  rintro v2 H2 ⟨rfl, F2, hr2, hf2⟩
  try simp (disch := first | omega | (simp only [List.length_set, List.length_append, List.length_cons, List.length_nil, iv_length, zl_length]; try omega; done)) [-getElem?_pos, -getElem?_neg]
  refine hK _ _ ?_; clear hK K
  have htwo : Two (fun j => decide (j < G.length)) G G.length (G.length + 2) (G ++ L1).length H2 [G.length + 2, G.length, G.length + 1] F2 (newD b') (newD b') := by
    have hle := hf2.len
    have hlt1 := hd1.lt
    refine ⟨hd1.low (fun j hj => hf2.out j (hlt1 j hj) (by simp)), hr2, fun j hj => ?_, fun j hj => ?_, fun j hj hj2 => ?_, fun j hs => ?_, ?_⟩
    · simp only [List.mem_cons, List.not_mem_nil, or_false] at hj; omega
    · rcases hf2.new j hj with h | h
      · cases h
      · simp at h; omega
    · rcases hf2.new j hj2 with h | h
      · cases h
      · have := hlt1 j hj; omega
    · have hs : j < G.length := by simpa using hs
      refine ⟨by simp at hle; omega, fun hm => ?_, fun hm => ?_, by rw [hf2.out j (by simp; omega) (by simp), hget_left hs]⟩
      · simp only [List.mem_cons, List.not_mem_nil, or_false] at hm; omega
      · rcases hf2.new j hm with h | h
        · cases h
        · simp at h; omega
    · simp at hle; omega
  have hfew0 : (newD b').uns.length = 0 := by unfold newD; rfl
  generalize newD b' = D0 at *
  have hpv : (G.length + 2 : Nat) = G.length + 2 := rfl
  generalize G.length + 2 = p at *
  generalize hq : (G ++ L1).length = q at *
  have hxl := hv.len (P := Try.prog) (t := 22) (e := 31) (by simp)
  refine aw_seq ?_
  refine aw_seq ?_
  (refine aw_ops (by kernel_rfl) (fun K hK => ?_); simp (disch := first | omega | (simp only [List.length_set, List.length_append, List.length_cons, List.length_nil, iv_length, zl_length]; try omega; done)) [-getElem?_pos, -getElem?_neg]; refine hK _ _ ?_; clear hK K)
  refine aw_block ?_
  refine aw_loop (fun c α G' => ∃ i : Nat, i + c = rows.length ∧ i ≤ 80 ∧ α 7 = .int .i64 (i : Nat) ∧ α 1 = v ∧ α 5 = .pointer (some ⟨p, 0, none⟩) ∧ α 6 = .pointer (some ⟨q, 0, none⟩) ∧
    ∃ F1 F2 D, Two (fun j => decide (j < G.length)) G G.length p q G' F1 F2 D D ∧ D.uns.length ≤ i) rows.length ?_ ?_
  · exact ⟨0, by omega, by omega, by (first | (simp [put_at, put_none, fr0_at]; done) | rfl), by (first | (simp [put_at, put_none, fr0_at, h1]; done) | rfl), by (first | (simp [put_at, put_none, fr0_at]; done) | rfl), by simp [put_at]; simpa using hq, _, _, _, htwo, by omega⟩
  clear htwo h0 h1 hd1 hr2 hf2
  rintro c α G' ⟨i, hic, hi80, h7, h1, h5, h6, F1, F3, D, htwo, hfew⟩
  refine aw_seq ?_
  refine aw_seq ?_
  by_cases hi : i < rows.length
  case neg =>
    (refine aw_ops (by kernel_rfl) (fun K hK => ?_); simp (disch := first | omega | (simp only [List.length_set, List.length_append, List.length_cons, List.length_nil, iv_length, zl_length]; try omega; done)) [-getElem?_pos, -getElem?_neg, h7, h1, -xlen, hxl, hi]; refine hK _ _ ?_; clear hK K)
    refine aw_f (by (first | (simp [eval_tmp, put_at, hi]; done) | (simp [eval_tmp, put_at, hi]; omega))) (by kernel_rfl) ?_
    refine aw_exit ?_
    refine aw_seq ?_
    refine aw_ops (by kernel_rfl) (fun K hK => ?_)
    simp (disch := first | omega | (simp only [List.length_set, List.length_append, List.length_cons, List.length_nil, iv_length, zl_length]; try omega; done)) [-getElem?_pos, -getElem?_neg]
    refine ⟨by kernel_rfl, ac_of_vc (by simp [pv_iv, pv_int, pv_bool, pv_string, pv_tup2, pv_tup3, iv_plain, p2_int, p2_bool, p2_string]) alive_vc ?_⟩
    try simp (disch := first | omega | (simp only [List.length_set, List.length_append, List.length_cons, List.length_nil, iv_length, zl_length]; try omega; done)) [-getElem?_pos, -getElem?_neg]
    refine hK _ _ ?_; clear hK K
    (refine aw_ret ?_; simp (disch := first | omega | (simp only [List.length_set, List.length_append, List.length_cons, List.length_nil, iv_length, zl_length]; try omega; done)) [-getElem?_pos, -getElem?_neg, thenQ_ret, inBlockQ_ret, RQ, resL, resV])
  by_cases hi8 : i < 80
  case neg =>
    (refine aw_ops (by kernel_rfl) (fun K hK => ?_); simp (disch := first | omega | (simp only [List.length_set, List.length_append, List.length_cons, List.length_nil, iv_length, zl_length]; try omega; done)) [-getElem?_pos, -getElem?_neg, h7, h1, -xlen, hxl, hi, hi8]; refine hK _ _ ?_; clear hK K)
    refine aw_f (by (first | (simp [eval_tmp, put_at, hi8]; done) | (simp [eval_tmp, put_at, hi8]; omega))) (by kernel_rfl) ?_
    refine aw_exit ?_
    refine aw_seq ?_
    refine aw_ops (by kernel_rfl) (fun K hK => ?_)
    simp (disch := first | omega | (simp only [List.length_set, List.length_append, List.length_cons, List.length_nil, iv_length, zl_length]; try omega; done)) [-getElem?_pos, -getElem?_neg]
    refine ⟨by kernel_rfl, ac_of_vc (by simp [pv_iv, pv_int, pv_bool, pv_string, pv_tup2, pv_tup3, iv_plain, p2_int, p2_bool, p2_string]) alive_vc ?_⟩
    try simp (disch := first | omega | (simp only [List.length_set, List.length_append, List.length_cons, List.length_nil, iv_length, zl_length]; try omega; done)) [-getElem?_pos, -getElem?_neg]
    refine hK _ _ ?_; clear hK K
    (refine aw_ret ?_; simp (disch := first | omega | (simp only [List.length_set, List.length_append, List.length_cons, List.length_nil, iv_length, zl_length]; try omega; done)) [-getElem?_pos, -getElem?_neg, thenQ_ret, inBlockQ_ret, RQ, resL, resV])
  (refine aw_ops (by kernel_rfl) (fun K hK => ?_); simp (disch := first | omega | (simp only [List.length_set, List.length_append, List.length_cons, List.length_nil, iv_length, zl_length]; try omega; done)) [-getElem?_pos, -getElem?_neg, h7, h1, -xlen, hxl, hi, hi8]; refine hK _ _ ?_; clear hK K)
  refine aw_t (by (first | (simp [eval_tmp, put_at, hi8]; done) | (simp [eval_tmp, put_at, hi8]; omega))) (by kernel_rfl) ?_
  refine aw_skip ?_
  refine aw_seq ?_
  refine aw_block ?_
  have hlow : ∀ j, j < G.length → hget G' j = hget G j := fun j hj => (htwo.st j (by simpa using hj)).2.2.2
  obtain ⟨jv, kb, kv, rfl, hjl, hkb, hkl, hrow, _, _, hkeep, bk, ba, bn, bb, bl, hby⟩ := act_at hv hok hi
  have hgk : hget G' jv = some kb := (hlow jv hjl).trans hkb
  have hnk : notTuple kv = true := by rcases hkeep with ⟨a, rfl, _⟩ | ⟨j, off, k, rfl, _⟩ <;> rfl
  have hkeep' := hkeep.keep hlow
  have hkv : ∀ j off, kv = .slice (some ⟨j, off, none⟩) (iv .u8 (aKeep rows i)).length (iv .u8 (aKeep rows i)).length → True := fun _ _ _ => trivial
  generalize aKind rows i = kd at *
  generalize aAt rows i = at_ at *
  generalize aN rows i = fn at *
  generalize aB rows i = bb0 at *
  generalize aLong rows i = lg at *
  generalize aKeep rows i = kp at *
  refine aw_seq ?_
  have hgl : G.length ≤ G'.length := htwo.len
  (refine aw_ops (by kernel_rfl) (fun K hK => ?_); simp (disch := first | omega | (simp only [List.length_set, List.length_append, List.length_cons, List.length_nil, iv_length, zl_length]; try omega; done)) [-getElem?_pos, -getElem?_neg, h7, h1, hgk, hrow, plain_nil, hgl]; refine hK _ _ ?_; clear hK K)
  have hm := htwo.more (some ⟨[.int .i64 kd, .int .i64 at_, .int .i64 fn, .int .u8 bb0, .int .i8 lg, kv], 31, none⟩)
  obtain ⟨a8, ha8⟩ : ∃ a8, a8 = G'.length := ⟨_, rfl⟩
  rw [← ha8] at hm
  have hga8 : hget (G' ++ [some ⟨[.int .i64 kd, .int .i64 at_, .int .i64 fn, .int .u8 bb0, .int .i8 lg, kv], 31, none⟩]) a8 = some ⟨[.int .i64 kd, .int .i64 at_, .int .i64 fn, .int .u8 bb0, .int .i8 lg, kv], 31, none⟩ := by
    rw [ha8, hget_app0]; rfl
  have hlowG : ∀ j, j < G.length → hget (G' ++ [some ⟨[.int .i64 kd, .int .i64 at_, .int .i64 fn, .int .u8 bb0, .int .i8 lg, kv], 31, none⟩]) j = hget G j := fun j hj => (hget_left (by omega)).trans (hlow j hj)
  generalize hG1 : G' ++ [some ⟨[.int .i64 kd, .int .i64 at_, .int .i64 fn, .int .u8 bb0, .int .i8 lg, kv], 31, none⟩] = G1 at *
  have hal : a8 < G1.length := hget_lt hga8
  refine aw_seq ?_
  (refine aw_ops (by kernel_rfl) (fun K hK => ?_); simp (disch := first | omega | (simp only [List.length_set, List.length_append, List.length_cons, List.length_nil, iv_length, zl_length]; try omega; done)) [-getElem?_pos, -getElem?_neg]; refine hK _ _ ?_; clear hK K)
  refine aw_seq ?_
  refine aw_seq ?_
  (refine aw_ops (by kernel_rfl) (fun K hK => ?_); simp (disch := first | omega | (simp only [List.length_set, List.length_append, List.length_cons, List.length_nil, iv_length, zl_length]; try omega; done)) [-getElem?_pos, -getElem?_neg, ← ha8, hga8, -tmodP]; refine hK _ _ ?_; clear hK K)
  have e5 : ∀ {x : Int}, kd.tmod 5 = x → (kd.tmod 5 == x) = true := fun h => by simp [h]
  have f5 : ∀ {x : Int}, ¬ kd.tmod 5 = x → (kd.tmod 5 == x) = false := fun h => by simp [h]
  generalize kd.tmod 5 = k5 at *
  have hlw := htwo.lo1
  refine aw_cut (fun α G2 => ∃ F1 F2 D', Two (fun j => decide (j < G.length) || j == a8) G1 G.length p q G2 F1 F2 D' D' ∧ D'.uns.length ≤ i + 1 ∧ α 9 = .bool true ∧ α 5 = .pointer (some ⟨p, 0, none⟩) ∧ α 6 = .pointer (some ⟨q, 0, none⟩) ∧ α 7 = .int .i64 (i : Nat) ∧ α 1 = .slice (some ⟨jv, 0, none⟩) rows.length rows.length) ?_ ?_
  · refine aw_block ?_
    refine aw_seq ?_
    by_cases k0 : k5 = 0
    · (refine aw_ops (by kernel_rfl) (fun K hK => ?_); simp (disch := first | omega | (simp only [List.length_set, List.length_append, List.length_cons, List.length_nil, iv_length, zl_length]; try omega; done)) [-getElem?_pos, -getElem?_neg, k0]; refine hK _ _ ?_; clear hK K)
      refine aw_t (by (first | (simp [eval_tmp, put_at]; done) | (simp [eval_tmp, put_at]; omega))) (by kernel_rfl) ?_
      refine aw_chain (fun j => decide (j < G.length) || j == a8) (fun s G' => ∃ F1 F2, Two (fun j => decide (j < G.length) || j == a8) G1 G.length p q G' F1 F2 (if s < 2 then D else D.write at_ (datS bb0 lg)) (if s < 4 then D else D.write at_ (datS bb0 lg))) (by kernel_rfl) (by kernel_rfl) (by kernel_rfl)
        (fun s G' ⟨F1, F2, h⟩ j hj => (h.st j hj).2.2.2) ⟨F1, F3, by simpa using hm⟩ (fun K hK => ?_)
      simp (disch := first | omega | (simp only [List.length_set, List.length_append, List.length_cons, List.length_nil, iv_length, zl_length]; try omega; done)) [-getElem?_pos, -getElem?_neg, h5, h6, hga8, ← ha8, CL_nil, CL_cons, CLc_val, CLc_skip, memS, inS, isCallF]
      refine CLc_call (v := .string (datS bb0 lg)) (by kernel_rfl) (fun G' ⟨F1, F2, h⟩ => (data_ac bb bl h.len).mono (fun v' G2 ⟨e, L, hL⟩ => ⟨e, F1, F2, by rw [hL]; simpa using h.push L⟩)) ?_
      try simp (disch := first | omega | (simp only [List.length_set, List.length_append, List.length_cons, List.length_nil, iv_length, zl_length]; try omega; done)) [-getElem?_pos, -getElem?_neg, h5, h6, hga8, ← ha8, CL_nil, CL_cons, CLc_val, CLc_skip, memS, inS, isCallF]
      refine CLc_call (v := .int .i64 (D.writeV at_ (datS bb0 lg))) (by kernel_rfl) (fun G' ⟨F1, F2, h⟩ => ?_) ?_
      · have h : Two (fun j => decide (j < G.length) || j == a8) G1 G.length p q G' F1 F2 D D := by simpa using h
        exact (write_ac h.dk h.lo1 (by omega) at_ _).mono (fun v' G2 ⟨e, F', hd, hf⟩ => ⟨e, F', F2, by simpa using h.l hf hd⟩)
      try simp (disch := first | omega | (simp only [List.length_set, List.length_append, List.length_cons, List.length_nil, iv_length, zl_length]; try omega; done)) [-getElem?_pos, -getElem?_neg, h5, h6, hga8, ← ha8, CL_nil, CL_cons, CLc_val, CLc_skip, memS, inS, isCallF]
      refine CLc_call (v := .string (datS bb0 lg)) (by kernel_rfl) (fun G' ⟨F1, F2, h⟩ => (data_ac bb bl h.len).mono (fun v' G2 ⟨e, L, hL⟩ => ⟨e, F1, F2, by rw [hL]; simpa using h.push L⟩)) ?_
      try simp (disch := first | omega | (simp only [List.length_set, List.length_append, List.length_cons, List.length_nil, iv_length, zl_length]; try omega; done)) [-getElem?_pos, -getElem?_neg, h5, h6, hga8, ← ha8, CL_nil, CL_cons, CLc_val, CLc_skip, memS, inS, isCallF]
      refine CLc_call (v := .int .i64 (D.writeV at_ (datS bb0 lg))) (by kernel_rfl) (fun G' ⟨F1, F2, h⟩ => ?_) ?_
      · have h : Two (fun j => decide (j < G.length) || j == a8) G1 G.length p q G' F1 F2 (D.write at_ (datS bb0 lg)) D := by simpa using h
        exact (rwrite_ac h.rk h.lo2 h.len (by omega) at_ _).mono (fun v' G2 ⟨e, F', hd, hf⟩ => ⟨e, F1, F', by simpa using h.r hf hd⟩)
      try simp (disch := first | omega | (simp only [List.length_set, List.length_append, List.length_cons, List.length_nil, iv_length, zl_length]; try omega; done)) [-getElem?_pos, -getElem?_neg, h5, h6, hga8, ← ha8, beq_self_eq_true, CL_nil, CL_cons, CLc_val, CLc_skip, memS, inS, isCallF]
      rintro G' F1 F2 h
      refine hK _ _ ?_; clear hK K
      have hwf := write_few D at_ (datS bb0 lg)
      exact ⟨F1, F2, _, by simpa using h, by omega, by (first | (simp [put_at, put_none, fr0_at]; done) | rfl), by (first | (simp [put_at, put_none, fr0_at, h5]; done) | rfl), by (first | (simp [put_at, put_none, fr0_at, h6]; done) | rfl), by (first | (simp [put_at, put_none, fr0_at, h7]; done) | rfl), by (first | (simp [put_at, put_none, fr0_at, h1]; done) | rfl)⟩
    · (refine aw_ops (by kernel_rfl) (fun K hK => ?_); simp (disch := first | omega | (simp only [List.length_set, List.length_append, List.length_cons, List.length_nil, iv_length, zl_length]; try omega; done)) [-getElem?_pos, -getElem?_neg, k0]; refine hK _ _ ?_; clear hK K)
      refine aw_f (by (first | (simp [eval_tmp, put_at]; done) | (simp [eval_tmp, put_at]; omega))) (by kernel_rfl) ?_
      refine aw_seq ?_
      by_cases k1 : k5 = 1
      · (refine aw_ops (by kernel_rfl) (fun K hK => ?_); simp (disch := first | omega | (simp only [List.length_set, List.length_append, List.length_cons, List.length_nil, iv_length, zl_length]; try omega; done)) [-getElem?_pos, -getElem?_neg, k1]; refine hK _ _ ?_; clear hK K)
        refine aw_t (by (first | (simp [eval_tmp, put_at]; done) | (simp [eval_tmp, put_at]; omega))) (by kernel_rfl) ?_
        refine aw_ops (by kernel_rfl) (fun K hK => ?_)
        simp (disch := first | omega | (simp only [List.length_set, List.length_append, List.length_cons, List.length_nil, iv_length, zl_length]; try omega; done)) [-getElem?_pos, -getElem?_neg, h5, h6]
        refine ⟨by kernel_rfl, (sync_ac hm.dk hm.lo1 hm.len).mono ?_⟩
        rintro v1 H5 ⟨rfl, F5, hd5, hf5⟩
        try simp (disch := first | omega | (simp only [List.length_set, List.length_append, List.length_cons, List.length_nil, iv_length, zl_length]; try omega; done)) [-getElem?_pos, -getElem?_neg, h5, h6]
        have hm5 := hm.l hf5 hd5
        refine ⟨by kernel_rfl, (rsync_ac hm5.rk hm5.lo2).mono ?_⟩
        rintro v2 H6 ⟨rfl, F6, hd6, hf6⟩
        try simp (disch := first | omega | (simp only [List.length_set, List.length_append, List.length_cons, List.length_nil, iv_length, zl_length]; try omega; done)) [-getElem?_pos, -getElem?_neg, h5, h6, beq_self_eq_true]
        have hm6 := hm5.r hf6 hd6
        refine hK _ _ ?_; clear hK K
        have hwf := sync_few D
        exact ⟨F5, F6, _, hm6, by omega, by (first | (simp [put_at, put_none, fr0_at]; done) | rfl), by (first | (simp [put_at, put_none, fr0_at, h5]; done) | rfl), by (first | (simp [put_at, put_none, fr0_at, h6]; done) | rfl), by (first | (simp [put_at, put_none, fr0_at, h7]; done) | rfl), by (first | (simp [put_at, put_none, fr0_at, h1]; done) | rfl)⟩
      · (refine aw_ops (by kernel_rfl) (fun K hK => ?_); simp (disch := first | omega | (simp only [List.length_set, List.length_append, List.length_cons, List.length_nil, iv_length, zl_length]; try omega; done)) [-getElem?_pos, -getElem?_neg, k1]; refine hK _ _ ?_; clear hK K)
        refine aw_f (by (first | (simp [eval_tmp, put_at]; done) | (simp [eval_tmp, put_at]; omega))) (by kernel_rfl) ?_
        refine aw_seq ?_
        by_cases k2 : k5 = 2
        · (refine aw_ops (by kernel_rfl) (fun K hK => ?_); simp (disch := first | omega | (simp only [List.length_set, List.length_append, List.length_cons, List.length_nil, iv_length, zl_length]; try omega; done)) [-getElem?_pos, -getElem?_neg, k2]; refine hK _ _ ?_; clear hK K)
          refine aw_t (by (first | (simp [eval_tmp, put_at]; done) | (simp [eval_tmp, put_at]; omega))) (by kernel_rfl) ?_
          refine aw_seq ?_
          refine aw_ops (by kernel_rfl) (fun K hK => ?_)
          simp (disch := first | omega | (simp only [List.length_set, List.length_append, List.length_cons, List.length_nil, iv_length, zl_length]; try omega; done)) [-getElem?_pos, -getElem?_neg, h5, h6, hga8, ← ha8]
          refine ⟨by kernel_rfl, (fuse_ac hm.dk (hm.lo1 p (by obtain ⟨_, s, l, U, FU, rfl, _⟩ := hm.dk; simp)) bn.2).mono ?_⟩
          rintro v1 H5 ⟨hd5, hf5⟩
          try simp (disch := first | omega | (simp only [List.length_set, List.length_append, List.length_cons, List.length_nil, iv_length, zl_length]; try omega; done)) [-getElem?_pos, -getElem?_neg, h5, h6]
          refine hK _ _ ?_; clear hK K
          have hm5 := hm.l hf5 hd5
          have hga9 : hget H5 a8 = _ := ((hm5.st a8 (by simp)).2.2.2).trans hga8
          refine aw_ops (by kernel_rfl) (fun K hK => ?_)
          simp (disch := first | omega | (simp only [List.length_set, List.length_append, List.length_cons, List.length_nil, iv_length, zl_length]; try omega; done)) [-getElem?_pos, -getElem?_neg, h5, h6, hga9, ← ha8]
          refine ⟨by kernel_rfl, (light_ac hm5.rk (hm5.lo2 q (by obtain ⟨_, f, A, B, FA, FB, rfl, _⟩ := hm5.rk; simp)) bn.2).mono ?_⟩
          rintro v2 H6 ⟨hd6, hf6⟩
          try simp (disch := first | omega | (simp only [List.length_set, List.length_append, List.length_cons, List.length_nil, iv_length, zl_length]; try omega; done)) [-getElem?_pos, -getElem?_neg, h5, h6]
          refine hK _ _ ?_; clear hK K
          have hm6 := hm5.r hf6 hd6
          exact ⟨_, _, _, hm6, by simp only; omega, by (first | (simp [put_at, put_none, fr0_at]; done) | rfl), by (first | (simp [put_at, put_none, fr0_at, h5]; done) | rfl), by (first | (simp [put_at, put_none, fr0_at, h6]; done) | rfl), by (first | (simp [put_at, put_none, fr0_at, h7]; done) | rfl), by (first | (simp [put_at, put_none, fr0_at, h1]; done) | rfl)⟩
        · (refine aw_ops (by kernel_rfl) (fun K hK => ?_); simp (disch := first | omega | (simp only [List.length_set, List.length_append, List.length_cons, List.length_nil, iv_length, zl_length]; try omega; done)) [-getElem?_pos, -getElem?_neg, k2]; refine hK _ _ ?_; clear hK K)
          refine aw_f (by (first | (simp [eval_tmp, put_at]; done) | (simp [eval_tmp, put_at]; omega))) (by kernel_rfl) ?_
          refine aw_seq ?_
          by_cases k3 : k5 = 3
          · (refine aw_ops (by kernel_rfl) (fun K hK => ?_); simp (disch := first | omega | (simp only [List.length_set, List.length_append, List.length_cons, List.length_nil, iv_length, zl_length]; try omega; done)) [-getElem?_pos, -getElem?_neg, k3]; refine hK _ _ ?_; clear hK K)
            refine aw_t (by (first | (simp [eval_tmp, put_at]; done) | (simp [eval_tmp, put_at]; omega))) (by kernel_rfl) ?_
            have hks : ∀ {G' : AH} {F1 F2 : List Nat} {D' E' : DM}, Two (fun j => decide (j < G.length) || j == a8) G1 G.length p q G' F1 F2 D' E' → SlS G' F1 kv (iv .u8 kp) ∧ SlS G' F2 kv (iv .u8 kp) := by
              intro G' F1 F2 D' E' h
              have hv' : SlV G' kv (iv .u8 kp) := hkeep.keep (fun j hj => ((h.st j (by simp [hj])).2.2.2).trans (hlowG j hj))
              rcases hkeep with ⟨a, ha, hc⟩ | ⟨jk, off, kk, he, hg, _⟩
              · exact ⟨fun G2 _ => .inl ⟨a, ha, hc⟩, fun G2 _ => .inl ⟨a, ha, hc⟩⟩
              · have hjk := hget_lt hg
                have hs := h.st jk (by simp [hjk])
                exact ⟨hv'.stable (fun j off k e => by rw [he] at e; cases e; exact hs.2.1), hv'.stable (fun j off k e => by rw [he] at e; cases e; exact hs.2.2.1)⟩
            refine aw_seq ?_
            refine aw_ops (by kernel_rfl) (fun K hK => ?_)
            simp (disch := first | omega | (simp only [List.length_set, List.length_append, List.length_cons, List.length_nil, iv_length, zl_length]; try omega; done)) [-getElem?_pos, -getElem?_neg, h5, h6, hga8, ← ha8]
            refine ⟨by kernel_rfl, (crash_ac hm.dk hm.lo1 hm.len (hks hm).1 hby).mono ?_⟩
            rintro v1 H5 ⟨F5, hd5, hf5⟩
            try simp (disch := first | omega | (simp only [List.length_set, List.length_append, List.length_cons, List.length_nil, iv_length, zl_length]; try omega; done)) [-getElem?_pos, -getElem?_neg, h5, h6]
            refine hK _ _ ?_; clear hK K
            have hm5 := hm.l hf5 hd5
            have hga9 : hget H5 a8 = _ := ((hm5.st a8 (by simp)).2.2.2).trans hga8
            refine aw_ops (by kernel_rfl) (fun K hK => ?_)
            simp (disch := first | omega | (simp only [List.length_set, List.length_append, List.length_cons, List.length_nil, iv_length, zl_length]; try omega; done)) [-getElem?_pos, -getElem?_neg, h5, h6, hga9, ← ha8]
            refine ⟨by kernel_rfl, (rcrash_ac hm5.rk hm5.lo2 (hks hm5).2 hby).mono ?_⟩
            rintro v2 H6 ⟨F6, hd6, hf6⟩
            try simp (disch := first | omega | (simp only [List.length_set, List.length_append, List.length_cons, List.length_nil, iv_length, zl_length]; try omega; done)) [-getElem?_pos, -getElem?_neg, h5, h6]
            refine hK _ _ ?_; clear hK K
            have hm6 := hm5.r hf6 hd6
            exact ⟨_, _, _, hm6, by simp [DM.crash], by (first | (simp [put_at, put_none, fr0_at]; done) | rfl), by (first | (simp [put_at, put_none, fr0_at, h5]; done) | rfl), by (first | (simp [put_at, put_none, fr0_at, h6]; done) | rfl), by (first | (simp [put_at, put_none, fr0_at, h7]; done) | rfl), by (first | (simp [put_at, put_none, fr0_at, h1]; done) | rfl)⟩
          · (refine aw_ops (by kernel_rfl) (fun K hK => ?_); simp (disch := first | omega | (simp only [List.length_set, List.length_append, List.length_cons, List.length_nil, iv_length, zl_length]; try omega; done)) [-getElem?_pos, -getElem?_neg, k3]; refine hK _ _ ?_; clear hK K)
            refine aw_f (by (first | (simp [eval_tmp, put_at]; done) | (simp [eval_tmp, put_at]; omega))) (by kernel_rfl) ?_
            refine aw_skip ?_
            exact ⟨_, _, _, hm, by omega, by (first | (simp [put_at, put_none, fr0_at]; done) | rfl), by (first | (simp [put_at, put_none, fr0_at, h5]; done) | rfl), by (first | (simp [put_at, put_none, fr0_at, h6]; done) | rfl), by (first | (simp [put_at, put_none, fr0_at, h7]; done) | rfl), by (first | (simp [put_at, put_none, fr0_at, h1]; done) | rfl)⟩
  · clear h5 h6 h7 h1
    rintro α G2 ⟨F1, F2, D', hm2, hfew2, h9, h5, h6, h7, h1⟩
    have hde : ∀ L : AH, AC Try.prog (G2 ++ L).length γ 19 #[.pointer (some ⟨p, 0, none⟩)] (G2 ++ L) (fun v' _ => v' = .bool D'.dead) := fun L => (dead_ac (hm2.push L).dk).mono fun _ _ h => h.1
    have hbl : ∀ L : AH, AC Try.prog (G2 ++ L).length γ 20 #[.pointer (some ⟨p, 0, none⟩)] (G2 ++ L) (fun v' _ => v' = .int .i64 D'.firm.length) := fun L => (blocks_ac (hm2.push L).dk).mono fun _ _ h => h.1
    have ho2 := hm2.dk.1
    obtain ⟨f2, A2, B2, FA2, FB2, hF2, hr2⟩ := hm2.rk.2
    have hq2 := hr2.hq
    have hf2 := hr2.hf
    have hm3 := hm2.less (S' := fun j => decide (j < G.length)) (HL' := G) (fun j hj => by
      have hj' : j < G.length := by simpa using hj
      exact ⟨by simp [hj'], hlowG j hj'⟩)
    refine aw_seq ?_
    refine aw_seq ?_
    (refine aw_plan [] [] [0, 1, 2, 3, 4, 5, 6, 7, 8, 9, 10, 11, 12, 13, 14, 15, 16, 17, 18, 19, 20] 21 0 (by kernel_rfl) (by kernel_rfl) (by kernel_rfl) (fun K hK => ?_)); simp only [sel, List.getElem?_cons_succ, List.getElem?_cons_zero, List.drop_succ_cons, List.drop_zero]; simp (disch := first | omega | (simp only [List.length_set, List.length_append, List.length_cons, List.length_nil, iv_length, zl_length]; try omega; done)) [-getElem?_pos, -getElem?_neg, h9, h5, h6, hq2, PL_nil, PL_cons, PLc_val, PLc_new, stepP_t, stepP_f, stepPC_n, stepPC_s, stepPX_s, stepPX_n, stepPA_t, stepPA_c, stepPA_l, stepPN_s, allocOp, reloc_sl, reloc_ptr, List.map_cons, List.map_nil, List.nil_append, List.append_assoc, List.cons_append, Nat.add_assoc]
    refine PLc_call (by kernel_rfl) (fun L hL => hde L) (by simp [pv_iv, pv_int, pv_bool, pv_string, pv_tup2, pv_tup3, iv_plain, p2_int, p2_bool, p2_string]) ?_
    try simp (disch := first | omega | (simp only [List.length_set, List.length_append, List.length_cons, List.length_nil, iv_length, zl_length]; try omega; done)) [-getElem?_pos, -getElem?_neg, h9, h5, h6, hq2, beq_self_eq_true, PL_nil, PL_cons, PLc_val, PLc_new, stepP_t, stepP_f, stepPC_n, stepPC_s, stepPX_s, stepPX_n, stepPA_t, stepPA_c, stepPA_l, stepPN_s, allocOp, reloc_sl, reloc_ptr, List.map_cons, List.map_nil, List.nil_append, List.append_assoc, List.cons_append, Nat.add_assoc]
    refine PLc_call (by kernel_rfl) (fun L hL => hbl L) (by simp [pv_iv, pv_int, pv_bool, pv_string, pv_tup2, pv_tup3, iv_plain, p2_int, p2_bool, p2_string]) ?_
    try simp (disch := first | omega | (simp only [List.length_set, List.length_append, List.length_cons, List.length_nil, iv_length, zl_length]; try omega; done)) [-getElem?_pos, -getElem?_neg, h9, h5, h6, hq2, beq_self_eq_true, PL_nil, PL_cons, PLc_val, PLc_new, stepP_t, stepP_f, stepPC_n, stepPC_s, stepPX_s, stepPX_n, stepPA_t, stepPA_c, stepPA_l, stepPN_s, allocOp, reloc_sl, reloc_ptr, List.map_cons, List.map_nil, List.nil_append, List.append_assoc, List.cons_append, Nat.add_assoc]
    refine hK _ _ ?_; clear hK K
    refine aw_f (by (first | (simp [eval_tmp, put_at]; done) | (simp [eval_tmp, put_at]; omega))) (by kernel_rfl) ?_
    refine aw_skip ?_
    refine aw_seq ?_
    (refine aw_ops (by kernel_rfl) (fun K hK => ?_); simp (disch := first | omega | (simp only [List.length_set, List.length_append, List.length_cons, List.length_nil, iv_length, zl_length]; try omega; done)) [-getElem?_pos, -getElem?_neg]; refine hK _ _ ?_; clear hK K)
    refine aw_block ?_
    have hone := ho2.one
    have hmost := ho2.most
    have hlla : D'.late.length = D'.firm.length := late_len _ _
    refine aw_loop (fun c α G3 => ∃ k : Nat, k + c = D'.firm.length + 2 ∧ α 10 = .int .i64 ((k : Nat) - 1 : Int) ∧ α 5 = .pointer (some ⟨p, 0, none⟩) ∧ α 6 = .pointer (some ⟨q, 0, none⟩) ∧ α 7 = .int .i64 (i : Nat) ∧ α 1 = .slice (some ⟨jv, 0, none⟩) rows.length rows.length ∧ G3 = G2) (D'.firm.length + 2) ?_ ?_
    · exact ⟨0, by omega, by (first | (simp [put_at, put_none, fr0_at]; done) | rfl), by (first | (simp [put_at, put_none, fr0_at, h5]; done) | rfl), by (first | (simp [put_at, put_none, fr0_at, h6]; done) | rfl), by (first | (simp [put_at, put_none, fr0_at, h7]; done) | rfl), by (first | (simp [put_at, put_none, fr0_at, h1]; done) | rfl), rfl⟩
    clear h9 h5 h6 h7 h1
    rintro c2 α G3 ⟨k, hkc, h10, h5, h6, h7, h1, rfl⟩
    refine aw_seq ?_
    refine aw_seq ?_
    by_cases hk : k ≤ D'.firm.length + 1
    case neg =>
      (refine aw_ops (by kernel_rfl) (fun K hK => ?_); simp (disch := first | omega | (simp only [List.length_set, List.length_append, List.length_cons, List.length_nil, iv_length, zl_length]; try omega; done)) [-getElem?_pos, -getElem?_neg, h10, h6, hq2]; refine hK _ _ ?_; clear hK K)
      refine aw_f (by (first | (simp [eval_tmp, put_at]; done) | (simp [eval_tmp, put_at]; omega))) (by kernel_rfl) ?_
      refine aw_exit ?_
      (refine aw_ops (by kernel_rfl) (fun K hK => ?_); simp (disch := first | omega | (simp only [List.length_set, List.length_append, List.length_cons, List.length_nil, iv_length, zl_length]; try omega; done)) [-getElem?_pos, -getElem?_neg, h7]; refine hK _ _ ?_; clear hK K)
      exact ⟨c - 1, by omega, i + 1, by omega, by omega, by (first | (simp [put_at, put_none, fr0_at]; done) | rfl), by (first | (simp [put_at, put_none, fr0_at, h1]; done) | rfl), by (first | (simp [put_at, put_none, fr0_at, h5]; done) | rfl), by (first | (simp [put_at, put_none, fr0_at, h6]; done) | rfl), F1, F2, D', hm3, hfew2⟩
    (refine aw_ops (by kernel_rfl) (fun K hK => ?_); simp (disch := first | omega | (simp only [List.length_set, List.length_append, List.length_cons, List.length_nil, iv_length, zl_length]; try omega; done)) [-getElem?_pos, -getElem?_neg, h10, h6, hq2]; refine hK _ _ ?_; clear hK K)
    refine aw_t (by (first | (simp [eval_tmp, put_at]; done) | (simp [eval_tmp, put_at]; omega))) (by kernel_rfl) ?_
    refine aw_skip ?_
    refine aw_seq ?_
    refine aw_block ?_
    have hrd := read_ac (nro := G.length) (γ := γ) hm2.dk ((k : Nat) - 1 : Int)
    have hha := rhas_ac (nro := G.length) (γ := γ) hm2.rk ((k : Nat) - 1 : Int)
    have hse := settled_ac (nro := G.length) (γ := γ) hm2.dk ((k : Nat) - 1 : Int)
    refine aw_seq ?_
    refine aw_ops (by kernel_rfl) (fun K hK => ?_)
    simp (disch := first | omega | (simp only [List.length_set, List.length_append, List.length_cons, List.length_nil, iv_length, zl_length]; try omega; done)) [-getElem?_pos, -getElem?_neg, h5, h10]
    refine ⟨by kernel_rfl, hrd.mono ?_⟩
    rintro v1 G3 ⟨rfl, rfl⟩
    try simp (disch := first | omega | (simp only [List.length_set, List.length_append, List.length_cons, List.length_nil, iv_length, zl_length]; try omega; done)) [-getElem?_pos, -getElem?_neg]
    refine hK _ _ ?_; clear hK K
    refine aw_seq ?_
    refine aw_seq ?_
    refine aw_ops (by kernel_rfl) (fun K hK => ?_)
    simp (disch := first | omega | (simp only [List.length_set, List.length_append, List.length_cons, List.length_nil, iv_length, zl_length]; try omega; done)) [-getElem?_pos, -getElem?_neg, h6, h10]
    refine ⟨by kernel_rfl, hha.mono ?_⟩
    rintro v1 G3 ⟨rfl, rfl⟩
    cases hhas : hasB D'.firm.length ((k : Nat) - 1 : Int) with
    | false =>
      have hr1 : readV D'.late ((k : Nat) - 1 : Int) = ⟨#[]⟩ := by simp [readV, hlla, hhas]
      have hr2 : readV D'.firm ((k : Nat) - 1 : Int) = ⟨#[]⟩ := by simp [readV, hhas]
      rw [hr2] at hse
      rw [hr1]
      try simp (disch := first | omega | (simp only [List.length_set, List.length_append, List.length_cons, List.length_nil, iv_length, zl_length]; try omega; done)) [-getElem?_pos, -getElem?_neg]
      refine hK _ _ ?_; clear hK K
      refine aw_t (by (first | (simp [eval_tmp, put_at]; done) | (simp [eval_tmp, put_at]; omega))) (by kernel_rfl) ?_
      refine aw_seq ?_
      refine aw_seq ?_
      refine aw_ops (by kernel_rfl) (fun K hK => ?_)
      simp (disch := first | omega | (simp only [List.length_set, List.length_append, List.length_cons, List.length_nil, iv_length, zl_length]; try omega; done)) [-getElem?_pos, -getElem?_neg, h5, h10]
      refine ⟨by kernel_rfl, hse.mono ?_⟩
      rintro v1 G3 ⟨rfl, rfl⟩
      try simp (disch := first | omega | (simp only [List.length_set, List.length_append, List.length_cons, List.length_nil, iv_length, zl_length]; try omega; done)) [-getElem?_pos, -getElem?_neg]
      refine hK _ _ ?_; clear hK K
      refine aw_f (by (first | (simp [eval_tmp, put_at]; done) | (simp [eval_tmp, put_at]; omega))) (by kernel_rfl) ?_
      refine aw_skip ?_
      refine aw_exit ?_
      (refine aw_ops (by kernel_rfl) (fun K hK => ?_); simp (disch := first | omega | (simp only [List.length_set, List.length_append, List.length_cons, List.length_nil, iv_length, zl_length]; try omega; done)) [-getElem?_pos, -getElem?_neg, h10]; refine hK _ _ ?_; clear hK K)
      exact ⟨c2 - 1, by omega, k + 1, by omega, by simp [put_at], by (first | (simp [put_at, put_none, fr0_at, h5]; done) | rfl), by (first | (simp [put_at, put_none, fr0_at, h6]; done) | rfl), by (first | (simp [put_at, put_none, fr0_at, h7]; done) | rfl), by (first | (simp [put_at, put_none, fr0_at, h1]; done) | rfl), rfl⟩
    | true =>
      have hcc := hhas
      simp only [hasB, Bool.and_eq_true, decide_eq_true_eq] at hcc
      obtain ⟨kk, hkk⟩ : ∃ kk : Nat, ((k : Nat) - 1 : Int) = (kk : Nat) := ⟨k - 1, by omega⟩
      rw [hkk] at hhas hcc h10 hse hha hrd ⊢
      have hkl2 : kk < D'.firm.length := by omega
      obtain ⟨r, hr⟩ : ∃ r, D'.firm[kk]? = some r := ⟨_, List.getElem?_eq_getElem hkl2⟩
      have hr2 : readV D'.firm (kk : Nat) = r := by simp [readV, hhas, hr]
      have hcF : (D'.firm.map Value.string)[kk]? = some (.string r) := by rw [List.getElem?_map, hr]; rfl
      have hrr : ∀ L : AH, AC Try.prog (G3 ++ L).length γ 24 #[.pointer (some ⟨q, 0, none⟩), .int .i64 (kk : Nat)] (G3 ++ L) (fun v' _ => v' = .string (readV D'.late (kk : Nat))) := fun L => (rread_ac (hm2.push L).rk ho2.few hkl2).mono fun _ _ h => h.1
      have hss : ∀ L : AH, AC Try.prog (G3 ++ L).length γ 23 #[.pointer (some ⟨p, 0, none⟩), .int .i64 (kk : Nat)] (G3 ++ L) (fun v' _ => v' = .string r) := fun L => (settled_ac (hm2.push L).dk _).mono fun _ _ h => h.1.trans (by rw [hr2])
      generalize readV D'.late (kk : Nat) = T at *
      try simp (disch := first | omega | (simp only [List.length_set, List.length_append, List.length_cons, List.length_nil, iv_length, zl_length]; try omega; done)) [-getElem?_pos, -getElem?_neg]
      refine hK _ _ ?_; clear hK K
      refine aw_f (by (first | (simp [eval_tmp, put_at]; done) | (simp [eval_tmp, put_at]; omega))) (by kernel_rfl) ?_
      refine aw_skip ?_
      refine aw_seq ?_
      (refine aw_plan [] [] [0, 1, 2, 3, 4, 5, 6, 7, 8, 9, 10, 11, 12, 13, 14, 15, 16, 17, 18, 19, 20, 21] 22 0 (by kernel_rfl) (by kernel_rfl) (by kernel_rfl) (fun K hK => ?_)); simp only [sel, List.getElem?_cons_succ, List.getElem?_cons_zero, List.drop_succ_cons, List.drop_zero]; simp (disch := first | omega | (simp only [List.length_set, List.length_append, List.length_cons, List.length_nil, iv_length, zl_length]; try omega; done)) [-getElem?_pos, -getElem?_neg, h5, h6, h10, hq2, hf2, hcF, PL_nil, PL_cons, PLc_val, PLc_new, stepP_t, stepP_f, stepPC_n, stepPC_s, stepPX_s, stepPX_n, stepPA_t, stepPA_c, stepPA_l, stepPN_s, allocOp, reloc_sl, reloc_ptr, List.map_cons, List.map_nil, List.nil_append, List.append_assoc, List.cons_append, Nat.add_assoc]
      refine PLc_call (by kernel_rfl) (fun L hL => hrr L) (by simp [pv_iv, pv_int, pv_bool, pv_string, pv_tup2, pv_tup3, iv_plain, p2_int, p2_bool, p2_string]) ?_
      try simp (disch := first | omega | (simp only [List.length_set, List.length_append, List.length_cons, List.length_nil, iv_length, zl_length]; try omega; done)) [-getElem?_pos, -getElem?_neg, h5, h6, h10, hq2, hf2, hcF, beq_self_eq_true, PL_nil, PL_cons, PLc_val, PLc_new, stepP_t, stepP_f, stepPC_n, stepPC_s, stepPX_s, stepPX_n, stepPA_t, stepPA_c, stepPA_l, stepPN_s, allocOp, reloc_sl, reloc_ptr, List.map_cons, List.map_nil, List.nil_append, List.append_assoc, List.cons_append, Nat.add_assoc]
      refine PLc_call (by kernel_rfl) (fun L hL => hss L) (by simp [pv_iv, pv_int, pv_bool, pv_string, pv_tup2, pv_tup3, iv_plain, p2_int, p2_bool, p2_string]) ?_
      try simp (disch := first | omega | (simp only [List.length_set, List.length_append, List.length_cons, List.length_nil, iv_length, zl_length]; try omega; done)) [-getElem?_pos, -getElem?_neg, h5, h6, h10, hq2, hf2, hcF, beq_self_eq_true, PL_nil, PL_cons, PLc_val, PLc_new, stepP_t, stepP_f, stepPC_n, stepPC_s, stepPX_s, stepPX_n, stepPA_t, stepPA_c, stepPA_l, stepPN_s, allocOp, reloc_sl, reloc_ptr, List.map_cons, List.map_nil, List.nil_append, List.append_assoc, List.cons_append, Nat.add_assoc]
      refine hK _ _ ?_; clear hK K
      refine aw_f (by (first | (simp [eval_tmp, put_at]; done) | (simp [eval_tmp, put_at]; omega))) (by kernel_rfl) ?_
      refine aw_skip ?_
      (refine aw_ops (by kernel_rfl) (fun K hK => ?_); simp (disch := first | omega | (simp only [List.length_set, List.length_append, List.length_cons, List.length_nil, iv_length, zl_length]; try omega; done)) [-getElem?_pos, -getElem?_neg, h10]; refine hK _ _ ?_; clear hK K)
      exact ⟨c2 - 1, by omega, k + 1, by omega, by simp [put_at]; omega, by (first | (simp [put_at, put_none, fr0_at, h5]; done) | rfl), by (first | (simp [put_at, put_none, fr0_at, h6]; done) | rfl), by (first | (simp [put_at, put_none, fr0_at, h7]; done) | rfl), by (first | (simp [put_at, put_none, fr0_at, h1]; done) | rfl), rfl⟩
end Go.Proofs.Ytadbgdhbamdiaaa
