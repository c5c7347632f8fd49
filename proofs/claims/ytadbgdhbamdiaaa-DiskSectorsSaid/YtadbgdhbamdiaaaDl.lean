/-
  The law DiskAll, walked.
-/
import Derived.Test.YtadbgdhbamdiaaaDq
namespace Go.Proofs.Ytadbgdhbamdiaaa
open Go Go.RowKit
set_option linter.unusedVariables false
set_option linter.unusedSimpArgs false
set_option maxRecDepth 100000
set_option maxHeartbeats 8000000
theorem newD3_len : (newD 3).firm.length = 3 := by decide
theorem newD3_uns : (newD 3).uns = [] := rfl
theorem u64_nat (x : Int) : ∃ u : Nat, IntKind.u64.wrap x = (u : Int) := by
  refine ⟨(IntKind.u64.wrap x).toNat, ?_⟩
  have : 0 ≤ IntKind.u64.wrap x := by simp only [IntKind.wrap, IntKind.bits, IntKind.signed]; simp; omega
  omega
theorem late_put (D : DM) (k : Nat) (t : ByteArray) : (D.put (k : Nat) t).late = D.late.set k t := by
  unfold DM.late DM.put
  simp only [Int.toNat_natCast]
  rw [late_app]
attribute [local irreducible] aD1 aD2 newD datS
attribute [local simp] wb_bool wb_undef XL_nil XL_cons XLc_val XLc_call step1_eq stepW_t stepW_f stepC_n stepC_s stepX_s xop_eq xopR_s xopR_n wantedA_eq wantedG_n wantedG_s plain1_int plain1_bool plain1_string bits_i64 bits_u64 bits_u32 bits_u16 bits_u8 xeqA xarr allK_iv num_iv calleeOf xread xeff xbin xint xnil xun xstr xload xconv xpart xfield xfieldAddr xindexAddr xindex bnd asInt? xslice xlen xmin xmax xbuild xfill xappend xcopy xcells eval_tmp eval_const put_at put_none fr0_at cells_agg cells_int cells_bool cells_string cells_ptr cells_slice notTuple tab iv_all hget_app hget_app0 hget_cons0 hget_cons set_app set_app0 setR setR_one QL_nil QL_cons QLc_val stepQ_t stepQ_f stepQC_n stepQC_s stepQX_s SL_nil SL_cons SLc_val stepS_t stepS_f ltT ltF leT leF eqT eqF ltTn ltFn leTn leFn eqTn eqFn beqT beqF bneT bneF wi64 wu64 wu32 wu16 wu8 tmodP tdivP hgetL hgetNe hgetEq setL nums_def nums_len Nat.succ_le_of_lt List.getElem?_cons_zero List.getElem?_cons_succ Option.getD_some Int.toNat_add Int.toNat_mul agB agI agS agP agL agA okB okI okS okP okSl okA
theorem all_law {H : AH} {γ : Nat → Option Nat} {v : Value} {rows : List (List FD)} (hv : SlR 6 H v rows) (hok : RowsOk rows) (hlen : rows.length ≤ maxLen) :
    AC Try.prog H.length γ 6 #[v] H (fun v' _ => v' = .bool true) := by
  simp only [maxLen] at hlen
  have hno : notTuple v = true := by rcases hv with ⟨a, rfl, _⟩ | ⟨j, k, rfl, _⟩ <;> rfl
  have hxl := hv.len (P := Try.prog) (t := 22) (e := 31) (by simp)
  refine ac_of_aw Try.func6 rfl Try.ntmps6 Try.results6 (by simp) ?_
  refine aw_seq ?_
  (refine aw_ops (by kernel_rfl) (fun K hK => ?_); simp (disch := first | omega | (simp only [List.length_set, List.length_append, List.length_cons, List.length_nil, iv_length, zl_length]; try omega; done)) [-getElem?_pos, -getElem?_neg]; refine hK _ _ ?_; clear hK K)
  refine aw_seq ?_
  refine aw_seq ?_
  refine aw_ops (by kernel_rfl) (fun K hK => ?_)
  simp (disch := first | omega | (simp only [List.length_set, List.length_append, List.length_cons, List.length_nil, iv_length, zl_length]; try omega; done)) [-getElem?_pos, -getElem?_neg]
  refine ⟨by kernel_rfl, ac_of_vc (by simp [pv_iv, pv_int, pv_bool, pv_string, pv_tup2, pv_tup3, iv_plain, p2_int, p2_bool, p2_string]) alive_vc ?_⟩
  simp (disch := first | omega | (simp only [List.length_set, List.length_append, List.length_cons, List.length_nil, iv_length, zl_length]; try omega; done)) [-getElem?_pos, -getElem?_neg]
  refine hK _ _ ?_; clear hK K
  refine aw_f (by (first | (simp [eval_tmp, put_at]; done) | (simp [eval_tmp, put_at]; omega))) (by kernel_rfl) ?_
  refine aw_skip ?_
  refine aw_seq ?_
  refine aw_ops (by kernel_rfl) (fun K hK => ?_)
  have hm0 : Many (fun j => decide (j < H.length)) H H.length H [] := ⟨fun i x h => by simp at h, fun i x h => by simp at h, fun i i' x y _ h => by simp at h, fun j hj => ⟨by simpa using hj, fun i x h => by simp at h, rfl⟩, Nat.le_refl _⟩
  simp (disch := first | omega | (simp only [List.length_set, List.length_append, List.length_cons, List.length_nil, iv_length, zl_length]; try omega; done)) [-getElem?_pos, -getElem?_neg]
  refine ⟨by kernel_rfl, (new_ac 3 (Nat.le_refl _)).mono ?_⟩
  rintro v1 H1 ⟨rfl, hd1, L1, hL1⟩
  have hm1 := hm0.new (L := L1) (hL1 ▸ hd1) (fun j hj => by simp only [List.mem_cons, List.not_mem_nil, or_false] at hj; omega)
  rw [← hL1] at hm1
  try simp (disch := first | omega | (simp only [List.length_set, List.length_append, List.length_cons, List.length_nil, iv_length, zl_length]; try omega; done)) [-getElem?_pos, -getElem?_neg]
  refine ⟨by kernel_rfl, (new_ac 3 hm1.len).mono ?_⟩
  rintro v2 H2 ⟨rfl, hd2, L2, hL2⟩
  have hm2 := hm1.new (L := L2) (hL2 ▸ hd2) (fun j hj => by simp only [List.mem_cons, List.not_mem_nil, or_false] at hj; omega)
  rw [← hL2] at hm2
  try simp (disch := first | omega | (simp only [List.length_set, List.length_append, List.length_cons, List.length_nil, iv_length, zl_length]; try omega; done)) [-getElem?_pos, -getElem?_neg]
  refine ⟨by kernel_rfl, (new_ac 3 hm2.len).mono ?_⟩
  rintro v3 H3 ⟨rfl, hd3, L3, hL3⟩
  have hm3 := hm2.new (L := L3) (hL3 ▸ hd3) (fun j hj => by simp only [List.mem_cons, List.not_mem_nil, or_false] at hj; omega)
  rw [← hL3] at hm3
  try simp (disch := first | omega | (simp only [List.length_set, List.length_append, List.length_cons, List.length_nil, iv_length, zl_length]; try omega; done)) [-getElem?_pos, -getElem?_neg]
  refine hK _ _ ?_; clear hK K
  obtain ⟨p1, hp1⟩ : ∃ p1, H.length + 2 = p1 := ⟨_, rfl⟩
  obtain ⟨p2, hp2⟩ : ∃ p2, H1.length + 2 = p2 := ⟨_, rfl⟩
  obtain ⟨p3, hp3⟩ : ∃ p3, H2.length + 2 = p3 := ⟨_, rfl⟩
  have hm3' : Many (fun j => decide (j < H.length)) H H.length H3 [(p1, [p1, H.length, H.length + 1], newD 3), (p2, [p2, H1.length, H1.length + 1], newD 3), (p3, [p3, H2.length, H2.length + 1], newD 3)] := by
    rw [← hp1, ← hp2, ← hp3]; exact hm3
  have hfi := newD_fine 3
  have hn3 := newD3_len
  have hu3 := newD3_uns
  rw [hp1, hp2, hp3]
  clear hm3 hm2 hm1 hm0 hd1 hd2 hd3
  generalize newD 3 = D0 at *
  generalize [p1, H.length, H.length + 1] = F1 at *
  generalize [p2, H1.length, H1.length + 1] = F2 at *
  generalize [p3, H2.length, H2.length + 1] = F3 at *
  refine aw_seq ?_
  (refine aw_ops (by kernel_rfl) (fun K hK => ?_); simp (disch := first | omega | (simp only [List.length_set, List.length_append, List.length_cons, List.length_nil, iv_length, zl_length]; try omega; done)) [-getElem?_pos, -getElem?_neg]; refine hK _ _ ?_; clear hK K)
  refine aw_seq ?_
  refine aw_seq ?_
  (refine aw_ops (by kernel_rfl) (fun K hK => ?_); simp (disch := first | omega | (simp only [List.length_set, List.length_append, List.length_cons, List.length_nil, iv_length, zl_length]; try omega; done)) [-getElem?_pos, -getElem?_neg]; refine hK _ _ ?_; clear hK K)
  refine aw_block ?_
  refine aw_loop (fun c α G => ∃ i : Nat, i + c = rows.length ∧ i ≤ 60 ∧ α 7 = .int .i64 (i : Nat) ∧ α 0 = v ∧ α 3 = .pointer (some ⟨p1, 0, none⟩) ∧ α 4 = .pointer (some ⟨p2, 0, none⟩) ∧ α 5 = .pointer (some ⟨p3, 0, none⟩) ∧
    ∃ F1 F2 F3 E C FK, Many (fun j => decide (j < H.length) || FK.contains j) G H.length G [(p1, F1, E), (p2, F2, E), (p3, F3, C)] ∧ E.Fine ∧ C.Fine ∧ E.firm.length = 3 ∧ C.firm.length = 3 ∧ E.uns.length ≤ i ∧ C.uns.length ≤ i ∧
      OwnF G (α 6) 5 1 (iv .u8 (List.replicate i 4)) FK ∧ (∀ j ∈ FK, H.length ≤ j) ∧ ∀ j, j < H.length → hget G j = hget H j) rows.length ?_ ?_
  · refine ⟨0, by omega, by omega, by (first | (simp [put_at, put_none, fr0_at]; done) | rfl), by (first | (simp [put_at, put_none, fr0_at]; done) | rfl), by (first | (simp [put_at, put_none, fr0_at]; done) | rfl), by (first | (simp [put_at, put_none, fr0_at]; done) | rfl), by (first | (simp [put_at, put_none, fr0_at]; done) | rfl), F1, F2, F3, D0, D0, [], ?_, hfi, hfi, hn3, hn3, by rw [hu3]; simp, by rw [hu3]; simp, .inl ⟨by (first | (simp [put_at, put_none, fr0_at]; done) | rfl), rfl, rfl⟩, by simp, fun j hj => (hm3'.st j (by simpa using hj)).2.2⟩
    exact hm3'.keep (Nat.le_refl _) (fun _ _ _ _ _ => rfl) (fun j hj => by
      have := hm3'.st j (by simpa using hj)
      exact ⟨this.1, this.2.1, rfl⟩)
  clear hm3' hfi hn3 hu3
  rintro c α G ⟨i, hic, hi60, h7, h0, h3, h4, h5, F1, F2, F3, E, C, FK, hm, hE, hC, hnE, hnC, huE, huC, hkp, hFK, hlow⟩
  obtain ⟨kv, hkv⟩ : ∃ kv, α 6 = kv := ⟨_, rfl⟩
  rw [hkv] at hkp
  refine aw_seq ?_
  refine aw_seq ?_
  refine aw_cut (fun α' G' => α' 29 = .bool (decide (i < rows.length ∧ i < 60)) ∧ α' 7 = .int .i64 (i : Nat) ∧ α' 0 = v ∧ α' 3 = .pointer (some ⟨p1, 0, none⟩) ∧ α' 4 = .pointer (some ⟨p2, 0, none⟩) ∧ α' 5 = .pointer (some ⟨p3, 0, none⟩) ∧ α' 6 = kv ∧ G' = G) ?_ ?_
  · by_cases hi : i < rows.length
    · by_cases hi6 : i < 60
      · (refine aw_ops (by kernel_rfl) (fun K hK => ?_); simp (disch := first | omega | (simp only [List.length_set, List.length_append, List.length_cons, List.length_nil, iv_length, zl_length]; try omega; done)) [-getElem?_pos, -getElem?_neg, h7, h0, -xlen, hxl, hi, hi6]; refine hK _ _ ?_; clear hK K)
        exact ⟨by simp [put_at, hi, hi6], by (first | (simp [put_at, put_none, fr0_at, h7]; done) | rfl), by (first | (simp [put_at, put_none, fr0_at, h0]; done) | rfl), by (first | (simp [put_at, put_none, fr0_at, h3]; done) | rfl), by (first | (simp [put_at, put_none, fr0_at, h4]; done) | rfl), by (first | (simp [put_at, put_none, fr0_at, h5]; done) | rfl), by (first | (simp [put_at, put_none, fr0_at, hkv]; done) | rfl), rfl⟩
      · (refine aw_ops (by kernel_rfl) (fun K hK => ?_); simp (disch := first | omega | (simp only [List.length_set, List.length_append, List.length_cons, List.length_nil, iv_length, zl_length]; try omega; done)) [-getElem?_pos, -getElem?_neg, h7, h0, -xlen, hxl, hi, hi6]; refine hK _ _ ?_; clear hK K)
        exact ⟨by simp [put_at, hi, hi6], by (first | (simp [put_at, put_none, fr0_at, h7]; done) | rfl), by (first | (simp [put_at, put_none, fr0_at, h0]; done) | rfl), by (first | (simp [put_at, put_none, fr0_at, h3]; done) | rfl), by (first | (simp [put_at, put_none, fr0_at, h4]; done) | rfl), by (first | (simp [put_at, put_none, fr0_at, h5]; done) | rfl), by (first | (simp [put_at, put_none, fr0_at, hkv]; done) | rfl), rfl⟩
    · (refine aw_ops (by kernel_rfl) (fun K hK => ?_); simp (disch := first | omega | (simp only [List.length_set, List.length_append, List.length_cons, List.length_nil, iv_length, zl_length]; try omega; done)) [-getElem?_pos, -getElem?_neg, h7, h0, -xlen, hxl, hi]; refine hK _ _ ?_; clear hK K)
      exact ⟨by simp [put_at, hi], by (first | (simp [put_at, put_none, fr0_at, h7]; done) | rfl), by (first | (simp [put_at, put_none, fr0_at, h0]; done) | rfl), by (first | (simp [put_at, put_none, fr0_at, h3]; done) | rfl), by (first | (simp [put_at, put_none, fr0_at, h4]; done) | rfl), by (first | (simp [put_at, put_none, fr0_at, h5]; done) | rfl), by (first | (simp [put_at, put_none, fr0_at, hkv]; done) | rfl), rfl⟩
  clear h7 h0 h3 h4 h5 hkv
  rintro α G' ⟨h29, h7, h0, h3, h4, h5, h6, rfl⟩
  by_cases hc : i < rows.length ∧ i < 60
  · refine aw_t (by (first | (simp [eval_tmp, put_at, h29, hc]; done) | (simp [eval_tmp, put_at, h29, hc]; omega))) (by kernel_rfl) ?_
    obtain ⟨hi, hi6⟩ := hc
    refine aw_skip ?_
    refine aw_seq ?_
    refine aw_block ?_
    obtain ⟨jv, kb, _, rfl, hjl, hkb, hkl, _, hc1, hc3, _, _, ba, _, bb, _, _⟩ := act_at hv hok hi
    have hgk : hget G' jv = some kb := (hlow jv hjl).trans hkb
    obtain ⟨u, hu⟩ := u64_nat (aAt rows i)
    obtain ⟨a3, ha3, ha3l⟩ : ∃ a3 : Nat, (u : Int) % 3 = (a3 : Nat) ∧ a3 < 3 := ⟨u % 3, by omega, by omega⟩
    generalize aAt rows i = at_ at *
    generalize aB rows i = b0 at *
    refine aw_seq ?_
    (refine aw_ops (by kernel_rfl) (fun K hK => ?_); simp (disch := first | omega | (simp only [List.length_set, List.length_append, List.length_cons, List.length_nil, iv_length, zl_length]; try omega; done)) [-getElem?_pos, -getElem?_neg, h0, h7, hgk, hc1, hu, ha3]; refine hK _ _ ?_; clear hK K)
    refine aw_seq ?_
    refine aw_ops (by kernel_rfl) (fun K hK => ?_)
    simp (disch := first | omega | (simp only [List.length_set, List.length_append, List.length_cons, List.length_nil, iv_length, zl_length]; try omega; done)) [-getElem?_pos, -getElem?_neg, h0, h7, hgk, hc3]
    refine ⟨by kernel_rfl, (data_ac bb (by omega) hm.len).mono ?_⟩
    rintro v1 G1 ⟨rfl, L1, hL1⟩
    have hm1 := hm.push L1
    rw [← hL1] at hm1
    try simp (disch := first | omega | (simp only [List.length_set, List.length_append, List.length_cons, List.length_nil, iv_length, zl_length]; try omega; done)) [-getElem?_pos, -getElem?_neg]
    refine hK _ _ ?_; clear hK K
    have hsz := datS_size b0 0 (by omega)
    have hsz2 : (datS b0 0).size = 256 := by omega
    generalize datS b0 0 = T at *
    have hokE : okW E (a3 : Nat) T = true := by simp [okW, hasB, hnE, hsz2]; omega
    have hokC : okW C (a3 : Nat) T = true := by simp [okW, hasB, hnC, hsz2]; omega
    obtain ⟨e1, e2, e3⟩ := fine_write hE hokE
    obtain ⟨c1, c2, c3⟩ := fine_write hC hokC
    have eu : (E.put (a3 : Nat) T).uns.length ≤ i + 1 := by simp [DM.put]; omega
    have cu : (C.put (a3 : Nat) T).uns.length ≤ i + 1 := by simp [DM.put]; omega
    have en : (E.put (a3 : Nat) T).firm.length = 3 := hnE
    have cn : (C.put (a3 : Nat) T).firm.length = 3 := hnC
    have wa := write_ac (nro := H.length) (γ := γ) (hm1.dk 0 _ rfl) (hm1.lo1 0 _ rfl) (by simp only; omega) (a3 : Nat) T
    simp only [e1, e2] at wa
    refine aw_seq ?_
    refine aw_ops (by kernel_rfl) (fun K hK => ?_)
    simp (disch := first | omega | (simp only [List.length_set, List.length_append, List.length_cons, List.length_nil, iv_length, zl_length]; try omega; done)) [-getElem?_pos, -getElem?_neg, h3]
    refine ⟨by kernel_rfl, wa.mono ?_⟩
    rintro v2 G2 ⟨rfl, F1', hd2, hf2⟩
    have hm2 := hm1.step (i := 0) rfl hf2 hd2
    simp only [List.set_cons_zero] at hm2
    try simp (disch := first | omega | (simp only [List.length_set, List.length_append, List.length_cons, List.length_nil, iv_length, zl_length]; try omega; done)) [-getElem?_pos, -getElem?_neg]
    refine hK _ _ ?_; clear hK K
    have wb := write_ac (nro := H.length) (γ := γ) (hm2.dk 1 _ rfl) (hm2.lo1 1 _ rfl) (by simp only; omega) (a3 : Nat) T
    simp only [e1, e2] at wb
    refine aw_seq ?_
    refine aw_ops (by kernel_rfl) (fun K hK => ?_)
    simp (disch := first | omega | (simp only [List.length_set, List.length_append, List.length_cons, List.length_nil, iv_length, zl_length]; try omega; done)) [-getElem?_pos, -getElem?_neg, h4]
    refine ⟨by kernel_rfl, wb.mono ?_⟩
    rintro v3 G3 ⟨rfl, F2', hd3, hf3⟩
    have hm3 := hm2.step (i := 1) rfl hf3 hd3
    simp only [List.set_cons_succ, List.set_cons_zero] at hm3
    try simp (disch := first | omega | (simp only [List.length_set, List.length_append, List.length_cons, List.length_nil, iv_length, zl_length]; try omega; done)) [-getElem?_pos, -getElem?_neg]
    refine hK _ _ ?_; clear hK K
    refine aw_seq ?_
    refine aw_cut (fun α G4 => ∃ F3' C', Many (fun j => decide (j < H.length) || FK.contains j) G' H.length G4 [(p1, F1', E.put (a3 : Nat) T), (p2, F2', E.put (a3 : Nat) T), (p3, F3', C')] ∧ C'.Fine ∧ C'.firm.length = 3 ∧ C'.uns.length ≤ i + 1 ∧
      α 7 = .int .i64 (i : Nat) ∧ α 0 = .slice (some ⟨jv, 0, none⟩) rows.length rows.length ∧ α 3 = .pointer (some ⟨p1, 0, none⟩) ∧ α 4 = .pointer (some ⟨p2, 0, none⟩) ∧ α 5 = .pointer (some ⟨p3, 0, none⟩) ∧ α 6 = kv) ?_ ?_
    · refine aw_seq ?_
      by_cases hi2 : i < 20
      · (refine aw_ops (by kernel_rfl) (fun K hK => ?_); simp (disch := first | omega | (simp only [List.length_set, List.length_append, List.length_cons, List.length_nil, iv_length, zl_length]; try omega; done)) [-getElem?_pos, -getElem?_neg, h7, hi2]; refine hK _ _ ?_; clear hK K)
        refine aw_t (by (first | (simp [eval_tmp, put_at, hi2]; done) | (simp [eval_tmp, put_at, hi2]; omega))) (by kernel_rfl) ?_
        have wc := write_ac (nro := H.length) (γ := γ) (hm3.dk 2 _ rfl) (hm3.lo1 2 _ rfl) (by simp only; omega) (a3 : Nat) T
        simp only [c1, c2] at wc
        refine aw_ops (by kernel_rfl) (fun K hK => ?_)
        simp (disch := first | omega | (simp only [List.length_set, List.length_append, List.length_cons, List.length_nil, iv_length, zl_length]; try omega; done)) [-getElem?_pos, -getElem?_neg, h5]
        refine ⟨by kernel_rfl, wc.mono ?_⟩
        rintro v4 G4 ⟨rfl, F3', hd4, hf4⟩
        have hm4 := hm3.step (i := 2) rfl hf4 hd4
        simp only [List.set_cons_succ, List.set_cons_zero] at hm4
        try simp (disch := first | omega | (simp only [List.length_set, List.length_append, List.length_cons, List.length_nil, iv_length, zl_length]; try omega; done)) [-getElem?_pos, -getElem?_neg]
        refine hK _ _ ?_; clear hK K
        exact ⟨F3', _, hm4, c3, cn, cu, by (first | (simp [put_at, put_none, fr0_at, h7]; done) | rfl), by (first | (simp [put_at, put_none, fr0_at, h0]; done) | rfl), by (first | (simp [put_at, put_none, fr0_at, h3]; done) | rfl), by (first | (simp [put_at, put_none, fr0_at, h4]; done) | rfl), by (first | (simp [put_at, put_none, fr0_at, h5]; done) | rfl), by (first | (simp [put_at, put_none, fr0_at, h6]; done) | rfl)⟩
      · (refine aw_ops (by kernel_rfl) (fun K hK => ?_); simp (disch := first | omega | (simp only [List.length_set, List.length_append, List.length_cons, List.length_nil, iv_length, zl_length]; try omega; done)) [-getElem?_pos, -getElem?_neg, h7, hi2]; refine hK _ _ ?_; clear hK K)
        refine aw_f (by (first | (simp [eval_tmp, put_at, hi2]; done) | (simp [eval_tmp, put_at, hi2]; omega))) (by kernel_rfl) ?_
        refine aw_skip ?_
        exact ⟨F3, C, hm3, hC, hnC, by omega, by (first | (simp [put_at, put_none, fr0_at, h7]; done) | rfl), by (first | (simp [put_at, put_none, fr0_at, h0]; done) | rfl), by (first | (simp [put_at, put_none, fr0_at, h3]; done) | rfl), by (first | (simp [put_at, put_none, fr0_at, h4]; done) | rfl), by (first | (simp [put_at, put_none, fr0_at, h5]; done) | rfl), by (first | (simp [put_at, put_none, fr0_at, h6]; done) | rfl)⟩
    clear h7 h0 h3 h4 h5 h6 h29
    rintro α G4 ⟨F3', C', hm4, hC', hnC', huC', h7, h0, h3, h4, h5, h6⟩
    have hkp4 := hkp.low (fun j hj => (hm4.st j (by simp [hj])).2.2)
    obtain ⟨B, hB⟩ : ∃ B, B = (some ⟨[.int .u8 4], 5, some 1⟩ : Option Blk) := ⟨_, rfl⟩
    obtain ⟨kv2, G5, hap, hown, hlen2, hkeep⟩ := ownF_append (P := Try.prog) (nro := H.length) (t := 29) (e := 5) (H := G4 ++ [B]) (v := kv) (x := .slice (some ⟨G4.length, 0, none⟩) 1 1) (sz := 1)
        (cells := iv .u8 (List.replicate i 4)) (news := [.int .u8 4]) (F := FK) (by simp) (by simp) (by omega) (by simp) (hkp4.low (fun j hj => by rw [hget_left (hkp4.lt j hj)]))
        hFK (fun s e => by cases e) (by simp [xcells, hB]) (by simp) (by simp) (by simp; omega) (by simp [maxLen]; omega)
    have hgl1 : (G4 ++ [B]).length = G4.length + 1 := by simp
    rw [hgl1] at hown hlen2
    have hlow4 : ∀ j, j < H.length → hget G4 j = hget H j := fun j hj => ((hm4.st j (by simp [hj])).2.2).trans (hlow j hj)
    have hnk : notTuple kv = true := by rcases hkp with ⟨rfl, _⟩ | ⟨j, len, rfl, _⟩ <;> rfl
    subst hB
    have hfin : Many (fun j => decide (j < H.length) || [G4.length + 1].contains j) G5 H.length G5 [(p1, F1', E.put (a3 : Nat) T), (p2, F2', E.put (a3 : Nat) T), (p3, F3', C')] := by
      refine hm4.keep (by omega) (fun k x hx j hj => ?_) (fun j hj => ?_)
      · have hjl := (hm4.dk k x hx).lt j hj
        rw [hkeep j (by rw [hgl1]; omega) (fun hm => (hm4.st j (by simp [hm])).2.1 k x hx hj), hget_left hjl]
      · simp only [Bool.or_eq_true, decide_eq_true_eq, List.contains_cons, List.contains_nil, Bool.or_false, beq_iff_eq] at hj
        have hl4 := hm4.len
        rcases hj with hj | hj
        · have := hm4.st j (by simp [hj])
          exact ⟨by omega, this.2.1, rfl⟩
        · exact ⟨by omega, fun k x hx hm => by have := (hm4.dk k x hx).lt j hm; omega, rfl⟩
    have hlow5 : ∀ j, j < H.length → hget G5 j = hget H j := fun j hj => by
      have hl4 := hm4.len
      rw [hkeep j (by rw [hgl1]; omega) (fun hm => by have := hFK j hm; omega), hget_left (by omega)]
      exact hlow4 j hj
    (refine aw_ops (by kernel_rfl) (fun K hK => ?_); simp (disch := first | omega | (simp only [List.length_set, List.length_append, List.length_cons, List.length_nil, iv_length, zl_length]; try omega; done)) [-getElem?_pos, -getElem?_neg, h6, -xappend, hap]; refine hK _ _ ?_; clear hK K)
    (refine aw_ops (by kernel_rfl) (fun K hK => ?_); simp (disch := first | omega | (simp only [List.length_set, List.length_append, List.length_cons, List.length_nil, iv_length, zl_length]; try omega; done)) [-getElem?_pos, -getElem?_neg, h7]; refine hK _ _ ?_; clear hK K)
    refine ⟨c - 1, by omega, i + 1, by omega, by omega, by (first | (simp [put_at, put_none, fr0_at]; done) | rfl), by (first | (simp [put_at, put_none, fr0_at, h0]; done) | rfl), by (first | (simp [put_at, put_none, fr0_at, h3]; done) | rfl), by (first | (simp [put_at, put_none, fr0_at, h4]; done) | rfl), by (first | (simp [put_at, put_none, fr0_at, h5]; done) | rfl), F1', F2', F3', _, C', [G4.length + 1], hfin, e3, hC', en, hnC', eu, huC', ?_, fun j hj => ?_, hlow5⟩
    · have e : iv IntKind.u8 (List.replicate i 4) ++ [Value.int .u8 4] = iv .u8 (List.replicate (i + 1) 4) := by rw [List.replicate_succ', iv_append]; rfl
      rw [← e]
      simp only [put_at]
      exact hown
    · have := hm4.len; rw [List.mem_singleton] at hj; omega
  · refine aw_f (by (first | (simp [eval_tmp, put_at, h29, hc]; done) | (simp [eval_tmp, put_at, h29, hc]; omega))) (by kernel_rfl) ?_
    refine aw_exit ?_
    have hoE := (hm.dk 0 _ rfl).1
    have hoC := (hm.dk 2 _ rfl).1
    simp only at hoE hoC
    obtain ⟨es1, es2⟩ := fine_sync hE
    obtain ⟨cs1, cs2⟩ := fine_sync hC
    have sb := sync_ac (nro := H.length) (γ := γ) (hm.dk 1 _ rfl) (hm.lo1 1 _ rfl) hm.len
    simp only [es1, es2] at sb
    refine aw_seq ?_
    refine aw_ops (by kernel_rfl) (fun K hK => ?_)
    simp (disch := first | omega | (simp only [List.length_set, List.length_append, List.length_cons, List.length_nil, iv_length, zl_length]; try omega; done)) [-getElem?_pos, -getElem?_neg, h4]
    refine ⟨by kernel_rfl, sb.mono ?_⟩
    rintro v2 G1 ⟨rfl, F2', hd2, hf2⟩
    have hm2 := hm.step (i := 1) rfl hf2 hd2
    simp only [List.set_cons_succ, List.set_cons_zero] at hm2
    try simp (disch := first | omega | (simp only [List.length_set, List.length_append, List.length_cons, List.length_nil, iv_length, zl_length]; try omega; done)) [-getElem?_pos, -getElem?_neg]
    refine hK _ _ ?_; clear hK K
    have sc := sync_ac (nro := H.length) (γ := γ) (hm2.dk 2 _ rfl) (hm2.lo1 2 _ rfl) hm2.len
    simp only [cs1, cs2] at sc
    refine aw_seq ?_
    refine aw_ops (by kernel_rfl) (fun K hK => ?_)
    simp (disch := first | omega | (simp only [List.length_set, List.length_append, List.length_cons, List.length_nil, iv_length, zl_length]; try omega; done)) [-getElem?_pos, -getElem?_neg, h5]
    refine ⟨by kernel_rfl, sc.mono ?_⟩
    rintro v3 G2 ⟨rfl, F3', hd3, hf3⟩
    have hm3 := hm2.step (i := 2) rfl hf3 hd3
    simp only [List.set_cons_succ, List.set_cons_zero] at hm3
    try simp (disch := first | omega | (simp only [List.length_set, List.length_append, List.length_cons, List.length_nil, iv_length, zl_length]; try omega; done)) [-getElem?_pos, -getElem?_neg]
    refine hK _ _ ?_; clear hK K
    have hCl : C.late.length = 3 := by unfold DM.late; rw [late_len, hnC]
    have hEl : E.late.length = 3 := by unfold DM.late; rw [late_len, hnE]
    have hEd : ({ E with firm := E.late, uns := [] } : DM).firm = E.late := rfl
    have hCd : ({ C with firm := C.late, uns := [] } : DM).firm = C.late := rfl
    have hCF : ({ C with firm := C.late, uns := [] } : DM).Fine := hC
    have hCu : ({ C with firm := C.late, uns := [] } : DM).uns = [] := rfl
    generalize ({ E with firm := E.late, uns := [] } : DM) = Eb at *
    generalize ({ C with firm := C.late, uns := [] } : DM) = Cb at *
    generalize C.late = Cf at *
    refine aw_seq ?_
    refine aw_seq ?_
    (refine aw_ops (by kernel_rfl) (fun K hK => ?_); simp (disch := first | omega | (simp only [List.length_set, List.length_append, List.length_cons, List.length_nil, iv_length, zl_length]; try omega; done)) [-getElem?_pos, -getElem?_neg]; refine hK _ _ ?_; clear hK K)
    refine aw_block ?_
    refine aw_loop (fun c α G => ∃ i2 : Nat, i2 + c = 60 ∧ α 11 = .int .i64 (i2 : Nat) ∧ α 0 = v ∧ α 3 = .pointer (some ⟨p1, 0, none⟩) ∧ α 4 = .pointer (some ⟨p2, 0, none⟩) ∧ α 5 = .pointer (some ⟨p3, 0, none⟩) ∧ α 6 = kv ∧ α 10 = .int .i64 0 ∧
      ∃ F3 C, Many (fun j => decide (j < H.length) || FK.contains j) G' H.length G [(p1, F1, E), (p2, F2', Eb), (p3, F3, C)] ∧ C.Fine ∧ C.firm = Cf ∧ C.uns.length ≤ i2) 40 ?_ ?_
    · exact ⟨20, by omega, by (first | (simp [put_at, put_none, fr0_at]; done) | rfl), by (first | (simp [put_at, put_none, fr0_at, h0]; done) | rfl), by (first | (simp [put_at, put_none, fr0_at, h3]; done) | rfl), by (first | (simp [put_at, put_none, fr0_at, h4]; done) | rfl), by (first | (simp [put_at, put_none, fr0_at, h5]; done) | rfl), by (first | (simp [put_at, put_none, fr0_at, h6]; done) | rfl), by (first | (simp [put_at, put_none, fr0_at]; done) | rfl), F3', Cb, hm3, hCF, hCd, by rw [hCu]; simp⟩
    clear h0 h3 h4 h5 h6 h7 h29 hm2 hm3 hd2 hd3 hf2 hf3 sb sc
    rintro c2 α Gc ⟨i2, hic2, h11, h0, h3, h4, h5, h6, h10, F3, C2, hm2, hC2, hnC2, huC2⟩
    refine aw_seq ?_
    refine aw_seq ?_
    refine aw_cut (fun α' Gd => α' 74 = .bool (decide (i2 < rows.length ∧ i2 < 60)) ∧ α' 11 = .int .i64 (i2 : Nat) ∧ α' 0 = v ∧ α' 3 = .pointer (some ⟨p1, 0, none⟩) ∧ α' 4 = .pointer (some ⟨p2, 0, none⟩) ∧ α' 5 = .pointer (some ⟨p3, 0, none⟩) ∧ α' 6 = kv ∧ α' 10 = .int .i64 0 ∧ Gd = Gc) ?_ ?_
    · by_cases hi : i2 < rows.length
      · by_cases hi6 : i2 < 60
        · (refine aw_ops (by kernel_rfl) (fun K hK => ?_); simp (disch := first | omega | (simp only [List.length_set, List.length_append, List.length_cons, List.length_nil, iv_length, zl_length]; try omega; done)) [-getElem?_pos, -getElem?_neg, h11, h0, -xlen, hxl, hi, hi6]; refine hK _ _ ?_; clear hK K)
          exact ⟨by simp [put_at, hi, hi6], by (first | (simp [put_at, put_none, fr0_at, h11]; done) | rfl), by (first | (simp [put_at, put_none, fr0_at, h0]; done) | rfl), by (first | (simp [put_at, put_none, fr0_at, h3]; done) | rfl), by (first | (simp [put_at, put_none, fr0_at, h4]; done) | rfl), by (first | (simp [put_at, put_none, fr0_at, h5]; done) | rfl), by (first | (simp [put_at, put_none, fr0_at, h6]; done) | rfl), by (first | (simp [put_at, put_none, fr0_at, h10]; done) | rfl), rfl⟩
        · (refine aw_ops (by kernel_rfl) (fun K hK => ?_); simp (disch := first | omega | (simp only [List.length_set, List.length_append, List.length_cons, List.length_nil, iv_length, zl_length]; try omega; done)) [-getElem?_pos, -getElem?_neg, h11, h0, -xlen, hxl, hi, hi6]; refine hK _ _ ?_; clear hK K)
          exact ⟨by simp [put_at, hi, hi6], by (first | (simp [put_at, put_none, fr0_at, h11]; done) | rfl), by (first | (simp [put_at, put_none, fr0_at, h0]; done) | rfl), by (first | (simp [put_at, put_none, fr0_at, h3]; done) | rfl), by (first | (simp [put_at, put_none, fr0_at, h4]; done) | rfl), by (first | (simp [put_at, put_none, fr0_at, h5]; done) | rfl), by (first | (simp [put_at, put_none, fr0_at, h6]; done) | rfl), by (first | (simp [put_at, put_none, fr0_at, h10]; done) | rfl), rfl⟩
      · (refine aw_ops (by kernel_rfl) (fun K hK => ?_); simp (disch := first | omega | (simp only [List.length_set, List.length_append, List.length_cons, List.length_nil, iv_length, zl_length]; try omega; done)) [-getElem?_pos, -getElem?_neg, h11, h0, -xlen, hxl, hi]; refine hK _ _ ?_; clear hK K)
        exact ⟨by simp [put_at, hi], by (first | (simp [put_at, put_none, fr0_at, h11]; done) | rfl), by (first | (simp [put_at, put_none, fr0_at, h0]; done) | rfl), by (first | (simp [put_at, put_none, fr0_at, h3]; done) | rfl), by (first | (simp [put_at, put_none, fr0_at, h4]; done) | rfl), by (first | (simp [put_at, put_none, fr0_at, h5]; done) | rfl), by (first | (simp [put_at, put_none, fr0_at, h6]; done) | rfl), by (first | (simp [put_at, put_none, fr0_at, h10]; done) | rfl), rfl⟩
    clear h11 h0 h3 h4 h5 h6 h10
    rintro α Gd ⟨h74, h11, h0, h3, h4, h5, h6, h10, rfl⟩
    have hlow2 : ∀ j, j < H.length → hget Gd j = hget H j := fun j hj => ((hm2.st j (by simp [hj])).2.2).trans (hlow j hj)
    by_cases hc2 : i2 < rows.length ∧ i2 < 60
    · refine aw_t (by (first | (simp [eval_tmp, put_at, h74, hc2]; done) | (simp [eval_tmp, put_at, h74, hc2]; omega))) (by kernel_rfl) ?_
      obtain ⟨hi, hi6⟩ := hc2
      refine aw_skip ?_
      refine aw_seq ?_
      refine aw_block ?_
      obtain ⟨jv, kb, _, rfl, hjl, hkb, hkl, _, hc1, hc3, _, _, ba, _, bb, _, _⟩ := act_at hv hok hi
      have hgk : hget Gd jv = some kb := (hlow2 jv hjl).trans hkb
      obtain ⟨u, hu⟩ := u64_nat (aAt rows i2)
      obtain ⟨a3, ha3, ha3l⟩ : ∃ a3 : Nat, (u : Int) % 3 = (a3 : Nat) ∧ a3 < 3 := ⟨u % 3, by omega, by omega⟩
      generalize aAt rows i2 = at_ at *
      generalize aB rows i2 = b0 at *
      have hsz := datS_size b0 0 (by omega)
      have hsz2 : (datS b0 0).size = 256 := by omega
      have hnC3 : C2.firm.length = 3 := by rw [hnC2]; exact hCl
      have hokC : okW C2 (a3 : Nat) (datS b0 0) = true := by simp [okW, hasB, hnC3, hsz2]; omega
      obtain ⟨c1, c2', c3⟩ := fine_write hC2 hokC
      have cu : (C2.put (a3 : Nat) (datS b0 0)).uns.length ≤ i2 + 1 := by simp [DM.put]; omega
      have cn : (C2.put (a3 : Nat) (datS b0 0)).firm = Cf := hnC2
      have hmr := hm2.less (S' := fun j => decide (j < H.length) || FK.contains j) (HL' := Gd) (fun j hj => ⟨hj, ((hm2.st j hj).2.2).symm⟩)
      have hsj : decide (jv < H.length) = true := by simpa using hjl
      refine aw_chain (fun j => decide (j < H.length) || FK.contains j) (fun s G => ∃ F3, Many (fun j => decide (j < H.length) || FK.contains j) Gd H.length G [(p1, F1, E), (p2, F2', Eb), (p3, F3, if s < 2 then C2 else C2.put (a3 : Nat) (datS b0 0))]) (by kernel_rfl) (by kernel_rfl) (by kernel_rfl)
        (fun s G ⟨F3, h⟩ j hj => (h.st j hj).2.2) ⟨F3, by simpa using hmr⟩ (fun K hK => ?_)
      simp (disch := first | omega | (simp only [List.length_set, List.length_append, List.length_cons, List.length_nil, iv_length, zl_length]; try omega; done)) [-getElem?_pos, -getElem?_neg, h0, h5, h11, hgk, hc1, hc3, hu, ha3, hsj, CL_nil, CL_cons, CLc_val, CLc_skip, memS, inS, isCallF]
      refine CLc_call (v := .string (datS b0 0)) (by kernel_rfl) (fun G ⟨F3, h⟩ => (data_ac bb (by omega) h.len).mono (fun v' G2 ⟨e, L, hL⟩ => ⟨e, F3, by rw [hL]; simpa using h.push L⟩)) ?_
      try simp (disch := first | omega | (simp only [List.length_set, List.length_append, List.length_cons, List.length_nil, iv_length, zl_length]; try omega; done)) [-getElem?_pos, -getElem?_neg, h0, h5, h11, hgk, hc1, hc3, hu, ha3, hsj, CL_nil, CL_cons, CLc_val, CLc_skip, memS, inS, isCallF]
      refine CLc_call (v := .int .i64 0) (by kernel_rfl) (fun G ⟨F3, h⟩ => ?_) ?_
      · have h : Many (fun j => decide (j < H.length) || FK.contains j) Gd H.length G [(p1, F1, E), (p2, F2', Eb), (p3, F3, C2)] := by simpa using h
        have wc := write_ac (nro := H.length) (γ := γ) (h.dk 2 _ rfl) (h.lo1 2 _ rfl) (by simp only; omega) (a3 : Nat) (datS b0 0)
        simp only [c1, c2'] at wc
        refine wc.mono (fun v' G2 ⟨e, F', hd, hf⟩ => ⟨e, F', ?_⟩)
        have := h.step (i := 2) rfl hf hd
        simpa using this
      try simp (disch := first | omega | (simp only [List.length_set, List.length_append, List.length_cons, List.length_nil, iv_length, zl_length]; try omega; done)) [-getElem?_pos, -getElem?_neg, CL_nil, CL_cons, CLc_val, CLc_skip, memS, inS, isCallF]
      rintro G F4 h
      refine hK _ _ ?_; clear hK K
      (refine aw_ops (by kernel_rfl) (fun K hK => ?_); simp (disch := first | omega | (simp only [List.length_set, List.length_append, List.length_cons, List.length_nil, iv_length, zl_length]; try omega; done)) [-getElem?_pos, -getElem?_neg, h11]; refine hK _ _ ?_; clear hK K)
      refine ⟨c2 - 1, by omega, i2 + 1, by omega, by (first | (simp [put_at, put_none, fr0_at]; done) | rfl), by (first | (simp [put_at, put_none, fr0_at, h0]; done) | rfl), by (first | (simp [put_at, put_none, fr0_at, h3]; done) | rfl), by (first | (simp [put_at, put_none, fr0_at, h4]; done) | rfl), by (first | (simp [put_at, put_none, fr0_at, h5]; done) | rfl), by (first | (simp [put_at, put_none, fr0_at, h6]; done) | rfl), by (first | (simp [put_at, put_none, fr0_at, h10]; done) | rfl), F4, _, ?_, c3, cn, cu⟩
      have h' : Many (fun j => decide (j < H.length) || FK.contains j) Gd H.length G [(p1, F1, E), (p2, F2', Eb), (p3, F4, C2.put (a3 : Nat) (datS b0 0))] := by simpa using h
      exact h'.less (fun j hj => ⟨hj, (hm2.st j hj).2.2⟩)
    · refine aw_f (by (first | (simp [eval_tmp, put_at, h74, hc2]; done) | (simp [eval_tmp, put_at, h74, hc2]; omega))) (by kernel_rfl) ?_
      refine aw_exit ?_
      have hm4 := hm2.push [some ⟨[.string ByteArray.empty, .string ByteArray.empty, .string ByteArray.empty], 54, none⟩]
      obtain ⟨wb, hwb⟩ : ∃ wb, wb = Gd.length := ⟨_, rfl⟩
      have hgw : hget (Gd ++ [some ⟨[.string ByteArray.empty, .string ByteArray.empty, .string ByteArray.empty], 54, none⟩]) wb = some ⟨[.string ByteArray.empty, .string ByteArray.empty, .string ByteArray.empty], 54, none⟩ := by rw [hwb, hget_app0]; rfl
      have hwF : ∀ (k : Nat) (x : Nat × List Nat × DM), [(p1, F1, E), (p2, F2', Eb), (p3, F3, C2)][k]? = some x → wb ∉ x.2.1 := fun k x hx hm => by have := (hm2.dk k x hx).lt _ hm; omega
      have hwS : ∀ j, (decide (j < H.length) || FK.contains j) = true → j ≠ wb := fun j hj e => by have := (hm2.st j hj).1; omega
      have hwl : H.length ≤ wb := by rw [hwb]; exact hm2.len
      obtain ⟨rd, hrd⟩ : ∃ rd : Nat → ByteArray, ∀ k : Nat, rd k = readV Cf (k : Nat) := ⟨fun k => readV Cf (k : Nat), fun k => rfl⟩
      obtain ⟨w, hw⟩ : ∃ w : Nat → Nat → ByteArray, ∀ k j, w k j = if j < k then rd j else ByteArray.empty := ⟨_, fun k j => rfl⟩
      refine aw_seq ?_
      (refine aw_ops (by kernel_rfl) (fun K hK => ?_); simp (disch := first | omega | (simp only [List.length_set, List.length_append, List.length_cons, List.length_nil, iv_length, zl_length]; try omega; done)) [-getElem?_pos, -getElem?_neg]; refine hK _ _ ?_; clear hK K)
      refine aw_seq ?_
      refine aw_seq ?_
      (refine aw_ops (by kernel_rfl) (fun K hK => ?_); simp (disch := first | omega | (simp only [List.length_set, List.length_append, List.length_cons, List.length_nil, iv_length, zl_length]; try omega; done)) [-getElem?_pos, -getElem?_neg]; refine hK _ _ ?_; clear hK K)
      refine aw_block ?_
      refine aw_loop (fun c α G => ∃ k : Nat, k + c = 3 ∧ α 13 = .int .i64 (k : Nat) ∧ α 12 = .pointer (some ⟨wb, 0, none⟩) ∧ α 3 = .pointer (some ⟨p1, 0, none⟩) ∧ α 4 = .pointer (some ⟨p2, 0, none⟩) ∧ α 5 = .pointer (some ⟨p3, 0, none⟩) ∧ α 6 = kv ∧ α 10 = .int .i64 0 ∧
        Many (fun j => decide (j < H.length) || FK.contains j) G' H.length G [(p1, F1, E), (p2, F2', Eb), (p3, F3, C2)] ∧ hget G wb = some ⟨[.string (w k 0), .string (w k 1), .string (w k 2)], 54, none⟩) 3 ?_ ?_
      · exact ⟨0, by omega, by (first | (simp [put_at, put_none, fr0_at]; done) | rfl), by simp [put_at, hwb], by (first | (simp [put_at, put_none, fr0_at, h3]; done) | rfl), by (first | (simp [put_at, put_none, fr0_at, h4]; done) | rfl), by (first | (simp [put_at, put_none, fr0_at, h5]; done) | rfl), by (first | (simp [put_at, put_none, fr0_at, h6]; done) | rfl), by (first | (simp [put_at, put_none, fr0_at, h10]; done) | rfl), hm4, by rw [hgw]; simp [hw]⟩
      clear h0 h3 h4 h5 h6 h10 h11 h74 hm4
      rintro c3 α G ⟨k, hkc, h13, h12, h3, h4, h5, h6, h10, hm4, hgw2⟩
      have hwlt := hget_lt hgw2
      refine aw_seq ?_
      refine aw_seq ?_
      by_cases hk : k < 3
      · (refine aw_ops (by kernel_rfl) (fun K hK => ?_); simp (disch := first | omega | (simp only [List.length_set, List.length_append, List.length_cons, List.length_nil, iv_length, zl_length]; try omega; done)) [-getElem?_pos, -getElem?_neg, h13, hk]; refine hK _ _ ?_; clear hK K)
        refine aw_t (by (first | (simp [eval_tmp, put_at, hk]; done) | (simp [eval_tmp, put_at, hk]; omega))) (by kernel_rfl) ?_
        refine aw_skip ?_
        refine aw_seq ?_
        refine aw_block ?_
        have hse := settled_ac (nro := H.length) (γ := γ) (hm4.dk 2 _ rfl) (k : Nat)
        simp only [hnC2] at hse
        rw [← hrd k] at hse
        have hstep : [Value.string (w k 0), .string (w k 1), .string (w k 2)].set k (.string (rd k)) = [.string (w (k + 1) 0), .string (w (k + 1) 1), .string (w (k + 1) 2)] := by
          have hk3 : k = 0 ∨ k = 1 ∨ k = 2 := by omega
          rcases hk3 with rfl | rfl | rfl <;> simp [hw]
        refine aw_ops (by kernel_rfl) (fun K hK => ?_)
        simp (disch := first | omega | (simp only [List.length_set, List.length_append, List.length_cons, List.length_nil, iv_length, zl_length]; try omega; done)) [-getElem?_pos, -getElem?_neg, h13, h5]
        refine ⟨by kernel_rfl, hse.mono ?_⟩
        rintro v4 G4 ⟨rfl, rfl⟩
        generalize [Value.string (w k 0), .string (w k 1), .string (w k 2)] = cs at *
        have hcl : cs.length = 3 := by
          have := congrArg List.length hstep
          simpa using this
        simp (disch := first | omega | (simp only [List.length_set, List.length_append, List.length_cons, List.length_nil, iv_length, zl_length]; try omega; done)) [-getElem?_pos, -getElem?_neg, h12, hgw2, hcl, hstep]
        refine hK _ _ ?_; clear hK K
        (refine aw_ops (by kernel_rfl) (fun K hK => ?_); simp (disch := first | omega | (simp only [List.length_set, List.length_append, List.length_cons, List.length_nil, iv_length, zl_length]; try omega; done)) [-getElem?_pos, -getElem?_neg, h13]; refine hK _ _ ?_; clear hK K)
        refine ⟨c3 - 1, by omega, k + 1, by omega, by (first | (simp [put_at, put_none, fr0_at]; done) | rfl), by (first | (simp [put_at, put_none, fr0_at, h12]; done) | rfl), by (first | (simp [put_at, put_none, fr0_at, h3]; done) | rfl), by (first | (simp [put_at, put_none, fr0_at, h4]; done) | rfl), by (first | (simp [put_at, put_none, fr0_at, h5]; done) | rfl), by (first | (simp [put_at, put_none, fr0_at, h6]; done) | rfl), by (first | (simp [put_at, put_none, fr0_at, h10]; done) | rfl), ?_, by rw [hget_set_eq hwlt]⟩
        refine hm4.keep (by simp) (fun k x hx j hj => hget_set_ne (fun e => hwF k x hx (by rw [e]; exact hj))) (fun j hj => ?_)
        have := hm4.st j hj
        exact ⟨by simp; exact this.1, this.2.1, by rw [hget_set_ne (fun e => hwS j hj e.symm)]; exact this.2.2⟩
      · obtain rfl : k = 3 := by omega
        (refine aw_ops (by kernel_rfl) (fun K hK => ?_); simp (disch := first | omega | (simp only [List.length_set, List.length_append, List.length_cons, List.length_nil, iv_length, zl_length]; try omega; done)) [-getElem?_pos, -getElem?_neg, h13]; refine hK _ _ ?_; clear hK K)
        refine aw_f (by (first | (simp [eval_tmp, put_at]; done) | (simp [eval_tmp, put_at]; omega))) (by kernel_rfl) ?_
        refine aw_exit ?_
        have hkp2 := hkp.low (fun j hj => (hm4.st j (by simp [hj])).2.2)
        have hkF : ∀ (F : List Nat), (∀ j ∈ FK, j ∉ F) → SlS G F kv (iv .u8 (List.replicate i 4)) := fun F hF => by
          rcases hkp2 with ⟨rfl, hc, _⟩ | ⟨j, len, rfl, hg, hl, rfl⟩
          · exact fun G2 _ => .inl ⟨none, rfl, hc⟩
          · refine SlV.stable (.inr ⟨j, 0, _, ?_, hg, fun i x hx => by rw [Nat.zero_add]; exact hx⟩) (fun j' off k e hm => ?_)
            · rw [hl, Nat.mul_one]
            · cases e; exact hF j (by simp) hm
        have hE2 : (E.crash (List.replicate i 4)).firm = E.late := by
          unfold DM.crash
          simp only
          rw [crF_all hoE.rows hoE.uns (fun n hn => ?_) _ (Nat.le_refl _), List.take_length]
          · rfl
          · unfold keptN
            rw [if_pos (by simp; omega), List.getD_eq_getElem?_getD, List.getElem?_replicate, if_pos (by omega)]
            rfl
        have ca := crash_ac (nro := H.length) (γ := γ) (hm4.dk 0 _ rfl) (hm4.lo1 0 _ rfl) hm4.len (hkF F1 (fun j hj => (hm4.st j (by simp [hj])).2.1 0 _ rfl)) (fun x hx => by rw [List.eq_of_mem_replicate hx]; omega)
        refine aw_seq ?_
        refine aw_ops (by kernel_rfl) (fun K hK => ?_)
        simp (disch := first | omega | (simp only [List.length_set, List.length_append, List.length_cons, List.length_nil, iv_length, zl_length]; try omega; done)) [-getElem?_pos, -getElem?_neg, h3, h6]
        refine ⟨by kernel_rfl, ca.mono ?_⟩
        rintro v4 G4 ⟨F1', hd4, hf4⟩
        have hm5 := hm4.step (i := 0) rfl hf4 hd4
        simp only [List.set_cons_zero] at hm5
        have hgw4 : hget G4 wb = _ := (hf4.out wb hwlt (hwF 0 _ rfl)).trans hgw2
        try simp (disch := first | omega | (simp only [List.length_set, List.length_append, List.length_cons, List.length_nil, iv_length, zl_length]; try omega; done)) [-getElem?_pos, -getElem?_neg]
        refine hK _ _ ?_; clear hK K
        have hoC2 := (hm5.dk 2 _ rfl).1
        simp only at hoC2
        have cc := crash_ac (nro := H.length) (γ := γ) (hm5.dk 2 _ rfl) (hm5.lo1 2 _ rfl) hm5.len (kv := .slice none 0 0) (ks := []) (fun G2 _ => .inl ⟨none, rfl, rfl⟩) (fun x hx => by cases hx)
        have hC3 : (C2.crash []).firm = Cf := by
          unfold DM.crash
          simp only
          rw [crF_nil hoC2.rows hoC2.uns]; exact hnC2
        have hC3l : (C2.crash []).late = Cf := hC3
        refine aw_seq ?_
        refine aw_ops (by kernel_rfl) (fun K hK => ?_)
        simp (disch := first | omega | (simp only [List.length_set, List.length_append, List.length_cons, List.length_nil, iv_length, zl_length]; try omega; done)) [-getElem?_pos, -getElem?_neg, h5]
        refine ⟨by kernel_rfl, cc.mono ?_⟩
        rintro v5 G5 ⟨F3', hd5, hf5⟩
        have hm6 := hm5.step (i := 2) rfl hf5 hd5
        simp only [List.set_cons_succ, List.set_cons_zero] at hm6
        have hwlt4 : wb < G4.length := Nat.lt_of_lt_of_le hwlt hf4.len
        have hgw5 : hget G5 wb = _ := (hf5.out wb hwlt4 (hwF 2 (p3, F3, C2) rfl)).trans hgw4
        try simp (disch := first | omega | (simp only [List.length_set, List.length_append, List.length_cons, List.length_nil, iv_length, zl_length]; try omega; done)) [-getElem?_pos, -getElem?_neg]
        refine hK _ _ ?_; clear hK K
        generalize E.crash (List.replicate i 4) = Ea at *
        generalize C2.crash [] = Cc at *
        have hw3 : ∀ j, j < 3 → w 3 j = rd j := fun j hj => by rw [hw, if_pos hj]
        rw [hw3 0 (by omega), hw3 1 (by omega), hw3 2 (by omega)] at hgw5
        refine aw_seq ?_
        refine aw_seq ?_
        (refine aw_ops (by kernel_rfl) (fun K hK => ?_); simp (disch := first | omega | (simp only [List.length_set, List.length_append, List.length_cons, List.length_nil, iv_length, zl_length]; try omega; done)) [-getElem?_pos, -getElem?_neg]; refine hK _ _ ?_; clear hK K)
        refine aw_block ?_
        refine aw_loop (fun c α G => ∃ k : Nat, k + c = 3 ∧ α 14 = .int .i64 (k : Nat) ∧ α 12 = .pointer (some ⟨wb, 0, none⟩) ∧ α 3 = .pointer (some ⟨p1, 0, none⟩) ∧ α 4 = .pointer (some ⟨p2, 0, none⟩) ∧ α 5 = .pointer (some ⟨p3, 0, none⟩) ∧ α 10 = .int .i64 0 ∧ G = G5) 3 ?_ ?_
        · exact ⟨0, by omega, by (first | (simp [put_at, put_none, fr0_at]; done) | rfl), by (first | (simp [put_at, put_none, fr0_at, h12]; done) | rfl), by (first | (simp [put_at, put_none, fr0_at, h3]; done) | rfl), by (first | (simp [put_at, put_none, fr0_at, h4]; done) | rfl), by (first | (simp [put_at, put_none, fr0_at, h5]; done) | rfl), by (first | (simp [put_at, put_none, fr0_at, h10]; done) | rfl), rfl⟩
        clear h12 h3 h4 h5 h6 h10 h13
        rintro c4 α G6 ⟨k, hkc, h14, h12, h3, h4, h5, h10, rfl⟩
        refine aw_seq ?_
        refine aw_seq ?_
        by_cases hk : k < 3
        · (refine aw_ops (by kernel_rfl) (fun K hK => ?_); simp (disch := first | omega | (simp only [List.length_set, List.length_append, List.length_cons, List.length_nil, iv_length, zl_length]; try omega; done)) [-getElem?_pos, -getElem?_neg, h14, hk]; refine hK _ _ ?_; clear hK K)
          refine aw_t (by (first | (simp [eval_tmp, put_at, hk]; done) | (simp [eval_tmp, put_at, hk]; omega))) (by kernel_rfl) ?_
          refine aw_skip ?_
          refine aw_seq ?_
          refine aw_block ?_
          have hEbf : Eb.firm = Ea.firm := by rw [hEd, hE2]
          have hh3 : hasB Cc.firm.length (k : Nat) = true := by rw [hC3]; simp [hasB, hCl]; omega
          have hrc := read_ac (nro := H.length) (γ := γ) (hm6.dk 2 _ rfl) (k : Nat)
          simp only [hC3l, hh3, if_true] at hrc
          rw [← hrd k] at hrc
          have sa : ∀ L : AH, AC Try.prog (G6 ++ L).length γ 23 #[.pointer (some ⟨p1, 0, none⟩), .int .i64 (k : Nat)] (G6 ++ L) (fun v' _ => v' = .string (readV Ea.firm (k : Nat))) := fun L => (settled_ac ((hm6.push L).dk 0 _ rfl) _).mono fun _ _ h => h.1
          have sb : ∀ L : AH, AC Try.prog (G6 ++ L).length γ 23 #[.pointer (some ⟨p2, 0, none⟩), .int .i64 (k : Nat)] (G6 ++ L) (fun v' _ => v' = .string (readV Ea.firm (k : Nat))) := fun L => (settled_ac ((hm6.push L).dk 1 _ rfl) _).mono fun _ _ h => by rw [← hEbf]; exact h.1
          have sc : ∀ L : AH, AC Try.prog (G6 ++ L).length γ 23 #[.pointer (some ⟨p3, 0, none⟩), .int .i64 (k : Nat)] (G6 ++ L) (fun v' _ => v' = .string (rd k)) := fun L => (settled_ac ((hm6.push L).dk 2 _ rfl) _).mono fun _ _ h => by rw [hrd, ← hC3]; exact h.1
          have hcell : [Value.string (rd 0), .string (rd 1), .string (rd 2)][k]? = some (.string (rd k)) := by
            have hk3 : k = 0 ∨ k = 1 ∨ k = 2 := by omega
            rcases hk3 with rfl | rfl | rfl <;> rfl
          generalize [Value.string (rd 0), .string (rd 1), .string (rd 2)] = cs at *
          generalize readV Ea.firm (k : Nat) = X at *
          generalize rd k = Y at *
          refine aw_seq ?_
          refine aw_ops (by kernel_rfl) (fun K hK => ?_)
          simp (disch := first | omega | (simp only [List.length_set, List.length_append, List.length_cons, List.length_nil, iv_length, zl_length]; try omega; done)) [-getElem?_pos, -getElem?_neg, h14, h5]
          refine ⟨by kernel_rfl, hrc.mono ?_⟩
          rintro v4 G4 ⟨rfl, rfl⟩
          try simp (disch := first | omega | (simp only [List.length_set, List.length_append, List.length_cons, List.length_nil, iv_length, zl_length]; try omega; done)) [-getElem?_pos, -getElem?_neg]
          refine hK _ _ ?_; clear hK K
          refine aw_seq ?_
          (refine aw_plan [] [] [0, 1, 2, 3, 4, 5, 6, 7, 8, 9, 10, 11, 12, 13, 14, 15, 16, 17, 18, 19, 20, 21, 22, 23, 24, 25, 26] 27 0 (by kernel_rfl) (by kernel_rfl) (by kernel_rfl) (fun K hK => ?_)); simp only [sel, List.getElem?_cons_succ, List.getElem?_cons_zero, List.drop_succ_cons, List.drop_zero]; simp (disch := first | omega | (simp only [List.length_set, List.length_append, List.length_cons, List.length_nil, iv_length, zl_length]; try omega; done)) [-getElem?_pos, -getElem?_neg, h14, h3, h4, h5, h12, hgw5, hcell, PL_nil, PL_cons, PLc_val, PLc_new, stepP_t, stepP_f, stepPC_n, stepPC_s, stepPX_s, stepPX_n, stepPA_t, stepPA_c, stepPA_l, stepPN_s, allocOp, reloc_sl, reloc_ptr, List.map_cons, List.map_nil, List.nil_append, List.append_assoc, List.cons_append, Nat.add_assoc]
          refine PLc_call (by kernel_rfl) (fun L hL => sa L) (by simp [pv_iv, pv_int, pv_bool, pv_string, pv_tup2, pv_tup3, iv_plain, p2_int, p2_bool, p2_string]) ?_
          try simp (disch := first | omega | (simp only [List.length_set, List.length_append, List.length_cons, List.length_nil, iv_length, zl_length]; try omega; done)) [-getElem?_pos, -getElem?_neg, h14, h3, h4, h5, h12, hgw5, hcell, beq_self_eq_true, PL_nil, PL_cons, PLc_val, PLc_new, stepP_t, stepP_f, stepPC_n, stepPC_s, stepPX_s, stepPX_n, stepPA_t, stepPA_c, stepPA_l, stepPN_s, allocOp, reloc_sl, reloc_ptr, List.map_cons, List.map_nil, List.nil_append, List.append_assoc, List.cons_append, Nat.add_assoc]
          refine PLc_call (by kernel_rfl) (fun L hL => sb L) (by simp [pv_iv, pv_int, pv_bool, pv_string, pv_tup2, pv_tup3, iv_plain, p2_int, p2_bool, p2_string]) ?_
          try simp (disch := first | omega | (simp only [List.length_set, List.length_append, List.length_cons, List.length_nil, iv_length, zl_length]; try omega; done)) [-getElem?_pos, -getElem?_neg, h14, h3, h4, h5, h12, hgw5, hcell, beq_self_eq_true, PL_nil, PL_cons, PLc_val, PLc_new, stepP_t, stepP_f, stepPC_n, stepPC_s, stepPX_s, stepPX_n, stepPA_t, stepPA_c, stepPA_l, stepPN_s, allocOp, reloc_sl, reloc_ptr, List.map_cons, List.map_nil, List.nil_append, List.append_assoc, List.cons_append, Nat.add_assoc]
          refine PLc_call (by kernel_rfl) (fun L hL => sc L) (by simp [pv_iv, pv_int, pv_bool, pv_string, pv_tup2, pv_tup3, iv_plain, p2_int, p2_bool, p2_string]) ?_
          try simp (disch := first | omega | (simp only [List.length_set, List.length_append, List.length_cons, List.length_nil, iv_length, zl_length]; try omega; done)) [-getElem?_pos, -getElem?_neg, h14, h3, h4, h5, h12, hgw5, hcell, beq_self_eq_true, PL_nil, PL_cons, PLc_val, PLc_new, stepP_t, stepP_f, stepPC_n, stepPC_s, stepPX_s, stepPX_n, stepPA_t, stepPA_c, stepPA_l, stepPN_s, allocOp, reloc_sl, reloc_ptr, List.map_cons, List.map_nil, List.nil_append, List.append_assoc, List.cons_append, Nat.add_assoc]
          refine hK _ _ ?_; clear hK K
          refine aw_f (by (first | (simp [eval_tmp, put_at]; done) | (simp [eval_tmp, put_at]; omega))) (by kernel_rfl) ?_
          refine aw_skip ?_
          (refine aw_ops (by kernel_rfl) (fun K hK => ?_); simp (disch := first | omega | (simp only [List.length_set, List.length_append, List.length_cons, List.length_nil, iv_length, zl_length]; try omega; done)) [-getElem?_pos, -getElem?_neg, h14]; refine hK _ _ ?_; clear hK K)
          exact ⟨c4 - 1, by omega, k + 1, by omega, by (first | (simp [put_at, put_none, fr0_at]; done) | rfl), by (first | (simp [put_at, put_none, fr0_at, h12]; done) | rfl), by (first | (simp [put_at, put_none, fr0_at, h3]; done) | rfl), by (first | (simp [put_at, put_none, fr0_at, h4]; done) | rfl), by (first | (simp [put_at, put_none, fr0_at, h5]; done) | rfl), by (first | (simp [put_at, put_none, fr0_at, h10]; done) | rfl), rfl⟩
        · (refine aw_ops (by kernel_rfl) (fun K hK => ?_); simp (disch := first | omega | (simp only [List.length_set, List.length_append, List.length_cons, List.length_nil, iv_length, zl_length]; try omega; done)) [-getElem?_pos, -getElem?_neg, h14, hk]; refine hK _ _ ?_; clear hK K)
          refine aw_f (by (first | (simp [eval_tmp, put_at, hk]; done) | (simp [eval_tmp, put_at, hk]; omega))) (by kernel_rfl) ?_
          refine aw_exit ?_
          refine aw_seq ?_
          refine aw_ops (by kernel_rfl) (fun K hK => ?_)
          simp (disch := first | omega | (simp only [List.length_set, List.length_append, List.length_cons, List.length_nil, iv_length, zl_length]; try omega; done)) [-getElem?_pos, -getElem?_neg]
          refine ⟨by kernel_rfl, ac_of_vc (by simp [pv_iv, pv_int, pv_bool, pv_string, pv_tup2, pv_tup3, iv_plain, p2_int, p2_bool, p2_string]) alive_vc ?_⟩
          simp (disch := first | omega | (simp only [List.length_set, List.length_append, List.length_cons, List.length_nil, iv_length, zl_length]; try omega; done)) [-getElem?_pos, -getElem?_neg, h10]
          refine hK _ _ ?_; clear hK K
          (refine aw_ret ?_; simp (disch := first | omega | (simp only [List.length_set, List.length_append, List.length_cons, List.length_nil, iv_length, zl_length]; try omega; done)) [-getElem?_pos, -getElem?_neg, thenQ_ret, inBlockQ_ret, RQ, resL, resV])
end Go.Proofs.Ytadbgdhbamdiaaa
