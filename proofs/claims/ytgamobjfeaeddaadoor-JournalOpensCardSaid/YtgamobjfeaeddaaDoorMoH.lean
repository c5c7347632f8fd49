/-
  JournalOpens.
-/
import Derived.Test.YtgamobjfeaeddaaDoorMoG
namespace Go.Proofs.YtgamobjfeaeddaaDoor
section
open Go Go.RowKit
set_option linter.unusedSimpArgs false
set_option linter.unusedVariables false
set_option maxRecDepth 100000
set_option maxHeartbeats 4000000

/-- Both disks, alike. -/
structure OS (H G : AH) (d q N : Nat) (D : DM) (FD FR : List Nat) : Prop where
  dk : Dk G d FD D
  rk : Rk G q FR D
  well : D.Well
  uns : D.uns = []
  len : D.firm.length = N
  dis : ∀ j ∈ FD, j ∉ FR
  n1 : ∀ j ∈ FD, H.length ≤ j
  n2 : ∀ j ∈ FR, H.length ≤ j
  low : Low H.length H G
theorem OS.grow {H G G' : AH} {d q N : Nat} {D : DM} {FD FR : List Nat} (h : OS H G d q N D FD FR) (hl : Low G.length G G') : OS H G' d q N D FD FR :=
  ⟨h.dk.low (fun j hj => hl.1 j (h.dk.lt j hj)), h.rk.low (fun j hj => hl.1 j (h.rk.lt j hj)), h.well, h.uns, h.len, h.dis, h.n1, h.n2, h.low.trans ⟨fun j hj => hl.1 j (by have := h.low.2; omega), by have := h.low.2; have := hl.2; omega⟩⟩
theorem OS.lay {H G : AH} {γ : Nat → Option Nat} {d q N : Nat} {D : DM} {FD FR : List Nat} (h : OS H G d q N D FD FR) (at_ : Int) (l : List Int) (hb : By l) (hl : l.length ≤ 256) :
    AC Tryd.prog H.length γ 11 #[.pointer (some ⟨d, 0, none⟩), .pointer (some ⟨q, 0, none⟩), .int .i64 at_, .string (strOfNums l)] G
      (fun v' G' => G.length ≤ G'.length ∧ (∀ j, j < G.length → j ∉ FD → j ∉ FR → hget G' j = hget G j) ∧ ∃ D' FD' FR', OS H G' d q N D' FD' FR' ∧ (∀ j ∈ FD', j ∈ FD ∨ G.length ≤ j) ∧ (∀ j ∈ FR', j ∈ FR ∨ G.length ≤ j)) :=
  (lay_ac h.low.2 h.dk h.rk h.well h.uns h.dis h.n1 h.n2 at_ l hb hl).mono fun v' G' ⟨FD', FR', D', a1, a2, a3, a4, a5, a6, a7, a8, a9, a10⟩ =>
    ⟨a7, a8, D', FD', FR', ⟨a1, a2, a3, a4, a5.trans h.len, a6, fun j hj => by
      rcases a9 j hj with h' | h'
      · exact h.n1 j h'
      · have := h.low.2; omega, fun j hj => by
      rcases a10 j hj with h' | h'
      · exact h.n2 j h'
      · have := h.low.2; omega, ⟨fun j hj => (a8 j (by have := h.low.2; omega) (fun hm => by have := h.n1 j hm; omega) (fun hm => by have := h.n2 j hm; omega)).trans (h.low.1 j hj), by have := h.low.2; omega⟩⟩, a9, a10⟩
attribute [local irreducible] markL textsB openJ newD
attribute [local simp] wb_bool wb_undef XL_nil XL_cons XLc_val XLc_call step1_eq stepW_t stepW_f stepC_n stepC_s stepX_s stepX_n stepN_s calleeX oneV xop_eq xopR_s xopR_n wantedA_eq wantedG_n wantedG_s plain1_int plain1_bool plain1_string bits_i64 bits_u64 bits_u32 bits_u16 bits_u8 xeqA xagg xcmp xarr allK_iv num_iv calleeOf xread xeff xbin xint xnil xun xstr xload xconv xpart xfield xfieldAddr xindexAddr xindex bnd asInt? xslice xlen xmin xmax xbuild xfill xappend xapp2 xappstr xappmk xcap xcopy xcells eval_tmp eval_const put_at put_none fr0_at cells_agg cells_int cells_bool cells_string cells_ptr cells_slice notTuple tab iv_all hget_app hget_app0 hget_cons0 hget_cons set_app set_app0 setR setR_one QL_nil QL_cons QLc_val stepQ_t stepQ_f stepQC_n stepQC_s stepQX_s SL_nil SL_cons SLc_val stepS_t stepS_f ltT ltF leT leF eqT eqF ltTn ltFn leTn leFn eqTn eqFn beqT beqF bneT bneF wi64 wu64 wu32 wu16 wu8 tmodP tdivP hgetL hgetNe hgetEq setL nums_def nums_len Nat.succ_le_of_lt List.getElem?_cons_zero List.getElem?_cons_succ Option.getD_some Int.toNat_add Int.toNat_mul agB agI agS agP agL agA okB okI okS okP okSl okA
theorem records_fix {nro : Nat} {γ : Nat → Option Nat} {H : AH} (hnl : nro ≤ H.length) {q d : Nat} {rv : Value} {FD FR : List Nat} {J : JM} (h : JrR H q d rv FD FR J) (hl : J.recs.length ≤ 1000000) :
    ∃ v0, AC Tryd.prog nro γ 15 #[.pointer (some ⟨q, 0, none⟩)] H (fun v' H' => v' = v0 ∧ Part H' H'.length v' (J.recs.map .string) ∧ H.length ≤ H'.length ∧ ∀ j, j < H.length → hget H' j = hget H j) := by
  have hq := h.hq
  have hp := h.hr.part
  have hsh := h.hr.nt
  obtain ⟨v0, hcl⟩ := clone_fix (nro := nro) (γ := γ) hp (by simpa using hl) hnl
  refine ⟨v0, ?_⟩
  refine ac_of_aw Tryd.func15 rfl Tryd.ntmps15 Tryd.results15 (by simp) ?_
  refine aw_seq ?_
  (refine aw_ops (by kernel_rfl) (fun K hK => ?_); simp (disch := first | omega | (simp only [List.length_set, List.length_append, List.length_cons, List.length_nil, iv_length, zl_length]; try omega; done)) [-getElem?_pos, -getElem?_neg]; refine hK _ _ ?_; clear hK K)
  refine aw_seq ?_
  refine aw_seq ?_
  (refine aw_ops (by kernel_rfl) (fun K hK => ?_); simp (disch := first | omega | (simp only [List.length_set, List.length_append, List.length_cons, List.length_nil, iv_length, zl_length]; try omega; done)) [-getElem?_pos, -getElem?_neg]; refine hK _ _ ?_; clear hK K)
  refine aw_f (by (first | (simp [eval_tmp, put_at]; done) | (simp [eval_tmp, put_at]; omega))) (by kernel_rfl) ?_
  refine aw_skip ?_
  refine aw_seq ?_
  refine aw_ops (by kernel_rfl) (fun K hK => ?_)
  simp (disch := first | omega | (simp only [List.length_set, List.length_append, List.length_cons, List.length_nil, iv_length, zl_length]; try omega; done)) [-getElem?_pos, -getElem?_neg, hq, -notTuple, hsh.1]
  refine ⟨by kernel_rfl, AC.mono hcl ?_⟩
  rintro v1 G ⟨h0, h1, h2, h3⟩
  have hn := h1.nt
  try simp (disch := first | omega | (simp only [List.length_set, List.length_append, List.length_cons, List.length_nil, iv_length, zl_length]; try omega; done)) [-getElem?_pos, -getElem?_neg, -notTuple, hn]
  refine hK _ _ ?_; clear hK K
  (refine aw_ret ?_; simp (disch := first | omega | (simp only [List.length_set, List.length_append, List.length_cons, List.length_nil, iv_length, zl_length]; try omega; done)) [-getElem?_pos, -getElem?_neg, thenQ_ret, scopeQ_ret, inBlockQ_ret, RQ, resL, resV, -notTuple, hn])
  exact ⟨h0, h1, h3⟩
theorem records_fixT {nro : Nat} {γ : Nat → Option Nat} {H : AH} (hnl : nro ≤ H.length) {q d : Nat} {rv : Value} {FD FR : List Nat} {J : JM} (h : JrR H q d rv FD FR J) (hl : J.recs.length ≤ 1000000) :
    ∃ v0, notTuple v0 = true ∧ AC Tryd.prog nro γ 15 #[.pointer (some ⟨q, 0, none⟩)] H (fun v' H' => v' = v0 ∧ Part H' H'.length v' (J.recs.map .string) ∧ H.length ≤ H'.length ∧ ∀ j, j < H.length → hget H' j = hget H j) := by
  obtain ⟨v0, hr⟩ := records_fix (nro := nro) (γ := γ) hnl h hl
  refine ⟨if notTuple v0 = true then v0 else .slice none 0 0, ?_, hr.mono fun v' H' hh => ?_⟩
  · by_cases hn : notTuple v0 = true
    · rw [if_pos hn]; exact hn
    · rw [if_neg hn]; rfl
  · have hn := hh.2.1.nt
    rw [hh.1] at hn
    rw [if_pos hn]
    exact hh
theorem textsB_ge : ∀ ps : List ByteArray, totS ps + ps.length ≤ (textsB ps).length
  | [] => by simp [totS]
  | s :: ps => by
    have h1 := textsB_ge ps
    have e : textsB (s :: ps) = textB s ++ textsB ps := by with_unfolding_all simp [textsB]
    rw [e, List.length_append]
    unfold textB numB
    simp only [totS, List.map_cons, List.sum_cons, List.length_cons, List.length_append, nums_len, List.length_nil] at h1 ⊢
    omega
theorem totS_mem : ∀ (ps : List ByteArray) (s : ByteArray), s ∈ ps → s.size ≤ totS ps
  | t :: ps, s, h => by
    simp only [totS, List.map_cons, List.sum_cons]
    rcases List.mem_cons.1 h with rfl | h
    · omega
    · have := totS_mem ps s h
      simp only [totS] at this
      omega
theorem opens_law {H : AH} (hG : GG H) (h2 : 2 ≤ H.length) (blocks : Int) {ps : List ByteArray} {lv : Value} (hsl : SlV H lv (ps.map .string)) (first : ByteArray) (area : Bool) (n at_ b : Int)
    (wbl : -9223372036854775808 ≤ blocks ∧ blocks ≤ 9223372036854775807) (wn : -9223372036854775808 ≤ n ∧ n ≤ 9223372036854775807) (wat : -9223372036854775808 ≤ at_ ∧ at_ ≤ 9223372036854775807) (wb : 0 ≤ b ∧ b ≤ 255) (wf : first.size ≤ maxLen) (wps : ∀ s ∈ ps, s.size ≤ maxLen) (wpl : ps.length ≤ maxLen) :
    AC Tryd.prog H.length gm 3 #[.int .i64 blocks, lv, .string first, .bool area, .int .i64 n, .int .i64 at_, .int .u8 b] H (fun v' _ => v' = .bool true) := by
  have hal := alive_rc hG h2
  have hstr : ∀ L, StrV (H ++ L) lv ps := fun L => (hsl.app L).str
  have hno := (hstr []).nt
  simp only [maxLen] at wf wps wpl
  have hgreat := great_rc (γ := gm) (H := H) hsl.str (fun s hs => by have := wps s hs; omega) (by omega)
  obtain ⟨kk, hkk⟩ : ∃ kk : Nat, ((IntKind.u64.wrap blocks).tmod 9) = (kk : Nat) ∧ kk ≤ 8 := by
    have h0 : 0 ≤ IntKind.u64.wrap blocks := by simp only [IntKind.wrap, IntKind.bits, IntKind.signed]; simp; omega
    rw [Int.tmod_eq_emod_of_nonneg h0]
    exact ⟨(IntKind.u64.wrap blocks % 9).toNat, by omega, by omega⟩
  refine ac_of_aw Tryd.func3 rfl Tryd.ntmps3 Tryd.results3 (by simp) ?_
  refine aw_seq ?_
  (refine aw_ops (by kernel_rfl) (fun K hK => ?_); simp (disch := first | omega | (simp only [List.length_set, List.length_append, List.length_cons, List.length_nil, iv_length, zl_length]; try omega; done)) [-getElem?_pos, -getElem?_neg]; refine hK _ _ ?_; clear hK K)
  refine aw_seq ?_
  refine aw_seq ?_
  refine aw_ops (by kernel_rfl) (fun K hK => ?_)
  simp (disch := first | omega | (simp only [List.length_set, List.length_append, List.length_cons, List.length_nil, iv_length, zl_length]; try omega; done)) [-getElem?_pos, -getElem?_neg]
  refine ⟨by kernel_rfl, ac_of_rc hal (by simp [pv_iv, pv_int, pv_bool, pv_string, pv_tup2, pv_tup3, iv_plain, p2_int, p2_bool, p2_string]) ?_⟩
  simp (disch := first | omega | (simp only [List.length_set, List.length_append, List.length_cons, List.length_nil, iv_length, zl_length]; try omega; done)) [-getElem?_pos, -getElem?_neg]
  refine hK _ _ ?_; clear hK K
  refine aw_f (by (first | (simp [eval_tmp, put_at]; done) | (simp [eval_tmp, put_at]; omega))) (by kernel_rfl) ?_
  refine aw_skip ?_
  refine aw_seq ?_
  refine aw_seq ?_
  refine aw_cut (fun α G => α 36 = .bool (grJ ps || decide (64 < first.size)) ∧ H = G ∧ α 0 = .int .i64 blocks ∧ α 1 = lv ∧ α 2 = .string first ∧ α 3 = .bool area ∧ α 4 = .int .i64 n ∧ α 5 = .int .i64 at_ ∧ α 6 = .int .u8 b) ?_ ?_
  · refine aw_ops (by kernel_rfl) (fun K hK => ?_)
    simp (disch := first | omega | (simp only [List.length_set, List.length_append, List.length_cons, List.length_nil, iv_length, zl_length]; try omega; done)) [-getElem?_pos, -getElem?_neg, -notTuple, hno]
    refine ⟨by kernel_rfl, ac_of_rc hgreat (by simp [pv_iv, pv_int, pv_bool, pv_string, pv_tup2, pv_tup3, iv_plain, p2_int, p2_bool, p2_string]) ?_⟩
    cases hgr : grJ ps with
    | true =>
      simp (disch := first | omega | (simp only [List.length_set, List.length_append, List.length_cons, List.length_nil, iv_length, zl_length]; try omega; done)) [-getElem?_pos, -getElem?_neg]
      refine hK _ _ ?_; clear hK K
      exact ⟨by (first | (simp [put_at, put_none, fr0_at, hgr]; done) | rfl), rfl, by (first | (simp [put_at, put_none, fr0_at]; done) | rfl), by (first | (simp [put_at, put_none, fr0_at]; done) | rfl), by (first | (simp [put_at, put_none, fr0_at]; done) | rfl), by (first | (simp [put_at, put_none, fr0_at]; done) | rfl), by (first | (simp [put_at, put_none, fr0_at]; done) | rfl), by (first | (simp [put_at, put_none, fr0_at]; done) | rfl), by (first | (simp [put_at, put_none, fr0_at]; done) | rfl)⟩
    | false =>
      by_cases hf : 64 < first.size
      · simp (disch := first | omega | (simp only [List.length_set, List.length_append, List.length_cons, List.length_nil, iv_length, zl_length]; try omega; done)) [-getElem?_pos, -getElem?_neg, hf]
        refine hK _ _ ?_; clear hK K
        exact ⟨by (first | (simp [put_at, put_none, fr0_at, hgr, hf]; done) | rfl), rfl, by (first | (simp [put_at, put_none, fr0_at]; done) | rfl), by (first | (simp [put_at, put_none, fr0_at]; done) | rfl), by (first | (simp [put_at, put_none, fr0_at]; done) | rfl), by (first | (simp [put_at, put_none, fr0_at]; done) | rfl), by (first | (simp [put_at, put_none, fr0_at]; done) | rfl), by (first | (simp [put_at, put_none, fr0_at]; done) | rfl), by (first | (simp [put_at, put_none, fr0_at]; done) | rfl)⟩
      · simp (disch := first | omega | (simp only [List.length_set, List.length_append, List.length_cons, List.length_nil, iv_length, zl_length]; try omega; done)) [-getElem?_pos, -getElem?_neg, hf]
        refine hK _ _ ?_; clear hK K
        exact ⟨by (first | (simp [put_at, put_none, fr0_at, hgr, hf]; done) | rfl), rfl, by (first | (simp [put_at, put_none, fr0_at]; done) | rfl), by (first | (simp [put_at, put_none, fr0_at]; done) | rfl), by (first | (simp [put_at, put_none, fr0_at]; done) | rfl), by (first | (simp [put_at, put_none, fr0_at]; done) | rfl), by (first | (simp [put_at, put_none, fr0_at]; done) | rfl), by (first | (simp [put_at, put_none, fr0_at]; done) | rfl), by (first | (simp [put_at, put_none, fr0_at]; done) | rfl)⟩
  rintro α G ⟨h36, rfl, h0, h1, h2', h3, h4, h5, h6⟩
  cases hgr : (grJ ps || decide (64 < first.size)) with
  | true =>
    refine aw_t (by (first | (simp [eval_tmp, put_at, h36, hgr]; done) | (simp [eval_tmp, put_at, h36, hgr]; omega))) (by kernel_rfl) ?_
    refine aw_seq ?_
    refine aw_ops (by kernel_rfl) (fun K hK => ?_)
    try simp (disch := first | omega | (simp only [List.length_set, List.length_append, List.length_cons, List.length_nil, iv_length, zl_length]; try omega; done)) [-getElem?_pos, -getElem?_neg]
    refine ⟨by kernel_rfl, ac_of_rc hal (by simp [pv_iv, pv_int, pv_bool, pv_string, pv_tup2, pv_tup3, iv_plain, p2_int, p2_bool, p2_string]) ?_⟩
    try simp (disch := first | omega | (simp only [List.length_set, List.length_append, List.length_cons, List.length_nil, iv_length, zl_length]; try omega; done)) [-getElem?_pos, -getElem?_neg]
    refine hK _ _ ?_; clear hK K
    (refine aw_ret ?_; simp (disch := first | omega | (simp only [List.length_set, List.length_append, List.length_cons, List.length_nil, iv_length, zl_length]; try omega; done)) [-getElem?_pos, -getElem?_neg, thenQ_ret, scopeQ_ret, inBlockQ_ret, RQ, resL, resV])
  | false =>
    rw [Bool.or_eq_false_iff] at hgr
    obtain ⟨hg1, hf64⟩ := hgr
    obtain ⟨gr1, gr2, gr3⟩ := grJ_f hg1
    have hf64 : first.size ≤ 64 := by simpa using hf64
    refine aw_f (by (first | (simp [eval_tmp, put_at, h36, hg1, hf64]; done) | (simp [eval_tmp, put_at, h36, hg1, hf64]; omega))) (by kernel_rfl) ?_
    refine aw_skip ?_
    clear h36
    refine aw_seq ?_
    (refine aw_ops (by kernel_rfl) (fun K hK => ?_); simp (disch := first | omega | (simp only [List.length_set, List.length_append, List.length_cons, List.length_nil, iv_length, zl_length]; try omega; done)) [-getElem?_pos, -getElem?_neg, h0, hkk.1, -tmodP]; refine hK _ _ ?_; clear hK K)
    have hnk := newN_bd kk
    have hnew := new_ac (nro := H.length) (γ := gm) (H := H) kk (Nat.le_refl _)
    have hDl : (newD kk).firm.length = newN kk := by simp [newD]
    have hD0 : (newD kk).Well ∧ (newD kk).uns = [] := ⟨⟨by with_unfolding_all rfl, by with_unfolding_all rfl⟩, by with_unfolding_all rfl⟩
    have hrnew := fun (G : AH) (h : H.length ≤ G.length) => rnew_ac (nro := H.length) (γ := gm) (H := G) kk h
    generalize newD kk = D0 at *
    have hN8 : newN kk ≤ 8 := by
      unfold newN
      have := hkk.2
      split <;> split <;> omega
    generalize newN kk = N at *
    refine aw_seq ?_
    refine aw_ops (by kernel_rfl) (fun K hK => ?_)
    simp (disch := first | omega | (simp only [List.length_set, List.length_append, List.length_cons, List.length_nil, iv_length, zl_length]; try omega; done)) [-getElem?_pos, -getElem?_neg]
    refine ⟨by kernel_rfl, AC.mono hnew ?_⟩
    rintro _ G1 ⟨rfl, hd1, L1, rfl⟩
    have hlow1 : Low H.length H (H ++ L1) := Low.push (Nat.le_refl _) _
    have hF1 : ∀ j ∈ [H.length + 2, H.length, H.length + 1], H.length ≤ j := fun j hj => by simp at hj; omega
    generalize H ++ L1 = G1 at *
    generalize [H.length + 2, H.length, H.length + 1] = F1 at *
    generalize H.length + 2 = d at *
    try simp (disch := first | omega | (simp only [List.length_set, List.length_append, List.length_cons, List.length_nil, iv_length, zl_length]; try omega; done)) [-getElem?_pos, -getElem?_neg]
    refine ⟨by kernel_rfl, AC.mono (hrnew G1 hlow1.2) ?_⟩
    rintro _ G2 ⟨rfl, F2, hr2, hf2⟩
    try simp (disch := first | omega | (simp only [List.length_set, List.length_append, List.length_cons, List.length_nil, iv_length, zl_length]; try omega; done)) [-getElem?_pos, -getElem?_neg]
    refine hK _ _ ?_; clear hK K
    have hos : OS H G2 d G1.length N D0 F1 F2 := by
      refine ⟨hd1.low (fun j hj => hf2.out j (hd1.lt j hj) (by simp)), hr2, hD0.1, hD0.2, hDl, fun j hj hm => ?_, hF1, fun j hj => ?_, hlow1.trans ⟨fun j hj => hf2.out j (by have := hlow1.2; omega) (by simp), by have := hf2.len; have := hlow1.2; omega⟩⟩
      · have := hd1.lt j hj
        rcases hf2.new j hm with h | h
        · cases h
        · omega
      · have := hlow1.2
        rcases hf2.new j hj with h | h
        · cases h
        · omega
    generalize G1.length = q at *
    clear hd1 hr2 hf2 hlow1 hF1 hnew hrnew hD0 hDl G1
    have htl := textsB_lenJ ps
    have hTb := textsB_byJ ps
    have hby := rbytes_rc (γ := gm) (H := G2) (v := lv) (ps := ps) (fun L => ((hsl.keep (H' := G2) (fun j hj => hos.low.1 j hj)).app L).str) gr1 (by omega)
    have hsT := sn_size (textsB ps)
    generalize textsB ps = TB at *
    have hTl : TB.length ≤ 4105 := by omega
    refine aw_seq ?_
    refine aw_ops (by kernel_rfl) (fun K hK => ?_)
    simp (disch := first | omega | (simp only [List.length_set, List.length_append, List.length_cons, List.length_nil, iv_length, zl_length]; try omega; done)) [-getElem?_pos, -getElem?_neg, h1, -notTuple, hno]
    refine ⟨by kernel_rfl, ac_of_rc hby (by simp [pv_iv, pv_int, pv_bool, pv_string, pv_tup2, pv_tup3, iv_plain, p2_int, p2_bool, p2_string]) ?_⟩
    try simp (disch := first | omega | (simp only [List.length_set, List.length_append, List.length_cons, List.length_nil, iv_length, zl_length]; try omega; done)) [-getElem?_pos, -getElem?_neg]
    refine hK _ _ ?_; clear hK K
    refine aw_seq ?_
    (refine aw_ops (by kernel_rfl) (fun K hK => ?_); simp (disch := first | omega | (simp only [List.length_set, List.length_append, List.length_cons, List.length_nil, iv_length, zl_length]; try omega; done)) [-getElem?_pos, -getElem?_neg]; refine hK _ _ ?_; clear hK K)
    refine aw_seq ?_
    obtain ⟨w, hw⟩ : ∃ w : Nat, w = if area then 1 else 0 := ⟨_, rfl⟩
    have hw1 : w ≤ 1 := by rw [hw]; split <;> omega
    refine aw_cut (fun α G => G2 = G ∧ α 16 = .pointer (some ⟨d, 0, none⟩) ∧ α 17 = .pointer (some ⟨q, 0, none⟩) ∧ α 18 = .string (strOfNums TB) ∧ α 19 = .int .i64 (w : Nat) ∧ α 2 = .string first ∧ α 4 = .int .i64 n ∧ α 5 = .int .i64 at_ ∧ α 6 = .int .u8 b) ?_ ?_
    · refine aw_seq ?_
      cases area with
      | true =>
        (refine aw_ops (by kernel_rfl) (fun K hK => ?_); simp (disch := first | omega | (simp only [List.length_set, List.length_append, List.length_cons, List.length_nil, iv_length, zl_length]; try omega; done)) [-getElem?_pos, -getElem?_neg, h3]; refine hK _ _ ?_; clear hK K)
        refine aw_t (by (first | (simp [eval_tmp, put_at]; done) | (simp [eval_tmp, put_at]; omega))) (by kernel_rfl) ?_
        (refine aw_ops (by kernel_rfl) (fun K hK => ?_); simp (disch := first | omega | (simp only [List.length_set, List.length_append, List.length_cons, List.length_nil, iv_length, zl_length]; try omega; done)) [-getElem?_pos, -getElem?_neg]; refine hK _ _ ?_; clear hK K)
        exact ⟨rfl, by (first | (simp [put_at, put_none, fr0_at]; done) | rfl), by (first | (simp [put_at, put_none, fr0_at]; done) | rfl), by (first | (simp [put_at, put_none, fr0_at]; done) | rfl), by (first | (simp [put_at, put_none, fr0_at, hw]; done) | rfl), by (first | (simp [put_at, put_none, fr0_at, h2']; done) | rfl), by (first | (simp [put_at, put_none, fr0_at, h4]; done) | rfl), by (first | (simp [put_at, put_none, fr0_at, h5]; done) | rfl), by (first | (simp [put_at, put_none, fr0_at, h6]; done) | rfl)⟩
      | false =>
        (refine aw_ops (by kernel_rfl) (fun K hK => ?_); simp (disch := first | omega | (simp only [List.length_set, List.length_append, List.length_cons, List.length_nil, iv_length, zl_length]; try omega; done)) [-getElem?_pos, -getElem?_neg, h3]; refine hK _ _ ?_; clear hK K)
        refine aw_f (by (first | (simp [eval_tmp, put_at]; done) | (simp [eval_tmp, put_at]; omega))) (by kernel_rfl) ?_
        refine aw_skip ?_
        exact ⟨rfl, by (first | (simp [put_at, put_none, fr0_at]; done) | rfl), by (first | (simp [put_at, put_none, fr0_at]; done) | rfl), by (first | (simp [put_at, put_none, fr0_at]; done) | rfl), by (first | (simp [put_at, put_none, fr0_at, hw]; done) | rfl), by (first | (simp [put_at, put_none, fr0_at, h2']; done) | rfl), by (first | (simp [put_at, put_none, fr0_at, h4]; done) | rfl), by (first | (simp [put_at, put_none, fr0_at, h5]; done) | rfl), by (first | (simp [put_at, put_none, fr0_at, h6]; done) | rfl)⟩
    clear h0 h1 h2' h3 h4 h5 h6
    rintro α G ⟨rfl, h16, h17, h18, h19, h2', h4, h5, h6⟩
    have hfirst : strOfNums (nums first) = first := of_nums' first
    refine aw_seq ?_
    refine aw_cut (fun α G => ∃ fl : List Int, By fl ∧ fl.length ≤ 64 ∧ G2 = G ∧ α 16 = .pointer (some ⟨d, 0, none⟩) ∧ α 17 = .pointer (some ⟨q, 0, none⟩) ∧ α 18 = .string (strOfNums TB) ∧ α 19 = .int .i64 (w : Nat) ∧ α 2 = .string (strOfNums fl) ∧ α 4 = .int .i64 n ∧ α 5 = .int .i64 at_ ∧ α 6 = .int .u8 b) ?_ ?_
    · refine aw_seq ?_
      by_cases hz : first.size = 0
      · have hz' : (first.size : Int) = 0 := by omega
        have hmk := rmark_rc (γ := gm) (H := G2) w TB.length (by omega) (by omega)
        have hmb := markL_by w TB.length
        have hml := markL_len w TB.length
        generalize markL w TB.length = M at *
        (refine aw_ops (by kernel_rfl) (fun K hK => ?_); simp (disch := first | omega | (simp only [List.length_set, List.length_append, List.length_cons, List.length_nil, iv_length, zl_length]; try omega; done)) [-getElem?_pos, -getElem?_neg, h2', hz, hz']; refine hK _ _ ?_; clear hK K)
        refine aw_t (by (first | (simp [eval_tmp, put_at]; done) | (simp [eval_tmp, put_at]; omega))) (by kernel_rfl) ?_
        refine aw_ops (by kernel_rfl) (fun K hK => ?_)
        simp (disch := first | omega | (simp only [List.length_set, List.length_append, List.length_cons, List.length_nil, iv_length, zl_length]; try omega; done)) [-getElem?_pos, -getElem?_neg, h18, h19, hsT]
        refine ⟨by kernel_rfl, ac_of_rc hmk (by simp [pv_iv, pv_int, pv_bool, pv_string, pv_tup2, pv_tup3, iv_plain, p2_int, p2_bool, p2_string]) ?_⟩
        try simp (disch := first | omega | (simp only [List.length_set, List.length_append, List.length_cons, List.length_nil, iv_length, zl_length]; try omega; done)) [-getElem?_pos, -getElem?_neg]
        refine hK _ _ ?_; clear hK K
        exact ⟨M, hmb, by omega, rfl, by (first | (simp [put_at, put_none, fr0_at, h16]; done) | rfl), by (first | (simp [put_at, put_none, fr0_at, h17]; done) | rfl), by (first | (simp [put_at, put_none, fr0_at, h18]; done) | rfl), by (first | (simp [put_at, put_none, fr0_at, h19]; done) | rfl), by (first | (simp [put_at, put_none, fr0_at]; done) | rfl), by (first | (simp [put_at, put_none, fr0_at, h4]; done) | rfl), by (first | (simp [put_at, put_none, fr0_at, h5]; done) | rfl), by (first | (simp [put_at, put_none, fr0_at, h6]; done) | rfl)⟩
      · have hz' : ¬ (first.size : Int) = 0 := by omega
        (refine aw_ops (by kernel_rfl) (fun K hK => ?_); simp (disch := first | omega | (simp only [List.length_set, List.length_append, List.length_cons, List.length_nil, iv_length, zl_length]; try omega; done)) [-getElem?_pos, -getElem?_neg, h2', hz, hz']; refine hK _ _ ?_; clear hK K)
        refine aw_f (by (first | (simp [eval_tmp, put_at, hz, hz']; done) | (simp [eval_tmp, put_at, hz, hz']; omega))) (by kernel_rfl) ?_
        refine aw_skip ?_
        exact ⟨nums first, fun x hx => nums_bd first x hx, by rw [nums_len]; exact hf64, rfl, by (first | (simp [put_at, put_none, fr0_at, h16]; done) | rfl), by (first | (simp [put_at, put_none, fr0_at, h17]; done) | rfl), by (first | (simp [put_at, put_none, fr0_at, h18]; done) | rfl), by (first | (simp [put_at, put_none, fr0_at, h19]; done) | rfl), by (first | (simp [put_at, put_none, fr0_at, h2', hfirst]; done) | rfl), by (first | (simp [put_at, put_none, fr0_at, h4]; done) | rfl), by (first | (simp [put_at, put_none, fr0_at, h5]; done) | rfl), by (first | (simp [put_at, put_none, fr0_at, h6]; done) | rfl)⟩
    clear h16 h17 h18 h19 h2' h4 h5 h6 hfirst
    rintro α G ⟨fl0, hflb0, hfll0, rfl, h16, h17, h18, h19, h2', h4, h5, h6⟩
    refine aw_seq ?_
    refine aw_cut (fun α G => ∃ fl : List Int, By fl ∧ fl.length ≤ 64 ∧ G2 = G ∧ α 16 = .pointer (some ⟨d, 0, none⟩) ∧ α 17 = .pointer (some ⟨q, 0, none⟩) ∧ α 18 = .string (strOfNums TB) ∧ α 19 = .int .i64 (w : Nat) ∧ α 2 = .string (strOfNums fl) ∧ α 5 = .int .i64 at_ ∧ α 6 = .int .u8 b) ?_ ?_
    · refine aw_seq ?_
      by_cases hn0 : 0 ≤ n ∧ n < 5000
      · obtain ⟨m, rfl⟩ : ∃ m : Nat, n = (m : Nat) := ⟨n.toNat, by omega⟩
        have hn5 : m < 5000 := by omega
        have hmk := rmark_rc (γ := gm) (H := G2) w m (by omega) (by omega)
        have hmb := markL_by w m
        have hml := markL_len w m
        generalize markL w m = M at *
        (refine aw_ops (by kernel_rfl) (fun K hK => ?_); simp (disch := first | omega | (simp only [List.length_set, List.length_append, List.length_cons, List.length_nil, iv_length, zl_length]; try omega; done)) [-getElem?_pos, -getElem?_neg, h4, hn5]; refine hK _ _ ?_; clear hK K)
        refine aw_t (by (first | (simp [eval_tmp, put_at]; done) | (simp [eval_tmp, put_at]; omega))) (by kernel_rfl) ?_
        refine aw_ops (by kernel_rfl) (fun K hK => ?_)
        simp (disch := first | omega | (simp only [List.length_set, List.length_append, List.length_cons, List.length_nil, iv_length, zl_length]; try omega; done)) [-getElem?_pos, -getElem?_neg, h4, h19]
        refine ⟨by kernel_rfl, ac_of_rc hmk (by simp [pv_iv, pv_int, pv_bool, pv_string, pv_tup2, pv_tup3, iv_plain, p2_int, p2_bool, p2_string]) ?_⟩
        try simp (disch := first | omega | (simp only [List.length_set, List.length_append, List.length_cons, List.length_nil, iv_length, zl_length]; try omega; done)) [-getElem?_pos, -getElem?_neg]
        refine hK _ _ ?_; clear hK K
        exact ⟨M, hmb, by omega, rfl, by (first | (simp [put_at, put_none, fr0_at, h16]; done) | rfl), by (first | (simp [put_at, put_none, fr0_at, h17]; done) | rfl), by (first | (simp [put_at, put_none, fr0_at, h18]; done) | rfl), by (first | (simp [put_at, put_none, fr0_at, h19]; done) | rfl), by (first | (simp [put_at, put_none, fr0_at]; done) | rfl), by (first | (simp [put_at, put_none, fr0_at, h5]; done) | rfl), by (first | (simp [put_at, put_none, fr0_at, h6]; done) | rfl)⟩
      · refine aw_cut (fun α G => α 61 = .bool false ∧ G2 = G ∧ α 16 = .pointer (some ⟨d, 0, none⟩) ∧ α 17 = .pointer (some ⟨q, 0, none⟩) ∧ α 18 = .string (strOfNums TB) ∧ α 19 = .int .i64 (w : Nat) ∧ α 2 = .string (strOfNums fl0) ∧ α 5 = .int .i64 at_ ∧ α 6 = .int .u8 b) ?_ ?_
        · by_cases hn1 : 0 ≤ n
          · have hn5 : ¬ n < 5000 := fun h => hn0 ⟨hn1, h⟩
            (refine aw_ops (by kernel_rfl) (fun K hK => ?_); simp (disch := first | omega | (simp only [List.length_set, List.length_append, List.length_cons, List.length_nil, iv_length, zl_length]; try omega; done)) [-getElem?_pos, -getElem?_neg, h4, hn1, hn5]; refine hK _ _ ?_; clear hK K)
            exact ⟨by (first | (simp [put_at, put_none, fr0_at]; done) | rfl), rfl, by (first | (simp [put_at, put_none, fr0_at, h16]; done) | rfl), by (first | (simp [put_at, put_none, fr0_at, h17]; done) | rfl), by (first | (simp [put_at, put_none, fr0_at, h18]; done) | rfl), by (first | (simp [put_at, put_none, fr0_at, h19]; done) | rfl), by (first | (simp [put_at, put_none, fr0_at, h2']; done) | rfl), by (first | (simp [put_at, put_none, fr0_at, h5]; done) | rfl), by (first | (simp [put_at, put_none, fr0_at, h6]; done) | rfl)⟩
          · (refine aw_ops (by kernel_rfl) (fun K hK => ?_); simp (disch := first | omega | (simp only [List.length_set, List.length_append, List.length_cons, List.length_nil, iv_length, zl_length]; try omega; done)) [-getElem?_pos, -getElem?_neg, h4, hn1]; refine hK _ _ ?_; clear hK K)
            exact ⟨by (first | (simp [put_at, put_none, fr0_at]; done) | rfl), rfl, by (first | (simp [put_at, put_none, fr0_at, h16]; done) | rfl), by (first | (simp [put_at, put_none, fr0_at, h17]; done) | rfl), by (first | (simp [put_at, put_none, fr0_at, h18]; done) | rfl), by (first | (simp [put_at, put_none, fr0_at, h19]; done) | rfl), by (first | (simp [put_at, put_none, fr0_at, h2']; done) | rfl), by (first | (simp [put_at, put_none, fr0_at, h5]; done) | rfl), by (first | (simp [put_at, put_none, fr0_at, h6]; done) | rfl)⟩
        clear h16 h17 h18 h19 h2' h4 h5 h6
        rintro α G ⟨h61, rfl, h16, h17, h18, h19, h2', h5, h6⟩
        refine aw_f (by (first | (simp [eval_tmp, put_at, h61]; done) | (simp [eval_tmp, put_at, h61]; omega))) (by kernel_rfl) ?_
        refine aw_skip ?_
        exact ⟨fl0, hflb0, hfll0, rfl, by (first | (simp [put_at, put_none, fr0_at, h16]; done) | rfl), by (first | (simp [put_at, put_none, fr0_at, h17]; done) | rfl), by (first | (simp [put_at, put_none, fr0_at, h18]; done) | rfl), by (first | (simp [put_at, put_none, fr0_at, h19]; done) | rfl), by (first | (simp [put_at, put_none, fr0_at, h2']; done) | rfl), by (first | (simp [put_at, put_none, fr0_at, h5]; done) | rfl), by (first | (simp [put_at, put_none, fr0_at, h6]; done) | rfl)⟩
    clear h16 h17 h18 h19 h2' h4 h5 h6 hflb0 hfll0
    rintro α G ⟨fl, hflb, hfll, rfl, h16, h17, h18, h19, h2', h5, h6⟩
    refine aw_seq ?_
    refine aw_ops (by kernel_rfl) (fun K hK => ?_)
    simp (disch := first | omega | (simp only [List.length_set, List.length_append, List.length_cons, List.length_nil, iv_length, zl_length]; try omega; done)) [-getElem?_pos, -getElem?_neg, h16, h17, h2']
    refine ⟨by kernel_rfl, AC.mono (hos.lay 0 fl hflb (by omega)) ?_⟩
    rintro vl G3 ⟨_, _, D1, FD1, FR1, hos1, _, _⟩
    try simp (disch := first | omega | (simp only [List.length_set, List.length_append, List.length_cons, List.length_nil, iv_length, zl_length]; try omega; done)) [-getElem?_pos, -getElem?_neg]
    refine hK _ _ ?_; clear hK K
    clear hos hby h2' hflb hfll
    refine aw_seq ?_
    refine aw_cut (fun α G => (∃ D FD FR, OS H G d q N D FD FR) ∧ α 16 = .pointer (some ⟨d, 0, none⟩) ∧ α 17 = .pointer (some ⟨q, 0, none⟩) ∧ α 5 = .int .i64 at_ ∧ α 6 = .int .u8 b) ?_ ?_
    · refine aw_seq ?_
      (refine aw_ops (by kernel_rfl) (fun K hK => ?_); simp (disch := first | omega | (simp only [List.length_set, List.length_append, List.length_cons, List.length_nil, iv_length, zl_length]; try omega; done)) [-getElem?_pos, -getElem?_neg]; refine hK _ _ ?_; clear hK K)
      refine aw_block ?_
      refine aw_loop (fun c α G => ∃ (i : Nat) (D : DM) (FD FR : List Nat), i + c = (TB.length + 255) / 256 ∧ OS H G d q N D FD FR ∧ α 20 = .int .i64 (i : Nat) ∧ α 16 = .pointer (some ⟨d, 0, none⟩) ∧ α 17 = .pointer (some ⟨q, 0, none⟩) ∧ α 18 = .string (strOfNums TB) ∧ α 19 = .int .i64 (w : Nat) ∧ α 5 = .int .i64 at_ ∧ α 6 = .int .u8 b) ((TB.length + 255) / 256) ?_ ?_
      · exact ⟨0, D1, FD1, FR1, by omega, hos1, by (first | (simp [put_at, put_none, fr0_at]; done) | rfl), by (first | (simp [put_at, put_none, fr0_at, h16]; done) | rfl), by (first | (simp [put_at, put_none, fr0_at, h17]; done) | rfl), by (first | (simp [put_at, put_none, fr0_at, h18]; done) | rfl), by (first | (simp [put_at, put_none, fr0_at, h19]; done) | rfl), by (first | (simp [put_at, put_none, fr0_at, h5]; done) | rfl), by (first | (simp [put_at, put_none, fr0_at, h6]; done) | rfl)⟩
      clear h16 h17 h18 h19 h5 h6 hos1
      rintro c α G ⟨i, D, FD, FR, hic, hos, h20, h16, h17, h18, h19, h5, h6⟩
      refine aw_seq ?_
      refine aw_seq ?_
      by_cases hlt : i * 256 < TB.length
      case neg =>
        (refine aw_ops (by kernel_rfl) (fun K hK => ?_); simp (disch := first | omega | (simp only [List.length_set, List.length_append, List.length_cons, List.length_nil, iv_length, zl_length]; try omega; done)) [-getElem?_pos, -getElem?_neg, h20, h18, hsT, hlt]; refine hK _ _ ?_; clear hK K)
        refine aw_f (by (first | (simp [eval_tmp, put_at]; done) | (simp [eval_tmp, put_at]; omega))) (by kernel_rfl) ?_
        refine aw_exit ?_
        exact ⟨⟨D, FD, FR, hos⟩, by (first | (simp [put_at, put_none, fr0_at, h16]; done) | rfl), by (first | (simp [put_at, put_none, fr0_at, h17]; done) | rfl), by (first | (simp [put_at, put_none, fr0_at, h5]; done) | rfl), by (first | (simp [put_at, put_none, fr0_at, h6]; done) | rfl)⟩
      (refine aw_ops (by kernel_rfl) (fun K hK => ?_); simp (disch := first | omega | (simp only [List.length_set, List.length_append, List.length_cons, List.length_nil, iv_length, zl_length]; try omega; done)) [-getElem?_pos, -getElem?_neg, h20, h18, hsT, hlt]; refine hK _ _ ?_; clear hK K)
      refine aw_t (by (first | (simp [eval_tmp, put_at]; done) | (simp [eval_tmp, put_at]; omega))) (by kernel_rfl) ?_
      refine aw_skip ?_
      refine aw_seq ?_
      refine aw_block ?_
      refine aw_seq ?_
      (refine aw_ops (by kernel_rfl) (fun K hK => ?_); simp (disch := first | omega | (simp only [List.length_set, List.length_append, List.length_cons, List.length_nil, iv_length, zl_length]; try omega; done)) [-getElem?_pos, -getElem?_neg, h20]; refine hK _ _ ?_; clear hK K)
      obtain ⟨en, hen⟩ : ∃ en, en = min (i * 256 + 256) TB.length := ⟨_, rfl⟩
      refine aw_seq ?_
      refine aw_cut (fun α G' => G = G' ∧ α 21 = .int .i64 (en : Nat) ∧ α 20 = .int .i64 (i : Nat) ∧ α 16 = .pointer (some ⟨d, 0, none⟩) ∧ α 17 = .pointer (some ⟨q, 0, none⟩) ∧ α 18 = .string (strOfNums TB) ∧ α 19 = .int .i64 (w : Nat) ∧ α 5 = .int .i64 at_ ∧ α 6 = .int .u8 b) ?_ ?_
      · refine aw_seq ?_
        by_cases hgt : TB.length < i * 256 + 256
        · have he : en = TB.length := by omega
          have hgi : (TB.length : Int) < (i : Int) * 256 + 256 := by omega
          (refine aw_ops (by kernel_rfl) (fun K hK => ?_); simp (disch := first | omega | (simp only [List.length_set, List.length_append, List.length_cons, List.length_nil, iv_length, zl_length]; try omega; done)) [-getElem?_pos, -getElem?_neg, h18, hsT, hgt, hgi]; refine hK _ _ ?_; clear hK K)
          refine aw_t (by (first | (simp [eval_tmp, put_at]; done) | (simp [eval_tmp, put_at]; omega))) (by kernel_rfl) ?_
          (refine aw_ops (by kernel_rfl) (fun K hK => ?_); simp (disch := first | omega | (simp only [List.length_set, List.length_append, List.length_cons, List.length_nil, iv_length, zl_length]; try omega; done)) [-getElem?_pos, -getElem?_neg, h18, hsT]; refine hK _ _ ?_; clear hK K)
          exact ⟨rfl, by (first | (simp [put_at, put_none, fr0_at, he]; done) | rfl), by (first | (simp [put_at, put_none, fr0_at, h20]; done) | rfl), by (first | (simp [put_at, put_none, fr0_at, h16]; done) | rfl), by (first | (simp [put_at, put_none, fr0_at, h17]; done) | rfl), by (first | (simp [put_at, put_none, fr0_at, h18]; done) | rfl), by (first | (simp [put_at, put_none, fr0_at, h19]; done) | rfl), by (first | (simp [put_at, put_none, fr0_at, h5]; done) | rfl), by (first | (simp [put_at, put_none, fr0_at, h6]; done) | rfl)⟩
        · have he : (i : Int) * 256 + 256 = (en : Nat) := by omega
          have hgi : ¬ (TB.length : Int) < (i : Int) * 256 + 256 := by omega
          have hgn : ¬ TB.length < en := by omega
          (refine aw_ops (by kernel_rfl) (fun K hK => ?_); simp (disch := first | omega | (simp only [List.length_set, List.length_append, List.length_cons, List.length_nil, iv_length, zl_length]; try omega; done)) [-getElem?_pos, -getElem?_neg, h18, hsT, hgt, hgi, hgn, he]; refine hK _ _ ?_; clear hK K)
          refine aw_f (by (first | (simp [eval_tmp, put_at]; done) | (simp [eval_tmp, put_at]; omega))) (by kernel_rfl) ?_
          refine aw_skip ?_
          exact ⟨rfl, by (first | (simp [put_at, put_none, fr0_at, he]; done) | rfl), by (first | (simp [put_at, put_none, fr0_at, h20]; done) | rfl), by (first | (simp [put_at, put_none, fr0_at, h16]; done) | rfl), by (first | (simp [put_at, put_none, fr0_at, h17]; done) | rfl), by (first | (simp [put_at, put_none, fr0_at, h18]; done) | rfl), by (first | (simp [put_at, put_none, fr0_at, h19]; done) | rfl), by (first | (simp [put_at, put_none, fr0_at, h5]; done) | rfl), by (first | (simp [put_at, put_none, fr0_at, h6]; done) | rfl)⟩
      clear h20 h16 h17 h18 h19 h5 h6
      rintro α G' ⟨rfl, h21, h20, h16, h17, h18, h19, h5, h6⟩
      obtain ⟨Hf, hHf⟩ : ∃ Hf, Hf = (N - 1) / 2 := ⟨_, rfl⟩
      have hhf : ∀ L, AC Tryd.prog (G ++ L).length gm 12 #[.pointer (some ⟨q, 0, none⟩)] (G ++ L) (fun v' _ => v' = .int .i64 (Hf : Nat)) := fun L => by
        have := rhalf_rc (γ := gm) (hos.rk.low (H' := G ++ L) (fun j hj => hget_left (hos.rk.lt j hj)))
        rw [hos.len, ← hHf] at this
        exact this
      have hmul : (w : Int) * (Hf : Int) = ((w * Hf : Nat) : Int) := by simp
      have hwH : w * Hf ≤ 4 := by
        have : Hf ≤ 4 := by omega
        have := Nat.mul_le_mul hw1 this
        omega
      have hex : (strOfNums TB).extract (i * 256) en = strOfNums ((TB.take en).drop (i * 256)) := ex_range _ _ _
      have hi17 : i ≤ 20 := by omega
      generalize w * Hf = wH at *
      obtain ⟨ix, hix⟩ : ∃ ix, ix = 1 + wH + i := ⟨_, rfl⟩
      have hidx : (1 : Int) + (wH : Nat) + (i : Nat) = (ix : Nat) := by omega
      obtain ⟨ib, hibe⟩ : ∃ ib, ib = i * 256 := ⟨_, rfl⟩
      have hib : (i : Int) * 256 = (ib : Nat) := by omega
      rw [← hibe] at hex
      have hle : ib ≤ en ∧ en ≤ TB.length := by omega
      have hlay := hos.lay (γ := gm) (ix : Nat) ((TB.take en).drop ib) (fun x hx => hTb x (List.mem_of_mem_take (List.mem_of_mem_drop hx))) (by rw [List.length_drop, List.length_take]; omega)
      generalize (TB.take en).drop ib = ch at *
      (refine aw_plan [] [] [0, 1, 2, 3, 4, 5, 6, 7, 8, 9, 10, 11, 12, 13] 14 1 (by kernel_rfl) (by kernel_rfl) (by kernel_rfl) (fun K hK => ?_)); simp only [sel, List.getElem?_cons_succ, List.getElem?_cons_zero, List.drop_succ_cons, List.drop_zero]; simp (disch := first | omega | (simp only [List.length_set, List.length_append, List.length_cons, List.length_nil, iv_length, zl_length]; try omega; done)) [-getElem?_pos, -getElem?_neg, h16, h17, h18, h19, h20, h21, hib, hex, hsT, PL_nil, PL_cons, PLc_val, PLc_new, stepP_t, stepP_f, stepPC_n, stepPC_s, stepPX_s, stepPX_n, stepPA_t, stepPA_c, stepPA_l, stepPN_s, allocOp, reloc_sl, reloc_ptr, List.map_cons, List.map_nil, List.nil_append, List.append_assoc, List.cons_append, Nat.add_assoc]
      refine PLc_call (v := .int .i64 (Hf : Nat)) (by kernel_rfl) (fun L hL => hhf L) (by simp [pv_iv, pv_int, pv_bool, pv_string, pv_tup2, pv_tup3, iv_plain, p2_int, p2_bool, p2_string]) ?_
      simp (disch := first | omega | (simp only [List.length_set, List.length_append, List.length_cons, List.length_nil, iv_length, zl_length]; try omega; done)) [-getElem?_pos, -getElem?_neg, h16, h17, h18, h19, h20, h21, hmul, hidx, hib, hex, hsT, PL_nil, PL_cons, PLc_val, PLc_new, stepP_t, stepP_f, stepPC_n, stepPC_s, stepPX_s, stepPX_n, stepPA_t, stepPA_c, stepPA_l, stepPN_s, allocOp, reloc_sl, reloc_ptr, List.map_cons, List.map_nil, List.nil_append, List.append_assoc, List.cons_append, Nat.add_assoc]
      refine ⟨by kernel_rfl, AC.mono hlay ?_⟩
      rintro vl G4 ⟨_, _, D4, FD4, FR4, hos4, _, _⟩
      try simp (disch := first | omega | (simp only [List.length_set, List.length_append, List.length_cons, List.length_nil, iv_length, zl_length]; try omega; done)) [-getElem?_pos, -getElem?_neg, PL_nil, PL_cons, PLc_val, PLc_new, stepP_t, stepP_f, stepPC_n, stepPC_s, stepPX_s, stepPX_n, stepPA_t, stepPA_c, stepPA_l, stepPN_s, allocOp, reloc_sl, reloc_ptr, List.map_cons, List.map_nil, List.nil_append, List.append_assoc, List.cons_append, Nat.add_assoc]
      refine hK _ _ ?_; clear hK K
      (refine aw_ops (by kernel_rfl) (fun K hK => ?_); simp (disch := first | omega | (simp only [List.length_set, List.length_append, List.length_cons, List.length_nil, iv_length, zl_length]; try omega; done)) [-getElem?_pos, -getElem?_neg, h20]; refine hK _ _ ?_; clear hK K)
      exact ⟨c - 1, by omega, i + 1, D4, FD4, FR4, by omega, hos4, by (first | (simp [put_at, put_none, fr0_at]; done) | rfl), by (first | (simp [put_at, put_none, fr0_at, h16]; done) | rfl), by (first | (simp [put_at, put_none, fr0_at, h17]; done) | rfl), by (first | (simp [put_at, put_none, fr0_at, h18]; done) | rfl), by (first | (simp [put_at, put_none, fr0_at, h19]; done) | rfl), by (first | (simp [put_at, put_none, fr0_at, h5]; done) | rfl), by (first | (simp [put_at, put_none, fr0_at, h6]; done) | rfl)⟩
    clear h16 h17 h18 h19 h5 h6 hos1
    rintro α G ⟨⟨D2, FD2, FR2, hos⟩, h16, h17, h5, h6⟩
    refine aw_seq ?_
    refine aw_cut (fun α G => (∃ D FD FR, OS H G d q N D FD FR) ∧ α 16 = .pointer (some ⟨d, 0, none⟩) ∧ α 17 = .pointer (some ⟨q, 0, none⟩)) ?_ ?_
    · refine aw_seq ?_
      by_cases hb0 : b = 0
      · (refine aw_ops (by kernel_rfl) (fun K hK => ?_); simp (disch := first | omega | (simp only [List.length_set, List.length_append, List.length_cons, List.length_nil, iv_length, zl_length]; try omega; done)) [-getElem?_pos, -getElem?_neg, h6, hb0]; refine hK _ _ ?_; clear hK K)
        refine aw_f (by (first | (simp [eval_tmp, put_at, hb0]; done) | (simp [eval_tmp, put_at, hb0]; omega))) (by kernel_rfl) ?_
        refine aw_skip ?_
        exact ⟨⟨D2, FD2, FR2, hos⟩, by (first | (simp [put_at, put_none, fr0_at, h16]; done) | rfl), by (first | (simp [put_at, put_none, fr0_at, h17]; done) | rfl)⟩
      · (refine aw_ops (by kernel_rfl) (fun K hK => ?_); simp (disch := first | omega | (simp only [List.length_set, List.length_append, List.length_cons, List.length_nil, iv_length, zl_length]; try omega; done)) [-getElem?_pos, -getElem?_neg, h6, hb0]; refine hK _ _ ?_; clear hK K)
        refine aw_t (by (first | (simp [eval_tmp, put_at, hb0]; done) | (simp [eval_tmp, put_at, hb0]; omega))) (by kernel_rfl) ?_
        obtain ⟨f, A, B, FA, FB, hFR, hR⟩ := hos.rk.2
        have hq := hR.hq
        have hf := hR.hf
        rw [hos.len] at hq
        have hN1 : 1 ≤ N := by rw [← hos.len]; exact hos.dk.1.one
        obtain ⟨NB, hNBe⟩ : ∃ NB, NB = N * 256 := ⟨_, rfl⟩
        have hNB : (N : Int) * 256 = (NB : Nat) := by omega
        obtain ⟨g, hg⟩ : ∃ g : Nat, (IntKind.u64.wrap at_).tmod (NB : Nat) = (g : Nat) ∧ g < NB := by
          have h0 : 0 ≤ IntKind.u64.wrap at_ := by simp only [IntKind.wrap, IntKind.bits, IntKind.signed]; simp; omega
          have hp : (0 : Int) < (NB : Nat) := by omega
          rw [Int.tmod_eq_emod_of_nonneg h0]
          have h1 := Int.emod_nonneg (IntKind.u64.wrap at_) (show ((NB : Nat) : Int) ≠ 0 by omega)
          have h2 := Int.emod_lt_of_pos (IntKind.u64.wrap at_) hp
          exact ⟨(IntKind.u64.wrap at_ % (NB : Nat)).toNat, by omega, by omega⟩
        have hwn : IntKind.u64.wrap (NB : Nat) = (NB : Nat) := by simp only [IntKind.wrap, IntKind.bits, IntKind.signed]; simp; omega
        have hNB0 : ¬ (NB : Int) = 0 := by omega
        have hNB0' : ¬ NB = 0 := by omega
        have hwg : IntKind.i64.wrap (g : Nat) = (g : Nat) := by simp only [IntKind.wrap, IntKind.bits, IntKind.signed]; simp; omega
        refine aw_seq ?_
        (refine aw_ops (by kernel_rfl) (fun K hK => ?_); simp (disch := first | omega | (simp only [List.length_set, List.length_append, List.length_cons, List.length_nil, iv_length, zl_length]; try omega; done)) [-getElem?_pos, -getElem?_neg, h5, h17, hq, hNB, hwn, hg.1, hNB0, hNB0', -tmodP, hwg]; refine hK _ _ ?_; clear hK K)
        obtain ⟨gq, hgq⟩ : ∃ gq, gq = g / 256 := ⟨_, rfl⟩
        obtain ⟨gm', hgm⟩ : ∃ gm', gm' = g % 256 := ⟨_, rfl⟩
        have hgd : ((g : Nat) : Int).tdiv 256 = (gq : Nat) := by rw [Int.tdiv_eq_ediv_of_nonneg (by omega)]; omega
        have hgmm : ((g : Nat) : Int).tmod 256 = (gm' : Nat) := by rw [Int.tmod_eq_emod_of_nonneg (by omega)]; omega
        have hgqN : gq < N := by omega
        have hgm256 : gm' < 256 := by omega
        obtain ⟨r, hr⟩ : ∃ r, D2.firm[gq]? = some r := ⟨_, List.getElem?_eq_getElem (by rw [hos.len]; omega)⟩
        have hrs : r.size = 256 := hos.rk.1.rows r (List.mem_of_getElem? hr)
        have hcell : (D2.firm.map Value.string)[gq]? = some (.string r) := by rw [List.getElem?_map, hr]; rfl
        refine aw_seq ?_
        (refine aw_ops (by kernel_rfl) (fun K hK => ?_); simp (disch := first | omega | (simp only [List.length_set, List.length_append, List.length_cons, List.length_nil, iv_length, zl_length]; try omega; done)) [-getElem?_pos, -getElem?_neg, h17, hq, hf, hcell, hgd, -tdivP, hgqN, hrs]; refine hK _ _ ?_; clear hK K)
        have hnl : (nums r).length = 256 := by rw [nums_len]; exact hrs
        have hnb : By (nums r) := fun x hx => nums_bd r x hx
        generalize nums r = R at *
        obtain ⟨x, hx⟩ : ∃ x, R[gm']? = some x := ⟨_, List.getElem?_eq_getElem (by omega)⟩
        have hxc : (iv .u8 R)[gm']? = some (.int .u8 x) := by unfold iv; rw [List.getElem?_map, hx]; rfl
        obtain ⟨y, hy⟩ : ∃ y, y = bitsOf .xor .u8 x b := ⟨_, rfl⟩
        have hyb : 0 ≤ y ∧ y ≤ 255 := by rw [hy]; exact by_u8 _
        have hset : (iv .u8 R).set gm' (.int .u8 y) = iv .u8 (R.set gm' y) := by simp [iv, List.map_set]
        have hRl : (R.set gm' y).length = 256 := by rw [List.length_set, hnl]
        have hRb : By (R.set gm' y) := fun z hz => by
          rcases List.mem_or_eq_of_mem_set hz with h | h
          · exact hnb z h
          · rw [h]; exact hyb
        have hos1 := hos.grow (G' := G ++ [some ⟨iv .u8 (R.set gm' y), 5, none⟩]) (Low.push (Nat.le_refl _) _)
        have hlow := hos.low.2
        refine aw_seq ?_
        (refine aw_ops (by kernel_rfl) (fun K hK => ?_); simp (disch := first | omega | (simp only [List.length_set, List.length_append, List.length_cons, List.length_nil, iv_length, zl_length]; try omega; done)) [-getElem?_pos, -getElem?_neg, h6, hgmm, -tmodP, hxc, hgm256, ← hy, hset, hnl]; refine hK _ _ ?_; clear hK K)
        have hlay := hos1.lay (γ := gm) (gq : Nat) (R.set gm' y) hRb (by omega)
        have hbl := byteList_iv (R.set gm' y)
        have htk : (iv .u8 (R.set gm' y)).take 256 = iv .u8 (R.set gm' y) := List.take_of_length_le (by rw [iv_length, hRl]; exact Nat.le_refl _)
        generalize R.set gm' y = R2 at *
        refine aw_ops (by kernel_rfl) (fun K hK => ?_)
        simp (disch := first | omega | (simp only [List.length_set, List.length_append, List.length_cons, List.length_nil, iv_length, zl_length]; try omega; done)) [-getElem?_pos, -getElem?_neg, h16, h17, hgd, -tdivP, hbl, htk, hRl]
        refine ⟨by kernel_rfl, AC.mono hlay ?_⟩
        rintro vl G4 ⟨_, _, D4, FD4, FR4, hos4, _, _⟩
        try simp (disch := first | omega | (simp only [List.length_set, List.length_append, List.length_cons, List.length_nil, iv_length, zl_length]; try omega; done)) [-getElem?_pos, -getElem?_neg]
        refine hK _ _ ?_; clear hK K
        exact ⟨⟨D4, FD4, FR4, hos4⟩, by (first | (simp [put_at, put_none, fr0_at, h16]; done) | rfl), by (first | (simp [put_at, put_none, fr0_at, h17]; done) | rfl)⟩
    clear h16 h17 h5 h6 hos
    rintro α G ⟨⟨D3, FD3, FR3, hos⟩, h16, h17⟩
    have hGG := hG.lowJ h2 hos.low
    have hrows := dk_rows hos.dk
    have hop := open_ac (nro := H.length) hGG hos.low.2 hos.dk
    have hsz := fun J e (h : openJ D3 = (some J, e)) => open_size hrows hos.dk.1.most h
    have hrop := fun (G' : AH) (hl : Low G.length G G') => ropen_ac (nro := H.length) (γ := gm) (H := G') (by have := hos.low.2; have := hl.2; omega) (hos.rk.low (fun j hj => hl.1 j (hos.rk.lt j hj)))
    obtain ⟨o, e, ho⟩ : ∃ o e, openJ D3 = (o, e) := ⟨_, _, rfl⟩
    rw [ho] at hop hsz hrop
    refine aw_seq ?_
    refine aw_ops (by kernel_rfl) (fun K hK => ?_)
    simp (disch := first | omega | (simp only [List.length_set, List.length_append, List.length_cons, List.length_nil, iv_length, zl_length]; try omega; done)) [-getElem?_pos, -getElem?_neg, h16]
    refine ⟨by kernel_rfl, AC.mono hop ?_⟩
    rintro v1 G1 ⟨hl1, hm1⟩
    cases o with
    | none =>
      obtain rfl := hm1
      try simp (disch := first | omega | (simp only [List.length_set, List.length_append, List.length_cons, List.length_nil, iv_length, zl_length]; try omega; done)) [-getElem?_pos, -getElem?_neg]
      refine hK _ _ ?_; clear hK K
      refine aw_seq ?_
      refine aw_ops (by kernel_rfl) (fun K hK => ?_)
      simp (disch := first | omega | (simp only [List.length_set, List.length_append, List.length_cons, List.length_nil, iv_length, zl_length]; try omega; done)) [-getElem?_pos, -getElem?_neg, h17]
      refine ⟨by kernel_rfl, AC.mono (hrop G1 hl1) ?_⟩
      rintro v2 G2 ⟨hl2, hm2⟩
      obtain rfl := hm2
      try simp (disch := first | omega | (simp only [List.length_set, List.length_append, List.length_cons, List.length_nil, iv_length, zl_length]; try omega; done)) [-getElem?_pos, -getElem?_neg]
      refine hK _ _ ?_; clear hK K
      refine aw_seq ?_
      refine aw_seq ?_
      (refine aw_ops (by kernel_rfl) (fun K hK => ?_); simp (disch := first | omega | (simp only [List.length_set, List.length_append, List.length_cons, List.length_nil, iv_length, zl_length]; try omega; done)) [-getElem?_pos, -getElem?_neg]; refine hK _ _ ?_; clear hK K)
      refine aw_f (by (first | (simp [eval_tmp, put_at]; done) | (simp [eval_tmp, put_at]; omega))) (by kernel_rfl) ?_
      refine aw_skip ?_
      refine aw_seq ?_
      refine aw_seq ?_
      (refine aw_ops (by kernel_rfl) (fun K hK => ?_); simp (disch := first | omega | (simp only [List.length_set, List.length_append, List.length_cons, List.length_nil, iv_length, zl_length]; try omega; done)) [-getElem?_pos, -getElem?_neg]; refine hK _ _ ?_; clear hK K)
      refine aw_t (by (first | (simp [eval_tmp, put_at]; done) | (simp [eval_tmp, put_at]; omega))) (by kernel_rfl) ?_
      refine aw_seq ?_
      have hlow2 : Low H.length H G2 := hos.low.trans ⟨fun j hj => (hl2.1 j (by have := hos.low.2; have := hl1.2; omega)).trans (hl1.1 j (by have := hos.low.2; omega)), by have := hos.low.2; have := hl1.2; have := hl2.2; omega⟩
      have hal2 := alive_rc (hG.lowJ h2 hlow2) (by have := hlow2.2; omega)
      refine aw_ops (by kernel_rfl) (fun K hK => ?_)
      try simp (disch := first | omega | (simp only [List.length_set, List.length_append, List.length_cons, List.length_nil, iv_length, zl_length]; try omega; done)) [-getElem?_pos, -getElem?_neg]
      refine ⟨by kernel_rfl, ac_of_rc hal2 (by simp [pv_iv, pv_int, pv_bool, pv_string, pv_tup2, pv_tup3, iv_plain, p2_int, p2_bool, p2_string]) ?_⟩
      try simp (disch := first | omega | (simp only [List.length_set, List.length_append, List.length_cons, List.length_nil, iv_length, zl_length]; try omega; done)) [-getElem?_pos, -getElem?_neg]
      refine ⟨by kernel_rfl, AC.mono records_nil ?_⟩
      rintro _ G3 ⟨rfl, rfl⟩
      try simp (disch := first | omega | (simp only [List.length_set, List.length_append, List.length_cons, List.length_nil, iv_length, zl_length]; try omega; done)) [-getElem?_pos, -getElem?_neg]
      refine ⟨by kernel_rfl, AC.mono room_nil ?_⟩
      rintro _ G4 ⟨rfl, rfl⟩
      try simp (disch := first | omega | (simp only [List.length_set, List.length_append, List.length_cons, List.length_nil, iv_length, zl_length]; try omega; done)) [-getElem?_pos, -getElem?_neg, nt_strJ]
      refine ⟨by kernel_rfl, AC.mono (append_nil' rfl) ?_⟩
      rintro _ G5 ⟨rfl, rfl⟩
      try simp (disch := first | omega | (simp only [List.length_set, List.length_append, List.length_cons, List.length_nil, iv_length, zl_length]; try omega; done)) [-getElem?_pos, -getElem?_neg]
      refine ⟨by kernel_rfl, AC.mono snap_nil ?_⟩
      rintro _ G6 ⟨rfl, rfl⟩
      try simp (disch := first | omega | (simp only [List.length_set, List.length_append, List.length_cons, List.length_nil, iv_length, zl_length]; try omega; done)) [-getElem?_pos, -getElem?_neg]
      refine hK _ _ ?_; clear hK K
      (refine aw_ret ?_; simp (disch := first | omega | (simp only [List.length_set, List.length_append, List.length_cons, List.length_nil, iv_length, zl_length]; try omega; done)) [-getElem?_pos, -getElem?_neg, thenQ_ret, scopeQ_ret, inBlockQ_ret, RQ, resL, resV])
    | some J =>
      obtain ⟨qj, rv, FJ, rfl, hj1, hok1, hqj, hfj⟩ := hm1
      try simp (disch := first | omega | (simp only [List.length_set, List.length_append, List.length_cons, List.length_nil, iv_length, zl_length]; try omega; done)) [-getElem?_pos, -getElem?_neg]
      refine hK _ _ ?_; clear hK K
      refine aw_seq ?_
      refine aw_ops (by kernel_rfl) (fun K hK => ?_)
      simp (disch := first | omega | (simp only [List.length_set, List.length_append, List.length_cons, List.length_nil, iv_length, zl_length]; try omega; done)) [-getElem?_pos, -getElem?_neg, h17]
      refine ⟨by kernel_rfl, AC.mono (hrop G1 hl1) ?_⟩
      rintro v2 G2 ⟨hl2, hm2⟩
      obtain ⟨qr, rr, FRj, rfl, hrj, hqr, hfr⟩ := hm2
      try simp (disch := first | omega | (simp only [List.length_set, List.length_append, List.length_cons, List.length_nil, iv_length, zl_length]; try omega; done)) [-getElem?_pos, -getElem?_neg]
      refine hK _ _ ?_; clear hK K
      refine aw_seq ?_
      refine aw_seq ?_
      (refine aw_ops (by kernel_rfl) (fun K hK => ?_); simp (disch := first | omega | (simp only [List.length_set, List.length_append, List.length_cons, List.length_nil, iv_length, zl_length]; try omega; done)) [-getElem?_pos, -getElem?_neg]; refine hK _ _ ?_; clear hK K)
      refine aw_f (by (first | (simp [eval_tmp, put_at]; done) | (simp [eval_tmp, put_at]; omega))) (by kernel_rfl) ?_
      refine aw_skip ?_
      refine aw_seq ?_
      refine aw_seq ?_
      (refine aw_ops (by kernel_rfl) (fun K hK => ?_); simp (disch := first | omega | (simp only [List.length_set, List.length_append, List.length_cons, List.length_nil, iv_length, zl_length]; try omega; done)) [-getElem?_pos, -getElem?_neg]; refine hK _ _ ?_; clear hK K)
      refine aw_f (by (first | (simp [eval_tmp, put_at]; done) | (simp [eval_tmp, put_at]; omega))) (by kernel_rfl) ?_
      refine aw_skip ?_
      refine aw_seq ?_
      obtain ⟨he0, hJD, hJs, hJa, hJr, hJd, hJ3, hJm⟩ := hsz J e rfl
      have hlow2 : Low H.length H G2 := hos.low.trans ⟨fun j hj => (hl2.1 j (by have := hos.low.2; have := hl1.2; omega)).trans (hl1.1 j (by have := hos.low.2; omega)), by have := hos.low.2; have := hl1.2; have := hl2.2; omega⟩
      have hal2 := alive_rc (hG.lowJ h2 hlow2) (by have := hlow2.2; omega)
      have hj2 := hj1.low (H' := G2) (fun j hj => hl2.1 j (hj1.lts j hj)) hl2.2
      have hge := textsB_ge J.recs
      have hrl : J.recs.length ≤ 2000 := by rw [hos.len] at hJr; omega
      have hrs : ∀ s ∈ J.recs, s.size ≤ 2000 := fun s hs => by
        have := totS_mem J.recs s hs
        rw [hos.len] at hJr
        omega
      have hrk2 := hos.rk.low (H' := G2) (fun j hj => (hl2.1 j (by have := hos.rk.lt j hj; have := hl1.2; omega)).trans (hl1.1 j (hos.rk.lt j hj)))
      obtain ⟨v0, hv0, hrec⟩ := records_fixT (nro := H.length) (γ := gm) hlow2.2 hj2 (by omega)
      have hqrl := hget_lt hrj.hq
      have hrq := hrj.hq
      have hrsh := own_shape hrj.hr
      obtain ⟨Φ, e0, e1⟩ : ∃ Φ : Nat → AH → Prop, (∀ s G, s ≤ 1 → (Φ s G ↔ G = G2)) ∧ (∀ s G, ¬ s ≤ 1 → (Φ s G ↔ (Part G G.length v0 (J.recs.map .string) ∧ Low G2.length G2 G))) :=
        ⟨fun s G => if s ≤ 1 then G = G2 else (Part G G.length v0 (J.recs.map .string) ∧ Low G2.length G2 G), fun s G h => by simp only [if_pos h], fun s G h => by simp only [if_neg h]⟩
      have eS : ∀ s G, Φ s G → Low G2.length G2 G := fun s G h => by
        by_cases hs : s ≤ 1
        · rw [(e0 s G hs).1 h]; exact Low.refl (Nat.le_refl _)
        · exact ((e1 s G hs).1 h).2
      refine aw_cut (fun α G => α 14 = .bool true) ?_ ?_
      · refine aw_chain (fun j => j == qr) Φ (by kernel_rfl) (by kernel_rfl) (by kernel_rfl) (fun s G h j hj => by
          have e : j = qr := by simpa using hj
          rw [e]; exact (eS s G h).1 qr hqrl) ((e0 0 _ (by omega)).2 rfl) (fun K hK => ?_)
        simp (disch := first | omega | (simp only [List.length_set, List.length_append, List.length_cons, List.length_nil, iv_length, zl_length]; try omega; done)) [-getElem?_pos, -getElem?_neg, hrq, -notTuple, hrsh.1, CL_nil, CL_cons, CLc_val, CLc_skip, memS, inS, inSp, isCallF, effF]
        refine CLc_call (v := .bool true) (by kernel_rfl) (fun G hG => ?_) ?_
        · rw [(e0 0 G (by omega)).1 hG]
          exact ac_of_rc hal2 (by simp [pv_iv, pv_int, pv_bool, pv_string, pv_tup2, pv_tup3, iv_plain, p2_int, p2_bool, p2_string]) ⟨rfl, (e0 1 _ (by omega)).2 rfl⟩
        try simp (disch := first | omega | (simp only [List.length_set, List.length_append, List.length_cons, List.length_nil, iv_length, zl_length]; try omega; done)) [-getElem?_pos, -getElem?_neg, hrq, -notTuple, hrsh.1, CL_nil, CL_cons, CLc_val, CLc_skip, memS, inS, inSp, isCallF, effF]
        refine CLc_call (v := v0) (by kernel_rfl) (fun G hG => ?_) ?_
        · rw [(e0 1 G (by omega)).1 hG]
          exact hrec.mono fun v' G' h => ⟨h.1, (e1 2 _ (by omega)).2 ⟨by rw [← h.1]; exact h.2.1, ⟨h.2.2.2, h.2.2.1⟩⟩⟩
        try simp (disch := first | omega | (simp only [List.length_set, List.length_append, List.length_cons, List.length_nil, iv_length, zl_length]; try omega; done)) [-getElem?_pos, -getElem?_neg, hrq, -notTuple, hrsh.1, hv0, CL_nil, CL_cons, CLc_val, CLc_skip, memS, inS, inSp, isCallF, effF]
        refine CLc_call (v := .bool true) (by kernel_rfl) (fun G hG => ?_) ?_
        · obtain ⟨g1, g2⟩ := (e1 2 G (by omega)).1 hG
          have hrr : StrV G rr J.recs := (hrj.hr.g.part.keep g2.2 g2.1).str
          have hsm := same_rc (γ := gm) g1.str hrr (by omega) (by omega)
          rw [decide_eq_true rfl] at hsm
          exact ac_of_rc hsm (by simp [pv_iv, pv_int, pv_bool, pv_string, pv_tup2, pv_tup3, iv_plain, p2_int, p2_bool, p2_string]) ⟨rfl, (e1 3 _ (by omega)).2 ⟨g1, g2⟩⟩
        try simp (disch := first | omega | (simp only [List.length_set, List.length_append, List.length_cons, List.length_nil, iv_length, zl_length]; try omega; done)) [-getElem?_pos, -getElem?_neg, hrq, -notTuple, hrsh.1, hv0, CL_nil, CL_cons, CLc_val, CLc_skip, memS, inS, inSp, isCallF, effF]
        refine CLc_call (v := .int .i64 ((J.half * 256 : Nat) - (J.size : Nat) : Int)) (by kernel_rfl) (fun G hG => ?_) ?_
        · obtain ⟨g1, g2⟩ := (e1 3 G (by omega)).1 hG
          exact ac_of_rc (room_rc (hj2.low (H' := G) (fun j hj => g2.1 j (hj2.lts j hj)) g2.2) hok1) (by simp [pv_iv, pv_int, pv_bool, pv_string, pv_tup2, pv_tup3, iv_plain, p2_int, p2_bool, p2_string]) ⟨rfl, (e1 4 _ (by omega)).2 ⟨g1, g2⟩⟩
        try simp (disch := first | omega | (simp only [List.length_set, List.length_append, List.length_cons, List.length_nil, iv_length, zl_length]; try omega; done)) [-getElem?_pos, -getElem?_neg, hrq, -notTuple, hrsh.1, hv0, CL_nil, CL_cons, CLc_val, CLc_skip, memS, inS, inSp, isCallF, effF]
        refine CLc_call (v := .int .i64 ((J.half * 256 : Nat) - (J.size : Nat) : Int)) (by kernel_rfl) (fun G hG => ?_) ?_
        · obtain ⟨g1, g2⟩ := (e1 4 G (by omega)).1 hG
          have hrm := rroom_rc (γ := gm) (hrj.low (H' := G) (fun j hj => g2.1 j (by
            rcases List.mem_cons.1 hj with rfl | hj
            · exact hqrl
            · exact hrj.hr.lt j hj))) (hrk2.low (H' := G) (fun j hj => g2.1 j (hrk2.lt j hj))) hrs hrl (by rw [hos.len] at hJr; omega)
          rw [← hJs, show (D3.firm.length - 1) / 2 = J.half by unfold JM.half; rw [hJD]] at hrm
          exact ac_of_rc hrm (by simp [pv_iv, pv_int, pv_bool, pv_string, pv_tup2, pv_tup3, iv_plain, p2_int, p2_bool, p2_string]) ⟨rfl, (e1 5 _ (by omega)).2 ⟨g1, g2⟩⟩
        try simp (disch := first | omega | (simp only [List.length_set, List.length_append, List.length_cons, List.length_nil, iv_length, zl_length]; try omega; done)) [-getElem?_pos, -getElem?_neg, hrq, -notTuple, hrsh.1, hv0, CL_nil, CL_cons, CLc_val, CLc_skip, memS, inS, inSp, isCallF, effF]
        intro G5 hG5
        refine hK _ _ ?_; clear hK K
        (first | (simp [put_at, put_none, fr0_at]; done) | rfl)
      rintro α G h14
      (refine aw_ret ?_; simp (disch := first | omega | (simp only [List.length_set, List.length_append, List.length_cons, List.length_nil, iv_length, zl_length]; try omega; done)) [-getElem?_pos, -getElem?_neg, thenQ_ret, scopeQ_ret, inBlockQ_ret, RQ, resL, resV, h14])
end
end Go.Proofs.YtgamobjfeaeddaaDoor
