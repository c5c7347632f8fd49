/-
  The reference's Append.
  Both journals of a play, side by side.
  JournalPlays.
-/
import Derived.Test.YtgamobjfeaeddaaGreatDoorMpG
import Derived.Test.YtgamobjfeaeddaaGreatDoorMpF
namespace Go.Proofs.YtgamobjfeaeddaaGreatDoor
open Go Go.RowKit
set_option linter.unusedSimpArgs false
set_option linter.unusedVariables false
set_option maxRecDepth 100000
set_option maxHeartbeats 4000000
section
attribute [local irreducible] markL pgL fillB commitR textsB
attribute [local simp] wb_bool wb_undef XL_nil XL_cons XLc_val XLc_call step1_eq stepW_t stepW_f stepC_n stepC_s stepX_s stepX_n stepN_s calleeX oneV xop_eq xopR_s xopR_n wantedA_eq wantedG_n wantedG_s plain1_int plain1_bool plain1_string bits_i64 bits_u64 bits_u32 bits_u16 bits_u8 xeqA xagg xcmp xarr allK_iv num_iv calleeOf xread xeff xbin xint xnil xun xstr xload xconv xpart xfield xfieldAddr xindexAddr xindex bnd asInt? xslice xlen xmin xmax xbuild xfill xappend xapp2 xappstr xappmk xcap xcopy xcells eval_tmp eval_const put_at put_none fr0_at cells_agg cells_int cells_bool cells_string cells_ptr cells_slice notTuple tab iv_all hget_app hget_app0 hget_cons0 hget_cons set_app set_app0 setR setR_one QL_nil QL_cons QLc_val stepQ_t stepQ_f stepQC_n stepQC_s stepQX_s SL_nil SL_cons SLc_val stepS_t stepS_f ltT ltF leT leF eqT eqF ltTn ltFn leTn leFn eqTn eqFn beqT beqF bneT bneF wi64 wu64 wu32 wu16 wu8 tmodP tdivP hgetL hgetNe hgetEq setL nums_def nums_len Nat.succ_le_of_lt List.getElem?_cons_zero List.getElem?_cons_succ Option.getD_some Int.toNat_add Int.toNat_mul agB agI agS agP agL agA okB okI okS okP okSl okA
theorem rappend_go {nro : Nat} {γ : Nat → Option Nat} {H : AH} (hnl : nro ≤ H.length) {q d : Nat} {rv v : Value} {FD FR : List Nat} {J : JM} (h : RS H q d rv FD FR J) (n0 : Nat) (hn0 : ∀ j ∈ q :: (FD ++ FR), n0 ≤ j) (hnn : nro ≤ n0) (hn0l : n0 ≤ H.length) (ps : List ByteArray) (hvp : Part H n0 v (ps.map .string)) (hps : ∀ s ∈ ps, s.size ≤ 2000) (hlen : ps.length ≤ 21) (hrl : J.recs.length ≤ 2000)
    (was bs : List Int) (hwl : was.length ≤ 150000) (hbl : bs.length ≤ 100000) (r : DM × Int) (res : JM × Int) (hres : res = if J.half * 256 < was.length + bs.length then (J, 8) else if ps = [] then (J, 0) else endJ J r (J.recs ++ ps) J.area (was.length + bs.length))
    (hby : ∀ G : AH, Low n0 H G → AC Tryz.prog G.length γ 41 #[v] G (fun v' _ => v' = .string (strOfNums bs)))
    (hbw : AC Tryz.prog H.length γ 41 #[rv] H (fun v' _ => v' = .string (strOfNums was)))
    (hrm : AC Tryz.prog H.length γ 22 #[.pointer (some ⟨q, 0, none⟩)] H (fun v' _ => v' = .int .i64 ((J.half * 256 : Nat) - (was.length : Nat) : Int)))
    (hcm : ¬ J.half * 256 < was.length + bs.length → ps ≠ [] → AC Tryz.prog nro γ 42 #[.pointer (some ⟨q, 0, none⟩), .int .i64 (J.area : Nat), .int .i64 (was.length : Nat), .string (strOfNums (was ++ bs))] H
      (fun v' H' => RcQ H d FD r v' H')) :
    AC Tryz.prog nro γ 12 #[.pointer (some ⟨q, 0, none⟩), v] H (fun v' H' => RSQ H q d FD FR res v' H') := by
  have hq := h.rj.hq
  have hql := hget_lt hq
  have hbs := sn_size bs
  have hws := sn_size was
  have hmost := h.rk.1.most
  have hHb : J.half ≤ 512 := by unfold JM.half; omega
  have hst : StrV H v ps := (hvp.keep hn0l (fun _ _ => rfl)).str
  have hno := hst.nt
  have hxl := hst.len
  have hlg := rlong_rc (γ := γ) hst (fun s hs => by have := hps s hs; omega) (by omega)
  have hby0 := hby H (Low.refl hn0l)
  have hlt := h.lts
  have hsh := own_shape h.rj.hr
  refine ac_of_aw Tryz.func12 rfl Tryz.ntmps12 Tryz.results12 (by simp) ?_
  refine aw_seq ?_
  (refine aw_ops (by kernel_rfl) (fun K hK => ?_); simp (disch := first | omega | (simp only [lnS]; try omega; done)) [-getElem?_pos, -getElem?_neg]; refine hK _ _ ?_; clear hK K)
  refine aw_seq ?_
  refine aw_seq ?_
  refine aw_ops (by kernel_rfl) (fun K hK => ?_)
  simp (disch := first | omega | (simp only [lnS]; try omega; done)) [-getElem?_pos, -getElem?_neg, -notTuple, hno]
  refine ⟨by kernel_rfl, ac_of_rc hlg (by simp [pv_iv, pv_int, pv_bool, pv_string, pv_tup2, pv_tup3, iv_plain, p2_int, p2_bool, p2_string]) ?_⟩
  try simp (disch := first | omega | (simp only [lnS]; try omega; done)) [-getElem?_pos, -getElem?_neg]
  refine hK _ _ ?_; clear hK K
  refine aw_f (by (first | (simp [eval_tmp, put_at]; done) | (simp [eval_tmp, put_at]; omega))) (by kernel_rfl) ?_
  refine aw_skip ?_
  refine aw_seq ?_
  refine aw_seq ?_
  refine aw_ops (by kernel_rfl) (fun K hK => ?_)
  simp (disch := first | omega | (simp only [lnS]; try omega; done)) [-getElem?_pos, -getElem?_neg, -notTuple, hno, nt_intJ, nt_ptrJ, nt_strJ]
  refine ⟨by kernel_rfl, ac_of_rc hby0 (by simp [pv_iv, pv_int, pv_bool, pv_string, pv_tup2, pv_tup3, iv_plain, p2_int, p2_bool, p2_string]) ?_⟩
  simp (disch := first | omega | (simp only [lnS]; try omega; done)) [-getElem?_pos, -getElem?_neg, hbs, nt_intJ, nt_ptrJ, nt_strJ]
  refine ⟨by kernel_rfl, ac_of_rc hrm (by simp [pv_iv, pv_int, pv_bool, pv_string, pv_tup2, pv_tup3, iv_plain, p2_int, p2_bool, p2_string]) ?_⟩
  by_cases hfull : J.half * 256 < was.length + bs.length
  · rw [if_pos hfull] at hres
    have hf2 : ((J.half * 256 : Nat) : Int) - (was.length : Nat) < (bs.length : Nat) := by omega
    try simp (disch := first | omega | (simp only [lnS]; try omega; done)) [-getElem?_pos, -getElem?_neg, hf2]
    refine hK _ _ ?_; clear hK K
    refine aw_t (by (first | (simp [eval_tmp, put_at, hf2]; done) | (simp [eval_tmp, put_at, hf2]; omega))) (by kernel_rfl) ?_
    refine aw_seq ?_
    (refine aw_ops (by kernel_rfl) (fun K hK => ?_); simp (disch := first | omega | (simp only [lnS]; try omega; done)) [-getElem?_pos, -getElem?_neg]; refine hK _ _ ?_; clear hK K)
    (refine aw_ret ?_; simp (disch := first | omega | (simp only [lnS]; try omega; done)) [-getElem?_pos, -getElem?_neg, thenQ_ret, scopeQ_ret, inBlockQ_ret, RQ, resL, resV])
    subst hres
    exact ⟨rfl, rv, FD, FR, h, Fr.refl _ _⟩
  rw [if_neg hfull] at hres
  have hf2 : ¬ ((J.half * 256 : Nat) : Int) - (was.length : Nat) < (bs.length : Nat) := by omega
  try simp (disch := first | omega | (simp only [lnS]; try omega; done)) [-getElem?_pos, -getElem?_neg, hf2]
  refine hK _ _ ?_; clear hK K
  refine aw_f (by (first | (simp [eval_tmp, put_at, hf2]; done) | (simp [eval_tmp, put_at, hf2]; omega))) (by kernel_rfl) ?_
  refine aw_skip ?_
  refine aw_seq ?_
  refine aw_seq ?_
  by_cases hp0 : ps = []
  · rw [if_pos hp0] at hres
    have hl0 : ps.length = 0 := by rw [hp0]; rfl
    (refine aw_ops (by kernel_rfl) (fun K hK => ?_); simp (disch := first | omega | (simp only [lnS]; try omega; done)) [-getElem?_pos, -getElem?_neg, -notTuple, hno, -xlen, hxl, hl0]; refine hK _ _ ?_; clear hK K)
    refine aw_t (by (first | (simp [eval_tmp, put_at]; done) | (simp [eval_tmp, put_at]; omega))) (by kernel_rfl) ?_
    refine aw_seq ?_
    (refine aw_ops (by kernel_rfl) (fun K hK => ?_); simp (disch := first | omega | (simp only [lnS]; try omega; done)) [-getElem?_pos, -getElem?_neg]; refine hK _ _ ?_; clear hK K)
    (refine aw_ret ?_; simp (disch := first | omega | (simp only [lnS]; try omega; done)) [-getElem?_pos, -getElem?_neg, thenQ_ret, scopeQ_ret, inBlockQ_ret, RQ, resL, resV])
    subst hres
    exact ⟨rfl, rv, FD, FR, h, Fr.refl _ _⟩
  rw [if_neg hp0] at hres
  have hl0 : ¬ ps.length = 0 := by
    have := List.length_pos_iff.2 hp0
    omega
  (refine aw_ops (by kernel_rfl) (fun K hK => ?_); simp (disch := first | omega | (simp only [lnS]; try omega; done)) [-getElem?_pos, -getElem?_neg, -notTuple, hno, -xlen, hxl, hl0]; refine hK _ _ ?_; clear hK K)
  refine aw_f (by (first | (simp [eval_tmp, put_at]; done) | (simp [eval_tmp, put_at]; omega))) (by kernel_rfl) ?_
  refine aw_skip ?_
  refine aw_seq ?_
  refine aw_ops (by kernel_rfl) (fun K hK => ?_)
  simp (disch := first | omega | (simp only [lnS]; try omega; done)) [-getElem?_pos, -getElem?_neg, hq, -notTuple, nt_intJ, nt_ptrJ, nt_strJ, hsh.1]
  refine ⟨by kernel_rfl, ac_of_rc hbw (by simp [pv_iv, pv_int, pv_bool, pv_string, pv_tup2, pv_tup3, iv_plain, p2_int, p2_bool, p2_string]) ?_⟩
  try simp (disch := first | omega | (simp only [lnS]; try omega; done)) [-getElem?_pos, -getElem?_neg]
  refine hK _ _ ?_; clear hK K
  have hcm1 := hcm hfull hp0
  have hbyL := fun L : AH => hby (H ++ L) (Low.push hn0l L)
  have hapb : strOfNums was ++ strOfNums bs = strOfNums (was ++ bs) := sn_app _ _
  refine aw_seq ?_
  (refine aw_plan [] [] [0, 1, 2, 3, 4, 5, 6, 7, 8, 9, 10] 11 2 (by kernel_rfl) (by kernel_rfl) (by kernel_rfl) (fun K hK => ?_)); simp only [sel, List.getElem?_cons_succ, List.getElem?_cons_zero, List.drop_succ_cons, List.drop_zero]; simp (disch := first | omega | (simp only [lnS]; try omega; done)) [-getElem?_pos, -getElem?_neg, hq, -notTuple, hno, nt_intJ, nt_ptrJ, nt_strJ, hws, hsh.1, PL_nil, PL_cons, PLc_val, PLc_new, stepP_t, stepP_f, stepPC_n, stepPC_s, stepPX_s, stepPX_n, stepPA_t, stepPA_c, stepPA_l, stepPN_s, allocOp, reloc_sl, reloc_ptr, List.map_cons, List.map_nil, List.nil_append, List.append_assoc, List.cons_append, Nat.add_assoc]
  refine PLc_call (v := .string (strOfNums bs)) (by kernel_rfl) (fun L hL => hbyL L) (by simp [pv_iv, pv_int, pv_bool, pv_string, pv_tup2, pv_tup3, iv_plain, p2_int, p2_bool, p2_string]) ?_
  simp (disch := first | omega | (simp only [lnS]; try omega; done)) [-getElem?_pos, -getElem?_neg, hapb, hws, hbs, PL_nil, PL_cons, PLc_val, PLc_new, stepP_t, stepP_f, stepPC_n, stepPC_s, stepPX_s, stepPX_n, stepPA_t, stepPA_c, stepPA_l, stepPN_s, allocOp, reloc_sl, reloc_ptr, List.map_cons, List.map_nil, List.nil_append, List.append_assoc, List.cons_append, Nat.add_assoc]
  refine ⟨by kernel_rfl, AC.mono hcm1 ?_⟩
  rintro _ G2 ⟨FD', rfl, hk2, hf2'⟩
  try simp (disch := first | omega | (simp only [lnS]; try omega; done)) [-getElem?_pos, -getElem?_neg, PL_nil, PL_cons, PLc_val, PLc_new, stepP_t, stepP_f, stepPC_n, stepPC_s, stepPX_s, stepPX_n, stepPA_t, stepPA_c, stepPA_l, stepPN_s, allocOp, reloc_sl, reloc_ptr, List.map_cons, List.map_nil, List.nil_append, List.append_assoc, List.cons_append, Nat.add_assoc]
  refine hK _ _ ?_; clear hK K
  have h2 : RS G2 q d rv FD' FR { J with D := r.1 } := by
    have hrj : RJ G2 q d rv FR J := h.rj.low (fun j hj => by
      have hjl : j < H.length := hlt j (by
        rcases List.mem_cons.1 hj with rfl | hj
        · simp
        · simp [hj])
      refine hf2'.out j hjl (fun hm => ?_)
      rcases List.mem_cons.1 hj with rfl | hj
      · exact h.qd hm
      · exact h.dr j hm hj)
    refine ⟨⟨hrj.hq, hrj.hr, hrj.qr⟩, hk2, fun hm => ?_, fun j hm hm2 => ?_⟩
    · rcases hf2'.new q hm with hh | hh
      · exact h.qd hh
      · have := hlt q (by simp); omega
    · rcases hf2'.new j hm with hh | hh
      · exact h.dr j hh hm2
      · have := hlt j (by simp [hm2]); omega
  have hff : Fr H G2 (q :: (FD ++ FR)) (q :: (FD' ++ FR)) := ⟨hf2'.len, fun j hj hne => hf2'.out j hj (fun hm => hne (by simp [hm])), fun j hj => by
    simp only [List.mem_cons, List.mem_append] at hj ⊢
    rcases hj with hh | hh | hh
    · exact .inl (.inl hh)
    · rcases hf2'.new j hh with hh | hh
      · exact .inl (.inr (.inl hh))
      · exact .inr hh
    · exact .inl (.inr (.inr hh))⟩
  have hq2 := h2.rj.hq
  have hq2l := hget_lt hq2
  have hlt2 := h2.lts
  have hnq : nro ≤ q := by have := hn0 q (by simp); omega
  have hlow2 : ∀ j, j < n0 → hget G2 j = hget H j := fun j hj => hf2'.out j (by omega) (fun hm => by have := hn0 j (by simp [hm]); omega)
  simp only at hq2
  refine aw_seq ?_
  refine aw_cut (fun α G => (∃ rv' FD'' FR', RS G q d rv' FD'' FR' (endJ J r (J.recs ++ ps) J.area (was.length + bs.length)).1 ∧ Fr H G (q :: (FD ++ FR)) (q :: (FD'' ++ FR'))) ∧ α 6 = .int .i64 (if r.2 = 0 then 0 else 7)) ?_ ?_
  · refine aw_seq ?_
    by_cases he : r.2 = 0
    · (refine aw_ops (by kernel_rfl) (fun K hK => ?_); simp (disch := first | omega | (simp only [lnS]; try omega; done)) [-getElem?_pos, -getElem?_neg, he]; refine hK _ _ ?_; clear hK K)
      refine aw_t (by (first | (simp [eval_tmp, put_at]; done) | (simp [eval_tmp, put_at]; omega))) (by kernel_rfl) ?_
      refine aw_seq ?_
      (refine aw_ops (by kernel_rfl) (fun K hK => ?_); simp (disch := first | omega | (simp only [lnS]; try omega; done)) [-getElem?_pos, -getElem?_neg]; refine hK _ _ ?_; clear hK K)
      obtain ⟨v3, G3, F3, hxa3, ho3, hl3, hk3, hn3⟩ := ownF_appendS (P := Tryz.prog) (nro := nro) (t := 36) (e := 9) (H := G2) (v := .slice none 0 0) (x := rv) (cells := []) (F := []) (news := J.recs.map .string) (by simp) (by simp) (by simp) (by simp) (.inl ⟨rfl, rfl, rfl⟩) (by simp) h2.rj.hr.g.part.ns (h2.rj.hr.g.cells G2 (fun _ _ => rfl)) (by simp; omega)
      rw [List.nil_append] at ho3
      have hsh2 := own_shape h2.rj.hr
      have hsh3 := own_shape ho3
      refine aw_seq ?_
      (refine aw_ops (by kernel_rfl) (fun K hK => ?_); simp (disch := first | omega | (simp only [lnS]; try omega; done)) [-getElem?_pos, -getElem?_neg, hq2, -notTuple, nt_intJ, nt_ptrJ, nt_strJ, hsh2.1, hsh3.1, -xappend, hxa3]; refine hK _ _ ?_; clear hK K)
      have hq3 := (hk3 q hq2l (by simp)).trans hq2
      have hvp3 := hvp.2 G3 (fun j hj => (hk3 j (by have := hf2'.len; omega) (by simp)).trans (hlow2 j hj))
      obtain ⟨v4, G4, F4, hxa4, ho4, hl4, hk4, hn4⟩ := ownF_appendS (P := Tryz.prog) (nro := nro) (t := 36) (e := 9) (x := v) (by simp) (by simp) (by simp) (by simp) ho3 (fun j hj => by have := hn3 j hj; have := hf2'.len; omega) hvp.ns hvp3 (by simp; omega)
      have hsh4 := own_shape ho4
      have hq4 := (hk4 q (by omega) (fun hm => by have := hn3 q hm; omega)).trans hq3
      have hq4l := hget_lt hq4
      (refine aw_ops (by kernel_rfl) (fun K hK => ?_); simp (disch := first | omega | (simp only [lnS]; try omega; done)) [-getElem?_pos, -getElem?_neg, hq4, -notTuple, hno, nt_intJ, nt_ptrJ, nt_strJ, hsh3.1, hsh4.1, hsh4.2, -xappend, hxa4]; refine hK _ _ ?_; clear hK K)
      have hlenf := hf2'.len
      have hkey : ∀ j, j < G2.length → j ≠ q → hget G4 j = hget G2 j := fun j hj hne => (hk4 j (by omega) (fun hm => by have := hn3 j hm; omega)).trans (hk3 j hj (by simp))
      refine ⟨⟨v4, FD', F4, ?_, ?_⟩, by (first | (simp [put_at, put_none, fr0_at, he]; done) | rfl)⟩
      · unfold endJ
        rw [if_pos he]
        refine ⟨⟨?_, ?_, fun hm => by have := hn4 q hm; omega⟩, ?_, h2.qd, fun j hm hm2 => by have := hn4 j hm2; have := h2.rk.lt j hm; omega⟩
        · rw [hget_set_eq hq4l]
        · show OwnF _ _ _ _ ((J.recs ++ ps).map .string) _
          rw [List.map_append]
          exact ho4.low (fun j hj => hget_set_ne (show q ≠ j from fun e => by have := hn4 j hj; omega))
        · exact h2.rk.low (fun j hm => by
            have := h2.rk.lt j hm
            have hne : q ≠ j := fun e => h2.qd (e ▸ hm)
            rw [hget_set_ne hne, hkey j this (fun e => hne e.symm)])
      · refine ⟨by simp; omega, fun j hj hne => ?_, fun j hj => ?_⟩
        · have hjq : j ≠ q := fun e => hne (by simp [e])
          rw [hget_set_ne (fun e => hjq e.symm), hkey j (by omega) hjq, hff.out j hj hne]
        · simp only [List.mem_cons, List.mem_append] at hj
          rcases hj with rfl | hj | hj
          · exact .inl (by simp)
          · exact hff.new j (by simp [hj])
          · exact .inr (by have := hn4 j hj; omega)
    · (refine aw_ops (by kernel_rfl) (fun K hK => ?_); simp (disch := first | omega | (simp only [lnS]; try omega; done)) [-getElem?_pos, -getElem?_neg, he]; refine hK _ _ ?_; clear hK K)
      refine aw_f (by (first | (simp [eval_tmp, put_at, he]; done) | (simp [eval_tmp, put_at, he]; omega))) (by kernel_rfl) ?_
      refine aw_skip ?_
      refine ⟨⟨rv, FD', FR, ?_, hff⟩, by (first | (simp [put_at, put_none, fr0_at, he]; done) | rfl)⟩
      unfold endJ
      rw [if_neg he]
      exact ⟨⟨h2.rj.hq, h2.rj.hr, h2.rj.qr⟩, h2.rk, h2.qd, h2.dr⟩
  rintro α G ⟨⟨rv', FD'', FR', g1, g2⟩, h6⟩
  refine aw_seq ?_
  (refine aw_ops (by kernel_rfl) (fun K hK => ?_); simp (disch := first | omega | (simp only [lnS]; try omega; done)) [-getElem?_pos, -getElem?_neg, h6]; refine hK _ _ ?_; clear hK K)
  (refine aw_ret ?_; simp (disch := first | omega | (simp only [lnS]; try omega; done)) [-getElem?_pos, -getElem?_neg, thenQ_ret, scopeQ_ret, inBlockQ_ret, RQ, resL, resV])
  subst hres
  refine ⟨?_, rv', FD'', FR', g1, g2⟩
  unfold endJ
  split <;> rfl
theorem rappend_ac {nro : Nat} {γ : Nat → Option Nat} {H : AH} (hnl : nro ≤ H.length) {q d : Nat} {rv v : Value} {FD FR : List Nat} {J : JM} (h : RS H q d rv FD FR J) (n0 : Nat) (hn0 : ∀ j ∈ q :: (FD ++ FR), n0 ≤ j) (hnn : nro ≤ n0) (hn0l : n0 ≤ H.length) (ps : List ByteArray) (hvp : Part H n0 v (ps.map .string)) (hps : ∀ s ∈ ps, s.size ≤ 2000) (hlen : ps.length ≤ 21)
    (hrs : ∀ s ∈ J.recs, s.size ≤ 2000) (hrl : J.recs.length ≤ 2000) (hg : Good J) (hb : (textsB ps).length ≤ 40000) :
    AC Tryz.prog nro γ 12 #[.pointer (some ⟨q, 0, none⟩), v] H (fun v' H' => RSQ H q d FD FR (appJ J ps) v' H') := by
  have ht : textsB (J.recs ++ ps) = textsB J.recs ++ textsB ps := by simp [textsB]
  have hmost := h.rk.1.most
  have hroom := hg.room
  have hsz := hg.size
  have hhalf : J.half = (J.D.firm.length - 1) / 2 := rfl
  have hHb : J.half ≤ 512 := by omega
  have htl : (textsB (J.recs ++ ps)).length = (textsB J.recs).length + (textsB ps).length := by rw [ht, List.length_append]
  have hfew := hg.few
  have hml := markL_len J.area (textsB (J.recs ++ ps)).length
  have ha := hg.area
  have hrow : ∀ L, StrV (H ++ L) rv J.recs := fun L => ((h.rj.hr.low (H' := H ++ L) (fun j hj => hget_left (h.rj.hr.lt j hj))).g.part).str
  have hroomA := rroom_rc (γ := γ) h.rj h.rk hrs hrl (by omega)
  refine rappend_go hnl h n0 hn0 hnn hn0l ps hvp hps hlen hrl (textsB J.recs) (textsB ps) (by omega) (by omega) (commitR J.D (rpages J J.area J.size (textsB (J.recs ++ ps))) [(0, fillB (markL J.area (textsB (J.recs ++ ps)).length))]) _ ?_ (fun G hl => rbytes_rc (fun L => (hvp.keep (lo' := (G ++ L).length) (by have := hl.2; simp; omega) (fun j hj => (hget_left (by have := hl.2; omega)).trans (hl.1 j hj))).str) hps (by omega)) (rbytes_rc hrow hrs hrl) hroomA ?_
  · by_cases hfull : J.half * 256 < (textsB J.recs).length + (textsB ps).length
    · rw [if_pos hfull]
      unfold appJ
      rw [if_pos (by omega)]
    · rw [if_neg hfull]
      by_cases hp : ps = []
      · rw [if_pos hp]
        unfold appJ
        rw [if_neg (by omega), if_pos hp]
      · rw [if_neg hp, ← htl]
        exact (good_app hg hmost hp (fun s hs => by have := hps s hs; omega) (by omega) (by omega)).1
  · intro hfull hp
    rw [rpg, ← ht]
    refine rcommit_go hnl h.rj.hq h.qd h.rk (fun j hj => by have := hn0 j (by simp [hj]); omega) J.area (textsB J.recs).length J.half _ _ (textsB (J.recs ++ ps)) _ _ (markL J.area (textsB (J.recs ++ ps)).length) (by omega) (textsB_byJ _) (by omega) (by omega) hhalf (by rw [hsz]) (by rw [hsz]) rfl ?_ (fun G' => rmark_rc _ _ (by omega) (by omega)) (by with_unfolding_all rfl) (by rw [hml]; omega)
    rw [List.length_drop]
    omega
end
section
/-- Where both journals of a play lie, and blocks beside them that stay. -/
structure PS (H G : AH) (B : List (Nat × Blk)) (d m q x : Nat) (rv rr : Value) (FD FR FM FX : List Nat) (J K : JM) : Prop where
  jr : JrR G q d rv FD FR J
  rs : RS G x m rr FM FX K
  dis : ∀ j ∈ q :: (FD ++ FR), j ∉ x :: (FM ++ FX)
  n1 : ∀ j ∈ q :: (FD ++ FR), H.length ≤ j
  n2 : ∀ j ∈ x :: (FM ++ FX), H.length ≤ j
  low : Low H.length H G
  by_ : ∀ p ∈ B, hget G p.1 = some p.2 ∧ p.1 ∉ q :: (FD ++ FR) ∧ p.1 ∉ x :: (FM ++ FX)
theorem Fr.low {H G G' : AH} {F F' : List Nat} (hf : Fr G G' F F') (hl : Low H.length H G) (hn : ∀ j ∈ F, H.length ≤ j) : Low H.length H G' :=
  ⟨fun j hj => (hf.out j (by have := hl.2; omega) (fun hm => by have := hn j hm; omega)).trans (hl.1 j hj), by have := hl.2; have := hf.len; omega⟩
theorem Fr.newN {H G G' : AH} {F F' : List Nat} (hf : Fr G G' F F') (hl : Low H.length H G) (hn : ∀ j ∈ F, H.length ≤ j) : ∀ j ∈ F', H.length ≤ j := fun j hj => by
  rcases hf.new j hj with h | h
  · exact hn j h
  · have := hl.2; omega
theorem Fr.stay {G G' : AH} {F F' : List Nat} (hf : Fr G G' F F') {j : Nat} (hj : j < G.length) (hn : j ∉ F) : j ∉ F' := fun hm => by
  rcases hf.new j hm with h | h
  · exact hn h
  · omega
section
variable {H G G' : AH} {B : List (Nat × Blk)} {d m q x q' x' : Nat} {rv rr rv' rr' : Value} {FD FR FM FX FD' FR' FM' FX' : List Nat} {J K J' K' : JM}
theorem PS.stepC (h : PS H G B d m q x rv rr FD FR FM FX J K) (hj : JrR G' q' d rv' FD' FR' J') (hf : Fr G G' (q :: (FD ++ FR)) (q' :: (FD' ++ FR'))) : PS H G' B d m q' x rv' rr FD' FR' FM FX J' K := by
  refine ⟨hj, h.rs.low (fun j hj => hf.out j (h.rs.lts j hj) (fun hm => h.dis j hm hj)), fun j hm hx => ?_, hf.newN h.low h.n1, h.n2, hf.low h.low h.n1, fun p hp => ?_⟩
  · rcases hf.new j hm with hh | hh
    · exact h.dis j hh hx
    · have := h.rs.lts j hx; omega
  · obtain ⟨a, b, c⟩ := h.by_ p hp
    exact ⟨(hf.out _ (hget_lt a) b).trans a, hf.stay (hget_lt a) b, c⟩
theorem PS.stepR (h : PS H G B d m q x rv rr FD FR FM FX J K) (hj : RS G' x' m rr' FM' FX' K') (hf : Fr G G' (x :: (FM ++ FX)) (x' :: (FM' ++ FX'))) : PS H G' B d m q x' rv rr' FD FR FM' FX' J K' := by
  refine ⟨h.jr.low (fun j hj => hf.out j (h.jr.lts j hj) (fun hm => h.dis j hj hm)) hf.len, hj, fun j hm hx => ?_, h.n1, hf.newN h.low h.n2, hf.low h.low h.n2, fun p hp => ?_⟩
  · rcases hf.new j hx with hh | hh
    · exact h.dis j hm hh
    · have := h.jr.lts j hm; omega
  · obtain ⟨a, b, c⟩ := h.by_ p hp
    exact ⟨(hf.out _ (hget_lt a) c).trans a, b, hf.stay (hget_lt a) c⟩
theorem PS.grow (h : PS H G B d m q x rv rr FD FR FM FX J K) (hl : Low G.length G G') : PS H G' B d m q x rv rr FD FR FM FX J K :=
  ⟨h.jr.low (fun j hj => hl.1 j (h.jr.lts j hj)) hl.2, h.rs.low (fun j hj => hl.1 j (h.rs.lts j hj)), h.dis, h.n1, h.n2, h.low.trans ⟨fun j hj => hl.1 j (by have := h.low.2; omega), by have := h.low.2; have := hl.2; omega⟩, fun p hp => by
    obtain ⟨a, b, c⟩ := h.by_ p hp
    exact ⟨(hl.1 _ (hget_lt a)).trans a, b, c⟩⟩
theorem PS.bys (h : PS H G B d m q x rv rr FD FR FM FX J K) (B' : List (Nat × Blk)) (hb : ∀ p ∈ B', hget G p.1 = some p.2 ∧ p.1 ∉ q :: (FD ++ FR) ∧ p.1 ∉ x :: (FM ++ FX)) : PS H G B' d m q x rv rr FD FR FM FX J K :=
  ⟨h.jr, h.rs, h.dis, h.n1, h.n2, h.low, hb⟩
theorem PS.alloc (h : PS H G B d m q x rv rr FD FR FM FX J K) (b : Blk) : PS H (G ++ [some b]) [(G.length, b)] d m q x rv rr FD FR FM FX J K :=
  (h.grow (G' := G ++ [some b]) (Low.push (Nat.le_refl _) _)).bys _ (fun p hp => by
    rw [List.mem_singleton] at hp
    subst hp
    exact ⟨by rw [hget_app0]; rfl, fun hm => by have := h.jr.lts _ hm; omega, fun hm => by have := h.rs.lts _ hm; omega⟩)
theorem JrR.disk {D' : DM} (h : JrR G q d rv FD FR J) (hd : Dk G' d FD' D') (hf : Fr G G' FD FD') : JrR G' q d rv FD' FR { J with D := D' } ∧ Fr G G' (q :: (FD ++ FR)) (q :: (FD' ++ FR)) := by
  have hlt := h.lts
  refine ⟨⟨(hf.out q (hlt q (by simp)) h.qd).trans h.hq, hd, h.hr.low (fun j hj => hf.out j (hlt j (by simp [hj])) (fun hm => h.dr j hm hj)) hf.len, hf.stay (hlt q (by simp)) h.qd, h.qr, fun j hm hm2 => ?_⟩, hf.len, fun j hj hne => hf.out j hj (fun hm => hne (by simp [hm])), fun j hj => ?_⟩
  · exact hf.stay (hlt j (by simp [hm2])) (fun hh => h.dr j hh hm2) hm
  · simp only [List.mem_cons, List.mem_append] at hj ⊢
    rcases hj with hh | hh | hh
    · exact .inl (.inl hh)
    · rcases hf.new j hh with hh | hh
      · exact .inl (.inr (.inl hh))
      · exact .inr hh
    · exact .inl (.inr (.inr hh))
theorem RS.disk {D' : DM} (h : RS G q d rv FD FR J) (hd : Rk G' d FD' D') (hf : Fr G G' FD FD') : RS G' q d rv FD' FR { J with D := D' } ∧ Fr G G' (q :: (FD ++ FR)) (q :: (FD' ++ FR)) := by
  have hlt := h.lts
  have hrj : RJ G' q d rv FR J := h.rj.low (fun j hj => hf.out j (hlt j (by
    rcases List.mem_cons.1 hj with rfl | hj
    · simp
    · simp [hj])) (fun hm => by
    rcases List.mem_cons.1 hj with rfl | hj
    · exact h.qd hm
    · exact h.dr j hm hj))
  refine ⟨⟨⟨hrj.hq, hrj.hr, hrj.qr⟩, hd, hf.stay (hlt q (by simp)) h.qd, fun j hm hm2 => ?_⟩, hf.len, fun j hj hne => hf.out j hj (fun hm => hne (by simp [hm])), fun j hj => ?_⟩
  · exact hf.stay (hlt j (by simp [hm2])) (fun hh => h.dr j hh hm2) hm
  · simp only [List.mem_cons, List.mem_append] at hj ⊢
    rcases hj with hh | hh | hh
    · exact .inl (.inl hh)
    · rcases hf.new j hh with hh | hh
      · exact .inl (.inr (.inl hh))
      · exact .inr hh
    · exact .inl (.inr (.inr hh))
/-- The code's Open, on the code's disk. -/
theorem PS.openC {D : DM} (h : PS H G B d m q x rv rr FD FR FM FX J K) (hJ : J.D = D) (hG : GG G) (ho : openJ D = (some J', 0)) :
    AC Tryz.prog H.length gm 8 #[.pointer (some ⟨d, 0, none⟩)] G (fun v' G' => ∃ q' rv' FR', v' = .tuple #[.pointer (some ⟨q', 0, none⟩), .int .i64 0] ∧ PS H G' B d m q' x rv' rr FD FR' FM FX J' K) := by
  subst hJ
  refine (open_ac (nro := H.length) hG h.low.2 h.jr.hd).mono ?_
  rw [ho]
  rintro v' G' ⟨hl, q', rv', FR', rfl, hj, hok, hq, hfr⟩
  exact ⟨q', rv', FR', rfl, h.stepC hj ⟨hl.2, fun j hj _ => hl.1 j hj, fun j hj => by
    simp only [List.mem_cons, List.mem_append] at hj ⊢
    rcases hj with rfl | hj | hj
    · exact .inr hq
    · exact .inl (.inr (.inl hj))
    · exact .inr (hfr j hj)⟩⟩
theorem PS.openR {γ : Nat → Option Nat} {D : DM} (h : PS H G B d m q x rv rr FD FR FM FX J K) (hK : K.D = D) (hD : K'.D = D) (ho : openJ D = (some K', 0)) :
    AC Tryz.prog H.length γ 9 #[.pointer (some ⟨m, 0, none⟩)] G (fun v' G' => ∃ x' rr' FX', v' = .tuple #[.pointer (some ⟨x', 0, none⟩), .int .i64 0] ∧ PS H G' B d m q x' rv rr' FD FR FM FX' J K') := by
  subst hK
  refine (ropen_ac (nro := H.length) h.low.2 h.rs.rk).mono ?_
  rw [ho]
  rintro v' G' ⟨hl, x', rr', FX', rfl, hj, hq, hfr⟩
  have hrk := h.rs.rk.low (H' := G') (fun j hj => hl.1 j (h.rs.rk.lt j hj))
  exact ⟨x', rr', FX', rfl, h.stepR ⟨hj, hD ▸ hrk, fun hm => by have := h.rs.rk.lt _ hm; omega, fun j hm hm2 => by have := hfr j hm2; have := h.rs.rk.lt j hm; omega⟩ ⟨hl.2, fun j hj _ => hl.1 j hj, fun j hj => by
    simp only [List.mem_cons, List.mem_append] at hj ⊢
    rcases hj with rfl | hj | hj
    · exact .inr hq
    · exact .inl (.inr (.inl hj))
    · exact .inr (hfr j hj)⟩⟩
end
end
section
/-- What stands at the head of each act. -/
def PZ (H G : AH) (B : List (Nat × Blk)) (d m q x : Nat) : Prop := ∃ (rv rr : Value) (FD FR FM FX : List Nat) (J : JM), PS H G B d m q x rv rr FD FR FM FX J J ∧ Good J ∧ J.D.firm.length ≤ 14
theorem newN_small {kk : Nat} (h : kk ≤ 11) : newN ((3 + kk : Nat) : Int) = 3 + kk := by
  unfold newN
  split <;> split <;> omega
theorem Good.bounds {J : JM} (h : Good J) (hl : J.D.firm.length ≤ 14) : J.recs.length ≤ 2000 ∧ (∀ s ∈ J.recs, s.size ≤ 2000) ∧ (textsB J.recs).length ≤ 2000 ∧ J.Ok := by
  have h1 := textsB_ge J.recs
  have h2 := h.size
  have h3 := h.room
  have h4 : J.half ≤ 6 := by unfold JM.half; omega
  exact ⟨by omega, fun s hs => by have := totS_mem J.recs s hs; omega, by omega, ⟨h.area, h3⟩⟩
attribute [local irreducible] markL newD textsB appJ snapJ openJ
attribute [local simp] wb_bool wb_undef XL_nil XL_cons XLc_val XLc_call step1_eq stepW_t stepW_f stepC_n stepC_s stepX_s stepX_n stepN_s calleeX oneV xop_eq xopR_s xopR_n wantedA_eq wantedG_n wantedG_s plain1_int plain1_bool plain1_string bits_i64 bits_u64 bits_u32 bits_u16 bits_u8 xeqA xagg xcmp xarr allK_iv num_iv calleeOf xread xeff xbin xint xnil xun xstr xload xconv xpart xfield xfieldAddr xindexAddr xindex bnd asInt? xslice xlen xmin xmax xbuild xfill xappend xapp2 xappstr xappmk xcap xcopy xcells eval_tmp eval_const put_at put_none fr0_at cells_agg cells_int cells_bool cells_string cells_ptr cells_slice notTuple tab iv_all hget_app hget_app0 hget_cons0 hget_cons set_app set_app0 setR setR_one QL_nil QL_cons QLc_val stepQ_t stepQ_f stepQC_n stepQC_s stepQX_s SL_nil SL_cons SLc_val stepS_t stepS_f ltT ltF leT leF eqT eqF ltTn ltFn leTn leFn eqTn eqFn beqT beqF bneT bneF wi64 wu64 wu32 wu16 wu8 tmodP tdivP hgetL hgetNe hgetEq setL nums_def nums_len Nat.succ_le_of_lt List.getElem?_cons_zero List.getElem?_cons_succ Option.getD_some Int.toNat_add Int.toNat_mul agB agI agS agP agL agA okB okI okS okP okSl okA
theorem plays_law {H : AH} (hG : GG H) (h2 : 2 ≤ H.length) (blocks : Int) {ds : List CD} {v : Value} (hok : OkL [CK.sl acK] ds) (hvl : ValL H ds [v]) :
    AC Tryz.prog H.length gm 3 #[.int .i64 blocks, v] H (fun v' _ => v' = .bool true) := by
  obtain ⟨xs, rfl, hwf, hlen⟩ := acts_of hok
  have hv : CD.Val H (.sl (xs.map AcD.row)) v := hvl.2 0 _ _ rfl rfl
  have hvn := (val_nt hv).1
  have hvlen := val_len (P := Tryz.prog) (t := 22) (e := 39) hv (by simp)
  rw [List.length_map] at hvlen
  have hxl63 : xs.length ≤ 9223372036854775807 := by simp only [maxLen] at hlen; omega
  have hat := fun (i : Nat) (x : AcD) (hx : xs[i]? = some x) => act_at hv hx (by simp) (by simp) (by simp)
  have hal := alive_rc hG h2
  obtain ⟨kk, hkk, hsm⟩ := small_vc blocks
  have hnN := newN_small hkk
  have hgood := good_new ((3 + kk : Nat) : Int) (by omega)
  have hlive := live_new ((3 + kk : Nat) : Int) (by omega)
  have hop := hlive.opens
  have hNl : (newD ((3 + kk : Nat) : Int)).firm.length = 3 + kk := by
    have : (newD ((3 + kk : Nat) : Int)).firm.length = newN ((3 + kk : Nat) : Int) := by with_unfolding_all simp [newD]
    omega
  have hnew := new_ac (nro := H.length) (γ := gm) (H := H) ((3 + kk : Nat) : Int) (Nat.le_refl _)
  have hrnew := fun (G : AH) (h : H.length ≤ G.length) => rnew_ac (nro := H.length) (γ := gm) (H := G) ((3 + kk : Nat) : Int) h
  generalize newD ((3 + kk : Nat) : Int) = D0 at *
  generalize ((3 + kk : Nat) : Int) = z at *
  refine ac_of_aw Tryz.func3 rfl Tryz.ntmps3 Tryz.results3 (by simp) ?_
  refine aw_seq ?_
  (refine aw_ops (by kernel_rfl) (fun K hK => ?_); simp (disch := first | omega | (simp only [lnS]; try omega; done)) [-getElem?_pos, -getElem?_neg]; refine hK _ _ ?_; clear hK K)
  refine aw_seq ?_
  refine aw_seq ?_
  refine aw_ops (by kernel_rfl) (fun K hK => ?_)
  simp (disch := first | omega | (simp only [lnS]; try omega; done)) [-getElem?_pos, -getElem?_neg]
  refine ⟨by kernel_rfl, ac_of_rc hal (by simp [pv_iv, pv_int, pv_bool, pv_string, pv_tup2, pv_tup3, iv_plain, p2_int, p2_bool, p2_string]) ?_⟩
  simp (disch := first | omega | (simp only [lnS]; try omega; done)) [-getElem?_pos, -getElem?_neg]
  refine hK _ _ ?_; clear hK K
  refine aw_f (by (first | (simp [eval_tmp, put_at]; done) | (simp [eval_tmp, put_at]; omega))) (by kernel_rfl) ?_
  refine aw_skip ?_
  refine aw_seq ?_
  refine aw_ops (by kernel_rfl) (fun K hK => ?_)
  simp (disch := first | omega | (simp only [lnS]; try omega; done)) [-getElem?_pos, -getElem?_neg]
  refine ⟨by kernel_rfl, ac_of_vc (by simp [pv_iv, pv_int, pv_bool, pv_string, pv_tup2, pv_tup3, iv_plain, p2_int, p2_bool, p2_string]) hsm ?_⟩
  try simp (disch := first | omega | (simp only [lnS]; try omega; done)) [-getElem?_pos, -getElem?_neg]
  refine ⟨by kernel_rfl, AC.mono hnew ?_⟩
  rintro _ G1 ⟨rfl, hd1, L1, rfl⟩
  have hlow1 : Low H.length H (H ++ L1) := Low.push (Nat.le_refl _) _
  have hF1 : ∀ j ∈ [H.length + 2, H.length, H.length + 1], H.length ≤ j := fun j hj => by simp at hj; omega
  generalize H ++ L1 = G1 at *
  generalize [H.length + 2, H.length, H.length + 1] = F1 at *
  generalize H.length + 2 = d at *
  try simp (disch := first | omega | (simp only [lnS]; try omega; done)) [-getElem?_pos, -getElem?_neg]
  refine ⟨by kernel_rfl, ac_of_vc (by simp [pv_iv, pv_int, pv_bool, pv_string, pv_tup2, pv_tup3, iv_plain, p2_int, p2_bool, p2_string]) hsm ?_⟩
  try simp (disch := first | omega | (simp only [lnS]; try omega; done)) [-getElem?_pos, -getElem?_neg]
  refine ⟨by kernel_rfl, AC.mono (hrnew G1 hlow1.2) ?_⟩
  rintro _ G2 ⟨rfl, FM, hm2, hf2⟩
  have hm2n : ∀ j ∈ FM, G1.length ≤ j := fun j hj => by
    rcases hf2.new j hj with h | h
    · simp at h
    · exact h
  generalize hmG : G1.length = m at *
  try simp (disch := first | omega | (simp only [lnS]; try omega; done)) [-getElem?_pos, -getElem?_neg]
  refine hK _ _ ?_; clear hK K
  have hG2l : G1.length ≤ G2.length := hf2.len
  have hlow2 : Low H.length H G2 := ⟨fun j hj => (hf2.out j (by have := hlow1.2; omega) (by simp)).trans (hlow1.1 j hj), by have := hlow1.2; omega⟩
  have hd2 := hd1.low (H' := G2) (fun j hj => hf2.out j (hd1.lt j hj) (by simp))
  have hFlt := hd1.lt
  refine aw_seq ?_
  refine aw_ops (by kernel_rfl) (fun K hK => ?_)
  simp (disch := first | omega | (simp only [lnS]; try omega; done)) [-getElem?_pos, -getElem?_neg]
  refine ⟨by kernel_rfl, AC.mono (open_ac (nro := H.length) (hG.lowJ h2 hlow2) hlow2.2 hd2) ?_⟩
  rw [hop]
  rintro _ G3 ⟨hl3, q, rv, FR, rfl, hj3, hok3, hq3, hfr3⟩
  try simp (disch := first | omega | (simp only [lnS]; try omega; done)) [-getElem?_pos, -getElem?_neg]
  refine hK _ _ ?_; clear hK K
  have hlow3 : Low H.length H G3 := ⟨fun j hj => (hl3.1 j (by have := hlow2.2; omega)).trans (hlow2.1 j hj), by have := hlow2.2; have := hl3.2; omega⟩
  have hm3 := hm2.low (H' := G3) (fun j hj => hl3.1 j (hm2.lt j hj))
  have hmlt := hm2.lt
  refine aw_seq ?_
  refine aw_ops (by kernel_rfl) (fun K hK => ?_)
  simp (disch := first | omega | (simp only [lnS]; try omega; done)) [-getElem?_pos, -getElem?_neg]
  refine ⟨by kernel_rfl, AC.mono (ropen_ac (nro := H.length) hlow3.2 hm3) ?_⟩
  rw [hop]
  rintro _ G4 ⟨hl4, x, rr, FX, rfl, hr4, hx4, hfx4⟩
  try simp (disch := first | omega | (simp only [lnS]; try omega; done)) [-getElem?_pos, -getElem?_neg]
  refine hK _ _ ?_; clear hK K
  have hpz : PZ H G4 [] d m q x := by
    have l1 := hlow1.2
    have l3 := hl3.2
    have l4 := hl4.2
    refine ⟨rv, rr, F1, FR, FM, FX, _, ⟨hj3.low (fun j hj => hl4.1 j (hj3.lts j hj)) hl4.2, ⟨hr4, hm3.low (fun j hj => hl4.1 j (hm3.lt j hj)), fun hm => by have := hmlt x hm; omega, fun j hm hm2 => by have := hmlt j hm; have := hfx4 j hm2; omega⟩, fun j hj hx => ?_, fun j hj => ?_, fun j hj => ?_, hlow3.trans ⟨fun j hj => hl4.1 j (by omega), by omega⟩, by simp⟩, hgood, by rw [hNl]; omega⟩
    · simp only [List.mem_cons, List.mem_append] at hj hx
      have hjl := hj3.lts j (by simpa using hj)
      rcases hx with rfl | hx | hx
      · omega
      · have a1 := hm2n j hx
        have a2 := hmlt j hx
        rcases hj with rfl | hj | hj
        · omega
        · have := hFlt j hj; omega
        · have := hfr3 j hj; omega
      · have := hfx4 j hx; omega
    · simp only [List.mem_cons, List.mem_append] at hj
      rcases hj with rfl | hj | hj
      · omega
      · exact hF1 j hj
      · have := hfr3 j hj; omega
    · simp only [List.mem_cons, List.mem_append] at hj
      rcases hj with rfl | hj | hj
      · omega
      · have := hm2n j hj; omega
      · have := hfx4 j hj; omega
  refine aw_seq ?_
  refine aw_seq ?_
  (refine aw_ops (by kernel_rfl) (fun K hK => ?_); simp (disch := first | omega | (simp only [lnS]; try omega; done)) [-getElem?_pos, -getElem?_neg]; refine hK _ _ ?_; clear hK K)
  refine aw_f (by (first | (simp [eval_tmp, put_at]; done) | (simp [eval_tmp, put_at]; omega))) (by kernel_rfl) ?_
  refine aw_skip ?_
  refine aw_seq ?_
  refine aw_seq ?_
  (refine aw_ops (by kernel_rfl) (fun K hK => ?_); simp (disch := first | omega | (simp only [lnS]; try omega; done)) [-getElem?_pos, -getElem?_neg]; refine hK _ _ ?_; clear hK K)
  refine aw_block ?_
  refine aw_loop (fun c α G => ∃ (i q x : Nat), i + c = xs.length ∧ PZ H G [] d m q x ∧ α 1 = v ∧ α 5 = .pointer (some ⟨d, 0, none⟩) ∧ α 6 = .pointer (some ⟨m, 0, none⟩) ∧ α 7 = .pointer (some ⟨q, 0, none⟩) ∧ α 9 = .pointer (some ⟨x, 0, none⟩) ∧ α 11 = .int .i64 (i : Nat)) xs.length ?_ ?_
  · exact ⟨0, q, x, by omega, hpz, by (first | (simp [put_at, put_none, fr0_at]; done) | rfl), by (first | (simp [put_at, put_none, fr0_at]; done) | rfl), by (first | (simp [put_at, put_none, fr0_at]; done) | rfl), by (first | (simp [put_at, put_none, fr0_at]; done) | rfl), by (first | (simp [put_at, put_none, fr0_at]; done) | rfl), by (first | (simp [put_at, put_none, fr0_at]; done) | rfl)⟩
  clear hmG
  clear hpz hj3 hl3 hq3 hfr3 hok3 hop hd1 hd2 hlive hnew hrnew hlow1 hlow2 hlow3 hF1 hr4 hl4 hx4 hfx4 hm2 hm3 hmlt hFlt hm2n hf2 hgood hNl hG2l rv rr FR FX FM q x G1 G2 G3 G4 F1
  rintro c α G ⟨i, q, x, hic, hpz, h1, h5, h6, h7, h9, h11⟩
  refine aw_seq ?_
  refine aw_seq ?_
  by_cases hlt : i < xs.length ∧ i < 40
  case neg =>
    have hcase : ¬ i < xs.length ∨ (i < xs.length ∧ ¬ i < 40) := by omega
    obtain ⟨rv, rr, FD, FR, FM, FX, J, hps, hgd, hfl⟩ := hpz
    have hG5 := hG.lowJ h2 hps.low
    have hal5 := alive_rc hG5 (by have := hps.low.2; omega)
    rcases hcase with hc | ⟨hc1, hc2⟩
    · (refine aw_ops (by kernel_rfl) (fun K hK => ?_); simp (disch := first | omega | (simp only [lnS]; try omega; done)) [-getElem?_pos, -getElem?_neg, h1, h11, -notTuple, hvn, -xlen, hvlen, hc]; refine hK _ _ ?_; clear hK K)
      refine aw_f (by (first | (simp [eval_tmp, put_at]; done) | (simp [eval_tmp, put_at]; omega))) (by kernel_rfl) ?_
      refine aw_exit ?_
      refine aw_seq ?_
      refine aw_ops (by kernel_rfl) (fun K hK => ?_)
      try simp (disch := first | omega | (simp only [lnS]; try omega; done)) [-getElem?_pos, -getElem?_neg]
      refine ⟨by kernel_rfl, ac_of_rc hal5 (by simp [pv_iv, pv_int, pv_bool, pv_string, pv_tup2, pv_tup3, iv_plain, p2_int, p2_bool, p2_string]) ?_⟩
      try simp (disch := first | omega | (simp only [lnS]; try omega; done)) [-getElem?_pos, -getElem?_neg]
      refine hK _ _ ?_; clear hK K
      (refine aw_ret ?_; simp (disch := first | omega | (simp only [lnS]; try omega; done)) [-getElem?_pos, -getElem?_neg, thenQ_ret, scopeQ_ret, inBlockQ_ret, RQ, resL, resV])
    · (refine aw_ops (by kernel_rfl) (fun K hK => ?_); simp (disch := first | omega | (simp only [lnS]; try omega; done)) [-getElem?_pos, -getElem?_neg, h1, h11, -notTuple, hvn, -xlen, hvlen, hc1, hc2]; refine hK _ _ ?_; clear hK K)
      refine aw_f (by (first | (simp [eval_tmp, put_at]; done) | (simp [eval_tmp, put_at]; omega))) (by kernel_rfl) ?_
      refine aw_exit ?_
      refine aw_seq ?_
      refine aw_ops (by kernel_rfl) (fun K hK => ?_)
      try simp (disch := first | omega | (simp only [lnS]; try omega; done)) [-getElem?_pos, -getElem?_neg]
      refine ⟨by kernel_rfl, ac_of_rc hal5 (by simp [pv_iv, pv_int, pv_bool, pv_string, pv_tup2, pv_tup3, iv_plain, p2_int, p2_bool, p2_string]) ?_⟩
      try simp (disch := first | omega | (simp only [lnS]; try omega; done)) [-getElem?_pos, -getElem?_neg]
      refine hK _ _ ?_; clear hK K
      (refine aw_ret ?_; simp (disch := first | omega | (simp only [lnS]; try omega; done)) [-getElem?_pos, -getElem?_neg, thenQ_ret, scopeQ_ret, inBlockQ_ret, RQ, resL, resV])
  obtain ⟨hl1, hl2⟩ := hlt
  obtain ⟨a, ha⟩ : ∃ a, xs[i]? = some a := ⟨_, List.getElem?_eq_getElem hl1⟩
  have hwx := hwf a (List.mem_of_getElem? ha)
  obtain ⟨lv, kv, pp, hp1, hp2, ⟨hsl, hpl⟩, hsk, hln, hkn, hload⟩ := hat i a ha
  obtain ⟨rv, rr, FD, FR, FM, FX, J, hps, hgd, hfl⟩ := hpz
  have hld := hload hps.low
  (refine aw_ops (by kernel_rfl) (fun K hK => ?_); simp (disch := first | omega | (simp only [lnS]; try omega; done)) [-getElem?_pos, -getElem?_neg, h1, h11, -notTuple, hvn, -xlen, hvlen, hl1, hl2]; refine hK _ _ ?_; clear hK K)
  refine aw_t (by (first | (simp [eval_tmp, put_at]; done) | (simp [eval_tmp, put_at]; omega))) (by kernel_rfl) ?_
  refine aw_skip ?_
  refine aw_seq ?_
  refine aw_block ?_
  refine aw_seq ?_
  have hnG : H.length ≤ G.length := hps.low.2
  (refine aw_ops (by kernel_rfl) (fun K hK => ?_); simp (disch := first | omega | (simp only [lnS]; try omega; done)) [-getElem?_pos, -getElem?_neg, plain_nil, h1, h11, -notTuple, hvn, hp2, hln.1, hkn.1, nt_intJ, nt_aggJ, nt_ptrJ, -xindexAddr, hp1, -xload, hld]; refine hK _ _ ?_; clear hK K)
  obtain ⟨G1, hGx⟩ : ∃ G1 : AH, G1 = G ++ [some ⟨[.int .i64 a.kind, .int .i64 a.n, lv, kv], 39, none⟩] := ⟨_, rfl⟩
  rw [← hGx]
  have hps1 := hps.alloc ⟨[.int .i64 a.kind, .int .i64 a.n, lv, kv], 39, none⟩
  rw [← hGx] at hps1
  clear hps hld hGx
  generalize G.length = b8 at *
  obtain ⟨hb1, hb2, hb3⟩ := hps1.by_ _ (List.mem_singleton.2 rfl)
  simp only at hb1 hb2 hb3
  have hlv1 : StrV G1 lv a.l := (hsl.keep (fun j hj => hps1.low.1 j hj)).str
  refine aw_seq ?_
  refine aw_seq ?_
  have hgreat := great_rc (γ := gm) (H := G1) hlv1 (fun s hs => by have := hwx.tl s hs; simp only [maxLen] at this; omega) (by have := hwx.ll; simp only [maxLen] at this; omega)
  refine aw_ops (by kernel_rfl) (fun K hK => ?_)
  simp (disch := first | omega | (simp only [lnS]; try omega; done)) [-getElem?_pos, -getElem?_neg, hb1, -notTuple, hln.1, hkn.1]
  refine ⟨by kernel_rfl, ac_of_rc hgreat (by simp [pv_iv, pv_int, pv_bool, pv_string, pv_tup2, pv_tup3, iv_plain, p2_int, p2_bool, p2_string]) ?_⟩
  try simp (disch := first | omega | (simp only [lnS]; try omega; done)) [-getElem?_pos, -getElem?_neg]
  refine hK _ _ ?_; clear hK K
  cases hgr : grJ a.l with
  | true =>
    refine aw_t (by (first | (simp [eval_tmp, put_at, hgr]; done) | (simp [eval_tmp, put_at, hgr]; omega))) (by kernel_rfl) ?_
    refine aw_exit ?_
    (refine aw_ops (by kernel_rfl) (fun K hK => ?_); simp (disch := first | omega | (simp only [lnS]; try omega; done)) [-getElem?_pos, -getElem?_neg, h11]; refine hK _ _ ?_; clear hK K)
    exact ⟨c - 1, by omega, i + 1, q, x, by omega, ⟨rv, rr, FD, FR, FM, FX, J, hps1.bys [] (by simp), hgd, hfl⟩, by (first | (simp [put_at, put_none, fr0_at, h1]; done) | rfl), by (first | (simp [put_at, put_none, fr0_at, h5]; done) | rfl), by (first | (simp [put_at, put_none, fr0_at, h6]; done) | rfl), by (first | (simp [put_at, put_none, fr0_at, h7]; done) | rfl), by (first | (simp [put_at, put_none, fr0_at, h9]; done) | rfl), by (first | (simp [put_at, put_none, fr0_at]; done) | rfl)⟩
  | false =>
    obtain ⟨gr1, gr2, gr3⟩ := grJ_f hgr
    refine aw_f (by (first | (simp [eval_tmp, put_at, hgr]; done) | (simp [eval_tmp, put_at, hgr]; omega))) (by kernel_rfl) ?_
    refine aw_skip ?_
    refine aw_seq ?_
    (refine aw_ops (by kernel_rfl) (fun K hK => ?_); simp (disch := first | omega | (simp only [lnS]; try omega; done)) [-getElem?_pos, -getElem?_neg]; refine hK _ _ ?_; clear hK K)
    obtain ⟨fs, hfs⟩ : ∃ fs, fs = a.l.headD ⟨#[]⟩ := ⟨_, rfl⟩
    have hfsz : fs.size ≤ 2000 := by
      rw [hfs]
      cases hh : a.l with
      | nil => decide
      | cons y ys => exact gr1 y (by rw [hh]; simp)
    refine aw_seq ?_
    refine aw_cut (fun α G => G1 = G ∧ α 1 = v ∧ α 5 = .pointer (some ⟨d, 0, none⟩) ∧ α 6 = .pointer (some ⟨m, 0, none⟩) ∧ α 7 = .pointer (some ⟨q, 0, none⟩) ∧ α 9 = .pointer (some ⟨x, 0, none⟩) ∧ α 11 = .int .i64 (i : Nat) ∧ α 12 = .pointer (some ⟨b8, 0, none⟩) ∧ α 13 = .string fs) ?_ ?_
    · refine aw_seq ?_
      have hll := hlv1.len
      cases hh : a.l with
      | nil =>
        have hl0 : a.l.length = 0 := by rw [hh]; rfl
        have hfs0 : fs = ⟨#[]⟩ := by rw [hfs, hh]; rfl
        (refine aw_ops (by kernel_rfl) (fun K hK => ?_); simp (disch := first | omega | (simp only [lnS]; try omega; done)) [-getElem?_pos, -getElem?_neg, hb1, -notTuple, hln.1, hkn.1, nt_intJ, -xlen, hll, hl0]; refine hK _ _ ?_; clear hK K)
        refine aw_f (by (first | (simp [eval_tmp, put_at]; done) | (simp [eval_tmp, put_at]; omega))) (by kernel_rfl) ?_
        refine aw_skip ?_
        exact ⟨rfl, by (first | (simp [put_at, put_none, fr0_at, h1]; done) | rfl), by (first | (simp [put_at, put_none, fr0_at, h5]; done) | rfl), by (first | (simp [put_at, put_none, fr0_at, h6]; done) | rfl), by (first | (simp [put_at, put_none, fr0_at, h7]; done) | rfl), by (first | (simp [put_at, put_none, fr0_at, h9]; done) | rfl), by (first | (simp [put_at, put_none, fr0_at, h11]; done) | rfl), by (first | (simp [put_at, put_none, fr0_at]; done) | rfl), by (first | (simp [put_at, put_none, fr0_at, hfs0]; done) | rfl)⟩
      | cons y ys =>
        have hl0 : 0 < a.l.length := by rw [hh]; simp
        have hl0' : ¬ a.l.length = 0 := by omega
        have hfs0 : y = fs := by rw [hfs, hh]; rfl
        subst hfs0
        obtain ⟨pq, hpq1, hpq2⟩ := hlv1.at_ 0 y (by rw [hh]; rfl)
        (refine aw_ops (by kernel_rfl) (fun K hK => ?_); simp (disch := first | omega | (simp only [lnS]; try omega; done)) [-getElem?_pos, -getElem?_neg, hb1, -notTuple, hln.1, hkn.1, nt_intJ, -xlen, hll, hl0, hl0']; refine hK _ _ ?_; clear hK K)
        refine aw_t (by (first | (simp [eval_tmp, put_at]; done) | (simp [eval_tmp, put_at]; omega))) (by kernel_rfl) ?_
        rw [show ((0 : Nat) : Int) = 0 from rfl] at hpq1
        have hx2 : xload Tryz.prog 36 (.pointer (some ⟨b8, 2, none⟩)) G1 = some lv := by simp [xload, hb1]
        (refine aw_ops (by kernel_rfl) (fun K hK => ?_); simp (disch := first | omega | (simp only [lnS]; try omega; done)) [-getElem?_pos, -getElem?_neg, -notTuple, hln.1, hkn.1, nt_intJ, nt_strJ, -xindexAddr, hpq1, -xload, hx2, hpq2]; refine hK _ _ ?_; clear hK K)
        exact ⟨rfl, by (first | (simp [put_at, put_none, fr0_at, h1]; done) | rfl), by (first | (simp [put_at, put_none, fr0_at, h5]; done) | rfl), by (first | (simp [put_at, put_none, fr0_at, h6]; done) | rfl), by (first | (simp [put_at, put_none, fr0_at, h7]; done) | rfl), by (first | (simp [put_at, put_none, fr0_at, h9]; done) | rfl), by (first | (simp [put_at, put_none, fr0_at, h11]; done) | rfl), by (first | (simp [put_at, put_none, fr0_at]; done) | rfl), by (first | (simp [put_at, put_none, fr0_at]; done) | rfl)⟩
    clear h1 h5 h6 h7 h9 h11
    rintro α G ⟨rfl, h1, h5, h6, h7, h9, h11, h12, h13⟩
    refine aw_seq ?_
    (refine aw_ops (by kernel_rfl) (fun K hK => ?_); simp (disch := first | omega | (simp only [lnS]; try omega; done)) [-getElem?_pos, -getElem?_neg]; refine hK _ _ ?_; clear hK K)
    refine aw_seq ?_
    refine aw_seq ?_
    obtain ⟨kd, hkd⟩ : ∃ kd, a.kind.tmod 4 = kd := ⟨_, rfl⟩
    (refine aw_ops (by kernel_rfl) (fun K hK => ?_); simp (disch := first | omega | (simp only [lnS]; try omega; done)) [-getElem?_pos, -getElem?_neg, h12, hb1, -notTuple, hln.1, hkn.1, nt_intJ, hkd, -tmodP]; refine hK _ _ ?_; clear hK K)
    refine aw_cut (fun α G => ∃ q x : Nat, PZ H G [] d m q x ∧ α 1 = v ∧ α 5 = .pointer (some ⟨d, 0, none⟩) ∧ α 6 = .pointer (some ⟨m, 0, none⟩) ∧ α 7 = .pointer (some ⟨q, 0, none⟩) ∧ α 9 = .pointer (some ⟨x, 0, none⟩) ∧ α 11 = .int .i64 (i : Nat) ∧ α 14 = .bool true) ?_ ?_
    · have hG1 := hG.lowJ h2 hps1.low
      have hlow := hps1.low
      obtain ⟨bd1, bd2, bd3, bd4⟩ := hgd.bounds hfl
      have hmost : J.D.firm.length ≤ 1024 := by omega
      have hnD : ∀ j ∈ FD, H.length ≤ j := fun j hj => hps1.n1 j (by simp [hj])
      have hnM : ∀ j ∈ FM, H.length ≤ j := fun j hj => hps1.n2 j (by simp [hj])
      have hdD : H.length ≤ d := hnD d (by obtain ⟨_, _, _, _, _, rfl, _⟩ := hps1.jr.hd; simp)
      have hdM : H.length ≤ m := hnM m (by obtain ⟨_, _, _, _, _, _, rfl, _⟩ := hps1.rs.rk; simp)
      refine aw_block ?_
      refine aw_seq ?_
      by_cases k0 : kd = 0
      · subst k0
        (refine aw_ops (by kernel_rfl) (fun K hK => ?_); simp (disch := first | omega | (simp only [lnS]; try omega; done)) [-getElem?_pos, -getElem?_neg]; refine hK _ _ ?_; clear hK K)
        refine aw_t (by (first | (simp [eval_tmp, put_at]; done) | (simp [eval_tmp, put_at]; omega))) (by kernel_rfl) ?_
        have htl := textsB_lenJ a.l
        have hgs : Good (appJ J a.l).1 ∧ (appJ J a.l).1.D.firm.length ≤ 14 := by
          by_cases hf : J.half * 256 < J.size + (textsB a.l).length
          · have e : appJ J a.l = (J, 8) := by with_unfolding_all (unfold appJ; rw [if_pos hf])
            rw [e]; exact ⟨hgd, hfl⟩
          · by_cases hp : a.l = []
            · have e : appJ J a.l = (J, 0) := by with_unfolding_all (unfold appJ; rw [if_neg hf, if_pos hp])
              rw [e]; exact ⟨hgd, hfl⟩
            · have := (good_app hgd hmost hp (fun s hs => by have := gr1 s hs; omega) (by omega) (by omega)).2
              exact ⟨this.1, by rw [this.2]; exact hfl⟩
        obtain ⟨Φ, e0, e1, e2⟩ : ∃ Φ : Nat → AH → Prop, (∀ G, Φ 0 G ↔ G = G1) ∧ (∀ G, Φ 1 G ↔ ∃ rv FD FR, PS H G [(b8, ⟨[.int .i64 a.kind, .int .i64 a.n, lv, kv], 39, none⟩)] d m q x rv rr FD FR FM FX (appJ J a.l).1 J) ∧ (∀ s G, 1 < s → (Φ s G ↔ ∃ rv rr FD FR FM FX, PS H G [(b8, ⟨[.int .i64 a.kind, .int .i64 a.n, lv, kv], 39, none⟩)] d m q x rv rr FD FR FM FX (appJ J a.l).1 (appJ J a.l).1)) :=
          ⟨fun s G => if s = 0 then G = G1 else if s = 1 then ∃ rv FD FR, PS H G [(b8, ⟨[.int .i64 a.kind, .int .i64 a.n, lv, kv], 39, none⟩)] d m q x rv rr FD FR FM FX (appJ J a.l).1 J else ∃ rv rr FD FR FM FX, PS H G [(b8, ⟨[.int .i64 a.kind, .int .i64 a.n, lv, kv], 39, none⟩)] d m q x rv rr FD FR FM FX (appJ J a.l).1 (appJ J a.l).1, fun G => Iff.rfl, fun G => Iff.rfl, fun s G h => by simp only [if_neg (show ¬ s = 0 by omega), if_neg (show ¬ s = 1 by omega)]⟩
        have hS : ∀ s G, Φ s G → hget G b8 = hget G1 b8 := fun s G h => by
          by_cases hs0 : s = 0
          · subst hs0; rw [(e0 G).1 h]
          · by_cases hs1 : s = 1
            · subst hs1
              obtain ⟨_, _, _, hh⟩ := (e1 G).1 h
              exact (hh.by_ _ (List.mem_singleton.2 rfl)).1.trans hb1.symm
            · obtain ⟨_, _, _, _, _, _, hh⟩ := (e2 s G (by omega)).1 h
              exact (hh.by_ _ (List.mem_singleton.2 rfl)).1.trans hb1.symm
        refine aw_chain (fun j => j == b8) Φ (by kernel_rfl) (by kernel_rfl) (by kernel_rfl) (fun s G h j hj => by
          have e : j = b8 := by simpa using hj
          rw [e]; exact hS s G h) ((e0 _).2 rfl) (fun K hK => ?_)
        simp (disch := first | omega | (simp only [lnS]; try omega; done)) [-getElem?_pos, -getElem?_neg, h7, h9, h12, hb1, -notTuple, hln.1, hkn.1, nt_intJ, nt_ptrJ, CL_nil, CL_cons, CLc_val, CLc_skip, memS, inS, inSp, isCallF, effF]
        refine CLc_call (v := .int .i64 (appJ J a.l).2) (by kernel_rfl) (fun G hG => ?_) ?_
        · rw [(e0 G).1 hG]
          refine (append_ac (nro := H.length) hG1 hlow.2 (by have := hlow.2; omega) hps1.jr bd4 hps1.n1 a.l (hsl.sls hlow.1 hlow.2 hps1.n1) gr1 gr2 (by omega) (by omega) (textsB_byJ _) (by have := hgd.few; omega)).mono ?_
          rintro _ G2 ⟨rfl, rv2, FD2, FR2, hj2, hf2⟩
          exact ⟨rfl, (e1 _).2 ⟨rv2, FD2, FR2, hps1.stepC hj2 hf2⟩⟩
        try simp (disch := first | omega | (simp only [lnS]; try omega; done)) [-getElem?_pos, -getElem?_neg, h7, h9, h12, hb1, -notTuple, hln.1, hkn.1, nt_intJ, nt_ptrJ, CL_nil, CL_cons, CLc_val, CLc_skip, memS, inS, inSp, isCallF, effF]
        refine CLc_call (v := .int .i64 (appJ J a.l).2) (by kernel_rfl) (fun G hG => ?_) ?_
        · obtain ⟨rv2, FD2, FR2, hps2⟩ := (e1 G).1 hG
          refine (rappend_ac (nro := H.length) hps2.low.2 hps2.rs H.length hps2.n2 (Nat.le_refl _) hps2.low.2 a.l (hpl.keep (Nat.le_refl _) hps2.low.1) gr1 gr2 bd2 bd1 hgd (by omega)).mono ?_
          rintro _ G3 ⟨rfl, rr3, FM3, FX3, hj3, hf3⟩
          exact ⟨rfl, (e2 _ _ (by omega)).2 ⟨rv2, rr3, FD2, FR2, FM3, FX3, hps2.stepR hj3 hf3⟩⟩
        try simp (disch := first | omega | (simp only [lnS]; try omega; done)) [-getElem?_pos, -getElem?_neg, h7, h9, h12, hb1, -notTuple, hln.1, hkn.1, nt_intJ, nt_ptrJ, CL_nil, CL_cons, CLc_val, CLc_skip, memS, inS, inSp, isCallF, effF]
        intro G5 hG5
        refine hK _ _ ?_; clear hK K
        obtain ⟨rv5, rr5, FD5, FR5, FM5, FX5, hps5⟩ := (e2 _ _ (by omega)).1 hG5
        exact ⟨q, x, ⟨rv5, rr5, FD5, FR5, FM5, FX5, _, hps5.bys [] (by simp), hgs.1, hgs.2⟩, by (first | (simp [put_at, put_none, fr0_at, h1]; done) | rfl), by (first | (simp [put_at, put_none, fr0_at, h5]; done) | rfl), by (first | (simp [put_at, put_none, fr0_at, h6]; done) | rfl), by (first | (simp [put_at, put_none, fr0_at, h7]; done) | rfl), by (first | (simp [put_at, put_none, fr0_at, h9]; done) | rfl), by (first | (simp [put_at, put_none, fr0_at, h11]; done) | rfl), by (first | (simp [put_at, put_none, fr0_at]; done) | rfl)⟩
      have k0' : (kd == 0) = false := by simp [k0]
      (refine aw_ops (by kernel_rfl) (fun K hK => ?_); simp (disch := first | omega | (simp only [lnS]; try omega; done)) [-getElem?_pos, -getElem?_neg, k0, k0']; refine hK _ _ ?_; clear hK K)
      refine aw_f (by (first | (simp [eval_tmp, put_at, k0]; done) | (simp [eval_tmp, put_at, k0]; omega))) (by kernel_rfl) ?_
      refine aw_seq ?_
      by_cases k1 : kd = 1
      · subst k1
        (refine aw_ops (by kernel_rfl) (fun K hK => ?_); simp (disch := first | omega | (simp only [lnS]; try omega; done)) [-getElem?_pos, -getElem?_neg]; refine hK _ _ ?_; clear hK K)
        refine aw_t (by (first | (simp [eval_tmp, put_at]; done) | (simp [eval_tmp, put_at]; omega))) (by kernel_rfl) ?_
        have hgs : Good (snapJ J fs).1 ∧ (snapJ J fs).1.D.firm.length ≤ 14 := by
          by_cases hf : J.half * 256 < (textsB [fs]).length
          · have e : snapJ J fs = (J, 8) := by with_unfolding_all (unfold snapJ; rw [if_pos hf])
            rw [e]; exact ⟨hgd, hfl⟩
          · have := (good_snap hgd hmost (s := fs) (by omega) (by omega)).2
            exact ⟨this.1, by rw [this.2]; exact hfl⟩
        refine aw_ops (by kernel_rfl) (fun K hK => ?_)
        simp (disch := first | omega | (simp only [lnS]; try omega; done)) [-getElem?_pos, -getElem?_neg, h7, h13]
        refine ⟨by kernel_rfl, AC.mono (snap_ac (nro := H.length) hG1 hlow.2 (by have := hlow.2; omega) hps1.jr bd4 hps1.n1 fs hfsz (by have := hgd.few; omega)) ?_⟩
        rintro _ G2 ⟨rfl, rv2, FD2, FR2, hj2, hf2⟩
        have hps2 := hps1.stepC hj2 hf2
        try simp (disch := first | omega | (simp only [lnS]; try omega; done)) [-getElem?_pos, -getElem?_neg, h9, h13]
        refine ⟨by kernel_rfl, AC.mono (rsnap_ac (nro := H.length) hps2.low.2 hps2.rs hps2.n2 hgd fs hfsz) ?_⟩
        rintro _ G3 ⟨rfl, rr3, FM3, FX3, hj3, hf3⟩
        have hps3 := hps2.stepR hj3 hf3
        try simp (disch := first | omega | (simp only [lnS]; try omega; done)) [-getElem?_pos, -getElem?_neg]
        refine hK _ _ ?_; clear hK K
        exact ⟨q, x, ⟨rv2, rr3, FD2, FR2, FM3, FX3, _, hps3.bys [] (by simp), hgs.1, hgs.2⟩, by (first | (simp [put_at, put_none, fr0_at, h1]; done) | rfl), by (first | (simp [put_at, put_none, fr0_at, h5]; done) | rfl), by (first | (simp [put_at, put_none, fr0_at, h6]; done) | rfl), by (first | (simp [put_at, put_none, fr0_at, h7]; done) | rfl), by (first | (simp [put_at, put_none, fr0_at, h9]; done) | rfl), by (first | (simp [put_at, put_none, fr0_at, h11]; done) | rfl), by (first | (simp [put_at, put_none, fr0_at]; done) | rfl)⟩
      have k1' : (kd == 1) = false := by simp [k1]
      (refine aw_ops (by kernel_rfl) (fun K hK => ?_); simp (disch := first | omega | (simp only [lnS]; try omega; done)) [-getElem?_pos, -getElem?_neg, k1, k1']; refine hK _ _ ?_; clear hK K)
      refine aw_f (by (first | (simp [eval_tmp, put_at, k1]; done) | (simp [eval_tmp, put_at, k1]; omega))) (by kernel_rfl) ?_
      refine aw_seq ?_
      by_cases k2 : kd = 2
      · subst k2
        (refine aw_ops (by kernel_rfl) (fun K hK => ?_); simp (disch := first | omega | (simp only [lnS]; try omega; done)) [-getElem?_pos, -getElem?_neg]; refine hK _ _ ?_; clear hK K)
        refine aw_t (by (first | (simp [eval_tmp, put_at]; done) | (simp [eval_tmp, put_at]; omega))) (by kernel_rfl) ?_
        refine aw_seq ?_
        refine aw_ops (by kernel_rfl) (fun K hK => ?_)
        simp (disch := first | omega | (simp only [lnS]; try omega; done)) [-getElem?_pos, -getElem?_neg, h5, h12, hb1, -notTuple, hln.1, hkn.1, nt_intJ, nt_ptrJ]
        refine ⟨by kernel_rfl, AC.mono (fuse_ac (nro := H.length) hps1.jr.hd hdD hwx.n.2) ?_⟩
        rintro u2 G2 ⟨hd2, hf2⟩
        obtain ⟨hj2, hf2'⟩ := hps1.jr.disk hd2 hf2
        have hps2 := hps1.stepC hj2 hf2'
        have hb2' := (hps2.by_ _ (List.mem_singleton.2 rfl)).1
        simp only at hb2'
        try simp (disch := first | omega | (simp only [lnS]; try omega; done)) [-getElem?_pos, -getElem?_neg]
        refine hK _ _ ?_; clear hK K
        refine aw_ops (by kernel_rfl) (fun K hK => ?_)
        simp (disch := first | omega | (simp only [lnS]; try omega; done)) [-getElem?_pos, -getElem?_neg, h6, h12, hb2', -notTuple, hln.1, hkn.1, nt_intJ, nt_ptrJ]
        refine ⟨by kernel_rfl, AC.mono (light_ac (nro := H.length) hps2.rs.rk hdM hwx.n.2) ?_⟩
        rintro u3 G3 ⟨hd3, hf3⟩
        obtain ⟨hj3, hf3'⟩ := hps2.rs.disk hd3 hf3
        have hps3 := hps2.stepR hj3 hf3'
        try simp (disch := first | omega | (simp only [lnS]; try omega; done)) [-getElem?_pos, -getElem?_neg]
        refine hK _ _ ?_; clear hK K
        exact ⟨q, x, ⟨rv, rr, FD, FR, FM, FX, _, hps3.bys [] (by simp), good_fuse hgd _, hfl⟩, by (first | (simp [put_at, put_none, fr0_at, h1]; done) | rfl), by (first | (simp [put_at, put_none, fr0_at, h5]; done) | rfl), by (first | (simp [put_at, put_none, fr0_at, h6]; done) | rfl), by (first | (simp [put_at, put_none, fr0_at, h7]; done) | rfl), by (first | (simp [put_at, put_none, fr0_at, h9]; done) | rfl), by (first | (simp [put_at, put_none, fr0_at, h11]; done) | rfl), by (first | (simp [put_at, put_none, fr0_at]; done) | rfl)⟩
      have k2' : (kd == 2) = false := by simp [k2]
      (refine aw_ops (by kernel_rfl) (fun K hK => ?_); simp (disch := first | omega | (simp only [lnS]; try omega; done)) [-getElem?_pos, -getElem?_neg, k2, k2']; refine hK _ _ ?_; clear hK K)
      refine aw_f (by (first | (simp [eval_tmp, put_at, k2]; done) | (simp [eval_tmp, put_at, k2]; omega))) (by kernel_rfl) ?_
      refine aw_seq ?_
      by_cases k3 : kd = 3
      · subst k3
        (refine aw_ops (by kernel_rfl) (fun K hK => ?_); simp (disch := first | omega | (simp only [lnS]; try omega; done)) [-getElem?_pos, -getElem?_neg]; refine hK _ _ ?_; clear hK K)
        refine aw_t (by (first | (simp [eval_tmp, put_at]; done) | (simp [eval_tmp, put_at]; omega))) (by kernel_rfl) ?_
        refine aw_seq ?_
        refine aw_ops (by kernel_rfl) (fun K hK => ?_)
        simp (disch := first | omega | (simp only [lnS]; try omega; done)) [-getElem?_pos, -getElem?_neg, h5, h12, hb1, -notTuple, hln.1, hkn.1, nt_intJ, nt_ptrJ]
        refine ⟨by kernel_rfl, AC.mono (crash_ac (nro := H.length) hps1.jr.hd hnD hlow.2 (hsk.sls (F := FD) hlow.1 hlow.2 hnD) hwx.keep) ?_⟩
        rintro u2 G2 ⟨F2, hd2, hf2⟩
        obtain ⟨hj2, hf2'⟩ := hps1.jr.disk hd2 hf2
        have hps2 := hps1.stepC hj2 hf2'
        have hb2' := (hps2.by_ _ (List.mem_singleton.2 rfl)).1
        simp only at hb2'
        have hrows : Rows (J.D.crash a.keep).firm := hd2.1.rows
        have hcl : (J.D.crash a.keep).firm.length = J.D.firm.length := (crF_ok (ks := a.keep) hps1.jr.hd.1.rows hps1.jr.hd.1.uns J.D.uns.length).1
        obtain ⟨J', hopn, hJD, hgd'⟩ := good_crash hgd a.keep hrows
        try simp (disch := first | omega | (simp only [lnS]; try omega; done)) [-getElem?_pos, -getElem?_neg]
        refine hK _ _ ?_; clear hK K
        refine aw_seq ?_
        refine aw_ops (by kernel_rfl) (fun K hK => ?_)
        simp (disch := first | omega | (simp only [lnS]; try omega; done)) [-getElem?_pos, -getElem?_neg, h6, h12, hb2', -notTuple, hln.1, hkn.1, nt_intJ, nt_ptrJ]
        refine ⟨by kernel_rfl, AC.mono (rcrash_ac (nro := H.length) hps2.rs.rk hnM (hsk.sls (F := FM) hps2.low.1 hps2.low.2 hnM) hwx.keep) ?_⟩
        rintro u3 G3 ⟨F3, hd3, hf3⟩
        obtain ⟨hj3, hf3'⟩ := hps2.rs.disk hd3 hf3
        have hps3 := hps2.stepR hj3 hf3'
        try simp (disch := first | omega | (simp only [lnS]; try omega; done)) [-getElem?_pos, -getElem?_neg]
        refine hK _ _ ?_; clear hK K
        generalize J.D.crash a.keep = DC at *
        refine aw_seq ?_
        refine aw_ops (by kernel_rfl) (fun K hK => ?_)
        simp (disch := first | omega | (simp only [lnS]; try omega; done)) [-getElem?_pos, -getElem?_neg, h5]
        refine ⟨by kernel_rfl, AC.mono (hps3.openC rfl (hG.lowJ h2 hps3.low) hopn) ?_⟩
        rintro _ G4 ⟨q4, rv4, FR4, rfl, hps4⟩
        try simp (disch := first | omega | (simp only [lnS]; try omega; done)) [-getElem?_pos, -getElem?_neg]
        refine hK _ _ ?_; clear hK K
        refine aw_seq ?_
        refine aw_ops (by kernel_rfl) (fun K hK => ?_)
        simp (disch := first | omega | (simp only [lnS]; try omega; done)) [-getElem?_pos, -getElem?_neg, h6]
        refine ⟨by kernel_rfl, AC.mono (hps4.openR rfl hJD hopn) ?_⟩
        rintro _ G5 ⟨x5, rr5, FX5, rfl, hps5⟩
        try simp (disch := first | omega | (simp only [lnS]; try omega; done)) [-getElem?_pos, -getElem?_neg]
        refine hK _ _ ?_; clear hK K
        refine aw_seq ?_
        (refine aw_ops (by kernel_rfl) (fun K hK => ?_); simp (disch := first | omega | (simp only [lnS]; try omega; done)) [-getElem?_pos, -getElem?_neg]; refine hK _ _ ?_; clear hK K)
        refine aw_f (by (first | (simp [eval_tmp, put_at]; done) | (simp [eval_tmp, put_at]; omega))) (by kernel_rfl) ?_
        refine aw_skip ?_
        exact ⟨q4, x5, ⟨_, _, _, _, _, _, J', hps5.bys [] (by simp), hgd', by rw [hJD, hcl]; exact hfl⟩, by (first | (simp [put_at, put_none, fr0_at, h1]; done) | rfl), by (first | (simp [put_at, put_none, fr0_at, h5]; done) | rfl), by (first | (simp [put_at, put_none, fr0_at, h6]; done) | rfl), by (first | (simp [put_at, put_none, fr0_at]; done) | rfl), by (first | (simp [put_at, put_none, fr0_at]; done) | rfl), by (first | (simp [put_at, put_none, fr0_at, h11]; done) | rfl), by (first | (simp [put_at, put_none, fr0_at]; done) | rfl)⟩
      have k3' : (kd == 3) = false := by simp [k3]
      (refine aw_ops (by kernel_rfl) (fun K hK => ?_); simp (disch := first | omega | (simp only [lnS]; try omega; done)) [-getElem?_pos, -getElem?_neg, k3, k3']; refine hK _ _ ?_; clear hK K)
      refine aw_f (by (first | (simp [eval_tmp, put_at, k3]; done) | (simp [eval_tmp, put_at, k3]; omega))) (by kernel_rfl) ?_
      refine aw_skip ?_
      exact ⟨q, x, ⟨rv, rr, FD, FR, FM, FX, J, hps1.bys [] (by simp), hgd, hfl⟩, by (first | (simp [put_at, put_none, fr0_at, h1]; done) | rfl), by (first | (simp [put_at, put_none, fr0_at, h5]; done) | rfl), by (first | (simp [put_at, put_none, fr0_at, h6]; done) | rfl), by (first | (simp [put_at, put_none, fr0_at, h7]; done) | rfl), by (first | (simp [put_at, put_none, fr0_at, h9]; done) | rfl), by (first | (simp [put_at, put_none, fr0_at, h11]; done) | rfl), by (first | (simp [put_at, put_none, fr0_at]; done) | rfl)⟩
    clear hps1 hb1 hb2 hb3 hlv1 hgreat h1 h5 h6 h7 h9 h11 h12 h13 hgd hfl G1 q x rv rr FD FR FM FX J
    rintro α G2 ⟨q, x, ⟨rv, rr, FD, FR, FM, FX, J, hps, hgd, hfl⟩, h1, h5, h6, h7, h9, h11, h14⟩
    obtain ⟨bd1, bd2, bd3, bd4⟩ := hgd.bounds hfl
    have hj2 := hps.jr
    have hxr := hps.rs.rj
    have hxq := hxr.hq
    have hxl := hget_lt hxq
    have hrsh := own_shape hxr.hr
    obtain ⟨v0, hv0, hrec⟩ := records_fixT (nro := H.length) (γ := gm) hps.low.2 hj2 (by omega)
    obtain ⟨Φ, e0, e1⟩ : ∃ Φ : Nat → AH → Prop, (∀ G, Φ 0 G ↔ G = G2) ∧ (∀ s G, 0 < s → (Φ s G ↔ (Part G G.length v0 (J.recs.map .string) ∧ Low G2.length G2 G))) :=
      ⟨fun s G => if s = 0 then G = G2 else (Part G G.length v0 (J.recs.map .string) ∧ Low G2.length G2 G), fun G => Iff.rfl, fun s G h => by simp only [if_neg (show ¬ s = 0 by omega)]⟩
    have eS : ∀ s G, Φ s G → Low G2.length G2 G := fun s G h => by
      by_cases hs : s = 0
      · subst hs; rw [(e0 G).1 h]; exact Low.refl (Nat.le_refl _)
      · exact ((e1 s G (by omega)).1 h).2
    refine aw_seq ?_
    refine aw_cut (fun α G => PZ H G [] d m q x ∧ α 1 = v ∧ α 5 = .pointer (some ⟨d, 0, none⟩) ∧ α 6 = .pointer (some ⟨m, 0, none⟩) ∧ α 7 = .pointer (some ⟨q, 0, none⟩) ∧ α 9 = .pointer (some ⟨x, 0, none⟩) ∧ α 11 = .int .i64 (i : Nat)) ?_ ?_
    · refine aw_seq ?_
      refine aw_chain (fun j => j == x) Φ (by kernel_rfl) (by kernel_rfl) (by kernel_rfl) (fun s G h j hj => by
        have e : j = x := by simpa using hj
        rw [e]; exact (eS s G h).1 x hxl) ((e0 _).2 rfl) (fun K hK => ?_)
      simp (disch := first | omega | (simp only [lnS]; try omega; done)) [-getElem?_pos, -getElem?_neg, h7, h9, h14, hxq, -notTuple, hrsh.1, CL_nil, CL_cons, CLc_val, CLc_skip, memS, inS, inSp, isCallF, effF]
      refine CLc_call (v := v0) (by kernel_rfl) (fun G hG => ?_) ?_
      · rw [(e0 G).1 hG]
        exact hrec.mono fun v' G' h => ⟨h.1, (e1 _ _ (by omega)).2 ⟨by rw [← h.1]; exact h.2.1, ⟨h.2.2.2, h.2.2.1⟩⟩⟩
      try simp (disch := first | omega | (simp only [lnS]; try omega; done)) [-getElem?_pos, -getElem?_neg, h7, h9, h14, hxq, -notTuple, hrsh.1, hv0, CL_nil, CL_cons, CLc_val, CLc_skip, memS, inS, inSp, isCallF, effF]
      refine CLc_call (v := .bool true) (by kernel_rfl) (fun G hG => ?_) ?_
      · obtain ⟨g1, g2⟩ := (e1 _ G (by omega)).1 hG
        have hrr : StrV G rr J.recs := (hxr.hr.g.part.keep g2.2 g2.1).str
        have hsm := same_rc (γ := gm) g1.str hrr (by omega) (by omega)
        rw [decide_eq_true rfl] at hsm
        exact ac_of_rc hsm (by simp [pv_iv, pv_int, pv_bool, pv_string, pv_tup2, pv_tup3, iv_plain, p2_int, p2_bool, p2_string]) ⟨rfl, (e1 _ _ (by omega)).2 ⟨g1, g2⟩⟩
      try simp (disch := first | omega | (simp only [lnS]; try omega; done)) [-getElem?_pos, -getElem?_neg, h7, h9, h14, hxq, -notTuple, hrsh.1, hv0, CL_nil, CL_cons, CLc_val, CLc_skip, memS, inS, inSp, isCallF, effF]
      refine CLc_call (v := .int .i64 ((J.half * 256 : Nat) - (J.size : Nat) : Int)) (by kernel_rfl) (fun G hG => ?_) ?_
      · obtain ⟨g1, g2⟩ := (e1 _ G (by omega)).1 hG
        exact ac_of_rc (room_rc (hj2.low (H' := G) (fun j hj => g2.1 j (hj2.lts j hj)) g2.2) bd4) (by simp [pv_iv, pv_int, pv_bool, pv_string, pv_tup2, pv_tup3, iv_plain, p2_int, p2_bool, p2_string]) ⟨rfl, (e1 _ _ (by omega)).2 ⟨g1, g2⟩⟩
      try simp (disch := first | omega | (simp only [lnS]; try omega; done)) [-getElem?_pos, -getElem?_neg, h7, h9, h14, hxq, -notTuple, hrsh.1, hv0, CL_nil, CL_cons, CLc_val, CLc_skip, memS, inS, inSp, isCallF, effF]
      refine CLc_call (v := .int .i64 ((J.half * 256 : Nat) - (J.size : Nat) : Int)) (by kernel_rfl) (fun G hG => ?_) ?_
      · obtain ⟨g1, g2⟩ := (e1 _ G (by omega)).1 hG
        have hrs2 := hps.rs.low (H' := G) (fun j hj => g2.1 j (hps.rs.lts j hj))
        have hrm := rroom_rc (γ := gm) hrs2.rj hrs2.rk bd2 bd1 (by omega)
        rw [← hgd.size] at hrm
        exact ac_of_rc hrm (by simp [pv_iv, pv_int, pv_bool, pv_string, pv_tup2, pv_tup3, iv_plain, p2_int, p2_bool, p2_string]) ⟨rfl, (e1 _ _ (by omega)).2 ⟨g1, g2⟩⟩
      try simp (disch := first | omega | (simp only [lnS]; try omega; done)) [-getElem?_pos, -getElem?_neg, h7, h9, h14, hxq, -notTuple, hrsh.1, hv0, CL_nil, CL_cons, CLc_val, CLc_skip, memS, inS, inSp, isCallF, effF]
      intro G5 hG5
      refine hK _ _ ?_; clear hK K
      have hps5 := hps.grow (((e1 _ G5 (by omega)).1 hG5).2)
      refine aw_f (by (first | (simp [eval_tmp, put_at]; done) | (simp [eval_tmp, put_at]; omega))) (by kernel_rfl) ?_
      refine aw_skip ?_
      exact ⟨⟨rv, rr, FD, FR, FM, FX, J, hps5, hgd, hfl⟩, by (first | (simp [put_at, put_none, fr0_at, h1]; done) | rfl), by (first | (simp [put_at, put_none, fr0_at, h5]; done) | rfl), by (first | (simp [put_at, put_none, fr0_at, h6]; done) | rfl), by (first | (simp [put_at, put_none, fr0_at, h7]; done) | rfl), by (first | (simp [put_at, put_none, fr0_at, h9]; done) | rfl), by (first | (simp [put_at, put_none, fr0_at, h11]; done) | rfl)⟩
    clear hps hgd hfl bd1 bd2 bd3 bd4 hj2 hxr hxq hxl hrsh hrec hv0 e0 e1 eS h1 h5 h6 h7 h9 h11 h14 Φ v0 rv rr FD FR FM FX J G2
    rintro α G2 ⟨⟨rv, rr, FD, FR, FM, FX, J, hps, hgd, hfl⟩, h1, h5, h6, h7, h9, h11⟩
    have hrk := hps.rs.rk
    have hdk := hps.jr.hd
    obtain ⟨ho, f, A, B, FA, FB, rfl, hR⟩ := hrk
    have hmq := hR.hq
    have hmf := hR.hf
    refine aw_seq ?_
    (refine aw_ops (by kernel_rfl) (fun K hK => ?_); simp (disch := first | omega | (simp only [lnS]; try omega; done)) [-getElem?_pos, -getElem?_neg]; refine hK _ _ ?_; clear hK K)
    refine aw_block ?_
    refine aw_loop (fun c2 α G => ∃ k : Nat, k + c2 = J.D.firm.length ∧ G2 = G ∧ α 1 = v ∧ α 5 = .pointer (some ⟨d, 0, none⟩) ∧ α 6 = .pointer (some ⟨m, 0, none⟩) ∧ α 7 = .pointer (some ⟨q, 0, none⟩) ∧ α 9 = .pointer (some ⟨x, 0, none⟩) ∧ α 11 = .int .i64 (i : Nat) ∧ α 15 = .int .i64 (k : Nat)) J.D.firm.length ?_ ?_
    · exact ⟨0, by omega, rfl, by (first | (simp [put_at, put_none, fr0_at, h1]; done) | rfl), by (first | (simp [put_at, put_none, fr0_at, h5]; done) | rfl), by (first | (simp [put_at, put_none, fr0_at, h6]; done) | rfl), by (first | (simp [put_at, put_none, fr0_at, h7]; done) | rfl), by (first | (simp [put_at, put_none, fr0_at, h9]; done) | rfl), by (first | (simp [put_at, put_none, fr0_at, h11]; done) | rfl), by (first | (simp [put_at, put_none, fr0_at]; done) | rfl)⟩
    clear h1 h5 h6 h7 h9 h11
    rintro c2 α G ⟨k, hkc, rfl, h1, h5, h6, h7, h9, h11, h15⟩
    refine aw_seq ?_
    refine aw_seq ?_
    by_cases hkl : k < J.D.firm.length
    case neg =>
      (refine aw_ops (by kernel_rfl) (fun K hK => ?_); simp (disch := first | omega | (simp only [lnS]; try omega; done)) [-getElem?_pos, -getElem?_neg, h15, h6, hmq, hkl]; refine hK _ _ ?_; clear hK K)
      refine aw_f (by (first | (simp [eval_tmp, put_at]; done) | (simp [eval_tmp, put_at]; omega))) (by kernel_rfl) ?_
      refine aw_exit ?_
      (refine aw_ops (by kernel_rfl) (fun K hK => ?_); simp (disch := first | omega | (simp only [lnS]; try omega; done)) [-getElem?_pos, -getElem?_neg, h11]; refine hK _ _ ?_; clear hK K)
      exact ⟨c - 1, by omega, i + 1, q, x, by omega, ⟨rv, rr, FD, FR, _, FX, J, hps, hgd, hfl⟩, by (first | (simp [put_at, put_none, fr0_at, h1]; done) | rfl), by (first | (simp [put_at, put_none, fr0_at, h5]; done) | rfl), by (first | (simp [put_at, put_none, fr0_at, h6]; done) | rfl), by (first | (simp [put_at, put_none, fr0_at, h7]; done) | rfl), by (first | (simp [put_at, put_none, fr0_at, h9]; done) | rfl), by (first | (simp [put_at, put_none, fr0_at]; done) | rfl)⟩
    obtain ⟨r, hr⟩ : ∃ r, J.D.firm[k]? = some r := ⟨_, List.getElem?_eq_getElem hkl⟩
    have hr2 : readV J.D.firm (k : Nat) = r := by
      have : hasB J.D.firm.length (k : Nat) = true := by simp [hasB]; omega
      simp [readV, this, hr]
    have hcF : (J.D.firm.map Value.string)[k]? = some (.string r) := by rw [List.getElem?_map, hr]; rfl
    have hss : ∀ L : AH, AC Tryz.prog (G2 ++ L).length gm 23 #[.pointer (some ⟨d, 0, none⟩), .int .i64 (k : Nat)] (G2 ++ L) (fun v' _ => v' = .string r) := fun L => (settled_ac (hdk.low (H' := G2 ++ L) (fun j hj => hget_left (hdk.lt j hj))) _).mono fun _ _ h => h.1.trans (by rw [hr2])
    (refine aw_ops (by kernel_rfl) (fun K hK => ?_); simp (disch := first | omega | (simp only [lnS]; try omega; done)) [-getElem?_pos, -getElem?_neg, h15, h6, hmq, hkl]; refine hK _ _ ?_; clear hK K)
    refine aw_t (by (first | (simp [eval_tmp, put_at]; done) | (simp [eval_tmp, put_at]; omega))) (by kernel_rfl) ?_
    refine aw_skip ?_
    refine aw_seq ?_
    refine aw_block ?_
    refine aw_seq ?_
    (refine aw_plan [] [] [0, 1, 2, 3, 4, 5, 6, 7, 8, 9, 10] 11 0 (by kernel_rfl) (by kernel_rfl) (by kernel_rfl) (fun K hK => ?_)); simp only [sel, List.getElem?_cons_succ, List.getElem?_cons_zero, List.drop_succ_cons, List.drop_zero]; simp (disch := first | omega | (simp only [lnS]; try omega; done)) [-getElem?_pos, -getElem?_neg, h5, h6, h15, hmq, hmf, hcF, PL_nil, PL_cons, PLc_val, PLc_new, stepP_t, stepP_f, stepPC_n, stepPC_s, stepPX_s, stepPX_n, stepPA_t, stepPA_c, stepPA_l, stepPN_s, allocOp, reloc_sl, reloc_ptr, List.map_cons, List.map_nil, List.nil_append, List.append_assoc, List.cons_append, Nat.add_assoc]
    refine PLc_call (v := .string r) (by kernel_rfl) (fun L hL => hss L) (by simp [pv_iv, pv_int, pv_bool, pv_string, pv_tup2, pv_tup3, iv_plain, p2_int, p2_bool, p2_string]) ?_
    try simp (disch := first | omega | (simp only [lnS]; try omega; done)) [-getElem?_pos, -getElem?_neg, h5, h6, h15, hmq, hmf, hcF, beq_self_eq_true, PL_nil, PL_cons, PLc_val, PLc_new, stepP_t, stepP_f, stepPC_n, stepPC_s, stepPX_s, stepPX_n, stepPA_t, stepPA_c, stepPA_l, stepPN_s, allocOp, reloc_sl, reloc_ptr, List.map_cons, List.map_nil, List.nil_append, List.append_assoc, List.cons_append, Nat.add_assoc]
    refine hK _ _ ?_; clear hK K
    refine aw_f (by (first | (simp [eval_tmp, put_at]; done) | (simp [eval_tmp, put_at]; omega))) (by kernel_rfl) ?_
    refine aw_skip ?_
    (refine aw_ops (by kernel_rfl) (fun K hK => ?_); simp (disch := first | omega | (simp only [lnS]; try omega; done)) [-getElem?_pos, -getElem?_neg, h15]; refine hK _ _ ?_; clear hK K)
    exact ⟨c2 - 1, by omega, k + 1, by omega, rfl, by (first | (simp [put_at, put_none, fr0_at, h1]; done) | rfl), by (first | (simp [put_at, put_none, fr0_at, h5]; done) | rfl), by (first | (simp [put_at, put_none, fr0_at, h6]; done) | rfl), by (first | (simp [put_at, put_none, fr0_at, h7]; done) | rfl), by (first | (simp [put_at, put_none, fr0_at, h9]; done) | rfl), by (first | (simp [put_at, put_none, fr0_at, h11]; done) | rfl), by (first | (simp [put_at, put_none, fr0_at]; done) | rfl)⟩
end
end Go.Proofs.YtgamobjfeaeddaaGreatDoor
