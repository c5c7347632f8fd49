/-
  A disk's sync and crash, walked.
-/
import Derived.Test.YtadbgdhbamdiaaaDn
import Derived.Test.YtadbgdhbamdiaaaXsl
namespace Go.Proofs.Ytadbgdhbamdiaaa
open Go Go.RowKit
set_option linter.unusedVariables false
set_option linter.unusedSimpArgs false
set_option maxRecDepth 100000
set_option maxHeartbeats 4000000

def DM.sync (D : DM) : DM := if D.dead = true then D else if D.burnV = 0 then { D.burn with firm := D.late, uns := [] } else D.burn
def DM.syncV (D : DM) : Int := if D.dead = true then 7 else D.burnV
theorem late_take {firm : List ByteArray} {uns : List (Nat × ByteArray)} {i : Nat} {w : Nat × ByteArray} (h : uns[i]? = some w) : lateOf firm (uns.take (i + 1)) = (lateOf firm (uns.take i)).set w.1 w.2 := by
  rw [List.take_add_one, h]; exact late_app _ _ _
theorem burn_late (D : DM) : D.burn.late = D.late := by unfold DM.late; rw [burn_firm, burn_uns]
theorem rows_take {D : DM} (h : D.Ok) (i : Nat) : ∀ r ∈ lateOf D.firm (D.uns.take i), r.size = 256 := late_rows h.rows (fun w hw => (h.uns w (List.mem_of_mem_take hw)).2)
theorem OwnF.slice {H : AH} {v : Value} {e : TypeId} {sz : Nat} {cells : List Value} {F : List Nat} (h : OwnF H v e sz cells F) (hc : cells ≠ []) (h0 : 0 < sz) {n : Nat} (hn : cells.length = n * sz) : ∃ u, v = .slice (some ⟨u, 0, none⟩) n n ∧ hget H u = some ⟨cells, e, some sz⟩ ∧ F = [u] := by
  rcases h with ⟨_, h, _⟩ | ⟨j, len, rfl, h2, h3, rfl⟩
  · exact absurd h hc
  · have : len = n := Nat.eq_of_mul_eq_mul_right h0 (h3.symm.trans hn)
    subst this
    exact ⟨j, rfl, h2, rfl⟩
attribute [local simp] wb_bool wb_undef XL_nil XL_cons XLc_val XLc_call step1_eq stepW_t stepW_f stepC_n stepC_s stepX_s xop_eq xopR_s xopR_n wantedA_eq wantedG_n wantedG_s plain1_int plain1_bool plain1_string bits_i64 bits_u64 bits_u32 bits_u16 bits_u8 xeqA xarr allK_iv num_iv calleeOf xread xeff xbin xint xnil xun xstr xload xconv xpart xfield xfieldAddr xindexAddr xindex bnd asInt? xslice xlen xmin xmax xbuild xfill xappend xcopy xcells eval_tmp eval_const put_at put_none fr0_at cells_agg cells_int cells_bool cells_string cells_ptr cells_slice notTuple tab iv_all hget_app hget_app0 hget_cons0 hget_cons set_app set_app0 setR setR_one QL_nil QL_cons QLc_val stepQ_t stepQ_f stepQC_n stepQC_s stepQX_s SL_nil SL_cons SLc_val stepS_t stepS_f ltT ltF leT leF eqT eqF ltTn ltFn leTn leFn eqTn eqFn beqT beqF bneT bneF wi64 wu64 wu32 wu16 wu8 tmodP tdivP hgetL hgetNe hgetEq setL nums_def nums_len Nat.succ_le_of_lt List.getElem?_cons_zero List.getElem?_cons_succ Option.getD_some Int.toNat_add Int.toNat_mul agB agI agS agP agL agA okB okI okS okP okSl okA

section
variable {H : AH} {γ : Nat → Option Nat} {nro p : Nat} {F : List Nat} {D : DM}
theorem sync_ac (h : Dk H p F D) (hn : ∀ j ∈ F, nro ≤ j) (hnl : nro ≤ H.length) :
    AC Try.prog nro γ 13 #[.pointer (some ⟨p, 0, none⟩)] H (fun v' H' => v' = .int .i64 D.syncV ∧ ∃ F', Dk H' p F' D.sync ∧ Fr H H' F F') := by
  have hdk := h
  have hde := dead_ac (nro := nro) (γ := γ) h
  obtain ⟨ho, s, l, U, FU, rfl, h⟩ := h
  have hbu := burn_ac (nro := nro) (γ := γ) hdk (hn p (by simp))
  refine ac_of_aw Try.func13 rfl Try.ntmps13 Try.results13 (by simp) ?_
  refine aw_seq ?_
  (refine aw_ops (by kernel_rfl) (fun K hK => ?_); simp (disch := first | omega | (simp only [List.length_set, List.length_append, List.length_cons, List.length_nil, iv_length, zl_length]; try omega; done)) [-getElem?_pos, -getElem?_neg]; refine hK _ _ ?_; clear hK K)
  refine aw_seq ?_
  refine aw_seq ?_
  refine aw_ops (by kernel_rfl) (fun K hK => ?_)
  simp (disch := first | omega | (simp only [List.length_set, List.length_append, List.length_cons, List.length_nil, iv_length, zl_length]; try omega; done)) [-getElem?_pos, -getElem?_neg]
  refine ⟨by kernel_rfl, hde.mono ?_⟩
  rintro v H' ⟨rfl, rfl⟩
  try simp (disch := first | omega | (simp only [List.length_set, List.length_append, List.length_cons, List.length_nil, iv_length, zl_length]; try omega; done)) [-getElem?_pos, -getElem?_neg]
  refine hK _ _ ?_; clear hK K
  cases hd : D.dead with
  | true =>
    refine aw_t (by (first | (simp [eval_tmp, put_at, hd]; done) | (simp [eval_tmp, put_at, hd]; omega))) (by kernel_rfl) ?_
    refine aw_seq ?_
    (refine aw_ops (by kernel_rfl) (fun K hK => ?_); simp (disch := first | omega | (simp only [List.length_set, List.length_append, List.length_cons, List.length_nil, iv_length, zl_length]; try omega; done)) [-getElem?_pos, -getElem?_neg]; refine hK _ _ ?_; clear hK K)
    have e1 : D.syncV = 7 := by simp [DM.syncV, hd]
    have e2 : D.sync = D := by simp [DM.sync, hd]
    (refine aw_ret ?_; simp (disch := first | omega | (simp only [List.length_set, List.length_append, List.length_cons, List.length_nil, iv_length, zl_length]; try omega; done)) [-getElem?_pos, -getElem?_neg, thenQ_ret, inBlockQ_ret, RQ, resL, resV, e1, e2])
    exact ⟨_, hdk, Fr.refl _ _⟩
  | false =>
    refine aw_f (by (first | (simp [eval_tmp, put_at, hd]; done) | (simp [eval_tmp, put_at, hd]; omega))) (by kernel_rfl) ?_
    refine aw_skip ?_
    refine aw_seq ?_
    refine aw_seq ?_
    refine aw_ops (by kernel_rfl) (fun K hK => ?_)
    simp (disch := first | omega | (simp only [List.length_set, List.length_append, List.length_cons, List.length_nil, iv_length, zl_length]; try omega; done)) [-getElem?_pos, -getElem?_neg]
    refine ⟨by kernel_rfl, hbu.mono ?_⟩
    rintro v H1 ⟨rfl, hdk1, hfr1⟩
    try simp (disch := first | omega | (simp only [List.length_set, List.length_append, List.length_cons, List.length_nil, iv_length, zl_length]; try omega; done)) [-getElem?_pos, -getElem?_neg]
    refine hK _ _ ?_; clear hK K
    refine aw_seq ?_
    have e1 : D.syncV = D.burnV := by simp [DM.syncV, hd]
    by_cases hb : D.burnV = 0
    case neg =>
      have e2 : D.sync = D.burn := by simp [DM.sync, hd, hb]
      (refine aw_ops (by kernel_rfl) (fun K hK => ?_); simp (disch := first | omega | (simp only [List.length_set, List.length_append, List.length_cons, List.length_nil, iv_length, zl_length]; try omega; done)) [-getElem?_pos, -getElem?_neg, hb]; refine hK _ _ ?_; clear hK K)
      refine aw_t (by (first | (simp [eval_tmp, put_at, hb]; done) | (simp [eval_tmp, put_at, hb]; omega))) (by kernel_rfl) ?_
      refine aw_seq ?_
      (refine aw_ops (by kernel_rfl) (fun K hK => ?_); simp (disch := first | omega | (simp only [List.length_set, List.length_append, List.length_cons, List.length_nil, iv_length, zl_length]; try omega; done)) [-getElem?_pos, -getElem?_neg]; refine hK _ _ ?_; clear hK K)
      (refine aw_ret ?_; simp (disch := first | omega | (simp only [List.length_set, List.length_append, List.length_cons, List.length_nil, iv_length, zl_length]; try omega; done)) [-getElem?_pos, -getElem?_neg, thenQ_ret, inBlockQ_ret, RQ, resL, resV, e1, e2])
      exact ⟨_, hdk1, hfr1⟩
    have e2 : D.sync = { D.burn with firm := D.late, uns := [] } := by simp [DM.sync, hd, hb]
    rw [hb] at e1
    (refine aw_ops (by kernel_rfl) (fun K hK => ?_); simp (disch := first | omega | (simp only [List.length_set, List.length_append, List.length_cons, List.length_nil, iv_length, zl_length]; try omega; done)) [-getElem?_pos, -getElem?_neg, hb]; refine hK _ _ ?_; clear hK K)
    refine aw_f (by (first | (simp [eval_tmp, put_at, hb]; done) | (simp [eval_tmp, put_at, hb]; omega))) (by kernel_rfl) ?_
    refine aw_skip ?_
    refine aw_seq ?_
    refine aw_seq ?_
    have hlate := burn_late D
    rw [← hlate] at e2
    clear hbu hde h hdk hlate ho
    generalize D.burn = D1 at *
    obtain ⟨ho, s1, l1, U, FU1, hFF, h⟩ := hdk1
    simp only [List.cons.injEq] at hFF
    obtain ⟨_, rfl, rfl, rfl⟩ := hFF
    have hp := h.hp
    have hs0 := h.hs
    have hl0 := h.hl
    have hplt := hget_lt hp
    have hslt := hget_lt hs0
    have hllt := hget_lt hl0
    have hnp : nro ≤ p := hn p (by simp)
    have hns : nro ≤ s := hn s (by simp)
    have hps := h.ps
    have hpl := h.pl
    have hsl := h.sl
    have hul := uc_len (fun w hw => (ho.uns w hw).2)
    have hxl := h.hu.len (P := Try.prog) (t := 57) (by simp) hul (by omega)
    have hfew := ho.few
    (refine aw_ops (by kernel_rfl) (fun K hK => ?_); simp (disch := first | omega | (simp only [List.length_set, List.length_append, List.length_cons, List.length_nil, iv_length, zl_length]; try omega; done)) [-getElem?_pos, -getElem?_neg, hp, -xlen, hxl]; refine hK _ _ ?_; clear hK K)
    refine aw_block ?_
    refine aw_loop (fun q α G => ∃ i : Nat, i + q = D1.uns.length ∧ α 18 = .int .i64 (i : Nat) ∧ α 17 = .int .i64 (D1.uns.length : Nat) ∧ α 16 = U ∧ α 0 = .pointer (some ⟨p, 0, none⟩) ∧ H1.length ≤ G.length ∧ (∀ j, j < H1.length → j ≠ s → hget G j = hget H1 j) ∧
      hget G s = some ⟨fc (lateOf D1.firm (D1.uns.take i)), 61, some 256⟩) D1.uns.length ?_ ?_
    · exact ⟨0, by omega, by (first | (simp [put_at, put_none, fr0_at]; done) | rfl), by (first | (simp [put_at, put_none, fr0_at]; done) | rfl), by (first | (simp [put_at, put_none, fr0_at]; done) | rfl), by (first | (simp [put_at, put_none, fr0_at]; done) | rfl), Nat.le_refl _, fun _ _ _ => rfl, by rw [List.take_zero]; exact hs0⟩
    rintro q α G ⟨i, hiq, h18, h17, h16, h0, hgl, hgo, hgs⟩
    have hgp : hget G p = _ := (hgo p hplt hps).trans hp
    refine aw_seq ?_
    (refine aw_ops (by kernel_rfl) (fun K hK => ?_); simp (disch := first | omega | (simp only [List.length_set, List.length_append, List.length_cons, List.length_nil, iv_length, zl_length]; try omega; done)) [-getElem?_pos, -getElem?_neg, h18, h17]; refine hK _ _ ?_; clear hK K)
    refine aw_seq ?_
    by_cases hi : i < D1.uns.length
    · refine aw_t (by (first | (simp [eval_tmp, put_at, hi]; done) | (simp [eval_tmp, put_at, hi]; omega))) (by kernel_rfl) ?_
      refine aw_skip ?_
      refine aw_seq ?_
      refine aw_block ?_
      obtain ⟨w, hw⟩ : ∃ w, D1.uns[i]? = some w := ⟨_, List.getElem?_eq_getElem hi⟩
      have hwm := ho.uns w (List.mem_of_getElem? hw)
      have hwm2 := hwm.2
      have hwm1 := hwm.1
      obtain ⟨u, hU, hu, hFU⟩ := h.hu.slice (by intro e; rw [e] at hul; simp at hul; omega) (by omega) hul
      subst hU
      have hus : u ≠ s := fun e => h.fu.2.1 (by rw [hFU, e]; simp)
      have hgu : hget G u = _ := (hgo u (hget_lt hu) hus).trans hu
      have hrow := uc_get (fun w hw => (ho.uns w hw).2) hw
      have hst : (sv w.2).take 256 = sv w.2 := List.take_of_length_le (by simp [hwm2])
      have hsz : (sv w.2).length = 256 := by simp [hwm2]
      have hset0 : ∀ x : Value, setR (x :: iv .u8 (zl 256)) 1 (sv w.2) = x :: sv w.2 := fun x => by
        have := setR_right [x] (iv .u8 (zl 256)) (sv w.2) 0 (by simp [hwm2])
        rw [setR_all _ _ (by simp [hwm2])] at this
        exact this
      have hgb : i * 257 + 257 ≤ (uc D1.uns).length := by rw [hul]; omega
      refine aw_seq ?_
      (refine aw_ops (by kernel_rfl) (fun K hK => ?_); simp (disch := first | omega | (simp only [List.length_set, List.length_append, List.length_cons, List.length_nil, iv_length, zl_length]; try omega; done)) [-getElem?_pos, -getElem?_neg, h18, h17, h16, hgu, hrow, hset0, hsz, hst]; refine hK _ _ ?_; clear hK K)
      have hgs' := hget_lt hgs
      have hgp' := hget_lt hgp
      have hrl := rows_take ho i
      have hll : (lateOf D1.firm (D1.uns.take i)).length = D1.firm.length := late_len _ _
      have hfl := fc_len hrl
      have hfs := fc_set hrl (by omega) hwm2 (k := w.1)
      have hlt := late_take (firm := D1.firm) hw
      generalize lateOf D1.firm (D1.uns.take i) = L0 at *
      (refine aw_plan [] [] [0, 1, 2, 3, 4, 5, 6, 7, 8] 9 1 (by kernel_rfl) (by kernel_rfl) (by kernel_rfl) (fun K hK => ?_)); simp only [sel, List.getElem?_cons_succ, List.getElem?_cons_zero, List.drop_succ_cons, List.drop_zero]; simp (disch := first | omega | (simp only [List.length_set, List.length_append, List.length_cons, List.length_nil, iv_length, zl_length]; try omega; done)) [-getElem?_pos, -getElem?_neg, h0, hgp, hgs, hsz, hst, hfl, hfs, hga, hga0, sga, sga0, PL_nil, PL_cons, PLc_val, PLc_new, stepP_t, stepP_f, stepPC_n, stepPC_s, stepPX_s, stepPX_n, stepPA_t, stepPA_c, stepPA_l, stepPN_s, allocOp, reloc_sl, reloc_ptr, List.map_cons, List.map_nil, List.nil_append, List.append_assoc, List.cons_append, Nat.add_assoc]
      refine hK _ _ ?_; clear hK K
      (refine aw_ops (by kernel_rfl) (fun K hK => ?_); simp (disch := first | omega | (simp only [List.length_set, List.length_append, List.length_cons, List.length_nil, iv_length, zl_length]; try omega; done)) [-getElem?_pos, -getElem?_neg, h18]; refine hK _ _ ?_; clear hK K)
      refine ⟨q - 1, by omega, i + 1, by omega, by (first | (simp [put_at, put_none, fr0_at]; done) | rfl), by (first | (simp [put_at, put_none, fr0_at, h17]; done) | rfl), by (first | (simp [put_at, put_none, fr0_at, h16]; done) | rfl), by (first | (simp [put_at, put_none, fr0_at, h0]; done) | rfl), by simp; omega, fun j hj hjs => ?_, ?_⟩
      · rw [hget_left (by simp; omega), hget_set_ne (fun e => hjs e.symm)]
        exact hgo j hj hjs
      · rw [hget_left (by simp; omega), hget_set_eq hgs', hlt]
    · obtain rfl : i = D1.uns.length := by omega
      refine aw_f (by (first | (simp [eval_tmp, put_at]; done) | (simp [eval_tmp, put_at]; omega))) (by kernel_rfl) ?_
      refine aw_exit ?_
      have hgp' := hget_lt hgp
      have hgs' := hget_lt hgs
      rw [List.take_length] at hgs
      refine aw_seq ?_
      (refine aw_ops (by kernel_rfl) (fun K hK => ?_); simp (disch := first | omega | (simp only [List.length_set, List.length_append, List.length_cons, List.length_nil, iv_length, zl_length]; try omega; done)) [-getElem?_pos, -getElem?_neg, h0, hgp]; refine hK _ _ ?_; clear hK K)
      refine aw_seq ?_
      (refine aw_ops (by kernel_rfl) (fun K hK => ?_); simp (disch := first | omega | (simp only [List.length_set, List.length_append, List.length_cons, List.length_nil, iv_length, zl_length]; try omega; done)) [-getElem?_pos, -getElem?_neg]; refine hK _ _ ?_; clear hK K)
      (refine aw_ret ?_; simp (disch := first | omega | (simp only [List.length_set, List.length_append, List.length_cons, List.length_nil, iv_length, zl_length]; try omega; done)) [-getElem?_pos, -getElem?_neg, thenQ_ret, inBlockQ_ret, RQ, resL, resV, e1, e2])
      refine ⟨[p, s, l], ⟨⟨?_, ?_, ?_, fun w hw => (by cases hw), ho.fuse, by simp⟩, s, l, .slice none 0 0, [], rfl, ⟨?_, ?_, ?_, .inl ⟨rfl, rfl, rfl⟩, hps, hpl, hsl, by simp⟩⟩, hfr1.trans ⟨by simp; omega, fun j hj hnj => ?_, fun j hj => .inl (by simp only [List.mem_cons, List.not_mem_nil, or_false] at hj ⊢; rcases hj with h1 | h1 | h1 <;> simp [h1])⟩⟩
      · simp only [DM.late, late_len]; exact ho.one
      · simp only [DM.late, late_len]; exact ho.most
      · exact late_rows ho.rows (fun w hw => (ho.uns w hw).2)
      · rw [hget_set_eq hgp']; simp only [DM.late, late_len]
      · rw [hget_set_ne hps, hgs]; rfl
      · rw [hget_set_ne hpl, hgo l hllt (fun e => hsl e.symm), hl0]; rfl
      · simp only [List.mem_cons, not_or] at hnj
        rw [hget_set_ne (fun e => hnj.1 e.symm), hgo j hj hnj.2.1]
/-- How much of a write a crash keeps. -/
def keptN (ks : List Int) (i : Nat) : Nat := if i < ks.length then ((ks.getD i 0) % 5).toNat * 64 else 0
def crF (firm : List ByteArray) (uns : List (Nat × ByteArray)) (ks : List Int) : Nat → List ByteArray
  | 0 => firm
  | i + 1 => match uns[i]? with
    | some w => (crF firm uns ks i).set w.1 (w.2.extract 0 (keptN ks i) ++ ((crF firm uns ks i).getD w.1 ⟨#[]⟩).extract (keptN ks i) 256)
    | none => crF firm uns ks i
def DM.crash (D : DM) (ks : List Int) : DM := ⟨crF D.firm D.uns ks D.uns.length, [], -1, false⟩
theorem keptN_bd (ks : List Int) (i : Nat) : keptN ks i ≤ 256 := by unfold keptN; split <;> omega
theorem crF_ok {firm : List ByteArray} {uns : List (Nat × ByteArray)} {ks : List Int} (hf : ∀ r ∈ firm, r.size = 256) (hu : ∀ w ∈ uns, w.1 < firm.length ∧ w.2.size = 256) : ∀ i, (crF firm uns ks i).length = firm.length ∧ ∀ r ∈ crF firm uns ks i, r.size = 256 := by
  intro i
  induction i with
  | zero => exact ⟨rfl, hf⟩
  | succ i ih =>
    unfold crF
    cases hw : uns[i]? with
    | none => exact ih
    | some w =>
      have hwm := hu w (List.mem_of_getElem? hw)
      have hk := keptN_bd ks i
      refine ⟨by rw [List.length_set]; exact ih.1, fun r hr => ?_⟩
      rcases mem_set hr with hr | rfl
      · exact ih.2 r hr
      · have : ((crF firm uns ks i).getD w.1 ⟨#[]⟩).size = 256 := by
          rw [List.getD_eq_getElem?_getD, List.getElem?_eq_getElem (by omega)]
          exact ih.2 _ (List.getElem_mem _)
        rw [ByteArray.size_append, ByteArray.size_extract, ByteArray.size_extract, this, hwm.2]
        omega
theorem crash_ac (h : Dk H p F D) (hn : ∀ j ∈ F, nro ≤ j) (hnl : nro ≤ H.length) {kv : Value} {ks : List Int} (hk : SlS H F kv (iv .u8 ks)) (hkb : By ks) :
    AC Try.prog nro γ 17 #[.pointer (some ⟨p, 0, none⟩), kv] H (fun v' H' => ∃ F', Dk H' p F' (D.crash ks) ∧ Fr H H' F F') := by
  obtain ⟨ho, s, l, U, FU, rfl, h⟩ := h
  have hp := h.hp
  have hs0 := h.hs
  have hl0 := h.hl
  have hplt := hget_lt hp
  have hslt := hget_lt hs0
  have hllt := hget_lt hl0
  have hnp : nro ≤ p := hn p (by simp)
  have hns : nro ≤ s := hn s (by simp)
  have hnl : nro ≤ l := hn l (by simp)
  have hps := h.ps
  have hpl := h.pl
  have hsl := h.sl
  have hul := uc_len (fun w hw => (ho.uns w hw).2)
  have hxl := h.hu.len (P := Try.prog) (t := 57) (by simp) hul (by omega)
  have hfew := ho.few
  have hkl := fun (G : AH) (hG : ∀ j, j < H.length → j ∉ p :: s :: l :: FU → hget G j = hget H j) => (hk G hG).len (P := Try.prog) (t := 29) (e := 5) (by simp)
  have hkl0 := hkl H (fun _ _ _ => rfl)
  rw [iv_length] at hkl0
  have hno : notTuple kv = true := by rcases hk.now with ⟨a, rfl, _⟩ | ⟨j, off, k, rfl, _⟩ <;> rfl
  refine ac_of_aw Try.func17 rfl Try.ntmps17 Try.results17 (by simp) ?_
  refine aw_seq ?_
  refine aw_seq ?_
  (refine aw_ops (by kernel_rfl) (fun K hK => ?_); simp (disch := first | omega | (simp only [List.length_set, List.length_append, List.length_cons, List.length_nil, iv_length, zl_length]; try omega; done)) [-getElem?_pos, -getElem?_neg]; refine hK _ _ ?_; clear hK K)
  refine aw_f (by (first | (simp [eval_tmp, put_at]; done) | (simp [eval_tmp, put_at]; omega))) (by kernel_rfl) ?_
  refine aw_skip ?_
  refine aw_seq ?_
  refine aw_seq ?_
  (refine aw_ops (by kernel_rfl) (fun K hK => ?_); simp (disch := first | omega | (simp only [List.length_set, List.length_append, List.length_cons, List.length_nil, iv_length, zl_length]; try omega; done)) [-getElem?_pos, -getElem?_neg, hp, -xlen, hxl]; refine hK _ _ ?_; clear hK K)
  refine aw_block ?_
  refine aw_loop (fun q α G => ∃ i : Nat, i + q = D.uns.length ∧ α 14 = .int .i64 (i : Nat) ∧ α 13 = .int .i64 (D.uns.length : Nat) ∧ α 12 = U ∧ α 1 = kv ∧ α 0 = .pointer (some ⟨p, 0, none⟩) ∧ H.length ≤ G.length ∧ (∀ j, j < H.length → j ≠ s → hget G j = hget H j) ∧
    hget G s = some ⟨fc (crF D.firm D.uns ks i), 61, some 256⟩) D.uns.length ?_ ?_
  · exact ⟨0, by omega, by (first | (simp [put_at, put_none, fr0_at]; done) | rfl), by (first | (simp [put_at, put_none, fr0_at]; done) | rfl), by (first | (simp [put_at, put_none, fr0_at]; done) | rfl), by (first | (simp [put_at, put_none, fr0_at]; done) | rfl), by (first | (simp [put_at, put_none, fr0_at]; done) | rfl), Nat.le_refl _, fun _ _ _ => rfl, hs0⟩
  rintro q α G ⟨i, hiq, h14, h13, h12, h1, h0, hgl, hgo, hgs⟩
  have hgp : hget G p = _ := (hgo p hplt hps).trans hp
  refine aw_seq ?_
  (refine aw_ops (by kernel_rfl) (fun K hK => ?_); simp (disch := first | omega | (simp only [List.length_set, List.length_append, List.length_cons, List.length_nil, iv_length, zl_length]; try omega; done)) [-getElem?_pos, -getElem?_neg, h14, h13]; refine hK _ _ ?_; clear hK K)
  refine aw_seq ?_
  by_cases hi : i < D.uns.length
  · refine aw_t (by (first | (simp [eval_tmp, put_at, hi]; done) | (simp [eval_tmp, put_at, hi]; omega))) (by kernel_rfl) ?_
    refine aw_skip ?_
    refine aw_seq ?_
    refine aw_block ?_
    obtain ⟨w, hw⟩ : ∃ w, D.uns[i]? = some w := ⟨_, List.getElem?_eq_getElem hi⟩
    have hwm := ho.uns w (List.mem_of_getElem? hw)
    have hwm2 := hwm.2
    have hwm1 := hwm.1
    obtain ⟨u, hU, hu, hFU⟩ := h.hu.slice (by intro e; rw [e] at hul; simp at hul; omega) (by omega) hul
    subst hU
    have hus : u ≠ s := fun e => h.fu.2.1 (by rw [hFU, e]; simp)
    have hgu : hget G u = _ := (hgo u (hget_lt hu) hus).trans hu
    have hrow := uc_get (fun w hw => (ho.uns w hw).2) hw
    have hst : (sv w.2).take 256 = sv w.2 := List.take_of_length_le (by simp [hwm2])
    have hsz : (sv w.2).length = 256 := by simp [hwm2]
    have hset0 : ∀ x : Value, setR (x :: iv .u8 (zl 256)) 1 (sv w.2) = x :: sv w.2 := fun x => by
      have := setR_right [x] (iv .u8 (zl 256)) (sv w.2) 0 (by simp [hwm2])
      rw [setR_all _ _ (by simp [hwm2])] at this
      exact this
    have hgb : i * 257 + 257 ≤ (uc D.uns).length := by rw [hul]; omega
    refine aw_seq ?_
    (refine aw_ops (by kernel_rfl) (fun K hK => ?_); simp (disch := first | omega | (simp only [List.length_set, List.length_append, List.length_cons, List.length_nil, iv_length, zl_length]; try omega; done)) [-getElem?_pos, -getElem?_neg, h14, h13, h12, hgu, hrow, hset0, hsz, hst]; refine hK _ _ ?_; clear hK K)
    refine aw_seq ?_
    (refine aw_ops (by kernel_rfl) (fun K hK => ?_); simp (disch := first | omega | (simp only [List.length_set, List.length_append, List.length_cons, List.length_nil, iv_length, zl_length]; try omega; done)) [-getElem?_pos, -getElem?_neg]; refine hK _ _ ?_; clear hK K)
    refine aw_seq ?_
    refine aw_seq ?_
    (refine aw_ops (by kernel_rfl) (fun K hK => ?_); simp (disch := first | omega | (simp only [List.length_set, List.length_append, List.length_cons, List.length_nil, iv_length, zl_length]; try omega; done)) [-getElem?_pos, -getElem?_neg, h1, -xlen, hkl0]; refine hK _ _ ?_; clear hK K)
    have hkb2 := hkb.get i
    have hkn := keptN_bd ks i
    have hkne : keptN ks i = if i < ks.length then ((ks.getD i 0) % 5).toNat * 64 else 0 := rfl
    refine aw_cut (fun α G2 => α 6 = .int .i64 (keptN ks i : Nat) ∧ α 5 = .pointer (some ⟨G.length, 0, none⟩) ∧ α 14 = .int .i64 (i : Nat) ∧ α 13 = .int .i64 (D.uns.length : Nat) ∧ α 12 = .slice (some ⟨u, 0, none⟩) D.uns.length D.uns.length ∧ α 1 = kv ∧ α 0 = .pointer (some ⟨p, 0, none⟩) ∧
      G2 = G ++ [some ⟨.int .i64 (w.1 : Nat) :: sv w.2, 63, none⟩]) ?_ ?_
    · by_cases hik : i < ks.length
      · refine aw_t (by (first | (simp [eval_tmp, put_at, hik]; done) | (simp [eval_tmp, put_at, hik]; omega))) (by kernel_rfl) ?_
        have hkG := hk G (fun j hj hnj => hgo j hj (fun e => hnj (by simp [e])))
        obtain ⟨q1, hq1, hq2⟩ := (hkG.app [some ⟨.int .i64 (w.1 : Nat) :: sv w.2, 63, none⟩]).cell (P := Try.prog) (t := 29) (e := 5) (i := i) (x := .int .u8 (ks.getD i 0)) (by simp) (by simp) (by simp [agI]) (by simp [okI]) (iv_getN _ _ _ hik)
        generalize ks.getD i 0 = kb at *
        have hkz : (((kb % 5).toNat * 64 : Nat) : Int) = kb % 5 * 64 := by omega
        rw [if_pos hik] at hkne
        (refine aw_ops (by kernel_rfl) (fun K hK => ?_); simp (disch := first | omega | (simp only [List.length_set, List.length_append, List.length_cons, List.length_nil, iv_length, zl_length]; try omega; done)) [-getElem?_pos, -getElem?_neg, h1, -xindexAddr, -xload, hq1, hq2]; refine hK _ _ ?_; clear hK K)
        exact ⟨by simp [put_at, hkne]; omega, by (first | (simp [put_at, put_none, fr0_at]; done) | rfl), by (first | (simp [put_at, put_none, fr0_at, h14]; done) | rfl), by (first | (simp [put_at, put_none, fr0_at, h13]; done) | rfl), by (first | (simp [put_at, put_none, fr0_at, h12]; done) | rfl), by (first | (simp [put_at, put_none, fr0_at, h1]; done) | rfl), by (first | (simp [put_at, put_none, fr0_at, h0]; done) | rfl), rfl⟩
      · refine aw_f (by (first | (simp [eval_tmp, put_at, hik]; done) | (simp [eval_tmp, put_at, hik]; omega))) (by kernel_rfl) ?_
        refine aw_skip ?_
        rw [if_neg hik] at hkne
        exact ⟨by simp [put_at, hkne], by (first | (simp [put_at, put_none, fr0_at]; done) | rfl), by (first | (simp [put_at, put_none, fr0_at, h14]; done) | rfl), by (first | (simp [put_at, put_none, fr0_at, h13]; done) | rfl), by (first | (simp [put_at, put_none, fr0_at, h12]; done) | rfl), by (first | (simp [put_at, put_none, fr0_at, h1]; done) | rfl), by (first | (simp [put_at, put_none, fr0_at, h0]; done) | rfl), rfl⟩
    clear h14 h13 h12 h1 h0
    rintro α G2 ⟨h6, h5, h14, h13, h12, h1, h0, rfl⟩
    have hgs' := hget_lt hgs
    have hgp' := hget_lt hgp
    obtain ⟨hll, hrl⟩ := crF_ok (ks := ks) ho.rows ho.uns i
    have hfl := fc_len hrl
    have hL1 : crF D.firm D.uns ks (i + 1) = (crF D.firm D.uns ks i).set w.1 (w.2.extract 0 (keptN ks i) ++ ((crF D.firm D.uns ks i).getD w.1 ⟨#[]⟩).extract (keptN ks i) 256) := by
      rw [crF, hw]
    have hq : (crF D.firm D.uns ks i)[w.1]? = some ((crF D.firm D.uns ks i).getD w.1 ⟨#[]⟩) := by
      rw [List.getD_eq_getElem?_getD, List.getElem?_eq_getElem (by omega)]; rfl
    have hfs := fc_part hrl hq hwm2 hkn
    rw [hrl _ (List.mem_of_getElem? hq), ← hL1] at hfs
    have htl : ((sv w.2).take (keptN ks i)).length = keptN ks i := by rw [List.length_take, hsz]; omega
    have htt : ((sv w.2).take (keptN ks i)).take (keptN ks i) = (sv w.2).take (keptN ks i) := List.take_of_length_le (by omega)
    clear hL1 hkne
    generalize crF D.firm D.uns ks i = L0 at *
    generalize hLL : crF D.firm D.uns ks (i + 1) = L1 at *
    generalize keptN ks i = kn at *
    (refine aw_plan [] [] [0, 1, 2, 3, 4, 5, 6, 7, 8, 9, 10, 11] 12 1 (by kernel_rfl) (by kernel_rfl) (by kernel_rfl) (fun K hK => ?_)); simp only [sel, List.getElem?_cons_succ, List.getElem?_cons_zero, List.drop_succ_cons, List.drop_zero]; simp (disch := first | omega | (simp only [List.length_set, List.length_append, List.length_cons, List.length_nil, iv_length, zl_length]; try omega; done)) [-getElem?_pos, -getElem?_neg, h0, h5, h6, hgp, hgs, hsz, hst, hfl, hfs, htl, htt, hga, hga0, sga, sga0, PL_nil, PL_cons, PLc_val, PLc_new, stepP_t, stepP_f, stepPC_n, stepPC_s, stepPX_s, stepPX_n, stepPA_t, stepPA_c, stepPA_l, stepPN_s, allocOp, reloc_sl, reloc_ptr, List.map_cons, List.map_nil, List.nil_append, List.append_assoc, List.cons_append, Nat.add_assoc]
    refine hK _ _ ?_; clear hK K
    (refine aw_ops (by kernel_rfl) (fun K hK => ?_); simp (disch := first | omega | (simp only [List.length_set, List.length_append, List.length_cons, List.length_nil, iv_length, zl_length]; try omega; done)) [-getElem?_pos, -getElem?_neg, h14]; refine hK _ _ ?_; clear hK K)
    refine ⟨q - 1, by omega, i + 1, by omega, by (first | (simp [put_at, put_none, fr0_at]; done) | rfl), by (first | (simp [put_at, put_none, fr0_at, h13]; done) | rfl), by (first | (simp [put_at, put_none, fr0_at, h12]; done) | rfl), by (first | (simp [put_at, put_none, fr0_at, h1]; done) | rfl), by (first | (simp [put_at, put_none, fr0_at, h0]; done) | rfl), by simp; omega, fun j hj hjs => ?_, ?_⟩
    · rw [hget_left (by simp; omega), hget_set_ne (fun e => hjs e.symm)]
      exact hgo j hj hjs
    · rw [hget_left (by simp; omega), hget_set_eq hgs', hLL]
  · obtain rfl : i = D.uns.length := by omega
    refine aw_f (by (first | (simp [eval_tmp, put_at]; done) | (simp [eval_tmp, put_at]; omega))) (by kernel_rfl) ?_
    refine aw_exit ?_
    have hgp' := hget_lt hgp
    have hgs' := hget_lt hgs
    have hgl2 : hget G l = _ := (hgo l hllt (fun e => hsl e.symm)).trans hl0
    have hgl' := hget_lt hgl2
    obtain ⟨hll, hrl⟩ := crF_ok (ks := ks) ho.rows ho.uns D.uns.length
    have hlr : ∀ r ∈ D.late, r.size = 256 := late_rows ho.rows (fun w hw => (ho.uns w hw).2)
    have hlateL : D.late.length = D.firm.length := late_len _ _
    have hf1 := fc_len hrl
    have hf2 := fc_len hlr
    rw [hlateL] at hf2
    rw [hll] at hf1
    have hcr : D.crash ks = ⟨crF D.firm D.uns ks D.uns.length, [], -1, false⟩ := rfl
    rw [hcr]
    generalize crF D.firm D.uns ks D.uns.length = L0 at *
    have htk : (fc L0).take (D.firm.length * 256) = fc L0 := List.take_of_length_le (by omega)
    have hsa : setR (fc D.late) 0 (fc L0) = fc L0 := setR_all _ _ (by omega)
    refine aw_seq ?_
    (refine aw_plan [] [] [0, 1, 2, 3, 4, 5, 6, 7] 8 1 (by kernel_rfl) (by kernel_rfl) (by kernel_rfl) (fun K hK => ?_)); simp only [sel, List.getElem?_cons_succ, List.getElem?_cons_zero, List.drop_succ_cons, List.drop_zero]; simp (disch := first | omega | (simp only [List.length_set, List.length_append, List.length_cons, List.length_nil, iv_length, zl_length]; try omega; done)) [-getElem?_pos, -getElem?_neg, h0, hgp, hgs, hgl2, hf1, hf2, htk, hsa, PL_nil, PL_cons, PLc_val, PLc_new, stepP_t, stepP_f, stepPC_n, stepPC_s, stepPX_s, stepPX_n, stepPA_t, stepPA_c, stepPA_l, stepPN_s, allocOp, reloc_sl, reloc_ptr, List.map_cons, List.map_nil, List.nil_append, List.append_assoc, List.cons_append, Nat.add_assoc]
    refine hK _ _ ?_; clear hK K
    (refine aw_ops (by kernel_rfl) (fun K hK => ?_); simp (disch := first | omega | (simp only [List.length_set, List.length_append, List.length_cons, List.length_nil, iv_length, zl_length]; try omega; done)) [-getElem?_pos, -getElem?_neg, h0, hgp]; refine hK _ _ ?_; clear hK K)
    refine ⟨_, _, rfl, rfl, [p, s, l], ⟨⟨by simp only [hll]; exact ho.one, by simp only [hll]; exact ho.most, hrl, fun w hw => (by cases hw), by simp, by simp⟩, s, l, .slice none 0 0, [], rfl, ⟨?_, ?_, ?_, .inl ⟨rfl, rfl, rfl⟩, hps, hpl, hsl, by simp⟩⟩, ⟨by simp; omega, fun j hj hnj => ?_, fun j hj => .inl (by simp only [List.mem_cons, List.not_mem_nil, or_false] at hj ⊢; rcases hj with h1 | h1 | h1 <;> simp [h1])⟩⟩
    · rw [hget_set_eq (by simpa using hgp')]; simp only [hll]
    · rw [hget_set_ne hps, hget_set_ne (fun e => hsl e.symm)]; exact hgs
    · rw [hget_set_ne hpl, hget_set_eq hgl']; rfl
    · simp only [List.mem_cons, not_or] at hnj
      rw [hget_set_ne (fun e => hnj.1 e.symm), hget_set_ne (fun e => hnj.2.2.1 e.symm), hgo j hj hnj.2.1]
end
end Go.Proofs.Ytadbgdhbamdiaaa
