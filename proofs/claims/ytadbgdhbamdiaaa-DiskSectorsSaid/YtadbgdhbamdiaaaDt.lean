/-
  The reference's disk, walked: writing, sync, crash, a new one.
-/
import Derived.Test.YtadbgdhbamdiaaaDr
namespace Go.Proofs.Ytadbgdhbamdiaaa
open Go Go.RowKit
set_option linter.unusedVariables false
set_option linter.unusedSimpArgs false
set_option maxRecDepth 100000
set_option maxHeartbeats 4000000
attribute [local simp] wb_bool wb_undef XL_nil XL_cons XLc_val XLc_call step1_eq stepW_t stepW_f stepC_n stepC_s stepX_s xop_eq xopR_s xopR_n wantedA_eq wantedG_n wantedG_s plain1_int plain1_bool plain1_string bits_i64 bits_u64 bits_u32 bits_u16 bits_u8 xeqA xarr allK_iv num_iv calleeOf xread xeff xbin xint xnil xun xstr xload xconv xpart xfield xfieldAddr xindexAddr xindex bnd asInt? xslice xlen xmin xmax xbuild xfill xappend xcopy xcells eval_tmp eval_const put_at put_none fr0_at cells_agg cells_int cells_bool cells_string cells_ptr cells_slice notTuple tab iv_all hget_app hget_app0 hget_cons0 hget_cons set_app set_app0 setR setR_one QL_nil QL_cons QLc_val stepQ_t stepQ_f stepQC_n stepQC_s stepQX_s SL_nil SL_cons SLc_val stepS_t stepS_f ltT ltF leT leF eqT eqF ltTn ltFn leTn leFn eqTn eqFn beqT beqF bneT bneF wi64 wu64 wu32 wu16 wu8 tmodP tdivP hgetL hgetNe hgetEq setL nums_def nums_len Nat.succ_le_of_lt List.getElem?_cons_zero List.getElem?_cons_succ Option.getD_some Int.toNat_add Int.toNat_mul agB agI agS agP agL agA okB okI okS okP okSl okA

section
variable {H : AH} {γ : Nat → Option Nat} {nro q : Nat} {F : List Nat} {D : DM}
theorem rwrite_ac (h : Rk H q F D) (hn : ∀ j ∈ F, nro ≤ j) (hnl0 : nro ≤ H.length) (hfew : D.uns.length < 1000) (at_ : Int) (t : ByteArray) :
    AC Try.prog nro γ 12 #[.pointer (some ⟨q, 0, none⟩), .int .i64 at_, .string t] H (fun v' H' => v' = .int .i64 (D.writeV at_ t) ∧ ∃ F', Rk H' q F' (D.write at_ t) ∧ Fr H H' F F') := by
  have hdk := h
  have hh := rhas_ac (nro := nro) (γ := γ) h at_
  obtain ⟨ho, f, A, B, FA, FB, rfl, h⟩ := h
  have hp := h.hq
  have hpl := hget_lt hp
  have hnp : nro ≤ q := hn q (by simp)
  refine ac_of_aw Try.func12 rfl Try.ntmps12 Try.results12 (by simp) ?_
  refine aw_seq ?_
  (refine aw_ops (by kernel_rfl) (fun K hK => ?_); simp (disch := first | omega | (simp only [List.length_set, List.length_append, List.length_cons, List.length_nil, iv_length, zl_length]; try omega; done)) [-getElem?_pos, -getElem?_neg]; refine hK _ _ ?_; clear hK K)
  refine aw_seq ?_
  refine aw_seq ?_
  refine aw_ops (by kernel_rfl) (fun K hK => ?_)
  simp (disch := first | omega | (simp only [List.length_set, List.length_append, List.length_cons, List.length_nil, iv_length, zl_length]; try omega; done)) [-getElem?_pos, -getElem?_neg]
  refine ⟨by kernel_rfl, hh.mono ?_⟩
  rintro v H' ⟨rfl, rfl⟩
  cases hok : okW D at_ t with
  | false =>
    have hww : D.writeV at_ t = 1 := by simp [DM.writeV, hok]
    have hwd : D.write at_ t = D := by simp [DM.write, hok]
    cases hb : hasB D.firm.length at_ with
    | false =>
      simp (disch := first | omega | (simp only [List.length_set, List.length_append, List.length_cons, List.length_nil, iv_length, zl_length]; try omega; done)) [-getElem?_pos, -getElem?_neg, hb]
      refine hK _ _ ?_; clear hK K
      refine aw_t (by (first | (simp [eval_tmp, put_at]; done) | (simp [eval_tmp, put_at]; omega))) (by kernel_rfl) ?_
      refine aw_seq ?_
      (refine aw_ops (by kernel_rfl) (fun K hK => ?_); simp (disch := first | omega | (simp only [List.length_set, List.length_append, List.length_cons, List.length_nil, iv_length, zl_length]; try omega; done)) [-getElem?_pos, -getElem?_neg]; refine hK _ _ ?_; clear hK K)
      (refine aw_ret ?_; simp (disch := first | omega | (simp only [List.length_set, List.length_append, List.length_cons, List.length_nil, iv_length, zl_length]; try omega; done)) [-getElem?_pos, -getElem?_neg, thenQ_ret, inBlockQ_ret, RQ, resL, resV, hww, hwd])
      exact ⟨_, hdk, Fr.refl _ _⟩
    | true =>
      have hs : t.size ≠ 256 := by intro e; simp [okW, hb, e] at hok
      have hs' : ¬ (t.size : Int) = 256 := by omega
      simp (disch := first | omega | (simp only [List.length_set, List.length_append, List.length_cons, List.length_nil, iv_length, zl_length]; try omega; done)) [-getElem?_pos, -getElem?_neg, hb, hs, hs']
      refine hK _ _ ?_; clear hK K
      refine aw_t (by (first | (simp [eval_tmp, put_at, hs, hs']; done) | (simp [eval_tmp, put_at, hs, hs']; omega))) (by kernel_rfl) ?_
      refine aw_seq ?_
      (refine aw_ops (by kernel_rfl) (fun K hK => ?_); simp (disch := first | omega | (simp only [List.length_set, List.length_append, List.length_cons, List.length_nil, iv_length, zl_length]; try omega; done)) [-getElem?_pos, -getElem?_neg]; refine hK _ _ ?_; clear hK K)
      (refine aw_ret ?_; simp (disch := first | omega | (simp only [List.length_set, List.length_append, List.length_cons, List.length_nil, iv_length, zl_length]; try omega; done)) [-getElem?_pos, -getElem?_neg, thenQ_ret, inBlockQ_ret, RQ, resL, resV, hww, hwd])
      exact ⟨_, hdk, Fr.refl _ _⟩
  | true =>
    have hokk := hok
    simp only [okW, Bool.and_eq_true, decide_eq_true_eq] at hokk
    obtain ⟨hb, hs⟩ := hokk
    have hs' : (t.size : Int) = 256 := by omega
    simp (disch := first | omega | (simp only [List.length_set, List.length_append, List.length_cons, List.length_nil, iv_length, zl_length]; try omega; done)) [-getElem?_pos, -getElem?_neg, hb, hs, hs']
    refine hK _ _ ?_; clear hK K
    refine aw_f (by (first | (simp [eval_tmp, put_at]; done) | (simp [eval_tmp, put_at]; omega))) (by kernel_rfl) ?_
    refine aw_skip ?_
    refine aw_seq ?_
    refine aw_seq ?_
    (refine aw_ops (by kernel_rfl) (fun K hK => ?_); simp (disch := first | omega | (simp only [List.length_set, List.length_append, List.length_cons, List.length_nil, iv_length, zl_length]; try omega; done)) [-getElem?_pos, -getElem?_neg, hp]; refine hK _ _ ?_; clear hK K)
    cases hd : D.dead with
    | true =>
      have hww : D.writeV at_ t = 7 := by simp [DM.writeV, hok, hd]
      have hwd : D.write at_ t = D := by simp [DM.write, hok, hd]
      refine aw_t (by (first | (simp [eval_tmp, put_at, hd]; done) | (simp [eval_tmp, put_at, hd]; omega))) (by kernel_rfl) ?_
      refine aw_seq ?_
      (refine aw_ops (by kernel_rfl) (fun K hK => ?_); simp (disch := first | omega | (simp only [List.length_set, List.length_append, List.length_cons, List.length_nil, iv_length, zl_length]; try omega; done)) [-getElem?_pos, -getElem?_neg]; refine hK _ _ ?_; clear hK K)
      (refine aw_ret ?_; simp (disch := first | omega | (simp only [List.length_set, List.length_append, List.length_cons, List.length_nil, iv_length, zl_length]; try omega; done)) [-getElem?_pos, -getElem?_neg, thenQ_ret, inBlockQ_ret, RQ, resL, resV, hww, hwd])
      exact ⟨_, hdk, Fr.refl _ _⟩
    | false =>
      have hww : D.writeV at_ t = (D.put at_ t).burnV := by simp [DM.writeV, hok, hd]
      have hwd : D.write at_ t = (D.put at_ t).burn := by simp [DM.write, hok, hd]
      refine aw_f (by (first | (simp [eval_tmp, put_at, hd]; done) | (simp [eval_tmp, put_at, hd]; omega))) (by kernel_rfl) ?_
      refine aw_skip ?_
      have hbb := hb
      simp only [hasB, Bool.and_eq_true, decide_eq_true_eq] at hbb
      obtain ⟨i, rfl⟩ : ∃ i : Nat, at_ = (i : Nat) := ⟨at_.toNat, by omega⟩
      have hi : i < D.firm.length := by omega
      have hpt : D.put (i : Nat) t = { D with uns := D.uns ++ [(i, t)] } := by simp [DM.put]
      have hlA := h.hA.lt
      have hlB := h.hB.lt
      have hqf := h.qf
      have hfa := h.fa
      have hfb := h.fb
      have hab := h.ab
      have hfl := hget_lt h.hf
      obtain ⟨B1, hB1⟩ : ∃ B1, B1 = (some ⟨[.int .i64 (i : Nat)], 3, some 1⟩ : Option Blk) := ⟨_, rfl⟩
      obtain ⟨A2, H2, hap, hown, hlen2, hkeep⟩ := ownF_append (P := Try.prog) (nro := nro) (t := 42) (e := 3) (H := H' ++ [B1]) (v := A) (x := .slice (some ⟨H'.length, 0, none⟩) 1 1) (sz := 1)
        (cells := D.uns.map fun w => .int .i64 (w.1 : Nat)) (news := [.int .i64 (i : Nat)]) (F := FA) (by simp) (by simp) (by omega) (by simp) (h.hA.low (fun j hj => by rw [hget_left (hlA j hj)]))
        (fun j hj => hn j (by simp [hj])) (fun s e => by cases e) (by simp [xcells, hB1]) (by simp) (by simp) (by simp; omega) (by simp [maxLen]; omega)
      have hgl : (H' ++ [B1]).length = H'.length + 1 := by simp
      rw [hgl] at hown hlen2
      have hq2 : hget H2 q = some ⟨[.slice (some ⟨f, 0, none⟩) D.firm.length D.firm.length, A, B, .int .i64 D.fuse, .bool D.dead], 44, none⟩ := by
        rw [hkeep q (by omega) hfa.1, hget_left hpl]; exact hp
      have hf2 : hget H2 f = some ⟨D.firm.map .string, 9, some 1⟩ := by
        rw [hkeep f (by omega) hfa.2, hget_left hfl]; exact h.hf
      have hB2 : OwnF H2 B 9 1 (D.uns.map fun w => .string w.2) FB := h.hB.low (fun j hj => by
        rw [hkeep j (by have := hlB j hj; omega) (fun hm => hab j hm hj), hget_left (hlB j hj)])
      have hql2 := hget_lt hq2
      obtain ⟨len2, rfl⟩ := hown.new
      subst hB1
      refine aw_seq ?_
      (refine aw_ops (by kernel_rfl) (fun K hK => ?_); simp (disch := first | omega | (simp only [List.length_set, List.length_append, List.length_cons, List.length_nil, iv_length, zl_length]; try omega; done)) [-getElem?_pos, -getElem?_neg, -xappend, hap, hp, hq2]; refine hK _ _ ?_; clear hK K)
      obtain ⟨X, hX⟩ : ∃ X, X = (some ⟨[.slice (some ⟨f, 0, none⟩) D.firm.length D.firm.length, .slice (some ⟨H'.length + 1, 0, none⟩) len2 len2, B, .int .i64 D.fuse, .bool D.dead], 44, none⟩ : Option Blk) := ⟨_, rfl⟩
      obtain ⟨B2, hB2e⟩ : ∃ B2, B2 = (some ⟨[.string t], 9, some 1⟩ : Option Blk) := ⟨_, rfl⟩
      obtain ⟨B3, H3, hap3, hown3, hlen3, hkeep3⟩ := ownF_append (P := Try.prog) (nro := nro) (t := 41) (e := 9) (H := H2.set q X ++ [B2]) (v := B) (x := .slice (some ⟨H2.length, 0, none⟩) 1 1) (sz := 1)
        (cells := D.uns.map fun w => .string w.2) (news := [.string t]) (F := FB) (by simp) (by simp) (by omega) (by simp) (hB2.low (fun j hj => by rw [hget_left (by rw [List.length_set]; exact hB2.lt j hj), hget_set_ne (fun e : q = j => hfb.1 (by rw [e]; exact hj))]))
        (fun j hj => hn j (by simp [hj])) (fun s e => by cases e) (by simp [xcells, hB2e, hga0]) (by simp) (by simp) (by simp; omega) (by simp [maxLen]; omega)
      have hgl3 : (H2.set q X ++ [B2]).length = H2.length + 1 := by simp
      rw [hgl3] at hown3 hlen3
      have hq3 : hget H3 q = X := by
        rw [hkeep3 q (by omega) hfb.1, hget_left (by rw [List.length_set]; exact hql2), hget_set_eq hql2]
      have hf3 : hget H3 f = some ⟨D.firm.map .string, 9, some 1⟩ := by
        have := hget_lt hf2
        rw [hkeep3 f (by omega) hfb.2, hget_left (by rw [List.length_set]; exact this), hget_set_ne hqf]; exact hf2
      have hA3 : OwnF H3 (.slice (some ⟨H'.length + 1, 0, none⟩) len2 len2) 3 1 ((D.uns.map fun w => .int .i64 (w.1 : Nat)) ++ [.int .i64 (i : Nat)]) [H'.length + 1] := hown.low (fun j hj => by
        rw [List.mem_singleton] at hj
        subst hj
        rw [hkeep3 _ (by omega) (fun hm => by have := hlB _ hm; omega), hget_left (by rw [List.length_set]; omega), hget_set_ne (by omega)])
      obtain ⟨len3, rfl⟩ := hown3.new
      have hql3 : q < H3.length := by omega
      subst hB2e
      refine aw_seq ?_
      have hq3b := hq3
      rw [hX] at hq3b
      rw [← hX]
      have hq2b : hget (H2.set q X) q = _ := (hget_set_eq hql2).trans hX
      (refine aw_ops (by kernel_rfl) (fun K hK => ?_); simp (disch := first | omega | (simp only [List.length_set, List.length_append, List.length_cons, List.length_nil, iv_length, zl_length]; try omega; done)) [-getElem?_pos, -getElem?_neg, -xappend, hap3, hq2b, hq3b]; refine hK _ _ ?_; clear hK K)
      obtain ⟨Y, hY⟩ : ∃ Y, Y = (some ⟨[.slice (some ⟨f, 0, none⟩) D.firm.length D.firm.length, .slice (some ⟨H'.length + 1, 0, none⟩) len2 len2, .slice (some ⟨H2.length + 1, 0, none⟩) len3 len3, .int .i64 D.fuse, .bool D.dead], 44, none⟩ : Option Blk) := ⟨_, rfl⟩
      rw [← hY]
      have hdk2 : Rk (H3.set q Y) q (q :: f :: ([H'.length + 1] ++ [H2.length + 1])) (D.put (i : Nat) t) := by
        rw [hpt]
        refine ⟨⟨ho.one, ho.most, ho.rows, fun w hw => ?_, ho.fuse, by simp; omega⟩, f, _, _, [H'.length + 1], [H2.length + 1], rfl, ⟨by rw [hget_set_eq hql3, hY], by rw [hget_set_ne hqf]; exact hf3, ?_, ?_, hqf, by simp only [List.mem_singleton]; omega, by simp only [List.mem_singleton]; omega, by simp; omega⟩⟩
        · rcases List.mem_append.1 hw with hw | hw
          · exact ho.uns w hw
          · rw [List.mem_singleton] at hw; subst hw; exact ⟨hi, hs⟩
        · rw [List.map_append]
          exact hA3.low (fun j hj => hget_set_ne (by rw [List.mem_singleton] at hj; omega))
        · rw [List.map_append]
          exact hown3.low (fun j hj => hget_set_ne (by rw [List.mem_singleton] at hj; omega))
      have hfr2 : Fr H' (H3.set q Y) (q :: f :: (FA ++ FB)) (q :: f :: ([H'.length + 1] ++ [H2.length + 1])) := by
        refine ⟨by simp; omega, fun j hj hnj => ?_, fun j hj => ?_⟩
        · simp only [List.mem_cons, List.mem_append, not_or] at hnj
          rw [hget_set_ne (fun e => hnj.1 e.symm), hkeep3 j (by omega) hnj.2.2.2, hget_left (by rw [List.length_set]; omega), hget_set_ne (fun e => hnj.1 e.symm), hkeep j (by omega) hnj.2.2.1, hget_left hj]
        · simp only [List.mem_cons, List.mem_append, List.not_mem_nil, or_false] at hj ⊢
          rcases hj with h1 | h1 | h1 | h1
          · exact .inl (.inl h1)
          · exact .inl (.inr (.inl h1))
          · right; omega
          · right; omega
      have hbn := rburn_ac (nro := nro) (γ := γ) hdk2 hnp
      refine aw_seq ?_
      refine aw_seq ?_
      refine aw_ops (by kernel_rfl) (fun K hK => ?_)
      simp (disch := first | omega | (simp only [List.length_set, List.length_append, List.length_cons, List.length_nil, iv_length, zl_length]; try omega; done)) [-getElem?_pos, -getElem?_neg]
      refine ⟨by kernel_rfl, hbn.mono ?_⟩
      rintro v H5 ⟨rfl, hdk3, hfr3⟩
      by_cases hbv : (D.put (i : Nat) t).burnV = 0
      · simp (disch := first | omega | (simp only [List.length_set, List.length_append, List.length_cons, List.length_nil, iv_length, zl_length]; try omega; done)) [-getElem?_pos, -getElem?_neg, hbv]
        refine hK _ _ ?_; clear hK K
        refine aw_f (by (first | (simp [eval_tmp, put_at, hbv]; done) | (simp [eval_tmp, put_at, hbv]; omega))) (by kernel_rfl) ?_
        refine aw_skip ?_
        refine aw_seq ?_
        (refine aw_ops (by kernel_rfl) (fun K hK => ?_); simp (disch := first | omega | (simp only [List.length_set, List.length_append, List.length_cons, List.length_nil, iv_length, zl_length]; try omega; done)) [-getElem?_pos, -getElem?_neg]; refine hK _ _ ?_; clear hK K)
        (refine aw_ret ?_; simp (disch := first | omega | (simp only [List.length_set, List.length_append, List.length_cons, List.length_nil, iv_length, zl_length]; try omega; done)) [-getElem?_pos, -getElem?_neg, thenQ_ret, inBlockQ_ret, RQ, resL, resV, hww, hwd])
        exact ⟨_, hdk3, hfr2.trans hfr3⟩
      · have hb7 : (D.put (i : Nat) t).burnV = 7 := by unfold DM.burnV at hbv ⊢; split <;> simp_all
        simp (disch := first | omega | (simp only [List.length_set, List.length_append, List.length_cons, List.length_nil, iv_length, zl_length]; try omega; done)) [-getElem?_pos, -getElem?_neg, hbv]
        refine hK _ _ ?_; clear hK K
        refine aw_t (by (first | (simp [eval_tmp, put_at, hbv]; done) | (simp [eval_tmp, put_at, hbv]; omega))) (by kernel_rfl) ?_
        refine aw_seq ?_
        (refine aw_ops (by kernel_rfl) (fun K hK => ?_); simp (disch := first | omega | (simp only [List.length_set, List.length_append, List.length_cons, List.length_nil, iv_length, zl_length]; try omega; done)) [-getElem?_pos, -getElem?_neg]; refine hK _ _ ?_; clear hK K)
        (refine aw_ret ?_; simp (disch := first | omega | (simp only [List.length_set, List.length_append, List.length_cons, List.length_nil, iv_length, zl_length]; try omega; done)) [-getElem?_pos, -getElem?_neg, thenQ_ret, inBlockQ_ret, RQ, resL, resV, hww, hwd])
        exact ⟨_, hdk3, hfr2.trans hfr3⟩
theorem ext_all {s : ByteArray} {Q : ByteArray} (hs : s.size = 256) (hq : Q.size = 256) : s.extract 0 256 ++ Q.extract 256 256 = s := by
  refine nums_inj ?_
  rw [nums_app, nums_extract, nums_extract, List.drop_zero, List.take_of_length_le (by rw [nums_len]; omega)]
  simp
theorem ext_none {s : ByteArray} {Q : ByteArray} (hq : Q.size = 256) : s.extract 0 0 ++ Q.extract 0 256 = Q := by
  refine nums_inj ?_
  rw [nums_app, nums_extract, nums_extract, List.drop_zero, List.drop_zero, List.take_of_length_le (l := nums Q) (by rw [nums_len]; omega)]
  simp
theorem set_same {L : List ByteArray} {k : Nat} (hk : k < L.length) : L.set k (L.getD k ⟨#[]⟩) = L := by
  rw [List.getD_eq_getElem?_getD, List.getElem?_eq_getElem hk]
  exact List.set_getElem_self hk
theorem getD_size {L : List ByteArray} {k : Nat} (h : ∀ r ∈ L, r.size = 256) (hk : k < L.length) : (L.getD k ⟨#[]⟩).size = 256 := by
  rw [List.getD_eq_getElem?_getD, List.getElem?_eq_getElem hk]
  exact h _ (List.getElem_mem _)
theorem rsync_ac (h : Rk H q F D) (hn : ∀ j ∈ F, nro ≤ j) :
    AC Try.prog nro γ 14 #[.pointer (some ⟨q, 0, none⟩)] H (fun v' H' => v' = .int .i64 D.syncV ∧ ∃ F', Rk H' q F' D.sync ∧ Fr H H' F F') := by
  have hdk := h
  obtain ⟨ho, f, A, B, FA, FB, rfl, h⟩ := h
  have hp := h.hq
  have hnp := hn q (by simp)
  have hbu := rburn_ac (nro := nro) (γ := γ) hdk hnp
  refine ac_of_aw Try.func14 rfl Try.ntmps14 Try.results14 (by simp) ?_
  refine aw_seq ?_
  (refine aw_ops (by kernel_rfl) (fun K hK => ?_); simp (disch := first | omega | (simp only [List.length_set, List.length_append, List.length_cons, List.length_nil, iv_length, zl_length]; try omega; done)) [-getElem?_pos, -getElem?_neg]; refine hK _ _ ?_; clear hK K)
  refine aw_seq ?_
  refine aw_seq ?_
  cases hd : D.dead with
  | true =>
    (refine aw_ops (by kernel_rfl) (fun K hK => ?_); simp (disch := first | omega | (simp only [List.length_set, List.length_append, List.length_cons, List.length_nil, iv_length, zl_length]; try omega; done)) [-getElem?_pos, -getElem?_neg, hp, hd]; refine hK _ _ ?_; clear hK K)
    refine aw_t (by (first | (simp [eval_tmp, put_at, hd]; done) | (simp [eval_tmp, put_at, hd]; omega))) (by kernel_rfl) ?_
    refine aw_seq ?_
    (refine aw_ops (by kernel_rfl) (fun K hK => ?_); simp (disch := first | omega | (simp only [List.length_set, List.length_append, List.length_cons, List.length_nil, iv_length, zl_length]; try omega; done)) [-getElem?_pos, -getElem?_neg]; refine hK _ _ ?_; clear hK K)
    have e1 : D.syncV = 7 := by simp [DM.syncV, hd]
    have e2 : D.sync = D := by simp [DM.sync, hd]
    (refine aw_ret ?_; simp (disch := first | omega | (simp only [List.length_set, List.length_append, List.length_cons, List.length_nil, iv_length, zl_length]; try omega; done)) [-getElem?_pos, -getElem?_neg, thenQ_ret, inBlockQ_ret, RQ, resL, resV, e1, e2])
    exact ⟨_, hdk, Fr.refl _ _⟩
  | false =>
    refine aw_ops (by kernel_rfl) (fun K hK => ?_)
    simp (disch := first | omega | (simp only [List.length_set, List.length_append, List.length_cons, List.length_nil, iv_length, zl_length]; try omega; done)) [-getElem?_pos, -getElem?_neg, hp, hd]
    refine ⟨by kernel_rfl, hbu.mono ?_⟩
    rintro v H1 ⟨rfl, hdk1, hfr1⟩
    have e1 : D.syncV = D.burnV := by simp [DM.syncV, hd]
    by_cases hb : D.burnV = 0
    case neg =>
      have e2 : D.sync = D.burn := by simp [DM.sync, hd, hb]
      have hb7 : D.burnV = 7 := by unfold DM.burnV at hb ⊢; split <;> simp_all
      simp (disch := first | omega | (simp only [List.length_set, List.length_append, List.length_cons, List.length_nil, iv_length, zl_length]; try omega; done)) [-getElem?_pos, -getElem?_neg, hb]
      refine hK _ _ ?_; clear hK K
      refine aw_t (by (first | (simp [eval_tmp, put_at, hb]; done) | (simp [eval_tmp, put_at, hb]; omega))) (by kernel_rfl) ?_
      refine aw_seq ?_
      (refine aw_ops (by kernel_rfl) (fun K hK => ?_); simp (disch := first | omega | (simp only [List.length_set, List.length_append, List.length_cons, List.length_nil, iv_length, zl_length]; try omega; done)) [-getElem?_pos, -getElem?_neg]; refine hK _ _ ?_; clear hK K)
      (refine aw_ret ?_; simp (disch := first | omega | (simp only [List.length_set, List.length_append, List.length_cons, List.length_nil, iv_length, zl_length]; try omega; done)) [-getElem?_pos, -getElem?_neg, thenQ_ret, inBlockQ_ret, RQ, resL, resV, e1, e2, hb7])
      exact ⟨_, hdk1, hfr1⟩
    have e2 : D.sync = { D.burn with firm := D.late, uns := [] } := by simp [DM.sync, hd, hb]
    rw [hb] at e1
    simp (disch := first | omega | (simp only [List.length_set, List.length_append, List.length_cons, List.length_nil, iv_length, zl_length]; try omega; done)) [-getElem?_pos, -getElem?_neg, hb]
    refine hK _ _ ?_; clear hK K
    refine aw_f (by (first | (simp [eval_tmp, put_at, hb]; done) | (simp [eval_tmp, put_at, hb]; omega))) (by kernel_rfl) ?_
    refine aw_skip ?_
    refine aw_seq ?_
    have hlate := burn_late D
    rw [← hlate] at e2
    clear hbu h hp hdk hlate ho
    generalize D.burn = D1 at *
    have ho := hdk1.1
    have hfew := ho.few
    refine aw_seq ?_
    (refine aw_ops (by kernel_rfl) (fun K hK => ?_); simp (disch := first | omega | (simp only [List.length_set, List.length_append, List.length_cons, List.length_nil, iv_length, zl_length]; try omega; done)) [-getElem?_pos, -getElem?_neg]; refine hK _ _ ?_; clear hK K)
    refine aw_block ?_
    refine aw_loop (fun c α G => ∃ i : Nat, i + c = D1.uns.length ∧ α 3 = .int .i64 (i : Nat) ∧ α 0 = .pointer (some ⟨q, 0, none⟩) ∧ Rk G q (q :: f :: (FA ++ FB)) { D1 with firm := lateOf D1.firm (D1.uns.take i) } ∧ Fr H1 G (q :: f :: (FA ++ FB)) (q :: f :: (FA ++ FB))) D1.uns.length ?_ ?_
    · exact ⟨0, by omega, by (first | (simp [put_at, put_none, fr0_at]; done) | rfl), by (first | (simp [put_at, put_none, fr0_at]; done) | rfl), by rw [List.take_zero]; exact hdk1, Fr.refl _ _⟩
    rintro c α G ⟨i, hic, h3, h0, hG, hfG⟩
    have hG0 := hG
    obtain ⟨hoG, f', A', B', FA', FB', hFF, hG⟩ := hG
    have hgp := hG.hq
    have hxl := hG.hA.len (P := Try.prog) (t := 42) (n := D1.uns.length) (by simp) (by simp) (by omega)
    refine aw_seq ?_
    refine aw_seq ?_
    simp only at hgp
    (refine aw_ops (by kernel_rfl) (fun K hK => ?_); simp (disch := first | omega | (simp only [List.length_set, List.length_append, List.length_cons, List.length_nil, iv_length, zl_length]; try omega; done)) [-getElem?_pos, -getElem?_neg, h3, h0, hgp, -xlen, hxl]; refine hK _ _ ?_; clear hK K)
    by_cases hi : i < D1.uns.length
    · refine aw_t (by (first | (simp [eval_tmp, put_at, hi]; done) | (simp [eval_tmp, put_at, hi]; omega))) (by kernel_rfl) ?_
      refine aw_skip ?_
      refine aw_seq ?_
      refine aw_block ?_
      obtain ⟨w, hw⟩ : ∃ w, D1.uns[i]? = some w := ⟨_, List.getElem?_eq_getElem hi⟩
      have hwm := ho.uns w (List.mem_of_getElem? hw)
      have hset := settle_ac (nro := nro) (γ := γ) hG0 hn (n := 256) (by omega) hw
      refine aw_ops (by kernel_rfl) (fun K hK => ?_)
      simp (disch := first | omega | (simp only [List.length_set, List.length_append, List.length_cons, List.length_nil, iv_length, zl_length]; try omega; done)) [-getElem?_pos, -getElem?_neg, h3, h0]
      refine ⟨by kernel_rfl, hset.mono ?_⟩
      rintro v G2 ⟨hG2, hf2⟩
      try simp (disch := first | omega | (simp only [List.length_set, List.length_append, List.length_cons, List.length_nil, iv_length, zl_length]; try omega; done)) [-getElem?_pos, -getElem?_neg]
      refine hK _ _ ?_; clear hK K
      have hll : (lateOf D1.firm (D1.uns.take i)).length = D1.firm.length := late_len _ _
      have hpe : DM.part { D1 with firm := lateOf D1.firm (D1.uns.take i) } w 256 = { D1 with firm := lateOf D1.firm (D1.uns.take (i + 1)) } := by
        unfold DM.part
        simp only
        rw [ext_all hwm.2 (getD_size (rows_take ho i) (by omega)), late_take hw]
      rw [hpe] at hG2
      (refine aw_ops (by kernel_rfl) (fun K hK => ?_); simp (disch := first | omega | (simp only [List.length_set, List.length_append, List.length_cons, List.length_nil, iv_length, zl_length]; try omega; done)) [-getElem?_pos, -getElem?_neg, h3]; refine hK _ _ ?_; clear hK K)
      exact ⟨c - 1, by omega, i + 1, by omega, by (first | (simp [put_at, put_none, fr0_at]; done) | rfl), by (first | (simp [put_at, put_none, fr0_at, h0]; done) | rfl), hG2, hfG.trans hf2⟩
    · obtain rfl : i = D1.uns.length := by omega
      refine aw_f (by (first | (simp [eval_tmp, put_at]; done) | (simp [eval_tmp, put_at]; omega))) (by kernel_rfl) ?_
      refine aw_exit ?_
      have hcl := clear_ac (nro := nro) (γ := γ) hG0 hnp
      refine aw_seq ?_
      refine aw_ops (by kernel_rfl) (fun K hK => ?_)
      simp (disch := first | omega | (simp only [List.length_set, List.length_append, List.length_cons, List.length_nil, iv_length, zl_length]; try omega; done)) [-getElem?_pos, -getElem?_neg, h0]
      refine ⟨by kernel_rfl, hcl.mono ?_⟩
      rintro v G2 ⟨F', hG2, hf2⟩
      try simp (disch := first | omega | (simp only [List.length_set, List.length_append, List.length_cons, List.length_nil, iv_length, zl_length]; try omega; done)) [-getElem?_pos, -getElem?_neg]
      refine hK _ _ ?_; clear hK K
      refine aw_seq ?_
      (refine aw_ops (by kernel_rfl) (fun K hK => ?_); simp (disch := first | omega | (simp only [List.length_set, List.length_append, List.length_cons, List.length_nil, iv_length, zl_length]; try omega; done)) [-getElem?_pos, -getElem?_neg]; refine hK _ _ ?_; clear hK K)
      (refine aw_ret ?_; simp (disch := first | omega | (simp only [List.length_set, List.length_append, List.length_cons, List.length_nil, iv_length, zl_length]; try omega; done)) [-getElem?_pos, -getElem?_neg, thenQ_ret, inBlockQ_ret, RQ, resL, resV, e1, e2])
      rw [List.take_length] at hG2
      exact ⟨F', hG2, hfr1.trans (hfG.trans hf2)⟩
theorem rcrash_ac (h : Rk H q F D) (hn : ∀ j ∈ F, nro ≤ j) {kv : Value} {ks : List Int} (hk : SlS H F kv (iv .u8 ks)) (hkb : By ks) :
    AC Try.prog nro γ 18 #[.pointer (some ⟨q, 0, none⟩), kv] H (fun v' H' => ∃ F', Rk H' q F' (D.crash ks) ∧ Fr H H' F F') := by
  have ho := h.1
  have hfew := ho.few
  have hnp := hn q (by obtain ⟨_, f, A, B, FA, FB, rfl, _⟩ := h; simp)
  refine ac_of_aw Try.func18 rfl Try.ntmps18 Try.results18 (by simp) ?_
  refine aw_seq ?_
  refine aw_seq ?_
  (refine aw_ops (by kernel_rfl) (fun K hK => ?_); simp (disch := first | omega | (simp only [List.length_set, List.length_append, List.length_cons, List.length_nil, iv_length, zl_length]; try omega; done)) [-getElem?_pos, -getElem?_neg]; refine hK _ _ ?_; clear hK K)
  refine aw_block ?_
  refine aw_loop (fun c α G => ∃ i : Nat, i + c = D.uns.length ∧ α 4 = .int .i64 (i : Nat) ∧ α 0 = .pointer (some ⟨q, 0, none⟩) ∧ α 1 = kv ∧ Rk G q F { D with firm := crF D.firm D.uns ks i } ∧ Fr H G F F) D.uns.length ?_ ?_
  · exact ⟨0, by omega, by (first | (simp [put_at, put_none, fr0_at]; done) | rfl), by (first | (simp [put_at, put_none, fr0_at]; done) | rfl), by (first | (simp [put_at, put_none, fr0_at]; done) | rfl), h, Fr.refl _ _⟩
  rintro c α G ⟨i, hic, h4, h0, h1, hG, hfG⟩
  have hG0 := hG
  obtain ⟨hoG, f', A', B', FA', FB', hFF, hG⟩ := hG
  have hgp := hG.hq
  have hxl := hG.hA.len (P := Try.prog) (t := 42) (n := D.uns.length) (by simp) (by simp) (by omega)
  have hkG := (hk.fr hfG).now
  have hkl := hkG.len (P := Try.prog) (t := 29) (e := 5) (by simp)
  rw [iv_length] at hkl
  obtain ⟨hll, hrl⟩ := crF_ok (ks := ks) ho.rows ho.uns i
  refine aw_seq ?_
  refine aw_seq ?_
  simp only at hgp
  (refine aw_ops (by kernel_rfl) (fun K hK => ?_); simp (disch := first | omega | (simp only [List.length_set, List.length_append, List.length_cons, List.length_nil, iv_length, zl_length]; try omega; done)) [-getElem?_pos, -getElem?_neg, h4, h0, hgp, -xlen, hxl]; refine hK _ _ ?_; clear hK K)
  by_cases hi : i < D.uns.length
  · refine aw_t (by (first | (simp [eval_tmp, put_at, hi]; done) | (simp [eval_tmp, put_at, hi]; omega))) (by kernel_rfl) ?_
    refine aw_skip ?_
    refine aw_seq ?_
    refine aw_block ?_
    obtain ⟨w, hw⟩ : ∃ w, D.uns[i]? = some w := ⟨_, List.getElem?_eq_getElem hi⟩
    have hwm := ho.uns w (List.mem_of_getElem? hw)
    have hcr : crF D.firm D.uns ks (i + 1) = (crF D.firm D.uns ks i).set w.1 (w.2.extract 0 (keptN ks i) ++ ((crF D.firm D.uns ks i).getD w.1 ⟨#[]⟩).extract (keptN ks i) 256) := by rw [crF, hw]
    refine aw_seq ?_
    (refine aw_ops (by kernel_rfl) (fun K hK => ?_); simp (disch := first | omega | (simp only [List.length_set, List.length_append, List.length_cons, List.length_nil, iv_length, zl_length]; try omega; done)) [-getElem?_pos, -getElem?_neg, h4, h1, -xlen, hkl]; refine hK _ _ ?_; clear hK K)
    have hkb2 := hkb.get i
    by_cases hik : i < ks.length
    · have hset := settle_ac (nro := nro) (γ := γ) hG0 hn (n := keptN ks i) (keptN_bd _ _) hw
      have hkne : keptN ks i = ((ks.getD i 0) % 5).toNat * 64 := by unfold keptN; rw [if_pos hik]
      obtain ⟨q1, hq1, hq2⟩ := hkG.cell (P := Try.prog) (t := 29) (e := 5) (i := i) (x := .int .u8 (ks.getD i 0)) (by simp) (by simp) (by simp [agI]) (by simp [okI]) (iv_getN _ _ _ hik)
      have hpe : DM.part { D with firm := crF D.firm D.uns ks i } w (keptN ks i) = { D with firm := crF D.firm D.uns ks (i + 1) } := by
        unfold DM.part
        simp only
        rw [← hcr]
      rw [hpe] at hset
      generalize ks.getD i 0 = kb at *
      have hkz : 64 * (kb % 5) = ((keptN ks i : Nat) : Int) := by omega
      have hkb5 : kb % 5 ≤ 4 := by omega
      have hkb6 : 0 ≤ kb % 5 := by omega
      have hkz0 : kb.tmod 5 = kb % 5 := tmodP (by omega)
      clear hkne
      refine aw_t (by (first | (simp [eval_tmp, put_at, hik]; done) | (simp [eval_tmp, put_at, hik]; omega))) (by kernel_rfl) ?_
      refine aw_ops (by kernel_rfl) (fun K hK => ?_)
      simp (disch := first | omega | (simp only [List.length_set, List.length_append, List.length_cons, List.length_nil, iv_length, zl_length]; try omega; done)) [-getElem?_pos, -getElem?_neg, h4, h1, h0, -xindexAddr, -xload, hq1, hq2, hkz0, hkz]
      refine ⟨by kernel_rfl, hset.mono ?_⟩
      rintro v G2 ⟨hG2, hf2⟩
      try simp (disch := first | omega | (simp only [List.length_set, List.length_append, List.length_cons, List.length_nil, iv_length, zl_length]; try omega; done)) [-getElem?_pos, -getElem?_neg]
      refine hK _ _ ?_; clear hK K
      (refine aw_ops (by kernel_rfl) (fun K hK => ?_); simp (disch := first | omega | (simp only [List.length_set, List.length_append, List.length_cons, List.length_nil, iv_length, zl_length]; try omega; done)) [-getElem?_pos, -getElem?_neg, h4]; refine hK _ _ ?_; clear hK K)
      exact ⟨c - 1, by omega, i + 1, by omega, by (first | (simp [put_at, put_none, fr0_at]; done) | rfl), by (first | (simp [put_at, put_none, fr0_at, h0]; done) | rfl), by (first | (simp [put_at, put_none, fr0_at, h1]; done) | rfl), hG2, hfG.trans hf2⟩
    · refine aw_f (by (first | (simp [eval_tmp, put_at, hik]; done) | (simp [eval_tmp, put_at, hik]; omega))) (by kernel_rfl) ?_
      refine aw_skip ?_
      have hkne : keptN ks i = 0 := by unfold keptN; rw [if_neg hik]
      rw [hkne, ext_none (getD_size hrl (by omega)), set_same (by omega)] at hcr
      (refine aw_ops (by kernel_rfl) (fun K hK => ?_); simp (disch := first | omega | (simp only [List.length_set, List.length_append, List.length_cons, List.length_nil, iv_length, zl_length]; try omega; done)) [-getElem?_pos, -getElem?_neg, h4]; refine hK _ _ ?_; clear hK K)
      refine ⟨c - 1, by omega, i + 1, by omega, by (first | (simp [put_at, put_none, fr0_at]; done) | rfl), by (first | (simp [put_at, put_none, fr0_at, h0]; done) | rfl), by (first | (simp [put_at, put_none, fr0_at, h1]; done) | rfl), ?_, hfG⟩
      rw [hcr]
      exact hG0
  · obtain rfl : i = D.uns.length := by omega
    refine aw_f (by (first | (simp [eval_tmp, put_at]; done) | (simp [eval_tmp, put_at]; omega))) (by kernel_rfl) ?_
    refine aw_exit ?_
    have hcl := clear_ac (nro := nro) (γ := γ) hG0 hnp
    refine aw_seq ?_
    refine aw_ops (by kernel_rfl) (fun K hK => ?_)
    simp (disch := first | omega | (simp only [List.length_set, List.length_append, List.length_cons, List.length_nil, iv_length, zl_length]; try omega; done)) [-getElem?_pos, -getElem?_neg, h0]
    refine ⟨by kernel_rfl, hcl.mono ?_⟩
    rintro v G2 ⟨F2, hG2, hf2⟩
    try simp (disch := first | omega | (simp only [List.length_set, List.length_append, List.length_cons, List.length_nil, iv_length, zl_length]; try omega; done)) [-getElem?_pos, -getElem?_neg]
    refine hK _ _ ?_; clear hK K
    obtain ⟨ho2, f2, A2, B2, FA2, FB2, hF2, hG2⟩ := hG2
    have hgp2 := hG2.hq
    have hpl2 := hget_lt hgp2
    simp only at hgp2
    have hup := hG2.upd (D' := D.crash ks) ho2 rfl rfl (by simp [DM.crash])
    refine aw_seq ?_
    (refine aw_ops (by kernel_rfl) (fun K hK => ?_); simp (disch := first | omega | (simp only [List.length_set, List.length_append, List.length_cons, List.length_nil, iv_length, zl_length]; try omega; done)) [-getElem?_pos, -getElem?_neg, h0, hgp2]; refine hK _ _ ?_; clear hK K)
    (refine aw_ops (by kernel_rfl) (fun K hK => ?_); simp (disch := first | omega | (simp only [List.length_set, List.length_append, List.length_cons, List.length_nil, iv_length, zl_length]; try omega; done)) [-getElem?_pos, -getElem?_neg, h0, hgp2, List.set_set]; refine hK _ _ ?_; clear hK K)
    refine ⟨_, _, rfl, rfl, F2, ?_, (hfG.trans hf2).trans (fr_set (by rw [hF2]; simp))⟩
    rw [hF2]
    exact hup
end
end Go.Proofs.Ytadbgdhbamdiaaa
