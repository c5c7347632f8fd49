/-
  The reference's disk, walked.
-/
import Derived.Test.YtadbgdhbamdiaaaDy
namespace Go.Proofs.Ytadbgdhbamdiaaa
open Go Go.RowKit
set_option linter.unusedVariables false
set_option linter.unusedSimpArgs false
set_option maxRecDepth 100000
set_option maxHeartbeats 4000000

structure RkR (H : AH) (q f : Nat) (A B : Value) (FA FB : List Nat) (D : DM) : Prop where
  hq : hget H q = some ⟨[.slice (some ⟨f, 0, none⟩) D.firm.length D.firm.length, A, B, .int .i64 D.fuse, .bool D.dead], 44, none⟩
  hf : hget H f = some ⟨D.firm.map .string, 9, some 1⟩
  hA : OwnF H A 3 1 (D.uns.map fun w => .int .i64 (w.1 : Nat)) FA
  hB : OwnF H B 9 1 (D.uns.map fun w => .string w.2) FB
  qf : q ≠ f
  fa : q ∉ FA ∧ f ∉ FA
  fb : q ∉ FB ∧ f ∉ FB
  ab : ∀ j ∈ FA, j ∉ FB
def Rk (H : AH) (q : Nat) (F : List Nat) (D : DM) : Prop := D.Ok ∧ ∃ f A B FA FB, F = q :: f :: (FA ++ FB) ∧ RkR H q f A B FA FB D
theorem Rk.low {H H' : AH} {q : Nat} {F : List Nat} {D : DM} (h : Rk H q F D) (hl : ∀ j ∈ F, hget H' j = hget H j) : Rk H' q F D := by
  obtain ⟨h0, f, A, B, FA, FB, rfl, h⟩ := h
  exact ⟨h0, f, A, B, FA, FB, rfl, ⟨by rw [hl q (by simp)]; exact h.hq, by rw [hl f (by simp)]; exact h.hf, h.hA.low (fun j hj => hl j (by simp [hj])), h.hB.low (fun j hj => hl j (by simp [hj])), h.qf, h.fa, h.fb, h.ab⟩⟩
theorem OwnF.lt {H : AH} {v : Value} {e : TypeId} {sz : Nat} {cells : List Value} {F : List Nat} (h : OwnF H v e sz cells F) : ∀ j ∈ F, j < H.length := by
  rcases h with ⟨_, _, rfl⟩ | ⟨i, len, _, h2, _, rfl⟩
  · intro j hj; cases hj
  · intro j hj; rw [List.mem_singleton] at hj; subst hj; exact hget_lt h2
theorem Rk.lt {H : AH} {q : Nat} {F : List Nat} {D : DM} (h : Rk H q F D) : ∀ j ∈ F, j < H.length := by
  obtain ⟨h0, f, A, B, FA, FB, rfl, h⟩ := h
  intro j hj
  simp only [List.mem_cons, List.mem_append] at hj
  rcases hj with rfl | rfl | hj | hj
  · exact hget_lt h.hq
  · exact hget_lt h.hf
  · exact h.hA.lt j hj
  · exact h.hB.lt j hj
theorem RkR.upd {H : AH} {q f : Nat} {A B : Value} {FA FB : List Nat} {D D' : DM} (h : RkR H q f A B FA FB D) (ho : D.Ok) (hf : D'.firm = D.firm) (hu : D'.uns = D.uns) (hz : -1 ≤ D'.fuse ∧ D'.fuse ≤ 9223372036854775807) :
    Rk (H.set q (some ⟨[.slice (some ⟨f, 0, none⟩) D.firm.length D.firm.length, A, B, .int .i64 D'.fuse, .bool D'.dead], 44, none⟩)) q (q :: f :: (FA ++ FB)) D' := by
  have hpl := hget_lt h.hq
  refine ⟨ho.upd hf hu hz, f, A, B, FA, FB, rfl, ⟨by rw [hget_set_eq hpl, hf], by rw [hget_set_ne h.qf, hf]; exact h.hf, ?_, ?_, h.qf, h.fa, h.fb, h.ab⟩⟩
  · rw [hu]; exact h.hA.low (fun j hj => hget_set_ne (fun e => h.fa.1 (e ▸ hj)))
  · rw [hu]; exact h.hB.low (fun j hj => hget_set_ne (fun e => h.fb.1 (e ▸ hj)))
attribute [local simp] wb_bool wb_undef XL_nil XL_cons XLc_val XLc_call step1_eq stepW_t stepW_f stepC_n stepC_s stepX_s xop_eq xopR_s xopR_n wantedA_eq wantedG_n wantedG_s plain1_int plain1_bool plain1_string bits_i64 bits_u64 bits_u32 bits_u16 bits_u8 xeqA xarr allK_iv num_iv calleeOf xread xeff xbin xint xnil xun xstr xload xconv xpart xfield xfieldAddr xindexAddr xindex bnd asInt? xslice xlen xmin xmax xbuild xfill xappend xcopy xcells eval_tmp eval_const put_at put_none fr0_at cells_agg cells_int cells_bool cells_string cells_ptr cells_slice notTuple tab iv_all hget_app hget_app0 hget_cons0 hget_cons set_app set_app0 setR setR_one QL_nil QL_cons QLc_val stepQ_t stepQ_f stepQC_n stepQC_s stepQX_s SL_nil SL_cons SLc_val stepS_t stepS_f ltT ltF leT leF eqT eqF ltTn ltFn leTn leFn eqTn eqFn beqT beqF bneT bneF wi64 wu64 wu32 wu16 wu8 tmodP tdivP hgetL hgetNe hgetEq setL nums_def nums_len Nat.succ_le_of_lt List.getElem?_cons_zero List.getElem?_cons_succ Option.getD_some Int.toNat_add Int.toNat_mul agB agI agS agP agL agA okB okI okS okP okSl okA

section
variable {H : AH} {γ : Nat → Option Nat} {nro q : Nat} {F : List Nat} {D : DM}
theorem rhas_ac (h : Rk H q F D) (at_ : Int) : AC Try.prog nro γ 22 #[.pointer (some ⟨q, 0, none⟩), .int .i64 at_] H (fun v' H' => v' = .bool (hasB D.firm.length at_) ∧ H' = H) := by
  obtain ⟨ho, f, A, B, FA, FB, rfl, h⟩ := h
  have hq := h.hq
  refine ac_of_aw Try.func22 rfl Try.ntmps22 Try.results22 (by simp) ?_
  refine aw_seq ?_
  (refine aw_ops (by kernel_rfl) (fun K hK => ?_); simp (disch := first | omega | (simp only [List.length_set, List.length_append, List.length_cons, List.length_nil, iv_length, zl_length]; try omega; done)) [-getElem?_pos, -getElem?_neg]; refine hK _ _ ?_; clear hK K)
  refine aw_seq ?_
  by_cases hc : 0 ≤ at_
  · (refine aw_ops (by kernel_rfl) (fun K hK => ?_); simp (disch := first | omega | (simp only [List.length_set, List.length_append, List.length_cons, List.length_nil, iv_length, zl_length]; try omega; done)) [-getElem?_pos, -getElem?_neg, hc, hq]; refine hK _ _ ?_; clear hK K)
    (refine aw_ret ?_; simp (disch := first | omega | (simp only [List.length_set, List.length_append, List.length_cons, List.length_nil, iv_length, zl_length]; try omega; done)) [-getElem?_pos, -getElem?_neg, thenQ_ret, inBlockQ_ret, RQ, resL, resV])
    simp [hasB, hc]
  · (refine aw_ops (by kernel_rfl) (fun K hK => ?_); simp (disch := first | omega | (simp only [List.length_set, List.length_append, List.length_cons, List.length_nil, iv_length, zl_length]; try omega; done)) [-getElem?_pos, -getElem?_neg, hc, hq]; refine hK _ _ ?_; clear hK K)
    (refine aw_ret ?_; simp (disch := first | omega | (simp only [List.length_set, List.length_append, List.length_cons, List.length_nil, iv_length, zl_length]; try omega; done)) [-getElem?_pos, -getElem?_neg, thenQ_ret, inBlockQ_ret, RQ, resL, resV])
    simp [hasB, hc]
theorem rburn_ac (h : Rk H q F D) (hn : nro ≤ q) : AC Try.prog nro γ 27 #[.pointer (some ⟨q, 0, none⟩)] H (fun v' H' => v' = .bool (decide (D.burnV = 0)) ∧ Rk H' q F D.burn ∧ Fr H H' F F) := by
  obtain ⟨ho, f, A, B, FA, FB, rfl, h⟩ := h
  have hp := h.hq
  have hpl := hget_lt hp
  have hz := ho.fuse
  refine ac_of_aw Try.func27 rfl Try.ntmps27 Try.results27 (by simp) ?_
  refine aw_seq ?_
  (refine aw_ops (by kernel_rfl) (fun K hK => ?_); simp (disch := first | omega | (simp only [List.length_set, List.length_append, List.length_cons, List.length_nil, iv_length, zl_length]; try omega; done)) [-getElem?_pos, -getElem?_neg]; refine hK _ _ ?_; clear hK K)
  refine aw_seq ?_
  refine aw_seq ?_
  by_cases h0 : D.fuse = 0
  · (refine aw_ops (by kernel_rfl) (fun K hK => ?_); simp (disch := first | omega | (simp only [List.length_set, List.length_append, List.length_cons, List.length_nil, iv_length, zl_length]; try omega; done)) [-getElem?_pos, -getElem?_neg, hp, h0]; refine hK _ _ ?_; clear hK K)
    refine aw_t (by (first | (simp [eval_tmp, put_at, h0]; done) | (simp [eval_tmp, put_at, h0]; omega))) (by kernel_rfl) ?_
    refine aw_seq ?_
    (refine aw_ops (by kernel_rfl) (fun K hK => ?_); simp (disch := first | omega | (simp only [List.length_set, List.length_append, List.length_cons, List.length_nil, iv_length, zl_length]; try omega; done)) [-getElem?_pos, -getElem?_neg, hp, h0]; refine hK _ _ ?_; clear hK K)
    refine aw_seq ?_
    (refine aw_ops (by kernel_rfl) (fun K hK => ?_); simp (disch := first | omega | (simp only [List.length_set, List.length_append, List.length_cons, List.length_nil, iv_length, zl_length]; try omega; done)) [-getElem?_pos, -getElem?_neg]; refine hK _ _ ?_; clear hK K)
    (refine aw_ret ?_; simp (disch := first | omega | (simp only [List.length_set, List.length_append, List.length_cons, List.length_nil, iv_length, zl_length]; try omega; done)) [-getElem?_pos, -getElem?_neg, thenQ_ret, inBlockQ_ret, RQ, resL, resV])
    have hb : D.burn = { D with dead := true } := by simp [DM.burn, h0]
    refine ⟨by simp [DM.burnV, h0], ?_, fr_set (by simp)⟩
    rw [hb]
    have := h.upd (D' := { D with dead := true }) ho rfl rfl hz
    simpa only [h0] using this
  · (refine aw_ops (by kernel_rfl) (fun K hK => ?_); simp (disch := first | omega | (simp only [List.length_set, List.length_append, List.length_cons, List.length_nil, iv_length, zl_length]; try omega; done)) [-getElem?_pos, -getElem?_neg, hp, h0]; refine hK _ _ ?_; clear hK K)
    refine aw_f (by (first | (simp [eval_tmp, put_at, h0]; done) | (simp [eval_tmp, put_at, h0]; omega))) (by kernel_rfl) ?_
    refine aw_skip ?_
    refine aw_seq ?_
    refine aw_seq ?_
    by_cases h1 : 0 < D.fuse
    · (refine aw_ops (by kernel_rfl) (fun K hK => ?_); simp (disch := first | omega | (simp only [List.length_set, List.length_append, List.length_cons, List.length_nil, iv_length, zl_length]; try omega; done)) [-getElem?_pos, -getElem?_neg, hp, h1]; refine hK _ _ ?_; clear hK K)
      refine aw_t (by (first | (simp [eval_tmp, put_at, h1]; done) | (simp [eval_tmp, put_at, h1]; omega))) (by kernel_rfl) ?_
      (refine aw_ops (by kernel_rfl) (fun K hK => ?_); simp (disch := first | omega | (simp only [List.length_set, List.length_append, List.length_cons, List.length_nil, iv_length, zl_length]; try omega; done)) [-getElem?_pos, -getElem?_neg, hp]; refine hK _ _ ?_; clear hK K)
      refine aw_seq ?_
      (refine aw_ops (by kernel_rfl) (fun K hK => ?_); simp (disch := first | omega | (simp only [List.length_set, List.length_append, List.length_cons, List.length_nil, iv_length, zl_length]; try omega; done)) [-getElem?_pos, -getElem?_neg]; refine hK _ _ ?_; clear hK K)
      (refine aw_ret ?_; simp (disch := first | omega | (simp only [List.length_set, List.length_append, List.length_cons, List.length_nil, iv_length, zl_length]; try omega; done)) [-getElem?_pos, -getElem?_neg, thenQ_ret, inBlockQ_ret, RQ, resL, resV])
      have hb : D.burn = { D with fuse := D.fuse - 1 } := by simp [DM.burn, h0, h1]
      refine ⟨by simp [DM.burnV, h0], ?_, fr_set (by simp)⟩
      rw [hb]
      exact h.upd (D' := { D with fuse := D.fuse - 1 }) ho rfl rfl (by simp only; omega)
    · (refine aw_ops (by kernel_rfl) (fun K hK => ?_); simp (disch := first | omega | (simp only [List.length_set, List.length_append, List.length_cons, List.length_nil, iv_length, zl_length]; try omega; done)) [-getElem?_pos, -getElem?_neg, hp, h1]; refine hK _ _ ?_; clear hK K)
      refine aw_f (by (first | (simp [eval_tmp, put_at, h1]; done) | (simp [eval_tmp, put_at, h1]; omega))) (by kernel_rfl) ?_
      refine aw_skip ?_
      refine aw_seq ?_
      (refine aw_ops (by kernel_rfl) (fun K hK => ?_); simp (disch := first | omega | (simp only [List.length_set, List.length_append, List.length_cons, List.length_nil, iv_length, zl_length]; try omega; done)) [-getElem?_pos, -getElem?_neg]; refine hK _ _ ?_; clear hK K)
      (refine aw_ret ?_; simp (disch := first | omega | (simp only [List.length_set, List.length_append, List.length_cons, List.length_nil, iv_length, zl_length]; try omega; done)) [-getElem?_pos, -getElem?_neg, thenQ_ret, inBlockQ_ret, RQ, resL, resV])
      have hb : D.burn = D := by simp [DM.burn, h0, h1]
      rw [hb]
      exact ⟨by simp [DM.burnV, h0], ⟨ho, f, A, B, FA, FB, rfl, h⟩, Fr.refl _ _⟩
theorem light_ac (h : Rk H q F D) (hn : nro ≤ q) {n : Int} (hnb : n ≤ 9223372036854775807) : AC Try.prog nro γ 16 #[.pointer (some ⟨q, 0, none⟩), .int .i64 n] H (fun v' H' => Rk H' q F { D with fuse := if n < -1 then -1 else n } ∧ Fr H H' F F) := by
  obtain ⟨ho, f, A, B, FA, FB, rfl, h⟩ := h
  have hp := h.hq
  have hpl := hget_lt hp
  have hm := h.upd (D' := { D with fuse := if n < -1 then -1 else n }) ho rfl rfl (by simp only; split <;> omega)
  simp only at hm
  refine ac_of_aw Try.func16 rfl Try.ntmps16 Try.results16 (by simp) ?_
  refine aw_seq ?_
  (refine aw_ops (by kernel_rfl) (fun K hK => ?_); simp (disch := first | omega | (simp only [List.length_set, List.length_append, List.length_cons, List.length_nil, iv_length, zl_length]; try omega; done)) [-getElem?_pos, -getElem?_neg, hp]; refine hK _ _ ?_; clear hK K)
  refine aw_seq ?_
  by_cases hc : n < 0
  · (refine aw_ops (by kernel_rfl) (fun K hK => ?_); simp (disch := first | omega | (simp only [List.length_set, List.length_append, List.length_cons, List.length_nil, iv_length, zl_length]; try omega; done)) [-getElem?_pos, -getElem?_neg, hc]; refine hK _ _ ?_; clear hK K)
    refine aw_t (by (first | (simp [eval_tmp, put_at, hc]; done) | (simp [eval_tmp, put_at, hc]; omega))) (by kernel_rfl) ?_
    have hcc : (if n < -1 then (-1 : Int) else n) = -1 := by split <;> omega
    rw [hcc] at hm ⊢
    (refine aw_ops (by kernel_rfl) (fun K hK => ?_); simp (disch := first | omega | (simp only [List.length_set, List.length_append, List.length_cons, List.length_nil, iv_length, zl_length]; try omega; done)) [-getElem?_pos, -getElem?_neg, hp, List.set_set]; refine hK _ _ ?_; clear hK K)
    refine ⟨_, _, rfl, rfl, ?_, fr_set (by simp)⟩
    exact hm
  · (refine aw_ops (by kernel_rfl) (fun K hK => ?_); simp (disch := first | omega | (simp only [List.length_set, List.length_append, List.length_cons, List.length_nil, iv_length, zl_length]; try omega; done)) [-getElem?_pos, -getElem?_neg, hc]; refine hK _ _ ?_; clear hK K)
    refine aw_f (by (first | (simp [eval_tmp, put_at, hc]; done) | (simp [eval_tmp, put_at, hc]; omega))) (by kernel_rfl) ?_
    refine aw_skip ?_
    have hcc : (if n < -1 then (-1 : Int) else n) = n := by split <;> omega
    rw [hcc] at hm ⊢
    refine ⟨_, _, rfl, rfl, ?_, fr_set (by simp)⟩
    exact hm
theorem clear_ac (h : Rk H q F D) (hn : nro ≤ q) : AC Try.prog nro γ 29 #[.pointer (some ⟨q, 0, none⟩)] H (fun v' H' => ∃ F', Rk H' q F' { D with uns := [] } ∧ Fr H H' F F') := by
  obtain ⟨ho, f, A, B, FA, FB, rfl, h⟩ := h
  have hp := h.hq
  have hpl := hget_lt hp
  refine ac_of_aw Try.func29 rfl Try.ntmps29 Try.results29 (by simp) ?_
  refine aw_seq ?_
  (refine aw_ops (by kernel_rfl) (fun K hK => ?_); simp (disch := first | omega | (simp only [List.length_set, List.length_append, List.length_cons, List.length_nil, iv_length, zl_length]; try omega; done)) [-getElem?_pos, -getElem?_neg, hp]; refine hK _ _ ?_; clear hK K)
  (refine aw_ops (by kernel_rfl) (fun K hK => ?_); simp (disch := first | omega | (simp only [List.length_set, List.length_append, List.length_cons, List.length_nil, iv_length, zl_length]; try omega; done)) [-getElem?_pos, -getElem?_neg, hp]; refine hK _ _ ?_; clear hK K)
  refine ⟨_, _, rfl, rfl, [q, f], ⟨⟨ho.one, ho.most, ho.rows, fun w hw => (by cases hw), ho.fuse, by simp⟩, f, .slice none 0 0, .slice none 0 0, [], [], rfl, ⟨?_, ?_, .inl ⟨rfl, rfl, rfl⟩, .inl ⟨rfl, rfl, rfl⟩, h.qf, by simp, by simp, by simp⟩⟩, ⟨by simp, fun j hj hnj => ?_, fun j hj => .inl (by simp only [List.mem_cons, List.not_mem_nil, or_false] at hj ⊢; rcases hj with h1 | h1 <;> simp [h1])⟩⟩
  · rw [hget_set_eq (by simpa using hpl)]
  · rw [hget_set_ne h.qf]; exact h.hf
  · simp only [List.mem_cons, not_or] at hnj
    rw [hget_set_ne (fun e => hnj.1 e.symm)]
/-- A write's first bytes, settled. -/
def DM.part (D : DM) (w : Nat × ByteArray) (n : Nat) : DM := { D with firm := D.firm.set w.1 (w.2.extract 0 n ++ (D.firm.getD w.1 ⟨#[]⟩).extract n 256) }
theorem part_ok (ho : D.Ok) {w : Nat × ByteArray} (hw : w ∈ D.uns) {n : Nat} (hn : n ≤ 256) : (D.part w n).Ok := by
  have h1 := ho.uns w hw
  refine ⟨by simp [DM.part]; exact ho.one, by simp [DM.part]; exact ho.most, fun r hr => ?_, fun w' hw' => ?_, ho.fuse, ho.few⟩
  · rcases mem_set hr with hr | rfl
    · exact ho.rows r hr
    · have : (D.firm.getD w.1 ⟨#[]⟩).size = 256 := by
        rw [List.getD_eq_getElem?_getD, List.getElem?_eq_getElem h1.1]
        exact ho.rows _ (List.getElem_mem _)
      rw [ByteArray.size_append, ByteArray.size_extract, ByteArray.size_extract, this, h1.2]
      omega
  · have := ho.uns w' hw'
    simpa [DM.part] using this
theorem settle_ac (h : Rk H q F D) (hn : ∀ j ∈ F, nro ≤ j) {i n : Nat} (hnn : n ≤ 256) {w : Nat × ByteArray} (hw : D.uns[i]? = some w) :
    AC Try.prog nro γ 28 #[.pointer (some ⟨q, 0, none⟩), .int .i64 (i : Nat), .int .i64 (n : Nat)] H (fun v' H' => Rk H' q F (D.part w n) ∧ Fr H H' F F) := by
  obtain ⟨ho, f, A, B, FA, FB, rfl, h⟩ := h
  have hp := h.hq
  have hpl := hget_lt hp
  have hf := h.hf
  have hfl := hget_lt hf
  have hqf := h.qf
  have hwm := ho.uns w (List.mem_of_getElem? hw)
  have hw1 := hwm.1
  have hw2 := hwm.2
  have hi := (List.getElem?_eq_some_iff.1 hw).1
  have hnf : nro ≤ f := hn f (by simp)
  obtain ⟨a, hA, ha, hFA⟩ := h.hA.slice (n := D.uns.length) (by intro e; have := congrArg List.length e; simp at this; rw [this] at hi; simp at hi) (by omega) (by simp)
  obtain ⟨b, hB, hb, hFB⟩ := h.hB.slice (n := D.uns.length) (by intro e; have := congrArg List.length e; simp at this; rw [this] at hi; simp at hi) (by omega) (by simp)
  subst hA hB
  have hcA : (D.uns.map fun w => Value.int .i64 (w.1 : Nat))[i]? = some (.int .i64 (w.1 : Nat)) := by rw [List.getElem?_map, hw]; rfl
  have hcB : (D.uns.map fun w => Value.string w.2)[i]? = some (.string w.2) := by rw [List.getElem?_map, hw]; rfl
  have hq1 : D.firm[w.1]? = some (D.firm.getD w.1 ⟨#[]⟩) := by rw [List.getD_eq_getElem?_getD, List.getElem?_eq_getElem hw1]; rfl
  have hcF : (D.firm.map Value.string)[w.1]? = some (.string (D.firm.getD w.1 ⟨#[]⟩)) := by rw [List.getElem?_map, hq1]; rfl
  have hqs := ho.rows _ (List.mem_of_getElem? hq1)
  have hpo := part_ok (n := n) ho (List.mem_of_getElem? hw) hnn
  have hpf : (D.part w n).firm = D.firm.set w.1 (w.2.extract 0 n ++ (D.firm.getD w.1 ⟨#[]⟩).extract n 256) := rfl
  have hse : (D.firm.map Value.string).set w.1 (.string (w.2.extract 0 n ++ (D.firm.getD w.1 ⟨#[]⟩).extract n 256)) = (D.part w n).firm.map .string := by rw [hpf, List.map_set]
  have hpl2 : (D.part w n).firm.length = D.firm.length := by simp [DM.part]
  have hpu : (D.part w n).uns = D.uns := rfl
  have hs1 : (w.2.extract 0 n).size = n := by rw [ByteArray.size_extract, hw2]; omega
  have hs2 : ((D.firm.getD w.1 ⟨#[]⟩).extract n 256).size = 256 - n := by rw [ByteArray.size_extract, hqs]; omega
  have hpp : (D.part w n).fuse = D.fuse ∧ (D.part w n).dead = D.dead := ⟨rfl, rfl⟩
  obtain ⟨hpp1, hpp2⟩ := hpp
  generalize D.part w n = D2 at *
  generalize D.firm.getD w.1 ⟨#[]⟩ = Q at *
  refine ac_of_aw Try.func28 rfl Try.ntmps28 Try.results28 (by simp) ?_
  refine aw_seq ?_
  (refine aw_ops (by kernel_rfl) (fun K hK => ?_); simp (disch := first | omega | (simp only [List.length_set, List.length_append, List.length_cons, List.length_nil, iv_length, zl_length]; try omega; done)) [-getElem?_pos, -getElem?_neg, hp, ha, hb, hcA, hcB]; refine hK _ _ ?_; clear hK K)
  (refine aw_plan [] [] [0, 1, 2, 3, 4, 5, 6, 7, 8, 9, 10, 11, 12, 13, 14, 15, 16, 17, 18, 19, 20, 21, 22, 23, 24] 25 1 (by kernel_rfl) (by kernel_rfl) (by kernel_rfl) (fun K hK => ?_)); simp only [sel, List.getElem?_cons_succ, List.getElem?_cons_zero, List.drop_succ_cons, List.drop_zero]; simp (disch := first | omega | (simp only [List.length_set, List.length_append, List.length_cons, List.length_nil, iv_length, zl_length]; try omega; done)) [-getElem?_pos, -getElem?_neg, hp, ha, hb, hf, hcA, hcB, hcF, hw2, hqs, hs1, hs2, hse, PL_nil, PL_cons, PLc_val, PLc_new, stepP_t, stepP_f, stepPC_n, stepPC_s, stepPX_s, stepPX_n, stepPA_t, stepPA_c, stepPA_l, stepPN_s, allocOp, reloc_sl, reloc_ptr, List.map_cons, List.map_nil, List.nil_append, List.append_assoc, List.cons_append, Nat.add_assoc]
  refine hK _ _ ?_; clear hK K
  refine ⟨_, _, rfl, rfl, ⟨hpo, f, .slice (some ⟨a, 0, none⟩) D.uns.length D.uns.length, .slice (some ⟨b, 0, none⟩) D.uns.length D.uns.length, FA, FB, rfl, ⟨?_, ?_, ?_, ?_, hqf, h.fa, h.fb, h.ab⟩⟩, fr_set (by simp)⟩
  · rw [hget_set_ne (fun e => hqf e.symm), hpl2, hpp1, hpp2]; exact hp
  · rw [hget_set_eq hfl]
  · rw [hpu]; exact h.hA.low (fun j hj => hget_set_ne (fun e => h.fa.2 (e ▸ hj)))
  · rw [hpu]; exact h.hB.low (fun j hj => hget_set_ne (fun e => h.fb.2 (e ▸ hj)))
/-- Reading: the last write there, or what is settled. -/
theorem late_get {firm : List ByteArray} {uns : List (Nat × ByteArray)} (k : Nat) : ∀ i, i ≤ uns.length → (∀ j w, i ≤ j → uns[j]? = some w → w.1 ≠ k) → (lateOf firm uns)[k]? = (lateOf firm (uns.take i))[k]? := by
  intro i hi hno
  obtain ⟨d, hd⟩ : ∃ d, d + i = uns.length := ⟨uns.length - i, by omega⟩
  induction d generalizing i with
  | zero => rw [show i = uns.length by omega, List.take_length]
  | succ d ih =>
    obtain ⟨w, hw⟩ : ∃ w, uns[i]? = some w := ⟨_, List.getElem?_eq_getElem (by omega)⟩
    rw [ih (i + 1) (by omega) (fun j w' hj => hno j w' (by omega)) (by omega), late_take hw, List.getElem?_set_ne (hno i w (Nat.le_refl _) hw)]
theorem rread_ac (h : Rk H q F D) (hfew : D.uns.length ≤ 1000) {k : Nat} (hk : k < D.firm.length) :
    AC Try.prog nro γ 24 #[.pointer (some ⟨q, 0, none⟩), .int .i64 (k : Nat)] H (fun v' H' => v' = .string (readV D.late (k : Nat)) ∧ H' = H) := by
  obtain ⟨ho, f, A, B, FA, FB, rfl, h⟩ := h
  have hp := h.hq
  have hf := h.hf
  have hxl := h.hA.len (P := Try.prog) (t := 42) (n := D.uns.length) (by simp) (by simp) (by omega)
  have hll : D.late.length = D.firm.length := late_len _ _
  have hrv : ∀ r, D.late[k]? = some r → readV D.late (k : Nat) = r := fun r hr => by
    have : hasB D.late.length (k : Nat) = true := by simp [hasB]; omega
    simp [readV, this, hr]
  refine ac_of_aw Try.func24 rfl Try.ntmps24 Try.results24 (by simp) ?_
  refine aw_seq ?_
  (refine aw_ops (by kernel_rfl) (fun K hK => ?_); simp (disch := first | omega | (simp only [List.length_set, List.length_append, List.length_cons, List.length_nil, iv_length, zl_length]; try omega; done)) [-getElem?_pos, -getElem?_neg]; refine hK _ _ ?_; clear hK K)
  refine aw_seq ?_
  refine aw_seq ?_
  (refine aw_ops (by kernel_rfl) (fun K hK => ?_); simp (disch := first | omega | (simp only [List.length_set, List.length_append, List.length_cons, List.length_nil, iv_length, zl_length]; try omega; done)) [-getElem?_pos, -getElem?_neg, hp, -xlen, hxl]; refine hK _ _ ?_; clear hK K)
  refine aw_block ?_
  refine aw_loop (fun c α G => c ≤ D.uns.length ∧ α 5 = .int .i64 ((c : Nat) - 1 : Int) ∧ α 0 = .pointer (some ⟨q, 0, none⟩) ∧ α 1 = .int .i64 (k : Nat) ∧ G = H ∧ (∀ j w, c ≤ j → D.uns[j]? = some w → w.1 ≠ k)) D.uns.length ?_ ?_
  · exact ⟨Nat.le_refl _, by (first | (simp [put_at, put_none, fr0_at]; done) | rfl), by (first | (simp [put_at, put_none, fr0_at]; done) | rfl), by (first | (simp [put_at, put_none, fr0_at]; done) | rfl), rfl, fun j w hj hw => by rw [List.getElem?_eq_none hj] at hw; cases hw⟩
  rintro c α G ⟨hc, h5, h0, h1, rfl, hno⟩
  refine aw_seq ?_
  refine aw_seq ?_
  by_cases hz : c = 0
  · subst hz
    (refine aw_ops (by kernel_rfl) (fun K hK => ?_); simp (disch := first | omega | (simp only [List.length_set, List.length_append, List.length_cons, List.length_nil, iv_length, zl_length]; try omega; done)) [-getElem?_pos, -getElem?_neg, h5]; refine hK _ _ ?_; clear hK K)
    refine aw_f (by (first | (simp [eval_tmp, put_at]; done) | (simp [eval_tmp, put_at]; omega))) (by kernel_rfl) ?_
    refine aw_exit ?_
    have e : D.late[k]? = D.firm[k]? := late_get k 0 (by omega) (fun j w _ => hno j w (by omega))
    obtain ⟨r, hr⟩ : ∃ r, D.firm[k]? = some r := ⟨_, List.getElem?_eq_getElem hk⟩
    have hcF : (D.firm.map Value.string)[k]? = some (.string r) := by rw [List.getElem?_map, hr]; rfl
    refine aw_seq ?_
    (refine aw_ops (by kernel_rfl) (fun K hK => ?_); simp (disch := first | omega | (simp only [List.length_set, List.length_append, List.length_cons, List.length_nil, iv_length, zl_length]; try omega; done)) [-getElem?_pos, -getElem?_neg, h0, h1, hp, hf, hcF]; refine hK _ _ ?_; clear hK K)
    (refine aw_ret ?_; simp (disch := first | omega | (simp only [List.length_set, List.length_append, List.length_cons, List.length_nil, iv_length, zl_length]; try omega; done)) [-getElem?_pos, -getElem?_neg, thenQ_ret, inBlockQ_ret, RQ, resL, resV])
    rw [hrv r (e.trans hr)]
  · obtain ⟨c', rfl⟩ : ∃ c', c = c' + 1 := ⟨c - 1, by omega⟩
    have hcc : ((c' + 1 : Nat) : Int) - 1 = (c' : Nat) := by omega
    rw [hcc] at h5
    obtain ⟨w, hw⟩ : ∃ w, D.uns[c']? = some w := ⟨_, List.getElem?_eq_getElem (by omega)⟩
    have hwm := ho.uns w (List.mem_of_getElem? hw)
    obtain ⟨a, hA, ha, hFA⟩ := h.hA.slice (n := D.uns.length) (by intro e; have := congrArg List.length e; simp at this; rw [this] at hc; simp at hc) (by omega) (by simp)
    obtain ⟨b, hB, hb, hFB⟩ := h.hB.slice (n := D.uns.length) (by intro e; have := congrArg List.length e; simp at this; rw [this] at hc; simp at hc) (by omega) (by simp)
    subst hA hB
    have hcA : (D.uns.map fun w => Value.int .i64 (w.1 : Nat))[c']? = some (.int .i64 (w.1 : Nat)) := by rw [List.getElem?_map, hw]; rfl
    have hcB : (D.uns.map fun w => Value.string w.2)[c']? = some (.string w.2) := by rw [List.getElem?_map, hw]; rfl
    (refine aw_ops (by kernel_rfl) (fun K hK => ?_); simp (disch := first | omega | (simp only [List.length_set, List.length_append, List.length_cons, List.length_nil, iv_length, zl_length]; try omega; done)) [-getElem?_pos, -getElem?_neg, h5]; refine hK _ _ ?_; clear hK K)
    refine aw_t (by (first | (simp [eval_tmp, put_at]; done) | (simp [eval_tmp, put_at]; omega))) (by kernel_rfl) ?_
    refine aw_skip ?_
    refine aw_seq ?_
    refine aw_block ?_
    refine aw_seq ?_
    by_cases hwk : w.1 = k
    · (refine aw_ops (by kernel_rfl) (fun K hK => ?_); simp (disch := first | omega | (simp only [List.length_set, List.length_append, List.length_cons, List.length_nil, iv_length, zl_length]; try omega; done)) [-getElem?_pos, -getElem?_neg, h0, h1, h5, hp, ha, hcA, hwk]; refine hK _ _ ?_; clear hK K)
      refine aw_t (by (first | (simp [eval_tmp, put_at, hwk]; done) | (simp [eval_tmp, put_at, hwk]; omega))) (by kernel_rfl) ?_
      refine aw_seq ?_
      (refine aw_ops (by kernel_rfl) (fun K hK => ?_); simp (disch := first | omega | (simp only [List.length_set, List.length_append, List.length_cons, List.length_nil, iv_length, zl_length]; try omega; done)) [-getElem?_pos, -getElem?_neg, h0, h1, h5, hp, hb, hcB]; refine hK _ _ ?_; clear hK K)
      (refine aw_ret ?_; simp (disch := first | omega | (simp only [List.length_set, List.length_append, List.length_cons, List.length_nil, iv_length, zl_length]; try omega; done)) [-getElem?_pos, -getElem?_neg, thenQ_ret, inBlockQ_ret, RQ, resL, resV])
      refine (hrv w.2 ?_).symm
      unfold DM.late
      rw [late_get k (c' + 1) hc hno, late_take hw, hwk, List.getElem?_set_self (by rw [late_len]; exact hk)]
    · have hwk' : ¬ ((w.1 : Nat) : Int) = (k : Nat) := by omega
      (refine aw_ops (by kernel_rfl) (fun K hK => ?_); simp (disch := first | omega | (simp only [List.length_set, List.length_append, List.length_cons, List.length_nil, iv_length, zl_length]; try omega; done)) [-getElem?_pos, -getElem?_neg, h0, h1, h5, hp, ha, hcA, hwk, hwk']; refine hK _ _ ?_; clear hK K)
      refine aw_f (by (first | (simp [eval_tmp, put_at, hwk, hwk']; done) | (simp [eval_tmp, put_at, hwk, hwk']; omega))) (by kernel_rfl) ?_
      refine aw_skip ?_
      (refine aw_ops (by kernel_rfl) (fun K hK => ?_); simp (disch := first | omega | (simp only [List.length_set, List.length_append, List.length_cons, List.length_nil, iv_length, zl_length]; try omega; done)) [-getElem?_pos, -getElem?_neg, h5]; refine hK _ _ ?_; clear hK K)
      refine ⟨c', by omega, by omega, by (first | (simp [put_at, put_none, fr0_at]; done) | rfl), by (first | (simp [put_at, put_none, fr0_at, h0]; done) | rfl), by (first | (simp [put_at, put_none, fr0_at, h1]; done) | rfl), rfl, fun j w' hj hw' => ?_⟩
      rcases Nat.eq_or_lt_of_le hj with rfl | hj
      · rw [hw] at hw'; cases hw'; exact hwk
      · exact hno j w' hj hw'
end
end Go.Proofs.Ytadbgdhbamdiaaa
