/-
  cabalref11.SameOp: are two operations the same?
  cabalref15.Same: are two graphs the same?
  graph.Add.
  The vector that every right program answers: three nodes, put behind one another.
  GraphOrder: the law, walked.
  GraphHeads: the law, walked.
  The same operations in another order: what is ahead, and the heads.
  cabalref15.Add.
  GraphAdds: the law, walked.
-/
import Derived.Test.YtcbfbmdglhlbmaaMqF
import Derived.Test.YtcbfbmdglhlbmaaMqE
import Derived.Test.YtcbfbmdglhlbmaaMqD
import Derived.Test.YtcbfbmdglhlbmaaMqC
namespace Go.Proofs.Ytcbfbmdglhlbmaa
open Go Go.RowKit
set_option linter.unusedSimpArgs false
set_option linter.unusedVariables false
set_option maxRecDepth 100000
set_option maxHeartbeats 4000000
section
attribute [local simp] wb_bool wb_undef with_lit XL_nil XL_cons XLc_val XLc_call step1_eq stepW_t stepW_f stepC_n stepC_s stepX_s stepX_n stepN_s calleeX oneV xop_eq xopR_s xopR_n wantedA_eq wantedG_n wantedG_s plain1_int plain1_bool plain1_string bits_i64 bits_u64 bits_u32 bits_u16 bits_u8 xeqA xagg xcmp xarr allK_iv num_iv calleeOf xread xeff xbin xint xnil xun xstr xload xconv xpart xfield xfieldAddr xindexAddr xindex bnd asInt? xslice xlen xmin xmax xbuild xfill xappend xapp2 xappstr xappmk xcap xcopy xcells eval_tmp eval_const put_at put_none fr0_at cells_agg cells_int cells_bool cells_string cells_ptr cells_slice notTuple tab iv_all hget_app hget_app0 hget_cons0 hget_cons set_app set_app0 setR setR_one QL_nil QL_cons QLc_val stepQ_t stepQ_f stepQC_n stepQC_s stepQX_s SL_nil SL_cons SLc_val stepS_t stepS_f ltT ltF leT leF eqT eqF ltTn ltFn leTn leFn eqTn eqFn beqT beqF bneT bneF wi64 wu64 wu32 wu16 wu8 tmodP tdivP hgetL hgetNe hgetEq setL nums_def nums_len Nat.succ_le_of_lt List.getElem?_cons_zero List.getElem?_cons_succ Option.getD_some Int.toNat_add Int.toNat_mul agM okM agB agI agS agP agL agA okB okI okS okP okSl okA
theorem sameOp_rc {γ : Nat → Option Nat} {H : AH} {us ws : List Value} {o o' : OpD} {pv wv bv pv' wv' bv' : Value} (h : OpC H us o pv wv bv) (h' : OpC H ws o' pv' wv' bv') (hw : o.Wf) (hw' : o'.Wf) (hs : o.parents.length ≤ 1000000 ∧ o.who.length ≤ 1000000 ∧ o.boxes.length ≤ 1000000) : AC Try.prog H.length γ 43 #[.agg us.toArray, .agg ws.toArray] H (fun v' _ => v' = .bool (decide (o = o'))) := by
  have hul := h.len
  have hwl := h'.len
  obtain ⟨m1, m2, m3⟩ := hs
  have hps := hw'.plen
  have hws := hw'.wlen
  have hbs := hw'.blen
  have hm63 : o'.parents.length ≤ 9223372036854775807 ∧ o'.who.length ≤ 9223372036854775807 ∧ o'.boxes.length ≤ 9223372036854775807 := by simp only [maxLen] at hps hws hbs; omega
  obtain ⟨m1', m2', m3'⟩ := hm63
  refine ac_of_aw Try.func43 rfl Try.ntmps43 Try.results43 (by simp) ?_
  refine aw_seq ?_
  (refine aw_ops (by kernel_rfl) (fun K hK => ?_); simp (disch := first | omega | (simp only [lnS]; try omega; done)) [-getElem?_pos, -getElem?_neg, hul, hwl, nt_aggG]; refine hK _ _ ?_; clear hK K)
  obtain ⟨G, hGe⟩ : ∃ G : AH, G = H ++ [some ⟨us, 37, none⟩, some ⟨ws, 37, none⟩] := ⟨_, rfl⟩
  have b2 : hget G H.length = some ⟨us, 37, none⟩ := by rw [hGe, hget_app0]; rfl
  have b3 : hget G (H.length + 1) = some ⟨ws, 37, none⟩ := by rw [hGe, hget_app]; rfl
  have lw : Low H.length H G := hGe ▸ Low.push (Nat.le_refl _) _
  rw [← hGe]
  clear hGe
  obtain ⟨n, hn⟩ : ∃ n, n = H.length := ⟨_, rfl⟩
  rw [← hn] at b2 b3 lw ⊢
  have hO : OpC G us o pv wv bv := h.low (fun j hj => lw.1 j (by omega))
  have hO' : OpC G ws o' pv' wv' bv' := h'.low (fun j hj => lw.1 j (by omega))
  have pa := hO.parents.acc (fun k hk => (hw.parents k hk).1)
  have wa := hO.who.acc
  have bn := val_nt hO.boxes
  have bl := val_len (P := Try.prog) (t := 35) (e := 60) hO.boxes (by kernel_rfl)
  rw [List.length_map] at bl
  have p1 := pa.nt
  have p2 := pa.cs
  have p3 := pa.len
  have w1 := wa.nt
  have w2 := wa.cs
  have w3 := wa.len
  obtain ⟨n1, n2⟩ := bn
  have c0 := hO.c0
  have c1 := hO.c1
  have c2 := hO.c2
  have c3 := hO.c3
  have c4 := hO.c4
  have cf := hO.of
  have cc := hO.check
  have c69 := hO.c69
  have c70 := hO.c70
  have lf : (iv .u8 o.of).length = 32 := by rw [iv_length, hw.of.1]
  have lc : (iv .u8 o.check).length = 32 := by rw [iv_length, hw.check.1]
  have pa' := hO'.parents.acc (fun k hk => (hw'.parents k hk).1)
  have wa' := hO'.who.acc
  have bn' := val_nt hO'.boxes
  have bl' := val_len (P := Try.prog) (t := 35) (e := 60) hO'.boxes (by kernel_rfl)
  rw [List.length_map] at bl'
  have p1' := pa'.nt
  have p2' := pa'.cs
  have p3' := pa'.len
  have w1' := wa'.nt
  have w2' := wa'.cs
  have w3' := wa'.len
  obtain ⟨n1', n2'⟩ := bn'
  have c0' := hO'.c0
  have c1' := hO'.c1
  have c2' := hO'.c2
  have c3' := hO'.c3
  have c4' := hO'.c4
  have cf' := hO'.of
  have cc' := hO'.check
  have c69' := hO'.c69
  have c70' := hO'.c70
  have lf' : (iv .u8 o'.of).length = 32 := by rw [iv_length, hw'.of.1]
  have lc' : (iv .u8 o'.check).length = 32 := by rw [iv_length, hw'.check.1]
  have x2 : xload Try.prog 30 (.pointer (some ⟨n, 2, none⟩)) G = some pv := by simp [xload, b2, c2]
  have x4 : xload Try.prog 34 (.pointer (some ⟨n, 4, none⟩)) G = some wv := by simp [xload, b2, c4]
  have x70 : xload Try.prog 35 (.pointer (some ⟨n, 70, none⟩)) G = some bv := by simp [xload, b2, c70]
  have x2' : xload Try.prog 30 (.pointer (some ⟨n + 1, 2, none⟩)) G = some pv' := by simp [xload, b3, c2']
  have x4' : xload Try.prog 34 (.pointer (some ⟨n + 1, 4, none⟩)) G = some wv' := by simp [xload, b3, c4']
  have x70' : xload Try.prog 35 (.pointer (some ⟨n + 1, 70, none⟩)) G = some bv' := by simp [xload, b3, c70']
  refine aw_seq ?_
  refine aw_seq ?_
  refine aw_cut (fun α G2 => α 2 = .pointer (some ⟨n, 0, none⟩) ∧ α 3 = .pointer (some ⟨n + 1, 0, none⟩) ∧ G2 = G ∧ ∃ b, α 74 = .bool b ∧ (b = true → ¬ o = o') ∧ (b = false → o.author = o'.author ∧ o.seq = o'.seq ∧ o.kind = o'.kind ∧ o.of = o'.of ∧ o.check = o'.check ∧ o.text = o'.text ∧ o.parents.length = o'.parents.length ∧ o.who.length = o'.who.length ∧ o.boxes.length = o'.boxes.length)) ?_ ?_
  · by_cases e0 : o.author = o'.author
    case neg =>
      have q0 : (o.author == o'.author) = false := by rw [beq_eq_false_iff_ne]; exact e0
      (refine aw_ops (by kernel_rfl) (fun K hK => ?_); simp (disch := first | omega | (simp only [lnS]; try omega; done)) [-getElem?_pos, -getElem?_neg, b2, b3, hul, hwl, c0, c0', c1, c1', c2, c2', c3, c3', c4, c4', cf, cf', cc, cc', c69, c69', c70, c70', lf, lf', lc, lc', -notTuple, p1, p1', p2, p2', w1, w1', w2, w2', n1, n1', n2, n2', nt_intG, nt_ptrG, nt_strG, nt_aggG, -xlen, p3, p3', w3, w3', bl, bl', e0, q0]; refine hK _ _ ?_; clear hK K)
      exact ⟨by (first | (simp [put_at, put_none, fr0_at]; done) | rfl), by (first | (simp [put_at, put_none, fr0_at]; done) | rfl), rfl, true, by (first | (simp [put_at, put_none, fr0_at]; done) | rfl), fun _ => fun hh => e0 (by rw [hh]), fun hh => (by cases hh)⟩
    have q0 : (o.author == o'.author) = true := by rw [beq_iff_eq]; exact e0
    by_cases e1 : o.seq = o'.seq
    case neg =>
      have q1 : (o.seq == o'.seq) = false := by rw [beq_eq_false_iff_ne]; exact e1
      (refine aw_ops (by kernel_rfl) (fun K hK => ?_); simp (disch := first | omega | (simp only [lnS]; try omega; done)) [-getElem?_pos, -getElem?_neg, b2, b3, hul, hwl, c0, c0', c1, c1', c2, c2', c3, c3', c4, c4', cf, cf', cc, cc', c69, c69', c70, c70', lf, lf', lc, lc', -notTuple, p1, p1', p2, p2', w1, w1', w2, w2', n1, n1', n2, n2', nt_intG, nt_ptrG, nt_strG, nt_aggG, -xlen, p3, p3', w3, w3', bl, bl', e0, q0, e1, q1]; refine hK _ _ ?_; clear hK K)
      exact ⟨by (first | (simp [put_at, put_none, fr0_at]; done) | rfl), by (first | (simp [put_at, put_none, fr0_at]; done) | rfl), rfl, true, by (first | (simp [put_at, put_none, fr0_at]; done) | rfl), fun _ => fun hh => e1 (by rw [hh]), fun hh => (by cases hh)⟩
    have q1 : (o.seq == o'.seq) = true := by rw [beq_iff_eq]; exact e1
    by_cases e2 : o.kind = o'.kind
    case neg =>
      have q2 : (o.kind == o'.kind) = false := by rw [beq_eq_false_iff_ne]; exact e2
      (refine aw_ops (by kernel_rfl) (fun K hK => ?_); simp (disch := first | omega | (simp only [lnS]; try omega; done)) [-getElem?_pos, -getElem?_neg, b2, b3, hul, hwl, c0, c0', c1, c1', c2, c2', c3, c3', c4, c4', cf, cf', cc, cc', c69, c69', c70, c70', lf, lf', lc, lc', -notTuple, p1, p1', p2, p2', w1, w1', w2, w2', n1, n1', n2, n2', nt_intG, nt_ptrG, nt_strG, nt_aggG, -xlen, p3, p3', w3, w3', bl, bl', e0, q0, e1, q1, e2, q2]; refine hK _ _ ?_; clear hK K)
      exact ⟨by (first | (simp [put_at, put_none, fr0_at]; done) | rfl), by (first | (simp [put_at, put_none, fr0_at]; done) | rfl), rfl, true, by (first | (simp [put_at, put_none, fr0_at]; done) | rfl), fun _ => fun hh => e2 (by rw [hh]), fun hh => (by cases hh)⟩
    have q2 : (o.kind == o'.kind) = true := by rw [beq_iff_eq]; exact e2
    by_cases e3 : o.of = o'.of
    case neg =>
      have q3 : (o.of == o'.of) = false := by rw [beq_eq_false_iff_ne]; exact e3
      (refine aw_ops (by kernel_rfl) (fun K hK => ?_); simp (disch := first | omega | (simp only [lnS]; try omega; done)) [-getElem?_pos, -getElem?_neg, b2, b3, hul, hwl, c0, c0', c1, c1', c2, c2', c3, c3', c4, c4', cf, cf', cc, cc', c69, c69', c70, c70', lf, lf', lc, lc', -notTuple, p1, p1', p2, p2', w1, w1', w2, w2', n1, n1', n2, n2', nt_intG, nt_ptrG, nt_strG, nt_aggG, -xlen, p3, p3', w3, w3', bl, bl', e0, q0, e1, q1, e2, q2, e3, q3]; refine hK _ _ ?_; clear hK K)
      exact ⟨by (first | (simp [put_at, put_none, fr0_at]; done) | rfl), by (first | (simp [put_at, put_none, fr0_at]; done) | rfl), rfl, true, by (first | (simp [put_at, put_none, fr0_at]; done) | rfl), fun _ => fun hh => e3 (by rw [hh]), fun hh => (by cases hh)⟩
    have q3 : (o.of == o'.of) = true := by rw [beq_iff_eq]; exact e3
    by_cases e4 : o.check = o'.check
    case neg =>
      have q4 : (o.check == o'.check) = false := by rw [beq_eq_false_iff_ne]; exact e4
      (refine aw_ops (by kernel_rfl) (fun K hK => ?_); simp (disch := first | omega | (simp only [lnS]; try omega; done)) [-getElem?_pos, -getElem?_neg, b2, b3, hul, hwl, c0, c0', c1, c1', c2, c2', c3, c3', c4, c4', cf, cf', cc, cc', c69, c69', c70, c70', lf, lf', lc, lc', -notTuple, p1, p1', p2, p2', w1, w1', w2, w2', n1, n1', n2, n2', nt_intG, nt_ptrG, nt_strG, nt_aggG, -xlen, p3, p3', w3, w3', bl, bl', e0, q0, e1, q1, e2, q2, e3, q3, e4, q4]; refine hK _ _ ?_; clear hK K)
      exact ⟨by (first | (simp [put_at, put_none, fr0_at]; done) | rfl), by (first | (simp [put_at, put_none, fr0_at]; done) | rfl), rfl, true, by (first | (simp [put_at, put_none, fr0_at]; done) | rfl), fun _ => fun hh => e4 (by rw [hh]), fun hh => (by cases hh)⟩
    have q4 : (o.check == o'.check) = true := by rw [beq_iff_eq]; exact e4
    by_cases e5 : o.text = o'.text
    case neg =>
      have q5 : (o.text.toList == o'.text.toList) = false := by rw [beq_eq_false_iff_ne]; exact fun hh => e5 ((tl_eq _ _).1 hh)
      (refine aw_ops (by kernel_rfl) (fun K hK => ?_); simp (disch := first | omega | (simp only [lnS]; try omega; done)) [-getElem?_pos, -getElem?_neg, b2, b3, hul, hwl, c0, c0', c1, c1', c2, c2', c3, c3', c4, c4', cf, cf', cc, cc', c69, c69', c70, c70', lf, lf', lc, lc', -notTuple, p1, p1', p2, p2', w1, w1', w2, w2', n1, n1', n2, n2', nt_intG, nt_ptrG, nt_strG, nt_aggG, -xlen, p3, p3', w3, w3', bl, bl', e0, q0, e1, q1, e2, q2, e3, q3, e4, q4, q5]; refine hK _ _ ?_; clear hK K)
      exact ⟨by (first | (simp [put_at, put_none, fr0_at]; done) | rfl), by (first | (simp [put_at, put_none, fr0_at]; done) | rfl), rfl, true, by (first | (simp [put_at, put_none, fr0_at]; done) | rfl), fun _ => fun hh => e5 (by rw [hh]), fun hh => (by cases hh)⟩
    have q5 : (o.text.toList == o'.text.toList) = true := by rw [beq_iff_eq]; exact (tl_eq _ _).2 e5
    by_cases e6 : (o.parents.length : Int) = (o'.parents.length : Int)
    case neg =>
      have q6 : ((o.parents.length : Int) == (o'.parents.length : Int)) = false := by rw [beq_eq_false_iff_ne]; exact e6
      (refine aw_ops (by kernel_rfl) (fun K hK => ?_); simp (disch := first | omega | (simp only [lnS]; try omega; done)) [-getElem?_pos, -getElem?_neg, b2, b3, hul, hwl, c0, c0', c1, c1', c2, c2', c3, c3', c4, c4', cf, cf', cc, cc', c69, c69', c70, c70', lf, lf', lc, lc', -notTuple, p1, p1', p2, p2', w1, w1', w2, w2', n1, n1', n2, n2', nt_intG, nt_ptrG, nt_strG, nt_aggG, -xlen, p3, p3', w3, w3', bl, bl', e0, q0, e1, q1, e2, q2, e3, q3, e4, q4, q5, e6, q6]; refine hK _ _ ?_; clear hK K)
      exact ⟨by (first | (simp [put_at, put_none, fr0_at]; done) | rfl), by (first | (simp [put_at, put_none, fr0_at]; done) | rfl), rfl, true, by (first | (simp [put_at, put_none, fr0_at]; done) | rfl), fun _ => fun hh => e6 (by rw [hh]), fun hh => (by cases hh)⟩
    have q6 : ((o.parents.length : Int) == (o'.parents.length : Int)) = true := by rw [beq_iff_eq]; exact e6
    by_cases e7 : (o.who.length : Int) = (o'.who.length : Int)
    case neg =>
      have q7 : ((o.who.length : Int) == (o'.who.length : Int)) = false := by rw [beq_eq_false_iff_ne]; exact e7
      (refine aw_ops (by kernel_rfl) (fun K hK => ?_); simp (disch := first | omega | (simp only [lnS]; try omega; done)) [-getElem?_pos, -getElem?_neg, b2, b3, hul, hwl, c0, c0', c1, c1', c2, c2', c3, c3', c4, c4', cf, cf', cc, cc', c69, c69', c70, c70', lf, lf', lc, lc', -notTuple, p1, p1', p2, p2', w1, w1', w2, w2', n1, n1', n2, n2', nt_intG, nt_ptrG, nt_strG, nt_aggG, -xlen, p3, p3', w3, w3', bl, bl', e0, q0, e1, q1, e2, q2, e3, q3, e4, q4, q5, e6, q6, e7, q7]; refine hK _ _ ?_; clear hK K)
      exact ⟨by (first | (simp [put_at, put_none, fr0_at]; done) | rfl), by (first | (simp [put_at, put_none, fr0_at]; done) | rfl), rfl, true, by (first | (simp [put_at, put_none, fr0_at]; done) | rfl), fun _ => fun hh => e7 (by rw [hh]), fun hh => (by cases hh)⟩
    have q7 : ((o.who.length : Int) == (o'.who.length : Int)) = true := by rw [beq_iff_eq]; exact e7
    by_cases e8 : (o.boxes.length : Int) = (o'.boxes.length : Int)
    case neg =>
      have q8 : ((o.boxes.length : Int) == (o'.boxes.length : Int)) = false := by rw [beq_eq_false_iff_ne]; exact e8
      (refine aw_ops (by kernel_rfl) (fun K hK => ?_); simp (disch := first | omega | (simp only [lnS]; try omega; done)) [-getElem?_pos, -getElem?_neg, b2, b3, hul, hwl, c0, c0', c1, c1', c2, c2', c3, c3', c4, c4', cf, cf', cc, cc', c69, c69', c70, c70', lf, lf', lc, lc', -notTuple, p1, p1', p2, p2', w1, w1', w2, w2', n1, n1', n2, n2', nt_intG, nt_ptrG, nt_strG, nt_aggG, -xlen, p3, p3', w3, w3', bl, bl', e0, q0, e1, q1, e2, q2, e3, q3, e4, q4, q5, e6, q6, e7, q7, e8, q8]; refine hK _ _ ?_; clear hK K)
      exact ⟨by (first | (simp [put_at, put_none, fr0_at]; done) | rfl), by (first | (simp [put_at, put_none, fr0_at]; done) | rfl), rfl, true, by (first | (simp [put_at, put_none, fr0_at]; done) | rfl), fun _ => fun hh => e8 (by rw [hh]), fun hh => (by cases hh)⟩
    have q8 : ((o.boxes.length : Int) == (o'.boxes.length : Int)) = true := by rw [beq_iff_eq]; exact e8
    (refine aw_ops (by kernel_rfl) (fun K hK => ?_); simp (disch := first | omega | (simp only [lnS]; try omega; done)) [-getElem?_pos, -getElem?_neg, b2, b3, hul, hwl, c0, c0', c1, c1', c2, c2', c3, c3', c4, c4', cf, cf', cc, cc', c69, c69', c70, c70', lf, lf', lc, lc', -notTuple, p1, p1', p2, p2', w1, w1', w2, w2', n1, n1', n2, n2', nt_intG, nt_ptrG, nt_strG, nt_aggG, -xlen, p3, p3', w3, w3', bl, bl', e0, q0, e1, q1, e2, q2, e3, q3, e4, q4, q5, e6, q6, e7, q7, e8, q8]; refine hK _ _ ?_; clear hK K)
    exact ⟨by (first | (simp [put_at, put_none, fr0_at]; done) | rfl), by (first | (simp [put_at, put_none, fr0_at]; done) | rfl), rfl, false, by (first | (simp [put_at, put_none, fr0_at]; done) | rfl), fun hh => (by cases hh), fun _ => ⟨e0, e1, e2, e3, e4, e5, by omega, by omega, by omega⟩⟩
  rintro α G2 ⟨q2, q3, rfl, b, q74, hb1, hb2⟩
  cases b with
  | true =>
    have hne := hb1 rfl
    refine aw_t (by (first | (simp [eval_tmp, put_at, q74]; done) | (simp [eval_tmp, put_at, q74]; omega))) (by kernel_rfl) ?_
    refine aw_seq ?_
    (refine aw_ops (by kernel_rfl) (fun K hK => ?_); simp (disch := first | omega | (simp only [lnS]; try omega; done)) [-getElem?_pos, -getElem?_neg]; refine hK _ _ ?_; clear hK K)
    (refine aw_ret ?_; simp (disch := first | omega | (simp only [lnS]; try omega; done)) [-getElem?_pos, -getElem?_neg, thenQ_ret, scopeQ_ret, inBlockQ_ret, RQ, resL, resV])
    all_goals exact hne
  | false =>
  obtain ⟨e0, e1, e2, e3, e4, e5, e6, e7, e8⟩ := hb2 rfl
  refine aw_f (by (first | (simp [eval_tmp, put_at, q74]; done) | (simp [eval_tmp, put_at, q74]; omega))) (by kernel_rfl) ?_
  refine aw_skip ?_
  clear q74 hb1 hb2
  refine aw_seq ?_
  refine aw_seq ?_
  (refine aw_ops (by kernel_rfl) (fun K hK => ?_); simp (disch := first | omega | (simp only [lnS]; try omega; done)) [-getElem?_pos, -getElem?_neg]; refine hK _ _ ?_; clear hK K)
  refine aw_block ?_
  refine aw_loop (fun c α G => ∃ i : Nat, i + c = o.parents.length ∧ α 2 = .pointer (some ⟨n, 0, none⟩) ∧ α 3 = .pointer (some ⟨n + 1, 0, none⟩) ∧ α 5 = .int .i64 (i : Nat) ∧ G = G2 ∧ ∀ k, k < i → o.parents.getD k [] = o'.parents.getD k []) o.parents.length ?_ ?_
  · exact ⟨0, by omega, by (first | (simp [put_at, put_none, fr0_at, q2]; done) | rfl), by (first | (simp [put_at, put_none, fr0_at, q3]; done) | rfl), by (first | (simp [put_at, put_none, fr0_at]; done) | rfl), rfl, fun k hk => by omega⟩
  clear q2 q3
  rintro c α G ⟨i, hic, q2, q3, q5, rfl, hpre⟩
  refine aw_seq ?_
  refine aw_seq ?_
  by_cases hi : i < o.parents.length
  case pos =>
    obtain ⟨z1, y1, s1, s2, s3, s4, s5⟩ := pa.at_ i hi
    obtain ⟨z2, y2, t1, t2, t3, t4, t5⟩ := pa'.at_ i (by omega)
    subst s4 t4
    have s5 := s5 G (Low.refl (Nat.le_refl _))
    have t5 := t5 G (Low.refl (Nat.le_refl _))
    have k1 : (iv .u8 (o.parents.getD i [])).length = 32 := by rw [iv_length]; exact key_getD (fun k hk => (hw.parents k hk).1) hi
    have k2 : (iv .u8 (o'.parents.getD i [])).length = 32 := by rw [iv_length]; exact key_getD (fun k hk => (hw'.parents k hk).1) (by omega)
    (refine aw_ops (by kernel_rfl) (fun K hK => ?_); simp (disch := first | omega | (simp only [lnS]; try omega; done)) [-getElem?_pos, -getElem?_neg, q2, q3, q5, b2, b3, hul, hwl, c2, c2', -notTuple, p1, p1', p2, p2', nt_intG, nt_ptrG, -xlen, p3, p3', hi]; refine hK _ _ ?_; clear hK K)
    refine aw_t (by (first | (simp [eval_tmp, put_at, hi]; done) | (simp [eval_tmp, put_at, hi]; omega))) (by kernel_rfl) ?_
    refine aw_skip ?_
    refine aw_seq ?_
    refine aw_block ?_
    refine aw_seq ?_
    generalize hA : o.parents.getD i [] = A at *
    generalize hB : o'.parents.getD i [] = B at *
    by_cases hAB : A = B
    · have hq : (A == B) = true := by rw [beq_iff_eq]; exact hAB
      (refine aw_plan [] [] [0, 1, 2, 3, 4, 5, 6, 7, 8, 9, 10] 11 0 (by kernel_rfl) (by kernel_rfl) (by kernel_rfl) (fun K hK => ?_)); simp only [sel, List.getElem?_cons_succ, List.getElem?_cons_zero, List.drop_succ_cons, List.drop_zero]; simp (disch := first | omega | (simp only [lnS]; try omega; done)) [-getElem?_pos, -getElem?_neg, q2, q3, q5, -notTuple, p1, p1', p2, p2', s1, t1, s3, t3, nt_intG, nt_ptrG, nt_aggG, -xindexAddr, s2, t2, -xload, x2, x2', s5, t5, k1, k2, hq, hAB, PL_nil, plainB_lit, PL_cons, PLc_val, PLc_new, stepP_t, stepP_f, stepPC_n, stepPC_s, stepPX_s, stepPX_n, stepPV_n, stepPV_s, stepPA_t, stepPA_c, stepPA_l, stepPN_s, allocOp, reloc_sl, reloc_ptr, List.map_cons, List.map_nil, List.nil_append, List.append_assoc, List.cons_append, Nat.add_assoc]
      refine hK _ _ ?_; clear hK K
      refine aw_f (by (first | (simp [eval_tmp, put_at]; done) | (simp [eval_tmp, put_at]; omega))) (by kernel_rfl) ?_
      refine aw_skip ?_
      (refine aw_ops (by kernel_rfl) (fun K hK => ?_); simp (disch := first | omega | (simp only [lnS]; try omega; done)) [-getElem?_pos, -getElem?_neg, q5]; refine hK _ _ ?_; clear hK K)
      refine ⟨c - 1, by omega, i + 1, by omega, by (first | (simp [put_at, put_none, fr0_at, q2]; done) | rfl), by (first | (simp [put_at, put_none, fr0_at, q3]; done) | rfl), by (first | (simp [put_at, put_none, fr0_at]; done) | rfl), rfl, fun k hk => ?_⟩
      by_cases e : k = i
      · subst e; rw [hA, hB, hAB]
      · exact hpre k (by omega)
    · have hq : (A == B) = false := by rw [beq_eq_false_iff_ne]; exact hAB
      (refine aw_plan [] [] [0, 1, 2, 3, 4, 5, 6, 7, 8, 9, 10] 11 0 (by kernel_rfl) (by kernel_rfl) (by kernel_rfl) (fun K hK => ?_)); simp only [sel, List.getElem?_cons_succ, List.getElem?_cons_zero, List.drop_succ_cons, List.drop_zero]; simp (disch := first | omega | (simp only [lnS]; try omega; done)) [-getElem?_pos, -getElem?_neg, q2, q3, q5, -notTuple, p1, p1', p2, p2', s1, t1, s3, t3, nt_intG, nt_ptrG, nt_aggG, -xindexAddr, s2, t2, -xload, x2, x2', s5, t5, k1, k2, hq, hAB, PL_nil, plainB_lit, PL_cons, PLc_val, PLc_new, stepP_t, stepP_f, stepPC_n, stepPC_s, stepPX_s, stepPX_n, stepPV_n, stepPV_s, stepPA_t, stepPA_c, stepPA_l, stepPN_s, allocOp, reloc_sl, reloc_ptr, List.map_cons, List.map_nil, List.nil_append, List.append_assoc, List.cons_append, Nat.add_assoc]
      refine hK _ _ ?_; clear hK K
      refine aw_t (by (first | (simp [eval_tmp, put_at]; done) | (simp [eval_tmp, put_at]; omega))) (by kernel_rfl) ?_
      refine aw_seq ?_
      (refine aw_ops (by kernel_rfl) (fun K hK => ?_); simp (disch := first | omega | (simp only [lnS]; try omega; done)) [-getElem?_pos, -getElem?_neg]; refine hK _ _ ?_; clear hK K)
      (refine aw_ret ?_; simp (disch := first | omega | (simp only [lnS]; try omega; done)) [-getElem?_pos, -getElem?_neg, thenQ_ret, scopeQ_ret, inBlockQ_ret, RQ, resL, resV])
      all_goals exact fun hh => hAB (by rw [← hA, ← hB, hh])
  (refine aw_ops (by kernel_rfl) (fun K hK => ?_); simp (disch := first | omega | (simp only [lnS]; try omega; done)) [-getElem?_pos, -getElem?_neg, q2, q3, q5, b2, b3, hul, hwl, c2, c2', -notTuple, p1, p1', p2, p2', nt_intG, nt_ptrG, -xlen, p3, p3', hi]; refine hK _ _ ?_; clear hK K)
  refine aw_f (by (first | (simp [eval_tmp, put_at, hi]; done) | (simp [eval_tmp, put_at, hi]; omega))) (by kernel_rfl) ?_
  refine aw_exit ?_
  have hP : o.parents = o'.parents := keys_getD_ext e6 (fun k hk => hpre k (by omega))
  -- who
  refine aw_seq ?_
  refine aw_seq ?_
  (refine aw_ops (by kernel_rfl) (fun K hK => ?_); simp (disch := first | omega | (simp only [lnS]; try omega; done)) [-getElem?_pos, -getElem?_neg]; refine hK _ _ ?_; clear hK K)
  refine aw_block ?_
  refine aw_loop (fun c α G2 => ∃ i : Nat, i + c = o.who.length ∧ α 2 = .pointer (some ⟨n, 0, none⟩) ∧ α 3 = .pointer (some ⟨n + 1, 0, none⟩) ∧ α 6 = .int .i64 (i : Nat) ∧ G2 = G ∧ ∀ k, k < i → o.who.getD k 0 = o'.who.getD k 0) o.who.length ?_ ?_
  · exact ⟨0, by omega, by (first | (simp [put_at, put_none, fr0_at, q2]; done) | rfl), by (first | (simp [put_at, put_none, fr0_at, q3]; done) | rfl), by (first | (simp [put_at, put_none, fr0_at]; done) | rfl), rfl, fun k hk => by omega⟩
  clear q2 q3 q5
  rintro c α G2 ⟨i, hic, q2, q3, q6, rfl, hpre⟩
  refine aw_seq ?_
  refine aw_seq ?_
  by_cases hi : i < o.who.length
  case pos =>
    obtain ⟨z1, y1, s1, s2, s3, s4, s5⟩ := wa.at_ i hi
    obtain ⟨z2, y2, t1, t2, t3, t4, t5⟩ := wa'.at_ i (by omega)
    subst s4 t4
    have s5 := s5 G2 (Low.refl (Nat.le_refl _))
    have t5 := t5 G2 (Low.refl (Nat.le_refl _))
    (refine aw_ops (by kernel_rfl) (fun K hK => ?_); simp (disch := first | omega | (simp only [lnS]; try omega; done)) [-getElem?_pos, -getElem?_neg, q2, q3, q6, b2, b3, hul, hwl, c4, c4', -notTuple, w1, w1', w2, w2', nt_intG, nt_ptrG, -xlen, w3, w3', hi]; refine hK _ _ ?_; clear hK K)
    refine aw_t (by (first | (simp [eval_tmp, put_at, hi]; done) | (simp [eval_tmp, put_at, hi]; omega))) (by kernel_rfl) ?_
    refine aw_skip ?_
    refine aw_seq ?_
    refine aw_block ?_
    refine aw_seq ?_
    generalize hA : o.who.getD i 0 = A at *
    generalize hB : o'.who.getD i 0 = B at *
    by_cases hAB : A = B
    · have hq : (A == B) = true := by rw [beq_iff_eq]; exact hAB
      (refine aw_plan [] [] [0, 1, 2, 3, 4, 5, 6, 7, 8, 9, 10] 11 0 (by kernel_rfl) (by kernel_rfl) (by kernel_rfl) (fun K hK => ?_)); simp only [sel, List.getElem?_cons_succ, List.getElem?_cons_zero, List.drop_succ_cons, List.drop_zero]; simp (disch := first | omega | (simp only [lnS]; try omega; done)) [-getElem?_pos, -getElem?_neg, q2, q3, q6, -notTuple, w1, w1', w2, w2', s1, t1, s3, t3, nt_intG, nt_ptrG, nt_aggG, -xindexAddr, s2, t2, -xload, x4, x4', s5, t5, hq, hAB, PL_nil, plainB_lit, PL_cons, PLc_val, PLc_new, stepP_t, stepP_f, stepPC_n, stepPC_s, stepPX_s, stepPX_n, stepPV_n, stepPV_s, stepPA_t, stepPA_c, stepPA_l, stepPN_s, allocOp, reloc_sl, reloc_ptr, List.map_cons, List.map_nil, List.nil_append, List.append_assoc, List.cons_append, Nat.add_assoc]
      refine hK _ _ ?_; clear hK K
      refine aw_f (by (first | (simp [eval_tmp, put_at, hAB]; done) | (simp [eval_tmp, put_at, hAB]; omega))) (by kernel_rfl) ?_
      refine aw_skip ?_
      (refine aw_ops (by kernel_rfl) (fun K hK => ?_); simp (disch := first | omega | (simp only [lnS]; try omega; done)) [-getElem?_pos, -getElem?_neg, q6]; refine hK _ _ ?_; clear hK K)
      refine ⟨c - 1, by omega, i + 1, by omega, by (first | (simp [put_at, put_none, fr0_at, q2]; done) | rfl), by (first | (simp [put_at, put_none, fr0_at, q3]; done) | rfl), by (first | (simp [put_at, put_none, fr0_at]; done) | rfl), rfl, fun k hk => ?_⟩
      by_cases e : k = i
      · subst e; rw [hA, hB, hAB]
      · exact hpre k (by omega)
    · have hq : (A == B) = false := by rw [beq_eq_false_iff_ne]; exact hAB
      (refine aw_plan [] [] [0, 1, 2, 3, 4, 5, 6, 7, 8, 9, 10] 11 0 (by kernel_rfl) (by kernel_rfl) (by kernel_rfl) (fun K hK => ?_)); simp only [sel, List.getElem?_cons_succ, List.getElem?_cons_zero, List.drop_succ_cons, List.drop_zero]; simp (disch := first | omega | (simp only [lnS]; try omega; done)) [-getElem?_pos, -getElem?_neg, q2, q3, q6, -notTuple, w1, w1', w2, w2', s1, t1, s3, t3, nt_intG, nt_ptrG, nt_aggG, -xindexAddr, s2, t2, -xload, x4, x4', s5, t5, hq, hAB, PL_nil, plainB_lit, PL_cons, PLc_val, PLc_new, stepP_t, stepP_f, stepPC_n, stepPC_s, stepPX_s, stepPX_n, stepPV_n, stepPV_s, stepPA_t, stepPA_c, stepPA_l, stepPN_s, allocOp, reloc_sl, reloc_ptr, List.map_cons, List.map_nil, List.nil_append, List.append_assoc, List.cons_append, Nat.add_assoc]
      refine hK _ _ ?_; clear hK K
      refine aw_t (by (first | (simp [eval_tmp, put_at, hAB]; done) | (simp [eval_tmp, put_at, hAB]; omega))) (by kernel_rfl) ?_
      refine aw_seq ?_
      (refine aw_ops (by kernel_rfl) (fun K hK => ?_); simp (disch := first | omega | (simp only [lnS]; try omega; done)) [-getElem?_pos, -getElem?_neg]; refine hK _ _ ?_; clear hK K)
      (refine aw_ret ?_; simp (disch := first | omega | (simp only [lnS]; try omega; done)) [-getElem?_pos, -getElem?_neg, thenQ_ret, scopeQ_ret, inBlockQ_ret, RQ, resL, resV])
      all_goals exact fun hh => hAB (by rw [← hA, ← hB, hh])
  (refine aw_ops (by kernel_rfl) (fun K hK => ?_); simp (disch := first | omega | (simp only [lnS]; try omega; done)) [-getElem?_pos, -getElem?_neg, q2, q3, q6, b2, b3, hul, hwl, c4, c4', -notTuple, w1, w1', w2, w2', nt_intG, nt_ptrG, -xlen, w3, w3', hi]; refine hK _ _ ?_; clear hK K)
  refine aw_f (by (first | (simp [eval_tmp, put_at, hi]; done) | (simp [eval_tmp, put_at, hi]; omega))) (by kernel_rfl) ?_
  refine aw_exit ?_
  have hW : o.who = o'.who := list_getD_ext e7 (fun k hk => hpre k (by omega))
  -- boxes
  refine aw_seq ?_
  refine aw_seq ?_
  (refine aw_ops (by kernel_rfl) (fun K hK => ?_); simp (disch := first | omega | (simp only [lnS]; try omega; done)) [-getElem?_pos, -getElem?_neg]; refine hK _ _ ?_; clear hK K)
  refine aw_block ?_
  refine aw_loop (fun c α G => ∃ i : Nat, i + c = o.boxes.length ∧ α 2 = .pointer (some ⟨n, 0, none⟩) ∧ α 3 = .pointer (some ⟨n + 1, 0, none⟩) ∧ α 7 = .int .i64 (i : Nat) ∧ G = G2 ∧ ∀ k, k < i → o.boxes[k]? = o'.boxes[k]?) o.boxes.length ?_ ?_
  · exact ⟨0, by omega, by (first | (simp [put_at, put_none, fr0_at, q2]; done) | rfl), by (first | (simp [put_at, put_none, fr0_at, q3]; done) | rfl), by (first | (simp [put_at, put_none, fr0_at]; done) | rfl), rfl, fun k hk => by omega⟩
  clear q2 q3 q6
  rintro c α G ⟨i, hic, q2, q3, q7, rfl, hpre⟩
  refine aw_seq ?_
  refine aw_seq ?_
  by_cases hi : i < o.boxes.length
  case pos =>
    obtain ⟨A, hA⟩ : ∃ A, o.boxes[i]? = some A := ⟨_, List.getElem?_eq_getElem hi⟩
    obtain ⟨B, hB⟩ : ∃ B, o'.boxes[i]? = some B := ⟨_, List.getElem?_eq_getElem (by omega)⟩
    obtain ⟨j1, g1, bb1, a1, s2, s3, s4, s5, s6, hC1⟩ := hO.boxes.row_at hw.boxes hA
    obtain ⟨j2, g2, bb2, a2, t2, t3, t4, t5, t6, hC2⟩ := hO'.boxes.row_at hw'.boxes hB
    have r1 := hC1.row
    have r2 := hC2.row
    have hbe := box_eq (a := A) (b := B) (hw.boxes A (List.mem_of_getElem? hA)).pub.1 (hw'.boxes B (List.mem_of_getElem? hB)).pub.1
    have lx : ∀ (j g : Nat) (bb : Blk) (a : List Value), hget G j = some bb → g + 36 ≤ bb.cells.length → a = (bb.cells.drop g).take 36 → xload Try.prog 60 (.pointer (some ⟨j, g, none⟩)) G = some (.agg a.toArray) := fun j g bb a h1 h2 h3 => by
      have h4 : isAggD (und Try.prog 60) = true := by kernel_rfl
      have h5 : szt Try.prog 60 = 36 := by kernel_rfl
      unfold xload
      simp only [h1, h4, h5, if_true]
      rw [if_pos ⟨by omega, h2⟩, h3]
    have l1 := lx j1 g1 bb1 _ s3 s4 s5
    have l2 := lx j2 g2 bb2 _ t3 t4 t5
    rw [r1] at l1
    rw [r2] at l2
    (refine aw_ops (by kernel_rfl) (fun K hK => ?_); simp (disch := first | omega | (simp only [lnS]; try omega; done)) [-getElem?_pos, -getElem?_neg, q2, q3, q7, b2, b3, hul, hwl, c70, c70', -notTuple, n1, n1', n2, n2', nt_intG, nt_ptrG, -xlen, bl, bl', hi]; refine hK _ _ ?_; clear hK K)
    refine aw_t (by (first | (simp [eval_tmp, put_at, hi]; done) | (simp [eval_tmp, put_at, hi]; omega))) (by kernel_rfl) ?_
    refine aw_skip ?_
    refine aw_seq ?_
    refine aw_block ?_
    refine aw_seq ?_
    generalize boxRow A = RA at *
    generalize boxRow B = RB at *
    by_cases hAB : A = B
    · rw [decide_eq_true hAB] at hbe
      (refine aw_plan [] [] [0, 1, 2, 3, 4, 5, 6, 7, 8, 9, 10] 11 0 (by kernel_rfl) (by kernel_rfl) (by kernel_rfl) (fun K hK => ?_)); simp only [sel, List.getElem?_cons_succ, List.getElem?_cons_zero, List.drop_succ_cons, List.drop_zero]; simp (disch := first | omega | (simp only [lnS]; try omega; done)) [-getElem?_pos, -getElem?_neg, q2, q3, q7, -notTuple, n1, n1', n2, n2', nt_intG, nt_ptrG, nt_aggG, -xindexAddr, s2, t2, -xload, x70, x70', l1, l2, -xagg, hbe, PL_nil, plainB_lit, PL_cons, PLc_val, PLc_new, stepP_t, stepP_f, stepPC_n, stepPC_s, stepPX_s, stepPX_n, stepPV_n, stepPV_s, stepPA_t, stepPA_c, stepPA_l, stepPN_s, allocOp, reloc_sl, reloc_ptr, List.map_cons, List.map_nil, List.nil_append, List.append_assoc, List.cons_append, Nat.add_assoc]
      refine hK _ _ ?_; clear hK K
      refine aw_f (by (first | (simp [eval_tmp, put_at]; done) | (simp [eval_tmp, put_at]; omega))) (by kernel_rfl) ?_
      refine aw_skip ?_
      (refine aw_ops (by kernel_rfl) (fun K hK => ?_); simp (disch := first | omega | (simp only [lnS]; try omega; done)) [-getElem?_pos, -getElem?_neg, q7]; refine hK _ _ ?_; clear hK K)
      refine ⟨c - 1, by omega, i + 1, by omega, by (first | (simp [put_at, put_none, fr0_at, q2]; done) | rfl), by (first | (simp [put_at, put_none, fr0_at, q3]; done) | rfl), by (first | (simp [put_at, put_none, fr0_at]; done) | rfl), rfl, fun k hk => ?_⟩
      by_cases e : k = i
      · subst e; rw [hA, hB, hAB]
      · exact hpre k (by omega)
    · rw [decide_eq_false hAB] at hbe
      (refine aw_plan [] [] [0, 1, 2, 3, 4, 5, 6, 7, 8, 9, 10] 11 0 (by kernel_rfl) (by kernel_rfl) (by kernel_rfl) (fun K hK => ?_)); simp only [sel, List.getElem?_cons_succ, List.getElem?_cons_zero, List.drop_succ_cons, List.drop_zero]; simp (disch := first | omega | (simp only [lnS]; try omega; done)) [-getElem?_pos, -getElem?_neg, q2, q3, q7, -notTuple, n1, n1', n2, n2', nt_intG, nt_ptrG, nt_aggG, -xindexAddr, s2, t2, -xload, x70, x70', l1, l2, -xagg, hbe, PL_nil, plainB_lit, PL_cons, PLc_val, PLc_new, stepP_t, stepP_f, stepPC_n, stepPC_s, stepPX_s, stepPX_n, stepPV_n, stepPV_s, stepPA_t, stepPA_c, stepPA_l, stepPN_s, allocOp, reloc_sl, reloc_ptr, List.map_cons, List.map_nil, List.nil_append, List.append_assoc, List.cons_append, Nat.add_assoc]
      refine hK _ _ ?_; clear hK K
      refine aw_t (by (first | (simp [eval_tmp, put_at]; done) | (simp [eval_tmp, put_at]; omega))) (by kernel_rfl) ?_
      refine aw_seq ?_
      (refine aw_ops (by kernel_rfl) (fun K hK => ?_); simp (disch := first | omega | (simp only [lnS]; try omega; done)) [-getElem?_pos, -getElem?_neg]; refine hK _ _ ?_; clear hK K)
      (refine aw_ret ?_; simp (disch := first | omega | (simp only [lnS]; try omega; done)) [-getElem?_pos, -getElem?_neg, thenQ_ret, scopeQ_ret, inBlockQ_ret, RQ, resL, resV])
      all_goals exact fun hh => hAB (by rw [hh] at hA; rw [hA] at hB; cases hB; rfl)
  (refine aw_ops (by kernel_rfl) (fun K hK => ?_); simp (disch := first | omega | (simp only [lnS]; try omega; done)) [-getElem?_pos, -getElem?_neg, q2, q3, q7, b2, b3, hul, hwl, c70, c70', -notTuple, n1, n1', n2, n2', nt_intG, nt_ptrG, -xlen, bl, bl', hi]; refine hK _ _ ?_; clear hK K)
  refine aw_f (by (first | (simp [eval_tmp, put_at, hi]; done) | (simp [eval_tmp, put_at, hi]; omega))) (by kernel_rfl) ?_
  refine aw_exit ?_
  have hB : o.boxes = o'.boxes := by
    apply List.ext_getElem?
    intro k
    rcases Nat.lt_or_ge k o.boxes.length with hk | hk
    · exact hpre k (by omega)
    · rw [List.getElem?_eq_none hk, List.getElem?_eq_none (by omega)]
  have hfin : o = o' := OpD.ext e0 e1 hP e2 hW e3 e4 e5 hB
  refine aw_seq ?_
  (refine aw_ops (by kernel_rfl) (fun K hK => ?_); simp (disch := first | omega | (simp only [lnS]; try omega; done)) [-getElem?_pos, -getElem?_neg]; refine hK _ _ ?_; clear hK K)
  (refine aw_ret ?_; simp (disch := first | omega | (simp only [lnS]; try omega; done)) [-getElem?_pos, -getElem?_neg, thenQ_ret, scopeQ_ret, inBlockQ_ret, RQ, resL, resV])
  all_goals exact hfin
end
section
def Sm6 (l : List NodeD) : Prop := ∀ x ∈ l, x.op.parents.length ≤ 1000000 ∧ x.op.who.length ≤ 1000000 ∧ x.op.boxes.length ≤ 1000000
theorem nodes_ext {l m : List NodeD} (hl : l.length = m.length) (h : ∀ k, k < l.length → nd l k = nd m k) : l = m := by
  apply List.ext_getElem?
  intro k
  rcases Nat.lt_or_ge k l.length with hk | hk
  · rw [nd_get hk, nd_get (show k < m.length by omega), h k hk]
  · rw [List.getElem?_eq_none hk, List.getElem?_eq_none (by omega)]
/-- A node by its address: what is loaded of it. -/
structure NodeAt (H : AH) (v : Value) (i : Nat) (x : NodeD) (j q : Nat) (bb : Blk) (us : List Value) (qv : Value) : Prop where
  addr : xindexAddr Try.prog 22 v (.int .i64 (i : Nat)) = some (.pointer (some ⟨j, q, none⟩))
  blk : hget H j = some bb
  le : q + 104 ≤ bb.cells.length
  id : (bb.cells.drop q).take 32 = iv .u8 x.id
  op : (bb.cells.drop (q + 32)).take 71 = us
  past : bb.cells[q + 103]? = some qv
  inv : InV H qv x.past
theorem NdA.node {H : AH} {v : Value} {l : List NodeD} (h : NdA H v l) {i : Nat} (hi : i < l.length) : ∃ j q bb us pv wv bv qv, NodeAt H v i (nd l i) j q bb us qv ∧ OpC H us (nd l i).op pv wv bv := by
  obtain ⟨j, q, bb, us, pv, wv', bv, qv, hx, hbb, hq, hcell, hus, hC⟩ := h.at_ i _ (nd_get hi)
  refine ⟨j, q, bb, (us.drop 32).take 71, pv, wv', bv, qv, ⟨hx, hbb, hq, ?_, by rw [op_cut, ← hus], (hcell 103 (by omega)).trans hC.c103, hC.past⟩, hC.op⟩
  have := hC.id
  rw [hus, List.take_take] at this
  simpa using this
attribute [local simp] wb_bool wb_undef with_lit XL_nil XL_cons XLc_val XLc_call step1_eq stepW_t stepW_f stepC_n stepC_s stepX_s stepX_n stepN_s calleeX oneV xop_eq xopR_s xopR_n wantedA_eq wantedG_n wantedG_s plain1_int plain1_bool plain1_string bits_i64 bits_u64 bits_u32 bits_u16 bits_u8 xeqA xagg xcmp xarr allK_iv num_iv calleeOf xread xeff xbin xint xnil xun xstr xload xconv xpart xfield xfieldAddr xindexAddr xindex bnd asInt? xslice xlen xmin xmax xbuild xfill xappend xapp2 xappstr xappmk xcap xcopy xcells eval_tmp eval_const put_at put_none fr0_at cells_agg cells_int cells_bool cells_string cells_ptr cells_slice notTuple tab iv_all hget_app hget_app0 hget_cons0 hget_cons set_app set_app0 setR setR_one QL_nil QL_cons QLc_val stepQ_t stepQ_f stepQC_n stepQC_s stepQX_s SL_nil SL_cons SLc_val stepS_t stepS_f ltT ltF leT leF eqT eqF ltTn ltFn leTn leFn eqTn eqFn beqT beqF bneT bneF wi64 wu64 wu32 wu16 wu8 tmodP tdivP hgetL hgetNe hgetEq setL nums_def nums_len Nat.succ_le_of_lt List.getElem?_cons_zero List.getElem?_cons_succ Option.getD_some Int.toNat_add Int.toNat_mul agM okM agB agI agS agP agL agA okB okI okS okP okSl okA
theorem rSame_rc {γ : Nat → Option Nat} {H : AH} {u v : Value} {l m : List NodeD} (hU : NdA H u l) (hV : NdA H v m) (sl : Sm6 l) (sm : Sm6 m) (hl : l.length ≤ maxLen) : AC Try.prog H.length γ 16 #[u, v] H (fun v' _ => v' = .bool (decide (l = m))) := by
  have u1 := hU.nt
  have u2 := hU.cs
  have u3 := hU.len
  have v1 := hV.nt
  have v2 := hV.cs
  have v3 := hV.len
  have hm63 : l.length ≤ 9223372036854775807 := by simp only [maxLen] at hl; omega
  refine ac_of_aw Try.func16 rfl Try.ntmps16 Try.results16 (by simp) ?_
  refine aw_seq ?_
  (refine aw_ops (by kernel_rfl) (fun K hK => ?_); simp (disch := first | omega | (simp only [lnS]; try omega; done)) [-getElem?_pos, -getElem?_neg]; refine hK _ _ ?_; clear hK K)
  refine aw_seq ?_
  refine aw_seq ?_
  by_cases hab : l.length = m.length
  case neg =>
    have hne : ((l.length : Int) == (m.length : Int)) = false := by rw [beq_eq_false_iff_ne]; omega
    have hne2 : ¬ (l.length : Int) = (m.length : Int) := by omega
    (refine aw_ops (by kernel_rfl) (fun K hK => ?_); simp (disch := first | omega | (simp only [lnS]; try omega; done)) [-getElem?_pos, -getElem?_neg, -notTuple, u1, u2, v1, v2, nt_intG, -xlen, u3, v3, hne, hne2]; refine hK _ _ ?_; clear hK K)
    refine aw_t (by (first | (simp [eval_tmp, put_at]; done) | (simp [eval_tmp, put_at]; omega))) (by kernel_rfl) ?_
    refine aw_seq ?_
    (refine aw_ops (by kernel_rfl) (fun K hK => ?_); simp (disch := first | omega | (simp only [lnS]; try omega; done)) [-getElem?_pos, -getElem?_neg]; refine hK _ _ ?_; clear hK K)
    (refine aw_ret ?_; simp (disch := first | omega | (simp only [lnS]; try omega; done)) [-getElem?_pos, -getElem?_neg, thenQ_ret, scopeQ_ret, inBlockQ_ret, RQ, resL, resV])
    all_goals exact fun h => hab (congrArg List.length h)
  have heq : ((l.length : Int) == (m.length : Int)) = true := by rw [beq_iff_eq]; omega
  have heq2 : (l.length : Int) = (m.length : Int) := by omega
  (refine aw_ops (by kernel_rfl) (fun K hK => ?_); simp (disch := first | omega | (simp only [lnS]; try omega; done)) [-getElem?_pos, -getElem?_neg, -notTuple, u1, u2, v1, v2, nt_intG, -xlen, u3, v3, hab, heq, heq2]; refine hK _ _ ?_; clear hK K)
  refine aw_f (by (first | (simp [eval_tmp, put_at]; done) | (simp [eval_tmp, put_at]; omega))) (by kernel_rfl) ?_
  refine aw_skip ?_
  refine aw_seq ?_
  refine aw_seq ?_
  (refine aw_ops (by kernel_rfl) (fun K hK => ?_); simp (disch := first | omega | (simp only [lnS]; try omega; done)) [-getElem?_pos, -getElem?_neg]; refine hK _ _ ?_; clear hK K)
  refine aw_block ?_
  refine aw_loop (fun c α G => ∃ i : Nat, i + c = l.length ∧ α 0 = u ∧ α 1 = v ∧ α 5 = .int .i64 (i : Nat) ∧ G = H ∧ ∀ k, k < i → nd l k = nd m k) l.length ?_ ?_
  · exact ⟨0, by omega, by (first | (simp [put_at, put_none, fr0_at]; done) | rfl), by (first | (simp [put_at, put_none, fr0_at]; done) | rfl), by (first | (simp [put_at, put_none, fr0_at]; done) | rfl), rfl, fun k hk => by omega⟩
  rintro c α G ⟨i, hic, q0, q1, q5, rfl, hpre⟩
  refine aw_seq ?_
  refine aw_seq ?_
  by_cases hi : i < l.length
  case neg =>
    (refine aw_ops (by kernel_rfl) (fun K hK => ?_); simp (disch := first | omega | (simp only [lnS]; try omega; done)) [-getElem?_pos, -getElem?_neg, q0, q5, -notTuple, u1, u2, nt_intG, -xlen, u3, hi]; refine hK _ _ ?_; clear hK K)
    refine aw_f (by (first | (simp [eval_tmp, put_at, hi]; done) | (simp [eval_tmp, put_at, hi]; omega))) (by kernel_rfl) ?_
    refine aw_exit ?_
    refine aw_seq ?_
    (refine aw_ops (by kernel_rfl) (fun K hK => ?_); simp (disch := first | omega | (simp only [lnS]; try omega; done)) [-getElem?_pos, -getElem?_neg]; refine hK _ _ ?_; clear hK K)
    (refine aw_ret ?_; simp (disch := first | omega | (simp only [lnS]; try omega; done)) [-getElem?_pos, -getElem?_neg, thenQ_ret, scopeQ_ret, inBlockQ_ret, RQ, resL, resV])
    all_goals exact nodes_ext hab (fun k hk => hpre k (by omega))
  obtain ⟨j, q, bb, us, pv, wv', bv, qv, hn1, hO1⟩ := hU.node hi
  obtain ⟨j', q', bb', us', pv', wv'', bv', qv', hn2, hO2⟩ := hV.node (show i < m.length by omega)
  have xw := hU.wf _ (List.mem_of_getElem? (nd_get hi))
  have yw := hV.wf _ (List.mem_of_getElem? (nd_get (show i < m.length by omega)))
  obtain ⟨a1, a2, a3, a4, a5, a6, a7⟩ := hn1
  obtain ⟨d1, d2, d3, d4, d5, d6, d7⟩ := hn2
  have n1 := val_nt a7
  have n2 := val_nt d7
  have la : (iv .u8 (nd l i).id).length = 32 := by rw [iv_length, xw.id.1]
  have ld : (iv .u8 (nd m i).id).length = 32 := by rw [iv_length, yw.id.1]
  have hol := hO1.len
  have hol' := hO2.len
  (refine aw_ops (by kernel_rfl) (fun K hK => ?_); simp (disch := first | omega | (simp only [lnS]; try omega; done)) [-getElem?_pos, -getElem?_neg, q0, q5, -notTuple, u1, u2, nt_intG, -xlen, u3, hi]; refine hK _ _ ?_; clear hK K)
  refine aw_t (by (first | (simp [eval_tmp, put_at, hi]; done) | (simp [eval_tmp, put_at, hi]; omega))) (by kernel_rfl) ?_
  refine aw_skip ?_
  refine aw_seq ?_
  refine aw_block ?_
  refine aw_seq ?_
  refine aw_cut (fun α G2 => α 55 = .bool (!decide (nd l i = nd m i)) ∧ α 0 = u ∧ α 1 = v ∧ α 5 = .int .i64 (i : Nat) ∧ G2 = G) ?_ ?_
  · by_cases e1 : (nd l i).id = (nd m i).id
    case neg =>
      have k1 : ((nd l i).id == (nd m i).id) = false := by rw [beq_eq_false_iff_ne]; exact e1
      have hd : decide (nd l i = nd m i) = false := decide_eq_false (fun hh => e1 (by rw [hh]))
      (refine aw_plan [] [] [0, 1, 2, 3, 4, 5, 6, 7, 8, 9, 10, 11, 12, 13, 14, 15, 16, 17, 18, 19, 20, 21, 22, 23, 24, 25, 26, 27, 28, 29, 30, 31, 32, 33, 34, 35, 36, 37, 38] 39 0 (by kernel_rfl) (by kernel_rfl) (by kernel_rfl) (fun K hK => ?_)); simp only [sel, List.getElem?_cons_succ, List.getElem?_cons_zero, List.drop_succ_cons, List.drop_zero]; simp (disch := first | omega | (simp only [lnS]; try omega; done)) [-getElem?_pos, -getElem?_neg, q0, q1, q5, -notTuple, u1, u2, v1, v2, n1.1, n1.2, n2.1, n2.2, nt_intG, nt_ptrG, nt_aggG, -xindexAddr, a1, d1, a2, d2, a4, d4, a5, d5, a6, d6, la, ld, k1, PL_nil, plainB_lit, PL_cons, PLc_val, PLc_new, stepP_t, stepP_f, stepPC_n, stepPC_s, stepPX_s, stepPX_n, stepPV_n, stepPV_s, stepPA_t, stepPA_c, stepPA_l, stepPN_s, allocOp, reloc_sl, reloc_ptr, List.map_cons, List.map_nil, List.nil_append, List.append_assoc, List.cons_append, Nat.add_assoc]
      refine hK _ _ ?_; clear hK K
      exact ⟨by rw [hd]; (first | (simp [put_at, put_none, fr0_at]; done) | rfl), by (first | (simp [put_at, put_none, fr0_at, q0]; done) | rfl), by (first | (simp [put_at, put_none, fr0_at, q1]; done) | rfl), by (first | (simp [put_at, put_none, fr0_at, q5]; done) | rfl), rfl⟩
    have k1 : ((nd l i).id == (nd m i).id) = true := by rw [beq_iff_eq]; exact e1
    (refine aw_plan [] [] [0, 1, 2, 3, 4, 5, 6, 7, 8, 9, 10, 11, 12, 13, 14, 15, 16, 17, 18, 19, 20, 21, 22, 23, 24, 25, 26, 27, 28, 29, 30, 31, 32, 33, 34, 35, 36, 37, 38] 39 0 (by kernel_rfl) (by kernel_rfl) (by kernel_rfl) (fun K hK => ?_)); simp only [sel, List.getElem?_cons_succ, List.getElem?_cons_zero, List.drop_succ_cons, List.drop_zero]; simp (disch := first | omega | (simp only [lnS]; try omega; done)) [-getElem?_pos, -getElem?_neg, q0, q1, q5, -notTuple, u1, u2, v1, v2, n1.1, n1.2, n2.1, n2.2, nt_intG, nt_ptrG, nt_aggG, -xindexAddr, a1, d1, a2, d2, a4, d4, a5, d5, a6, d6, la, ld, k1, PL_nil, plainB_lit, PL_cons, PLc_val, PLc_new, stepP_t, stepP_f, stepPC_n, stepPC_s, stepPX_s, stepPX_n, stepPV_n, stepPV_s, stepPA_t, stepPA_c, stepPA_l, stepPN_s, allocOp, reloc_sl, reloc_ptr, List.map_cons, List.map_nil, List.nil_append, List.append_assoc, List.cons_append, Nat.add_assoc]
    refine PLc_call (v := .bool (decide ((nd l i).past = (nd m i).past))) (by kernel_rfl) (fun L hL => sameInts_rc (CD.Val.low (fun j hj => hget_left hj) a7) (CD.Val.low (fun j hj => hget_left hj) d7) xw.plen) (by simp [pv_iv, pv_int, pv_bool, pv_string, pv_tup2, pv_tup3, iv_plain, p2_int, p2_bool, p2_string]) ?_
    by_cases e2 : (nd l i).past = (nd m i).past
    case neg =>
      have hd : decide (nd l i = nd m i) = false := decide_eq_false (fun hh => e2 (by rw [hh]))
      simp (disch := first | omega | (simp only [lnS]; try omega; done)) [-getElem?_pos, -getElem?_neg, e2, PL_nil, plainB_lit, PL_cons, PLc_val, PLc_new, stepP_t, stepP_f, stepPC_n, stepPC_s, stepPX_s, stepPX_n, stepPV_n, stepPV_s, stepPA_t, stepPA_c, stepPA_l, stepPN_s, allocOp, reloc_sl, reloc_ptr, List.map_cons, List.map_nil, List.nil_append, List.append_assoc, List.cons_append, Nat.add_assoc]
      refine hK _ _ ?_; clear hK K
      exact ⟨by rw [hd]; (first | (simp [put_at, put_none, fr0_at]; done) | rfl), by (first | (simp [put_at, put_none, fr0_at, q0]; done) | rfl), by (first | (simp [put_at, put_none, fr0_at, q1]; done) | rfl), by (first | (simp [put_at, put_none, fr0_at, q5]; done) | rfl), rfl⟩
    simp (disch := first | omega | (simp only [lnS]; try omega; done)) [-getElem?_pos, -getElem?_neg, e2, q0, q1, q5, -notTuple, u1, u2, v1, v2, nt_intG, nt_ptrG, nt_aggG, -xindexAddr, a1, d1, a2, d2, a5, d5, PL_nil, plainB_lit, PL_cons, PLc_val, PLc_new, stepP_t, stepP_f, stepPC_n, stepPC_s, stepPX_s, stepPX_n, stepPV_n, stepPV_s, stepPA_t, stepPA_c, stepPA_l, stepPN_s, allocOp, reloc_sl, reloc_ptr, List.map_cons, List.map_nil, List.nil_append, List.append_assoc, List.cons_append, Nat.add_assoc]
    refine PLc_call (v := .bool (decide ((nd l i).op = (nd m i).op))) (by kernel_rfl) (fun L hL => sameOp_rc (hO1.low (fun j hj => hget_left hj)) (hO2.low (fun j hj => hget_left hj)) xw.op yw.op (sl _ (List.mem_of_getElem? (nd_get hi)))) (by simp [pv_iv, pv_int, pv_bool, pv_string, pv_tup2, pv_tup3, iv_plain, p2_int, p2_bool, p2_string]) ?_
    by_cases e3 : (nd l i).op = (nd m i).op
    case neg =>
      have hd : decide (nd l i = nd m i) = false := decide_eq_false (fun hh => e3 (by rw [hh]))
      simp (disch := first | omega | (simp only [lnS]; try omega; done)) [-getElem?_pos, -getElem?_neg, e3, PL_nil, plainB_lit, PL_cons, PLc_val, PLc_new, stepP_t, stepP_f, stepPC_n, stepPC_s, stepPX_s, stepPX_n, stepPV_n, stepPV_s, stepPA_t, stepPA_c, stepPA_l, stepPN_s, allocOp, reloc_sl, reloc_ptr, List.map_cons, List.map_nil, List.nil_append, List.append_assoc, List.cons_append, Nat.add_assoc]
      refine hK _ _ ?_; clear hK K
      exact ⟨by rw [hd]; (first | (simp [put_at, put_none, fr0_at]; done) | rfl), by (first | (simp [put_at, put_none, fr0_at, q0]; done) | rfl), by (first | (simp [put_at, put_none, fr0_at, q1]; done) | rfl), by (first | (simp [put_at, put_none, fr0_at, q5]; done) | rfl), rfl⟩
    have hd : decide (nd l i = nd m i) = true := decide_eq_true (NodeD.ext e1 e3 e2)
    simp (disch := first | omega | (simp only [lnS]; try omega; done)) [-getElem?_pos, -getElem?_neg, e3, PL_nil, plainB_lit, PL_cons, PLc_val, PLc_new, stepP_t, stepP_f, stepPC_n, stepPC_s, stepPX_s, stepPX_n, stepPV_n, stepPV_s, stepPA_t, stepPA_c, stepPA_l, stepPN_s, allocOp, reloc_sl, reloc_ptr, List.map_cons, List.map_nil, List.nil_append, List.append_assoc, List.cons_append, Nat.add_assoc]
    refine hK _ _ ?_; clear hK K
    exact ⟨by rw [hd]; (first | (simp [put_at, put_none, fr0_at]; done) | rfl), by (first | (simp [put_at, put_none, fr0_at, q0]; done) | rfl), by (first | (simp [put_at, put_none, fr0_at, q1]; done) | rfl), by (first | (simp [put_at, put_none, fr0_at, q5]; done) | rfl), rfl⟩
  clear q0 q1 q5
  rintro α G2 ⟨q55, q0, q1, q5, rfl⟩
  by_cases hd : nd l i = nd m i
  · rw [decide_eq_true hd] at q55
    refine aw_f (by (first | (simp [eval_tmp, put_at, q55]; done) | (simp [eval_tmp, put_at, q55]; omega))) (by kernel_rfl) ?_
    refine aw_skip ?_
    (refine aw_ops (by kernel_rfl) (fun K hK => ?_); simp (disch := first | omega | (simp only [lnS]; try omega; done)) [-getElem?_pos, -getElem?_neg, q5]; refine hK _ _ ?_; clear hK K)
    refine ⟨c - 1, by omega, i + 1, by omega, by (first | (simp [put_at, put_none, fr0_at, q0]; done) | rfl), by (first | (simp [put_at, put_none, fr0_at, q1]; done) | rfl), by (first | (simp [put_at, put_none, fr0_at]; done) | rfl), rfl, fun k hk => ?_⟩
    by_cases e : k = i
    · subst e; exact hd
    · exact hpre k (by omega)
  · rw [decide_eq_false hd] at q55
    refine aw_t (by (first | (simp [eval_tmp, put_at, q55]; done) | (simp [eval_tmp, put_at, q55]; omega))) (by kernel_rfl) ?_
    refine aw_seq ?_
    (refine aw_ops (by kernel_rfl) (fun K hK => ?_); simp (disch := first | omega | (simp only [lnS]; try omega; done)) [-getElem?_pos, -getElem?_neg]; refine hK _ _ ?_; clear hK K)
    (refine aw_ret ?_; simp (disch := first | omega | (simp only [lnS]; try omega; done)) [-getElem?_pos, -getElem?_neg, thenQ_ret, scopeQ_ret, inBlockQ_ret, RQ, resL, resV])
    all_goals exact fun hh => hd (by rw [hh])
end
section
/-- How many of a past are an author's. -/
def aheadL (l : List NodeD) (P : List Int) (x : Int) : Nat := (P.filter fun z => (nd l z.toNat).op.author == x).length
theorem aheadL_pastL (l : List NodeD) (n : Nat) (ps : List (List Int)) (x : Int) : aheadL l (pastL l n ps) x = (((List.range n).filter fun a => (nd l a).op.author == x).filter (inB l n ps)).length := by
  unfold aheadL pastL
  rw [List.filter_map, List.length_map, List.filter_filter, List.filter_filter]
  congr 1
  refine List.filter_congr fun k _ => ?_
  show (_ && _) = (_ && _)
  rw [Bool.and_comm]
  rfl
theorem ahead_all (l : List NodeD) (n : Nat) (ps : List (List Int)) (x : Int) : aheadL l (pastL l n ps) x = autN l n x ↔ autA l n x (pastL l n ps) = true := by
  rw [aheadL_pastL]
  unfold autN autA
  rw [List.length_filter_eq_length_iff, List.all_eq_true]
  refine ⟨fun h k hk => ?_, fun h k hk => ?_⟩
  · by_cases e : ((nd l k).op.author == x) = true
    · have := h k (List.mem_filter.2 ⟨hk, e⟩)
      have h2 : (k : Int) ∈ pastL l n ps := mem_pastL.2 ⟨List.mem_range.1 hk, this⟩
      simp [h2]
    · simp only [Bool.not_eq_true] at e
      simp [e]
  · rw [List.mem_filter] at hk
    have := h k hk.1
    rw [hk.2] at this
    have h2 : (k : Int) ∈ pastL l n ps := by simpa using this
    exact (mem_pastL.1 h2).2
theorem aheadL_le (l : List NodeD) (P : List Int) (x : Int) : aheadL l P x ≤ P.length := List.length_filter_le _ _
theorem aheadL_succ {l : List NodeD} {P : List Int} {e : Nat} {z : Int} (x : Int) (h : P[e]? = some z) : aheadL l (P.take (e + 1)) x = aheadL l (P.take e) x + if (nd l z.toNat).op.author = x then 1 else 0 := by
  unfold aheadL
  rw [List.take_add_one, h, List.filter_append, List.length_append]
  congr 1
  show (List.filter _ [z]).length = _
  by_cases hc : (nd l z.toNat).op.author = x
  · simp [hc]
  · have : ((nd l z.toNat).op.author == x) = false := by simpa using hc
    simp [this, hc]
/-- May it be put behind? -/
def seqOk (l : List NodeD) (o : OpD) : Bool := !(decide (o.kind = 1) && decide (0 < l.length)) && (decide (o.seq = 1 + (aheadL l (pastL l l.length o.parents) o.author : Nat)) && decide (aheadL l (pastL l l.length o.parents) o.author = autN l l.length o.author))
def addE (l : List NodeD) (id : List Int) (o : OpD) : Int :=
  if rightG l = false then 1 else if rightO o = false then 1 else if (findN l l.length id).isSome = true then 13 else if l.length = 96 then 8 else if o.parents.all (fun p => (findN l l.length p).isSome) = false then 14 else if seqOk l o = false then 15 else 0
def addD (l : List NodeD) (id : List Int) (o : OpD) : NodeD := ⟨id, o, pastL l l.length o.parents⟩
/-- New memory that shows nodes. -/
def NewG (n : Nat) (H : AH) (v : Value) (l : List NodeD) : Prop := ∀ G, KeepN n H G → NdV G v l
def AddQ (l : List NodeD) (id : List Int) (o : OpD) (H : AH) (v' : Value) (H' : AH) : Prop :=
  Low H.length H H' ∧ ∃ sv, v' = .tuple #[sv, .int .i64 (addE l id o)] ∧ ((addE l id o = 0 ∧ NewG H.length H' sv (l ++ [addD l id o])) ∨ (addE l id o ≠ 0 ∧ sv = .slice none 0 0))
theorem AddQ.bad {l : List NodeD} {id : List Int} {o : OpD} {H H' : AH} {z : Int} (hl : Low H.length H H') (h : addE l id o = z) (hz : z ≠ 0) : AddQ l id o H (.tuple #[.slice none 0 0, .int .i64 z]) H' :=
  ⟨hl, _, by rw [h], .inr ⟨by rw [h]; exact hz, rfl⟩⟩
theorem fill_row {Z row : List Value} (hr : row.length = 104) (hZ : Z.length = 104) : xfill (fun i => some (i * 104, 104)) Z [(0, .agg row.toArray)] = some row := by
  have h1 : (Value.agg row.toArray).cells.size = 104 := by simpa [Value.cells] using hr
  unfold xfill
  simp only [Nat.zero_mul]
  rw [if_pos ⟨h1, by omega⟩]
  unfold xfill
  rw [setR_all _ _ (by simp [Value.cells, hr, hZ])]
  rfl
attribute [local simp] wb_bool wb_undef with_lit XL_nil XL_cons XLc_val XLc_call step1_eq stepW_t stepW_f stepC_n stepC_s stepX_s stepX_n stepN_s calleeX oneV xop_eq xopR_s xopR_n wantedA_eq wantedG_n wantedG_s plain1_int plain1_bool plain1_string bits_i64 bits_u64 bits_u32 bits_u16 bits_u8 xeqA xagg xcmp xarr allK_iv num_iv calleeOf xread xeff xbin xint xnil xun xstr xload xconv xpart xfield xfieldAddr xindexAddr xindex bnd asInt? xslice xlen xmin xmax xbuild xfill xappend xapp2 xappstr xappmk xcap xcopy xcells eval_tmp eval_const put_at put_none fr0_at cells_agg cells_int cells_bool cells_string cells_ptr cells_slice notTuple tab iv_all hget_app hget_app0 hget_cons0 hget_cons set_app set_app0 setR setR_one QL_nil QL_cons QLc_val stepQ_t stepQ_f stepQC_n stepQC_s stepQX_s SL_nil SL_cons SLc_val stepS_t stepS_f ltT ltF leT leF eqT eqF ltTn ltFn leTn leFn eqTn eqFn beqT beqF bneT bneF wi64 wu64 wu32 wu16 wu8 tmodP tdivP hgetL hgetNe hgetEq setL nums_def nums_len Nat.succ_le_of_lt List.getElem?_cons_zero List.getElem?_cons_succ Option.getD_some Int.toNat_add Int.toNat_mul agM okM agB agI agS agP agL agA okB okI okS okP okSl okA
theorem add_rc {γ : Nat → Option Nat} {H : AH} {nv pv wv bv : Value} {l : List NodeD} {id : List Int} {us : List Value} {o : OpD} (hN : NdA H nv l) (hid : Key32 id) (hO : OpC H us o pv wv bv) (hw : o.Wf) : AC Try.prog H.length γ 24 #[nv, .agg (iv .u8 id).toArray, .agg us.toArray] H (AddQ l id o H) := by
  have hivl : (iv .u8 id).length = 32 := by rw [iv_length, hid.1]
  have hta : (iv .u8 id).take 32 = iv .u8 id := List.take_of_length_le (by omega)
  have hul := hO.len
  have htu : us.take 71 = us := List.take_of_length_le (by omega)
  refine ac_of_aw Try.func24 rfl Try.ntmps24 Try.results24 (by simp) ?_
  refine aw_seq ?_
  (refine aw_ops (by kernel_rfl) (fun K hK => ?_); simp (disch := first | omega | (simp only [lnS]; try omega; done)) [-getElem?_pos, -getElem?_neg, hivl, hul, nt_aggG]; refine hK _ _ ?_; clear hK K)
  obtain ⟨G, hG⟩ : ∃ G : AH, G = H ++ [some ⟨iv .u8 id, 24, none⟩, some ⟨us, 37, none⟩] := ⟨_, rfl⟩
  have b4 : hget G H.length = some ⟨iv .u8 id, 24, none⟩ := by rw [hG, hget_app0]; rfl
  have b5 : hget G (H.length + 1) = some ⟨us, 37, none⟩ := by rw [hG, hget_app]; rfl
  have lw : Low H.length H G := hG ▸ Low.push (Nat.le_refl _) _
  have gl : G.length = H.length + 2 := by simp [hG]
  rw [← hG]
  clear hG
  have hNG := hN.lowG lw
  have hOG : OpC G us o pv wv bv := hO.low lw.1
  have hnt := hN.nt
  have hvc := hN.cs
  have hxl := hN.len
  have r1 := graph_right_rc (γ := γ) hNG
  have r2 := right_rc (γ := γ) hOG hw
  obtain ⟨n, hn⟩ : ∃ n, n = H.length := ⟨_, rfl⟩
  rw [← hn] at b4 b5 gl lw ⊢
  refine aw_seq ?_
  refine aw_block ?_
  refine aw_seq ?_
  refine aw_seq ?_
  refine aw_ops (by kernel_rfl) (fun K hK => ?_)
  simp (disch := first | omega | (simp only [lnS]; try omega; done)) [-getElem?_pos, -getElem?_neg, -notTuple, hnt, hvc, nt_intG]
  refine ⟨by kernel_rfl, ac_of_rc r1 (by simp [pv_iv, pv_int, pv_bool, pv_string, pv_tup2, pv_tup3, iv_plain, p2_int, p2_bool, p2_string]) ?_⟩
  cases h1 : rightG l with
  | false =>
    try simp (disch := first | omega | (simp only [lnS]; try omega; done)) [-getElem?_pos, -getElem?_neg]
    refine hK _ _ ?_; clear hK K
    refine aw_t (by (first | (simp [eval_tmp, put_at]; done) | (simp [eval_tmp, put_at]; omega))) (by kernel_rfl) ?_
    refine aw_skip ?_
    refine aw_t (by (first | (simp [eval_tmp, put_at]; done) | (simp [eval_tmp, put_at]; omega))) (by kernel_rfl) ?_
    refine aw_seq ?_
    (refine aw_ops (by kernel_rfl) (fun K hK => ?_); simp (disch := first | omega | (simp only [lnS]; try omega; done)) [-getElem?_pos, -getElem?_neg]; refine hK _ _ ?_; clear hK K)
    (refine aw_ret ?_; simp (disch := first | omega | (simp only [lnS]; try omega; done)) [-getElem?_pos, -getElem?_neg, thenQ_ret, scopeQ_ret, inBlockQ_ret, RQ, resL, resV])
    exact AddQ.bad (hn ▸ lw) (by simp [addE, h1]) (by decide)
  | true =>
  try simp (disch := first | omega | (simp only [lnS]; try omega; done)) [-getElem?_pos, -getElem?_neg]
  refine hK _ _ ?_; clear hK K
  refine aw_f (by (first | (simp [eval_tmp, put_at]; done) | (simp [eval_tmp, put_at]; omega))) (by kernel_rfl) ?_
  refine aw_ops (by kernel_rfl) (fun K hK => ?_)
  simp (disch := first | omega | (simp only [lnS]; try omega; done)) [-getElem?_pos, -getElem?_neg, b5, hul, htu, nt_aggG]
  refine ⟨by kernel_rfl, ac_of_rc r2 (by simp [pv_iv, pv_int, pv_bool, pv_string, pv_tup2, pv_tup3, iv_plain, p2_int, p2_bool, p2_string]) ?_⟩
  cases h2 : rightO o with
  | false =>
    try simp (disch := first | omega | (simp only [lnS]; try omega; done)) [-getElem?_pos, -getElem?_neg]
    refine hK _ _ ?_; clear hK K
    refine aw_t (by (first | (simp [eval_tmp, put_at]; done) | (simp [eval_tmp, put_at]; omega))) (by kernel_rfl) ?_
    refine aw_seq ?_
    (refine aw_ops (by kernel_rfl) (fun K hK => ?_); simp (disch := first | omega | (simp only [lnS]; try omega; done)) [-getElem?_pos, -getElem?_neg]; refine hK _ _ ?_; clear hK K)
    (refine aw_ret ?_; simp (disch := first | omega | (simp only [lnS]; try omega; done)) [-getElem?_pos, -getElem?_neg, thenQ_ret, scopeQ_ret, inBlockQ_ret, RQ, resL, resV])
    exact AddQ.bad (hn ▸ lw) (by simp [addE, h1, h2]) (by decide)
  | true =>
  try simp (disch := first | omega | (simp only [lnS]; try omega; done)) [-getElem?_pos, -getElem?_neg]
  refine hK _ _ ?_; clear hK K
  refine aw_f (by (first | (simp [eval_tmp, put_at]; done) | (simp [eval_tmp, put_at]; omega))) (by kernel_rfl) ?_
  have hl := rightG_len h1
  have r4 := find_rc (γ := γ) hNG (by simp only [maxLen]; omega) hid.1
  refine aw_seq ?_
  refine aw_ops (by kernel_rfl) (fun K hK => ?_)
  simp (disch := first | omega | (simp only [lnS]; try omega; done)) [-getElem?_pos, -getElem?_neg, b4, hivl, hta, -notTuple, hnt, hvc, nt_intG, nt_aggG]
  refine ⟨by kernel_rfl, ac_of_rc r4 (by simp [pv_iv, pv_int, pv_bool, pv_string, pv_tup2, pv_tup3, iv_plain, p2_int, p2_bool, p2_string]) ?_⟩
  unfold findI
  cases h3 : findN l l.length id with
  | some a =>
    have ha := findN_lt h3
    try simp (disch := first | omega | (simp only [lnS]; try omega; done)) [-getElem?_pos, -getElem?_neg]
    refine hK _ _ ?_; clear hK K
    refine aw_t (by (first | (simp [eval_tmp, put_at]; done) | (simp [eval_tmp, put_at]; omega))) (by kernel_rfl) ?_
    refine aw_seq ?_
    (refine aw_ops (by kernel_rfl) (fun K hK => ?_); simp (disch := first | omega | (simp only [lnS]; try omega; done)) [-getElem?_pos, -getElem?_neg]; refine hK _ _ ?_; clear hK K)
    (refine aw_ret ?_; simp (disch := first | omega | (simp only [lnS]; try omega; done)) [-getElem?_pos, -getElem?_neg, thenQ_ret, scopeQ_ret, inBlockQ_ret, RQ, resL, resV])
    exact AddQ.bad (hn ▸ lw) (by simp [addE, h1, h2, h3]) (by decide)
  | none =>
  try simp (disch := first | omega | (simp only [lnS]; try omega; done)) [-getElem?_pos, -getElem?_neg]
  refine hK _ _ ?_; clear hK K
  refine aw_f (by (first | (simp [eval_tmp, put_at]; done) | (simp [eval_tmp, put_at]; omega))) (by kernel_rfl) ?_
  refine aw_seq ?_
  by_cases h4 : l.length = 96
  · (refine aw_ops (by kernel_rfl) (fun K hK => ?_); simp (disch := first | omega | (simp only [lnS]; try omega; done)) [-getElem?_pos, -getElem?_neg, -notTuple, hnt, hvc, nt_intG, -xlen, hxl, h4]; refine hK _ _ ?_; clear hK K)
    refine aw_t (by (first | (simp [eval_tmp, put_at, h4]; done) | (simp [eval_tmp, put_at, h4]; omega))) (by kernel_rfl) ?_
    refine aw_seq ?_
    (refine aw_ops (by kernel_rfl) (fun K hK => ?_); simp (disch := first | omega | (simp only [lnS]; try omega; done)) [-getElem?_pos, -getElem?_neg]; refine hK _ _ ?_; clear hK K)
    (refine aw_ret ?_; simp (disch := first | omega | (simp only [lnS]; try omega; done)) [-getElem?_pos, -getElem?_neg, thenQ_ret, scopeQ_ret, inBlockQ_ret, RQ, resL, resV])
    exact AddQ.bad (hn ▸ lw) (by unfold addE; rw [h1, h2, h3, if_neg (by simp), if_neg (by simp), if_neg (by simp), if_pos h4]) (by decide)
  have h4n : l.length < 96 := by omega
  have h4i : ¬ (l.length : Int) = 96 := by omega
  (refine aw_ops (by kernel_rfl) (fun K hK => ?_); simp (disch := first | omega | (simp only [lnS]; try omega; done)) [-getElem?_pos, -getElem?_neg, -notTuple, hnt, hvc, nt_intG, -xlen, hxl, h4i]; refine hK _ _ ?_; clear hK K)
  refine aw_f (by (first | (simp [eval_tmp, put_at]; done) | (simp [eval_tmp, put_at]; omega))) (by kernel_rfl) ?_
  refine aw_skip ?_
  have hP := hOG.parents
  have hP4 := val_nt hP
  have hps := rightO_sm h2
  have c2 := hOG.c2
  have hpk : ∀ k ∈ o.parents, k.length = 32 := fun k hk => (hw.parents k hk).1
  have rp := (pastF_rc (γ := γ) hNG hl hP hpk (by simp only [maxLen]; omega)).thaw (nro := n) (fun v H' h => ⟨h.1.2, h.1.1⟩)
  refine aw_seq ?_
  refine aw_ops (by kernel_rfl) (fun K hK => ?_)
  simp (disch := first | omega | (simp only [lnS]; try omega; done)) [-getElem?_pos, -getElem?_neg, b5, hul, c2, -notTuple, hnt, hvc, hP4.1, hP4.2, nt_intG, nt_aggG]
  refine ⟨by kernel_rfl, rp.mono ?_⟩
  rintro v1 G1 ⟨hlow1, ⟨hall, sv, F, rfl, hown, hF⟩ | ⟨hall, rfl⟩⟩
  case inr =>
    simp (disch := first | omega | (simp only [lnS]; try omega; done)) [-getElem?_pos, -getElem?_neg]
    refine hK _ _ ?_; clear hK K
    refine aw_seq ?_
    refine aw_seq ?_
    (refine aw_ops (by kernel_rfl) (fun K hK => ?_); simp (disch := first | omega | (simp only [lnS]; try omega; done)) [-getElem?_pos, -getElem?_neg]; refine hK _ _ ?_; clear hK K)
    refine aw_t (by (first | (simp [eval_tmp, put_at]; done) | (simp [eval_tmp, put_at]; omega))) (by kernel_rfl) ?_
    refine aw_seq ?_
    (refine aw_ops (by kernel_rfl) (fun K hK => ?_); simp (disch := first | omega | (simp only [lnS]; try omega; done)) [-getElem?_pos, -getElem?_neg]; refine hK _ _ ?_; clear hK K)
    (refine aw_ret ?_; simp (disch := first | omega | (simp only [lnS]; try omega; done)) [-getElem?_pos, -getElem?_neg, thenQ_ret, scopeQ_ret, inBlockQ_ret, RQ, resL, resV])
    exact AddQ.bad ⟨fun j hj => (hlow1.1 j (by have := lw.2; omega)).trans (lw.1 j (by omega)), by have := hlow1.2; have := lw.2; omega⟩ (by simp [addE, h1, h2, h3, h4, hall]) (by decide)
  obtain ⟨v1, v2⟩ := own_nt hown
  have hFn : ∀ j ∈ F, n + 2 ≤ j := fun j hj => by have := hF j hj; omega
  clear hF
  simp (disch := first | omega | (simp only [lnS]; try omega; done)) [-getElem?_pos, -getElem?_neg, -notTuple, v1, v2, nt_intG]
  refine hK _ _ ?_; clear hK K
  refine aw_seq ?_
  refine aw_seq ?_
  (refine aw_ops (by kernel_rfl) (fun K hK => ?_); simp (disch := first | omega | (simp only [lnS]; try omega; done)) [-getElem?_pos, -getElem?_neg]; refine hK _ _ ?_; clear hK K)
  refine aw_f (by (first | (simp [eval_tmp, put_at]; done) | (simp [eval_tmp, put_at]; omega))) (by kernel_rfl) ?_
  refine aw_skip ?_
  have hPl := pastL_length l l.length o.parents
  have hPb : ∀ z ∈ pastL l l.length o.parents, ∃ k : Nat, z = k ∧ k < l.length := fun z hz => by
    obtain ⟨k, e, hk, _⟩ := pastL_bd hz
    exact ⟨k, e, hk⟩
  have hseq : seqOk l o = (!(decide (o.kind = 1) && decide (0 < l.length)) && (decide (o.seq = 1 + (aheadL l (pastL l l.length o.parents) o.author : Nat)) && decide (aheadL l (pastL l l.length o.parents) o.author = autN l l.length o.author))) := rfl
  have hle : addE l id o = if seqOk l o = false then 15 else 0 := by unfold addE; rw [h1, h2, h3, hall, if_neg (by simp), if_neg (by simp), if_neg (by simp), if_neg h4, if_neg (by simp)]
  have hInv := own_inv hown
  have hacc := hInv.acc
  have hdd : addD l id o = ⟨id, o, pastL l l.length o.parents⟩ := rfl
  obtain ⟨P, hPe⟩ : ∃ P, P = pastL l l.length o.parents := ⟨_, rfl⟩
  rw [← hPe] at hPl hPb hown hInv hacc hseq hdd
  have hlowG1 : Low n H G1 := ⟨fun j hj => (hlow1.1 j (by omega)).trans (lw.1 j (by omega)), by have := hlow1.2; omega⟩
  have hNG1 := hN.lowG (hn ▸ hlowG1)
  have d4 := (hlow1.1 n (by omega)).trans b4
  have d5 := (hlow1.1 (n + 1) (by omega)).trans b5
  have hOG1 : OpC G1 us o pv wv bv := hOG.low hlow1.1
  have hat := hNG1.at_
  have ca := hOG1.c0
  have hlG1 : n + 2 ≤ G1.length := by have := hlow1.2; omega
  refine aw_seq ?_
  (refine aw_ops (by kernel_rfl) (fun K hK => ?_); simp (disch := first | omega | (simp only [lnS]; try omega; done)) [-getElem?_pos, -getElem?_neg]; refine hK _ _ ?_; clear hK K)
  refine aw_seq ?_
  refine aw_seq ?_
  (refine aw_ops (by kernel_rfl) (fun K hK => ?_); simp (disch := first | omega | (simp only [lnS]; try omega; done)) [-getElem?_pos, -getElem?_neg, -notTuple, v1, v2, nt_intG, -xlen, hacc.len]; refine hK _ _ ?_; clear hK K)
  refine aw_block ?_
  refine aw_loop (fun c α G => ∃ e : Nat, e + c = P.length ∧ G = G1 ∧ α 0 = nv ∧ α 4 = .pointer (some ⟨n, 0, none⟩) ∧ α 5 = .pointer (some ⟨n + 1, 0, none⟩) ∧ α 8 = sv ∧ α 10 = .int .i64 (aheadL l (P.take e) o.author : Nat) ∧ α 39 = sv ∧ α 40 = .int .i64 (P.length : Nat) ∧ α 41 = .int .i64 (e : Nat)) P.length ?_ ?_
  · exact ⟨0, by omega, rfl, by (first | (simp [put_at, put_none, fr0_at]; done) | rfl), by (first | (simp [put_at, put_none, fr0_at]; done) | rfl), by (first | (simp [put_at, put_none, fr0_at]; done) | rfl), by (first | (simp [put_at, put_none, fr0_at]; done) | rfl), by (first | (simp [put_at, put_none, fr0_at]; done) | rfl), by (first | (simp [put_at, put_none, fr0_at]; done) | rfl), by (first | (simp [put_at, put_none, fr0_at]; done) | rfl), by (first | (simp [put_at, put_none, fr0_at]; done) | rfl)⟩
  rintro c α G2 ⟨e, hec, rfl, q0, q4, q5, q8, q10, q39, q40, q41⟩
  refine aw_seq ?_
  by_cases he : e < P.length
  case pos =>
    obtain ⟨p2, x2, p21, p22, p23, p24, p25⟩ := hacc.at_ e he
    subst p24
    obtain ⟨z, hz⟩ : ∃ z, z = P.getD e 0 := ⟨_, rfl⟩
    rw [← hz] at p25
    have hze : P[e]? = some z := by rw [hz, List.getD_eq_getElem?_getD, List.getElem?_eq_getElem he]; rfl
    have hsu := aheadL_succ (l := l) o.author hze
    have hal := aheadL_le l (P.take e) o.author
    rw [List.length_take] at hal
    have p25 := p25 G2 (Low.refl (Nat.le_refl _))
    obtain ⟨kz, rfl, hkz⟩ := hPb z (List.mem_of_getElem? hze)
    rw [Int.toNat_natCast] at hsu
    obtain ⟨j, q, bb, ws, pv', wv', bv', qv', hx, hbb, hq, hcell, hws, hC⟩ := hat kz _ (nd_get hkz)
    have cz : bb.cells[q + 32]? = some (.int .i64 (nd l kz).op.author) := by
      have := hC.op.c0
      rw [List.getElem?_take_of_lt (by omega), List.getElem?_drop] at this
      exact (hcell 32 (by omega)).trans this
    (refine aw_ops (by kernel_rfl) (fun K hK => ?_); simp (disch := first | omega | (simp only [lnS]; try omega; done)) [-getElem?_pos, -getElem?_neg, q40, q41, he]; refine hK _ _ ?_; clear hK K)
    refine aw_seq ?_
    refine aw_t (by (first | (simp [eval_tmp, put_at, he]; done) | (simp [eval_tmp, put_at, he]; omega))) (by kernel_rfl) ?_
    refine aw_skip ?_
    refine aw_seq ?_
    refine aw_block ?_
    refine aw_seq ?_
    (refine aw_ops (by kernel_rfl) (fun K hK => ?_); simp (disch := first | omega | (simp only [lnS]; try omega; done)) [-getElem?_pos, -getElem?_neg, q39, q41, -notTuple, v1, v2, p21, nt_intG, -xindexAddr, p22, -xload, p25]; refine hK _ _ ?_; clear hK K)
    refine aw_seq ?_
    obtain ⟨x, hxa⟩ : ∃ x, x = (nd l kz).op.author := ⟨_, rfl⟩
    rw [← hxa] at cz hsu
    by_cases hxz : x = o.author
    · have hxb : (x == o.author) = true := by simp [hxz]
      rw [if_pos hxz] at hsu
      (refine aw_plan [] [] [0, 1, 2, 3, 4, 5, 6, 7, 8] 9 0 (by kernel_rfl) (by kernel_rfl) (by kernel_rfl) (fun K hK => ?_)); simp only [sel, List.getElem?_cons_succ, List.getElem?_cons_zero, List.drop_succ_cons, List.drop_zero]; simp (disch := first | omega | (simp only [lnS]; try omega; done)) [-getElem?_pos, -getElem?_neg, q0, q5, -notTuple, hnt, hvc, nt_intG, nt_ptrG, -xindexAddr, hx, hbb, cz, d5, ca, hxz, hxb, PL_nil, plainB_lit, PL_cons, PLc_val, PLc_new, stepP_t, stepP_f, stepPC_n, stepPC_s, stepPX_s, stepPX_n, stepPV_n, stepPV_s, stepPA_t, stepPA_c, stepPA_l, stepPN_s, allocOp, reloc_sl, reloc_ptr, List.map_cons, List.map_nil, List.nil_append, List.append_assoc, List.cons_append, Nat.add_assoc]
      refine hK _ _ ?_; clear hK K
      refine aw_t (by (first | (simp [eval_tmp, put_at, hxz, hxb]; done) | (simp [eval_tmp, put_at, hxz, hxb]; omega))) (by kernel_rfl) ?_
      (refine aw_ops (by kernel_rfl) (fun K hK => ?_); simp (disch := first | omega | (simp only [lnS]; try omega; done)) [-getElem?_pos, -getElem?_neg, q10]; refine hK _ _ ?_; clear hK K)
      (refine aw_ops (by kernel_rfl) (fun K hK => ?_); simp (disch := first | omega | (simp only [lnS]; try omega; done)) [-getElem?_pos, -getElem?_neg, q41]; refine hK _ _ ?_; clear hK K)
      exact ⟨c - 1, by omega, e + 1, by omega, rfl, by (first | (simp [put_at, put_none, fr0_at, q0]; done) | rfl), by (first | (simp [put_at, put_none, fr0_at, q4]; done) | rfl), by (first | (simp [put_at, put_none, fr0_at, q5]; done) | rfl), by (first | (simp [put_at, put_none, fr0_at, q8]; done) | rfl), by rw [hsu]; (first | (simp [put_at, put_none, fr0_at]; done) | rfl), by (first | (simp [put_at, put_none, fr0_at, q39]; done) | rfl), by (first | (simp [put_at, put_none, fr0_at, q40]; done) | rfl), by (first | (simp [put_at, put_none, fr0_at]; done) | rfl)⟩
    · have hxb : (x == o.author) = false := by simp [hxz]
      rw [if_neg hxz] at hsu
      (refine aw_plan [] [] [0, 1, 2, 3, 4, 5, 6, 7, 8] 9 0 (by kernel_rfl) (by kernel_rfl) (by kernel_rfl) (fun K hK => ?_)); simp only [sel, List.getElem?_cons_succ, List.getElem?_cons_zero, List.drop_succ_cons, List.drop_zero]; simp (disch := first | omega | (simp only [lnS]; try omega; done)) [-getElem?_pos, -getElem?_neg, q0, q5, -notTuple, hnt, hvc, nt_intG, nt_ptrG, -xindexAddr, hx, hbb, cz, d5, ca, hxz, hxb, PL_nil, plainB_lit, PL_cons, PLc_val, PLc_new, stepP_t, stepP_f, stepPC_n, stepPC_s, stepPX_s, stepPX_n, stepPV_n, stepPV_s, stepPA_t, stepPA_c, stepPA_l, stepPN_s, allocOp, reloc_sl, reloc_ptr, List.map_cons, List.map_nil, List.nil_append, List.append_assoc, List.cons_append, Nat.add_assoc]
      refine hK _ _ ?_; clear hK K
      refine aw_f (by (first | (simp [eval_tmp, put_at, hxz, hxb]; done) | (simp [eval_tmp, put_at, hxz, hxb]; omega))) (by kernel_rfl) ?_
      refine aw_skip ?_
      (refine aw_ops (by kernel_rfl) (fun K hK => ?_); simp (disch := first | omega | (simp only [lnS]; try omega; done)) [-getElem?_pos, -getElem?_neg, q41]; refine hK _ _ ?_; clear hK K)
      exact ⟨c - 1, by omega, e + 1, by omega, rfl, by (first | (simp [put_at, put_none, fr0_at, q0]; done) | rfl), by (first | (simp [put_at, put_none, fr0_at, q4]; done) | rfl), by (first | (simp [put_at, put_none, fr0_at, q5]; done) | rfl), by (first | (simp [put_at, put_none, fr0_at, q8]; done) | rfl), by rw [hsu]; (first | (simp [put_at, put_none, fr0_at, q10]; done) | rfl), by (first | (simp [put_at, put_none, fr0_at, q39]; done) | rfl), by (first | (simp [put_at, put_none, fr0_at, q40]; done) | rfl), by (first | (simp [put_at, put_none, fr0_at]; done) | rfl)⟩
  (refine aw_ops (by kernel_rfl) (fun K hK => ?_); simp (disch := first | omega | (simp only [lnS]; try omega; done)) [-getElem?_pos, -getElem?_neg, q40, q41, he]; refine hK _ _ ?_; clear hK K)
  refine aw_seq ?_
  refine aw_f (by (first | (simp [eval_tmp, put_at, he]; done) | (simp [eval_tmp, put_at, he]; omega))) (by kernel_rfl) ?_
  refine aw_exit ?_
  obtain rfl : e = P.length := by omega
  rw [List.take_length] at q10
  have c3 := hOG1.c3
  have c1 := hOG1.c1
  have hsq := hw.seq
  unfold U32 at hsq
  have hal := aheadL_le l P o.author
  have rc := count_rc (γ := γ) hNG1 (by simp only [maxLen]; omega) o.author
  have hcl := autN_le l l.length o.author
  generalize aheadL l P o.author = ah at *
  generalize autN l l.length o.author = cn at *
  refine aw_seq ?_
  refine aw_seq ?_
  refine aw_cut (fun α G => α 81 = .bool (!seqOk l o) ∧ α 0 = nv ∧ α 4 = .pointer (some ⟨n, 0, none⟩) ∧ α 5 = .pointer (some ⟨n + 1, 0, none⟩) ∧ α 8 = sv ∧ G = G2) ?_ ?_
  · by_cases hk : o.kind = 1
    · by_cases h0 : 0 < l.length
      · (refine aw_ops (by kernel_rfl) (fun K hK => ?_); simp (disch := first | omega | (simp only [lnS]; try omega; done)) [-getElem?_pos, -getElem?_neg, q0, q5, q10, hk, h0, d5, c3, c1, ca, hul, -notTuple, hnt, hvc, nt_intG, nt_ptrG, -xlen, hxl]; refine hK _ _ ?_; clear hK K)
        exact ⟨by rw [hseq]; simp [hk, h0, put_at], by (first | (simp [put_at, put_none, fr0_at, q0]; done) | rfl), by (first | (simp [put_at, put_none, fr0_at, q4]; done) | rfl), by (first | (simp [put_at, put_none, fr0_at, q5]; done) | rfl), by (first | (simp [put_at, put_none, fr0_at, q8]; done) | rfl), rfl⟩
      · have h0e : l.length = 0 := by omega
        by_cases hs1 : o.seq = 1 + (ah : Int)
        · have hs2 : ¬ o.seq ≠ 1 + (ah : Int) := by omega
          have hs3 : (o.seq == 1 + (ah : Int)) = true := by simp [hs1]
          refine aw_ops (by kernel_rfl) (fun K hK => ?_)
          simp (disch := first | omega | (simp only [lnS]; try omega; done)) [-getElem?_pos, -getElem?_neg, q0, q5, q10, hk, h0, h0e, d5, c3, c1, ca, hul, -notTuple, hnt, hvc, nt_intG, nt_ptrG, -xlen, hxl, hs1, hs3]
          refine ⟨by kernel_rfl, ac_of_rc rc (by simp [pv_iv, pv_int, pv_bool, pv_string, pv_tup2, pv_tup3, iv_plain, p2_int, p2_bool, p2_string]) ?_⟩
          by_cases hcn : ah = cn
          · have hcb : ((ah : Int) == (cn : Int)) = true := by simp [hcn]
            have hci : (ah : Int) = (cn : Int) := by omega
            try simp (disch := first | omega | (simp only [lnS]; try omega; done)) [-getElem?_pos, -getElem?_neg, hcb, hci]
            refine hK _ _ ?_; clear hK K
            refine ⟨by rw [hseq]; simp [hk, h0, h0e, hs1, hcn, put_at], by (first | (simp [put_at, put_none, fr0_at, q0]; done) | rfl), by (first | (simp [put_at, put_none, fr0_at, q4]; done) | rfl), by (first | (simp [put_at, put_none, fr0_at, q5]; done) | rfl), by (first | (simp [put_at, put_none, fr0_at, q8]; done) | rfl), rfl⟩
          · have hci : ¬ (ah : Int) = (cn : Int) := by omega
            have hcb : ((ah : Int) == (cn : Int)) = false := by simp [hci]
            try simp (disch := first | omega | (simp only [lnS]; try omega; done)) [-getElem?_pos, -getElem?_neg, hcb, hci]
            refine hK _ _ ?_; clear hK K
            refine ⟨by rw [hseq]; simp [hci, hk, h0, h0e, hs1, hcn, put_at], by (first | (simp [put_at, put_none, fr0_at, q0]; done) | rfl), by (first | (simp [put_at, put_none, fr0_at, q4]; done) | rfl), by (first | (simp [put_at, put_none, fr0_at, q5]; done) | rfl), by (first | (simp [put_at, put_none, fr0_at, q8]; done) | rfl), rfl⟩
        · have hs3 : (o.seq == 1 + (ah : Int)) = false := by simp [hs1]
          (refine aw_ops (by kernel_rfl) (fun K hK => ?_); simp (disch := first | omega | (simp only [lnS]; try omega; done)) [-getElem?_pos, -getElem?_neg, q0, q5, q10, hk, h0, h0e, d5, c3, c1, ca, hul, -notTuple, hnt, hvc, nt_intG, nt_ptrG, -xlen, hxl, hs1, hs3]; refine hK _ _ ?_; clear hK K)
          refine ⟨by rw [hseq]; simp [hk, h0, h0e, hs1, put_at], by (first | (simp [put_at, put_none, fr0_at, q0]; done) | rfl), by (first | (simp [put_at, put_none, fr0_at, q4]; done) | rfl), by (first | (simp [put_at, put_none, fr0_at, q5]; done) | rfl), by (first | (simp [put_at, put_none, fr0_at, q8]; done) | rfl), rfl⟩
    · have hkb : (o.kind == 1) = false := by simp [hk]
      by_cases hs1 : o.seq = 1 + (ah : Int)
      · have hs2 : ¬ o.seq ≠ 1 + (ah : Int) := by omega
        have hs3 : (o.seq == 1 + (ah : Int)) = true := by simp [hs1]
        refine aw_ops (by kernel_rfl) (fun K hK => ?_)
        simp (disch := first | omega | (simp only [lnS]; try omega; done)) [-getElem?_pos, -getElem?_neg, q0, q5, q10, hk, hkb, d5, c3, c1, ca, hul, -notTuple, hnt, hvc, nt_intG, nt_ptrG, -xlen, hxl, hs1, hs3]
        refine ⟨by kernel_rfl, ac_of_rc rc (by simp [pv_iv, pv_int, pv_bool, pv_string, pv_tup2, pv_tup3, iv_plain, p2_int, p2_bool, p2_string]) ?_⟩
        by_cases hcn : ah = cn
        · have hcb : ((ah : Int) == (cn : Int)) = true := by simp [hcn]
          have hci : (ah : Int) = (cn : Int) := by omega
          try simp (disch := first | omega | (simp only [lnS]; try omega; done)) [-getElem?_pos, -getElem?_neg, hcb, hci]
          refine hK _ _ ?_; clear hK K
          refine ⟨by rw [hseq]; simp [hk, hkb, hs1, hcn, put_at], by (first | (simp [put_at, put_none, fr0_at, q0]; done) | rfl), by (first | (simp [put_at, put_none, fr0_at, q4]; done) | rfl), by (first | (simp [put_at, put_none, fr0_at, q5]; done) | rfl), by (first | (simp [put_at, put_none, fr0_at, q8]; done) | rfl), rfl⟩
        · have hci : ¬ (ah : Int) = (cn : Int) := by omega
          have hcb : ((ah : Int) == (cn : Int)) = false := by simp [hci]
          try simp (disch := first | omega | (simp only [lnS]; try omega; done)) [-getElem?_pos, -getElem?_neg, hcb, hci]
          refine hK _ _ ?_; clear hK K
          refine ⟨by rw [hseq]; simp [hci, hk, hkb, hs1, hcn, put_at], by (first | (simp [put_at, put_none, fr0_at, q0]; done) | rfl), by (first | (simp [put_at, put_none, fr0_at, q4]; done) | rfl), by (first | (simp [put_at, put_none, fr0_at, q5]; done) | rfl), by (first | (simp [put_at, put_none, fr0_at, q8]; done) | rfl), rfl⟩
      · have hs3 : (o.seq == 1 + (ah : Int)) = false := by simp [hs1]
        (refine aw_ops (by kernel_rfl) (fun K hK => ?_); simp (disch := first | omega | (simp only [lnS]; try omega; done)) [-getElem?_pos, -getElem?_neg, q0, q5, q10, hk, hkb, d5, c3, c1, ca, hul, -notTuple, hnt, hvc, nt_intG, nt_ptrG, -xlen, hxl, hs1, hs3]; refine hK _ _ ?_; clear hK K)
        refine ⟨by rw [hseq]; simp [hk, hkb, hs1, put_at], by (first | (simp [put_at, put_none, fr0_at, q0]; done) | rfl), by (first | (simp [put_at, put_none, fr0_at, q4]; done) | rfl), by (first | (simp [put_at, put_none, fr0_at, q5]; done) | rfl), by (first | (simp [put_at, put_none, fr0_at, q8]; done) | rfl), rfl⟩
  clear q0 q4 q5 q8 q10 q39 q40 q41
  rintro α G3 ⟨q81, q0, q4, q5, q8, rfl⟩
  cases hso : seqOk l o with
  | false =>
    rw [hso] at q81
    refine aw_t (by (first | (simp [eval_tmp, put_at, q81]; done) | (simp [eval_tmp, put_at, q81]; omega))) (by kernel_rfl) ?_
    refine aw_seq ?_
    (refine aw_ops (by kernel_rfl) (fun K hK => ?_); simp (disch := first | omega | (simp only [lnS]; try omega; done)) [-getElem?_pos, -getElem?_neg]; refine hK _ _ ?_; clear hK K)
    (refine aw_ret ?_; simp (disch := first | omega | (simp only [lnS]; try omega; done)) [-getElem?_pos, -getElem?_neg, thenQ_ret, scopeQ_ret, inBlockQ_ret, RQ, resL, resV])
    exact AddQ.bad (hn ▸ hlowG1) (by rw [hle, if_pos hso]) (by decide)
  | true =>
  rw [hso] at q81
  refine aw_f (by (first | (simp [eval_tmp, put_at, q81]; done) | (simp [eval_tmp, put_at, q81]; omega))) (by kernel_rfl) ?_
  refine aw_skip ?_
  refine aw_seq ?_
  have hadd0 : addE l id o = 0 := by rw [hle, if_neg (by simp [hso])]
  obtain ⟨L0, hL0⟩ : ∃ k, k = G3.length := ⟨_, rfl⟩
  obtain ⟨N, hcN⟩ := deepNodes_ac (nro := n) (γ := γ) hNG1 (by omega) (right_sm h1) (by omega)
  rw [← hL0] at hcN
  have hxw : (addD l id o).Wf := by
    rw [hdd]
    refine ⟨hid, hw, fun z hz => ?_, by simp only [maxLen]; omega⟩
    obtain ⟨k, rfl, hk⟩ := hPb z hz
    unfold I64
    omega
  have hcO : ∀ A : AH, A.length = N → Low L0 G3 A → AC Try.prog n γ 55 #[.agg us.toArray] A (DeepO A o pv wv bv) := fun A hA hlow => deepOp_ac (nro := n) (γ := γ) (hOG1.low (fun j hj => hlow.1 j (by omega))) hw ⟨by omega, by omega, by omega⟩ (by have := hlow.2; omega)
  unfold DeepO at hcO
  have hbl := build_node (x := addD l id o) (pv := opP pv N) (wv := opW pv wv N) (bv := opB pv wv bv N) hxw v1 v2
  have hrl := nodeRow_len hxw (opP pv N) (opW pv wv N) (opB pv wv bv N) sv
  have hrv : ∀ D : AH, KsV D (opP pv N) o.parents → InV D (opW pv wv N) o.who → BxV D (opB pv wv bv N) o.boxes → InV D sv P → ValL D (addD l id o).row (nodeRow (addD l id o) (opP pv N) (opW pv wv N) (opB pv wv bv N) sv) := fun D k1 k2 k3 k4 => by
    have : (addD l id o).past = P := by rw [hdd]
    exact node_val (x := addD l id o) k1 k2 k3 (by rw [this]; exact k4)
  have hxid : (addD l id o).id = id := rfl
  have hxop : (addD l id o).op = o := rfl
  rw [hxid, hxop] at hbl
  obtain ⟨ov, hov⟩ : ∃ ov, ov = opRow o (opP pv N) (opW pv wv N) (opB pv wv bv N) := ⟨_, rfl⟩
  have hovl := opRow_len hw (opP pv N) (opW pv wv N) (opB pv wv bv N)
  rw [← hov] at hbl hovl
  have hwfx : ∀ x ∈ l ++ [addD l id o], x.Wf := fun x hx => by
    rcases List.mem_append.1 hx with hx | hx
    · exact hN.wf x hx
    · rw [List.mem_singleton] at hx; subst hx; exact hxw
  obtain ⟨row, hrow⟩ : ∃ r, r = nodeRow (addD l id o) (opP pv N) (opW pv wv N) (opB pv wv bv N) sv := ⟨_, rfl⟩
  rw [← hrow] at hbl hrl hrv
  have hown0 := hown
  have hFl := hown.lt
  obtain ⟨N2, hN2⟩ : ∃ k, k = N + opN pv wv bv := ⟨_, rfl⟩
  obtain ⟨Φ, e0, e1, e2, e3, e4, eS⟩ : ∃ Φ : Nat → AH → Prop, (∀ A, Φ 0 A ↔ A = G3) ∧ (∀ A, Φ 1 A ↔ (A.length = N ∧ Low L0 G3 A ∧ ∃ R, NewRows (L0 + 1) A R l ∧ hget A L0 = some ⟨R.flatten, 39, some 104⟩)) ∧
      (∀ A, Φ 2 A ↔ (A.length = N2 ∧ Low L0 G3 A ∧ L0 < N ∧ NewO N A o (opP pv N) (opW pv wv N) (opB pv wv bv N) ∧ ∃ R, NewRows (L0 + 1) A R l ∧ hget A L0 = some ⟨R.flatten, 39, some 104⟩)) ∧
      (∀ A, Φ 3 A ↔ ∃ B, Φ 2 B ∧ A = B ++ [some ⟨row, 39, some 104⟩]) ∧ (∀ A, Φ 4 A ↔ (Low L0 G3 A ∧ NewG n A (.slice (some ⟨N2 + 1, 0, none⟩) (l.length + 1) (l.length + 1)) (l ++ [addD l id o]))) ∧ (∀ s A, Φ s A → Low L0 G3 A) := by
    refine ⟨fun s A => match s with
      | 0 => A = G3
      | 1 => A.length = N ∧ Low L0 G3 A ∧ ∃ R, NewRows (L0 + 1) A R l ∧ hget A L0 = some ⟨R.flatten, 39, some 104⟩
      | 2 => A.length = N2 ∧ Low L0 G3 A ∧ L0 < N ∧ NewO N A o (opP pv N) (opW pv wv N) (opB pv wv bv N) ∧ ∃ R, NewRows (L0 + 1) A R l ∧ hget A L0 = some ⟨R.flatten, 39, some 104⟩
      | 3 => ∃ B : AH, (B.length = N2 ∧ Low L0 G3 B ∧ L0 < N ∧ NewO N B o (opP pv N) (opW pv wv N) (opB pv wv bv N) ∧ ∃ R, NewRows (L0 + 1) B R l ∧ hget B L0 = some ⟨R.flatten, 39, some 104⟩) ∧ A = B ++ [some ⟨row, 39, some 104⟩]
      | _ => Low L0 G3 A ∧ NewG n A (.slice (some ⟨N2 + 1, 0, none⟩) (l.length + 1) (l.length + 1)) (l ++ [addD l id o]), fun _ => Iff.rfl, fun _ => Iff.rfl, fun _ => Iff.rfl, fun _ => Iff.rfl, fun _ => Iff.rfl, fun s A h => ?_⟩
    match s, h with
    | 0, h => cases h; rw [hL0]; exact Low.refl (Nat.le_refl _)
    | 1, h => exact h.2.1
    | 2, h => exact h.2.1
    | 3, ⟨B, h, hA⟩ => rw [hA]; exact ⟨fun j hj => (hget_left (by have := h.2.1.2; omega)).trans (h.2.1.1 j hj), by have := h.2.1.2; rw [List.length_append]; omega⟩
    | s + 4, h => exact h.1
  refine aw_chain (fun j => j == n || j == n + 1) Φ (by kernel_rfl) (by kernel_rfl) (by kernel_rfl) (fun s A h j hj => by
    have e : j = n ∨ j = n + 1 := by simpa using hj
    exact (eS s A h).1 j (by omega)) ((e0 _).2 rfl) (fun K hK => ?_)
  simp (disch := first | omega | (simp only [lnS]; try omega; done)) [-getElem?_pos, -getElem?_neg, q0, q4, q5, q8, d4, d5, hivl, hta, hul, htu, -notTuple, hnt, hvc, v1, v2, nt_intG, nt_aggG, nt_slG, CL_nil, CL_cons, CLc_val, CLc_skip, memS, inS, inSp, isCallF, effF]
  refine CLc_call (v := .slice (some ⟨L0, 0, none⟩) l.length l.length) (by kernel_rfl) (fun A hA => ?_) ?_
  · obtain rfl := (e0 _).1 hA
    exact hcN.mono fun v' A' h => ⟨h.1, (e1 _).2 h.2⟩
  try simp (disch := first | omega | (simp only [lnS]; try omega; done)) [-getElem?_pos, -getElem?_neg, q0, q4, q5, q8, d4, d5, hivl, hta, hul, htu, -notTuple, hnt, hvc, v1, v2, nt_intG, nt_aggG, nt_slG, CL_nil, CL_cons, CLc_val, CLc_skip, memS, inS, inSp, isCallF, effF]
  refine CLc_call (v := .agg ov.toArray) (by kernel_rfl) (fun A hA => ?_) ?_
  · obtain ⟨g1, g2, R, g3, g4⟩ := (e1 _).1 hA
    refine (hcO A g1 g2).mono ?_
    rintro v' A' ⟨k1, k2, k3, k4⟩
    rw [g1] at k1 k2 k3 k4
    have hL0A := hget_lt g4
    refine ⟨by rw [hov]; exact k1, (e2 _).2 ⟨by omega, ⟨fun j hj => (k3.1 j (by omega)).trans (g2.1 j hj), by have := k3.2; omega⟩, by omega, k4, R, g3.keep (fun j _ hj => k3.1 j (by omega)) (by have := k3.2; omega), (k3.1 L0 (by omega)).trans g4⟩⟩
  try simp (disch := first | omega | (simp only [lnS]; try omega; done)) [-getElem?_pos, -getElem?_neg, q0, q4, q5, q8, d4, d5, hivl, hta, hul, htu, -notTuple, hnt, hvc, v1, v2, nt_intG, nt_aggG, nt_slG, -xbuild, hbl, CL_nil, CL_cons, CLc_val, CLc_skip, memS, inS, inSp, isCallF, effF]
  have hfil : ∀ Z : List Value, Z.length = 104 → xfill (fun i => some (i * 104, 104)) Z [(0, .agg row.toArray)] = some row := fun Z hZ => fill_row hrl hZ
  have hp0 : plain1 (.slice none 0 0) = true := rfl
  refine CLc_eff (v := .slice (some ⟨N2, 0, none⟩) 1 1) (fun A hA => ?_) ?_
  · have hA' := (e2 _).1 hA
    refine ⟨A ++ [some ⟨row, 39, some 104⟩], ?_, (e3 _).2 ⟨A, hA, rfl⟩⟩
    have g1 := hA'.1
    simp (disch := first | omega | (simp only [lnS]; try omega; done)) [-getElem?_pos, -getElem?_neg, -xfill, nt_aggG, hp0, all_zl, g1]
    rw [hfil _ (by simp)]
  try simp (disch := first | omega | (simp only [lnS]; try omega; done)) [-getElem?_pos, -getElem?_neg, CL_nil, CL_cons, CLc_val, CLc_skip, memS, inS, inSp, isCallF, effF]
  refine CLc_eff (v := .slice (some ⟨N2 + 1, 0, none⟩) (l.length + 1) (l.length + 1)) (fun A hA => ?_) ?_
  · obtain ⟨B, hB, rfl⟩ := (e3 _).1 hA
    obtain ⟨g1, g2, hLN, g3, R, g4, g5⟩ := (e2 _).1 hB
    have hL0B := hget_lt g5
    have hRl := fl_len g4.len
    rw [g4.1] at hRl
    have htr : List.take 104 row = row := List.take_of_length_le (by omega)
    have hxc : xcells 104 (.slice (some ⟨N2, 0, none⟩) 1 1) (B ++ [some ⟨row, 39, some 104⟩]) = some row := by rw [← g1]; simp [xcells, hget_app0, hrl, htr]
    obtain ⟨v', H', hap, ho, hl', hk'⟩ := ownF_append (P := Try.prog) (nro := n) (t := 22) (e := 39) (H := B ++ ([some ⟨row, 39, some 104⟩] : AH)) (v := .slice (some ⟨L0, 0, none⟩) l.length l.length) (x := .slice (some ⟨N2, 0, none⟩) 1 1) (sz := 104) (cells := R.flatten) (news := row) (F := [L0]) (by simp) (by simp) (by omega) (by simp) (.inr ⟨L0, l.length, rfl, hget_left' g5, hRl, rfl⟩)
      (fun j hj => by simp at hj; omega) (fun s e => by cases e) hxc (fun e => by rw [e] at hrl; simp at hrl) (by rw [hrl]) (by rw [hRl, hrl]; simp; omega) (by rw [hRl, hrl]; simp only [maxLen]; omega)
    have hBl : (B ++ ([some ⟨row, 39, some 104⟩] : AH)).length = N2 + 1 := by simp [g1]
    rw [hBl] at ho hl' hk'
    obtain ⟨len, rfl⟩ := ho.new
    have hlen : len = l.length + 1 := by
      rcases ho with ⟨h, _, _⟩ | ⟨i, k, he, _, h3, _⟩
      · cases h
      · cases he
        rw [List.length_append, hRl, hrl] at h3
        omega
    subst hlen
    have hnew : hget H' (N2 + 1) = some ⟨R.flatten ++ row, 39, some 104⟩ := by
      rcases ho with ⟨h, _, _⟩ | ⟨i, k, he, h2, _, _⟩
      · cases h
      · cases he; exact h2
    have hold : ∀ j, j < N2 → j ≠ L0 → hget H' j = hget B j := fun j hj hn => (hk' j (by omega) (by simpa using hn)).trans (hget_left (by omega))
    refine ⟨H', ?_, (e4 _).2 ⟨⟨fun j hj => (hold j (by omega) (by omega)).trans (g2.1 j hj), by omega⟩, fun D hD => ?_⟩⟩
    · simp (disch := first | omega | (simp only [lnS]; try omega; done)) [-getElem?_pos, -getElem?_neg, -xappend, hap]
    · have hD2 : ∀ j, n ≤ j → j < N2 → j ≠ L0 → hget D j = hget B j := fun j h1 h2 h3 => (hD j h1 (by omega)).trans (hold j h2 h3)
      obtain ⟨k1, k2, k3⟩ := g3 D (fun j h1 h2 => hD2 j (by omega) (by omega) (by omega))
      have ho2 := hown0.low (H' := D) (fun j hj => (hD2 j (by have := hFn j hj; omega) (by have := hFl j hj; omega) (by have := hFl j hj; omega)).trans (g2.1 j (by have := hFl j hj; omega)))
      have hrow2 := hrv D k1 k2 k3 (own_inv ho2)
      have hfin := rows_val (D := D) (b := N2 + 1) (T := 39) (es := some 104) (R := R ++ [row]) (L := l ++ [addD l id o]) (by rw [hD (N2 + 1) (by omega) (by omega), hnew]; simp) (by simp [g4.1]) hwfx (fun k us' x hk hx => by
        rcases Nat.lt_or_ge k l.length with hkl | hkl
        · rw [List.getElem?_append_left (by rw [g4.1]; exact hkl)] at hk
          rw [List.getElem?_append_left hkl] at hx
          have := g4.2 k us' x hk hx
          exact ⟨this.1, this.2 D (fun j h1 h2 => hD2 j (by omega) (by omega) (by omega))⟩
        · rw [List.getElem?_append_right (by rw [g4.1]; exact hkl), g4.1] at hk
          rw [List.getElem?_append_right hkl] at hx
          match k - l.length, hk, hx with
          | 0, hk, hx => cases hk; cases hx; exact ⟨hrl, hrow2⟩)
      rw [List.length_append] at hfin
      exact hfin
  try simp (disch := first | omega | (simp only [lnS]; try omega; done)) [-getElem?_pos, -getElem?_neg, CL_nil, CL_cons, CLc_val, CLc_skip, memS, inS, inSp, isCallF, effF]
  intro A hA
  obtain ⟨g1, g2⟩ := (e4 _).1 hA
  refine hK _ _ ?_; clear hK K
  (refine aw_ret ?_; simp (disch := first | omega | (simp only [lnS]; try omega; done)) [-getElem?_pos, -getElem?_neg, thenQ_ret, scopeQ_ret, inBlockQ_ret, RQ, resL, resV])
  refine ⟨⟨fun j hj => (g1.1 j (by omega)).trans (hlowG1.1 j (by omega)), by have := g1.2; omega⟩, _, by rw [hadd0], .inl ⟨hadd0, hn ▸ g2⟩⟩
end
section
theorem opC_row {G : AH} {o : OpD} {pv wv bv : Value} (hw : o.Wf) (h1 : KsV G pv o.parents) (h2 : InV G wv o.who) (h3 : BxV G bv o.boxes) : OpC G (opRow o pv wv bv) o pv wv bv := by
  obtain ⟨pv', wv', bv', h⟩ := op_c hw (op_val h1 h2 h3)
  have e2 := h.c2
  have e4 := h.c4
  have e70 := h.c70
  rw [opRow_2] at e2
  rw [opRow_4] at e4
  rw [opRow_70 hw] at e70
  cases e2; cases e4; cases e70
  exact h
def key1 (x : Int) : List Int := x :: zl 31
def opC1 (a s k : Int) (ps : List (List Int)) (who : List Int) : OpD := ⟨a, s, ps, k, who, zl 32, key1 1, ByteArray.empty, []⟩
theorem key1_32 (x : Int) : (key1 x).length = 32 := by simp [key1]
theorem key1_ok {x : Int} (h : 0 ≤ x ∧ x ≤ 255) : Key32 (key1 x) := ⟨key1_32 x, fun y hy => by
  rcases List.mem_cons.1 hy with rfl | hy
  · exact h
  · have : y = 0 := by
      unfold zl at hy
      exact (List.mem_replicate.1 hy).2
    omega⟩
theorem build_key (x : Int) : xbuild Try.prog 24 [(0, .int .u8 x)] = some (.agg (iv .u8 (key1 x)).toArray) := by
  kernel_rfl
theorem build_create (x : Int) (d : Addr) (n : Nat) : xbuild Try.prog 37 [(0, .int .i64 x), (1, .int .u32 1), (3, .int .i64 1), (4, .slice (some d) n n), (6, .agg (iv .u8 (key1 1)).toArray)] = some (.agg (opRow (opC1 x 1 1 [] []) (.slice none 0 0) (.slice (some d) n n) (.slice none 0 0)).toArray) := by kernel_rfl
theorem build_update (x s : Int) (d : Addr) (n : Nat) : xbuild Try.prog 37 [(0, .int .i64 x), (1, .int .u32 s), (3, .int .i64 4), (2, .slice (some d) n n), (6, .agg (iv .u8 (key1 1)).toArray)] = some (.agg (opRow (opC1 x s 4 [] []) (.slice (some d) n n) (.slice none 0 0) (.slice none 0 0)).toArray) := by kernel_rfl
/-- Parents and who don't stand in the row itself. -/
theorem opRow_c1 (a s k : Int) (ps : List (List Int)) (who : List Int) (pv wv bv : Value) : opRow (opC1 a s k [] []) pv wv bv = opRow (opC1 a s k ps who) pv wv bv := rfl
attribute [local simp] wb_bool wb_undef with_lit XL_nil XL_cons XLc_val XLc_call step1_eq stepW_t stepW_f stepC_n stepC_s stepX_s stepX_n stepN_s calleeX oneV xop_eq xopR_s xopR_n wantedA_eq wantedG_n wantedG_s plain1_int plain1_bool plain1_string bits_i64 bits_u64 bits_u32 bits_u16 bits_u8 xeqA xagg xcmp xarr allK_iv num_iv calleeOf xread xeff xbin xint xnil xun xstr xload xconv xpart xfield xfieldAddr xindexAddr xindex bnd asInt? xslice xlen xmin xmax xbuild xfill xappend xapp2 xappstr xappmk xcap xcopy xcells eval_tmp eval_const put_at put_none fr0_at cells_agg cells_int cells_bool cells_string cells_ptr cells_slice notTuple tab iv_all hget_app hget_app0 hget_cons0 hget_cons set_app set_app0 setR setR_one QL_nil QL_cons QLc_val stepQ_t stepQ_f stepQC_n stepQC_s stepQX_s SL_nil SL_cons SLc_val stepS_t stepS_f ltT ltF leT leF eqT eqF ltTn ltFn leTn leFn eqTn eqFn beqT beqF bneT bneF wi64 wu64 wu32 wu16 wu8 tmodP tdivP hgetL hgetNe hgetEq setL nums_def nums_len Nat.succ_le_of_lt List.getElem?_cons_zero List.getElem?_cons_succ Option.getD_some Int.toNat_add Int.toNat_mul agM okM agB agI agS agP agL agA okB okI okS okP okSl okA
theorem create_ac {nro : Nat} {γ : Nat → Option Nat} {H : AH} {d : Addr} {l : List Int} {a : Int} (h : InV H (.slice (some d) l.length l.length) l) (h0 : l[0]? = some a) (hnro : nro ≤ H.length) : AC Try.prog nro γ 29 #[.slice (some d) l.length l.length] H (fun v' H' => v' = .agg (opRow (opC1 a 1 1 [] l) (.slice none 0 0) (.slice (some d) l.length l.length) (.slice none 0 0)).toArray ∧ Low H.length H H') := by
  have hl0 := (List.getElem?_eq_some_iff.1 h0).1
  obtain ⟨p, x, p1, p2, p3, p4, p5⟩ := h.acc.at_ 0 hl0
  have ha : l.getD 0 0 = a := by rw [List.getD_eq_getElem?_getD, h0]; rfl
  rw [ha] at p4
  subst p4
  have hb := build_create a d l.length
  have hk := build_key 1
  rw [opRow_c1 a 1 1 [] l] at hb
  have hrl : (opRow (opC1 a 1 1 [] l) (.slice none 0 0) (.slice (some d) l.length l.length) (.slice none 0 0)).length = 71 := rfl
  generalize iv .u8 (key1 1) = kk at *
  generalize opRow (opC1 a 1 1 [] l) (.slice none 0 0) (.slice (some d) l.length l.length) (.slice none 0 0) = R at *
  have hset : ∀ Z : List Value, Z.length = 71 → setR Z 0 R = R := fun Z hZ => setR_all _ _ (by omega)
  have htk : R.take 71 = R := List.take_of_length_le (by omega)
  have p2 : xindexAddr Try.prog 34 (.slice (some d) l.length l.length) (.int .i64 0) = some p := p2
  refine ac_of_aw Try.func29 rfl Try.ntmps29 Try.results29 (by simp) ?_
  refine aw_seq ?_
  (refine aw_ops (by kernel_rfl) (fun K hK => ?_); simp (disch := first | omega | (simp only [lnS]; try omega; done)) [-getElem?_pos, -getElem?_neg, all_zl]; refine hK _ _ ?_; clear hK K)
  have p5 : ∀ B : Blk, xload Try.prog 3 p (H ++ [some B]) = some (.int .i64 a) := fun B => p5 _ (Low.push (Nat.le_refl _) _)
  refine aw_seq ?_
  refine aw_ops (by kernel_rfl) (fun K hK => ?_)
  simp (disch := first | omega | (simp only [lnS]; try omega; done)) [-getElem?_pos, -getElem?_neg, -xindexAddr, p2, p1, -xload, p5, -xbuild, hk, hb, nt_aggG, hrl, hset, hnro]
  refine hK _ _ ?_; clear hK K
  obtain ⟨hlow2, hb2⟩ := boxed (H := H) R 37
  generalize H ++ [some ⟨R, 37, none⟩] = G at *
  (refine aw_ret ?_; simp (disch := first | omega | (simp only [lnS]; try omega; done)) [-getElem?_pos, -getElem?_neg, thenQ_ret, scopeQ_ret, inBlockQ_ret, RQ, resL, resV, hb2, hrl, htk])
  exact hlow2
theorem update_ac {nro : Nat} {γ : Nat → Option Nat} {H : AH} {d : Addr} {ps : List (List Int)} {a s : Int} (hnro : nro ≤ H.length) : AC Try.prog nro γ 30 #[.int .i64 a, .int .u32 s, .slice (some d) ps.length ps.length] H (fun v' H' => v' = .agg (opRow (opC1 a s 4 ps []) (.slice (some d) ps.length ps.length) (.slice none 0 0) (.slice none 0 0)).toArray ∧ Low H.length H H') := by
  have hb := build_update a s d ps.length
  have hk := build_key 1
  rw [opRow_c1 a s 4 ps []] at hb
  have hrl : (opRow (opC1 a s 4 ps []) (.slice (some d) ps.length ps.length) (.slice none 0 0) (.slice none 0 0)).length = 71 := rfl
  generalize iv .u8 (key1 1) = kk at *
  generalize opRow (opC1 a s 4 ps []) (.slice (some d) ps.length ps.length) (.slice none 0 0) (.slice none 0 0) = R at *
  have hset : ∀ Z : List Value, Z.length = 71 → setR Z 0 R = R := fun Z hZ => setR_all _ _ (by omega)
  have htk : R.take 71 = R := List.take_of_length_le (by omega)
  refine ac_of_aw Try.func30 rfl Try.ntmps30 Try.results30 (by simp) ?_
  refine aw_seq ?_
  (refine aw_ops (by kernel_rfl) (fun K hK => ?_); simp (disch := first | omega | (simp only [lnS]; try omega; done)) [-getElem?_pos, -getElem?_neg, all_zl]; refine hK _ _ ?_; clear hK K)
  refine aw_seq ?_
  (refine aw_ops (by kernel_rfl) (fun K hK => ?_); simp (disch := first | omega | (simp only [lnS]; try omega; done)) [-getElem?_pos, -getElem?_neg, -xbuild, hk, hb, nt_aggG, hrl, hset, hnro]; refine hK _ _ ?_; clear hK K)
  obtain ⟨hlow2, hb2⟩ := boxed (H := H) R 37
  generalize H ++ [some ⟨R, 37, none⟩] = G at *
  (refine aw_ret ?_; simp (disch := first | omega | (simp only [lnS]; try omega; done)) [-getElem?_pos, -getElem?_neg, thenQ_ret, scopeQ_ret, inBlockQ_ret, RQ, resL, resV, hb2, hrl, htk])
  exact hlow2
def aO1 : OpD := opC1 0 1 1 [] [0, 1]
def aO2 : OpD := opC1 1 1 4 [key1 1] []
def aO3 : OpD := opC1 0 2 4 [key1 1] []
def aL1 : List NodeD := [⟨key1 1, aO1, []⟩]
def aL2 : List NodeD := aL1 ++ [⟨key1 2, aO2, [0]⟩]
def aL3 : List NodeD := aL2 ++ [⟨key1 3, aO3, [0]⟩]
theorem opC1_wf {a s k : Int} {ps : List (List Int)} {who : List Int} (ha : I64 a) (hs : U32 s) (hk : I64 k) (hp : ∀ p ∈ ps, Key32 p) (hpl : ps.length ≤ 100) (hw : ∀ z ∈ who, I64 z) (hwl : who.length ≤ 100) : (opC1 a s k ps who).Wf := by
  refine ⟨ha, hs, hp, by simp only [maxLen]; show ps.length ≤ _; omega, hk, hw, by simp only [maxLen]; show who.length ≤ _; omega, ⟨by simp [opC1], fun y hy => ?_⟩, key1_ok (by omega), by simp [opC1], fun b hb => (by cases hb), by simp [opC1]⟩
  have : y = 0 := (List.mem_replicate.1 hy).2
  omega
theorem aO1_wf : aO1.Wf := opC1_wf (by unfold I64; omega) (by unfold U32; omega) (by unfold I64; omega) (by simp) (by simp) (by unfold I64; simp) (by simp)
theorem aO2_wf : aO2.Wf := opC1_wf (by unfold I64; omega) (by unfold U32; omega) (by unfold I64; omega) (fun p hp => by simp at hp; subst hp; exact key1_ok (by omega)) (by simp) (by simp) (by simp)
theorem aO3_wf : aO3.Wf := opC1_wf (by unfold I64; omega) (by unfold U32; omega) (by unfold I64; omega) (fun p hp => by simp at hp; subst hp; exact key1_ok (by omega)) (by simp) (by simp) (by simp)
theorem aL1_wf : ∀ x ∈ aL1, x.Wf := fun x hx => by
  rw [aL1, List.mem_singleton] at hx
  subst hx
  exact ⟨key1_ok (by omega), aO1_wf, fun z hz => (by cases hz), by simp⟩
theorem aL2_wf : ∀ x ∈ aL2, x.Wf := fun x hx => by
  rcases List.mem_append.1 hx with hx | hx
  · exact aL1_wf x hx
  · rw [List.mem_singleton] at hx
    subst hx
    exact ⟨key1_ok (by omega), aO2_wf, fun z hz => by unfold I64; simp at hz; subst hz; omega, by simp [maxLen]⟩
theorem aL3_wf : ∀ x ∈ aL3, x.Wf := fun x hx => by
  rcases List.mem_append.1 hx with hx | hx
  · exact aL2_wf x hx
  · rw [List.mem_singleton] at hx
    subst hx
    exact ⟨key1_ok (by omega), aO3_wf, fun z hz => by unfold I64; simp at hz; subst hz; omega, by simp [maxLen]⟩
theorem add1 : addE [] (key1 1) aO1 = 0 ∧ [] ++ [addD [] (key1 1) aO1] = aL1 := ⟨by decide +kernel, by unfold addD aL1; rfl⟩
theorem past2 : pastL aL1 aL1.length aO2.parents = [0] := by decide +kernel
theorem past3 : pastL aL2 aL2.length aO3.parents = [0] := by decide +kernel
theorem add2 : addE aL1 (key1 2) aO2 = 0 ∧ aL1 ++ [addD aL1 (key1 2) aO2] = aL2 := ⟨by decide +kernel, by unfold addD; rw [past2]; rfl⟩
theorem add3 : addE aL2 (key1 3) aO3 = 0 ∧ aL2 ++ [addD aL2 (key1 3) aO3] = aL3 := ⟨by decide +kernel, by unfold addD; rw [past3]; rfl⟩
theorem al_apart : apartB aL3 1 2 = true := by decide +kernel
theorem al_ahead : aheadB aL3 0 2 = true := by decide +kernel
theorem al_right : rightG aL3 = true := by decide +kernel
theorem al_heads : headsL aL3 = [key1 2, key1 3] := by
  have e : headK aL3 = [key1 2, key1 3] := by decide +kernel
  unfold headsL
  rw [e]
  refine (sortK_eq (.refl _) ?_).symm
  unfold Rise
  decide +kernel
/-- Nodes of new memory, by their addresses. -/
theorem NewG.nda {n : Nat} {H G : AH} {v : Value} {l : List NodeD} (h : NewG n H v l) (hw : ∀ x ∈ l, x.Wf) (hk : KeepN n H G) : NdA G v l := (h G hk).nda hw
theorem nil_nda (H : AH) : NdA H (.slice none 0 0) [] := NdV.nda (CD.Val.nil (fun x e => by cases e)) (fun x hx => by cases hx)
theorem AddQ.zero {l : List NodeD} {id : List Int} {o : OpD} {H : AH} {v' : Value} {H' : AH} {L : List NodeD} (h : AddQ l id o H v' H') (hz : addE l id o = 0 ∧ l ++ [addD l id o] = L) : Low H.length H H' ∧ ∃ sv, v' = .tuple #[sv, .int .i64 0] ∧ NewG H.length H' sv L := by
  obtain ⟨h1, sv, h2, h3⟩ := h
  rw [hz.1] at h2
  refine ⟨h1, sv, h2, ?_⟩
  rcases h3 with ⟨_, h3⟩ | ⟨h3, _⟩
  · rw [← hz.2]; exact h3
  · exact absurd hz.1 h3
theorem NewG.sh {n : Nat} {H : AH} {v : Value} {l : List NodeD} (h : NewG n H v l) : notTuple v = true ∧ v.cells = #[v] := val_nt (h H (fun _ _ _ => rfl))
theorem kr_ksv {G : AH} {v : Value} {F : List Nat} {ps : List (List Int)} (h : OwnF G v 24 32 (kr ps) F) (hk : K32 ps) : KsV G v ps := by
  rw [← ksC_kr] at h
  exact own_val (by omega) h (kd_len hk) (kd_flat ps)
theorem alive_rc {γ : Nat → Option Nat} {H : AH} : AC Try.prog H.length γ 9 #[] H (fun v' _ => v' = .bool true) := by
  have k1 := build_key 1
  have k2 := build_key 2
  have k3 := build_key 3
  obtain ⟨n, hn⟩ : ∃ n, n = H.length := ⟨_, rfl⟩
  rw [← hn]
  refine ac_of_aw Try.func9 rfl Try.ntmps9 Try.results9 (by simp) ?_
  refine aw_seq ?_
  (refine aw_ops (by kernel_rfl) (fun K hK => ?_); simp (disch := first | omega | (simp only [lnS]; try omega; done)) [-getElem?_pos, -getElem?_neg]; refine hK _ _ ?_; clear hK K)
  refine aw_seq ?_
  refine aw_ops (by kernel_rfl) (fun K hK => ?_)
  have f2 : ((List.map (fun j => [Value.int .i64 0][j % 1]?.getD undef) (List.range 2)).set 0 (.int .i64 0)).set 1 (.int .i64 1) = iv .i64 [0, 1] := rfl
  have x0 : notTuple (.slice none 0 0) = true := rfl
  have x1 : (Value.slice none 0 0).cells = #[.slice none 0 0] := rfl
  have q1 : (iv .u8 (key1 1)).length = 32 := by rw [iv_length, key1_32]
  have fk := fill_keyG (k := .u8) (x := key1 1) (n := 32) (zl 32) q1
  have hnil : ∀ G : AH, KsV G (.slice none 0 0) [] ∧ InV G (.slice none 0 0) [] ∧ BxV G (.slice none 0 0) [] := fun G => ⟨.nil (fun x e => by cases e), .nil (fun x e => by cases e), .nil (fun x e => by cases e)⟩
  have thw : ∀ {G : AH} {l : List NodeD} {id : List Int} {o : OpD} (v : Value) (G' : AH), AddQ l id o G v G' → G.length ≤ G'.length ∧ ∀ j, j < G.length → hget G' j = hget G j := fun v G' h => ⟨h.1.2, h.1.1⟩
  simp (disch := first | omega | (simp only [lnS]; try omega; done)) [-getElem?_pos, -getElem?_neg, -xbuild, k1, f2]
  rw [← hn]
  obtain ⟨G1, hG1⟩ : ∃ G : AH, G = H ++ [some ⟨iv .i64 [0, 1], 3, some 1⟩] := ⟨_, rfl⟩
  have lw1 : Low n H G1 := by rw [hG1, hn]; exact Low.push (Nat.le_refl _) _
  have i1 : InV G1 (.slice (some ⟨n, 0, none⟩) 2 2) [0, 1] := own_inv (e := 3) (F := [n]) (.inr ⟨n, 2, rfl, by rw [hG1, hn, hget_app0]; rfl, rfl, rfl⟩)
  rw [← hG1]
  clear hG1
  refine ⟨by kernel_rfl, (create_ac (nro := n) (γ := γ) (l := [0, 1]) (a := 0) i1 rfl lw1.2).mono ?_⟩
  rintro v G2 ⟨rfl, lw2⟩
  have o1 : OpC G2 _ aO1 _ _ _ := opC_row aO1_wf (hnil G2).1 (i1.lowG lw2) (hnil G2).2.2
  refine ⟨by kernel_rfl, ((add_rc (γ := γ) (nil_nda G2) (key1_ok (x := 1) (by omega)) o1 aO1_wf).thaw thw).mono ?_⟩
  rintro v G3 hq
  obtain ⟨lw3, sv, rfl, hnew⟩ := hq.zero add1
  obtain ⟨v1, v2⟩ := hnew.sh
  have N1 := hnew.nda aL1_wf (fun _ _ _ => rfl)
  have low3 : Low n H G3 := ⟨fun j hj => (lw3.1 j (by have := lw2.2; have := lw1.2; omega)).trans ((lw2.1 j (by have := lw1.2; omega)).trans (lw1.1 j hj)), by have := lw3.2; have := lw2.2; have := lw1.2; omega⟩
  clear hnew hq lw1 lw2 lw3 i1 o1
  simp (disch := first | omega | (simp only [lnS]; try omega; done)) [-getElem?_pos, -getElem?_neg, -notTuple, v1, v2, nt_intG]
  refine hK _ _ ?_; clear hK K
  -- the second node
  refine aw_seq ?_
  refine aw_ops (by kernel_rfl) (fun K hK => ?_)
  simp (disch := first | omega | (simp only [lnS]; try omega; done)) [-getElem?_pos, -getElem?_neg, -xbuild, k1, k2, -notTuple, v1, v2, nt_intG, nt_aggG, all_zl, q1, -xfill, fk]
  obtain ⟨G4, hG1⟩ : ∃ G : AH, G = G3 ++ [some ⟨iv .u8 (key1 1), 24, some 32⟩] := ⟨_, rfl⟩
  have lw1 : Low G3.length G3 G4 := by rw [hG1]; exact Low.push (Nat.le_refl _) _
  have i1 : KsV G4 (.slice (some ⟨G3.length, 0, none⟩) 1 1) [key1 1] := kr_ksv (F := [G3.length]) (.inr ⟨G3.length, 1, rfl, by rw [hG1, hget_app0, kr_one]; rfl, by rw [kr_one, q1], rfl⟩) (fun k hk => by simp at hk; subst hk; exact key1_32 1)
  rw [← hG1]
  clear hG1
  have hle0 := low3.2
  have hle1 := lw1.2
  refine ⟨by kernel_rfl, (update_ac (nro := n) (γ := γ) (H := G4) (ps := [key1 1]) (a := 1) (s := 1) (by omega)).mono ?_⟩
  rintro v G5 ⟨rfl, lw2⟩
  have hle2 := lw2.2
  have lw12 : Low G3.length G3 G5 := ⟨fun j hj => (lw2.1 j (by omega)).trans (lw1.1 j hj), by omega⟩
  have o1 : OpC G5 _ aO2 _ _ _ := opC_row aO2_wf (CD.Val.low (fun j hj => lw2.1 j hj) i1) (hnil G5).2.1 (hnil G5).2.2
  refine ⟨by kernel_rfl, ((add_rc (γ := γ) (N1.lowG lw12) (key1_ok (x := 2) (by omega)) o1 aO2_wf).thaw thw).mono ?_⟩
  rintro v G6 hq
  obtain ⟨lw3, su, rfl, hnew⟩ := hq.zero add2
  obtain ⟨u1, u2⟩ := hnew.sh
  have N2 := hnew.nda aL2_wf (fun _ _ _ => rfl)
  have hle3 := lw3.2
  have low6 : Low n H G6 := ⟨fun j hj => (lw3.1 j (by omega)).trans ((lw12.1 j (by omega)).trans (low3.1 j hj)), by omega⟩
  clear hnew hq lw1 lw2 lw12 lw3 i1 o1 hle1 hle2 hle3 N1
  simp (disch := first | omega | (simp only [lnS]; try omega; done)) [-getElem?_pos, -getElem?_neg, -notTuple, u1, u2, nt_intG]
  refine hK _ _ ?_; clear hK K
  refine aw_seq ?_
  refine aw_ops (by kernel_rfl) (fun K hK => ?_)
  simp (disch := first | omega | (simp only [lnS]; try omega; done)) [-getElem?_pos, -getElem?_neg, -xbuild, k1, k3, -notTuple, u1, u2, nt_intG, nt_aggG, all_zl, q1, -xfill, fk]
  obtain ⟨G7, hG1⟩ : ∃ G : AH, G = G6 ++ [some ⟨iv .u8 (key1 1), 24, some 32⟩] := ⟨_, rfl⟩
  have lw1 : Low G6.length G6 G7 := by rw [hG1]; exact Low.push (Nat.le_refl _) _
  have i1 : KsV G7 (.slice (some ⟨G6.length, 0, none⟩) 1 1) [key1 1] := kr_ksv (F := [G6.length]) (.inr ⟨G6.length, 1, rfl, by rw [hG1, hget_app0, kr_one]; rfl, by rw [kr_one, q1], rfl⟩) (fun k hk => by simp at hk; subst hk; exact key1_32 1)
  rw [← hG1]
  clear hG1
  have hle0 := low6.2
  have hle1 := lw1.2
  refine ⟨by kernel_rfl, (update_ac (nro := n) (γ := γ) (H := G7) (ps := [key1 1]) (a := 0) (s := 2) (by omega)).mono ?_⟩
  rintro v G8 ⟨rfl, lw2⟩
  have hle2 := lw2.2
  have lw12 : Low G6.length G6 G8 := ⟨fun j hj => (lw2.1 j (by omega)).trans (lw1.1 j hj), by omega⟩
  have o1 : OpC G8 _ aO3 _ _ _ := opC_row aO3_wf (CD.Val.low (fun j hj => lw2.1 j hj) i1) (hnil G8).2.1 (hnil G8).2.2
  refine ⟨by kernel_rfl, ((add_rc (γ := γ) (N2.lowG lw12) (key1_ok (x := 3) (by omega)) o1 aO3_wf).thaw thw).mono ?_⟩
  rintro v G9 hq
  obtain ⟨lw3, st, rfl, hnew⟩ := hq.zero add3
  obtain ⟨t1, t2⟩ := hnew.sh
  have N3 := hnew.nda aL3_wf (fun _ _ _ => rfl)
  have hle3 := lw3.2
  have low9 : Low n H G9 := ⟨fun j hj => (lw3.1 j (by omega)).trans ((lw12.1 j (by omega)).trans (low6.1 j hj)), by omega⟩
  clear hnew hq lw1 lw2 lw12 lw3 i1 o1 hle1 hle2 hle3 N2
  simp (disch := first | omega | (simp only [lnS]; try omega; done)) [-getElem?_pos, -getElem?_neg, -notTuple, t1, t2, nt_intG]
  refine hK _ _ ?_; clear hK K
  -- the heads
  refine aw_seq ?_
  refine aw_ops (by kernel_rfl) (fun K hK => ?_)
  simp (disch := first | omega | (simp only [lnS]; try omega; done)) [-getElem?_pos, -getElem?_neg, -notTuple, t1, t2, nt_intG]
  refine ⟨by kernel_rfl, ((heads_rc (γ := γ) N3).thaw (fun v G' h => ⟨h.1.2, h.1.1⟩)).mono ?_⟩
  rintro hv G10 ⟨lw10, ⟨_, F, ho, hF⟩ | ⟨hbad, _⟩⟩
  case inr => rw [al_right] at hbad; cases hbad
  rw [al_heads] at ho
  have hkk : K32 [key1 2, key1 3] := fun k hk => by
    rcases List.mem_cons.1 hk with rfl | hk
    · exact key1_32 2
    · rw [List.mem_singleton] at hk; subst hk; exact key1_32 3
  obtain ⟨h1, h2⟩ := own_nt ho
  have hxl := ho.len (P := Try.prog) (t := 30) (by simp) (kr_len hkk) (by omega)
  obtain ⟨b, rfl, hbk⟩ : ∃ b, hv = .slice (some ⟨b, 0, none⟩) 2 2 ∧ hget G10 b = some ⟨kr [key1 2, key1 3], 24, some 32⟩ := by
    rcases ho with ⟨_, hc, _⟩ | ⟨b, len, rfl, hb, hl, _⟩
    · have := congrArg List.length hc
      rw [kr_len hkk] at this
      cases this
    · rw [kr_len hkk] at hl
      have : len = 2 := by simp at hl; omega
      subst this
      exact ⟨b, rfl, hb⟩
  have N4 := N3.lowG lw10
  have hxa := kr_addr (n := 2) (b := b) (j := 1) (by omega)
  have hld := kr_load hkk (j := 1) (k := key1 3) rfl hbk
  have hxn := N4.len
  have ra := apart_rc (γ := γ) N4 1 2
  have rb := ahead_rc (γ := γ) N4 0 2
  have rc := graph_right_rc (γ := γ) N4
  rw [al_apart] at ra
  rw [al_ahead] at rb
  rw [al_right] at rc
  have e3 : ((aL3.length : Nat) : Int) = 3 := rfl
  try simp (disch := first | omega | (simp only [lnS]; try omega; done)) [-getElem?_pos, -getElem?_neg]
  refine hK _ _ ?_; clear hK K
  refine aw_seq ?_
  refine aw_ops (by kernel_rfl) (fun K hK => ?_)
  simp (disch := first | omega | (simp only [lnS]; try omega; done)) [-getElem?_pos, -getElem?_neg, -notTuple, t1, t2, nt_intG, -xlen, hxn, hxl, e3]
  refine ⟨by kernel_rfl, ac_of_rc ra (by simp [pv_iv, pv_int, pv_bool, pv_string, pv_tup2, pv_tup3, iv_plain, p2_int, p2_bool, p2_string]) ?_⟩
  simp (disch := first | omega | (simp only [lnS]; try omega; done)) [-getElem?_pos, -getElem?_neg, -notTuple, t1, t2, nt_intG]
  refine ⟨by kernel_rfl, ac_of_rc rb (by simp [pv_iv, pv_int, pv_bool, pv_string, pv_tup2, pv_tup3, iv_plain, p2_int, p2_bool, p2_string]) ?_⟩
  have hxa : xindexAddr Try.prog 30 (.slice (some ⟨b, 0, none⟩) 2 2) (.int .i64 1) = some (.pointer (some ⟨b, 1 * 32, none⟩)) := hxa
  have hll : (iv .u8 (key1 3)).length = 32 := by rw [iv_length, key1_32]
  simp (disch := first | omega | (simp only [lnS]; try omega; done)) [-getElem?_pos, -getElem?_neg, -notTuple, t1, t2, nt_intG, nt_aggG, -xlen, hxl, -xindexAddr, hxa, -xload, hld, -xbuild, k3, hll]
  refine ⟨by kernel_rfl, ac_of_rc rc (by simp [pv_iv, pv_int, pv_bool, pv_string, pv_tup2, pv_tup3, iv_plain, p2_int, p2_bool, p2_string]) ?_⟩
  refine hK _ _ ?_; clear hK K
  (refine aw_ret ?_; simp (disch := first | omega | (simp only [lnS]; try omega; done)) [-getElem?_pos, -getElem?_neg, thenQ_ret, scopeQ_ret, inBlockQ_ret, RQ, resL, resV])
end
section
/-- What comes in: a graph; an operation. -/
theorem nodes_in {H : AH} {ds : List CD} {u : Value} (ho : OkL [.sl nodeK] ds) (hv : ValL H ds [u]) : ∃ l, NdV H u l ∧ (∀ x ∈ l, x.Wf) ∧ l.length ≤ maxLen := by
  obtain ⟨d, r, rfl, h1, h2⟩ := ho.cons
  obtain rfl := h2.nil
  obtain ⟨l, rfl, h3, h4⟩ := nodes_of h1
  obtain ⟨u', r', e, h5, h6⟩ := hv.cons
  cases e
  exact ⟨l, h5, h3, h4⟩
theorem op_in {H : AH} {ds : List CD} {us : List Value} (ho : OkL opK ds) (hv : ValL H ds us) : ∃ o pv wv bv, OpC H us o pv wv bv ∧ o.Wf := by
  obtain ⟨o, rfl, hw⟩ := op_of ho
  obtain ⟨pv, wv, bv, h⟩ := op_c hw hv
  exact ⟨o, pv, wv, bv, h, hw⟩
section
variable {l : List NodeD}
end
attribute [local simp] wb_bool wb_undef with_lit XL_nil XL_cons XLc_val XLc_call step1_eq stepW_t stepW_f stepC_n stepC_s stepX_s stepX_n stepN_s calleeX oneV xop_eq xopR_s xopR_n wantedA_eq wantedG_n wantedG_s plain1_int plain1_bool plain1_string bits_i64 bits_u64 bits_u32 bits_u16 bits_u8 xeqA xagg xcmp xarr allK_iv num_iv calleeOf xread xeff xbin xint xnil xun xstr xload xconv xpart xfield xfieldAddr xindexAddr xindex bnd asInt? xslice xlen xmin xmax xbuild xfill xappend xapp2 xappstr xappmk xcap xcopy xcells eval_tmp eval_const put_at put_none fr0_at cells_agg cells_int cells_bool cells_string cells_ptr cells_slice notTuple tab iv_all hget_app hget_app0 hget_cons0 hget_cons set_app set_app0 setR setR_one QL_nil QL_cons QLc_val stepQ_t stepQ_f stepQC_n stepQC_s stepQX_s SL_nil SL_cons SLc_val stepS_t stepS_f ltT ltF leT leF eqT eqF ltTn ltFn leTn leFn eqTn eqFn beqT beqF bneT bneF wi64 wu64 wu32 wu16 wu8 tmodP tdivP hgetL hgetNe hgetEq setL nums_def nums_len Nat.succ_le_of_lt List.getElem?_cons_zero List.getElem?_cons_succ Option.getD_some Int.toNat_add Int.toNat_mul agM okM agB agI agS agP agL agA okB okI okS okP okSl okA
end
section
section
variable {l : List NodeD}
end
attribute [local simp] wb_bool wb_undef with_lit XL_nil XL_cons XLc_val XLc_call step1_eq stepW_t stepW_f stepC_n stepC_s stepX_s stepX_n stepN_s calleeX oneV xop_eq xopR_s xopR_n wantedA_eq wantedG_n wantedG_s plain1_int plain1_bool plain1_string bits_i64 bits_u64 bits_u32 bits_u16 bits_u8 xeqA xagg xcmp xarr allK_iv num_iv calleeOf xread xeff xbin xint xnil xun xstr xload xconv xpart xfield xfieldAddr xindexAddr xindex bnd asInt? xslice xlen xmin xmax xbuild xfill xappend xapp2 xappstr xappmk xcap xcopy xcells eval_tmp eval_const put_at put_none fr0_at cells_agg cells_int cells_bool cells_string cells_ptr cells_slice notTuple tab iv_all hget_app hget_app0 hget_cons0 hget_cons set_app set_app0 setR setR_one QL_nil QL_cons QLc_val stepQ_t stepQ_f stepQC_n stepQC_s stepQX_s SL_nil SL_cons SLc_val stepS_t stepS_f ltT ltF leT leF eqT eqF ltTn ltFn leTn leFn eqTn eqFn beqT beqF bneT bneF wi64 wu64 wu32 wu16 wu8 tmodP tdivP hgetL hgetNe hgetEq setL nums_def nums_len Nat.succ_le_of_lt List.getElem?_cons_zero List.getElem?_cons_succ Option.getD_some Int.toNat_add Int.toNat_mul agM okM agB agI agS agP agL agA okB okI okS okP okSl okA
end
section
theorem nd_push {m : List NodeD} {x : NodeD} {a : Nat} (h : a < m.length) : nd (m ++ [x]) a = nd m a := by
  unfold nd
  rw [List.getD_eq_getElem?_getD, List.getD_eq_getElem?_getD, List.getElem?_append_left h]
theorem nd_last (m : List NodeD) (x : NodeD) : nd (m ++ [x]) m.length = x := nd_eq (by rw [List.getElem?_append_right (Nat.le_refl _)]; simp)
theorem stepB_congr {l m : List NodeD} {i : Nat} (h : ∀ a, a ≤ i → nd l a = nd m a) : stepB l i = stepB m i := by
  have h' : ∀ a, a < i → nd l a = nd m a := fun a ha => h a (by omega)
  unfold stepB
  rw [h i (Nat.le_refl _), pastL_congr h', turnB_congr h']
  have : (fun p => (findN l i p).isSome) = fun p => (findN m i p).isSome := by
    funext p
    rw [find_congr h']
  rw [this, find_congr h']
section
variable {l m : List NodeD}
theorem add_facts {id : List Int} {o : OpD} (h : addE m id o = 0) : rightG m = true ∧ rightO o = true ∧ findN m m.length id = none ∧ m.length ≠ 96 ∧ o.parents.all (fun p => (findN m m.length p).isSome) = true ∧ seqOk m o = true := by
  unfold addE at h
  split at h
  · cases h
  rename_i h1
  split at h
  · cases h
  rename_i h2
  split at h
  · cases h
  rename_i h3
  split at h
  · cases h
  rename_i h4
  split at h
  · cases h
  rename_i h5
  split at h
  · cases h
  rename_i h6
  exact ⟨eq_true_of_ne_false h1, eq_true_of_ne_false h2, by simpa using h3, h4, eq_true_of_ne_false h5, eq_true_of_ne_false h6⟩
theorem rightO_first {o : OpD} (h : rightO o = true) (hk : o.kind ≠ 1) : 0 < o.parents.length := by
  unfold rightO at h
  simp only [Bool.and_eq_true] at h
  have := h.2.2.2.1
  unfold placeB at this
  rw [if_neg hk] at this
  simp only [Bool.and_eq_true, decide_eq_true_eq] at this
  exact this.2.1
theorem add_turn {id : List Int} {o : OpD} (h : addE m id o = 0) : turnB m m.length o (pastL m m.length o.parents) = true := by
  obtain ⟨h1, h2, h3, h4, h5, h6⟩ := add_facts h
  unfold seqOk at h6
  simp only [Bool.and_eq_true, Bool.not_eq_true', Bool.and_eq_false_iff, decide_eq_true_eq, decide_eq_false_iff_not] at h6
  obtain ⟨h7, h8, h9⟩ := h6
  unfold turnB
  rw [(ahead_all m m.length o.parents o.author).1 h9, Bool.true_and, Bool.and_eq_true, decide_eq_true_eq]
  refine ⟨?_, by rw [← h9]; exact h8⟩
  rw [beq_iff_eq, decide_eq_decide]
  constructor
  · intro hk
    rcases h7 with h7 | h7
    · exact absurd hk h7
    · omega
  · intro hn
    refine Decidable.byContradiction fun hk => ?_
    have hp := rightO_first h2 hk
    rw [List.all_eq_true] at h5
    obtain ⟨p, hp⟩ := List.exists_mem_of_length_pos hp
    have := h5 p hp
    rw [hn, findN_zero] at this
    cases this
theorem add_rightG {id : List Int} {o : OpD} (h : addE m id o = 0) : rightG (m ++ [addD m id o]) = true := by
  obtain ⟨h1, h2, h3, h4, h5, h6⟩ := add_facts h
  have hl := rightG_len h1
  have ht := add_turn h
  have hc : ∀ a, a < m.length → nd (m ++ [addD m id o]) a = nd m a := fun a ha => nd_push ha
  unfold rightG
  rw [Bool.and_eq_true, decide_eq_true_eq, List.all_eq_true]
  refine ⟨by simp; omega, fun i hi => ?_⟩
  rw [List.mem_range, List.length_append] at hi
  rcases Nat.lt_or_ge i m.length with hil | hil
  · rw [stepB_congr (fun a ha => hc a (by omega))]
    exact right_step h1 hil
  · have : i = m.length := by simp at hi; omega
    subst this
    rw [step_iff, nd_last]
    have hps : (fun p => (findN (m ++ [addD m id o]) m.length p).isSome) = fun p => (findN m m.length p).isSome := by
      funext p
      rw [find_congr hc]
    have e1 : (addD m id o).op = o := rfl
    have e2 : (addD m id o).id = id := rfl
    have e3 : (addD m id o).past = pastL m m.length o.parents := rfl
    rw [e1, e2, e3, hps, find_congr hc, pastL_congr hc, turnB_congr hc]
    exact ⟨h5, h2, h3, rfl, ht⟩
theorem ids_inj (h : rightG l = true) {i j : Nat} (hi : i < l.length) (hj : j < l.length) (e : (nd l i).id = (nd l j).id) : i = j := by
  rcases Nat.lt_trichotomy i j with hlt | rfl | hlt
  · exact absurd e (ids_ne h hlt hj)
  · rfl
  · exact absurd e.symm (ids_ne h hlt hi)
/-- A part of a graph's operations, in an order of its own. -/
structure Sub (l m : List NodeD) : Prop where
  left : rightG l = true
  right : rightG m = true
  at_ : ∀ j, j < m.length → ∃ i, i < l.length ∧ (nd m j).id = (nd l i).id ∧ (nd m j).op = (nd l i).op
theorem Sub.op (h : Sub l m) {i j : Nat} (hi : i < l.length) (hj : j < m.length) (e : (nd m j).id = (nd l i).id) : (nd m j).op = (nd l i).op := by
  obtain ⟨i', h1, h2, h3⟩ := h.at_ j hj
  obtain rfl : i = i' := ids_inj h.left hi h1 (e.symm.trans h2)
  exact h3
theorem in_past (h : rightG l = true) {i k : Nat} (hi : i < l.length) : (k : Int) ∈ (nd l i).past ↔ ∃ p ∈ (nd l i).op.parents, ∃ a, findN l i p = some a ∧ (a = k ∨ (k : Int) ∈ (nd l a).past) := by
  rw [right_past h hi, mem_pastL, inB_iff]
  refine ⟨fun h => h.2, fun hh => ⟨?_, hh⟩⟩
  obtain ⟨p, hp, a, ha, hor⟩ := hh
  have hal := findN_lt ha
  rcases hor with rfl | hor
  · exact hal
  · obtain ⟨k', e, hk⟩ := past_bd h (by omega) hor
    omega
/-- The same is ahead of the same. -/
theorem Sub.past (h : Sub l m) : ∀ (j : Nat), j < m.length → ∀ (i j' i' : Nat), i < l.length → (nd m j).id = (nd l i).id → j' < m.length → i' < l.length → (nd m j').id = (nd l i').id → ((j' : Int) ∈ (nd m j).past ↔ (i' : Int) ∈ (nd l i).past) := by
  intro j
  induction j using Nat.strongRecOn with
  | ind j ih =>
    intro hj i j' i' hi e hj' hi' e'
    have hop := h.op hi hj e
    rw [in_past h.right hj, in_past h.left hi, hop]
    refine exists_congr fun p => and_congr_right fun hp => ?_
    obtain ⟨a, ha⟩ := right_par h.right hj (by rw [hop]; exact hp)
    obtain ⟨b, hb⟩ := right_par h.left hi hp
    have hal := findN_lt ha
    have hbl := findN_lt hb
    have hia := findN_id ha
    have hib := findN_id hb
    rw [ha, hb]
    have eab : (nd m a).id = (nd l b).id := hia.trans hib.symm
    simp only [Option.some.injEq, exists_eq_left']
    refine or_congr ?_ (ih a hal (by omega) b j' i' (by omega) eab hj' hi' e')
    constructor
    · rintro rfl
      exact ids_inj h.left (by omega) hi' (eab.symm.trans e')
    · rintro rfl
      exact ids_inj h.right (by omega) hj' (eab.trans e'.symm)
/-- What is ahead of what is there is there. -/
theorem Sub.closed (h : Sub l m) : ∀ (j : Nat), j < m.length → ∀ (i i' : Nat), i < l.length → (nd m j).id = (nd l i).id → (i' : Int) ∈ (nd l i).past → ∃ j', j' < m.length ∧ (nd m j').id = (nd l i').id := by
  intro j
  induction j using Nat.strongRecOn with
  | ind j ih =>
    intro hj i i' hi e hp
    have hop := h.op hi hj e
    rw [in_past h.left hi] at hp
    obtain ⟨p, hp, b, hb, hor⟩ := hp
    obtain ⟨a, ha⟩ := right_par h.right hj (by rw [hop]; exact hp)
    have hal := findN_lt ha
    have hbl := findN_lt hb
    have eab : (nd m a).id = (nd l b).id := (findN_id ha).trans (findN_id hb).symm
    rcases hor with rfl | hor
    · exact ⟨a, by omega, eab⟩
    · exact ih a hal (by omega) b i' (by omega) eab hor
theorem ids_nodup (h : rightG l = true) (n : Nat) (hn : n ≤ l.length) (p : Nat → Bool) : (((List.range n).filter p).map fun k => (nd l k).id).Nodup := by
  rw [List.Nodup, List.pairwise_map]
  refine List.Pairwise.imp_of_mem ?_ (List.Pairwise.filter _ List.pairwise_lt_range)
  intro i j hi hj hij
  exact ids_ne h hij (by have := List.mem_range.1 (List.mem_filter.1 hj).1; omega)
theorem mem_ids {n : Nat} {p : Nat → Bool} {k : List Int} : k ∈ ((List.range n).filter p).map (fun k => (nd l k).id) ↔ ∃ i, i < n ∧ p i = true ∧ (nd l i).id = k := by
  rw [List.mem_map]
  refine exists_congr fun i => ?_
  rw [List.mem_filter, List.mem_range]
  exact and_assoc
theorem filtT (n : Nat) : (List.range n).filter (fun _ => true) = List.range n := List.filter_eq_self.2 (fun _ _ => rfl)
theorem Sub.len (h : Sub l m) : m.length ≤ l.length := by
  have := List.Nodup.length_le_of_subset (l₂ := ((List.range l.length).filter fun _ => true).map fun k => (nd l k).id) (ids_nodup h.right m.length (Nat.le_refl _) (fun _ => true)) (fun k hk => by
    obtain ⟨j, hj, _, rfl⟩ := mem_ids.1 hk
    obtain ⟨i, hi, e, _⟩ := h.at_ j hj
    exact mem_ids.2 ⟨i, hi, rfl, e.symm⟩)
  simpa [filtT] using this
theorem Sub.nil (h : rightG l = true) : Sub l [] := ⟨h, rfl, fun j hj => by simp at hj⟩
theorem Sub.push (h : Sub l m) {i : Nat} (hi : i < l.length) (h0 : addE m (nd l i).id (nd l i).op = 0) : Sub l (m ++ [addD m (nd l i).id (nd l i).op]) := by
  refine ⟨h.left, add_rightG h0, fun j hj => ?_⟩
  rcases Nat.lt_or_ge j m.length with hjl | hjl
  · rw [nd_push hjl]
    exact h.at_ j hjl
  · have : j = m.length := by simp at hj; omega
    subst this
    rw [nd_last]
    exact ⟨i, hi, rfl, rfl⟩
theorem Sub.all (h : Sub l m) (he : m.length = l.length) : ∀ i, i < l.length → ∃ j, j < m.length ∧ (nd m j).id = (nd l i).id := fun i hi => by
  refine Classical.byContradiction fun hn => ?_
  have := List.Nodup.length_le_of_subset (l₁ := (nd l i).id :: ((List.range m.length).filter fun _ => true).map fun k => (nd m k).id) (l₂ := ((List.range l.length).filter fun _ => true).map fun k => (nd l k).id) (by
    rw [List.nodup_cons]
    exact ⟨fun hm => hn (by obtain ⟨j, hj, _, e⟩ := mem_ids.1 hm; exact ⟨j, hj, e⟩), ids_nodup h.right m.length (Nat.le_refl _) _⟩) (fun k hk => by
    rcases List.mem_cons.1 hk with rfl | hk
    · exact mem_ids.2 ⟨i, hi, rfl, rfl⟩
    · obtain ⟨j, hj, _, rfl⟩ := mem_ids.1 hk
      obtain ⟨i', hi', e, _⟩ := h.at_ j hj
      exact mem_ids.2 ⟨i', hi', rfl, e.symm⟩)
  simp [filtT] at this
  omega
theorem Sub.heads (h : Sub l m) (he : m.length = l.length) : headsL l = headsL m := by
  unfold headsL
  refine sortK_of_perm ?_
  refine (List.perm_ext_iff_of_nodup (headK_nodup h.left) (headK_nodup h.right)).2 (fun k => ?_)
  unfold headK
  rw [List.mem_map, List.mem_map]
  constructor
  · rintro ⟨i, hi, rfl⟩
    rw [mem_headP] at hi
    obtain ⟨j, hj, e⟩ := h.all he i hi.1
    refine ⟨j, mem_headP.2 ⟨hj, fun j2 hj2 hm => ?_⟩, e⟩
    obtain ⟨i2, hi2, e2, _⟩ := h.at_ j2 hj2
    exact hi.2 i2 hi2 ((h.past j2 hj2 i2 j i hi2 e2 hj hi.1 e).1 hm)
  · rintro ⟨j, hj, rfl⟩
    rw [mem_headP] at hj
    obtain ⟨i, hi, e, _⟩ := h.at_ j hj.1
    refine ⟨i, mem_headP.2 ⟨hi, fun i2 hi2 hm => ?_⟩, e.symm⟩
    obtain ⟨j2, hj2, e2⟩ := h.all he i2 hi2
    exact hj.2 j2 hj2 ((h.past j2 hj2 i2 j i hi2 e2 hj.1 hi e).2 hm)
end
end
section
theorem rows_flat (C : List Value) (n : Nat) (h : n * 104 ≤ C.length) : ((List.range n).map fun i => (C.drop (i * 104)).take 104).flatten = C.take (n * 104) := by
  induction n with
  | zero => simp
  | succ n ih =>
    rw [List.range_succ, List.map_append, List.flatten_append, ih (by omega)]
    have e : (n + 1) * 104 = n * 104 + 104 := by omega
    rw [e, List.take_add]
    simp
/-- A graph's rows. -/
theorem nodes_cells {H : AH} {v : Value} {l : List NodeD} (h : NdV H v l) (hw : ∀ x ∈ l, x.Wf) : ∃ R : List (List Value), R.length = l.length ∧ (∀ (k : Nat) (us : List Value) (x : NodeD), R[k]? = some us → l[k]? = some x → us.length = 104 ∧ ∀ G, Low H.length H G → ValL G x.row us) ∧ ∀ G, Low H.length H G → xcells 104 v G = some R.flatten := by
  have hN := h.nda hw
  have h2 := h
  unfold NdV at h
  generalize hd : CD.sl (l.map NodeD.row) = d at h
  cases h with
  | int => cases hd
  | str => cases hd
  | bool => cases hd
  | @nil a ha =>
    injection hd with hd
    have hl : l = [] := List.map_eq_nil_iff.1 hd
    subst hl
    refine ⟨[], rfl, fun k us x h => by simp at h, fun G hG => ?_⟩
    cases a with
    | none => rfl
    | some y =>
      obtain ⟨j, off, spot⟩ := y
      have hsp : spot = some 0 := ha _ rfl
      subst hsp
      rfl
  | @sl sz j b rows h1 h2' h3 h4 =>
    injection hd with hd
    subst hd
    have hle : l.length * 104 ≤ b.cells.length := by
      cases l with
      | nil => simp
      | cons x0 l0 =>
        have e1 := h3 x0.row (by simp)
        rw [node_row_len (hw x0 (by simp))] at e1
        subst e1
        simpa using h2'
    refine ⟨(List.range l.length).map fun i => (b.cells.drop (i * 104)).take 104, by simp, fun k us x hk hx => ?_, fun G hG => ?_⟩
    · have hkl := (List.getElem?_eq_some_iff.1 hx).1
      rw [List.getElem?_map, List.getElem?_range hkl] at hk
      cases hk
      obtain ⟨j', b', us, hv, hb, hle', hx', hus, hul, hle2, hc, hval⟩ := val_at (P := Try.prog) (t := 22) (e := 39) (sz := 104) h2 (by kernel_rfl) (by kernel_rfl) (by omega) (fun row hr => by
        obtain ⟨y, hy, rfl⟩ := List.mem_map.1 hr
        exact node_row_len (hw y hy)) (i := k) (row := x.row) (by rw [List.getElem?_map, hx]; rfl)
      cases hv
      rw [h1] at hb
      cases hb
      refine ⟨by rw [hus] at hul; exact hul, fun G hG => ?_⟩
      have := hval.low (H' := G) hG.1
      rw [hus] at this
      exact this
    · have hg := (hG.1 j (hget_lt h1)).trans h1
      rw [rows_flat _ _ hle, List.length_map]
      unfold xcells
      simp only [hg]
      rw [if_pos (by omega), List.drop_zero]
theorem turn_seq {l : List NodeD} {o : OpD} (h2 : rightO o = true) (h5 : o.parents.all (fun p => (findN l l.length p).isSome) = true) : turnB l l.length o (pastL l l.length o.parents) = seqOk l o := by
  have hk0 : 0 = l.length → o.kind = 1 := fun hn => by
    refine Decidable.byContradiction fun hk => ?_
    have hp := rightO_first h2 hk
    rw [List.all_eq_true] at h5
    obtain ⟨p, hp⟩ := List.exists_mem_of_length_pos hp
    have := h5 p hp
    rw [← hn, findN_zero] at this
    cases this
  unfold turnB seqOk
  by_cases ha : aheadL l (pastL l l.length o.parents) o.author = autN l l.length o.author
  · rw [(ahead_all l l.length o.parents o.author).1 ha, ha, Bool.true_and, decide_eq_true rfl, Bool.and_true]
    congr 1
    by_cases hk : o.kind = 1
    · by_cases hl : l.length = 0
      · simp [hk, hl]
      · have : 0 < l.length := by omega
        simp [hk, hl, this]
    · have hl : ¬ l.length = 0 := fun e => hk (hk0 e.symm)
      simp [hk, hl]
  · have hna : autA l l.length o.author (pastL l l.length o.parents) = false := by
      cases hh : autA l l.length o.author (pastL l l.length o.parents) with
      | false => rfl
      | true => exact absurd ((ahead_all l l.length o.parents o.author).2 hh) ha
    rw [hna, decide_eq_false ha]
    simp
/-- Answers of the reference's Add behind a right graph, where the graph and the operation lie among older blocks. -/
def RAddQ (l : List NodeD) (id : List Int) (o : OpD) (H0 H : AH) (v' : Value) (H' : AH) : Prop :=
  Low H.length H H' ∧ ∃ sv, v' = .tuple #[sv, .int .i64 (addE l id o)] ∧ ((addE l id o = 0 ∧ ∀ G, Low H0.length H0 G → KeepN H.length H' G → NdV G sv (l ++ [addD l id o])) ∨ (addE l id o ≠ 0 ∧ sv = .slice none 0 0))
theorem RAddQ.bad {l : List NodeD} {id : List Int} {o : OpD} {H0 H H' : AH} {z : Int} (hl : Low H.length H H') (h : addE l id o = z) (hz : z ≠ 0) : RAddQ l id o H0 H (.tuple #[.slice none 0 0, .int .i64 z]) H' :=
  ⟨hl, _, by rw [h], .inr ⟨by rw [h]; exact hz, rfl⟩⟩
attribute [local simp] wb_bool wb_undef with_lit XL_nil XL_cons XLc_val XLc_call step1_eq stepW_t stepW_f stepC_n stepC_s stepX_s stepX_n stepN_s calleeX oneV xop_eq xopR_s xopR_n wantedA_eq wantedG_n wantedG_s plain1_int plain1_bool plain1_string bits_i64 bits_u64 bits_u32 bits_u16 bits_u8 xeqA xagg xcmp xarr allK_iv num_iv calleeOf xread xeff xbin xint xnil xun xstr xload xconv xpart xfield xfieldAddr xindexAddr xindex bnd asInt? xslice xlen xmin xmax xbuild xfill xappend xapp2 xappstr xappmk xcap xcopy xcells eval_tmp eval_const put_at put_none fr0_at cells_agg cells_int cells_bool cells_string cells_ptr cells_slice notTuple tab iv_all hget_app hget_app0 hget_cons0 hget_cons set_app set_app0 setR setR_one QL_nil QL_cons QLc_val stepQ_t stepQ_f stepQC_n stepQC_s stepQX_s SL_nil SL_cons SLc_val stepS_t stepS_f ltT ltF leT leF eqT eqF ltTn ltFn leTn leFn eqTn eqFn beqT beqF bneT bneF wi64 wu64 wu32 wu16 wu8 tmodP tdivP hgetL hgetNe hgetEq setL nums_def nums_len Nat.succ_le_of_lt List.getElem?_cons_zero List.getElem?_cons_succ Option.getD_some Int.toNat_add Int.toNat_mul agM okM agB agI agS agP agL agA okB okI okS okP okSl okA
theorem rAdd_rc {γ : Nat → Option Nat} {H0 H : AH} {nv pv wv bv : Value} {l : List NodeD} {id : List Int} {us : List Value} {o : OpD} (hV : NdV H0 nv l) (hwf : ∀ x ∈ l, x.Wf) (hr : rightG l = true) (hid : Key32 id) (hO0 : OpC H0 us o pv wv bv) (hw : o.Wf) (hH : Low H0.length H0 H) : AC Try.prog H.length γ 26 #[nv, .agg (iv .u8 id).toArray, .agg us.toArray] H (RAddQ l id o H0 H) := by
  have hN := (hV.nda hwf).lowG hH
  have hO := hO0.low hH.1
  obtain ⟨R, hRl, hR, hRx⟩ := nodes_cells hV hwf
  have hivl : (iv .u8 id).length = 32 := by rw [iv_length, hid.1]
  have hta : (iv .u8 id).take 32 = iv .u8 id := List.take_of_length_le (by omega)
  have hul := hO.len
  have htu : us.take 71 = us := List.take_of_length_le (by omega)
  have hl := rightG_len hr
  have hrow := hO.row hw
  refine ac_of_aw Try.func26 rfl Try.ntmps26 Try.results26 (by simp) ?_
  refine aw_seq ?_
  (refine aw_ops (by kernel_rfl) (fun K hK => ?_); simp (disch := first | omega | (simp only [lnS]; try omega; done)) [-getElem?_pos, -getElem?_neg, hivl, hul, nt_aggG]; refine hK _ _ ?_; clear hK K)
  obtain ⟨G, hG⟩ : ∃ G : AH, G = H ++ [some ⟨iv .u8 id, 24, none⟩, some ⟨us, 37, none⟩] := ⟨_, rfl⟩
  have b4 : hget G H.length = some ⟨iv .u8 id, 24, none⟩ := by rw [hG, hget_app0]; rfl
  have b5 : hget G (H.length + 1) = some ⟨us, 37, none⟩ := by rw [hG, hget_app]; rfl
  have lw : Low H.length H G := hG ▸ Low.push (Nat.le_refl _) _
  have gl : G.length = H.length + 2 := by simp [hG]
  rw [← hG]
  clear hG
  have hNG := hN.lowG lw
  have hOG : OpC G us o pv wv bv := hO.low lw.1
  have hnt := hN.nt
  have hvc := hN.cs
  have hxl := hN.len
  have r2 := rRight_rc (γ := γ) hOG hw
  rw [refO_eq] at r2
  obtain ⟨n, hn⟩ : ∃ n, n = H.length := ⟨_, rfl⟩
  have hn0 := hH.2
  rw [← hn] at b4 b5 gl lw ⊢
  refine aw_seq ?_
  refine aw_seq ?_
  refine aw_ops (by kernel_rfl) (fun K hK => ?_)
  simp (disch := first | omega | (simp only [lnS]; try omega; done)) [-getElem?_pos, -getElem?_neg, b5, hul, htu, nt_aggG]
  refine ⟨by kernel_rfl, ac_of_rc r2 (by simp [pv_iv, pv_int, pv_bool, pv_string, pv_tup2, pv_tup3, iv_plain, p2_int, p2_bool, p2_string]) ?_⟩
  cases h2 : rightO o with
  | false =>
    try simp (disch := first | omega | (simp only [lnS]; try omega; done)) [-getElem?_pos, -getElem?_neg]
    refine hK _ _ ?_; clear hK K
    refine aw_t (by (first | (simp [eval_tmp, put_at]; done) | (simp [eval_tmp, put_at]; omega))) (by kernel_rfl) ?_
    refine aw_seq ?_
    (refine aw_ops (by kernel_rfl) (fun K hK => ?_); simp (disch := first | omega | (simp only [lnS]; try omega; done)) [-getElem?_pos, -getElem?_neg]; refine hK _ _ ?_; clear hK K)
    (refine aw_ret ?_; simp (disch := first | omega | (simp only [lnS]; try omega; done)) [-getElem?_pos, -getElem?_neg, thenQ_ret, scopeQ_ret, inBlockQ_ret, RQ, resL, resV])
    exact RAddQ.bad (hn ▸ lw) (by simp [addE, hr, h2]) (by decide)
  | true =>
  try simp (disch := first | omega | (simp only [lnS]; try omega; done)) [-getElem?_pos, -getElem?_neg]
  refine hK _ _ ?_; clear hK K
  refine aw_f (by (first | (simp [eval_tmp, put_at]; done) | (simp [eval_tmp, put_at]; omega))) (by kernel_rfl) ?_
  refine aw_skip ?_
  have r4 := rFind_rc (γ := γ) hNG (by simp only [maxLen]; omega) hid.1
  refine aw_seq ?_
  refine aw_seq ?_
  refine aw_ops (by kernel_rfl) (fun K hK => ?_)
  simp (disch := first | omega | (simp only [lnS]; try omega; done)) [-getElem?_pos, -getElem?_neg, b4, hivl, hta, -notTuple, hnt, hvc, nt_intG, nt_aggG]
  refine ⟨by kernel_rfl, ac_of_rc r4 (by simp [pv_iv, pv_int, pv_bool, pv_string, pv_tup2, pv_tup3, iv_plain, p2_int, p2_bool, p2_string]) ?_⟩
  unfold findI
  cases h3 : findN l l.length id with
  | some a =>
    have ha := findN_lt h3
    try simp (disch := first | omega | (simp only [lnS]; try omega; done)) [-getElem?_pos, -getElem?_neg]
    refine hK _ _ ?_; clear hK K
    refine aw_t (by (first | (simp [eval_tmp, put_at]; done) | (simp [eval_tmp, put_at]; omega))) (by kernel_rfl) ?_
    refine aw_seq ?_
    (refine aw_ops (by kernel_rfl) (fun K hK => ?_); simp (disch := first | omega | (simp only [lnS]; try omega; done)) [-getElem?_pos, -getElem?_neg]; refine hK _ _ ?_; clear hK K)
    (refine aw_ret ?_; simp (disch := first | omega | (simp only [lnS]; try omega; done)) [-getElem?_pos, -getElem?_neg, thenQ_ret, scopeQ_ret, inBlockQ_ret, RQ, resL, resV])
    exact RAddQ.bad (hn ▸ lw) (by simp [addE, hr, h2, h3]) (by decide)
  | none =>
  try simp (disch := first | omega | (simp only [lnS]; try omega; done)) [-getElem?_pos, -getElem?_neg]
  refine hK _ _ ?_; clear hK K
  refine aw_f (by (first | (simp [eval_tmp, put_at]; done) | (simp [eval_tmp, put_at]; omega))) (by kernel_rfl) ?_
  refine aw_skip ?_
  refine aw_seq ?_
  refine aw_seq ?_
  by_cases h4 : 96 ≤ l.length
  · (refine aw_ops (by kernel_rfl) (fun K hK => ?_); simp (disch := first | omega | (simp only [lnS]; try omega; done)) [-getElem?_pos, -getElem?_neg, -notTuple, hnt, hvc, nt_intG, -xlen, hxl, h4]; refine hK _ _ ?_; clear hK K)
    refine aw_t (by (first | (simp [eval_tmp, put_at, h4]; done) | (simp [eval_tmp, put_at, h4]; omega))) (by kernel_rfl) ?_
    refine aw_seq ?_
    (refine aw_ops (by kernel_rfl) (fun K hK => ?_); simp (disch := first | omega | (simp only [lnS]; try omega; done)) [-getElem?_pos, -getElem?_neg]; refine hK _ _ ?_; clear hK K)
    (refine aw_ret ?_; simp (disch := first | omega | (simp only [lnS]; try omega; done)) [-getElem?_pos, -getElem?_neg, thenQ_ret, scopeQ_ret, inBlockQ_ret, RQ, resL, resV])
    exact RAddQ.bad (hn ▸ lw) (by unfold addE; rw [hr, h2, h3, if_neg (by simp), if_neg (by simp), if_neg (by simp), if_pos (by omega)]) (by decide)
  (refine aw_ops (by kernel_rfl) (fun K hK => ?_); simp (disch := first | omega | (simp only [lnS]; try omega; done)) [-getElem?_pos, -getElem?_neg, -notTuple, hnt, hvc, nt_intG, -xlen, hxl, h4]; refine hK _ _ ?_; clear hK K)
  refine aw_f (by (first | (simp [eval_tmp, put_at, h4]; done) | (simp [eval_tmp, put_at, h4]; omega))) (by kernel_rfl) ?_
  refine aw_skip ?_
  have h4n : ¬ l.length = 96 := by omega
  have hP := hOG.parents
  have hP4 := val_nt hP
  have hps := rightO_sm h2
  have c2 := hOG.c2
  have hpk : ∀ k ∈ o.parents, k.length = 32 := fun k hk => (hw.parents k hk).1
  have rp := (rPast_rc (γ := γ) hNG (by omega) hP hpk (by simp only [maxLen]; omega)).thaw (nro := n) (fun v H' h => ⟨h.1.2, h.1.1⟩)
  refine aw_seq ?_
  refine aw_ops (by kernel_rfl) (fun K hK => ?_)
  simp (disch := first | omega | (simp only [lnS]; try omega; done)) [-getElem?_pos, -getElem?_neg, b5, hul, c2, -notTuple, hnt, hvc, hP4.1, hP4.2, nt_intG, nt_aggG]
  refine ⟨by kernel_rfl, rp.mono ?_⟩
  rintro v1 G1 ⟨hlow1, ⟨hall, sv, F, rfl, hown, hF⟩ | ⟨hall, rfl⟩⟩
  case inr =>
    simp (disch := first | omega | (simp only [lnS]; try omega; done)) [-getElem?_pos, -getElem?_neg]
    refine hK _ _ ?_; clear hK K
    refine aw_seq ?_
    refine aw_seq ?_
    (refine aw_ops (by kernel_rfl) (fun K hK => ?_); simp (disch := first | omega | (simp only [lnS]; try omega; done)) [-getElem?_pos, -getElem?_neg]; refine hK _ _ ?_; clear hK K)
    refine aw_t (by (first | (simp [eval_tmp, put_at]; done) | (simp [eval_tmp, put_at]; omega))) (by kernel_rfl) ?_
    refine aw_seq ?_
    (refine aw_ops (by kernel_rfl) (fun K hK => ?_); simp (disch := first | omega | (simp only [lnS]; try omega; done)) [-getElem?_pos, -getElem?_neg]; refine hK _ _ ?_; clear hK K)
    (refine aw_ret ?_; simp (disch := first | omega | (simp only [lnS]; try omega; done)) [-getElem?_pos, -getElem?_neg, thenQ_ret, scopeQ_ret, inBlockQ_ret, RQ, resL, resV])
    exact RAddQ.bad ⟨fun j hj => (hlow1.1 j (by have := lw.2; omega)).trans (lw.1 j (by omega)), by have := hlow1.2; have := lw.2; omega⟩ (by unfold addE; rw [hr, h2, h3, hall, if_neg (by simp), if_neg (by simp), if_neg (by simp), if_neg h4n, if_pos rfl]) (by decide)
  obtain ⟨v1, v2⟩ := own_nt hown
  have hFn : ∀ j ∈ F, n + 2 ≤ j := fun j hj => by have := hF j hj; omega
  clear hF
  simp (disch := first | omega | (simp only [lnS]; try omega; done)) [-getElem?_pos, -getElem?_neg, -notTuple, v1, v2, nt_intG, nt_boolG]
  refine hK _ _ ?_; clear hK K
  refine aw_seq ?_
  refine aw_seq ?_
  (refine aw_ops (by kernel_rfl) (fun K hK => ?_); simp (disch := first | omega | (simp only [lnS]; try omega; done)) [-getElem?_pos, -getElem?_neg]; refine hK _ _ ?_; clear hK K)
  refine aw_f (by (first | (simp [eval_tmp, put_at]; done) | (simp [eval_tmp, put_at]; omega))) (by kernel_rfl) ?_
  refine aw_skip ?_
  have hlowG1 : Low n H G1 := ⟨fun j hj => (hlow1.1 j (by omega)).trans (lw.1 j (by omega)), by have := hlow1.2; omega⟩
  have hlH0 : Low H0.length H0 G1 := ⟨fun j hj => (hlowG1.1 j (by omega)).trans (hH.1 j hj), by have := hlowG1.2; omega⟩
  have hPl := pastL_length l l.length o.parents
  have hInv := own_inv hown
  have htn := turn_rc (γ := γ) (hN.lowG (hn ▸ hlowG1)) (by omega) (hO.low (fun j hj => hlowG1.1 j (by omega))) hw hInv (by simp only [maxLen]; omega)
  rw [turn_seq h2 hall] at htn
  have d4 := (hlow1.1 n (by omega)).trans b4
  have d5 := (hlow1.1 (n + 1) (by omega)).trans b5
  have hle : addE l id o = if seqOk l o = false then 15 else 0 := by unfold addE; rw [hr, h2, h3, hall, if_neg (by simp), if_neg (by simp), if_neg (by simp), if_neg h4n, if_neg (by simp)]
  refine aw_seq ?_
  refine aw_seq ?_
  refine aw_ops (by kernel_rfl) (fun K hK => ?_)
  simp (disch := first | omega | (simp only [lnS]; try omega; done)) [-getElem?_pos, -getElem?_neg, d5, hul, htu, -notTuple, hnt, hvc, v1, v2, nt_intG, nt_aggG]
  refine ⟨by kernel_rfl, ac_of_rc htn (by simp [pv_iv, pv_int, pv_bool, pv_string, pv_tup2, pv_tup3, iv_plain, p2_int, p2_bool, p2_string]) ?_⟩
  cases hso : seqOk l o with
  | false =>
    try simp (disch := first | omega | (simp only [lnS]; try omega; done)) [-getElem?_pos, -getElem?_neg]
    refine hK _ _ ?_; clear hK K
    refine aw_t (by (first | (simp [eval_tmp, put_at]; done) | (simp [eval_tmp, put_at]; omega))) (by kernel_rfl) ?_
    refine aw_seq ?_
    (refine aw_ops (by kernel_rfl) (fun K hK => ?_); simp (disch := first | omega | (simp only [lnS]; try omega; done)) [-getElem?_pos, -getElem?_neg]; refine hK _ _ ?_; clear hK K)
    (refine aw_ret ?_; simp (disch := first | omega | (simp only [lnS]; try omega; done)) [-getElem?_pos, -getElem?_neg, thenQ_ret, scopeQ_ret, inBlockQ_ret, RQ, resL, resV])
    exact RAddQ.bad (hn ▸ hlowG1) (by rw [hle, if_pos hso]) (by decide)
  | true =>
  try simp (disch := first | omega | (simp only [lnS]; try omega; done)) [-getElem?_pos, -getElem?_neg]
  refine hK _ _ ?_; clear hK K
  refine aw_f (by (first | (simp [eval_tmp, put_at]; done) | (simp [eval_tmp, put_at]; omega))) (by kernel_rfl) ?_
  refine aw_skip ?_
  have hadd0 : addE l id o = 0 := by rw [hle, if_neg (by simp [hso])]
  have hxw : (addD l id o).Wf := by
    refine ⟨hid, hw, fun z hz => ?_, by show (pastL l l.length o.parents).length ≤ _; simp only [maxLen]; omega⟩
    obtain ⟨k, rfl, hk, _⟩ := pastL_bd hz
    unfold I64
    omega
  have hRlen : ∀ r ∈ R, r.length = 104 := fun r hr' => by
    obtain ⟨k, hk⟩ := List.getElem?_of_mem hr'
    have hkl := (List.getElem?_eq_some_iff.1 hk).1
    exact (hR k r _ hk (List.getElem?_eq_getElem (show k < l.length by omega))).1
  have hRf := fl_len hRlen
  rw [hRl] at hRf
  have hnvs : ∀ s, nv ≠ .string s := fun s e => by rw [e] at hxl; simp [xlen] at hxl
  have hln1 := hlowG1.2
  obtain ⟨w1, A1, F1, ap1, o1, le1, kp1, nf1⟩ := ownF_app (P := Try.prog) (nro := n) (t := 22) (e := 39) (H := G1) (v := .slice none 0 0) (x := nv) (sz := 104) (cells := []) (news := R.flatten) (F := []) (by simp) (by simp) (by omega) (by simp) (.inl ⟨rfl, rfl, rfl⟩) (fun j hj => by cases hj) hnvs (hRx G1 hlH0) (by rw [hRf]; omega) (by rw [hRf]; simp; omega) (by rw [hRf]; simp only [List.length_nil, maxLen]; omega)
  rw [List.nil_append] at o1
  obtain ⟨w11, w12⟩ := own_nt o1
  have k4 : hget A1 n = _ := (kp1 n (by have := hget_lt d4; omega) (by simp)).trans d4
  have k5 : hget A1 (n + 1) = _ := (kp1 (n + 1) (by have := hget_lt d5; omega) (by simp)).trans d5
  have hbl := build_node (x := addD l id o) (pv := pv) (wv := wv) (bv := bv) hxw v1 v2
  have hxid : (addD l id o).id = id := rfl
  have hxop : (addD l id o).op = o := rfl
  rw [hxid, hxop, ← hrow] at hbl
  have hrl := nodeRow_len hxw pv wv bv sv
  have hrv : ∀ D : AH, KsV D pv o.parents → InV D wv o.who → BxV D bv o.boxes → InV D sv (pastL l l.length o.parents) → ValL D (addD l id o).row (nodeRow (addD l id o) pv wv bv sv) := fun D k1 k2 k3 k4 => node_val (x := addD l id o) k1 k2 k3 k4
  generalize nodeRow (addD l id o) pv wv bv sv = row at *
  refine aw_seq ?_
  (refine aw_ops (by kernel_rfl) (fun K hK => ?_); simp (disch := first | omega | (simp only [lnS]; try omega; done)) [-getElem?_pos, -getElem?_neg]; refine hK _ _ ?_; clear hK K)
  refine aw_seq ?_
  (refine aw_ops (by kernel_rfl) (fun K hK => ?_); simp (disch := first | omega | (simp only [lnS]; try omega; done)) [-getElem?_pos, -getElem?_neg, -notTuple, hnt, hvc, nt_slG, -xappend, ap1]; refine hK _ _ ?_; clear hK K)
  have htr : List.take 104 row = row := List.take_of_length_le (by omega)
  have hxc : xcells 104 (.slice (some ⟨A1.length, 0, none⟩) 1 1) (A1 ++ [some ⟨row, 39, some 104⟩]) = some row := by simp [xcells, hget_app0, hrl, htr]
  obtain ⟨w2, A2, ap2, o2, le2, kp2⟩ := ownF_append (P := Try.prog) (nro := n) (t := 22) (e := 39) (H := A1 ++ ([some ⟨row, 39, some 104⟩] : AH)) (v := w1) (x := .slice (some ⟨A1.length, 0, none⟩) 1 1) (sz := 104) (cells := R.flatten) (news := row) (F := F1) (by simp) (by simp) (by omega) (by simp) (o1.low (fun j hj => hget_left (o1.lt j hj)))
    (fun j hj => by have := nf1 j hj; omega) (fun s e => by cases e) hxc (fun e => by rw [e] at hrl; simp at hrl) (by rw [hrl]) (by rw [hRf, hrl]; simp; omega) (by rw [hRf, hrl]; simp only [maxLen]; omega)
  obtain ⟨w21, w22⟩ := own_nt o2
  have hfil : ∀ Z : List Value, Z.length = 104 → xfill (fun i => some (i * 104, 104)) Z [(0, .agg row.toArray)] = some row := fun Z hZ => fill_row hrl hZ
  have hp0 : plain1 (.slice none 0 0) = true := rfl
  refine aw_seq ?_
  refine aw_ops (by kernel_rfl) (fun K hK => ?_)
  simp (disch := first | omega | (simp only [lnS]; try omega; done)) [-getElem?_pos, -getElem?_neg, k4, k5, hivl, hta, hul, htu, -notTuple, w11, w12, v1, v2, nt_intG, nt_slG, nt_aggG, -xbuild, hbl, -xfill, hp0, all_zl]
  rw [hfil _ (by simp)]
  simp (disch := first | omega | (simp only [lnS]; try omega; done)) [-getElem?_pos, -getElem?_neg, -notTuple, w11, w12, w21, w22, nt_intG, nt_slG, nt_aggG, -xappend, ap2]
  refine hK _ _ ?_; clear hK K
  have hFl := hown.lt
  have hBl : (A1 ++ ([some ⟨row, 39, some 104⟩] : AH)).length = A1.length + 1 := by simp
  rw [hBl] at o2 le2 kp2
  have kp : ∀ j, j < G1.length → hget A2 j = hget G1 j := fun j hj => (kp2 j (by omega) (fun h => by have := nf1 j h; omega)).trans ((hget_left (by omega)).trans (kp1 j hj (by simp)))
  obtain ⟨len, hw2⟩ := o2.new
  have hnew : len = l.length + 1 ∧ hget A2 (A1.length + 1) = some ⟨R.flatten ++ row, 39, some 104⟩ := by
    rcases o2 with ⟨h, _, _⟩ | ⟨i, k, he, h2, h3, _⟩
    · rw [hw2] at h; cases h
    · rw [hw2] at he
      cases he
      rw [List.length_append, hRf, hrl] at h3
      exact ⟨by omega, h2⟩
  obtain ⟨rfl, hnew⟩ := hnew
  refine aw_seq ?_
  (refine aw_ops (by kernel_rfl) (fun K hK => ?_); simp (disch := first | omega | (simp only [lnS]; try omega; done)) [-getElem?_pos, -getElem?_neg, -notTuple, w21, w22]; refine hK _ _ ?_; clear hK K)
  (refine aw_ret ?_; simp (disch := first | omega | (simp only [lnS]; try omega; done)) [-getElem?_pos, -getElem?_neg, thenQ_ret, scopeQ_ret, inBlockQ_ret, RQ, resL, resV])
  refine ⟨_, ⟨w21, rfl⟩, ?_⟩
  refine ⟨⟨fun j hj => (kp j (by omega)).trans (hlowG1.1 j (by omega)), by omega⟩, w2, by rw [hadd0], .inl ⟨hadd0, fun D hD0 hD => ?_⟩⟩
  have hDn : ∀ j, n ≤ j → j < G1.length → hget D j = hget G1 j := fun j h1 h2 => (hD j (by omega) (by omega)).trans (kp j h2)
  have hopD : OpC D us o pv wv bv := hO0.low hD0.1
  have hownD := hown.low (H' := D) (fun j hj => hDn j (by have := hFn j hj; omega) (hFl j hj))
  have hrowD := hrv D hopD.parents hopD.who hopD.boxes (own_inv hownD)
  have hwfx : ∀ x ∈ l ++ [addD l id o], x.Wf := fun x hx => by
    rcases List.mem_append.1 hx with hx | hx
    · exact hN.wf x hx
    · rw [List.mem_singleton] at hx; subst hx; exact hxw
  have hfin := rows_val (D := D) (b := A1.length + 1) (T := 39) (es := some 104) (R := R ++ [row]) (L := l ++ [addD l id o]) (by rw [hD (A1.length + 1) (by omega) (by omega), hnew]; simp) (by simp [hRl]) hwfx (fun k us' x hk hx => by
    rcases Nat.lt_or_ge k l.length with hkl | hkl
    · rw [List.getElem?_append_left (by rw [hRl]; exact hkl)] at hk
      rw [List.getElem?_append_left hkl] at hx
      have := hR k us' x hk hx
      exact ⟨this.1, this.2 D hD0⟩
    · rw [List.getElem?_append_right (by rw [hRl]; exact hkl), hRl] at hk
      rw [List.getElem?_append_right hkl] at hx
      match k - l.length, hk, hx with
      | 0, hk, hx => cases hk; cases hx; exact ⟨hrl, hrowD⟩)
  rw [List.length_append] at hfin
  rw [hw2]
  exact hfin
end
section
def addL (l : List NodeD) (id : List Int) (o : OpD) : List NodeD := if addE l id o = 0 then l ++ [addD l id o] else []
theorem addD_wf {l : List NodeD} {id : List Int} {o : OpD} (hid : Key32 id) (hw : o.Wf) (hl : l.length ≤ 1000) : (addD l id o).Wf := by
  have := pastL_length l l.length o.parents
  refine ⟨hid, hw, fun z hz => ?_, by show (pastL l l.length o.parents).length ≤ _; simp only [maxLen]; omega⟩
  obtain ⟨k, rfl, hk, _⟩ := pastL_bd hz
  unfold I64
  omega
theorem addL_wf {l : List NodeD} {id : List Int} {o : OpD} (hwl : ∀ x ∈ l, x.Wf) (hid : Key32 id) (hw : o.Wf) (hl : l.length ≤ 1000) : ∀ x ∈ addL l id o, x.Wf := fun x hx => by
  unfold addL at hx
  split at hx
  · rcases List.mem_append.1 hx with hx | hx
    · exact hwl x hx
    · rw [List.mem_singleton] at hx; subst hx; exact addD_wf hid hw hl
  · cases hx
theorem addL_sm {l : List NodeD} {id : List Int} {o : OpD} : Sm6 (addL l id o) := fun x hx => by
  unfold addL at hx
  split at hx
  · rename_i h0
    obtain ⟨h1, h2, _⟩ := add_facts h0
    rcases List.mem_append.1 hx with hx | hx
    · have := (right_sm h1 x hx).1
      unfold SmO at this
      omega
    · rw [List.mem_singleton] at hx
      subst hx
      have := rightO_sm h2
      show o.parents.length ≤ _ ∧ o.who.length ≤ _ ∧ o.boxes.length ≤ _
      omega
  · cases hx
theorem addL_len {l : List NodeD} {id : List Int} {o : OpD} (hl : l.length ≤ 1000) : (addL l id o).length ≤ maxLen := by
  unfold addL
  split
  · simp only [List.length_append, List.length_cons, List.length_nil, maxLen]; omega
  · simp
theorem AddQ.nda {l : List NodeD} {id : List Int} {o : OpD} {H : AH} {v' : Value} {H' : AH} (h : AddQ l id o H v' H') (hwf : ∀ x ∈ addL l id o, x.Wf) : ∃ sv, v' = .tuple #[sv, .int .i64 (addE l id o)] ∧ notTuple sv = true ∧ sv.cells = #[sv] ∧ (addE l id o ≠ 0 → sv = .slice none 0 0) ∧ ∀ G, Low H'.length H' G → NdA G sv (addL l id o) := by
  obtain ⟨h1, sv, h2, h3⟩ := h
  refine ⟨sv, h2, ?_⟩
  rcases h3 with ⟨h0, h3⟩ | ⟨h0, rfl⟩
  · have e : addL l id o = l ++ [addD l id o] := if_pos h0
    rw [e] at hwf ⊢
    have hs := h3.sh
    exact ⟨hs.1, hs.2, fun hh => absurd h0 hh, fun G hG => h3.nda hwf (fun j _ hj => hG.1 j hj)⟩
  · have e : addL l id o = [] := if_neg h0
    rw [e]
    exact ⟨rfl, rfl, fun _ => rfl, fun G _ => nil_nda G⟩
theorem RAddQ.nda {l : List NodeD} {id : List Int} {o : OpD} {H0 H : AH} {v' : Value} {H' : AH} (h : RAddQ l id o H0 H v' H') (hwf : ∀ x ∈ addL l id o, x.Wf) (hlow : Low H0.length H0 H') : ∃ sv, v' = .tuple #[sv, .int .i64 (addE l id o)] ∧ notTuple sv = true ∧ sv.cells = #[sv] ∧ ∀ G, Low H'.length H' G → NdA G sv (addL l id o) := by
  obtain ⟨h1, sv, h2, h3⟩ := h
  refine ⟨sv, h2, ?_⟩
  rcases h3 with ⟨h0, h3⟩ | ⟨h0, rfl⟩
  · have e : addL l id o = l ++ [addD l id o] := if_pos h0
    rw [e] at hwf ⊢
    have hs := val_nt (h3 H' hlow (fun _ _ _ => rfl))
    refine ⟨hs.1, hs.2, fun G hG => (h3 G ⟨fun j hj => (hG.1 j (by have := hlow.2; omega)).trans (hlow.1 j hj), by have := hlow.2; have := hG.2; omega⟩ (fun j _ hj => hG.1 j hj)).nda hwf⟩
  · have e : addL l id o = [] := if_neg h0
    rw [e]
    exact ⟨rfl, rfl, fun G _ => nil_nda G⟩
/-- What is behind parents, or nothing. -/
def pastO (l : List NodeD) (ps : List (List Int)) : List Int := if ps.all (fun p => (findN l l.length p).isSome) = true then pastL l l.length ps else []
theorem nil_inv (H : AH) : InV H (.slice none 0 0) [] := .nil (fun x e => by cases e)
attribute [local simp] wb_bool wb_undef with_lit XL_nil XL_cons XLc_val XLc_call step1_eq stepW_t stepW_f stepC_n stepC_s stepX_s stepX_n stepN_s calleeX oneV xop_eq xopR_s xopR_n wantedA_eq wantedG_n wantedG_s plain1_int plain1_bool plain1_string bits_i64 bits_u64 bits_u32 bits_u16 bits_u8 xeqA xagg xcmp xarr allK_iv num_iv calleeOf xread xeff xbin xint xnil xun xstr xload xconv xpart xfield xfieldAddr xindexAddr xindex bnd asInt? xslice xlen xmin xmax xbuild xfill xappend xapp2 xappstr xappmk xcap xcopy xcells eval_tmp eval_const put_at put_none fr0_at cells_agg cells_int cells_bool cells_string cells_ptr cells_slice notTuple tab iv_all hget_app hget_app0 hget_cons0 hget_cons set_app set_app0 setR setR_one QL_nil QL_cons QLc_val stepQ_t stepQ_f stepQC_n stepQC_s stepQX_s SL_nil SL_cons SLc_val stepS_t stepS_f ltT ltF leT leF eqT eqF ltTn ltFn leTn leFn eqTn eqFn beqT beqF bneT bneF wi64 wu64 wu32 wu16 wu8 tmodP tdivP hgetL hgetNe hgetEq setL nums_def nums_len Nat.succ_le_of_lt List.getElem?_cons_zero List.getElem?_cons_succ Option.getD_some Int.toNat_add Int.toNat_mul agM okM agB agI agS agP agL agA okB okI okS okP okSl okA
theorem adds_law {γ : Nat → Option Nat} {H : AH} {ds dso : List CD} {u : Value} {us : List Value} {id : List Int} (ho : OkL [.sl nodeK] ds) (hv : ValL H ds [u]) (hid : Key32 id) (hoo : OkL opK dso) (hvo : ValL H dso us) : AC Try.prog H.length γ 4 #[u, .agg (iv .u8 id).toArray, .agg us.toArray] H (fun v' _ => v' = .bool true) := by
  obtain ⟨l, hV, hw, hm⟩ := nodes_in ho hv
  obtain ⟨o, pv, wv, bv, hO, hwo⟩ := op_in hoo hvo
  have hN := hV.nda hw
  have al := alive_rc (γ := γ) (H := H)
  obtain ⟨v1, v2⟩ := val_nt hV
  have hivl : (iv .u8 id).length = 32 := by rw [iv_length, hid.1]
  have hta : (iv .u8 id).take 32 = iv .u8 id := List.take_of_length_le (by omega)
  have hul := hO.len
  have htu : us.take 71 = us := List.take_of_length_le (by omega)
  have c2 := hO.c2
  have p12 := val_nt hO.parents
  refine ac_of_aw Try.func4 rfl Try.ntmps4 Try.results4 (by simp) ?_
  refine aw_seq ?_
  (refine aw_ops (by kernel_rfl) (fun K hK => ?_); simp (disch := first | omega | (simp only [lnS]; try omega; done)) [-getElem?_pos, -getElem?_neg, hivl, hul, nt_aggG]; refine hK _ _ ?_; clear hK K)
  obtain ⟨G, hG⟩ : ∃ G : AH, G = H ++ [some ⟨iv .u8 id, 24, none⟩, some ⟨us, 37, none⟩] := ⟨_, rfl⟩
  have b4 : hget G H.length = some ⟨iv .u8 id, 24, none⟩ := by rw [hG, hget_app0]; rfl
  have b5 : hget G (H.length + 1) = some ⟨us, 37, none⟩ := by rw [hG, hget_app]; rfl
  have lw : Low H.length H G := hG ▸ Low.push (Nat.le_refl _) _
  have gl : G.length = H.length + 2 := by simp [hG]
  rw [← hG]
  clear hG
  have hNG := hN.lowG lw
  have hOG : OpC G us o pv wv bv := hO.low lw.1
  have al := alive_rc (γ := γ) (H := G)
  have gr := greatG_rc (γ := γ) hNG
  have go := greatO_rc (γ := γ) hOG hwo
  obtain ⟨n, hn⟩ : ∃ n, n = H.length := ⟨_, rfl⟩
  rw [← hn] at b4 b5 gl lw ⊢
  refine aw_seq ?_
  refine aw_seq ?_
  refine aw_ops (by kernel_rfl) (fun K hK => ?_)
  simp (disch := first | omega | (simp only [lnS]; try omega; done)) [-getElem?_pos, -getElem?_neg]
  refine ⟨by kernel_rfl, ac_of_rc al (by simp [pv_iv, pv_int, pv_bool, pv_string, pv_tup2, pv_tup3, iv_plain, p2_int, p2_bool, p2_string]) ?_⟩
  try simp (disch := first | omega | (simp only [lnS]; try omega; done)) [-getElem?_pos, -getElem?_neg]
  refine hK _ _ ?_; clear hK K
  refine aw_f (by (first | (simp [eval_tmp, put_at]; done) | (simp [eval_tmp, put_at]; omega))) (by kernel_rfl) ?_
  refine aw_skip ?_
  refine aw_seq ?_
  refine aw_seq ?_
  refine aw_cut (fun α G2 => α 22 = .bool (greatG l || greatO o) ∧ α 0 = u ∧ α 4 = .pointer (some ⟨n, 0, none⟩) ∧ α 5 = .pointer (some ⟨n + 1, 0, none⟩) ∧ G2 = G) ?_ ?_
  · refine aw_ops (by kernel_rfl) (fun K hK => ?_)
    simp (disch := first | omega | (simp only [lnS]; try omega; done)) [-getElem?_pos, -getElem?_neg, -notTuple, v1, v2, nt_intG]
    refine ⟨by kernel_rfl, ac_of_rc gr (by simp [pv_iv, pv_int, pv_bool, pv_string, pv_tup2, pv_tup3, iv_plain, p2_int, p2_bool, p2_string]) ?_⟩
    cases hg : greatG l with
    | true =>
      try simp (disch := first | omega | (simp only [lnS]; try omega; done)) [-getElem?_pos, -getElem?_neg]
      refine hK _ _ ?_; clear hK K
      exact ⟨by rw [hg]; (first | (simp [put_at, put_none, fr0_at]; done) | rfl), by (first | (simp [put_at, put_none, fr0_at]; done) | rfl), by (first | (simp [put_at, put_none, fr0_at]; done) | rfl), by (first | (simp [put_at, put_none, fr0_at]; done) | rfl), rfl⟩
    | false =>
      simp (disch := first | omega | (simp only [lnS]; try omega; done)) [-getElem?_pos, -getElem?_neg, b5, hul, htu, nt_aggG]
      refine ⟨by kernel_rfl, ac_of_rc go (by simp [pv_iv, pv_int, pv_bool, pv_string, pv_tup2, pv_tup3, iv_plain, p2_int, p2_bool, p2_string]) ?_⟩
      cases hg2 : greatO o with
      | true =>
        try simp (disch := first | omega | (simp only [lnS]; try omega; done)) [-getElem?_pos, -getElem?_neg]
        refine hK _ _ ?_; clear hK K
        exact ⟨by rw [hg, hg2]; (first | (simp [put_at, put_none, fr0_at]; done) | rfl), by (first | (simp [put_at, put_none, fr0_at]; done) | rfl), by (first | (simp [put_at, put_none, fr0_at]; done) | rfl), by (first | (simp [put_at, put_none, fr0_at]; done) | rfl), rfl⟩
      | false =>
        try simp (disch := first | omega | (simp only [lnS]; try omega; done)) [-getElem?_pos, -getElem?_neg]
        refine hK _ _ ?_; clear hK K
        exact ⟨by rw [hg, hg2]; (first | (simp [put_at, put_none, fr0_at]; done) | rfl), by (first | (simp [put_at, put_none, fr0_at]; done) | rfl), by (first | (simp [put_at, put_none, fr0_at]; done) | rfl), by (first | (simp [put_at, put_none, fr0_at]; done) | rfl), rfl⟩
  rintro α G2 ⟨q22, q0, q4, q5, rfl⟩
  cases hb : (greatG l || greatO o) with
  | true =>
    rw [hb] at q22
    refine aw_t (by (first | (simp [eval_tmp, put_at, q22]; done) | (simp [eval_tmp, put_at, q22]; omega))) (by kernel_rfl) ?_
    refine aw_seq ?_
    refine aw_ops (by kernel_rfl) (fun K hK => ?_)
    simp (disch := first | omega | (simp only [lnS]; try omega; done)) [-getElem?_pos, -getElem?_neg]
    refine ⟨by kernel_rfl, ac_of_rc al (by simp [pv_iv, pv_int, pv_bool, pv_string, pv_tup2, pv_tup3, iv_plain, p2_int, p2_bool, p2_string]) ?_⟩
    try simp (disch := first | omega | (simp only [lnS]; try omega; done)) [-getElem?_pos, -getElem?_neg]
    refine hK _ _ ?_; clear hK K
    (refine aw_ret ?_; simp (disch := first | omega | (simp only [lnS]; try omega; done)) [-getElem?_pos, -getElem?_neg, thenQ_ret, scopeQ_ret, inBlockQ_ret, RQ, resL, resV])
  | false =>
  rw [hb] at q22
  refine aw_f (by (first | (simp [eval_tmp, put_at, q22]; done) | (simp [eval_tmp, put_at, q22]; omega))) (by kernel_rfl) ?_
  refine aw_skip ?_
  rw [Bool.or_eq_false_iff] at hb
  obtain ⟨hg, hg2⟩ := hb
  have hl110 : l.length ≤ 110 := by
    unfold greatG at hg
    rw [Bool.or_eq_false_iff, decide_eq_false_iff_not] at hg
    omega
  have hp30 : o.parents.length ≤ 30 := by
    unfold greatO at hg2
    rw [Bool.or_eq_false_iff, decide_eq_false_iff_not] at hg2
    omega
  have hwfL := addL_wf (l := l) hw hid hwo (by omega)
  have hpk : ∀ k ∈ o.parents, k.length = 32 := fun k hk => (hwo.parents k hk).1
  have hpm : o.parents.length ≤ maxLen := by simp only [maxLen]; omega
  -- Add
  refine aw_seq ?_
  refine aw_ops (by kernel_rfl) (fun K hK => ?_)
  simp (disch := first | omega | (simp only [lnS]; try omega; done)) [-getElem?_pos, -getElem?_neg, q0, q4, q5, b4, b5, hivl, hta, hul, htu, -notTuple, v1, v2, nt_intG, nt_aggG]
  refine ⟨by kernel_rfl, ((add_rc (γ := γ) hNG hid hOG hwo).thaw (nro := n) (fun v G' h => ⟨h.1.2, h.1.1⟩)).mono ?_⟩
  intro va G3 hqa
  have low3 := hqa.1
  obtain ⟨mv, rfl, m1, m2, hm0, hmN⟩ := hqa.nda hwfL
  simp (disch := first | omega | (simp only [lnS]; try omega; done)) [-getElem?_pos, -getElem?_neg, -notTuple, m1, m2, nt_intG]
  refine hK _ _ ?_; clear hK K
  have lowH3 : Low n H G3 := ⟨fun j hj => (low3.1 j (by omega)).trans (lw.1 j (by omega)), by have := low3.2; omega⟩
  have e4 := (low3.1 n (by omega)).trans b4
  have e5 := (low3.1 (n + 1) (by omega)).trans b5
  -- Past
  have hO3 : OpC G3 us o pv wv bv := hO.low (fun j hj => lowH3.1 j (by omega))
  have rP := pastE_rc (γ := γ) (hN.lowG (hn ▸ lowH3)) hO3.parents hpk hpm
  refine aw_seq ?_
  refine aw_ops (by kernel_rfl) (fun K hK => ?_)
  simp (disch := first | omega | (simp only [lnS]; try omega; done)) [-getElem?_pos, -getElem?_neg, q0, q5, e5, hul, c2, -notTuple, v1, v2, p12.1, p12.2, nt_intG, nt_aggG]
  refine ⟨by kernel_rfl, (rP.thaw (nro := n) (fun v G' h => ?_)).mono ?_⟩
  · rcases h with ⟨_, h⟩ | ⟨_, rfl, _⟩
    · exact ⟨h.1.2, h.1.1⟩
    · exact ⟨Nat.le_refl _, fun _ _ => rfl⟩
  intro vp G4 hqp
  obtain ⟨low4, sp, ef, rfl, s1, s2, hsp⟩ : Low G3.length G3 G4 ∧ ∃ sp ef, vp = .tuple #[sp, .int .i64 ef] ∧ notTuple sp = true ∧ sp.cells = #[sp] ∧ ((rightG l = false ∧ sp = .slice none 0 0 ∧ ef = 1) ∨ (rightG l = true ∧ ((o.parents.all (fun p => (findN l l.length p).isSome) = true ∧ ef = 0) ∨ (o.parents.all (fun p => (findN l l.length p).isSome) = false ∧ ef = 14)) ∧ InV G4 sp (pastO l o.parents))) := by
    rcases hqp with ⟨hr, low, ⟨hall, sv, F, rfl, hown, hF⟩ | ⟨hall, rfl⟩⟩ | ⟨hr, rfl, rfl⟩
    · obtain ⟨a1, a2⟩ := own_nt hown
      refine ⟨low, sv, 0, rfl, a1, a2, .inr ⟨hr, .inl ⟨hall, rfl⟩, ?_⟩⟩
      unfold pastO
      rw [if_pos hall]
      exact own_inv hown
    · refine ⟨low, _, 14, rfl, rfl, rfl, .inr ⟨hr, .inr ⟨hall, rfl⟩, ?_⟩⟩
      unfold pastO
      rw [if_neg (by simp [hall])]
      exact nil_inv _
    · exact ⟨Low.refl (Nat.le_refl _), _, 1, rfl, rfl, rfl, .inl ⟨hr, rfl, rfl⟩⟩
  simp (disch := first | omega | (simp only [lnS]; try omega; done)) [-getElem?_pos, -getElem?_neg, -notTuple, s1, s2, nt_intG]
  refine hK _ _ ?_; clear hK K
  have lowH4 : Low n H G4 := ⟨fun j hj => (low4.1 j (by have := lowH3.2; omega)).trans (lowH3.1 j hj), by have := low4.2; have := lowH3.2; omega⟩
  have hl3 := low3.2
  have f4 := (low4.1 n (by omega)).trans e4
  have f5 := (low4.1 (n + 1) (by omega)).trans e5
  have hV4 : NdV G4 u l := CD.Val.low (fun j hj => lowH4.1 j (by omega)) hV
  have rr := rRightG_rc (γ := γ) hV4 hw (by simp only [maxLen]; omega)
  have al4 := alive_rc (γ := γ) (H := G4)
  refine aw_seq ?_
  refine aw_seq ?_
  refine aw_ops (by kernel_rfl) (fun K hK => ?_)
  simp (disch := first | omega | (simp only [lnS]; try omega; done)) [-getElem?_pos, -getElem?_neg, q0, -notTuple, v1, v2, nt_intG]
  refine ⟨by kernel_rfl, ac_of_rc rr (by simp [pv_iv, pv_int, pv_bool, pv_string, pv_tup2, pv_tup3, iv_plain, p2_int, p2_bool, p2_string]) ?_⟩
  rcases hsp with ⟨hr, rfl, rfl⟩ | ⟨hr, hef, hsp⟩
  · have hadd1 : addE l id o = 1 := by unfold addE; rw [if_pos hr]
    obtain rfl := hm0 (by rw [hadd1]; decide)
    rw [hr]
    try simp (disch := first | omega | (simp only [lnS]; try omega; done)) [-getElem?_pos, -getElem?_neg]
    refine hK _ _ ?_; clear hK K
    refine aw_t (by (first | (simp [eval_tmp, put_at]; done) | (simp [eval_tmp, put_at]; omega))) (by kernel_rfl) ?_
    refine aw_seq ?_
    refine aw_ops (by kernel_rfl) (fun K hK => ?_)
    simp (disch := first | omega | (simp only [lnS]; try omega; done)) [-getElem?_pos, -getElem?_neg, hadd1]
    refine ⟨by kernel_rfl, ac_of_rc al4 (by simp [pv_iv, pv_int, pv_bool, pv_string, pv_tup2, pv_tup3, iv_plain, p2_int, p2_bool, p2_string]) ?_⟩
    try simp (disch := first | omega | (simp only [lnS]; try omega; done)) [-getElem?_pos, -getElem?_neg, hadd1]
    refine hK _ _ ?_; clear hK K
    (refine aw_ret ?_; simp (disch := first | omega | (simp only [lnS]; try omega; done)) [-getElem?_pos, -getElem?_neg, thenQ_ret, scopeQ_ret, inBlockQ_ret, RQ, resL, resV])
  rw [hr]
  try simp (disch := first | omega | (simp only [lnS]; try omega; done)) [-getElem?_pos, -getElem?_neg]
  refine hK _ _ ?_; clear hK K
  refine aw_f (by (first | (simp [eval_tmp, put_at]; done) | (simp [eval_tmp, put_at]; omega))) (by kernel_rfl) ?_
  refine aw_skip ?_
  -- the reference's Add
  have lo4 : Low H.length H G4 := hn ▸ lowH4
  have O4 : OpC G4 us o pv wv bv := hO.low (fun j hj => lowH4.1 j (by omega))
  have hsh4 := hmN G4 low4
  refine aw_seq ?_
  refine aw_ops (by kernel_rfl) (fun K hK => ?_)
  simp (disch := first | omega | (simp only [lnS]; try omega; done)) [-getElem?_pos, -getElem?_neg, q0, q4, q5, f4, f5, hivl, hta, hul, htu, -notTuple, v1, v2, nt_intG, nt_aggG]
  refine ⟨by kernel_rfl, ((rAdd_rc (γ := γ) hV hw hr hid hO hwo lo4).thaw (nro := n) (fun v G' h => ⟨h.1.2, h.1.1⟩)).mono ?_⟩
  intro vr G5 hqr
  have low5 := hqr.1
  have lowH5 : Low n H G5 := ⟨fun j hj => (low5.1 j (by have := lowH4.2; omega)).trans (lowH4.1 j hj), by have := low5.2; have := lowH4.2; omega⟩
  obtain ⟨rv, rfl, r1, r2, hrN⟩ := hqr.nda hwfL (hn ▸ lowH5)
  simp (disch := first | omega | (simp only [lnS]; try omega; done)) [-getElem?_pos, -getElem?_neg, -notTuple, r1, r2, nt_intG]
  refine hK _ _ ?_; clear hK K
  have hl4 := low4.2
  have g5 := (low5.1 (n + 1) (by omega)).trans f5
  -- the reference's Past
  have O5 : OpC G5 us o pv wv bv := hO.low (fun j hj => lowH5.1 j (by omega))
  have rQ := rPast_rc (γ := γ) (hN.lowG (hn ▸ lowH5)) hl110 O5.parents hpk hpm
  refine aw_seq ?_
  refine aw_ops (by kernel_rfl) (fun K hK => ?_)
  simp (disch := first | omega | (simp only [lnS]; try omega; done)) [-getElem?_pos, -getElem?_neg, q0, q5, g5, hul, c2, -notTuple, v1, v2, p12.1, p12.2, nt_intG, nt_aggG]
  refine ⟨by kernel_rfl, (rQ.thaw (nro := n) (fun v G' h => ⟨h.1.2, h.1.1⟩)).mono ?_⟩
  intro vq G6 hqq
  obtain ⟨low6, sq, rfl, t1, t2, hsq⟩ : Low G5.length G5 G6 ∧ ∃ sq, vq = .tuple #[sq, .bool (o.parents.all (fun p => (findN l l.length p).isSome))] ∧ notTuple sq = true ∧ sq.cells = #[sq] ∧ InV G6 sq (pastO l o.parents) := by
    rcases hqq with ⟨low, ⟨hall, sv, F, rfl, hown, hF⟩ | ⟨hall, rfl⟩⟩
    · obtain ⟨a1, a2⟩ := own_nt hown
      refine ⟨low, sv, by rw [hall], a1, a2, ?_⟩
      unfold pastO
      rw [if_pos hall]
      exact own_inv hown
    · refine ⟨low, _, by rw [hall], rfl, rfl, ?_⟩
      unfold pastO
      rw [if_neg (by simp [hall])]
      exact nil_inv _
  obtain ⟨ok, hok⟩ : ∃ ok, ok = o.parents.all (fun p => (findN l l.length p).isSome) := ⟨_, rfl⟩
  rw [← hok] at hef ⊢
  simp (disch := first | omega | (simp only [lnS]; try omega; done)) [-getElem?_pos, -getElem?_neg, -notTuple, t1, t2, nt_intG, nt_boolG]
  refine hK _ _ ?_; clear hK K
  have hl5 := low5.2
  have hl6 := low6.2
  have low46 : Low G4.length G4 G6 := ⟨fun j hj => (low6.1 j (by omega)).trans (low5.1 j hj), by omega⟩
  have hsp6 : InV G6 sp (pastO l o.parents) := hsp.lowG low46
  have hpo : (pastO l o.parents).length ≤ maxLen := by
    unfold pastO
    split
    · have := pastL_length l l.length o.parents
      simp only [maxLen]; omega
    · simp
  have hsi := sameInts_rc (γ := γ) hsp6 hsq hpo
  rw [decide_eq_true rfl] at hsi
  have al6 := alive_rc (γ := γ) (H := G6)
  have hM6 := hmN G6 ⟨fun j hj => (low46.1 j (by omega)).trans (low4.1 j hj), by omega⟩
  have hR6 := hrN G6 low6
  have hsa := rSame_rc (γ := γ) hM6 hR6 addL_sm addL_sm (addL_len (by omega))
  rw [decide_eq_true rfl] at hsa
  refine aw_seq ?_
  refine aw_seq ?_
  refine aw_cut (fun α G => α 91 = .bool false ∧ α 7 = mv ∧ α 8 = .int .i64 (addE l id o) ∧ α 11 = rv ∧ α 12 = .int .i64 (addE l id o) ∧ G = G6) ?_ ?_
  · rcases hef with ⟨rfl, rfl⟩ | ⟨rfl, rfl⟩
    · refine aw_ops (by kernel_rfl) (fun K hK => ?_)
      simp (disch := first | omega | (simp only [lnS]; try omega; done)) [-getElem?_pos, -getElem?_neg, -notTuple, s1, s2, t1, t2, nt_intG]
      refine ⟨by kernel_rfl, ac_of_rc hsi (by simp [pv_iv, pv_int, pv_bool, pv_string, pv_tup2, pv_tup3, iv_plain, p2_int, p2_bool, p2_string]) ?_⟩
      try simp (disch := first | omega | (simp only [lnS]; try omega; done)) [-getElem?_pos, -getElem?_neg]
      refine hK _ _ ?_; clear hK K
      exact ⟨by (first | (simp [put_at, put_none, fr0_at]; done) | rfl), by (first | (simp [put_at, put_none, fr0_at]; done) | rfl), by (first | (simp [put_at, put_none, fr0_at]; done) | rfl), by (first | (simp [put_at, put_none, fr0_at]; done) | rfl), by (first | (simp [put_at, put_none, fr0_at]; done) | rfl), rfl⟩
    · refine aw_ops (by kernel_rfl) (fun K hK => ?_)
      simp (disch := first | omega | (simp only [lnS]; try omega; done)) [-getElem?_pos, -getElem?_neg, -notTuple, s1, s2, t1, t2, nt_intG]
      refine ⟨by kernel_rfl, ac_of_rc hsi (by simp [pv_iv, pv_int, pv_bool, pv_string, pv_tup2, pv_tup3, iv_plain, p2_int, p2_bool, p2_string]) ?_⟩
      try simp (disch := first | omega | (simp only [lnS]; try omega; done)) [-getElem?_pos, -getElem?_neg]
      refine hK _ _ ?_; clear hK K
      exact ⟨by (first | (simp [put_at, put_none, fr0_at]; done) | rfl), by (first | (simp [put_at, put_none, fr0_at]; done) | rfl), by (first | (simp [put_at, put_none, fr0_at]; done) | rfl), by (first | (simp [put_at, put_none, fr0_at]; done) | rfl), by (first | (simp [put_at, put_none, fr0_at]; done) | rfl), rfl⟩
  rintro α G ⟨q91, q7, q8, q11, q12, rfl⟩
  refine aw_f (by (first | (simp [eval_tmp, put_at, q91]; done) | (simp [eval_tmp, put_at, q91]; omega))) (by kernel_rfl) ?_
  refine aw_skip ?_
  refine aw_seq ?_
  refine aw_ops (by kernel_rfl) (fun K hK => ?_)
  simp (disch := first | omega | (simp only [lnS]; try omega; done)) [-getElem?_pos, -getElem?_neg]
  refine ⟨by kernel_rfl, ac_of_rc al6 (by simp [pv_iv, pv_int, pv_bool, pv_string, pv_tup2, pv_tup3, iv_plain, p2_int, p2_bool, p2_string]) ?_⟩
  generalize addE l id o = ee at *
  simp (disch := first | omega | (simp only [lnS]; try omega; done)) [-getElem?_pos, -getElem?_neg, q7, q8, q11, q12, -notTuple, m1, m2, r1, r2, nt_intG]
  refine ⟨by kernel_rfl, ac_of_rc hsa (by simp [pv_iv, pv_int, pv_bool, pv_string, pv_tup2, pv_tup3, iv_plain, p2_int, p2_bool, p2_string]) ?_⟩
  try simp (disch := first | omega | (simp only [lnS]; try omega; done)) [-getElem?_pos, -getElem?_neg]
  refine hK _ _ ?_; clear hK K
  (refine aw_ret ?_; simp (disch := first | omega | (simp only [lnS]; try omega; done)) [-getElem?_pos, -getElem?_neg, thenQ_ret, scopeQ_ret, inBlockQ_ret, RQ, resL, resV])
end
end Go.Proofs.Ytcbfbmdglhlbmaa
