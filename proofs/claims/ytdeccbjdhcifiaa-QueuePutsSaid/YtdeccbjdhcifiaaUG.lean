/-
  frame.sameOp: are two operations the same?
  frame.Same over frames of nothing but an operation; graph.Same's comparison of two nodes.
  cabalref15.Same: are two graphs the same?
  graph.Same: are two graphs the same?
  queue.Same.
  The reference's Same of queues.
  deep.Held: a queue, copied into new memory.
  queue.Put.
  cabalref15.Heads.
  cabalref15.Add.
  The reference's Put.
  queue.Wanted's sorting: up to twelve keys.
  queue.Wanted's last steps: ordered, once (keys none of which comes twice).
  queue.Wanted (where no key is wanted twice, and at most twelve).
  The reference's Without.
-/
import Derived.Test.YtdeccbjdhcifiaaUF
import Derived.Test.YtdeccbjdhcifiaaUE
import Derived.Test.YtdeccbjdhcifiaaUD
import Derived.Test.YtdeccbjdhcifiaaUC
namespace Go.Proofs.Ytdeccbjdhcifiaa
open Go Go.RowKit
set_option linter.unusedSimpArgs false
set_option linter.unusedVariables false
set_option maxRecDepth 100000
set_option maxHeartbeats 4000000
section
attribute [local simp] wb_bool wb_undef with_lit XL_nil XL_cons XLc_val XLc_call step1_eq stepW_t stepW_f stepC_n stepC_s stepX_s stepX_n stepN_s calleeX xrecv oneV xop_eq xopR_s xopR_n wantedA_eq wantedG_n wantedG_s plain1_int plain1_bool plain1_string bits_i64 bits_u64 bits_u32 bits_u16 bits_u8 xeqA xagg xcmp xarr allK_iv num_iv calleeOf xread xeff xbin xint xnil xun xstr xload xconv xpart xfield xfieldAddr xindexAddr xindex bnd asInt? xslice xlen xmin xmax xbuild xfill xappend xapp2 xappstr xappmk xcap xcopy xcells eval_tmp eval_const put_at put_none fr0_at cells_agg cells_int cells_bool cells_string cells_ptr cells_slice notTuple tab iv_all hget_app hget_app0 hget_cons0 hget_cons set_app set_app0 setR setR_one QL_nil QL_cons QLc_val stepQ_t stepQ_f stepQC_n stepQC_s stepQX_s SL_nil SL_cons SLc_val stepS_t stepS_f ltT ltF leT leF eqT eqF ltTn ltFn leTn leFn eqTn eqFn beqT beqF bneT bneF wi64 wu64 wu32 wu16 wu8 tmodP tdivP hgetL hgetNe hgetEq setL nums_def nums_len Nat.succ_le_of_lt List.getElem?_cons_zero List.getElem?_cons_succ Option.getD_some Int.toNat_add Int.toNat_mul agM okM agB agI agS agP agL agA okB okI okS okP okSl okA
theorem fSameOp_rc {γ : Nat → Option Nat} {H : AH} {us ws : List Value} {o o' : OpD} {pv wv bv pv' wv' bv' : Value} (h : OpC H us o pv wv bv) (h' : OpC H ws o' pv' wv' bv') (hw : o.Wf) (hw' : o'.Wf) : AC Try.prog H.length γ 139 #[.agg us.toArray, .agg ws.toArray] H (fun v' _ => v' = .bool (decide (o = o'))) := by
 have hul := h.len
 have hwl := h'.len
 refine ac_of_aw Try.func139 rfl Try.ntmps139 Try.results139 (by simp) ?_
 refine aw_seq ?_
 (refine aw_ops (by kernel_rfl) (fun K hK => ?_); simp (disch := first | omega | (simp only [lnS]; try omega)) [-getElem?_pos, -getElem?_neg, hul, hwl, nt_aggG]; refine hK _ _ ?_; clear hK K)
 obtain ⟨G, hGe⟩ : ∃ G : AH, G = H ++ [some ⟨us, 41, none⟩, some ⟨ws, 41, none⟩] := ⟨_, rfl⟩
 have b2 : hget G H.length = some ⟨us, 41, none⟩ := by rw [hGe, hget_app0]; rfl
 have b3 : hget G (H.length + 1) = some ⟨ws, 41, none⟩ := by rw [hGe, hget_app]; rfl
 have lw : Low H.length H G := hGe ▸ Low.push (Nat.le_refl _) _
 rw [← hGe]
 clear hGe
 obtain ⟨n, hn⟩ : ∃ n, n = H.length := ⟨_, rfl⟩
 rw [← hn] at b2 b3 lw ⊢
 have hO : OpC G us o pv wv bv := h.low (fun j hj => lw.1 j (by omega))
 have hO' : OpC G ws o' pv' wv' bv' := h'.low (fun j hj => lw.1 j (by omega))
 have pa := hO.parents.acc (fun k hk => (hw.parents k hk).1)
 have wa := hO.who.acc
 have bn := val_nt hO.boxes
 have bl := val_len (P := Try.prog) (t := 39) (e := 107) hO.boxes (by kernel_rfl)
 rw [List.length_map] at bl
 have p1 := pa.nt
 have p2 := pa.cs
 have p3 := pa.len
 have w1 := wa.nt
 have w2 := wa.cs
 have w3 := wa.len
 obtain ⟨n1, n2⟩ := bn
 have c0 := hO.c0
 have c1 := hO.c1
 have c2 := hO.c2
 have c3 := hO.c3
 have c4 := hO.c4
 have cf := hO.of
 have cc := hO.check
 have c69 := hO.c69
 have c70 := hO.c70
 have lf : (iv .u8 o.of).length = 32 := by rw [iv_length, hw.of.1]
 have lc : (iv .u8 o.check).length = 32 := by rw [iv_length, hw.check.1]
 have pa' := hO'.parents.acc (fun k hk => (hw'.parents k hk).1)
 have wa' := hO'.who.acc
 have bn' := val_nt hO'.boxes
 have bl' := val_len (P := Try.prog) (t := 39) (e := 107) hO'.boxes (by kernel_rfl)
 rw [List.length_map] at bl'
 have p1' := pa'.nt
 have p2' := pa'.cs
 have p3' := pa'.len
 have w1' := wa'.nt
 have w2' := wa'.cs
 have w3' := wa'.len
 obtain ⟨n1', n2'⟩ := bn'
 have c0' := hO'.c0
 have c1' := hO'.c1
 have c2' := hO'.c2
 have c3' := hO'.c3
 have c4' := hO'.c4
 have cf' := hO'.of
 have cc' := hO'.check
 have c69' := hO'.c69
 have c70' := hO'.c70
 have lf' : (iv .u8 o'.of).length = 32 := by rw [iv_length, hw'.of.1]
 have lc' : (iv .u8 o'.check).length = 32 := by rw [iv_length, hw'.check.1]
 have ek := eqK_rc (γ := γ) hO.parents hO'.parents (fun k hk => (hw.parents k hk).1) (fun k hk => (hw'.parents k hk).1) hw.plen
 have ei := eqI_rc (γ := γ) hO.who hO'.who hw.wlen
 have eb := eqB_rc (γ := γ) hO.boxes hO'.boxes hw.boxes hw'.boxes hw.blen
 refine aw_seq ?_
 refine aw_cut (fun α G2 => α 4 = .bool (decide (o = o')) ∧ G2 = G) ?_ ?_
 ·by_cases e0 : o.author = o'.author
  case neg =>
   have q0 : (o.author == o'.author) = false := by rw [beq_eq_false_iff_ne]; exact e0
   have hd : decide (o = o') = false := decide_eq_false (fun hh => e0 (by rw [hh]))
   (refine aw_ops (by kernel_rfl) (fun K hK => ?_); simp (disch := first | omega | (simp only [lnS]; try omega)) [-getElem?_pos, -getElem?_neg, b2, b3, hul, hwl, c0, c0', c1, c1', c2, c2', c3, c3', c4, c4', cf, cf', cc, cc', c69, c69', c70, c70', lf, lf', lc, lc', -notTuple, p1, p1', p2, p2', w1, w1', w2, w2', n1, n1', n2, n2', nt_intG, nt_ptrG, nt_strG, nt_aggG, e0, q0]; refine hK _ _ ?_; clear hK K)
   exact ⟨by rw [hd]; (first | (simp [put_at, put_none, fr0_at]; done) | rfl), rfl⟩
  have q0 : (o.author == o'.author) = true := by rw [beq_iff_eq]; exact e0
  by_cases e1 : o.seq = o'.seq
  case neg =>
   have q1 : (o.seq == o'.seq) = false := by rw [beq_eq_false_iff_ne]; exact e1
   have hd : decide (o = o') = false := decide_eq_false (fun hh => e1 (by rw [hh]))
   (refine aw_ops (by kernel_rfl) (fun K hK => ?_); simp (disch := first | omega | (simp only [lnS]; try omega)) [-getElem?_pos, -getElem?_neg, b2, b3, hul, hwl, c0, c0', c1, c1', c2, c2', c3, c3', c4, c4', cf, cf', cc, cc', c69, c69', c70, c70', lf, lf', lc, lc', -notTuple, p1, p1', p2, p2', w1, w1', w2, w2', n1, n1', n2, n2', nt_intG, nt_ptrG, nt_strG, nt_aggG, e0, q0, e1, q1]; refine hK _ _ ?_; clear hK K)
   exact ⟨by rw [hd]; (first | (simp [put_at, put_none, fr0_at]; done) | rfl), rfl⟩
  have q1 : (o.seq == o'.seq) = true := by rw [beq_iff_eq]; exact e1
  by_cases e2 : o.kind = o'.kind
  case neg =>
   have q2 : (o.kind == o'.kind) = false := by rw [beq_eq_false_iff_ne]; exact e2
   have hd : decide (o = o') = false := decide_eq_false (fun hh => e2 (by rw [hh]))
   (refine aw_ops (by kernel_rfl) (fun K hK => ?_); simp (disch := first | omega | (simp only [lnS]; try omega)) [-getElem?_pos, -getElem?_neg, b2, b3, hul, hwl, c0, c0', c1, c1', c2, c2', c3, c3', c4, c4', cf, cf', cc, cc', c69, c69', c70, c70', lf, lf', lc, lc', -notTuple, p1, p1', p2, p2', w1, w1', w2, w2', n1, n1', n2, n2', nt_intG, nt_ptrG, nt_strG, nt_aggG, e0, q0, e1, q1, e2, q2]; refine hK _ _ ?_; clear hK K)
   exact ⟨by rw [hd]; (first | (simp [put_at, put_none, fr0_at]; done) | rfl), rfl⟩
  have q2 : (o.kind == o'.kind) = true := by rw [beq_iff_eq]; exact e2
  by_cases e3 : o.of = o'.of
  case neg =>
   have q3 : (o.of == o'.of) = false := by rw [beq_eq_false_iff_ne]; exact e3
   have hd : decide (o = o') = false := decide_eq_false (fun hh => e3 (by rw [hh]))
   (refine aw_ops (by kernel_rfl) (fun K hK => ?_); simp (disch := first | omega | (simp only [lnS]; try omega)) [-getElem?_pos, -getElem?_neg, b2, b3, hul, hwl, c0, c0', c1, c1', c2, c2', c3, c3', c4, c4', cf, cf', cc, cc', c69, c69', c70, c70', lf, lf', lc, lc', -notTuple, p1, p1', p2, p2', w1, w1', w2, w2', n1, n1', n2, n2', nt_intG, nt_ptrG, nt_strG, nt_aggG, e0, q0, e1, q1, e2, q2, e3, q3]; refine hK _ _ ?_; clear hK K)
   exact ⟨by rw [hd]; (first | (simp [put_at, put_none, fr0_at]; done) | rfl), rfl⟩
  have q3 : (o.of == o'.of) = true := by rw [beq_iff_eq]; exact e3
  by_cases e4 : o.check = o'.check
  case neg =>
   have q4 : (o.check == o'.check) = false := by rw [beq_eq_false_iff_ne]; exact e4
   have hd : decide (o = o') = false := decide_eq_false (fun hh => e4 (by rw [hh]))
   (refine aw_ops (by kernel_rfl) (fun K hK => ?_); simp (disch := first | omega | (simp only [lnS]; try omega)) [-getElem?_pos, -getElem?_neg, b2, b3, hul, hwl, c0, c0', c1, c1', c2, c2', c3, c3', c4, c4', cf, cf', cc, cc', c69, c69', c70, c70', lf, lf', lc, lc', -notTuple, p1, p1', p2, p2', w1, w1', w2, w2', n1, n1', n2, n2', nt_intG, nt_ptrG, nt_strG, nt_aggG, e0, q0, e1, q1, e2, q2, e3, q3, e4, q4]; refine hK _ _ ?_; clear hK K)
   exact ⟨by rw [hd]; (first | (simp [put_at, put_none, fr0_at]; done) | rfl), rfl⟩
  have q4 : (o.check == o'.check) = true := by rw [beq_iff_eq]; exact e4
  by_cases e5 : o.text = o'.text
  case neg =>
   have q5 : (o.text.toList == o'.text.toList) = false := by rw [beq_eq_false_iff_ne]; exact fun hh => e5 ((tl_eq _ _).1 hh)
   have hd : decide (o = o') = false := decide_eq_false (fun hh => e5 (by rw [hh]))
   (refine aw_ops (by kernel_rfl) (fun K hK => ?_); simp (disch := first | omega | (simp only [lnS]; try omega)) [-getElem?_pos, -getElem?_neg, b2, b3, hul, hwl, c0, c0', c1, c1', c2, c2', c3, c3', c4, c4', cf, cf', cc, cc', c69, c69', c70, c70', lf, lf', lc, lc', -notTuple, p1, p1', p2, p2', w1, w1', w2, w2', n1, n1', n2, n2', nt_intG, nt_ptrG, nt_strG, nt_aggG, e0, q0, e1, q1, e2, q2, e3, q3, e4, q4, q5]; refine hK _ _ ?_; clear hK K)
   exact ⟨by rw [hd]; (first | (simp [put_at, put_none, fr0_at]; done) | rfl), rfl⟩
  have q5 : (o.text.toList == o'.text.toList) = true := by rw [beq_iff_eq]; exact (tl_eq _ _).2 e5
  refine aw_ops (by kernel_rfl) (fun K hK => ?_)
  simp (disch := first | omega | (simp only [lnS]; try omega)) [-getElem?_pos, -getElem?_neg, b2, b3, hul, hwl, c0, c0', c1, c1', c2, c2', c3, c3', c4, c4', cf, cf', cc, cc', c69, c69', c70, c70', lf, lf', lc, lc', -notTuple, p1, p1', p2, p2', w1, w1', w2, w2', n1, n1', n2, n2', nt_intG, nt_ptrG, nt_strG, nt_aggG, e0, q0, e1, q1, e2, q2, e3, q3, e4, q4, q5]
  by_cases e6 : o.parents = o'.parents
  case neg =>
   have hd : decide (o = o') = false := decide_eq_false (fun hh => e6 (by rw [hh]))
   rw [decide_eq_false e6] at ek
   refine ⟨by kernel_rfl, ac_of_rc ek (by simp [pv_iv, pv_int, pv_bool, pv_string, pv_tup2, pv_tup3, iv_plain, p2_int, p2_bool, p2_string]) ?_⟩
   try simp (disch := first | omega | (simp only [lnS]; try omega)) [-getElem?_pos, -getElem?_neg, b2, b3, hul, hwl, c0, c0', c1, c1', c2, c2', c3, c3', c4, c4', cf, cf', cc, cc', c69, c69', c70, c70', lf, lf', lc, lc', -notTuple, p1, p1', p2, p2', w1, w1', w2, w2', n1, n1', n2, n2', nt_intG, nt_ptrG, nt_strG, nt_aggG, e0, q0, e1, q1, e2, q2, e3, q3, e4, q4, q5]
   refine hK _ _ ?_; clear hK K
   exact ⟨by rw [hd]; (first | (simp [put_at, put_none, fr0_at]; done) | rfl), rfl⟩
  rw [decide_eq_true e6] at ek
  refine ⟨by kernel_rfl, ac_of_rc ek (by simp [pv_iv, pv_int, pv_bool, pv_string, pv_tup2, pv_tup3, iv_plain, p2_int, p2_bool, p2_string]) ?_⟩
  try simp (disch := first | omega | (simp only [lnS]; try omega)) [-getElem?_pos, -getElem?_neg, b2, b3, hul, hwl, c0, c0', c1, c1', c2, c2', c3, c3', c4, c4', cf, cf', cc, cc', c69, c69', c70, c70', lf, lf', lc, lc', -notTuple, p1, p1', p2, p2', w1, w1', w2, w2', n1, n1', n2, n2', nt_intG, nt_ptrG, nt_strG, nt_aggG, e0, q0, e1, q1, e2, q2, e3, q3, e4, q4, q5]
  by_cases e7 : o.who = o'.who
  case neg =>
   have hd : decide (o = o') = false := decide_eq_false (fun hh => e7 (by rw [hh]))
   rw [decide_eq_false e7] at ei
   refine ⟨by kernel_rfl, ac_of_rc ei (by simp [pv_iv, pv_int, pv_bool, pv_string, pv_tup2, pv_tup3, iv_plain, p2_int, p2_bool, p2_string]) ?_⟩
   try simp (disch := first | omega | (simp only [lnS]; try omega)) [-getElem?_pos, -getElem?_neg, b2, b3, hul, hwl, c0, c0', c1, c1', c2, c2', c3, c3', c4, c4', cf, cf', cc, cc', c69, c69', c70, c70', lf, lf', lc, lc', -notTuple, p1, p1', p2, p2', w1, w1', w2, w2', n1, n1', n2, n2', nt_intG, nt_ptrG, nt_strG, nt_aggG, e0, q0, e1, q1, e2, q2, e3, q3, e4, q4, q5]
   refine hK _ _ ?_; clear hK K
   exact ⟨by rw [hd]; (first | (simp [put_at, put_none, fr0_at]; done) | rfl), rfl⟩
  rw [decide_eq_true e7] at ei
  refine ⟨by kernel_rfl, ac_of_rc ei (by simp [pv_iv, pv_int, pv_bool, pv_string, pv_tup2, pv_tup3, iv_plain, p2_int, p2_bool, p2_string]) ?_⟩
  try simp (disch := first | omega | (simp only [lnS]; try omega)) [-getElem?_pos, -getElem?_neg, b2, b3, hul, hwl, c0, c0', c1, c1', c2, c2', c3, c3', c4, c4', cf, cf', cc, cc', c69, c69', c70, c70', lf, lf', lc, lc', -notTuple, p1, p1', p2, p2', w1, w1', w2, w2', n1, n1', n2, n2', nt_intG, nt_ptrG, nt_strG, nt_aggG, e0, q0, e1, q1, e2, q2, e3, q3, e4, q4, q5]
  by_cases e8 : o.boxes = o'.boxes
  case neg =>
   have hd : decide (o = o') = false := decide_eq_false (fun hh => e8 (by rw [hh]))
   rw [decide_eq_false e8] at eb
   refine ⟨by kernel_rfl, ac_of_rc eb (by simp [pv_iv, pv_int, pv_bool, pv_string, pv_tup2, pv_tup3, iv_plain, p2_int, p2_bool, p2_string]) ?_⟩
   try simp (disch := first | omega | (simp only [lnS]; try omega)) [-getElem?_pos, -getElem?_neg, b2, b3, hul, hwl, c0, c0', c1, c1', c2, c2', c3, c3', c4, c4', cf, cf', cc, cc', c69, c69', c70, c70', lf, lf', lc, lc', -notTuple, p1, p1', p2, p2', w1, w1', w2, w2', n1, n1', n2, n2', nt_intG, nt_ptrG, nt_strG, nt_aggG, e0, q0, e1, q1, e2, q2, e3, q3, e4, q4, q5]
   refine hK _ _ ?_; clear hK K
   exact ⟨by rw [hd]; (first | (simp [put_at, put_none, fr0_at]; done) | rfl), rfl⟩
  rw [decide_eq_true e8] at eb
  refine ⟨by kernel_rfl, ac_of_rc eb (by simp [pv_iv, pv_int, pv_bool, pv_string, pv_tup2, pv_tup3, iv_plain, p2_int, p2_bool, p2_string]) ?_⟩
  try simp (disch := first | omega | (simp only [lnS]; try omega)) [-getElem?_pos, -getElem?_neg, b2, b3, hul, hwl, c0, c0', c1, c1', c2, c2', c3, c3', c4, c4', cf, cf', cc, cc', c69, c69', c70, c70', lf, lf', lc, lc', -notTuple, p1, p1', p2, p2', w1, w1', w2, w2', n1, n1', n2, n2', nt_intG, nt_ptrG, nt_strG, nt_aggG, e0, q0, e1, q1, e2, q2, e3, q3, e4, q4, q5]
  refine hK _ _ ?_; clear hK K
  have hd : decide (o = o') = true := decide_eq_true (OpD.ext e0 e1 e6 e2 e7 e3 e4 e5 e8)
  exact ⟨by rw [hd]; (first | (simp [put_at, put_none, fr0_at]; done) | rfl), rfl⟩
 rintro α G2 ⟨q4, rfl⟩
 (refine aw_ret ?_; simp (disch := first | omega | (simp only [lnS]; try omega)) [-getElem?_pos, -getElem?_neg, thenQ_ret, scopeQ_ret, inBlockQ_ret, RQ, resL, resV, q4])
end
section
def frow (us : List Value) : List Value := .int .i64 0 :: .int .i64 0 :: (us ++ [.slice none 0 0])
theorem frow_len {us : List Value} (h : us.length = 71) : (frow us).length = 74 := by unfold frow; simp [h]
theorem frow_op {us : List Value} (h : us.length = 71) : ((frow us).drop 2).take 71 = us := by
 show (us ++ [Value.slice none 0 0]).take 71 = us
 rw [List.take_append_of_le_length (by omega), List.take_of_length_le (by omega)]
theorem frow_73 {us : List Value} (h : us.length = 71) : (frow us)[73]? = some (.slice none 0 0) := by
 show (us ++ [Value.slice none 0 0])[71]? = _
 rw [List.getElem?_append_right (by omega), h]
 rfl
theorem build_frame {us : List Value} (h : us.length = 71) : xbuild Try.prog 130 [(2, .agg us.toArray)] = some (.agg (frow us).toArray) := by
 have hf : flds Try.prog 130 = some [(3, 0), (3, 1), (41, 2), (36, 73)] := by kernel_rfl
 obtain ⟨z, hz⟩ : ∃ z, zer Try.prog 130 = some z := by
  have : (zer Try.prog 130).isSome = true := by kernel_rfl
  exact Option.isSome_iff_exists.1 this
 have hzl : z.cells.toList.length = 74 := by
  have : (zer Try.prog 130).map (fun z => z.cells.toList.length) = some 74 := by kernel_rfl
  rw [hz] at this
  simpa using this
 have hzp : z.cells.toList.all plain1 = true := by
  have : (zer Try.prog 130).map (fun z => z.cells.toList.all plain1) = some true := by kernel_rfl
  rw [hz] at this
  simpa using this
 have hz2 : z.cells.toList.take 2 = [.int .i64 0, .int .i64 0] := by
  have : (zer Try.prog 130).map (fun z => z.cells.toList.take 2) = some [.int .i64 0, .int .i64 0] := by kernel_rfl
  rw [hz] at this
  exact Option.some.inj this
 have hz3 : z.cells.toList.drop 73 = [.slice none 0 0] := by
  have : (zer Try.prog 130).map (fun z => z.cells.toList.drop 73) = some [.slice none 0 0] := by kernel_rfl
  rw [hz] at this
  exact Option.some.inj this
 have s1 : szt Try.prog 3 = 1 := by kernel_rfl
 have s2 : szt Try.prog 41 = 71 := by kernel_rfl
 have s3 : szt Try.prog 36 = 1 := by kernel_rfl
 unfold xbuild
 simp only [hf, hz]
 rw [if_pos ⟨by simp [s1, s2, s3], hzp, by simp only [List.all_cons, List.all_nil, Bool.and_true]; rfl⟩]
 generalize z.cells.toList = Z at *
 have c1 : (Value.agg us.toArray).cells = us.toArray := rfl
 have e0 : Z = [.int .i64 0, .int .i64 0] ++ Z.drop 2 := by rw [← hz2, List.take_append_drop]
 have l2 : (Z.drop 2).length = 72 := by rw [List.length_drop]; omega
 have e1 : setR Z 2 us = frow us := by
  have e2 := setR_right [.int .i64 0, .int .i64 0] (Z.drop 2) us 0 (by omega)
  rw [← e0] at e2
  have e3 : setR Z 2 us = [.int .i64 0, .int .i64 0] ++ setR (Z.drop 2) 0 us := e2
  rw [e3, setR_frontF _ us (by omega), List.drop_drop, show 2 + us.length = 73 by omega, hz3]
  rfl
 simp only [xfill, List.getElem?_cons_zero, List.getElem?_cons_succ, Option.map_some, s1, s2, s3, c1]
 rw [if_pos ⟨by simp [h], by simp; omega⟩]
 rw [e1]
attribute [local simp] wb_bool wb_undef with_lit XL_nil XL_cons XLc_val XLc_call step1_eq stepW_t stepW_f stepC_n stepC_s stepX_s stepX_n stepN_s calleeX xrecv oneV xop_eq xopR_s xopR_n wantedA_eq wantedG_n wantedG_s plain1_int plain1_bool plain1_string bits_i64 bits_u64 bits_u32 bits_u16 bits_u8 xeqA xagg xcmp xarr allK_iv num_iv calleeOf xread xeff xbin xint xnil xun xstr xload xconv xpart xfield xfieldAddr xindexAddr xindex bnd asInt? xslice xlen xmin xmax xbuild xfill xappend xapp2 xappstr xappmk xcap xcopy xcells eval_tmp eval_const put_at put_none fr0_at cells_agg cells_int cells_bool cells_string cells_ptr cells_slice notTuple tab iv_all hget_app hget_app0 hget_cons0 hget_cons set_app set_app0 setR setR_one QL_nil QL_cons QLc_val stepQ_t stepQ_f stepQC_n stepQC_s stepQX_s SL_nil SL_cons SLc_val stepS_t stepS_f ltT ltF leT leF eqT eqF ltTn ltFn leTn leFn eqTn eqFn beqT beqF bneT bneF wi64 wu64 wu32 wu16 wu8 tmodP tdivP hgetL hgetNe hgetEq setL nums_def nums_len Nat.succ_le_of_lt List.getElem?_cons_zero List.getElem?_cons_succ Option.getD_some Int.toNat_add Int.toNat_mul agM okM agB agI agS agP agL agA okB okI okS okP okSl okA
theorem frSame_rc {γ : Nat → Option Nat} {H : AH} {us ws : List Value} {o o' : OpD} {pv wv bv pv' wv' bv' : Value} (h : OpC H us o pv wv bv) (h' : OpC H ws o' pv' wv' bv') (hw : o.Wf) (hw' : o'.Wf) : AC Try.prog H.length γ 93 #[.agg (frow us).toArray, .agg (frow ws).toArray] H (fun v' _ => v' = .bool (decide (o = o'))) := by
 have a1 := frow_len h.len
 have a2 := frow_op h.len
 have a3 := frow_73 h.len
 have a4 : (frow us)[0]? = some (.int .i64 0) := rfl
 have a5 : (frow us)[1]? = some (.int .i64 0) := rfl
 have d1 := frow_len h'.len
 have d2 := frow_op h'.len
 have d3 := frow_73 h'.len
 have d4 : (frow ws)[0]? = some (.int .i64 0) := rfl
 have d5 : (frow ws)[1]? = some (.int .i64 0) := rfl
 have hul := h.len
 have hwl := h'.len
 generalize frow us = R at *
 generalize frow ws = S at *
 refine ac_of_aw Try.func93 rfl Try.ntmps93 Try.results93 (by simp) ?_
 refine aw_seq ?_
 (refine aw_ops (by kernel_rfl) (fun K hK => ?_); simp (disch := first | omega | (simp only [lnS]; try omega)) [-getElem?_pos, -getElem?_neg, a1, d1, nt_aggG]; refine hK _ _ ?_; clear hK K)
 obtain ⟨G, hGe⟩ : ∃ G : AH, G = H ++ [some ⟨R, 130, none⟩, some ⟨S, 130, none⟩] := ⟨_, rfl⟩
 have b2 : hget G H.length = some ⟨R, 130, none⟩ := by rw [hGe, hget_app0]; rfl
 have b3 : hget G (H.length + 1) = some ⟨S, 130, none⟩ := by rw [hGe, hget_app]; rfl
 have lw : Low H.length H G := hGe ▸ Low.push (Nat.le_refl _) _
 rw [← hGe]
 clear hGe
 obtain ⟨n, hn⟩ : ∃ n, n = H.length := ⟨_, rfl⟩
 rw [← hn] at b2 b3 lw ⊢
 have hO : OpC G us o pv wv bv := h.low (fun j hj => lw.1 j (by omega))
 have hO' : OpC G ws o' pv' wv' bv' := h'.low (fun j hj => lw.1 j (by omega))
 have kn : KsV G (.slice none 0 0) [] := .nil (fun x e => by cases e)
 have ek := eqK_rc (γ := γ) kn kn (fun k hk => by cases hk) (fun k hk => by cases hk) (by simp)
 rw [decide_eq_true rfl] at ek
 have eo := fSameOp_rc (γ := γ) hO hO' hw hw'
 refine aw_seq ?_
 refine aw_cut (fun α G2 => α 4 = .bool (decide (o = o')) ∧ G2 = G) ?_ ?_
 ·refine aw_ops (by kernel_rfl) (fun K hK => ?_)
  simp (disch := first | omega | (simp only [lnS]; try omega)) [-getElem?_pos, -getElem?_neg, b2, b3, a1, a2, a3, a4, a5, d1, d2, d3, d4, d5, nt_intG, nt_ptrG, nt_aggG, hul, hwl]
  refine ⟨by kernel_rfl, ac_of_rc ek (by simp [pv_iv, pv_int, pv_bool, pv_string, pv_tup2, pv_tup3, iv_plain, p2_int, p2_bool, p2_string]) ?_⟩
  simp (disch := first | omega | (simp only [lnS]; try omega)) [-getElem?_pos, -getElem?_neg, b2, b3, a1, a2, a3, a4, a5, d1, d2, d3, d4, d5, nt_intG, nt_ptrG, nt_aggG, hul, hwl]
  refine ⟨by kernel_rfl, ac_of_rc eo (by simp [pv_iv, pv_int, pv_bool, pv_string, pv_tup2, pv_tup3, iv_plain, p2_int, p2_bool, p2_string]) ?_⟩
  try simp (disch := first | omega | (simp only [lnS]; try omega)) [-getElem?_pos, -getElem?_neg]
  refine hK _ _ ?_; clear hK K
  exact ⟨by (first | (simp [put_at, put_none, fr0_at]; done) | rfl), rfl⟩
 rintro α G2 ⟨q4, rfl⟩
 (refine aw_ret ?_; simp (disch := first | omega | (simp only [lnS]; try omega)) [-getElem?_pos, -getElem?_neg, thenQ_ret, scopeQ_ret, inBlockQ_ret, RQ, resL, resV, q4])
end
section
theorem NdA.row {H : AH} {v : Value} {l : List NodeD} (h : NdA H v l) {i : Nat} (hi : i < l.length) : ∃ j q bb us pv wv bv qv, xindexAddr Try.prog 22 v (.int .i64 (i : Nat)) = some (.pointer (some ⟨j, q, none⟩)) ∧ hget H j = some bb ∧ q + 104 ≤ bb.cells.length ∧ (bb.cells.drop q).take 104 = us ∧ NodeC H us (nd l i) pv wv bv qv := by
 obtain ⟨j, q, bb, us, pv, wv', bv, qv, hx, hbb, hq, hcell, hus, hC⟩ := h.at_ i _ (nd_get hi)
 exact ⟨j, q, bb, us, pv, wv', bv, qv, hx, hbb, hq, hus.symm, hC⟩
end
section
theorem HeldD.ext {x y : HeldD} (h1 : x.id = y.id) (h2 : x.op = y.op) (h3 : x.got = y.got) : x = y := by
 cases x; cases y
 cases h1; cases h2; cases h3
 rfl
noncomputable instance : DecidableEq HeldD := Classical.typeDecidableEq _
theorem helds_ext {l m : List HeldD} (hl : l.length = m.length) (h : ∀ k, k < l.length → hn l k = hn m k) : l = m := by
 apply List.ext_getElem?
 intro k
 rcases Nat.lt_or_ge k l.length with hk | hk
 ·rw [hn_get hk, hn_get (show k < m.length by omega), h k hk]
 ·rw [List.getElem?_eq_none hk, List.getElem?_eq_none (by omega)]
theorem heldSame_callable : callable Try.prog 91 = true := by kernel_rfl
theorem HdA.row {H : AH} {v : Value} {l : List HeldD} (h : HdA H v l) {i : Nat} (hi : i < l.length) : ∃ j q bb us pv wv bv qv, xindexAddr Try.prog 58 v (.int .i64 (i : Nat)) = some (.pointer (some ⟨j, q, none⟩)) ∧ hget H j = some bb ∧ q + 104 ≤ bb.cells.length ∧ (bb.cells.drop q).take 104 = us ∧ HdC H us (hn l i) pv wv bv qv := by
 obtain ⟨j, q, bb, us, pv, wv', bv, qv, hx, hbb, hq, hcell, hus, hC⟩ := h.at_ i _ (hn_get hi)
 exact ⟨j, q, bb, us, pv, wv', bv, qv, hx, hbb, hq, hus.symm, hC⟩
attribute [local simp] wb_bool wb_undef with_lit XL_nil XL_cons XLc_val XLc_call step1_eq stepW_t stepW_f stepC_n stepC_s stepX_s stepX_n stepN_s calleeX xrecv oneV xop_eq xopR_s xopR_n wantedA_eq wantedG_n wantedG_s plain1_int plain1_bool plain1_string bits_i64 bits_u64 bits_u32 bits_u16 bits_u8 xeqA xagg xcmp xarr allK_iv num_iv calleeOf xread xeff xbin xint xnil xun xstr xload xconv xpart xfield xfieldAddr xindexAddr xindex bnd asInt? xslice xlen xmin xmax xbuild xfill xappend xapp2 xappstr xappmk xcap xcopy xcells eval_tmp eval_const put_at put_none fr0_at cells_agg cells_int cells_bool cells_string cells_ptr cells_slice notTuple tab iv_all hget_app hget_app0 hget_cons0 hget_cons set_app set_app0 setR setR_one QL_nil QL_cons QLc_val stepQ_t stepQ_f stepQC_n stepQC_s stepQX_s SL_nil SL_cons SLc_val stepS_t stepS_f ltT ltF leT leF eqT eqF ltTn ltFn leTn leFn eqTn eqFn beqT beqF bneT bneF wi64 wu64 wu32 wu16 wu8 tmodP tdivP hgetL hgetNe hgetEq setL nums_def nums_len Nat.succ_le_of_lt List.getElem?_cons_zero List.getElem?_cons_succ Option.getD_some Int.toNat_add Int.toNat_mul agM okM agB agI agS agP agL agA okB okI okS okP okSl okA
theorem heldSame_rc {γ : Nat → Option Nat} {H : AH} {us ws : List Value} {x y : HeldD} {pv wv bv qv pv' wv' bv' qv' : Value} (h : HdC H us x pv wv bv qv) (h' : HdC H ws y pv' wv' bv' qv') (hw : x.Wf) (hw' : y.Wf) : AC Try.prog H.length γ 91 #[.agg us.toArray, .agg ws.toArray] H (fun v' _ => v' = .bool (decide (x = y))) := by
 have hul := h.len
 have hwl := h'.len
 refine ac_of_aw Try.func91 rfl Try.ntmps91 Try.results91 (by simp) ?_
 refine aw_seq ?_
 (refine aw_ops (by kernel_rfl) (fun K hK => ?_); simp (disch := first | omega | (simp only [lnS]; try omega)) [-getElem?_pos, -getElem?_neg, hul, hwl, nt_aggG]; refine hK _ _ ?_; clear hK K)
 obtain ⟨G, hGe⟩ : ∃ G : AH, G = H ++ [some ⟨us, 60, none⟩, some ⟨ws, 60, none⟩] := ⟨_, rfl⟩
 have b2 : hget G H.length = some ⟨us, 60, none⟩ := by rw [hGe, hget_app0]; rfl
 have b3 : hget G (H.length + 1) = some ⟨ws, 60, none⟩ := by rw [hGe, hget_app]; rfl
 have lw : Low H.length H G := hGe ▸ Low.push (Nat.le_refl _) _
 rw [← hGe]
 clear hGe
 obtain ⟨n, hn⟩ : ∃ n, n = H.length := ⟨_, rfl⟩
 rw [← hn] at b2 b3 lw ⊢
 have hN : HdC G us x pv wv bv qv := h.low (fun j hj => lw.1 j (by omega))
 have hN' : HdC G ws y pv' wv' bv' qv' := h'.low (fun j hj => lw.1 j (by omega))
 clear h h'
 obtain ⟨_, a1, a2, a3, a4⟩ := hN
 obtain ⟨_, d1, d2, d3, d4⟩ := hN'
 have la : (iv .u8 x.id).length = 32 := by rw [iv_length, hw.id.1]
 have ld : (iv .u8 y.id).length = 32 := by rw [iv_length, hw'.id.1]
 have na := val_nt a4
 have nd9 := val_nt d4
 have ei := eqK_rc (γ := γ) a4 d4 (fun k hk => (hw.got k hk).1) (fun k hk => (hw'.got k hk).1) hw.glen
 have es := frSame_rc (γ := γ) a2 d2 hw.op hw'.op
 have ba := build_frame a2.len
 have bd := build_frame d2.len
 have oa := a2.len
 have od := d2.len
 generalize hA : (us.drop 32).take 71 = A at *
 generalize hB : (ws.drop 32).take 71 = B at *
 generalize frow A = FA at *
 generalize frow B = FB at *
 refine aw_seq ?_
 refine aw_cut (fun α G2 => α 4 = .bool (decide (x = y)) ∧ G2 = G) ?_ ?_
 ·by_cases e0 : x.id = y.id
  case neg =>
   have q0 : (x.id == y.id) = false := by rw [beq_eq_false_iff_ne]; exact e0
   have hd : decide (x = y) = false := decide_eq_false (fun hh => e0 (by rw [hh]))
   (refine aw_ops (by kernel_rfl) (fun K hK => ?_); simp (disch := first | omega | (simp only [lnS]; try omega)) [-getElem?_pos, -getElem?_neg, b2, b3, hul, hwl, a1, d1, hA, hB, a3, d3, la, ld, oa, od, -notTuple, na.1, na.2, nd9.1, nd9.2, nt_intG, nt_ptrG, nt_aggG, -xbuild, ba, bd, e0, q0]; refine hK _ _ ?_; clear hK K)
   exact ⟨by rw [hd]; (first | (simp [put_at, put_none, fr0_at]; done) | rfl), rfl⟩
  have q0 : (x.id == y.id) = true := by rw [beq_iff_eq]; exact e0
  refine aw_ops (by kernel_rfl) (fun K hK => ?_)
  simp (disch := first | omega | (simp only [lnS]; try omega)) [-getElem?_pos, -getElem?_neg, b2, b3, hul, hwl, a1, d1, hA, hB, a3, d3, la, ld, oa, od, -notTuple, na.1, na.2, nd9.1, nd9.2, nt_intG, nt_ptrG, nt_aggG, -xbuild, ba, bd, e0, q0]
  by_cases e1 : x.got = y.got
  case neg =>
   have hd : decide (x = y) = false := decide_eq_false (fun hh => e1 (by rw [hh]))
   rw [decide_eq_false e1] at ei
   refine ⟨by kernel_rfl, ac_of_rc ei (by simp [pv_iv, pv_int, pv_bool, pv_string, pv_tup2, pv_tup3, iv_plain, p2_int, p2_bool, p2_string]) ?_⟩
   try simp (disch := first | omega | (simp only [lnS]; try omega)) [-getElem?_pos, -getElem?_neg, b2, b3, hul, hwl, a1, d1, hA, hB, a3, d3, la, ld, oa, od, -notTuple, na.1, na.2, nd9.1, nd9.2, nt_intG, nt_ptrG, nt_aggG, -xbuild, ba, bd]
   refine hK _ _ ?_; clear hK K
   exact ⟨by rw [hd]; (first | (simp [put_at, put_none, fr0_at]; done) | rfl), rfl⟩
  rw [decide_eq_true e1] at ei
  refine ⟨by kernel_rfl, ac_of_rc ei (by simp [pv_iv, pv_int, pv_bool, pv_string, pv_tup2, pv_tup3, iv_plain, p2_int, p2_bool, p2_string]) ?_⟩
  simp (disch := first | omega | (simp only [lnS]; try omega)) [-getElem?_pos, -getElem?_neg, b2, b3, hul, hwl, a1, d1, hA, hB, a3, d3, la, ld, oa, od, -notTuple, na.1, na.2, nd9.1, nd9.2, nt_intG, nt_ptrG, nt_aggG, -xbuild, ba, bd]
  have hd : decide (x = y) = decide (x.op = y.op) := by
   by_cases e2 : x.op = y.op
   ·rw [decide_eq_true e2, decide_eq_true (HeldD.ext e0 e2 e1)]
   ·rw [decide_eq_false e2, decide_eq_false (fun hh => e2 (by rw [hh]))]
  refine ⟨by kernel_rfl, ac_of_rc es (by simp [pv_iv, pv_int, pv_bool, pv_string, pv_tup2, pv_tup3, iv_plain, p2_int, p2_bool, p2_string]) ?_⟩
  try simp (disch := first | omega | (simp only [lnS]; try omega)) [-getElem?_pos, -getElem?_neg]
  refine hK _ _ ?_; clear hK K
  exact ⟨by rw [hd]; (first | (simp [put_at, put_none, fr0_at]; done) | rfl), rfl⟩
 rintro α G2 ⟨q4, rfl⟩
 (refine aw_ret ?_; simp (disch := first | omega | (simp only [lnS]; try omega)) [-getElem?_pos, -getElem?_neg, thenQ_ret, scopeQ_ret, inBlockQ_ret, RQ, resL, resV, q4])
theorem eqHd_rc {γ : Nat → Option Nat} {H : AH} {u v : Value} {l m : List HeldD} (hU : HdA H u l) (hV : HdA H v m) (hl : l.length ≤ maxLen) : AC Try.prog H.length γ 90 #[u, v, .func (.func 91) #[] #[]] H (fun v' _ => v' = .bool (decide (l = m))) := by
 have u1 := hU.nt
 have u2 := hU.cs
 have u3 := hU.len
 have v1 := hV.nt
 have v2 := hV.cs
 have v3 := hV.len
 have hm63 : l.length ≤ 9223372036854775807 := by simp only [maxLen] at hl; omega
 have hfn : notTuple (.func (.func 91) #[] #[]) = true := rfl
 have hfc : (Value.func (.func 91) #[] #[]).cells = #[.func (.func 91) #[] #[]] := rfl
 have hp0 : plain1 (.slice none 0 0) = true := rfl
 refine ac_of_aw Try.func90 rfl Try.ntmps90 Try.results90 (by simp) ?_
 refine aw_seq ?_
 (refine aw_ops (by kernel_rfl) (fun K hK => ?_); simp (disch := first | omega | (simp only [lnS]; try omega)) [-getElem?_pos, -getElem?_neg]; refine hK _ _ ?_; clear hK K)
 refine aw_seq ?_
 refine aw_seq ?_
 by_cases hab : l.length = m.length
 case neg =>
  have hne : ((l.length : Int) == (m.length : Int)) = false := by rw [beq_eq_false_iff_ne]; omega
  have hne2 : ¬ (l.length : Int) = (m.length : Int) := by omega
  (refine aw_ops (by kernel_rfl) (fun K hK => ?_); simp (disch := first | omega | (simp only [lnS]; try omega)) [-getElem?_pos, -getElem?_neg, -notTuple, u1, u2, v1, v2, nt_intG, -xlen, u3, v3, hne, hne2]; refine hK _ _ ?_; clear hK K)
  refine aw_t (by (first | (simp [eval_tmp, put_at]; done) | (simp [eval_tmp, put_at]; omega))) (by kernel_rfl) ?_
  refine aw_seq ?_
  (refine aw_ops (by kernel_rfl) (fun K hK => ?_); simp (disch := first | omega | (simp only [lnS]; try omega)) [-getElem?_pos, -getElem?_neg]; refine hK _ _ ?_; clear hK K)
  (refine aw_ret ?_; simp (disch := first | omega | (simp only [lnS]; try omega)) [-getElem?_pos, -getElem?_neg, thenQ_ret, scopeQ_ret, inBlockQ_ret, RQ, resL, resV])
  all_goals exact fun h => hab (congrArg List.length h)
 have heq : ((l.length : Int) == (m.length : Int)) = true := by rw [beq_iff_eq]; omega
 have heq2 : (l.length : Int) = (m.length : Int) := by omega
 (refine aw_ops (by kernel_rfl) (fun K hK => ?_); simp (disch := first | omega | (simp only [lnS]; try omega)) [-getElem?_pos, -getElem?_neg, -notTuple, u1, u2, v1, v2, nt_intG, -xlen, u3, v3, hab, heq, heq2]; refine hK _ _ ?_; clear hK K)
 refine aw_f (by (first | (simp [eval_tmp, put_at]; done) | (simp [eval_tmp, put_at]; omega))) (by kernel_rfl) ?_
 refine aw_skip ?_
 refine aw_seq ?_
 refine aw_seq ?_
 (refine aw_ops (by kernel_rfl) (fun K hK => ?_); simp (disch := first | omega | (simp only [lnS]; try omega)) [-getElem?_pos, -getElem?_neg, -notTuple, u1, u2, nt_intG, -xlen, u3]; refine hK _ _ ?_; clear hK K)
 refine aw_block ?_
 refine aw_loop (fun c α G => ∃ i : Nat, i + c = l.length ∧ Low H.length H G ∧ α 1 = v ∧ α 2 = .func (.func 91) #[] #[] ∧ α 15 = u ∧ α 16 = .int .i64 (l.length : Nat) ∧ α 17 = .int .i64 (i : Nat) ∧ ∀ k, k < i → hn l k = hn m k) l.length ?_ ?_
 ·exact ⟨0, by omega, Low.refl (Nat.le_refl _), by (first | (simp [put_at, put_none, fr0_at]; done) | rfl), by (first | (simp [put_at, put_none, fr0_at]; done) | rfl), by (first | (simp [put_at, put_none, fr0_at]; done) | rfl), by (first | (simp [put_at, put_none, fr0_at]; done) | rfl), by (first | (simp [put_at, put_none, fr0_at]; done) | rfl), fun k hk => by omega⟩
 rintro c α G ⟨i, hic, hlow, q1, q2, q15, q16, q17, hpre⟩
 refine aw_seq ?_
 by_cases hi : i < l.length
 case neg =>
  (refine aw_ops (by kernel_rfl) (fun K hK => ?_); simp (disch := first | omega | (simp only [lnS]; try omega)) [-getElem?_pos, -getElem?_neg, q16, q17, nt_intG, hi]; refine hK _ _ ?_; clear hK K)
  refine aw_seq ?_
  refine aw_f (by (first | (simp [eval_tmp, put_at, hi]; done) | (simp [eval_tmp, put_at, hi]; omega))) (by kernel_rfl) ?_
  refine aw_exit ?_
  refine aw_seq ?_
  (refine aw_ops (by kernel_rfl) (fun K hK => ?_); simp (disch := first | omega | (simp only [lnS]; try omega)) [-getElem?_pos, -getElem?_neg]; refine hK _ _ ?_; clear hK K)
  (refine aw_ret ?_; simp (disch := first | omega | (simp only [lnS]; try omega)) [-getElem?_pos, -getElem?_neg, thenQ_ret, scopeQ_ret, inBlockQ_ret, RQ, resL, resV])
  all_goals exact helds_ext hab (fun k hk => hpre k (by omega))
 obtain ⟨j, q, bb, us, pv, wv', bv, qv, a1, a2, a3, a4, hC⟩ := hU.row hi
 obtain ⟨j', q', bb', us', pv', wv'', bv', qv', d1, d2, d3, d4, hC'⟩ := hV.row (show i < m.length by omega)
 have xw := hU.wf _ (List.mem_of_getElem? (hn_get hi))
 have yw := hV.wf _ (List.mem_of_getElem? (hn_get (show i < m.length by omega)))
 have a2 := (hlow.1 j (hget_lt a2)).trans a2
 have d2 := (hlow.1 j' (hget_lt d2)).trans d2
 have hul := hC.len
 have hwl := hC'.len
 have hset : ∀ Z : List Value, Z.length = 104 → setR Z 0 us = us := fun Z hZ => setR_all _ _ (by omega)
 have hset' : ∀ Z : List Value, Z.length = 104 → setR Z 0 us' = us' := fun Z hZ => setR_all _ _ (by omega)
 have htu : us.take 104 = us := List.take_of_length_le (by omega)
 have htw : us'.take 104 = us' := List.take_of_length_le (by omega)
 have hle := hlow.2
 (refine aw_ops (by kernel_rfl) (fun K hK => ?_); simp (disch := first | omega | (simp only [lnS]; try omega)) [-getElem?_pos, -getElem?_neg, q16, q17, nt_intG, hi]; refine hK _ _ ?_; clear hK K)
 refine aw_seq ?_
 refine aw_t (by (first | (simp [eval_tmp, put_at, hi]; done) | (simp [eval_tmp, put_at, hi]; omega))) (by kernel_rfl) ?_
 refine aw_skip ?_
 refine aw_seq ?_
 refine aw_block ?_
 refine aw_seq ?_
 (refine aw_ops (by kernel_rfl) (fun K hK => ?_); simp (disch := first | omega | (simp only [lnS]; try omega)) [-getElem?_pos, -getElem?_neg, q15, q17, -notTuple, u1, u2, nt_intG, nt_aggG, -xindexAddr, a1, a2, a3, a4, hul, hle, hp0, all_zl, hset]; refine hK _ _ ?_; clear hK K)
 obtain ⟨hlow2, hb2⟩ := boxed (H := G) us 60
 have d2 := hget_left' (L := [some ⟨us, 60, none⟩]) d2
 have gl2 : (G ++ ([some ⟨us, 60, none⟩] : AH)).length = G.length + 1 := by simp
 obtain ⟨g, hg⟩ : ∃ g, g = G.length := ⟨_, rfl⟩
 rw [← hg] at hb2 gl2 hlow2 hle ⊢
 generalize G ++ [some ⟨us, 60, none⟩] = G2 at *
 refine aw_seq ?_
 (refine aw_ops (by kernel_rfl) (fun K hK => ?_); simp (disch := first | omega | (simp only [lnS]; try omega)) [-getElem?_pos, -getElem?_neg, q1, q17, -notTuple, v1, v2, nt_intG, nt_aggG, -xindexAddr, d1, d2, d3, d4, hwl, hle, hp0, all_zl, hset']; refine hK _ _ ?_; clear hK K)
 obtain ⟨hlow3, hb3⟩ := boxed (H := G2) us' 60
 have hb2 := hget_left' (L := [some ⟨us', 60, none⟩]) hb2
 have gl3 : (G2 ++ ([some ⟨us', 60, none⟩] : AH)).length = G2.length + 1 := by simp
 rw [gl2] at hb3 gl3 hlow3 ⊢
 generalize G2 ++ [some ⟨us', 60, none⟩] = G3 at *
 have hlowG3 : Low H.length H G3 := ⟨fun j hj => (hlow3.1 j (by omega)).trans ((hlow2.1 j (by omega)).trans (hlow.1 j hj)), by omega⟩
 have hcn := heldSame_rc (γ := γ) (hC.low (fun j hj => hlowG3.1 j hj)) (hC'.low (fun j hj => hlowG3.1 j hj)) xw yw
 refine aw_seq ?_
 by_cases hd : hn l i = hn m i
 ·rw [decide_eq_true hd] at hcn
  refine aw_ops (by kernel_rfl) (fun K hK => ?_)
  simp (disch := first | omega | (simp only [lnS]; try omega)) [-getElem?_pos, -getElem?_neg, q2, q17, -notTuple, hfn, hfc, nt_intG, nt_aggG, hb2, hb3, hul, hwl, htu, htw]
  refine ⟨heldSame_callable, ac_of_rc hcn (by simp [pv_iv, pv_int, pv_bool, pv_string, pv_tup2, pv_tup3, iv_plain, p2_int, p2_bool, p2_string]) ?_⟩
  try simp (disch := first | omega | (simp only [lnS]; try omega)) [-getElem?_pos, -getElem?_neg]
  refine hK _ _ ?_; clear hK K
  refine aw_f (by (first | (simp [eval_tmp, put_at]; done) | (simp [eval_tmp, put_at]; omega))) (by kernel_rfl) ?_
  refine aw_skip ?_
  (refine aw_ops (by kernel_rfl) (fun K hK => ?_); simp (disch := first | omega | (simp only [lnS]; try omega)) [-getElem?_pos, -getElem?_neg, q17]; refine hK _ _ ?_; clear hK K)
  refine ⟨c - 1, by omega, i + 1, by omega, hlowG3, by (first | (simp [put_at, put_none, fr0_at, q1]; done) | rfl), by (first | (simp [put_at, put_none, fr0_at, q2]; done) | rfl), by (first | (simp [put_at, put_none, fr0_at, q15]; done) | rfl), by (first | (simp [put_at, put_none, fr0_at, q16]; done) | rfl), by (first | (simp [put_at, put_none, fr0_at]; done) | rfl), fun k hk => ?_⟩
  by_cases e : k = i
  ·subst e; exact hd
  ·exact hpre k (by omega)
 ·rw [decide_eq_false hd] at hcn
  refine aw_ops (by kernel_rfl) (fun K hK => ?_)
  simp (disch := first | omega | (simp only [lnS]; try omega)) [-getElem?_pos, -getElem?_neg, q2, q17, -notTuple, hfn, hfc, nt_intG, nt_aggG, hb2, hb3, hul, hwl, htu, htw]
  refine ⟨heldSame_callable, ac_of_rc hcn (by simp [pv_iv, pv_int, pv_bool, pv_string, pv_tup2, pv_tup3, iv_plain, p2_int, p2_bool, p2_string]) ?_⟩
  try simp (disch := first | omega | (simp only [lnS]; try omega)) [-getElem?_pos, -getElem?_neg]
  refine hK _ _ ?_; clear hK K
  refine aw_t (by (first | (simp [eval_tmp, put_at]; done) | (simp [eval_tmp, put_at]; omega))) (by kernel_rfl) ?_
  refine aw_seq ?_
  (refine aw_ops (by kernel_rfl) (fun K hK => ?_); simp (disch := first | omega | (simp only [lnS]; try omega)) [-getElem?_pos, -getElem?_neg]; refine hK _ _ ?_; clear hK K)
  (refine aw_ret ?_; simp (disch := first | omega | (simp only [lnS]; try omega)) [-getElem?_pos, -getElem?_neg, thenQ_ret, scopeQ_ret, inBlockQ_ret, RQ, resL, resV])
  all_goals exact fun hh => hd (by rw [hh])
theorem qSame_rc {γ : Nat → Option Nat} {H : AH} {u v : Value} {l m : List HeldD} (hU : HdA H u l) (hV : HdA H v m) (hl : l.length ≤ maxLen) : AC Try.prog H.length γ 45 #[u, v] H (fun v' _ => v' = .bool (decide (l = m))) := by
 have u1 := hU.nt
 have u2 := hU.cs
 have v1 := hV.nt
 have v2 := hV.cs
 have hfn : notTuple (.func (.func 91) #[] #[]) = true := rfl
 have hfc : (Value.func (.func 91) #[] #[]).cells = #[.func (.func 91) #[] #[]] := rfl
 have he := eqHd_rc (γ := γ) hU hV hl
 refine ac_of_aw Try.func45 rfl Try.ntmps45 Try.results45 (by simp) ?_
 refine aw_seq ?_
 (refine aw_ops (by kernel_rfl) (fun K hK => ?_); simp (disch := first | omega | (simp only [lnS]; try omega)) [-getElem?_pos, -getElem?_neg]; refine hK _ _ ?_; clear hK K)
 refine aw_seq ?_
 refine aw_ops (by kernel_rfl) (fun K hK => ?_)
 simp (disch := first | omega | (simp only [lnS]; try omega)) [-getElem?_pos, -getElem?_neg, -notTuple, u1, u2, v1, v2, hfn, hfc]
 refine ⟨by kernel_rfl, ac_of_rc he (by simp [pv_iv, pv_int, pv_bool, pv_string, pv_tup2, pv_tup3, iv_plain, p2_int, p2_bool, p2_string]) ?_⟩
 try simp (disch := first | omega | (simp only [lnS]; try omega)) [-getElem?_pos, -getElem?_neg]
 refine hK _ _ ?_; clear hK K
 (refine aw_ret ?_; simp (disch := first | omega | (simp only [lnS]; try omega)) [-getElem?_pos, -getElem?_neg, thenQ_ret, scopeQ_ret, inBlockQ_ret, RQ, resL, resV])
end
section
def Sm6H (l : List HeldD) : Prop := ∀ x ∈ l, x.op.parents.length ≤ 1000000 ∧ x.op.who.length ≤ 1000000 ∧ x.op.boxes.length ≤ 1000000
structure HeldAt (H : AH) (v : Value) (i : Nat) (x : HeldD) (j q : Nat) (bb : Blk) (us : List Value) (qv : Value) : Prop where
 addr : xindexAddr Try.prog 58 v (.int .i64 (i : Nat)) = some (.pointer (some ⟨j, q, none⟩))
 blk : hget H j = some bb
 le : q + 104 ≤ bb.cells.length
 id : (bb.cells.drop q).take 32 = iv .u8 x.id
 op : (bb.cells.drop (q + 32)).take 71 = us
 gt : bb.cells[q + 103]? = some qv
 inv : KsV H qv x.got
theorem HdA.held {H : AH} {v : Value} {l : List HeldD} (h : HdA H v l) {i : Nat} (hi : i < l.length) : ∃ j q bb us pv wv bv qv, HeldAt H v i (hn l i) j q bb us qv ∧ OpC H us (hn l i).op pv wv bv := by
 obtain ⟨j, q, bb, us, pv, wv', bv, qv, hx, hbb, hq, hcell, hus, hC⟩ := h.at_ i _ (hn_get hi)
 refine ⟨j, q, bb, (us.drop 32).take 71, pv, wv', bv, qv, ⟨hx, hbb, hq, ?_, by rw [op_cut, ← hus], (hcell 103 (by omega)).trans hC.c103, hC.got⟩, hC.op⟩
 have := hC.id
 rw [hus, List.take_take] at this
 simpa using this
attribute [local simp] wb_bool wb_undef with_lit XL_nil XL_cons XLc_val XLc_call step1_eq stepW_t stepW_f stepC_n stepC_s stepX_s stepX_n stepN_s calleeX xrecv oneV xop_eq xopR_s xopR_n wantedA_eq wantedG_n wantedG_s plain1_int plain1_bool plain1_string bits_i64 bits_u64 bits_u32 bits_u16 bits_u8 xeqA xagg xcmp xarr allK_iv num_iv calleeOf xread xeff xbin xint xnil xun xstr xload xconv xpart xfield xfieldAddr xindexAddr xindex bnd asInt? xslice xlen xmin xmax xbuild xfill xappend xapp2 xappstr xappmk xcap xcopy xcells eval_tmp eval_const put_at put_none fr0_at cells_agg cells_int cells_bool cells_string cells_ptr cells_slice notTuple tab iv_all hget_app hget_app0 hget_cons0 hget_cons set_app set_app0 setR setR_one QL_nil QL_cons QLc_val stepQ_t stepQ_f stepQC_n stepQC_s stepQX_s SL_nil SL_cons SLc_val stepS_t stepS_f ltT ltF leT leF eqT eqF ltTn ltFn leTn leFn eqTn eqFn beqT beqF bneT bneF wi64 wu64 wu32 wu16 wu8 tmodP tdivP hgetL hgetNe hgetEq setL nums_def nums_len Nat.succ_le_of_lt List.getElem?_cons_zero List.getElem?_cons_succ Option.getD_some Int.toNat_add Int.toNat_mul agM okM agB agI agS agP agL agA okB okI okS okP okSl okA
theorem qrSame_rc {γ : Nat → Option Nat} {H : AH} {u v : Value} {l m : List HeldD} (hU : HdA H u l) (hV : HdA H v m) (sl : Sm6H l) (sm : Sm6H m) (hl : l.length ≤ maxLen) : AC Try.prog H.length γ 46 #[u, v] H (fun v' _ => v' = .bool (decide (l = m))) := by
 have u1 := hU.nt
 have u2 := hU.cs
 have u3 := hU.len
 have v1 := hV.nt
 have v2 := hV.cs
 have v3 := hV.len
 have hm63 : l.length ≤ 9223372036854775807 := by simp only [maxLen] at hl; omega
 refine ac_of_aw Try.func46 rfl Try.ntmps46 Try.results46 (by simp) ?_
 refine aw_seq ?_
 (refine aw_ops (by kernel_rfl) (fun K hK => ?_); simp (disch := first | omega | (simp only [lnS]; try omega)) [-getElem?_pos, -getElem?_neg]; refine hK _ _ ?_; clear hK K)
 refine aw_seq ?_
 refine aw_seq ?_
 by_cases hab : l.length = m.length
 case neg =>
  have hne : ((l.length : Int) == (m.length : Int)) = false := by rw [beq_eq_false_iff_ne]; omega
  have hne2 : ¬ (l.length : Int) = (m.length : Int) := by omega
  (refine aw_ops (by kernel_rfl) (fun K hK => ?_); simp (disch := first | omega | (simp only [lnS]; try omega)) [-getElem?_pos, -getElem?_neg, -notTuple, u1, u2, v1, v2, nt_intG, -xlen, u3, v3, hne, hne2]; refine hK _ _ ?_; clear hK K)
  refine aw_t (by (first | (simp [eval_tmp, put_at]; done) | (simp [eval_tmp, put_at]; omega))) (by kernel_rfl) ?_
  refine aw_seq ?_
  (refine aw_ops (by kernel_rfl) (fun K hK => ?_); simp (disch := first | omega | (simp only [lnS]; try omega)) [-getElem?_pos, -getElem?_neg]; refine hK _ _ ?_; clear hK K)
  (refine aw_ret ?_; simp (disch := first | omega | (simp only [lnS]; try omega)) [-getElem?_pos, -getElem?_neg, thenQ_ret, scopeQ_ret, inBlockQ_ret, RQ, resL, resV])
  all_goals exact fun h => hab (congrArg List.length h)
 have heq : ((l.length : Int) == (m.length : Int)) = true := by rw [beq_iff_eq]; omega
 have heq2 : (l.length : Int) = (m.length : Int) := by omega
 (refine aw_ops (by kernel_rfl) (fun K hK => ?_); simp (disch := first | omega | (simp only [lnS]; try omega)) [-getElem?_pos, -getElem?_neg, -notTuple, u1, u2, v1, v2, nt_intG, -xlen, u3, v3, hab, heq, heq2]; refine hK _ _ ?_; clear hK K)
 refine aw_f (by (first | (simp [eval_tmp, put_at]; done) | (simp [eval_tmp, put_at]; omega))) (by kernel_rfl) ?_
 refine aw_skip ?_
 refine aw_seq ?_
 refine aw_seq ?_
 (refine aw_ops (by kernel_rfl) (fun K hK => ?_); simp (disch := first | omega | (simp only [lnS]; try omega)) [-getElem?_pos, -getElem?_neg]; refine hK _ _ ?_; clear hK K)
 refine aw_block ?_
 refine aw_loop (fun c α G => ∃ i : Nat, i + c = l.length ∧ α 0 = u ∧ α 1 = v ∧ α 5 = .int .i64 (i : Nat) ∧ G = H ∧ ∀ k, k < i → hn l k = hn m k) l.length ?_ ?_
 ·exact ⟨0, by omega, by (first | (simp [put_at, put_none, fr0_at]; done) | rfl), by (first | (simp [put_at, put_none, fr0_at]; done) | rfl), by (first | (simp [put_at, put_none, fr0_at]; done) | rfl), rfl, fun k hk => by omega⟩
 rintro c α G ⟨i, hic, q0, q1, q5, rfl, hpre⟩
 refine aw_seq ?_
 refine aw_seq ?_
 by_cases hi : i < l.length
 case neg =>
  (refine aw_ops (by kernel_rfl) (fun K hK => ?_); simp (disch := first | omega | (simp only [lnS]; try omega)) [-getElem?_pos, -getElem?_neg, q0, q5, -notTuple, u1, u2, nt_intG, -xlen, u3, hi]; refine hK _ _ ?_; clear hK K)
  refine aw_f (by (first | (simp [eval_tmp, put_at, hi]; done) | (simp [eval_tmp, put_at, hi]; omega))) (by kernel_rfl) ?_
  refine aw_exit ?_
  refine aw_seq ?_
  (refine aw_ops (by kernel_rfl) (fun K hK => ?_); simp (disch := first | omega | (simp only [lnS]; try omega)) [-getElem?_pos, -getElem?_neg]; refine hK _ _ ?_; clear hK K)
  (refine aw_ret ?_; simp (disch := first | omega | (simp only [lnS]; try omega)) [-getElem?_pos, -getElem?_neg, thenQ_ret, scopeQ_ret, inBlockQ_ret, RQ, resL, resV])
  all_goals exact helds_ext hab (fun k hk => hpre k (by omega))
 obtain ⟨j, q, bb, us, pv, wv', bv, qv, hn1, hO1⟩ := hU.held hi
 obtain ⟨j', q', bb', us', pv', wv'', bv', qv', hn2, hO2⟩ := hV.held (show i < m.length by omega)
 have xw := hU.wf _ (List.mem_of_getElem? (hn_get hi))
 have yw := hV.wf _ (List.mem_of_getElem? (hn_get (show i < m.length by omega)))
 obtain ⟨a1, a2, a3, a4, a5, a6, a7⟩ := hn1
 obtain ⟨d1, d2, d3, d4, d5, d6, d7⟩ := hn2
 have n1 := val_nt a7
 have n2 := val_nt d7
 have la : (iv .u8 (hn l i).id).length = 32 := by rw [iv_length, xw.id.1]
 have ld : (iv .u8 (hn m i).id).length = 32 := by rw [iv_length, yw.id.1]
 have hol := hO1.len
 have hol' := hO2.len
 (refine aw_ops (by kernel_rfl) (fun K hK => ?_); simp (disch := first | omega | (simp only [lnS]; try omega)) [-getElem?_pos, -getElem?_neg, q0, q5, -notTuple, u1, u2, nt_intG, -xlen, u3, hi]; refine hK _ _ ?_; clear hK K)
 refine aw_t (by (first | (simp [eval_tmp, put_at, hi]; done) | (simp [eval_tmp, put_at, hi]; omega))) (by kernel_rfl) ?_
 refine aw_skip ?_
 refine aw_seq ?_
 refine aw_block ?_
 refine aw_seq ?_
 refine aw_cut (fun α G2 => α 55 = .bool (!decide (hn l i = hn m i)) ∧ α 0 = u ∧ α 1 = v ∧ α 5 = .int .i64 (i : Nat) ∧ G2 = G) ?_ ?_
 ·by_cases e1 : (hn l i).id = (hn m i).id
  case neg =>
   have k1 : ((hn l i).id == (hn m i).id) = false := by rw [beq_eq_false_iff_ne]; exact e1
   have hd : decide (hn l i = hn m i) = false := decide_eq_false (fun hh => e1 (by rw [hh]))
   (refine aw_plan [] [] [0, 1, 2, 3, 4, 5, 6, 7, 8, 9, 10, 11, 12, 13, 14, 15, 16, 17, 18, 19, 20, 21, 22, 23, 24, 25, 26, 27, 28, 29, 30, 31, 32, 33, 34, 35, 36, 37, 38] 39 0 (by kernel_rfl) (by kernel_rfl) (by kernel_rfl) (fun K hK => ?_)); simp only [sel, List.getElem?_cons_succ, List.getElem?_cons_zero, List.drop_succ_cons, List.drop_zero]; simp (disch := first | omega | (simp only [lnS]; try omega)) [-getElem?_pos, -getElem?_neg, q0, q1, q5, -notTuple, u1, u2, v1, v2, n1.1, n1.2, n2.1, n2.2, nt_intG, nt_ptrG, nt_aggG, -xindexAddr, a1, d1, a2, d2, a4, d4, a5, d5, a6, d6, la, ld, k1, PL_nil, plainB_lit, PL_cons, PLc_val, PLc_new, stepP_t, stepP_f, stepPC_n, stepPC_s, stepPX_s, stepPX_n, stepPV_n, stepPV_s, stepPA_t, stepPA_c, stepPA_l, stepPN_s, allocOp, reloc_sl, reloc_ptr, List.map_cons, List.map_nil, List.nil_append, List.append_assoc, List.cons_append, Nat.add_assoc]
   refine hK _ _ ?_; clear hK K
   exact ⟨by rw [hd]; (first | (simp [put_at, put_none, fr0_at]; done) | rfl), by (first | (simp [put_at, put_none, fr0_at, q0]; done) | rfl), by (first | (simp [put_at, put_none, fr0_at, q1]; done) | rfl), by (first | (simp [put_at, put_none, fr0_at, q5]; done) | rfl), rfl⟩
  have k1 : ((hn l i).id == (hn m i).id) = true := by rw [beq_iff_eq]; exact e1
  (refine aw_plan [] [] [0, 1, 2, 3, 4, 5, 6, 7, 8, 9, 10, 11, 12, 13, 14, 15, 16, 17, 18, 19, 20, 21, 22, 23, 24, 25, 26, 27, 28, 29, 30, 31, 32, 33, 34, 35, 36, 37, 38] 39 0 (by kernel_rfl) (by kernel_rfl) (by kernel_rfl) (fun K hK => ?_)); simp only [sel, List.getElem?_cons_succ, List.getElem?_cons_zero, List.drop_succ_cons, List.drop_zero]; simp (disch := first | omega | (simp only [lnS]; try omega)) [-getElem?_pos, -getElem?_neg, q0, q1, q5, -notTuple, u1, u2, v1, v2, n1.1, n1.2, n2.1, n2.2, nt_intG, nt_ptrG, nt_aggG, -xindexAddr, a1, d1, a2, d2, a4, d4, a5, d5, a6, d6, la, ld, k1, PL_nil, plainB_lit, PL_cons, PLc_val, PLc_new, stepP_t, stepP_f, stepPC_n, stepPC_s, stepPX_s, stepPX_n, stepPV_n, stepPV_s, stepPA_t, stepPA_c, stepPA_l, stepPN_s, allocOp, reloc_sl, reloc_ptr, List.map_cons, List.map_nil, List.nil_append, List.append_assoc, List.cons_append, Nat.add_assoc]
  refine PLc_call (v := .bool (decide ((hn l i).op = (hn m i).op))) (by kernel_rfl) (fun L hL => sameOp_rc (hO1.low (fun j hj => hget_left hj)) (hO2.low (fun j hj => hget_left hj)) xw.op yw.op (sl _ (List.mem_of_getElem? (hn_get hi)))) (by simp [pv_iv, pv_int, pv_bool, pv_string, pv_tup2, pv_tup3, iv_plain, p2_int, p2_bool, p2_string]) ?_
  by_cases e3 : (hn l i).op = (hn m i).op
  case neg =>
   have hd : decide (hn l i = hn m i) = false := decide_eq_false (fun hh => e3 (by rw [hh]))
   simp (disch := first | omega | (simp only [lnS]; try omega)) [-getElem?_pos, -getElem?_neg, e3, PL_nil, plainB_lit, PL_cons, PLc_val, PLc_new, stepP_t, stepP_f, stepPC_n, stepPC_s, stepPX_s, stepPX_n, stepPV_n, stepPV_s, stepPA_t, stepPA_c, stepPA_l, stepPN_s, allocOp, reloc_sl, reloc_ptr, List.map_cons, List.map_nil, List.nil_append, List.append_assoc, List.cons_append, Nat.add_assoc]
   refine hK _ _ ?_; clear hK K
   exact ⟨by rw [hd]; (first | (simp [put_at, put_none, fr0_at]; done) | rfl), by (first | (simp [put_at, put_none, fr0_at, q0]; done) | rfl), by (first | (simp [put_at, put_none, fr0_at, q1]; done) | rfl), by (first | (simp [put_at, put_none, fr0_at, q5]; done) | rfl), rfl⟩
  simp (disch := first | omega | (simp only [lnS]; try omega)) [-getElem?_pos, -getElem?_neg, e3, q0, q1, q5, -notTuple, u1, u2, v1, v2, n1.1, n1.2, n2.1, n2.2, nt_intG, nt_ptrG, nt_aggG, -xindexAddr, a1, d1, a2, d2, a6, d6, PL_nil, plainB_lit, PL_cons, PLc_val, PLc_new, stepP_t, stepP_f, stepPC_n, stepPC_s, stepPX_s, stepPX_n, stepPV_n, stepPV_s, stepPA_t, stepPA_c, stepPA_l, stepPN_s, allocOp, reloc_sl, reloc_ptr, List.map_cons, List.map_nil, List.nil_append, List.append_assoc, List.cons_append, Nat.add_assoc]
  refine PLc_call (v := .bool (decide ((hn l i).got = (hn m i).got))) (by kernel_rfl) (fun L hL => sameKeys_rc (CD.Val.low (fun j hj => hget_left hj) a7) (CD.Val.low (fun j hj => hget_left hj) d7) (fun k hk => (xw.got k hk).1) (fun k hk => (yw.got k hk).1) xw.glen) (by simp [pv_iv, pv_int, pv_bool, pv_string, pv_tup2, pv_tup3, iv_plain, p2_int, p2_bool, p2_string]) ?_
  by_cases e2 : (hn l i).got = (hn m i).got
  case neg =>
   have hd : decide (hn l i = hn m i) = false := decide_eq_false (fun hh => e2 (by rw [hh]))
   simp (disch := first | omega | (simp only [lnS]; try omega)) [-getElem?_pos, -getElem?_neg, e2, PL_nil, plainB_lit, PL_cons, PLc_val, PLc_new, stepP_t, stepP_f, stepPC_n, stepPC_s, stepPX_s, stepPX_n, stepPV_n, stepPV_s, stepPA_t, stepPA_c, stepPA_l, stepPN_s, allocOp, reloc_sl, reloc_ptr, List.map_cons, List.map_nil, List.nil_append, List.append_assoc, List.cons_append, Nat.add_assoc]
   refine hK _ _ ?_; clear hK K
   exact ⟨by rw [hd]; (first | (simp [put_at, put_none, fr0_at]; done) | rfl), by (first | (simp [put_at, put_none, fr0_at, q0]; done) | rfl), by (first | (simp [put_at, put_none, fr0_at, q1]; done) | rfl), by (first | (simp [put_at, put_none, fr0_at, q5]; done) | rfl), rfl⟩
  have hd : decide (hn l i = hn m i) = true := decide_eq_true (HeldD.ext e1 e3 e2)
  simp (disch := first | omega | (simp only [lnS]; try omega)) [-getElem?_pos, -getElem?_neg, e2, PL_nil, plainB_lit, PL_cons, PLc_val, PLc_new, stepP_t, stepP_f, stepPC_n, stepPC_s, stepPX_s, stepPX_n, stepPV_n, stepPV_s, stepPA_t, stepPA_c, stepPA_l, stepPN_s, allocOp, reloc_sl, reloc_ptr, List.map_cons, List.map_nil, List.nil_append, List.append_assoc, List.cons_append, Nat.add_assoc]
  refine hK _ _ ?_; clear hK K
  exact ⟨by rw [hd]; (first | (simp [put_at, put_none, fr0_at]; done) | rfl), by (first | (simp [put_at, put_none, fr0_at, q0]; done) | rfl), by (first | (simp [put_at, put_none, fr0_at, q1]; done) | rfl), by (first | (simp [put_at, put_none, fr0_at, q5]; done) | rfl), rfl⟩
 clear q0 q1 q5
 rintro α G2 ⟨q55, q0, q1, q5, rfl⟩
 by_cases hd : hn l i = hn m i
 ·rw [decide_eq_true hd] at q55
  refine aw_f (by (first | (simp [eval_tmp, put_at, q55]; done) | (simp [eval_tmp, put_at, q55]; omega))) (by kernel_rfl) ?_
  refine aw_skip ?_
  (refine aw_ops (by kernel_rfl) (fun K hK => ?_); simp (disch := first | omega | (simp only [lnS]; try omega)) [-getElem?_pos, -getElem?_neg, q5]; refine hK _ _ ?_; clear hK K)
  refine ⟨c - 1, by omega, i + 1, by omega, by (first | (simp [put_at, put_none, fr0_at, q0]; done) | rfl), by (first | (simp [put_at, put_none, fr0_at, q1]; done) | rfl), by (first | (simp [put_at, put_none, fr0_at]; done) | rfl), rfl, fun k hk => ?_⟩
  by_cases e : k = i
  ·subst e; exact hd
  ·exact hpre k (by omega)
 ·rw [decide_eq_false hd] at q55
  refine aw_t (by (first | (simp [eval_tmp, put_at, q55]; done) | (simp [eval_tmp, put_at, q55]; omega))) (by kernel_rfl) ?_
  refine aw_seq ?_
  (refine aw_ops (by kernel_rfl) (fun K hK => ?_); simp (disch := first | omega | (simp only [lnS]; try omega)) [-getElem?_pos, -getElem?_neg]; refine hK _ _ ?_; clear hK K)
  (refine aw_ret ?_; simp (disch := first | omega | (simp only [lnS]; try omega)) [-getElem?_pos, -getElem?_neg, thenQ_ret, scopeQ_ret, inBlockQ_ret, RQ, resL, resV])
  all_goals exact fun hh => hd (by rw [hh])
end
section
def heldRow (x : HeldD) (pv wv bv qv : Value) : List Value := iv .u8 x.id ++ (opRow x.op pv wv bv ++ [qv])
theorem heldRow_len {x : HeldD} (hw : x.Wf) (pv wv bv qv : Value) : (heldRow x pv wv bv qv).length = 104 := by
 have h1 := hw.id.1
 have h2 := opRow_len hw.op pv wv bv
 simp [heldRow, iv_length, h1, h2]
theorem HdC.row {H : AH} {us : List Value} {x : HeldD} {pv wv bv qv : Value} (h : HdC H us x pv wv bv qv) (hw : x.Wf) : us = heldRow x pv wv bv qv := by
 have hl := h.len
 have e0 := h.op.row hw.op
 have e2 : us.drop 103 = [qv] := by
  apply List.ext_getElem?
  intro i
  match i with
  | 0 => rw [List.getElem?_drop, h.c103]; rfl
  | i + 1 => rw [List.getElem?_eq_none (by rw [List.length_drop]; omega), List.getElem?_eq_none (by simp)]
 have e1 : us.drop 32 = opRow x.op pv wv bv ++ us.drop 103 := by
  have := (List.take_append_drop 71 (us.drop 32)).symm
  rwa [e0, List.drop_drop] at this
 have := (List.take_append_drop 32 us).symm
 rwa [h.id, e1, e2] at this
theorem held_val {G : AH} {x : HeldD} {pv wv bv qv : Value} (h1 : KsV G pv x.op.parents) (h2 : InV G wv x.op.who) (h3 : BxV G bv x.op.boxes) (h4 : KsV G qv x.got) : ValL G x.row (heldRow x pv wv bv qv) :=
 ValL.app (.kdv _) (ValL.app (op_val h1 h2 h3) (.one h4 .none))
theorem build_held {x : HeldD} {pv wv bv qv : Value} (hw : x.Wf) (h1 : notTuple qv = true) (h2 : qv.cells = #[qv]) : xbuild Try.prog 60 [(0, .agg (iv .u8 x.id).toArray), (1, .agg (opRow x.op pv wv bv).toArray), (2, qv)] = some (.agg (heldRow x pv wv bv qv).toArray) := by
 have hf : flds Try.prog 60 = some [(38, 0), (41, 32), (36, 103)] := by kernel_rfl
 obtain ⟨z, hz⟩ : ∃ z, zer Try.prog 60 = some z := by
  have : (zer Try.prog 60).isSome = true := by kernel_rfl
  exact Option.isSome_iff_exists.1 this
 have hzl : z.cells.toList.length = 104 := by
  have : (zer Try.prog 60).map (fun z => z.cells.toList.length) = some 104 := by kernel_rfl
  rw [hz] at this
  simpa using this
 have hzp : z.cells.toList.all plain1 = true := by
  have : (zer Try.prog 60).map (fun z => z.cells.toList.all plain1) = some true := by kernel_rfl
  rw [hz] at this
  simpa using this
 have s1 : szt Try.prog 38 = 32 := by kernel_rfl
 have s2 : szt Try.prog 41 = 71 := by kernel_rfl
 have s3 : szt Try.prog 36 = 1 := by kernel_rfl
 have hA : (iv .u8 x.id).length = 32 := by rw [iv_length]; exact hw.id.1
 have hB := opRow_len hw.op pv wv bv
 have hp := put3 (q := qv) hA hB hzl
 unfold xbuild
 simp only [hf, hz]
 rw [if_pos ⟨by simp [s1, s2, s3], hzp, by simp only [List.all_cons, List.all_nil, h1, Bool.and_true]; rfl⟩]
 generalize z.cells.toList = Z at *
 unfold heldRow
 generalize iv .u8 x.id = A at *
 generalize opRow x.op pv wv bv = B at *
 have c1 : (Value.agg A.toArray).cells = A.toArray := rfl
 have c2 : (Value.agg B.toArray).cells = B.toArray := rfl
 simp only [xfill, List.getElem?_cons_zero, List.getElem?_cons_succ, Option.map_some, s1, s2, s3, c1, c2, h2]
 rw [if_pos ⟨by simp [hA], by simp; omega⟩]
 rw [if_pos ⟨by simp [hB], by simp; omega⟩]
 rw [if_pos ⟨by simp, by simp; omega⟩]
 rw [hp]
def heldN (pv wv bv qv : Value) : Nat := 2 + opN pv wv bv + clN qv
def SmH (x : HeldD) : Prop := SmO x.op ∧ x.got.length ≤ 1000
def heldCp (x : HeldD) (pv wv bv qv : Value) (n : Nat) : List Value := heldRow x (opP pv (n + 2)) (opW pv wv (n + 2)) (opB pv wv bv (n + 2)) (clV qv (n + 2 + opN pv wv bv))
def DeepHd (H : AH) (x : HeldD) (pv wv bv qv : Value) (v' : Value) (H' : AH) : Prop :=
 v' = .agg (heldCp x pv wv bv qv H.length).toArray ∧ H'.length = H.length + heldN pv wv bv qv ∧ Low H.length H H' ∧ ∀ G, KeepN H.length H' G → ValL G x.row (heldCp x pv wv bv qv H.length)
theorem opRow_offH {x : HeldD} (hw : x.Wf) (pv wv bv qv : Value) : (heldRow x pv wv bv qv).take 32 = iv .u8 x.id ∧ ((heldRow x pv wv bv qv).drop 32).take 71 = opRow x.op pv wv bv ∧ (heldRow x pv wv bv qv)[103]? = some qv := by
 have hA : (iv .u8 x.id).length = 32 := by rw [iv_length]; exact hw.id.1
 have hB := opRow_len hw.op pv wv bv
 unfold heldRow
 refine ⟨?_, ?_, ?_⟩
 ·rw [List.take_append_of_le_length (by omega), List.take_of_length_le (by omega)]
 ·rw [List.drop_append_of_le_length (by omega), List.drop_of_length_le (by omega), List.nil_append, List.take_append_of_le_length (by omega), List.take_of_length_le (by omega)]
 ·rw [List.getElem?_append_right (by omega), List.getElem?_append_right (by omega), hA, hB]
  rfl
attribute [local simp] wb_bool wb_undef with_lit XL_nil XL_cons XLc_val XLc_call step1_eq stepW_t stepW_f stepC_n stepC_s stepX_s stepX_n stepN_s calleeX xrecv oneV xop_eq xopR_s xopR_n wantedA_eq wantedG_n wantedG_s plain1_int plain1_bool plain1_string bits_i64 bits_u64 bits_u32 bits_u16 bits_u8 xeqA xagg xcmp xarr allK_iv num_iv calleeOf xread xeff xbin xint xnil xun xstr xload xconv xpart xfield xfieldAddr xindexAddr xindex bnd asInt? xslice xlen xmin xmax xbuild xfill xappend xapp2 xappstr xappmk xcap xcopy xcells eval_tmp eval_const put_at put_none fr0_at cells_agg cells_int cells_bool cells_string cells_ptr cells_slice notTuple tab iv_all hget_app hget_app0 hget_cons0 hget_cons set_app set_app0 setR setR_one QL_nil QL_cons QLc_val stepQ_t stepQ_f stepQC_n stepQC_s stepQX_s SL_nil SL_cons SLc_val stepS_t stepS_f ltT ltF leT leF eqT eqF ltTn ltFn leTn leFn eqTn eqFn beqT beqF bneT bneF wi64 wu64 wu32 wu16 wu8 tmodP tdivP hgetL hgetNe hgetEq setL nums_def nums_len Nat.succ_le_of_lt List.getElem?_cons_zero List.getElem?_cons_succ Option.getD_some Int.toNat_add Int.toNat_mul agM okM agB agI agS agP agL agA okB okI okS okP okSl okA
theorem helds1_ac {nro : Nat} {γ : Nat → Option Nat} {H : AH} {us : List Value} {x : HeldD} {pv wv bv qv : Value} (h : HdC H us x pv wv bv qv) (hw : x.Wf) (hs : SmH x) (hnro : nro ≤ H.length) : AC Try.prog nro γ 138 #[.agg us.toArray] H (DeepHd H x pv wv bv qv) := by
 have hrow := h.row hw
 have hul := h.len
 obtain ⟨q1, q2, q3⟩ := opRow_offH hw pv wv bv qv
 rw [← hrow] at q1 q2 q3
 have hivl : (iv .u8 x.id).length = 32 := by rw [iv_length]; exact hw.id.1
 have hopl := opRow_len hw.op pv wv bv
 have hQ := h.got
 have nq := val_nt hQ
 have nq' := clV_nt hQ (H.length + 2 + opN pv wv bv)
 have hbl := build_held (pv := opP pv (H.length + 2)) (wv := opW pv wv (H.length + 2)) (bv := opB pv wv bv (H.length + 2)) hw nq'.1 nq'.2
 have hopC : ∀ G : AH, Low H.length H G → OpC G (opRow x.op pv wv bv) x.op pv wv bv := fun G hG => by
  have := h.op.low hG.1
  rwa [q2] at this
 have hr3l := heldRow_len hw (opP pv (H.length + 2)) (opW pv wv (H.length + 2)) (opB pv wv bv (H.length + 2)) (clV qv (H.length + 2 + opN pv wv bv))
 obtain ⟨R, hR⟩ : ∃ R, R = heldRow x (opP pv (H.length + 2)) (opW pv wv (H.length + 2)) (opB pv wv bv (H.length + 2)) (clV qv (H.length + 2 + opN pv wv bv)) := ⟨_, rfl⟩
 rw [← hR] at hbl hr3l
 have hset : ∀ Z : List Value, Z.length = 104 → setR Z 0 R = R := fun Z hZ => setR_all _ _ (by omega)
 have htk : R.take 104 = R := List.take_of_length_le (by omega)
 have hopv : notTuple (.agg (opRow x.op (opP pv (H.length + 2)) (opW pv wv (H.length + 2)) (opB pv wv bv (H.length + 2))).toArray) = true := rfl
 refine ac_of_aw Try.func138 rfl Try.ntmps138 Try.results138 (by simp) ?_
 refine aw_seq ?_
 (refine aw_ops (by kernel_rfl) (fun K hK => ?_); simp (disch := first | omega | (simp only [lnS]; try omega)) [-getElem?_pos, -getElem?_neg, hul, nt_aggG, all_zl]; refine hK _ _ ?_; clear hK K)
 obtain ⟨ZZ, hZZ, hZl⟩ : ∃ ZZ : List Value, (iv .u8 (zl 32) ++ Value.int .i64 0 :: .int .u32 0 :: .slice none 0 0 :: .int .i64 0 :: .slice none 0 0 :: (iv .u8 (zl 64) ++ [.string ByteArray.empty, .slice none 0 0, .slice none 0 0])) = ZZ ∧ ZZ.length = 104 := ⟨_, rfl, by simp⟩
 rw [hZZ]
 have hset := hset ZZ hZl
 obtain ⟨G, hG⟩ : ∃ G : AH, G = H ++ [some ⟨us, 60, none⟩, some ⟨ZZ, 60, none⟩] := ⟨_, rfl⟩
 have b1 : hget G H.length = some ⟨us, 60, none⟩ := by rw [hG, hget_app0]; rfl
 have b2 : hget G (H.length + 1) = some ⟨ZZ, 60, none⟩ := by rw [hG, hget_app]; rfl
 have lw : Low H.length H G := hG ▸ Low.push (Nat.le_refl _) _
 have gl : G.length = H.length + 2 := by simp [hG]
 rw [← hG]
 clear hG
 have kO := hopC G lw
 have kQ : KsV G qv x.got := CD.Val.low (fun j hj => lw.1 j hj) hQ
 have hcO := deepOp_ac (nro := nro) (γ := γ) kO hw.op hs.1 (by omega)
 unfold DeepO at hcO
 rw [gl] at hcO
 unfold DeepHd heldN heldCp
 obtain ⟨n, hn0⟩ : ∃ n, n = H.length := ⟨_, rfl⟩
 rw [← hR]
 rw [← hn0] at lw gl b1 b2 nq' hbl hR hnro hcO ⊢
 obtain ⟨ov, hov⟩ : ∃ ov, ov = opRow x.op (opP pv (n + 2)) (opW pv wv (n + 2)) (opB pv wv bv (n + 2)) := ⟨_, rfl⟩
 rw [← hov] at hcO hbl
 have hcells : R = iv .u8 x.id ++ (ov ++ [clV qv (n + 2 + opN pv wv bv)]) := by rw [hR, hov]; rfl
 refine aw_seq ?_
 obtain ⟨Φ, e0, e1, e2, e3, eS⟩ : ∃ Φ : Nat → AH → Prop, (∀ A, Φ 0 A ↔ A = G) ∧ (∀ A, Φ 1 A ↔ (A.length = n + 2 + opN pv wv bv ∧ Low (n + 2) G A ∧ NewO (n + 2) A x.op (opP pv (n + 2)) (opW pv wv (n + 2)) (opB pv wv bv (n + 2)))) ∧
   (∀ A, Φ 2 A ↔ (A.length = n + 2 + opN pv wv bv + clN qv ∧ Low (n + 2) G A ∧ NewO (n + 2) A x.op (opP pv (n + 2)) (opW pv wv (n + 2)) (opB pv wv bv (n + 2)) ∧ ∃ F, OwnF A (clV qv (n + 2 + opN pv wv bv)) 38 32 (ksC x.got) F ∧ ∀ j ∈ F, n + 2 ≤ j)) ∧
   (∀ A, Φ 3 A ↔ ∃ B, Φ 2 B ∧ A = B.set (n + 1) (some ⟨R, 60, none⟩)) ∧ (∀ s A, Φ s A → hget A n = hget G n) := by
  refine ⟨fun s A => match s with
   | 0 => A = G
   | 1 => A.length = n + 2 + opN pv wv bv ∧ Low (n + 2) G A ∧ NewO (n + 2) A x.op (opP pv (n + 2)) (opW pv wv (n + 2)) (opB pv wv bv (n + 2))
   | 2 => A.length = n + 2 + opN pv wv bv + clN qv ∧ Low (n + 2) G A ∧ NewO (n + 2) A x.op (opP pv (n + 2)) (opW pv wv (n + 2)) (opB pv wv bv (n + 2)) ∧ ∃ F, OwnF A (clV qv (n + 2 + opN pv wv bv)) 38 32 (ksC x.got) F ∧ ∀ j ∈ F, n + 2 ≤ j
   | _ => ∃ B : AH, (B.length = n + 2 + opN pv wv bv + clN qv ∧ Low (n + 2) G B ∧ NewO (n + 2) B x.op (opP pv (n + 2)) (opW pv wv (n + 2)) (opB pv wv bv (n + 2)) ∧ ∃ F, OwnF B (clV qv (n + 2 + opN pv wv bv)) 38 32 (ksC x.got) F ∧ ∀ j ∈ F, n + 2 ≤ j) ∧ A = B.set (n + 1) (some ⟨R, 60, none⟩), fun _ => Iff.rfl, fun _ => Iff.rfl, fun _ => Iff.rfl, fun _ => Iff.rfl, fun s A h => ?_⟩
  match s, h with
  | 0, h => cases h; rfl
  | 1, h => exact h.2.1.1 n (by omega)
  | 2, h => exact h.2.1.1 n (by omega)
  | s + 3, ⟨B, h, hA⟩ => rw [hA, hget_set_ne (by omega)]; exact h.2.1.1 n (by omega)
 refine aw_chain (fun j => j == n) Φ (by kernel_rfl) (by kernel_rfl) (by kernel_rfl) (fun s A h j hj => by
  have e : j = n := by simpa using hj
  rw [e]; exact eS s A h) ((e0 _).2 rfl) (fun K hK => ?_)
 simp (disch := first | omega | (simp only [lnS]; try omega)) [-getElem?_pos, -getElem?_neg, b1, hul, q1, q2, q3, hivl, hopl, -notTuple, nq.1, nq.2, nt_aggG, CL_nil, CL_cons, CLc_val, CLc_skip, memS, inS, inSp, isCallH, isCallU, isCallF, calleeH_f, calleeH_t, calleeH_i, effF]
 refine CLc_call (v := .agg ov.toArray) (by kernel_rfl) (fun A hA => ?_) ?_
 ·obtain rfl := (e0 _).1 hA
  exact hcO.mono fun v' A' h => ⟨h.1, (e1 _).2 ⟨h.2.1, h.2.2.1, h.2.2.2⟩⟩
 try simp (disch := first | omega | (simp only [lnS]; try omega)) [-getElem?_pos, -getElem?_neg, b1, hul, q1, q2, q3, hivl, hopl, -notTuple, nq.1, nq.2, nt_aggG, CL_nil, CL_cons, CLc_val, CLc_skip, memS, inS, inSp, isCallH, isCallU, isCallF, calleeH_f, calleeH_t, calleeH_i, effF]
 refine CLc_call (v := clV qv (n + 2 + opN pv wv bv)) (by kernel_rfl) (fun A hA => ?_) ?_
 ·obtain ⟨g1, g2, g3⟩ := (e1 _).1 hA
  have kQ2 : KsV A qv x.got := CD.Val.low (fun j hj => g2.1 j (by omega)) kQ
  refine (cloneK_ac (nro := nro) (γ := γ) kQ2 (fun k hk => (hw.got k hk).1) (by omega) (by have := hs.2; omega)).mono ?_
  rintro v' A' ⟨h1, h2, h3, F, h4, h5⟩
  rw [g1] at h1 h2 h3 h5
  refine ⟨h1, (e2 _).2 ⟨h2, ⟨fun j hj => (h3.1 j (by omega)).trans (g2.1 j hj), by have := h3.2; omega⟩, fun B hB => g3 B (KeepN.trans (fun j _ hj => h3.1 j (by omega)) hB (by have := h3.2; omega)), F, by rw [← h1]; exact h4, fun j hj => by have := h5 j hj; omega⟩⟩
 try simp (disch := first | omega | (simp only [lnS]; try omega)) [-getElem?_pos, -getElem?_neg, b1, hul, q1, q2, q3, hivl, hopl, -notTuple, nq'.1, nq'.2, nt_aggG, -xbuild, hbl, CL_nil, CL_cons, CLc_val, CLc_skip, memS, inS, inSp, isCallH, isCallU, isCallF, calleeH_f, calleeH_t, calleeH_i, effF]
 refine CLc_eff (v := undef) (fun A hA => ?_) ?_
 ·have hA2 := hA
  obtain ⟨g1, g2, g3, F, g4, g5⟩ := (e2 _).1 hA2
  have c2 : hget A (n + 1) = some ⟨ZZ, 60, none⟩ := (g2.1 (n + 1) (by omega)).trans b2
  refine ⟨_, ?_, (e3 _).2 ⟨A, hA, rfl⟩⟩
  simp (disch := first | omega | (simp only [lnS]; try omega)) [-getElem?_pos, -getElem?_neg, c2, hZl, hset, hr3l, nt_aggG]
 try simp (disch := first | omega | (simp only [lnS]; try omega)) [-getElem?_pos, -getElem?_neg, CL_nil, CL_cons, CLc_val, CLc_skip, memS, inS, inSp, isCallH, isCallU, isCallF, calleeH_f, calleeH_t, calleeH_i, effF]
 intro A hA
 obtain ⟨B, hB, rfl⟩ := (e3 _).1 hA
 obtain ⟨g1, g2, g3, F, g4, g5⟩ := (e2 _).1 hB
 have hFl := g4.lt
 have c2 : hget B (n + 1) = some ⟨ZZ, 60, none⟩ := (g2.1 (n + 1) (by omega)).trans b2
 have z1 : hget (B.set (n + 1) (some ⟨R, 60, none⟩)) (n + 1) = some ⟨R, 60, none⟩ := hget_set_eq (hget_lt c2)
 have z2 : ∀ j, j ≠ n + 1 → hget (B.set (n + 1) (some ⟨R, 60, none⟩)) j = hget B j := fun j hj => hget_set_ne (fun e => hj e.symm)
 have z3 : (B.set (n + 1) (some ⟨R, 60, none⟩)).length = B.length := by rw [List.length_set]
 generalize B.set (n + 1) (some ⟨R, 60, none⟩) = C at *
 refine hK _ _ ?_; clear hK K
 (refine aw_ret ?_; simp (disch := first | omega | (simp only [lnS]; try omega)) [-getElem?_pos, -getElem?_neg, thenQ_ret, scopeQ_ret, inBlockQ_ret, RQ, resL, resV, z1, hr3l, htk])
 refine ⟨⟨fun j hj => (z2 j (by omega)).trans ((g2.1 j (by omega)).trans (lw.1 j hj)), by have := lw.2; omega⟩, fun D hD => ?_⟩
 rw [hR]
 obtain ⟨k1, k2, k3⟩ := g3 D (fun j h1 h2 => (hD j (by omega) (by omega)).trans (z2 j (by omega)))
 have g4 := g4.low (H' := D) (fun j hj => (hD j (by have := g5 j hj; omega) (by have := hFl j hj; omega)).trans (z2 j (by have := g5 j hj; omega)))
 exact held_val k1 k2 k3 (own_val (by omega) g4 (kd_len (fun k hk => (hw.got k hk).1)) (kd_flat _))
theorem helds1_callable : callable Try.prog 138 = true := by kernel_rfl
def NewRowsH (n : Nat) (H : AH) (R : List (List Value)) (l : List HeldD) : Prop := R.length = l.length ∧ ∀ (k : Nat) (us : List Value) (x : HeldD), R[k]? = some us → l[k]? = some x → us.length = 104 ∧ ∀ G, KeepN n H G → ValL G x.row us
theorem NewRowsH.keep {n : Nat} {H G : AH} {R : List (List Value)} {l : List HeldD} (h : NewRowsH n H R l) (hk : KeepN n H G) (hl : H.length ≤ G.length) : NewRowsH n G R l :=
 ⟨h.1, fun k us x h1 h2 => ⟨(h.2 k us x h1 h2).1, fun B hB => (h.2 k us x h1 h2).2 B (hk.trans hB hl)⟩⟩
theorem NewRowsH.len {n : Nat} {H : AH} {R : List (List Value)} {l : List HeldD} (h : NewRowsH n H R l) : ∀ r ∈ R, r.length = 104 := fun r hr => by
 obtain ⟨k, hk⟩ := List.getElem?_of_mem hr
 have hkl := (List.getElem?_eq_some_iff.1 hk).1
 have := h.1
 exact (h.2 k r _ hk (List.getElem?_eq_getElem (show k < l.length by omega))).1
theorem NewRowsH.push {n : Nat} {H : AH} {R : List (List Value)} {l : List HeldD} {us : List Value} {x : HeldD} (h : NewRowsH n H R l) (h1 : us.length = 104) (h2 : ∀ G, KeepN n H G → ValL G x.row us) : NewRowsH n H (R ++ [us]) (l ++ [x]) := by
 have hl := h.1
 refine ⟨by simp [hl], fun k r y hr hy => ?_⟩
 rcases Nat.lt_or_ge k R.length with hk | hk
 ·rw [List.getElem?_append_left hk] at hr
  rw [List.getElem?_append_left (by omega)] at hy
  exact h.2 k r y hr hy
 ·rw [List.getElem?_append_right hk] at hr
  rw [List.getElem?_append_right (by omega)] at hy
  rw [hl] at hr
  match k - l.length, hr, hy with
  | 0, hr, hy => cases hr; cases hy; exact ⟨h1, h2⟩
theorem held_row_len {x : HeldD} (hw : x.Wf) : x.row.length = 104 := by
 have h1 := hw.id.1
 have h2 := hw.op.of.1
 have h3 := hw.op.check.1
 simp [HeldD.row, OpD.row, kd, h1, h2, h3]
theorem rows_valH {D : AH} {b : Nat} {T : TypeId} {es : Option Nat} {R : List (List Value)} {L : List HeldD} (hb : hget D b = some ⟨R.flatten, T, es⟩) (hl : R.length = L.length) (hw : ∀ x ∈ L, x.Wf) (h : ∀ (k : Nat) (us : List Value) (x : HeldD), R[k]? = some us → L[k]? = some x → us.length = 104 ∧ ValL D x.row us) : HdV D (.slice (some ⟨b, 0, none⟩) L.length L.length) L := by
 have hR : ∀ r ∈ R, r.length = 104 := fun r hr => by
  obtain ⟨k, hk⟩ := List.getElem?_of_mem hr
  have hkl := (List.getElem?_eq_some_iff.1 hk).1
  exact (h k r _ hk (List.getElem?_eq_getElem (show k < L.length by omega))).1
 have := CD.Val.sl (H := D) (sz := 104) (rows := L.map HeldD.row) hb (by rw [List.length_map]; show _ ≤ R.flatten.length; rw [fl_len hR, hl]; exact Nat.le_refl _) (fun row hr => by
  obtain ⟨x, hx, rfl⟩ := List.mem_map.1 hr
  exact held_row_len (hw x hx)) (fun i row c d v hi hc hv => by
  rw [List.getElem?_map] at hi
  cases hx : L[i]? with
  | none => rw [hx] at hi; cases hi
  | some x =>
   rw [hx] at hi
   cases hi
   have hil := (List.getElem?_eq_some_iff.1 hx).1
   obtain ⟨us, hus⟩ : ∃ us, R[i]? = some us := ⟨_, List.getElem?_eq_getElem (by omega)⟩
   obtain ⟨h1, h2⟩ := h i us x hus hx
   have hcl := (List.getElem?_eq_some_iff.1 hc).1
   have h2l := h2.1
   obtain ⟨u, hu⟩ : ∃ u, us[c]? = some u := ⟨_, List.getElem?_eq_getElem (by omega)⟩
   have hat := fl_at hR hus hu
   have hv' : R.flatten[i * 104 + c]? = some v := hv
   rw [hat] at hv'
   cases hv'
   exact h2.2 c d _ hc hu)
 rw [List.length_map] at this
 exact this
theorem eachH_ac {nro : Nat} {γ : Nat → Option Nat} {H : AH} {nv : Value} {l : List HeldD} (hN : HdA H nv l) (hl : l.length ≤ 1000) (hs : ∀ x ∈ l, SmH x) (hnro : nro ≤ H.length) (hcal : callable Try.prog 138 = true) :
  ∃ N : Nat, AC Try.prog nro γ 137 #[nv, .func (.func 138) #[] #[]] H (fun v' H' => v' = .slice (some ⟨H.length, 0, none⟩) l.length l.length ∧ H'.length = N ∧ Low H.length H H' ∧ ∃ R, NewRowsH (H.length + 1) H' R l ∧ hget H' H.length = some ⟨R.flatten, 60, some 104⟩) := by
 have hN' := hN
 obtain ⟨hnt, hvc, hxl, hwf, hat⟩ := hN
 obtain ⟨c, hc⟩ := Classical.skolem.1 (fun i : Nat => show ∃ N : Nat, ∀ x, l[i]? = some x → ∃ j q b us pv wv bv qv, xindexAddr Try.prog 58 nv (.int .i64 (i : Nat)) = some (.pointer (some ⟨j, q, none⟩)) ∧ hget H j = some b ∧ q + 104 ≤ b.cells.length ∧ us = (b.cells.drop q).take 104 ∧ HdC H us x pv wv bv qv ∧ heldN pv wv bv qv = N from by
  cases hi : l[i]? with
  | none => exact ⟨0, fun x hx => by cases hx⟩
  | some x =>
   obtain ⟨j, q, b, us, pv, wv, bv, qv, h1, h2, h3, h4, h5, h6⟩ := hat i x hi
   exact ⟨heldN pv wv bv qv, fun y hy => by cases hy; exact ⟨j, q, b, us, pv, wv, bv, qv, h1, h2, h3, h5, h6, rfl⟩⟩)
 have hm63 : l.length ≤ 9223372036854775807 := by omega
 have hfn : notTuple (.func (.func 138) #[] #[]) = true := rfl
 have hfc : (Value.func (.func 138) #[] #[]).cells = #[.func (.func 138) #[] #[]] := rfl
 refine ⟨H.length + 1 + ((List.range l.length).map fun i => c i + 1).sum, ?_⟩
 refine ac_of_aw Try.func137 rfl Try.ntmps137 Try.results137 (by simp) ?_
 refine aw_seq ?_
 (refine aw_ops (by kernel_rfl) (fun K hK => ?_); simp (disch := first | omega | (simp only [lnS]; try omega)) [-getElem?_pos, -getElem?_neg]; refine hK _ _ ?_; clear hK K)
 refine aw_seq ?_
 refine aw_ops (by kernel_rfl) (fun K hK => ?_)
 have hlm : l.length ≤ maxLen := by simp only [maxLen]; omega
 have hp0 : plain1 (.slice none 0 0) = true := rfl
 simp (disch := first | omega | (simp only [lnS]; try omega)) [-getElem?_pos, -getElem?_neg, -notTuple, hnt, hvc, hfn, hfc, nt_intG, -xlen, hxl, all_zl, hlm, hp0]
 refine hK _ _ ?_; clear hK K
 generalize hZZ : List.map (fun j => (iv .u8 (zl 32) ++ Value.int .i64 0 :: .int .u32 0 :: .slice none 0 0 :: .int .i64 0 :: .slice none 0 0 :: (iv .u8 (zl 64) ++ [.string ByteArray.empty, .slice none 0 0, .slice none 0 0]))[j % 104]?.getD undef) (List.range (l.length * 104)) = ZZ
 have hZl : ZZ.length = l.length * 104 := by rw [← hZZ]; simp
 clear hZZ
 obtain ⟨n, hn0⟩ : ∃ n, n = H.length := ⟨_, rfl⟩
 obtain ⟨G0, hG0⟩ : ∃ G : AH, G = H ++ [some ⟨ZZ, 60, some 104⟩] := ⟨_, rfl⟩
 have b0 : hget G0 n = some ⟨ZZ, 60, some 104⟩ := by rw [hG0, hn0, hget_app0]; rfl
 have lw0 : Low n H G0 := by rw [hG0, hn0]; exact Low.push (Nat.le_refl _) _
 have gl0 : G0.length = n + 1 := by rw [hG0, hn0]; simp
 rw [← hG0, ← hn0]
 rw [← hn0] at hnro
 clear hG0
 refine aw_seq ?_
 refine aw_seq ?_
 (refine aw_ops (by kernel_rfl) (fun K hK => ?_); simp (disch := first | omega | (simp only [lnS]; try omega)) [-getElem?_pos, -getElem?_neg, -notTuple, hnt, hvc, nt_intG, -xlen, hxl]; refine hK _ _ ?_; clear hK K)
 refine aw_block ?_
 refine aw_loop (fun q α G => ∃ (i : Nat) (R : List (List Value)), i + q = l.length ∧ α 0 = nv ∧ α 1 = .func (.func 138) #[] #[] ∧ α 5 = .slice (some ⟨n, 0, none⟩) l.length l.length ∧ α 11 = nv ∧ α 12 = .int .i64 (l.length : Nat) ∧ α 13 = .int .i64 (i : Nat) ∧ Low n H G ∧ G.length = n + 1 + ((List.range i).map fun i => c i + 1).sum ∧ hget G n = some ⟨R.flatten ++ ZZ.drop (i * 104), 60, some 104⟩ ∧ NewRowsH (n + 1) G R (l.take i)) l.length ?_ ?_
 ·exact ⟨0, [], by omega, by (first | (simp [put_at, put_none, fr0_at]; done) | rfl), by (first | (simp [put_at, put_none, fr0_at]; done) | rfl), by (first | (simp [put_at, put_none, fr0_at]; done) | rfl), by (first | (simp [put_at, put_none, fr0_at]; done) | rfl), by (first | (simp [put_at, put_none, fr0_at]; done) | rfl), by (first | (simp [put_at, put_none, fr0_at]; done) | rfl), lw0, by simp [gl0], by simpa using b0, ⟨by simp, fun k us x h => by simp at h⟩⟩
 rintro q α G ⟨i, R, hiq, h0, h1, h5, h11, h12, h13, hlow, hgl, hout, hrows⟩
 refine aw_seq ?_
 by_cases hi : i < l.length
 case neg =>
  (refine aw_ops (by kernel_rfl) (fun K hK => ?_); simp (disch := first | omega | (simp only [lnS]; try omega)) [-getElem?_pos, -getElem?_neg, h12, h13, hi]; refine hK _ _ ?_; clear hK K)
  refine aw_seq ?_
  refine aw_f (by (first | (simp [eval_tmp, put_at, hi]; done) | (simp [eval_tmp, put_at, hi]; omega))) (by kernel_rfl) ?_
  refine aw_exit ?_
  obtain rfl : i = l.length := by omega
  rw [List.drop_of_length_le (by omega), List.append_nil] at hout
  rw [List.take_length] at hrows
  refine aw_seq ?_
  (refine aw_ops (by kernel_rfl) (fun K hK => ?_); simp (disch := first | omega | (simp only [lnS]; try omega)) [-getElem?_pos, -getElem?_neg, h5]; refine hK _ _ ?_; clear hK K)
  (refine aw_ret ?_; simp (disch := first | omega | (simp only [lnS]; try omega)) [-getElem?_pos, -getElem?_neg, thenQ_ret, scopeQ_ret, inBlockQ_ret, RQ, resL, resV])
  exact ⟨hlow, R, hrows, hout⟩
 obtain ⟨j, qq, bb, us, pv, wv', bv, qv, hx, hbb, hq, hus, hC, hcn⟩ := hc i _ (hn_get hi)
 have hbG : hget G j = some bb := (hlow.1 j (by have := hget_lt hbb; omega)).trans hbb
 have hul := hC.len
 have hxw := hwf _ (List.mem_of_getElem? (hn_get hi))
 have hxs := hs _ (List.mem_of_getElem? (hn_get hi))
 have hus' := hus.symm
 clear hus
 have hset2 : ∀ Z : List Value, Z.length = 104 → setR Z 0 us = us := fun Z hZ => setR_all _ _ (by omega)
 have hle0 := hlow.2
 have hRl := hrows.1
 rw [List.length_take] at hRl
 have hRl : R.length = i := by omega
 (refine aw_ops (by kernel_rfl) (fun K hK => ?_); simp (disch := first | omega | (simp only [lnS]; try omega)) [-getElem?_pos, -getElem?_neg, h12, h13, hi]; refine hK _ _ ?_; clear hK K)
 refine aw_seq ?_
 refine aw_t (by (first | (simp [eval_tmp, put_at, hi]; done) | (simp [eval_tmp, put_at, hi]; omega))) (by kernel_rfl) ?_
 refine aw_skip ?_
 refine aw_seq ?_
 refine aw_block ?_
 refine aw_seq ?_
 (refine aw_ops (by kernel_rfl) (fun K hK => ?_); simp (disch := first | omega | (simp only [lnS]; try omega)) [-getElem?_pos, -getElem?_neg, h11, h13, -notTuple, hnt, hvc, nt_intG, nt_aggG, -xindexAddr, hx, hbG, hus', hul, hq, hle0, hp0, all_zl, hset2]; refine hK _ _ ?_; clear hK K)
 obtain ⟨hlow2, hb2⟩ := boxed (H := G) us 60
 have hout2 := hget_left' (L := [some ⟨us, 60, none⟩]) hout
 have hgl2 : (G ++ ([some ⟨us, 60, none⟩] : AH)).length = G.length + 1 := by simp
 obtain ⟨g, hg⟩ : ∃ g, g = G.length := ⟨_, rfl⟩
 rw [← hg] at hb2 hgl2 hlow2 hle0 hgl ⊢
 have hrows := hrows.keep (G := G ++ ([some ⟨us, 60, none⟩] : AH)) (fun j _ hj => hlow2.1 j (by omega)) (by omega)
 generalize G ++ [some ⟨us, 60, none⟩] = G2 at *
 have hlowG2 : Low n H G2 := ⟨fun j hj => (hlow2.1 j (by omega)).trans (hlow.1 j hj), by omega⟩
 have hC2 : HdC G2 us (hn l i) pv wv' bv qv := hC.low (fun j hj => hlowG2.1 j (by omega))
 have hcn1 := helds1_ac (nro := nro) (γ := γ) hC2 hxw hxs (by omega)
 have htk : us.take 104 = us := List.take_of_length_le (by omega)
 have hsuc : (List.map (fun i => c i + 1) (List.range (i + 1))).sum = (List.map (fun i => c i + 1) (List.range i)).sum + (c i + 1) := by
  rw [List.range_succ, List.map_append, List.sum_append]
  simp
 have hng : n < g := by omega
 refine aw_ops (by kernel_rfl) (fun K hK => ?_)
 simp (disch := first | omega | (simp only [lnS]; try omega)) [-getElem?_pos, -getElem?_neg, h5, h1, -notTuple, hnt, hvc, hfn, hfc, nt_intG, nt_aggG, nt_slG, hb2, hul, htk]
 refine ⟨hcal, hcn1.mono ?_⟩
 rintro v1 G3 ⟨rfl, l1, w1, r1⟩
 rw [hgl2] at l1 w1 r1 ⊢
 have hle3 := w1.2
 have hout3 := (w1.1 n (by omega)).trans hout2
 have hrl := heldRow_len hxw (opP pv (g + 1 + 2)) (opW pv wv' (g + 1 + 2)) (opB pv wv' bv (g + 1 + 2)) (clV qv (g + 1 + 2 + opN pv wv' bv))
 have hput := row_put (Z := ZZ.drop (i * 104)) (us := heldCp (hn l i) pv wv' bv qv (g + 1)) hrows.len hRl hrl (by rw [List.length_drop]; omega)
 rw [List.drop_drop, show i * 104 + 104 = (i + 1) * 104 by omega] at hput
 have hrows3 := (hrows.keep (G := G3) (fun j _ hj => w1.1 j (by omega)) (by omega)).push (us := heldCp (hn l i) pv wv' bv qv (g + 1)) hrl (fun B hB => r1 B (fun j h1 h2 => hB j (by omega) h2))
 have hrl : (heldCp (hn l i) pv wv' bv qv (g + 1)).length = 104 := hrl
 have hcl : (R.flatten ++ ZZ.drop (i * 104)).length = l.length * 104 := by
  rw [List.length_append, fl_len hrows.len, List.length_drop, hRl]; omega
 generalize heldCp (hn l i) pv wv' bv qv (g + 1) = us' at *
 generalize hCe : R.flatten ++ ZZ.drop (i * 104) = C at *
 generalize hCe2 : (R ++ [us']).flatten ++ ZZ.drop ((i + 1) * 104) = C' at *
 simp (disch := first | omega | (simp only [lnS]; try omega)) [-getElem?_pos, -getElem?_neg, hout3, hcl, hrl, hput, nt_aggG, hi]
 refine hK _ _ ?_; clear hK K
 have z1 : hget (G3.set n (some ⟨C', 60, some 104⟩)) n = some ⟨C', 60, some 104⟩ := hget_set_eq (hget_lt hout3)
 have z2 : ∀ j, j ≠ n → hget (G3.set n (some ⟨C', 60, some 104⟩)) j = hget G3 j := fun j hj => hget_set_ne (fun e => hj e.symm)
 have z3 : (G3.set n (some ⟨C', 60, some 104⟩)).length = G3.length := by rw [List.length_set]
 have hrows4 := hrows3.keep (G := G3.set n (some ⟨C', 60, some 104⟩)) (fun j h1 h2 => z2 j (by omega)) (by omega)
 generalize G3.set n (some ⟨C', 60, some 104⟩) = G4 at *
 have htk2 : l.take i ++ [hn l i] = l.take (i + 1) := by rw [List.take_add_one, hn_get hi]; rfl
 rw [htk2] at hrows4
 subst hCe2
 (refine aw_ops (by kernel_rfl) (fun K hK => ?_); simp (disch := first | omega | (simp only [lnS]; try omega)) [-getElem?_pos, -getElem?_neg, h13]; refine hK _ _ ?_; clear hK K)
 exact ⟨q - 1, by omega, i + 1, R ++ [us'], by omega, by (first | (simp [put_at, put_none, fr0_at, h0]; done) | rfl), by (first | (simp [put_at, put_none, fr0_at, h1]; done) | rfl), by (first | (simp [put_at, put_none, fr0_at, h5]; done) | rfl), by (first | (simp [put_at, put_none, fr0_at, h11]; done) | rfl), by (first | (simp [put_at, put_none, fr0_at, h12]; done) | rfl), by (first | (simp [put_at, put_none, fr0_at]; done) | rfl), ⟨fun j hj => (z2 j (by omega)).trans ((w1.1 j (by omega)).trans (hlowG2.1 j hj)), by omega⟩, by rw [hsuc]; omega, z1, hrows4⟩
theorem deepHeld_ac {nro : Nat} {γ : Nat → Option Nat} {H : AH} {nv : Value} {l : List HeldD} (hN : HdA H nv l) (hl : l.length ≤ 1000) (hs : ∀ x ∈ l, SmH x) (hnro : nro ≤ H.length) :
  ∃ N : Nat, AC Try.prog nro γ 86 #[nv] H (fun v' H' => v' = .slice (some ⟨H.length, 0, none⟩) l.length l.length ∧ H'.length = N ∧ Low H.length H H' ∧ ∃ R, NewRowsH (H.length + 1) H' R l ∧ hget H' H.length = some ⟨R.flatten, 60, some 104⟩) := by
 obtain ⟨N, hE⟩ := eachH_ac (nro := nro) (γ := γ) hN hl hs hnro helds1_callable
 obtain ⟨hnt, hvc, hxl, hwf, hat⟩ := hN
 have hfn : notTuple (.func (.func 138) #[] #[]) = true := rfl
 have hfc : (Value.func (.func 138) #[] #[]).cells = #[.func (.func 138) #[] #[]] := rfl
 refine ⟨N, ?_⟩
 refine ac_of_aw Try.func86 rfl Try.ntmps86 Try.results86 (by simp) ?_
 refine aw_seq ?_
 (refine aw_ops (by kernel_rfl) (fun K hK => ?_); simp (disch := first | omega | (simp only [lnS]; try omega)) [-getElem?_pos, -getElem?_neg]; refine hK _ _ ?_; clear hK K)
 refine aw_seq ?_
 refine aw_ops (by kernel_rfl) (fun K hK => ?_)
 simp (disch := first | omega | (simp only [lnS]; try omega)) [-getElem?_pos, -getElem?_neg, -notTuple, hnt, hvc, hfn, hfc, eval_fnG]
 refine ⟨by kernel_rfl, hE.mono ?_⟩
 rintro v1 G1 ⟨rfl, h1, h2, h3⟩
 try simp (disch := first | omega | (simp only [lnS]; try omega)) [-getElem?_pos, -getElem?_neg]
 refine hK _ _ ?_; clear hK K
 (refine aw_ret ?_; simp (disch := first | omega | (simp only [lnS]; try omega)) [-getElem?_pos, -getElem?_neg, thenQ_ret, scopeQ_ret, inBlockQ_ret, RQ, resL, resV])
 exact ⟨h2, h3⟩
end
section
def NewGH (n : Nat) (H : AH) (v : Value) (l : List HeldD) : Prop := ∀ G, KeepN n H G → HdV G v l
theorem NewGH.sh {n : Nat} {H : AH} {v : Value} {l : List HeldD} (h : NewGH n H v l) : notTuple v = true ∧ v.cells = #[v] := val_nt (h H (fun _ _ _ => rfl))
def putE (q : List HeldD) (x : HeldD) : Int := if (rightQ q && rightO x.op) = false then 1 else if 0 ≤ findIH q q.length x.id then 13 else if q.length = 24 then 8 else 0
def PutR (q : List HeldD) (x : HeldD) (H : AH) (v' : Value) (H' : AH) : Prop :=
 Low H.length H H' ∧ ∃ sv, v' = .tuple #[sv, .int .i64 (putE q x)] ∧ ((putE q x = 0 ∧ NewGH H.length H' sv (q ++ [x])) ∨ (putE q x ≠ 0 ∧ sv = .slice none 0 0))
theorem PutR.bad {q : List HeldD} {x : HeldD} {H H' : AH} {z : Int} (hl : Low H.length H H') (h : putE q x = z) (hz : z ≠ 0) : Low H.length H H' ∧ ∃ sv, (Value.slice none 0 0 = sv ∧ z = putE q x) ∧ ((putE q x = 0 ∧ NewGH H.length H' sv (q ++ [x])) ∨ (putE q x ≠ 0 ∧ sv = .slice none 0 0)) :=
 ⟨hl, _, ⟨rfl, h.symm⟩, .inr ⟨by rw [h]; exact hz, rfl⟩⟩
theorem rightQ_smH {q : List HeldD} (h : rightQ q = true) (hg : ∀ x ∈ q, x.got.length ≤ 1000) : ∀ x ∈ q, SmH x := fun x hx => by
 obtain ⟨i, hi, rfl⟩ := List.mem_iff_getElem.1 hx
 unfold rightQ at h
 rw [Bool.and_eq_true, List.all_eq_true] at h
 have h1 := h.2 i (List.mem_range.2 hi)
 unfold oneQ at h1
 rw [Bool.and_eq_true] at h1
 have e : hn q i = q[i] := hn_eq (List.getElem?_eq_getElem hi)
 rw [e] at h1
 have := rightO_sm h1.2
 exact ⟨⟨by omega, by omega, by omega⟩, hg _ hx⟩
theorem rightQ_len {q : List HeldD} (h : rightQ q = true) : q.length ≤ 24 := by
 unfold rightQ at h
 rw [Bool.and_eq_true, decide_eq_true_eq] at h
 exact h.1
attribute [local simp] wb_bool wb_undef with_lit XL_nil XL_cons XLc_val XLc_call step1_eq stepW_t stepW_f stepC_n stepC_s stepX_s stepX_n stepN_s calleeX xrecv oneV xop_eq xopR_s xopR_n wantedA_eq wantedG_n wantedG_s plain1_int plain1_bool plain1_string bits_i64 bits_u64 bits_u32 bits_u16 bits_u8 xeqA xagg xcmp xarr allK_iv num_iv calleeOf xread xeff xbin xint xnil xun xstr xload xconv xpart xfield xfieldAddr xindexAddr xindex bnd asInt? xslice xlen xmin xmax xbuild xfill xappend xapp2 xappstr xappmk xcap xcopy xcells eval_tmp eval_const put_at put_none fr0_at cells_agg cells_int cells_bool cells_string cells_ptr cells_slice notTuple tab iv_all hget_app hget_app0 hget_cons0 hget_cons set_app set_app0 setR setR_one QL_nil QL_cons QLc_val stepQ_t stepQ_f stepQC_n stepQC_s stepQX_s SL_nil SL_cons SLc_val stepS_t stepS_f ltT ltF leT leF eqT eqF ltTn ltFn leTn leFn eqTn eqFn beqT beqF bneT bneF wi64 wu64 wu32 wu16 wu8 tmodP tdivP hgetL hgetNe hgetEq setL nums_def nums_len Nat.succ_le_of_lt List.getElem?_cons_zero List.getElem?_cons_succ Option.getD_some Int.toNat_add Int.toNat_mul agM okM agB agI agS agP agL agA okB okI okS okP okSl okA
theorem held_app {nro n L0 L1 : Nat} {A : AH} {R R1 : List (List Value)} {l : List HeldD} {x : HeldD} (hnro : nro ≤ L0) (hnL : n ≤ L0) (hL : L0 < L1) (b0 : hget A L0 = some ⟨R.flatten, 60, some 104⟩) (b1 : hget A L1 = some ⟨R1.flatten, 60, some 104⟩) (h0 : NewRowsH (L0 + 1) A R l) (h1 : NewRowsH (L1 + 1) A R1 [x]) (hl : l.length ≤ 1000) (hw : ∀ y ∈ l ++ [x], y.Wf) :
  ∃ v' H', xappend Try.prog nro 58 (.slice (some ⟨L0, 0, none⟩) l.length l.length) (.slice (some ⟨L1, 0, none⟩) 1 1) A = some (v', H') ∧ NewGH n H' v' (l ++ [x]) ∧ (∀ j, j < L0 → hget H' j = hget A j) ∧ A.length ≤ H'.length := by
 have hRl := fl_len h0.len
 rw [h0.1] at hRl
 obtain ⟨r1, rfl⟩ : ∃ r, R1 = [r] := by
  have := h1.1
  match R1, this with
  | [r], _ => exact ⟨r, rfl⟩
 have hr1 := h1.2 0 r1 x rfl rfl
 have hfl : [r1].flatten = r1 := by simp
 rw [hfl] at b1
 have hrl := hr1.1
 have htr : r1.take 104 = r1 := List.take_of_length_le (by omega)
 have hxc : xcells 104 (.slice (some ⟨L1, 0, none⟩) 1 1) A = some r1 := by simp [xcells, b1, hrl, htr]
 obtain ⟨v', H', hap, ho, hl', hk'⟩ := ownF_append (P := Try.prog) (nro := nro) (t := 58) (e := 60) (H := A) (v := .slice (some ⟨L0, 0, none⟩) l.length l.length) (x := .slice (some ⟨L1, 0, none⟩) 1 1) (sz := 104) (cells := R.flatten) (news := r1) (F := [L0]) (by simp) (by simp) (by omega) (by simp) (.inr ⟨L0, l.length, rfl, b0, hRl, rfl⟩)
  (fun j hj => by simp at hj; omega) (fun s e => by cases e) hxc (fun e => by rw [e] at hrl; simp at hrl) (by rw [hrl]) (by rw [hRl, hrl]; simp; omega) (by rw [hRl, hrl]; simp only [maxLen]; omega)
 have g0 := hget_lt b0
 have g1 := hget_lt b1
 obtain ⟨len, rfl⟩ := ho.new
 have hlen : len = l.length + 1 := by
  rcases ho with ⟨h, _, _⟩ | ⟨i, k, he, _, h3, _⟩
  ·cases h
  ·cases he
   rw [List.length_append, hRl, hrl] at h3
   omega
 subst hlen
 have hnew : hget H' A.length = some ⟨R.flatten ++ r1, 60, some 104⟩ := by
  rcases ho with ⟨h, _, _⟩ | ⟨i, k, he, h2, _, _⟩
  ·cases h
  ·cases he; exact h2
 have hold : ∀ j, j < A.length → j ≠ L0 → hget H' j = hget A j := fun j hj hn => hk' j hj (by simpa using hn)
 refine ⟨_, H', hap, fun D hD => ?_, fun j hj => hold j (by omega) (by omega), by omega⟩
 have hD2 : ∀ j, L0 + 1 ≤ j → j < A.length → hget D j = hget A j := fun j h1 h2 => (hD j (by omega) (by omega)).trans (hold j h2 (by omega))
 have hfin := rows_valH (D := D) (b := A.length) (T := 60) (es := some 104) (R := R ++ [r1]) (L := l ++ [x]) (by rw [hD A.length (by omega) (by omega), hnew]; simp) (by simp [h0.1]) hw (fun k us' y hk hy => by
  rcases Nat.lt_or_ge k l.length with hkl | hkl
  ·rw [List.getElem?_append_left (by rw [h0.1]; exact hkl)] at hk
   rw [List.getElem?_append_left hkl] at hy
   have := h0.2 k us' y hk hy
   exact ⟨this.1, this.2 D (fun j h1 h2 => hD2 j h1 h2)⟩
  ·rw [List.getElem?_append_right (by rw [h0.1]; exact hkl), h0.1] at hk
   rw [List.getElem?_append_right hkl] at hy
   match k - l.length, hk, hy with
   | 0, hk, hy => cases hk; cases hy; exact ⟨hrl, hr1.2 D (fun j h1 h2 => hD2 j (by omega) h2)⟩)
 rw [List.length_append] at hfin
 exact hfin
theorem put_rc {γ : Nat → Option Nat} {H : AH} {qv : Value} {l : List HeldD} {us : List Value} {x : HeldD} {pv wv bv kv : Value} (hQ : HdA H qv l) (hC : HdC H us x pv wv bv kv) (hw : x.Wf) (hl : l.length ≤ maxLen) (hg : ∀ y ∈ l, y.got.length ≤ 1000) (hgx : x.got.length ≤ 1000) : AC Try.prog H.length γ 37 #[qv, .agg us.toArray] H (PutR l x H) := by
 have q1 := hQ.nt
 have q2 := hQ.cs
 have hxl := hQ.len
 have hul := hC.len
 have hset : ∀ Z : List Value, Z.length = 104 → setR Z 0 us = us := fun Z hZ => setR_all _ _ (by omega)
 have hset2 : ∀ g : Nat → Value, setR (List.map g (List.range 104)) 0 us = us := fun g => hset _ (by simp)
 have hp0 : plain1 (.slice none 0 0) = true := rfl
 have htu : us.take 104 = us := List.take_of_length_le (by omega)
 have hivl : (iv .u8 x.id).length = 32 := by rw [iv_length, hw.id.1]
 have hid := hC.id
 have hcop := hC.op.len
 obtain ⟨n, hn0⟩ : ∃ n, n = H.length := ⟨_, rfl⟩
 unfold PutR
 refine ac_of_aw Try.func37 rfl Try.ntmps37 Try.results37 (by simp) ?_
 refine aw_seq ?_
 (refine aw_ops (by kernel_rfl) (fun K hK => ?_); simp (disch := first | omega | (simp only [lnS]; try omega)) [-getElem?_pos, -getElem?_neg, -notTuple, q1, q2, hul, nt_aggG, hp0, all_zl, hset, htu]; refine hK _ _ ?_; clear hK K)
 obtain ⟨lw, b3⟩ := boxed (H := H) us 60
 rw [← hn0] at b3
 have gl : (H ++ ([some ⟨us, 60, none⟩] : AH)).length = n + 1 := by simp [hn0]
 have hptr : Value.pointer (some ⟨H.length, 0, none⟩) = .pointer (some ⟨n, 0, none⟩) := by rw [hn0]
 generalize H ++ [some ⟨us, 60, none⟩] = G at *
 have hQG := hQ.lowG lw
 have hCG := hC.low lw.1
 have qr := qRight_rc (γ := γ) hQG hl
 have ro := right_rc (γ := γ) hCG.op hw.op
 have fi := qfind_rc (γ := γ) hQG hl hw.id.1
 have k0 : putE l x = if (rightQ l && rightO x.op) = false then 1 else if 0 ≤ findIH l l.length x.id then 13 else if l.length = 24 then 8 else 0 := rfl
 rw [hptr]
 refine aw_seq ?_
 refine aw_block ?_
 refine aw_seq ?_
 refine aw_cut (fun α G2 => α 6 = .bool (!(rightQ l && rightO x.op)) ∧ α 0 = qv ∧ α 3 = .pointer (some ⟨n, 0, none⟩) ∧ G2 = G) ?_ ?_
 ·refine aw_seq ?_
  refine aw_ops (by kernel_rfl) (fun K hK => ?_)
  simp (disch := first | omega | (simp only [lnS]; try omega)) [-getElem?_pos, -getElem?_neg, -notTuple, q1, q2, nt_intG]
  refine ⟨by kernel_rfl, ac_of_rc qr (by simp [pv_iv, pv_int, pv_bool, pv_string, pv_tup2, pv_tup3, iv_plain, p2_int, p2_bool, p2_string]) ?_⟩
  cases hq : rightQ l with
  | false =>
   try simp (disch := first | omega | (simp only [lnS]; try omega)) [-getElem?_pos, -getElem?_neg]
   refine hK _ _ ?_; clear hK K
   refine aw_t (by (first | (simp [eval_tmp, put_at]; done) | (simp [eval_tmp, put_at]; omega))) (by kernel_rfl) ?_
   refine aw_skip ?_
   exact ⟨by rw [hq]; (first | (simp [put_at, put_none, fr0_at]; done) | rfl), by (first | (simp [put_at, put_none, fr0_at]; done) | rfl), by (first | (simp [put_at, put_none, fr0_at]; done) | rfl), rfl⟩
  | true =>
   try simp (disch := first | omega | (simp only [lnS]; try omega)) [-getElem?_pos, -getElem?_neg]
   refine hK _ _ ?_; clear hK K
   refine aw_f (by (first | (simp [eval_tmp, put_at]; done) | (simp [eval_tmp, put_at]; omega))) (by kernel_rfl) ?_
   refine aw_ops (by kernel_rfl) (fun K hK => ?_)
   simp (disch := first | omega | (simp only [lnS]; try omega)) [-getElem?_pos, -getElem?_neg, b3, hul, hcop, nt_intG, nt_aggG]
   refine ⟨by kernel_rfl, ac_of_rc ro (by simp [pv_iv, pv_int, pv_bool, pv_string, pv_tup2, pv_tup3, iv_plain, p2_int, p2_bool, p2_string]) ?_⟩
   try simp (disch := first | omega | (simp only [lnS]; try omega)) [-getElem?_pos, -getElem?_neg]
   refine hK _ _ ?_; clear hK K
   exact ⟨by rw [hq]; (first | (simp [put_at, put_none, fr0_at]; done) | rfl), by (first | (simp [put_at, put_none, fr0_at]; done) | rfl), by (first | (simp [put_at, put_none, fr0_at]; done) | rfl), rfl⟩
 rintro α G2 ⟨q6, q0, q3, rfl⟩
 have lwn : Low H.length H G2 := lw
 cases hb : (rightQ l && rightO x.op) with
 | false =>
  rw [hb] at q6
  refine aw_t (by (first | (simp [eval_tmp, put_at, q6]; done) | (simp [eval_tmp, put_at, q6]; omega))) (by kernel_rfl) ?_
  refine aw_seq ?_
  (refine aw_ops (by kernel_rfl) (fun K hK => ?_); simp (disch := first | omega | (simp only [lnS]; try omega)) [-getElem?_pos, -getElem?_neg, nt_slG, nt_intG]; refine hK _ _ ?_; clear hK K)
  (refine aw_ret ?_; simp (disch := first | omega | (simp only [lnS]; try omega)) [-getElem?_pos, -getElem?_neg, thenQ_ret, scopeQ_ret, inBlockQ_ret, RQ, resL, resV])
  exact PutR.bad lw (by rw [k0, hb, if_pos rfl]) (by decide)
 | true =>
 rw [hb] at q6
 rw [hb, if_neg (by simp)] at k0
 refine aw_f (by (first | (simp [eval_tmp, put_at, q6]; done) | (simp [eval_tmp, put_at, q6]; omega))) (by kernel_rfl) ?_
 obtain ⟨hq, hro⟩ := Bool.and_eq_true_iff.1 hb
 refine aw_seq ?_
 refine aw_ops (by kernel_rfl) (fun K hK => ?_)
 simp (disch := first | omega | (simp only [lnS]; try omega)) [-getElem?_pos, -getElem?_neg, q0, q3, b3, hul, hid, hivl, -notTuple, q1, q2, nt_intG, nt_aggG]
 refine ⟨by kernel_rfl, ac_of_rc fi (by simp [pv_iv, pv_int, pv_bool, pv_string, pv_tup2, pv_tup3, iv_plain, p2_int, p2_bool, p2_string]) ?_⟩
 generalize findIH l l.length x.id = f at *
 by_cases hf : 0 ≤ f
 ·try simp (disch := first | omega | (simp only [lnS]; try omega)) [-getElem?_pos, -getElem?_neg, hf]
  refine hK _ _ ?_; clear hK K
  refine aw_t (by (first | (simp [eval_tmp, put_at]; done) | (simp [eval_tmp, put_at]; omega))) (by kernel_rfl) ?_
  refine aw_seq ?_
  (refine aw_ops (by kernel_rfl) (fun K hK => ?_); simp (disch := first | omega | (simp only [lnS]; try omega)) [-getElem?_pos, -getElem?_neg, nt_slG, nt_intG]; refine hK _ _ ?_; clear hK K)
  (refine aw_ret ?_; simp (disch := first | omega | (simp only [lnS]; try omega)) [-getElem?_pos, -getElem?_neg, thenQ_ret, scopeQ_ret, inBlockQ_ret, RQ, resL, resV])
  first | exact lw | exact PutR.bad lw (by rw [k0, if_pos hf]) (by decide)
 rw [if_neg hf] at k0
 try simp (disch := first | omega | (simp only [lnS]; try omega)) [-getElem?_pos, -getElem?_neg, hf]
 refine hK _ _ ?_; clear hK K
 refine aw_f (by (first | (simp [eval_tmp, put_at]; done) | (simp [eval_tmp, put_at]; omega))) (by kernel_rfl) ?_
 refine aw_seq ?_
 by_cases h24 : l.length = 24
 ·have h24b : ((l.length : Int) == 24) = true := by rw [beq_iff_eq]; omega
  have h24i : (l.length : Int) = 24 := by omega
  (refine aw_ops (by kernel_rfl) (fun K hK => ?_); simp (disch := first | omega | (simp only [lnS]; try omega)) [-getElem?_pos, -getElem?_neg, q0, -notTuple, q1, q2, nt_intG, -xlen, hxl, h24i, h24b]; refine hK _ _ ?_; clear hK K)
  refine aw_t (by (first | (simp [eval_tmp, put_at]; done) | (simp [eval_tmp, put_at]; omega))) (by kernel_rfl) ?_
  refine aw_seq ?_
  (refine aw_ops (by kernel_rfl) (fun K hK => ?_); simp (disch := first | omega | (simp only [lnS]; try omega)) [-getElem?_pos, -getElem?_neg, nt_slG, nt_intG]; refine hK _ _ ?_; clear hK K)
  (refine aw_ret ?_; simp (disch := first | omega | (simp only [lnS]; try omega)) [-getElem?_pos, -getElem?_neg, thenQ_ret, scopeQ_ret, inBlockQ_ret, RQ, resL, resV])
  first | exact lw | exact PutR.bad lw (by rw [k0, if_pos h24]) (by decide)
 have h24b : ((l.length : Int) == 24) = false := by rw [beq_eq_false_iff_ne]; omega
 have h24i : ¬ (l.length : Int) = 24 := by omega
 rw [if_neg h24] at k0
 (refine aw_ops (by kernel_rfl) (fun K hK => ?_); simp (disch := first | omega | (simp only [lnS]; try omega)) [-getElem?_pos, -getElem?_neg, q0, -notTuple, q1, q2, nt_intG, -xlen, hxl, h24i, h24b]; refine hK _ _ ?_; clear hK K)
 refine aw_f (by (first | (simp [eval_tmp, put_at]; done) | (simp [eval_tmp, put_at]; omega))) (by kernel_rfl) ?_
 refine aw_skip ?_
 have hsm := rightQ_smH hq hg
 have hxs : SmH x := by
  have := rightO_sm hro
  exact ⟨⟨by omega, by omega, by omega⟩, hgx⟩
 have hwx : ∀ y ∈ l ++ [x], y.Wf := fun y hy => by
  rcases List.mem_append.1 hy with hy | hy
  ·exact hQ.wf y hy
  ·rw [List.mem_singleton] at hy; subst hy; exact hw
 have hl24 := rightQ_len hq
 have hval : ∀ D, Low G2.length G2 D → ValL D x.row us := fun D hD => by
  have h := hCG.low hD.1
  rw [h.row hw]
  exact held_val h.op.parents h.op.who h.op.boxes h.got
 have hone : ∀ (D : AH) (b : Nat), Low G2.length G2 D → hget D b = some ⟨us, 60, some 104⟩ → HdA D (.slice (some ⟨b, 0, none⟩) 1 1) [x] := fun D b hD hb => by
  have := rows_valH (D := D) (b := b) (T := 60) (es := some 104) (R := [us]) (L := [x]) (by simpa using hb) rfl (fun y hy => by rw [List.mem_singleton] at hy; subst hy; exact hw) (fun k us' y hk hy => by
   match k, hk, hy with
   | 0, hk, hy => cases hk; cases hy; exact ⟨hul, hval D hD⟩)
  exact this.hda (fun y hy => by rw [List.mem_singleton] at hy; subst hy; exact hw)
 have hsx : ∀ y ∈ [x], SmH y := fun y hy => by rw [List.mem_singleton] at hy; subst hy; exact hxs
 have hGn : H.length ≤ G2.length := lw.2
 have fin : ∀ (A : AH) (L0 L1 : Nat) (R R1 : List (List Value)), G2.length ≤ L0 → L0 < L1 → Low G2.length G2 A → hget A L0 = some ⟨R.flatten, 60, some 104⟩ → hget A L1 = some ⟨R1.flatten, 60, some 104⟩ → NewRowsH (L0 + 1) A R l → NewRowsH (L1 + 1) A R1 [x] → ∃ v' H', xappend Try.prog H.length 58 (.slice (some ⟨L0, 0, none⟩) l.length l.length) (.slice (some ⟨L1, 0, none⟩) 1 1) A = some (v', H') ∧ notTuple v' = true ∧ v'.cells = #[v'] ∧ Low H.length H H' ∧ NewGH H.length H' v' (l ++ [x]) := fun A L0 L1 R R1 g1 g2 g3 g4 g5 g6 g7 => by
  obtain ⟨v', H', h1, h2, h3, h4⟩ := held_app (nro := H.length) (n := H.length) (by omega) (by omega) g2 g4 g5 g6 g7 (by omega) hwx
  have hs := h2.sh
  exact ⟨v', H', h1, hs.1, hs.2, ⟨fun j hj => (h3 j (by omega)).trans ((g3.1 j (by omega)).trans (lw.1 j hj)), by have := g3.2; omega⟩, h2⟩
 obtain ⟨N, hc1⟩ := deepHeld_ac (nro := H.length) (γ := γ) hQG (by omega) hsm hGn
 refine aw_seq ?_
 (refine aw_ptree [0] 7 [[1, 2, 3, 4, 5, 6, 7], [2, 1, 3, 4, 5, 6, 7], [2, 3, 1, 4, 5, 6, 7]] (by kernel_rfl) (by kernel_rfl) (by kernel_rfl) (fun K hK => ?_)); simp only [sel, List.getElem?_cons_succ, List.getElem?_cons_zero]; simp (disch := first | omega | (simp only [lnS]; try omega)) [-getElem?_pos, -getElem?_neg, q0, q3, b3, hul, htu, hset2, hp0, hGn, all_zl, -notTuple, q1, q2, nt_intG, nt_aggG, nt_slG, -xappend, XO_s, XO_z, XLk_val, XLk_call, headsO, behind, List.length_cons, List.length_nil, List.mem_cons, List.not_mem_nil, or_false, forall_eq_or_imp, forall_eq, List.contains_cons, List.contains_nil]
 refine ⟨⟨by kernel_rfl, hc1.mono ?_⟩, ?_⟩
 ·rintro v G3 ⟨rfl, hN, lw3, R, hR, bR⟩
  have b33 := (lw3.1 _ (hget_lt b3)).trans b3
  have hle3 := lw3.2
  have hn3 : H.length ≤ G3.length := by omega
  simp (disch := first | omega | (simp only [lnS]; try omega)) [-getElem?_pos, -getElem?_neg, b33, hul, htu, hp0, hset2, -notTuple, nt_slG, nt_aggG, hn3, -xappend, XO_s, XO_z, XLk_val, XLk_call, headsO, behind, List.length_cons, List.length_nil, List.mem_cons, List.not_mem_nil, or_false, forall_eq_or_imp, forall_eq, List.contains_cons, List.contains_nil]
  obtain ⟨lw4, b4⟩ := boxed2 (H := G3) us 60 104
  have hle4 := lw4.2
  have hlt4 := hget_lt b4
  generalize G3 ++ [some ⟨us, 60, some 104⟩] = G4 at *
  obtain ⟨N2, hc2⟩ := deepHeld_ac (nro := H.length) (γ := γ) (hone G4 G3.length (lw3.both lw4) b4) (by simp) hsx (by omega)
  refine ⟨by kernel_rfl, hc2.mono ?_⟩
  rintro v G5 ⟨rfl, hN2, lw5, R1, hR1, bR1⟩
  have hle5 := lw5.2
  have lw35 := lw4.both lw5
  obtain ⟨v', H', hap, s1, s2, hL, hnew⟩ := fin G5 G2.length G4.length R R1 (Nat.le_refl _) (by omega) (lw3.both lw35) ((lw35.1 _ (hget_lt bR)).trans bR) bR1 (hR.keep (fun j _ hj => lw35.1 j hj) lw35.2) hR1
  try simp (disch := first | omega | (simp only [lnS]; try omega)) [-getElem?_pos, -getElem?_neg, -xappend, hap, -notTuple, s1, s2, nt_slG, nt_aggG, XO_s, XO_z, XLk_val, XLk_call, headsO, behind, List.length_cons, List.length_nil, List.mem_cons, List.not_mem_nil, or_false, forall_eq_or_imp, forall_eq, List.contains_cons, List.contains_nil]
  refine hK _ _ ?_; clear hK K
  (refine aw_ret ?_; simp (disch := first | omega | (simp only [lnS]; try omega)) [-getElem?_pos, -getElem?_neg, thenQ_ret, scopeQ_ret, inBlockQ_ret, RQ, resL, resV])
  exact ⟨_, ⟨s1, rfl⟩, hL, v', by rw [k0], hnew⟩
 refine ⟨⟨by kernel_rfl, hc1.mono ?_⟩, ?_⟩
 ·rintro v G3 ⟨rfl, hN, lw3, R, hR, bR⟩
  have hle3 := lw3.2
  have hn3 : H.length ≤ G3.length := by omega
  try simp (disch := first | omega | (simp only [lnS]; try omega)) [-getElem?_pos, -getElem?_neg, hset2, -notTuple, nt_slG, nt_aggG, hn3, -xappend, XO_s, XO_z, XLk_val, XLk_call, headsO, behind, List.length_cons, List.length_nil, List.mem_cons, List.not_mem_nil, or_false, forall_eq_or_imp, forall_eq, List.contains_cons, List.contains_nil]
  obtain ⟨lw4, b4⟩ := boxed2 (H := G3) us 60 104
  have hle4 := lw4.2
  have hlt4 := hget_lt b4
  generalize G3 ++ [some ⟨us, 60, some 104⟩] = G4 at *
  obtain ⟨N2, hc2⟩ := deepHeld_ac (nro := H.length) (γ := γ) (hone G4 G3.length (lw3.both lw4) b4) (by simp) hsx (by omega)
  refine ⟨by kernel_rfl, hc2.mono ?_⟩
  rintro v G5 ⟨rfl, hN2, lw5, R1, hR1, bR1⟩
  have hle5 := lw5.2
  have lw35 := lw4.both lw5
  obtain ⟨v', H', hap, s1, s2, hL, hnew⟩ := fin G5 G2.length G4.length R R1 (Nat.le_refl _) (by omega) (lw3.both lw35) ((lw35.1 _ (hget_lt bR)).trans bR) bR1 (hR.keep (fun j _ hj => lw35.1 j hj) lw35.2) hR1
  try simp (disch := first | omega | (simp only [lnS]; try omega)) [-getElem?_pos, -getElem?_neg, -xappend, hap, -notTuple, s1, s2, nt_slG, nt_aggG, XO_s, XO_z, XLk_val, XLk_call, headsO, behind, List.length_cons, List.length_nil, List.mem_cons, List.not_mem_nil, or_false, forall_eq_or_imp, forall_eq, List.contains_cons, List.contains_nil]
  refine hK _ _ ?_; clear hK K
  (refine aw_ret ?_; simp (disch := first | omega | (simp only [lnS]; try omega)) [-getElem?_pos, -getElem?_neg, thenQ_ret, scopeQ_ret, inBlockQ_ret, RQ, resL, resV])
  exact ⟨_, ⟨s1, rfl⟩, hL, v', by rw [k0], hnew⟩
 ·obtain ⟨lw3, b4⟩ := boxed2 (H := G2) us 60 104
  have hle3 := lw3.2
  have hlt4 := hget_lt b4
  try simp (disch := first | omega | (simp only [lnS]; try omega)) [-getElem?_pos, -getElem?_neg, hset2, -xappend, XO_s, XO_z, XLk_val, XLk_call, headsO, behind, List.length_cons, List.length_nil, List.mem_cons, List.not_mem_nil, or_false, forall_eq_or_imp, forall_eq, List.contains_cons, List.contains_nil]
  generalize G2 ++ [some ⟨us, 60, some 104⟩] = G3 at *
  obtain ⟨N3, hc3⟩ := deepHeld_ac (nro := H.length) (γ := γ) (hQG.lowG lw3) (by omega) hsm (show H.length ≤ G3.length by omega)
  refine ⟨by kernel_rfl, hc3.mono ?_⟩
  rintro v G4 ⟨rfl, hN, lw4, R, hR, bR⟩
  have hle4 := lw4.2
  have b44 := (lw4.1 _ hlt4).trans b4
  obtain ⟨N2, hc2⟩ := deepHeld_ac (nro := H.length) (γ := γ) (hone G4 G2.length (lw3.both lw4) b44) (by simp) hsx (by omega)
  try simp (disch := first | omega | (simp only [lnS]; try omega)) [-getElem?_pos, -getElem?_neg, -notTuple, nt_slG, nt_aggG, -xappend, XO_s, XO_z, XLk_val, XLk_call, headsO, behind, List.length_cons, List.length_nil, List.mem_cons, List.not_mem_nil, or_false, forall_eq_or_imp, forall_eq, List.contains_cons, List.contains_nil]
  refine ⟨by kernel_rfl, hc2.mono ?_⟩
  rintro v G5 ⟨rfl, hN2, lw5, R1, hR1, bR1⟩
  have hle5 := lw5.2
  have g3l := hget_lt bR
  obtain ⟨v', H', hap, s1, s2, hL, hnew⟩ := fin G5 G3.length G4.length R R1 (by omega) (by omega) ((lw3.both lw4).both lw5) ((lw5.1 _ (hget_lt bR)).trans bR) bR1 (hR.keep (fun j _ hj => lw5.1 j hj) lw5.2) hR1
  try simp (disch := first | omega | (simp only [lnS]; try omega)) [-getElem?_pos, -getElem?_neg, -xappend, hap, -notTuple, s1, s2, nt_slG, nt_aggG, XO_s, XO_z, XLk_val, XLk_call, headsO, behind, List.length_cons, List.length_nil, List.mem_cons, List.not_mem_nil, or_false, forall_eq_or_imp, forall_eq, List.contains_cons, List.contains_nil]
  refine hK _ _ ?_; clear hK K
  (refine aw_ret ?_; simp (disch := first | omega | (simp only [lnS]; try omega)) [-getElem?_pos, -getElem?_neg, thenQ_ret, scopeQ_ret, inBlockQ_ret, RQ, resL, resV])
  exact ⟨_, ⟨s1, rfl⟩, hL, v', by rw [k0], hnew⟩
end
section
theorem ownF_app {P : Program} {nro : Nat} {t e : TypeId} {H : AH} {v x : Value} {sz : Nat} {cells news : List Value} {F : List Nat} (hu : und P t = .slice e) (hs : szt P e = sz) (h0 : 0 < sz) (hz : (zer P e).map (·.cells.size) = some sz)
  (hv : OwnF H v e sz cells F) (hnro : ∀ j ∈ F, nro ≤ j) (hstr : ∀ s, x ≠ .string s) (hx : xcells sz x H = some news) (hd : news.length % sz = 0) (hb : (cells.length + news.length) * byt P e ≤ 140737488355328) (hm : cells.length + news.length ≤ maxLen) :
  ∃ v' H' F', xappend P nro t v x H = some (v', H') ∧ OwnF H' v' e sz (cells ++ news) F' ∧ H.length ≤ H'.length ∧ (∀ j, j < H.length → j ∉ F → hget H' j = hget H j) ∧ ∀ j ∈ F', H.length ≤ j := by
 by_cases hn : news = []
 ·subst hn
  rcases hv with ⟨rfl, rfl, rfl⟩ | ⟨j, len, rfl, h3, h4, rfl⟩
  ·refine ⟨.slice none 0 0, H, [], ?_, .inl ⟨rfl, rfl, rfl⟩, Nat.le_refl _, fun _ _ _ => rfl, fun j hj => (by cases hj)⟩
   subst hs
   unfold xappend
   cases x <;> first | (exact absurd rfl (hstr _)) | (simp only [hu, hx]; rw [if_pos ⟨h0, hz, by simp, by simp⟩]; first | rw [if_pos rfl] | rw [if_pos trivial])
  ·subst hs
   have hj := hget_lt h3
   refine ⟨.slice (some ⟨H.length, 0, none⟩) len len, H.set j none ++ [some ⟨cells, e, some (szt P e)⟩], [H.length], ?_, .inr ⟨H.length, len, rfl, ?_, by simpa using h4, rfl⟩, by simp, fun i hi hni => ?_, fun j hj => by simp at hj; omega⟩
   ·have hc : True ∧ 0 < szt P e ∧ (zer P e).map (·.cells.size) = some (szt P e) ∧ nro ≤ j ∧ True ∧ True ∧ len * szt P e ≤ cells.length ∧ (len * szt P e + 0) * byt P e ≤ 140737488355328 ∧ len * szt P e + 0 ≤ maxLen :=
     ⟨trivial, h0, hz, hnro j (by simp), trivial, trivial, by omega, by rw [← h4]; exact hb, by rw [← h4]; exact hm⟩
    have e2 : cells.take (len * szt P e) = cells := List.take_of_length_le (by omega)
    unfold xappend
    cases x <;> first | (exact absurd rfl (hstr _)) | (simp only [hu, hx, h3, List.length_nil]; rw [if_pos hc, e2]; simp)
   ·have : (H.set j none).length = H.length := by simp
    rw [← this, hget_app0, hget_cons0, List.append_nil]
   ·rw [hget_left (by simp; omega), hget_set_ne (fun e => hni (by simp [e]))]
 ·obtain ⟨v', H', h1, h2, h3, h4⟩ := ownF_append (P := P) (nro := nro) (t := t) hu hs h0 hz hv hnro hstr hx hn hd hb hm
  exact ⟨v', H', _, h1, h2, by omega, h4, fun j hj => by simp at hj; omega⟩
end
section
theorem rows_flat (C : List Value) (n : Nat) (h : n * 104 ≤ C.length) : ((List.range n).map fun i => (C.drop (i * 104)).take 104).flatten = C.take (n * 104) := by
 induction n with
 | zero => simp
 | succ n ih =>
  rw [List.range_succ, List.map_append, List.flatten_append, ih (by omega)]
  have e : (n + 1) * 104 = n * 104 + 104 := by omega
  rw [e, List.take_add]
  simp
def RAddQ (l : List NodeD) (id : List Int) (o : OpD) (H0 H : AH) (v' : Value) (H' : AH) : Prop :=
 Low H.length H H' ∧ ∃ sv, v' = .tuple #[sv, .int .i64 (addE l id o)] ∧ ((addE l id o = 0 ∧ ∀ G, Low H0.length H0 G → KeepN H.length H' G → NdV G sv (l ++ [addD l id o])) ∨ (addE l id o ≠ 0 ∧ sv = .slice none 0 0))
theorem RAddQ.bad {l : List NodeD} {id : List Int} {o : OpD} {H0 H H' : AH} {z : Int} (hl : Low H.length H H') (h : addE l id o = z) (hz : z ≠ 0) : RAddQ l id o H0 H (.tuple #[.slice none 0 0, .int .i64 z]) H' :=
 ⟨hl, _, by rw [h], .inr ⟨by rw [h]; exact hz, rfl⟩⟩
end
section
theorem helds_cells {H : AH} {v : Value} {l : List HeldD} (h : HdV H v l) (hw : ∀ x ∈ l, x.Wf) : ∃ R : List (List Value), R.length = l.length ∧ (∀ (k : Nat) (us : List Value) (x : HeldD), R[k]? = some us → l[k]? = some x → us.length = 104 ∧ ∀ G, Low H.length H G → ValL G x.row us) ∧ ∀ G, Low H.length H G → xcells 104 v G = some R.flatten := by
 have hN := h.hda hw
 have h2 := h
 unfold HdV at h
 generalize hd : CD.sl (l.map HeldD.row) = d at h
 cases h with
 | int => cases hd
 | str => cases hd
 | bool => cases hd
 | @nil a ha =>
  injection hd with hd
  have hl : l = [] := List.map_eq_nil_iff.1 hd
  subst hl
  refine ⟨[], rfl, fun k us x h => by simp at h, fun G hG => ?_⟩
  cases a with
  | none => rfl
  | some y =>
   obtain ⟨j, off, spot⟩ := y
   have hsp : spot = some 0 := ha _ rfl
   subst hsp
   rfl
 | @sl sz j b rows h1 h2' h3 h4 =>
  injection hd with hd
  subst hd
  have hle : l.length * 104 ≤ b.cells.length := by
   cases l with
   | nil => simp
   | cons x0 l0 =>
    have e1 := h3 x0.row (by simp)
    rw [held_row_len (hw x0 (by simp))] at e1
    subst e1
    simpa using h2'
  refine ⟨(List.range l.length).map fun i => (b.cells.drop (i * 104)).take 104, by simp, fun k us x hk hx => ?_, fun G hG => ?_⟩
  ·have hkl := (List.getElem?_eq_some_iff.1 hx).1
   rw [List.getElem?_map, List.getElem?_range hkl] at hk
   cases hk
   obtain ⟨j', b', us, hv, hb, hle', hx', hus, hul, hle2, hc, hval⟩ := val_at (P := Try.prog) (t := 58) (e := 60) (sz := 104) h2 (by kernel_rfl) (by kernel_rfl) (by omega) (fun row hr => by
    obtain ⟨y, hy, rfl⟩ := List.mem_map.1 hr
    exact held_row_len (hw y hy)) (i := k) (row := x.row) (by rw [List.getElem?_map, hx]; rfl)
   cases hv
   rw [h1] at hb
   cases hb
   refine ⟨by rw [hus] at hul; exact hul, fun G hG => ?_⟩
   have := hval.low (H' := G) hG.1
   rw [hus] at this
   exact this
  ·have hg := (hG.1 j (hget_lt h1)).trans h1
   rw [rows_flat _ _ hle, List.length_map]
   unfold xcells
   simp only [hg]
   rw [if_pos (by omega), List.drop_zero]
def RPutQ (l : List HeldD) (x : HeldD) (H0 H : AH) (v' : Value) (H' : AH) : Prop :=
 Low H.length H H' ∧ ∃ sv, v' = .tuple #[sv, .int .i64 (putE l x)] ∧ notTuple sv = true ∧ sv.cells = #[sv] ∧ ((putE l x = 0 ∧ ∀ G, Low H0.length H0 G → KeepN H.length H' G → HdV G sv (l ++ [x])) ∨ (putE l x ≠ 0 ∧ sv = .slice none 0 0))
theorem RPutQ.bad {l : List HeldD} {x : HeldD} {H0 H H' : AH} {z : Int} (hl : Low H.length H H') (h : putE l x = z) (hz : z ≠ 0) : RPutQ l x H0 H (.tuple #[.slice none 0 0, .int .i64 z]) H' :=
 ⟨hl, _, by rw [h], rfl, rfl, .inr ⟨by rw [h]; exact hz, rfl⟩⟩
attribute [local simp] wb_bool wb_undef with_lit XL_nil XL_cons XLc_val XLc_call step1_eq stepW_t stepW_f stepC_n stepC_s stepX_s stepX_n stepN_s calleeX xrecv oneV xop_eq xopR_s xopR_n wantedA_eq wantedG_n wantedG_s plain1_int plain1_bool plain1_string bits_i64 bits_u64 bits_u32 bits_u16 bits_u8 xeqA xagg xcmp xarr allK_iv num_iv calleeOf xread xeff xbin xint xnil xun xstr xload xconv xpart xfield xfieldAddr xindexAddr xindex bnd asInt? xslice xlen xmin xmax xbuild xfill xappend xapp2 xappstr xappmk xcap xcopy xcells eval_tmp eval_const put_at put_none fr0_at cells_agg cells_int cells_bool cells_string cells_ptr cells_slice notTuple tab iv_all hget_app hget_app0 hget_cons0 hget_cons set_app set_app0 setR setR_one QL_nil QL_cons QLc_val stepQ_t stepQ_f stepQC_n stepQC_s stepQX_s SL_nil SL_cons SLc_val stepS_t stepS_f ltT ltF leT leF eqT eqF ltTn ltFn leTn leFn eqTn eqFn beqT beqF bneT bneF wi64 wu64 wu32 wu16 wu8 tmodP tdivP hgetL hgetNe hgetEq setL nums_def nums_len Nat.succ_le_of_lt List.getElem?_cons_zero List.getElem?_cons_succ Option.getD_some Int.toNat_add Int.toNat_mul agM okM agB agI agS agP agL agA okB okI okS okP okSl okA
theorem qrPut_rc {γ : Nat → Option Nat} {H0 H : AH} {qv : Value} {l : List HeldD} {us : List Value} {x : HeldD} {pv wv bv kv : Value} (hV : HdV H0 qv l) (hwf : ∀ y ∈ l, y.Wf) (hC0 : HdC H0 us x pv wv bv kv) (hw : x.Wf) (hl : l.length ≤ maxLen) (hH : Low H0.length H0 H) : AC Try.prog H.length γ 38 #[qv, .agg us.toArray] H (RPutQ l x H0 H) := by
 have hQ := (hV.hda hwf).lowG hH
 have hC := hC0.low hH.1
 obtain ⟨R, hRl, hR, hRx⟩ := helds_cells hV hwf
 have q1 := hQ.nt
 have q2 := hQ.cs
 have hxl := hQ.len
 have hul := hC.len
 have hset : ∀ Z : List Value, Z.length = 104 → setR Z 0 us = us := fun Z hZ => setR_all _ _ (by omega)
 have hset2 : ∀ g : Nat → Value, setR (List.map g (List.range 104)) 0 us = us := fun g => hset _ (by simp)
 have hp0 : plain1 (.slice none 0 0) = true := rfl
 have htu : us.take 104 = us := List.take_of_length_le (by omega)
 have hivl : (iv .u8 x.id).length = 32 := by rw [iv_length, hw.id.1]
 have hid := hC.id
 have hcop := hC.op.len
 have k0 : putE l x = if (rightQ l && rightO x.op) = false then 1 else if 0 ≤ findIH l l.length x.id then 13 else if l.length = 24 then 8 else 0 := rfl
 refine ac_of_aw Try.func38 rfl Try.ntmps38 Try.results38 (by simp) ?_
 refine aw_seq ?_
 (refine aw_ops (by kernel_rfl) (fun K hK => ?_); simp (disch := first | omega | (simp only [lnS]; try omega)) [-getElem?_pos, -getElem?_neg, -notTuple, q1, q2, hul, nt_aggG, hp0, all_zl, hset, htu]; refine hK _ _ ?_; clear hK K)
 obtain ⟨lw, b3⟩ := boxed (H := H) us 60
 obtain ⟨n, hn0⟩ : ∃ n, n = H.length := ⟨_, rfl⟩
 have gl : (H ++ ([some ⟨us, 60, none⟩] : AH)).length = n + 1 := by simp [hn0]
 rw [← hn0] at b3 lw ⊢
 have hH2 := hH.2
 generalize H ++ [some ⟨us, 60, none⟩] = G at *
 have hQG := hQ.lowG (hn0 ▸ lw)
 have hCG : HdC G us x pv wv bv kv := hC.low (fun j hj => lw.1 j (by omega))
 have qr := qrRight_rc (γ := γ) hQG hl
 have ro := rRight_rc (γ := γ) hCG.op hw.op
 rw [refO_eq] at ro
 have fi := qrFind_rc (γ := γ) hQG hl hw.id.1
 refine aw_seq ?_
 refine aw_seq ?_
 refine aw_cut (fun α G2 => α 15 = .bool (!(rightQ l && rightO x.op)) ∧ α 0 = qv ∧ α 3 = .pointer (some ⟨n, 0, none⟩) ∧ G2 = G) ?_ ?_
 ·refine aw_ops (by kernel_rfl) (fun K hK => ?_)
  simp (disch := first | omega | (simp only [lnS]; try omega)) [-getElem?_pos, -getElem?_neg, -notTuple, q1, q2, nt_intG]
  refine ⟨by kernel_rfl, ac_of_rc qr (by simp [pv_iv, pv_int, pv_bool, pv_string, pv_tup2, pv_tup3, iv_plain, p2_int, p2_bool, p2_string]) ?_⟩
  cases hq : rightQ l with
  | false =>
   try simp (disch := first | omega | (simp only [lnS]; try omega)) [-getElem?_pos, -getElem?_neg]
   refine hK _ _ ?_; clear hK K
   exact ⟨by rw [hq]; (first | (simp [put_at, put_none, fr0_at]; done) | rfl), by (first | (simp [put_at, put_none, fr0_at]; done) | rfl), by (first | (simp [put_at, put_none, fr0_at]; done) | rfl), rfl⟩
  | true =>
   simp (disch := first | omega | (simp only [lnS]; try omega)) [-getElem?_pos, -getElem?_neg, b3, hul, hcop, nt_intG, nt_aggG]
   refine ⟨by kernel_rfl, ac_of_rc ro (by simp [pv_iv, pv_int, pv_bool, pv_string, pv_tup2, pv_tup3, iv_plain, p2_int, p2_bool, p2_string]) ?_⟩
   try simp (disch := first | omega | (simp only [lnS]; try omega)) [-getElem?_pos, -getElem?_neg]
   refine hK _ _ ?_; clear hK K
   exact ⟨by rw [hq]; (first | (simp [put_at, put_none, fr0_at]; done) | rfl), by (first | (simp [put_at, put_none, fr0_at]; done) | rfl), by (first | (simp [put_at, put_none, fr0_at]; done) | rfl), rfl⟩
 rintro α G2 ⟨q15, q0, q3, rfl⟩
 cases hb : (rightQ l && rightO x.op) with
 | false =>
  rw [hb] at q15
  refine aw_t (by (first | (simp [eval_tmp, put_at, q15]; done) | (simp [eval_tmp, put_at, q15]; omega))) (by kernel_rfl) ?_
  refine aw_seq ?_
  (refine aw_ops (by kernel_rfl) (fun K hK => ?_); simp (disch := first | omega | (simp only [lnS]; try omega)) [-getElem?_pos, -getElem?_neg, nt_slG, nt_intG]; refine hK _ _ ?_; clear hK K)
  (refine aw_ret ?_; simp (disch := first | omega | (simp only [lnS]; try omega)) [-getElem?_pos, -getElem?_neg, thenQ_ret, scopeQ_ret, inBlockQ_ret, RQ, resL, resV])
  exact RPutQ.bad (hn0 ▸ lw) (by rw [k0, hb, if_pos rfl]) (by decide)
 | true =>
 rw [hb] at q15
 rw [hb, if_neg (by simp)] at k0
 refine aw_f (by (first | (simp [eval_tmp, put_at, q15]; done) | (simp [eval_tmp, put_at, q15]; omega))) (by kernel_rfl) ?_
 refine aw_skip ?_
 obtain ⟨hq, hro⟩ := Bool.and_eq_true_iff.1 hb
 refine aw_seq ?_
 refine aw_seq ?_
 refine aw_ops (by kernel_rfl) (fun K hK => ?_)
 simp (disch := first | omega | (simp only [lnS]; try omega)) [-getElem?_pos, -getElem?_neg, q0, q3, b3, hul, hid, hivl, -notTuple, q1, q2, nt_intG, nt_aggG]
 refine ⟨by kernel_rfl, ac_of_rc fi (by simp [pv_iv, pv_int, pv_bool, pv_string, pv_tup2, pv_tup3, iv_plain, p2_int, p2_bool, p2_string]) ?_⟩
 generalize findIH l l.length x.id = f at *
 by_cases hf : 0 ≤ f
 ·rw [if_pos hf] at k0
  try simp (disch := first | omega | (simp only [lnS]; try omega)) [-getElem?_pos, -getElem?_neg, hf]
  refine hK _ _ ?_; clear hK K
  refine aw_t (by (first | (simp [eval_tmp, put_at]; done) | (simp [eval_tmp, put_at]; omega))) (by kernel_rfl) ?_
  refine aw_seq ?_
  (refine aw_ops (by kernel_rfl) (fun K hK => ?_); simp (disch := first | omega | (simp only [lnS]; try omega)) [-getElem?_pos, -getElem?_neg, nt_slG, nt_intG]; refine hK _ _ ?_; clear hK K)
  (refine aw_ret ?_; simp (disch := first | omega | (simp only [lnS]; try omega)) [-getElem?_pos, -getElem?_neg, thenQ_ret, scopeQ_ret, inBlockQ_ret, RQ, resL, resV])
  exact RPutQ.bad (hn0 ▸ lw) k0 (by decide)
 rw [if_neg hf] at k0
 try simp (disch := first | omega | (simp only [lnS]; try omega)) [-getElem?_pos, -getElem?_neg, hf]
 refine hK _ _ ?_; clear hK K
 refine aw_f (by (first | (simp [eval_tmp, put_at]; done) | (simp [eval_tmp, put_at]; omega))) (by kernel_rfl) ?_
 refine aw_skip ?_
 refine aw_seq ?_
 refine aw_seq ?_
 by_cases h24 : l.length = 24
 ·have h24b : ((l.length : Int) == 24) = true := by rw [beq_iff_eq]; omega
  have h24i : (l.length : Int) = 24 := by omega
  rw [if_pos h24] at k0
  (refine aw_ops (by kernel_rfl) (fun K hK => ?_); simp (disch := first | omega | (simp only [lnS]; try omega)) [-getElem?_pos, -getElem?_neg, q0, -notTuple, q1, q2, nt_intG, -xlen, hxl, h24i, h24b]; refine hK _ _ ?_; clear hK K)
  refine aw_t (by (first | (simp [eval_tmp, put_at]; done) | (simp [eval_tmp, put_at]; omega))) (by kernel_rfl) ?_
  refine aw_seq ?_
  (refine aw_ops (by kernel_rfl) (fun K hK => ?_); simp (disch := first | omega | (simp only [lnS]; try omega)) [-getElem?_pos, -getElem?_neg, nt_slG, nt_intG]; refine hK _ _ ?_; clear hK K)
  (refine aw_ret ?_; simp (disch := first | omega | (simp only [lnS]; try omega)) [-getElem?_pos, -getElem?_neg, thenQ_ret, scopeQ_ret, inBlockQ_ret, RQ, resL, resV])
  exact RPutQ.bad (hn0 ▸ lw) k0 (by decide)
 have h24b : ((l.length : Int) == 24) = false := by rw [beq_eq_false_iff_ne]; omega
 have h24i : ¬ (l.length : Int) = 24 := by omega
 rw [if_neg h24] at k0
 (refine aw_ops (by kernel_rfl) (fun K hK => ?_); simp (disch := first | omega | (simp only [lnS]; try omega)) [-getElem?_pos, -getElem?_neg, q0, -notTuple, q1, q2, nt_intG, -xlen, hxl, h24i, h24b]; refine hK _ _ ?_; clear hK K)
 refine aw_f (by (first | (simp [eval_tmp, put_at]; done) | (simp [eval_tmp, put_at]; omega))) (by kernel_rfl) ?_
 refine aw_skip ?_
 have hl24 := rightQ_len hq
 have hRlen : ∀ r ∈ R, r.length = 104 := fun r hr' => by
  obtain ⟨k, hk⟩ := List.getElem?_of_mem hr'
  have hkl := (List.getElem?_eq_some_iff.1 hk).1
  exact (hR k r _ hk (List.getElem?_eq_getElem (show k < l.length by omega))).1
 have hRf := fl_len hRlen
 rw [hRl] at hRf
 have hnvs : ∀ s, qv ≠ .string s := fun s e => by rw [e] at hxl; simp [xlen] at hxl
 have hln1 := lw.2
 have hlH0 : Low H0.length H0 G2 := ⟨fun j hj => (lw.1 j (by omega)).trans (hH.1 j hj), by omega⟩
 obtain ⟨w1, A1, F1, ap1, o1, le1, kp1, nf1⟩ := ownF_app (P := Try.prog) (nro := n) (t := 58) (e := 60) (H := G2) (v := .slice none 0 0) (x := qv) (sz := 104) (cells := []) (news := R.flatten) (F := []) (by simp) (by simp) (by omega) (by simp) (.inl ⟨rfl, rfl, rfl⟩) (fun j hj => by cases hj) hnvs (hRx G2 hlH0) (by rw [hRf]; omega) (by rw [hRf]; simp; omega) (by rw [hRf]; simp only [List.length_nil, maxLen]; omega)
 rw [List.nil_append] at o1
 obtain ⟨w11, w12⟩ := own_nt o1
 have k3 : hget A1 n = _ := (kp1 n (by have := hget_lt b3; omega) (by simp)).trans b3
 refine aw_seq ?_
 (refine aw_ops (by kernel_rfl) (fun K hK => ?_); simp (disch := first | omega | (simp only [lnS]; try omega)) [-getElem?_pos, -getElem?_neg]; refine hK _ _ ?_; clear hK K)
 refine aw_seq ?_
 (refine aw_ops (by kernel_rfl) (fun K hK => ?_); simp (disch := first | omega | (simp only [lnS]; try omega)) [-getElem?_pos, -getElem?_neg, q0, -notTuple, q1, q2, nt_slG, -xappend, ap1]; refine hK _ _ ?_; clear hK K)
 have hxc : xcells 104 (.slice (some ⟨A1.length, 0, none⟩) 1 1) (A1 ++ [some ⟨us, 60, some 104⟩]) = some us := by simp [xcells, hget_app0, hul, htu]
 obtain ⟨w2, A2, ap2, o2, le2, kp2⟩ := ownF_append (P := Try.prog) (nro := n) (t := 58) (e := 60) (H := A1 ++ ([some ⟨us, 60, some 104⟩] : AH)) (v := w1) (x := .slice (some ⟨A1.length, 0, none⟩) 1 1) (sz := 104) (cells := R.flatten) (news := us) (F := F1) (by simp) (by simp) (by omega) (by simp) (o1.low (fun j hj => hget_left (o1.lt j hj)))
  (fun j hj => by have := nf1 j hj; omega) (fun s e => by cases e) hxc (fun e => by rw [e] at hul; simp at hul) (by rw [hul]) (by rw [hRf, hul]; simp; omega) (by rw [hRf, hul]; simp only [maxLen]; omega)
 obtain ⟨w21, w22⟩ := own_nt o2
 refine aw_seq ?_
 (refine aw_ops (by kernel_rfl) (fun K hK => ?_); simp (disch := first | omega | (simp only [lnS]; try omega)) [-getElem?_pos, -getElem?_neg, q3, k3, hul, htu, hset2, hp0, -notTuple, w11, w12, w21, w22, nt_intG, nt_slG, nt_aggG, -xappend, ap2]; refine hK _ _ ?_; clear hK K)
 (refine aw_ret ?_; simp (disch := first | omega | (simp only [lnS]; try omega)) [-getElem?_pos, -getElem?_neg, thenQ_ret, scopeQ_ret, inBlockQ_ret, RQ, resL, resV])
 have hBl : (A1 ++ ([some ⟨us, 60, some 104⟩] : AH)).length = A1.length + 1 := by simp
 rw [hBl] at o2 le2 kp2
 have kp : ∀ j, j < G2.length → hget A2 j = hget G2 j := fun j hj => (kp2 j (by omega) (fun h => by have := nf1 j h; omega)).trans ((hget_left (by omega)).trans (kp1 j hj (by simp)))
 obtain ⟨len, hw2⟩ := o2.new
 have hnew : len = l.length + 1 ∧ hget A2 (A1.length + 1) = some ⟨R.flatten ++ us, 60, some 104⟩ := by
  rcases o2 with ⟨h, _, _⟩ | ⟨i, k, he, h2, h3, _⟩
  ·rw [hw2] at h; cases h
  ·rw [hw2] at he
   cases he
   rw [List.length_append, hRf, hul] at h3
   exact ⟨by omega, h2⟩
 obtain ⟨rfl, hnew⟩ := hnew
 refine ⟨_, ⟨w21, rfl⟩, ?_⟩
 refine ⟨⟨fun j hj => (kp j (by omega)).trans (lw.1 j (by omega)), by omega⟩, w2, by rw [k0], w21, w22, .inl ⟨k0, fun D hD0 hD => ?_⟩⟩
 have hrowD : ValL D x.row us := by
  have h := hC0.low hD0.1
  rw [h.row hw]
  exact held_val h.op.parents h.op.who h.op.boxes h.got
 have hwfx : ∀ y ∈ l ++ [x], y.Wf := fun y hy => by
  rcases List.mem_append.1 hy with hy | hy
  ·exact hwf y hy
  ·rw [List.mem_singleton] at hy; subst hy; exact hw
 have hfin := rows_valH (D := D) (b := A1.length + 1) (T := 60) (es := some 104) (R := R ++ [us]) (L := l ++ [x]) (by rw [hD (A1.length + 1) (by omega) (by omega), hnew]; simp) (by simp [hRl]) hwfx (fun k us' y hk hy => by
  rcases Nat.lt_or_ge k l.length with hkl | hkl
  ·rw [List.getElem?_append_left (by rw [hRl]; exact hkl)] at hk
   rw [List.getElem?_append_left hkl] at hy
   have := hR k us' y hk hy
   exact ⟨this.1, this.2 D hD0⟩
  ·rw [List.getElem?_append_right (by rw [hRl]; exact hkl), hRl] at hk
   rw [List.getElem?_append_right hkl] at hy
   match k - l.length, hk, hy with
   | 0, hk, hy => cases hk; cases hy; exact ⟨hul, hrowD⟩)
 rw [List.length_append] at hfin
 rw [hw2]
 exact hfin
end
section
attribute [local simp] wb_bool wb_undef with_lit XL_nil XL_cons XLc_val XLc_call step1_eq stepW_t stepW_f stepC_n stepC_s stepX_s stepX_n stepN_s calleeX xrecv oneV xop_eq xopR_s xopR_n wantedA_eq wantedG_n wantedG_s plain1_int plain1_bool plain1_string bits_i64 bits_u64 bits_u32 bits_u16 bits_u8 xeqA xagg xcmp xarr allK_iv num_iv calleeOf xread xeff xbin xint xnil xun xstr xload xconv xpart xfield xfieldAddr xindexAddr xindex bnd asInt? xslice xlen xmin xmax xbuild xfill xappend xapp2 xappstr xappmk xcap xcopy xcells eval_tmp eval_const put_at put_none fr0_at cells_agg cells_int cells_bool cells_string cells_ptr cells_slice notTuple tab iv_all hget_app hget_app0 hget_cons0 hget_cons set_app set_app0 setR setR_one QL_nil QL_cons QLc_val stepQ_t stepQ_f stepQC_n stepQC_s stepQX_s SL_nil SL_cons SLc_val stepS_t stepS_f ltT ltF leT leF eqT eqF ltTn ltFn leTn leFn eqTn eqFn beqT beqF bneT bneF wi64 wu64 wu32 wu16 wu8 tmodP tdivP hgetL hgetNe hgetEq setL nums_def nums_len Nat.succ_le_of_lt List.getElem?_cons_zero List.getElem?_cons_succ Option.getD_some Int.toNat_add Int.toNat_mul agM okM agB agI agS agP agL agA okB okI okS okP okSl okA
theorem want1_rc {γ : Nat → Option Nat} {H : AH} {a b : List Int} (ha : a.length = 32) (hb : b.length = 32) : AC Try.prog H.length γ 100 #[.agg (iv .u8 a).toArray, .agg (iv .u8 b).toArray] H (fun v' _ => v' = .int .i64 (cmpL a b)) := by
 have hla : (iv .u8 a).length = 32 := by rw [iv_length, ha]
 have hlb : (iv .u8 b).length = 32 := by rw [iv_length, hb]
 refine ac_of_aw Try.func100 rfl Try.ntmps100 Try.results100 (by simp) ?_
 refine aw_seq ?_
 (refine aw_ops (by kernel_rfl) (fun K hK => ?_); simp (disch := first | omega | (simp only [lnS]; try omega)) [-getElem?_pos, -getElem?_neg, hla, hlb]; refine hK _ _ ?_; clear hK K)
 obtain ⟨G, hG⟩ : ∃ G : AH, G = H ++ [some ⟨iv .u8 a, 38, none⟩, some ⟨iv .u8 b, 38, none⟩] := ⟨_, rfl⟩
 have g0 : hget G H.length = some ⟨iv .u8 a, 38, none⟩ := by rw [hG, hget_app0]; rfl
 have g1 : hget G (H.length + 1) = some ⟨iv .u8 b, 38, none⟩ := by rw [hG, hget_app]; rfl
 rw [← hG]
 clear hG
 refine aw_seq ?_
 (refine aw_plan [] [] [0, 1, 2, 3] 4 0 (by kernel_rfl) (by kernel_rfl) (by kernel_rfl) (fun K hK => ?_)); simp only [sel, List.getElem?_cons_succ, List.getElem?_cons_zero, List.drop_succ_cons, List.drop_zero]; simp (disch := first | omega | (simp only [lnS]; try omega)) [-getElem?_pos, -getElem?_neg, g0, g1, hla, hlb, PL_nil, plainB_lit, PL_cons, PLc_val, PLc_new, stepP_t, stepP_f, stepPC_n, stepPC_s, stepPX_s, stepPX_n, stepPV_n, stepPV_s, stepPA_t, stepPA_c, stepPA_l, stepPN_s, allocOp, reloc_sl, reloc_ptr, List.map_cons, List.map_nil, List.nil_append, List.append_assoc, List.cons_append, Nat.add_assoc]
 refine PLc_call (v := .int .i64 (cmpL a b)) (by kernel_rfl) (fun L hL => ?_) (by simp [pv_iv, pv_int, pv_bool, pv_string, pv_tup2, pv_tup3, iv_plain, p2_int, p2_bool, p2_string]) ?_
 ·exact (compare_ac (hget_left' g0) (hget_left' g1) ha hb).mono fun v' H' h => h.1
 simp (disch := first | omega | (simp only [lnS]; try omega)) [-getElem?_pos, -getElem?_neg, PL_nil, plainB_lit, PL_cons, PLc_val, PLc_new, stepP_t, stepP_f, stepPC_n, stepPC_s, stepPX_s, stepPX_n, stepPV_n, stepPV_s, stepPA_t, stepPA_c, stepPA_l, stepPN_s, allocOp, reloc_sl, reloc_ptr, List.map_cons, List.map_nil, List.nil_append, List.append_assoc, List.cons_append, Nat.add_assoc]
 refine hK _ _ ?_; clear hK K
 (refine aw_ret ?_; simp (disch := first | omega | (simp only [lnS]; try omega)) [-getElem?_pos, -getElem?_neg, thenQ_ret, scopeQ_ret, inBlockQ_ret, RQ, resL, resV])
theorem want1_callable : callable Try.prog 100 = true := by kernel_rfl
theorem insertionW_ac {nro : Nat} {γ : Nat → Option Nat} {H : AH} {b n : Nat} {ids : List (List Int)} (hb : hget H b = some ⟨kr ids, 38, some 32⟩) (hn : ids.length = n) (hk : K32 ids) (hy : ∀ k ∈ ids, By k) (hnd : ids.Nodup) (hle : n ≤ 100) (hnro : nro ≤ b) :
  AC Try.prog nro γ 160 #[.slice (some ⟨b, 0, none⟩) n n, .int .i64 0, .int .i64 (n : Nat), .func (.func 100) #[] #[]] H (SortQ b ids H) := by
 have hbl := hget_lt hb
 refine ac_of_aw Try.func160 rfl Try.ntmps160 Try.results160 (by simp) ?_
 refine aw_seq ?_
 (refine aw_ops (by kernel_rfl) (fun K hK => ?_); simp (disch := first | omega | (simp only [lnS]; try omega)) [-getElem?_pos, -getElem?_neg]; refine hK _ _ ?_; clear hK K)
 refine aw_block ?_
 refine aw_loop (fun c α G => ∃ (i : Nat) (S : List (List Int)), 1 ≤ i ∧ i + c = n + 1 ∧ α 0 = .slice (some ⟨b, 0, none⟩) n n ∧ α 1 = .int .i64 0 ∧ α 2 = .int .i64 (n : Nat) ∧ α 3 = .func (.func 100) #[] #[] ∧ α 8 = .int .i64 (i : Nat) ∧ hget G b = some ⟨kr (S ++ ids.drop i), 38, some 32⟩ ∧ Oth b H G ∧ S.Perm (ids.take i) ∧ Rise S) n ?_ ?_
 ·refine ⟨1, ids.take 1, by omega, by omega, by (first | (simp [put_at, put_none, fr0_at]; done) | rfl), by (first | (simp [put_at, put_none, fr0_at]; done) | rfl), by (first | (simp [put_at, put_none, fr0_at]; done) | rfl), by (first | (simp [put_at, put_none, fr0_at]; done) | rfl), by (first | (simp [put_at, put_none, fr0_at]; done) | rfl), by rw [List.take_append_drop]; exact hb, ⟨Nat.le_refl _, fun _ _ _ => rfl⟩, .refl _, ?_⟩
  cases ids with
  | nil => exact List.Pairwise.nil
  | cons k l => simp
 rintro c α G ⟨i, S, hi1, hic, h0, h1, h2, h3, h8, hbG, hoth, hperm, hrise⟩
 refine aw_seq ?_
 refine aw_seq ?_
 by_cases hi : i < n
 case neg =>
  (refine aw_ops (by kernel_rfl) (fun K hK => ?_); simp (disch := first | omega | (simp only [lnS]; try omega)) [-getElem?_pos, -getElem?_neg, h8, h2, hi]; refine hK _ _ ?_; clear hK K)
  refine aw_f (by (first | (simp [eval_tmp, put_at, hi]; done) | (simp [eval_tmp, put_at, hi]; omega))) (by kernel_rfl) ?_
  refine aw_exit ?_
  have e1 : ids.take i = ids := List.take_of_length_le (by omega)
  have e2 : ids.drop i = [] := List.drop_of_length_le (by omega)
  rw [e1] at hperm
  rw [e2, List.append_nil, sortK_eq hperm hrise] at hbG
  exact ⟨[], _, rfl, rfl, hbG, hoth⟩
 (refine aw_ops (by kernel_rfl) (fun K hK => ?_); simp (disch := first | omega | (simp only [lnS]; try omega)) [-getElem?_pos, -getElem?_neg, h8, h2, hi]; refine hK _ _ ?_; clear hK K)
 refine aw_t (by (first | (simp [eval_tmp, put_at, hi]; done) | (simp [eval_tmp, put_at, hi]; omega))) (by kernel_rfl) ?_
 refine aw_skip ?_
 refine aw_seq ?_
 refine aw_block ?_
 refine aw_seq ?_
 (refine aw_ops (by kernel_rfl) (fun K hK => ?_); simp (disch := first | omega | (simp only [lnS]; try omega)) [-getElem?_pos, -getElem?_neg, h8]; refine hK _ _ ?_; clear hK K)
 obtain ⟨x, hx⟩ : ∃ x, ids[i]? = some x := ⟨_, List.getElem?_eq_getElem (by omega)⟩
 have hxm := List.mem_of_getElem? hx
 have hx32 := hk x hxm
 have hxb := hy x hxm
 have hdi : ids.drop i = x :: ids.drop (i + 1) := by
  obtain ⟨hl, e⟩ := List.getElem?_eq_some_iff.1 hx
  rw [List.drop_eq_getElem_cons hl, e]
 have htk : ids.take (i + 1) = ids.take i ++ [x] := by rw [List.take_add_one, hx]; rfl
 have hSl : S.length = i := by rw [hperm.length_eq, List.length_take]; omega
 have hSm : ∀ s ∈ S, s ∈ ids := fun s hs => List.mem_of_mem_take (hperm.mem_iff.1 hs)
 have hxS : x ∉ S := fun h => by
  have h2 := hperm.mem_iff.1 h
  have hnd2 : (ids.take i ++ [x]).Nodup := by rw [← htk]; exact hnd.sublist (List.take_sublist _ _)
  exact (List.pairwise_append.1 hnd2).2.2 x h2 x (by simp) rfl
 refine aw_block ?_
 refine aw_loop (fun c2 α G => c2 ≤ i ∧ α 0 = .slice (some ⟨b, 0, none⟩) n n ∧ α 1 = .int .i64 0 ∧ α 2 = .int .i64 (n : Nat) ∧ α 3 = .func (.func 100) #[] #[] ∧ α 8 = .int .i64 (i : Nat) ∧ α 9 = .int .i64 (c2 : Nat) ∧ hget G b = some ⟨kr (S.take c2 ++ x :: S.drop c2 ++ ids.drop (i + 1)), 38, some 32⟩ ∧ Oth b H G ∧ ∀ s ∈ S.drop c2, x < s) i ?_ ?_
 ·refine ⟨Nat.le_refl _, by (first | (simp [put_at, put_none, fr0_at, h0]; done) | rfl), by (first | (simp [put_at, put_none, fr0_at, h1]; done) | rfl), by (first | (simp [put_at, put_none, fr0_at, h2]; done) | rfl), by (first | (simp [put_at, put_none, fr0_at, h3]; done) | rfl), by (first | (simp [put_at, put_none, fr0_at, h8]; done) | rfl), by (first | (simp [put_at, put_none, fr0_at]; done) | rfl), ?_, hoth, ?_⟩
  ·rw [hbG, hdi, List.take_of_length_le (l := S) (by omega), List.drop_of_length_le (l := S) (by omega)]
   simp
  ·rw [List.drop_of_length_le (l := S) (by omega)]
   simp
 rintro j α G ⟨hji, h0, h1, h2, h3, h8, h9, hbG, hoth, hgt⟩
 have hLm : ∀ k ∈ S.take j ++ x :: S.drop j ++ ids.drop (i + 1), k ∈ ids := fun k hm => by
  simp only [List.mem_append, List.mem_cons] at hm
  rcases hm with (hm | rfl | hm) | hm
  ·exact hSm k (List.mem_of_mem_take hm)
  ·exact hxm
  ·exact hSm k (List.mem_of_mem_drop hm)
  ·exact List.mem_of_mem_drop hm
 have hLk : K32 (S.take j ++ x :: S.drop j ++ ids.drop (i + 1)) := fun k hm => hk k (hLm k hm)
 have hLn : (S.take j ++ x :: S.drop j ++ ids.drop (i + 1)).length = n := by simp; omega
 have hLj : (S.take j ++ x :: S.drop j ++ ids.drop (i + 1))[j]? = some x := by
  rw [List.append_assoc, List.getElem?_append_right (by rw [List.length_take]; omega), List.length_take]
  rw [show j - min j S.length = 0 by omega]
  rfl
 have hend : ∀ s, j ≠ 0 → S[j - 1]? = some s → ¬ x < s → True := fun _ _ _ _ => trivial
 refine aw_seq ?_
 refine aw_seq ?_
 have hexit : (∀ s, j ≠ 0 → S[j - 1]? = some s → ¬ x < s) → (S.take j ++ x :: S.drop j).Perm (ids.take (i + 1)) ∧ Rise (S.take j ++ x :: S.drop j) := fun hle => by
  refine ⟨?_, rise_put hrise (by omega) hgt hle hxS⟩
  rw [htk]
  exact (put_perm x j).trans (hperm.append_right _)
 by_cases hj0 : j = 0
 ·subst hj0
  obtain ⟨hp2, hr2⟩ := hexit (fun s h => absurd rfl h)
  (refine aw_plan [] [] [0, 1, 2, 3, 4, 5, 6, 7, 8, 9, 10, 11, 12, 13, 14, 15, 16] 17 0 (by kernel_rfl) (by kernel_rfl) (by kernel_rfl) (fun K hK => ?_)); simp only [sel, List.getElem?_cons_succ, List.getElem?_cons_zero, List.drop_succ_cons, List.drop_zero]; simp (disch := first | omega | (simp only [lnS]; try omega)) [-getElem?_pos, -getElem?_neg, h9, h1, PL_nil, plainB_lit, PL_cons, PLc_val, PLc_new, stepP_t, stepP_f, stepPC_n, stepPC_s, stepPX_s, stepPX_n, stepPV_n, stepPV_s, stepPA_t, stepPA_c, stepPA_l, stepPN_s, allocOp, reloc_sl, reloc_ptr, List.map_cons, List.map_nil, List.nil_append, List.append_assoc, List.cons_append, Nat.add_assoc]
  refine hK _ _ ?_; clear hK K
  refine aw_f (by (first | (simp [eval_tmp, put_at]; done) | (simp [eval_tmp, put_at]; omega))) (by kernel_rfl) ?_
  refine aw_exit ?_
  (refine aw_ops (by kernel_rfl) (fun K hK => ?_); simp (disch := first | omega | (simp only [lnS]; try omega)) [-getElem?_pos, -getElem?_neg, h8]; refine hK _ _ ?_; clear hK K)
  exact ⟨c - 1, by omega, i + 1, _, by omega, by omega, by (first | (simp [put_at, put_none, fr0_at, h0]; done) | rfl), by (first | (simp [put_at, put_none, fr0_at, h1]; done) | rfl), by (first | (simp [put_at, put_none, fr0_at, h2]; done) | rfl), by (first | (simp [put_at, put_none, fr0_at, h3]; done) | rfl), by (first | (simp [put_at, put_none, fr0_at]; done) | rfl), hbG, hoth, hp2, hr2⟩
 obtain ⟨s, hs⟩ : ∃ s, S[j - 1]? = some s := ⟨_, List.getElem?_eq_getElem (by omega)⟩
 have hsm := hSm s (List.mem_of_getElem? hs)
 have hs32 := hk s hsm
 have hsb := hy s hsm
 have hsub : (j : Int) - 1 = ((j - 1 : Nat) : Int) := by omega
 have hLj1 : (S.take j ++ x :: S.drop j ++ ids.drop (i + 1))[j - 1]? = some s := by
  rw [List.append_assoc, List.getElem?_append_left (by rw [List.length_take]; omega), List.getElem?_take_of_lt (by omega), hs]
 have a0 := kr_addr (b := b) (show j < n by omega)
 have a1 := kr_addr (b := b) (show j - 1 < n by omega)
 have l0 := kr_load hLk hLj hbG
 have l1 := kr_load hLk hLj1 hbG
 have hcall := want1_rc (γ := γ) (H := G) hx32 hs32
 have hlt := cmpL_lt hxb hsb (by omega)
 have hjp : 0 < j := by omega
 have hfn : notTuple (.func (.func 100) #[] #[]) = true := rfl
 have hfc : (Value.func (.func 100) #[] #[]).cells = #[.func (.func 100) #[] #[]] := rfl
 have t1 := kr_set hLk (j := j) (k := s) (by omega) hs32
 have hLk2 : K32 ((S.take j ++ x :: S.drop j ++ ids.drop (i + 1)).set j s) := fun k hm => by
  rcases List.mem_or_eq_of_mem_set hm with h | rfl
  ·exact hLk k h
  ·exact hs32
 have t2 := kr_set hLk2 (j := j - 1) (k := x) (by rw [List.length_set]; omega) hx32
 have hLs : ((S.take j ++ x :: S.drop j ++ ids.drop (i + 1)).set j s).set (j - 1) x = S.take (j - 1) ++ x :: S.drop (j - 1) ++ ids.drop (i + 1) := by
  have e1 : S.take j = S.take (j - 1) ++ [s] := by
   have := List.take_add_one (l := S) (i := j - 1)
   rwa [show j - 1 + 1 = j by omega, hs] at this
  have e2 : S.drop (j - 1) = s :: S.drop j := by
   obtain ⟨hl, e⟩ := List.getElem?_eq_some_iff.1 hs
   rw [List.drop_eq_getElem_cons hl, e, show j - 1 + 1 = j by omega]
  have e3 : (S.take (j - 1)).length = j - 1 := by rw [List.length_take]; omega
  rw [e1, e2]
  obtain ⟨A, hA⟩ : ∃ A, A = S.take (j - 1) := ⟨_, rfl⟩
  rw [← hA] at e3 ⊢
  obtain ⟨m, rfl⟩ : ∃ m, j = m + 1 := ⟨j - 1, by omega⟩
  simp only [Nat.add_sub_cancel] at e3 ⊢
  rw [List.append_assoc, List.append_assoc, List.append_assoc, List.set_append_right _ _ (by omega), List.set_append_right _ _ (by omega), e3]
  simp
 rw [hLs] at t2
 have hgl : (kr (S.take j ++ x :: S.drop j ++ ids.drop (i + 1))).length = n * 32 := by rw [kr_len hLk, hLn]
 have hgl2 : (kr ((S.take j ++ x :: S.drop j ++ ids.drop (i + 1)).set j s)).length = n * 32 := by rw [kr_len hLk2, List.length_set, hLn]
 generalize hL : S.take j ++ x :: S.drop j ++ ids.drop (i + 1) = L at t1 t2 hgl hgl2 hbG
 have hdj : S.drop (j - 1) = s :: S.drop j := by
  obtain ⟨hl, e⟩ := List.getElem?_eq_some_iff.1 hs
  rw [List.drop_eq_getElem_cons hl, e, show j - 1 + 1 = j by omega]
 generalize hL3 : S.take (j - 1) ++ x :: S.drop (j - 1) ++ ids.drop (i + 1) = L3 at t2
 (refine aw_plan [] [] [0, 1, 2, 3, 4, 5, 6, 7, 8, 9, 10, 11, 12, 13, 14, 15, 16] 17 0 (by kernel_rfl) (by kernel_rfl) (by kernel_rfl) (fun K hK => ?_)); simp only [sel, List.getElem?_cons_succ, List.getElem?_cons_zero, List.drop_succ_cons, List.drop_zero]; simp (disch := first | omega | (simp only [lnS]; try omega)) [-getElem?_pos, -getElem?_neg, h0, h1, h3, h9, hjp, hsub, hfn, hfc, nt_ptrG, nt_intG, nt_slG, -xload, l0, l1, -xindexAddr, a0, a1, PL_nil, plainB_lit, PL_cons, PLc_val, PLc_new, stepP_t, stepP_f, stepPC_n, stepPC_s, stepPX_s, stepPX_n, stepPV_n, stepPV_s, stepPA_t, stepPA_c, stepPA_l, stepPN_s, allocOp, reloc_sl, reloc_ptr, List.map_cons, List.map_nil, List.nil_append, List.append_assoc, List.cons_append, Nat.add_assoc]
 refine PLc_callV (v := .int .i64 (cmpL x s)) want1_callable (by simpa using hcall) (by simp [pv_iv, pv_int, pv_bool, pv_string, pv_tup2, pv_tup3, iv_plain, p2_int, p2_bool, p2_string]) ?_
 have hbl2 := hget_lt hbG
 by_cases hc : cmpL x s < 0
 ·have hxs : x < s := hlt.1 hc
  have hc2 : ¬ 0 ≤ cmpL x s := by omega
  simp (disch := first | omega | (simp only [lnS]; try omega)) [-getElem?_pos, -getElem?_neg, hc, hc2, PL_nil, plainB_lit, PL_cons, PLc_val, PLc_new, stepP_t, stepP_f, stepPC_n, stepPC_s, stepPX_s, stepPX_n, stepPV_n, stepPV_s, stepPA_t, stepPA_c, stepPA_l, stepPN_s, allocOp, reloc_sl, reloc_ptr, List.map_cons, List.map_nil, List.nil_append, List.append_assoc, List.cons_append, Nat.add_assoc]
  refine hK _ _ ?_; clear hK K
  refine aw_t (by (first | (simp [eval_tmp, put_at, hc]; done) | (simp [eval_tmp, put_at, hc]; omega))) (by kernel_rfl) ?_
  refine aw_skip ?_
  refine aw_seq ?_
  refine aw_block ?_
  (refine aw_plan [] [2, 3, 4] [0, 1, 5, 6, 7, 8, 9, 10, 11, 12, 13, 14] 15 3 (by kernel_rfl) (by kernel_rfl) (by kernel_rfl) (fun K hK => ?_)); simp only [sel, List.getElem?_cons_succ, List.getElem?_cons_zero, List.drop_succ_cons, List.drop_zero]; simp (disch := first | omega | (simp only [lnS]; try omega)) [-getElem?_pos, -getElem?_neg, h0, h9, hsub, nt_ptrG, nt_intG, nt_slG, nt_aggG, -xload, l0, l1, -xindexAddr, a0, a1, hbG, hgl, hgl2, hx32, hs32, iv_length, t1, t2, PL_nil, plainB_lit, PL_cons, PLc_val, PLc_new, stepP_t, stepP_f, stepPC_n, stepPC_s, stepPX_s, stepPX_n, stepPV_n, stepPV_s, stepPA_t, stepPA_c, stepPA_l, stepPN_s, allocOp, reloc_sl, reloc_ptr, List.map_cons, List.map_nil, List.nil_append, List.append_assoc, List.cons_append, Nat.add_assoc]
  refine hK _ _ ?_; clear hK K
  have hG2 : hget (G.set b (some ⟨kr L3, 38, some 32⟩)) b = some ⟨kr L3, 38, some 32⟩ := hget_set_eq hbl2
  have hoth2 : Oth b H (G.set b (some ⟨kr L3, 38, some 32⟩)) := ⟨by rw [List.length_set]; exact hoth.1, fun j hj hjb => (hget_set_ne (fun e => hjb e.symm)).trans (hoth.2 j hj hjb)⟩
  generalize G.set b (some ⟨kr L3, 38, some 32⟩) = G2 at *
  subst hL3
  (refine aw_ops (by kernel_rfl) (fun K hK => ?_); simp (disch := first | omega | (simp only [lnS]; try omega)) [-getElem?_pos, -getElem?_neg, h9, hsub]; refine hK _ _ ?_; clear hK K)
  refine ⟨j - 1, by omega, by omega, by (first | (simp [put_at, put_none, fr0_at, h0]; done) | rfl), by (first | (simp [put_at, put_none, fr0_at, h1]; done) | rfl), by (first | (simp [put_at, put_none, fr0_at, h2]; done) | rfl), by (first | (simp [put_at, put_none, fr0_at, h3]; done) | rfl), by (first | (simp [put_at, put_none, fr0_at, h8]; done) | rfl), by (first | (simp [put_at, put_none, fr0_at]; done) | rfl), hG2, hoth2, fun s' hs' => ?_⟩
  rw [hdj] at hs'
  rcases List.mem_cons.1 hs' with rfl | hs'
  ·exact hxs
  ·exact hgt s' hs'
 ·have hc2 : 0 ≤ cmpL x s := by omega
  simp (disch := first | omega | (simp only [lnS]; try omega)) [-getElem?_pos, -getElem?_neg, hc, hc2, PL_nil, plainB_lit, PL_cons, PLc_val, PLc_new, stepP_t, stepP_f, stepPC_n, stepPC_s, stepPX_s, stepPX_n, stepPV_n, stepPV_s, stepPA_t, stepPA_c, stepPA_l, stepPN_s, allocOp, reloc_sl, reloc_ptr, List.map_cons, List.map_nil, List.nil_append, List.append_assoc, List.cons_append, Nat.add_assoc]
  refine hK _ _ ?_; clear hK K
  refine aw_f (by (first | (simp [eval_tmp, put_at, hc]; done) | (simp [eval_tmp, put_at, hc]; omega))) (by kernel_rfl) ?_
  refine aw_exit ?_
  (refine aw_ops (by kernel_rfl) (fun K hK => ?_); simp (disch := first | omega | (simp only [lnS]; try omega)) [-getElem?_pos, -getElem?_neg, h8]; refine hK _ _ ?_; clear hK K)
  obtain ⟨hp2, hr2⟩ := hexit (fun s' _ h => by rw [hs] at h; cases h; exact fun h => hc (hlt.2 h))
  exact ⟨c - 1, by omega, i + 1, _, by omega, by omega, by (first | (simp [put_at, put_none, fr0_at, h0]; done) | rfl), by (first | (simp [put_at, put_none, fr0_at, h1]; done) | rfl), by (first | (simp [put_at, put_none, fr0_at, h2]; done) | rfl), by (first | (simp [put_at, put_none, fr0_at, h3]; done) | rfl), by (first | (simp [put_at, put_none, fr0_at]; done) | rfl), by rw [hL]; exact hbG, hoth, hp2, hr2⟩
theorem sortW_go {nro : Nat} {γ : Nat → Option Nat} {H : AH} {v : Value} {n : Nat} {z : Int} {Q : Value → AH → Prop} (hv : notTuple v = true ∧ v.cells = #[v]) (hle : n ≤ 12)
  (hins : AC Try.prog nro γ 160 #[v, .int .i64 0, .int .i64 (n : Nat), .func (.func 100) #[] #[]] H (fun _ G => ∀ u, Q u G)) :
  AC Try.prog nro γ 156 #[v, .int .i64 0, .int .i64 (n : Nat), .int .i64 z, .func (.func 100) #[] #[]] H (fun _ G => ∀ u, Q u G) := by
 obtain ⟨v1, v2⟩ := hv
 have hfn : notTuple (.func (.func 100) #[] #[]) = true := rfl
 have hfc : (Value.func (.func 100) #[] #[]).cells = #[.func (.func 100) #[] #[]] := rfl
 refine ac_of_aw Try.func156 rfl Try.ntmps156 Try.results156 (by simp) ?_
 refine aw_seq ?_
 (refine aw_ops (by kernel_rfl) (fun K hK => ?_); simp (disch := first | omega | (simp only [lnS]; try omega)) [-getElem?_pos, -getElem?_neg]; refine hK _ _ ?_; clear hK K)
 refine aw_seq ?_
 (refine aw_ops (by kernel_rfl) (fun K hK => ?_); simp (disch := first | omega | (simp only [lnS]; try omega)) [-getElem?_pos, -getElem?_neg]; refine hK _ _ ?_; clear hK K)
 refine aw_block ?_
 refine aw_loop (fun c α G => G = H ∧ α 0 = v ∧ α 1 = .int .i64 0 ∧ α 2 = .int .i64 (n : Nat) ∧ α 4 = .func (.func 100) #[] #[]) 1 ?_ ?_
 ·exact ⟨rfl, by (first | (simp [put_at, put_none, fr0_at]; done) | rfl), by (first | (simp [put_at, put_none, fr0_at]; done) | rfl), by (first | (simp [put_at, put_none, fr0_at]; done) | rfl), by (first | (simp [put_at, put_none, fr0_at]; done) | rfl)⟩
 rintro c α G ⟨rfl, h0, h1, h2, h4⟩
 refine aw_block ?_
 refine aw_seq ?_
 (refine aw_ops (by kernel_rfl) (fun K hK => ?_); simp (disch := first | omega | (simp only [lnS]; try omega)) [-getElem?_pos, -getElem?_neg, h1, h2]; refine hK _ _ ?_; clear hK K)
 refine aw_seq ?_
 refine aw_seq ?_
 (refine aw_ops (by kernel_rfl) (fun K hK => ?_); simp (disch := first | omega | (simp only [lnS]; try omega)) [-getElem?_pos, -getElem?_neg, hle]; refine hK _ _ ?_; clear hK K)
 refine aw_t (by (first | (simp [eval_tmp, put_at, hle]; done) | (simp [eval_tmp, put_at, hle]; omega))) (by kernel_rfl) ?_
 refine aw_seq ?_
 refine aw_ops (by kernel_rfl) (fun K hK => ?_)
 simp (disch := first | omega | (simp only [lnS]; try omega)) [-getElem?_pos, -getElem?_neg, h0, h1, h2, h4, -notTuple, v1, v2, hfn, hfc, nt_intG]
 refine ⟨by kernel_rfl, hins.mono ?_⟩
 intro u G1 hq
 try simp (disch := first | omega | (simp only [lnS]; try omega)) [-getElem?_pos, -getElem?_neg]
 refine hK _ _ ?_; clear hK K
 (refine aw_ret ?_; simp (disch := first | omega | (simp only [lnS]; try omega)) [-getElem?_pos, -getElem?_neg, thenQ_ret, scopeQ_ret, inBlockQ_ret, RQ, resL, resV])
 exact hq
theorem sortFuncW_go {nro : Nat} {γ : Nat → Option Nat} {H : AH} {v : Value} {n : Nat} {Q : Value → AH → Prop} (hv : notTuple v = true ∧ v.cells = #[v]) (hxl : xlen Try.prog 36 v = some (.int .i64 n)) (hle : n ≤ 12)
  (hins : AC Try.prog nro γ 160 #[v, .int .i64 0, .int .i64 (n : Nat), .func (.func 100) #[] #[]] H (fun _ G => ∀ u, Q u G)) :
  AC Try.prog nro γ 141 #[v, .func (.func 100) #[] #[]] H (fun _ G => ∀ u, Q u G) := by
 have hgo := fun z => sortW_go (z := z) hv hle hins
 obtain ⟨v1, v2⟩ := hv
 have hfn : notTuple (.func (.func 100) #[] #[]) = true := rfl
 have hfc : (Value.func (.func 100) #[] #[]).cells = #[.func (.func 100) #[] #[]] := rfl
 have hlen := len_rc (nro := nro) (γ := γ) (H := H) hle
 refine ac_of_aw Try.func141 rfl Try.ntmps141 Try.results141 (by simp) ?_
 refine aw_seq ?_
 (refine aw_ops (by kernel_rfl) (fun K hK => ?_); simp (disch := first | omega | (simp only [lnS]; try omega)) [-getElem?_pos, -getElem?_neg, -notTuple, v1, v2, hfn, hfc, nt_intG, -xlen, hxl]; refine hK _ _ ?_; clear hK K)
 refine aw_ops (by kernel_rfl) (fun K hK => ?_)
 simp (disch := first | omega | (simp only [lnS]; try omega)) [-getElem?_pos, -getElem?_neg, -notTuple, v1, v2, hfn, hfc, nt_intG]
 refine ⟨by kernel_rfl, hlen.mono ?_⟩
 rintro u1 G1 ⟨rfl, z, rfl⟩
 try simp (disch := first | omega | (simp only [lnS]; try omega)) [-getElem?_pos, -getElem?_neg, -notTuple, v1, v2, hfn, hfc, nt_intG]
 refine ⟨by kernel_rfl, (hgo z).mono ?_⟩
 intro u G1 hq
 try simp (disch := first | omega | (simp only [lnS]; try omega)) [-getElem?_pos, -getElem?_neg]
 refine hK _ _ ?_; clear hK K
 exact ⟨[], _, rfl, rfl, hq⟩
theorem insertionW_nil {nro : Nat} {γ : Nat → Option Nat} {H : AH} : AC Try.prog nro γ 160 #[.slice none 0 0, .int .i64 0, .int .i64 ((0 : Nat) : Int), .func (.func 100) #[] #[]] H (fun _ G => G = H) := by
 refine ac_of_aw Try.func160 rfl Try.ntmps160 Try.results160 (by simp) ?_
 refine aw_seq ?_
 (refine aw_ops (by kernel_rfl) (fun K hK => ?_); simp (disch := first | omega | (simp only [lnS]; try omega)) [-getElem?_pos, -getElem?_neg]; refine hK _ _ ?_; clear hK K)
 refine aw_block ?_
 refine aw_loop (fun c α G => G = H ∧ α 8 = .int .i64 1 ∧ α 2 = .int .i64 0) 1 ?_ ?_
 ·exact ⟨rfl, by (first | (simp [put_at, put_none, fr0_at]; done) | rfl), by (first | (simp [put_at, put_none, fr0_at]; done) | rfl)⟩
 rintro c α G ⟨rfl, h8, h2⟩
 refine aw_seq ?_
 refine aw_seq ?_
 (refine aw_ops (by kernel_rfl) (fun K hK => ?_); simp (disch := first | omega | (simp only [lnS]; try omega)) [-getElem?_pos, -getElem?_neg, h8, h2]; refine hK _ _ ?_; clear hK K)
 refine aw_f (by (first | (simp [eval_tmp, put_at]; done) | (simp [eval_tmp, put_at]; omega))) (by kernel_rfl) ?_
 refine aw_exit ?_
 exact ⟨[], _, rfl, rfl, rfl⟩
theorem sortFuncW_ac {nro : Nat} {γ : Nat → Option Nat} {H : AH} {v : Value} {F : List Nat} {ids : List (List Int)} (ho : OwnF H v 38 32 (kr ids) F) (hF : ∀ j ∈ F, nro ≤ j) (hk : K32 ids) (hy : ∀ k ∈ ids, By k) (hnd : ids.Nodup) (hle : ids.length ≤ 12) :
  AC Try.prog nro γ 141 #[v, .func (.func 100) #[] #[]] H (fun _ G => OwnF G v 38 32 (kr (sortK ids)) F ∧ H.length ≤ G.length ∧ ∀ j, j < H.length → j ∉ F → hget G j = hget H j) := by
 have hxl := ho.len (P := Try.prog) (t := 36) (by simp) (kr_len hk) (by omega)
 have hnt := own_nt ho
 refine (sortFuncW_go (nro := nro) (γ := γ) (Q := fun _ G => OwnF G v 38 32 (kr (sortK ids)) F ∧ H.length ≤ G.length ∧ ∀ j, j < H.length → j ∉ F → hget G j = hget H j) hnt hxl hle ?_).mono (fun u G h => h u)
 rcases ho with ⟨rfl, hc, rfl⟩ | ⟨j, len, rfl, h2, h3, rfl⟩
 ·have hl : ids = [] := by
   have := kr_len hk
   rw [hc, List.length_nil] at this
   exact List.eq_nil_of_length_eq_zero (by omega)
  subst hl
  refine (insertionW_nil (nro := nro) (γ := γ) (H := H)).mono ?_
  rintro _ G rfl _
  refine ⟨.inl ⟨rfl, ?_, rfl⟩, Nat.le_refl _, fun _ _ _ => rfl⟩
  rw [(sortK_perm []).eq_nil]; rfl
 ·rw [kr_len hk] at h3
  obtain rfl : ids.length = len := by omega
  refine (insertionW_ac (nro := nro) (γ := γ) h2 rfl hk hy hnd (by omega) (hF j (by simp))).mono ?_
  rintro _ G ⟨q1, q2, q3⟩ _
  have hks : K32 (sortK ids) := fun k hm => hk k ((sortK_perm ids).mem_iff.1 hm)
  exact ⟨.inr ⟨j, _, rfl, q1, by rw [kr_len hks, (sortK_perm ids).length_eq], rfl⟩, q2, fun i hi hn => q3 i hi (fun e => hn (by simp [e]))⟩
end
section
theorem K32.sortK {l : List (List Int)} (h : K32 l) : K32 (sortK l) := fun k hk => h k ((sortK_perm l).mem_iff.1 hk)
attribute [local simp] wb_bool wb_undef with_lit XL_nil XL_cons XLc_val XLc_call step1_eq stepW_t stepW_f stepC_n stepC_s stepX_s stepX_n stepN_s calleeX xrecv oneV xop_eq xopR_s xopR_n wantedA_eq wantedG_n wantedG_s plain1_int plain1_bool plain1_string bits_i64 bits_u64 bits_u32 bits_u16 bits_u8 xeqA xagg xcmp xarr allK_iv num_iv calleeOf xread xeff xbin xint xnil xun xstr xload xconv xpart xfield xfieldAddr xindexAddr xindex bnd asInt? xslice xlen xmin xmax xbuild xfill xappend xapp2 xappstr xappmk xcap xcopy xcells eval_tmp eval_const put_at put_none fr0_at cells_agg cells_int cells_bool cells_string cells_ptr cells_slice notTuple tab iv_all hget_app hget_app0 hget_cons0 hget_cons set_app set_app0 setR setR_one QL_nil QL_cons QLc_val stepQ_t stepQ_f stepQC_n stepQC_s stepQX_s SL_nil SL_cons SLc_val stepS_t stepS_f ltT ltF leT leF eqT eqF ltTn ltFn leTn leFn eqTn eqFn beqT beqF bneT bneF wi64 wu64 wu32 wu16 wu8 tmodP tdivP hgetL hgetNe hgetEq setL nums_def nums_len Nat.succ_le_of_lt List.getElem?_cons_zero List.getElem?_cons_succ Option.getD_some Int.toNat_add Int.toNat_mul agM okM agB agI agS agP agL agA okB okI okS okP okSl okA
theorem ordered_ac {nro : Nat} {γ : Nat → Option Nat} {H : AH} {v : Value} {ids : List (List Int)} (hV : KsV H v ids) (hk : K32 ids) (hy : ∀ k ∈ ids, By k) (hnd : ids.Nodup) (hle : ids.length ≤ 12) (hnro : nro ≤ H.length) :
  AC Try.prog nro γ 99 #[v, .func (.func 100) #[] #[]] H (fun v' H' => Low H.length H H' ∧ ∃ F, OwnF H' v' 38 32 (kr (sortK ids)) F ∧ ∀ j ∈ F, H.length ≤ j) := by
 have n1 := val_nt hV
 have hfn : notTuple (.func (.func 100) #[] #[]) = true := rfl
 have hfc : (Value.func (.func 100) #[] #[]).cells = #[.func (.func 100) #[] #[]] := rfl
 refine ac_of_aw Try.func99 rfl Try.ntmps99 Try.results99 (by simp) ?_
 refine aw_seq ?_
 (refine aw_ops (by kernel_rfl) (fun K hK => ?_); simp (disch := first | omega | (simp only [lnS]; try omega)) [-getElem?_pos, -getElem?_neg]; refine hK _ _ ?_; clear hK K)
 refine aw_seq ?_
 refine aw_ops (by kernel_rfl) (fun K hK => ?_)
 simp (disch := first | omega | (simp only [lnS]; try omega)) [-getElem?_pos, -getElem?_neg, -notTuple, n1.1, n1.2]
 refine ⟨by kernel_rfl, (cloneK_ac (nro := nro) (γ := γ) hV hk hnro (by omega)).mono ?_⟩
 rintro w G ⟨_, hGl, lw, F, ho, hF⟩
 rw [ksC_kr] at ho
 obtain ⟨w1, w2⟩ := own_nt ho
 try simp (disch := first | omega | (simp only [lnS]; try omega)) [-getElem?_pos, -getElem?_neg, -notTuple, w1, w2]
 refine hK _ _ ?_; clear hK K
 have hso := sortFuncW_ac (nro := nro) (γ := γ) ho (fun j hj => by have := hF j hj; omega) hk hy hnd hle
 refine aw_seq ?_
 refine aw_ops (by kernel_rfl) (fun K hK => ?_)
 simp (disch := first | omega | (simp only [lnS]; try omega)) [-getElem?_pos, -getElem?_neg, -notTuple, w1, w2, hfn, hfc]
 refine ⟨by kernel_rfl, hso.mono ?_⟩
 rintro u G2 ⟨ho2, hl2, hk2⟩
 try simp (disch := first | omega | (simp only [lnS]; try omega)) [-getElem?_pos, -getElem?_neg]
 refine hK _ _ ?_; clear hK K
 refine aw_seq ?_
 (refine aw_ops (by kernel_rfl) (fun K hK => ?_); simp (disch := first | omega | (simp only [lnS]; try omega)) [-getElem?_pos, -getElem?_neg, -notTuple, w1, w2]; refine hK _ _ ?_; clear hK K)
 (refine aw_ret ?_; simp (disch := first | omega | (simp only [lnS]; try omega)) [-getElem?_pos, -getElem?_neg, thenQ_ret, scopeQ_ret, inBlockQ_ret, RQ, resL, resV])
 have hle := lw.2
 exact ⟨⟨fun j hj => (hk2 j (by omega) (fun h => by have := hF j h; omega)).trans (lw.1 j hj), by omega⟩, F, ho2, hF⟩
theorem once_ac {nro : Nat} {γ : Nat → Option Nat} {H : AH} {v : Value} {ids : List (List Int)} (hV : KsV H v ids) (hk : K32 ids) (hnd : ids.Nodup) (hle : ids.length ≤ 100) (hnro : nro ≤ H.length) :
  AC Try.prog nro γ 98 #[v] H (fun v' H' => Low H.length H H' ∧ ∃ F, OwnF H' v' 38 32 (kr ids) F ∧ ∀ j ∈ F, H.length ≤ j) := by
 have hacc := hV.acc hk
 have n1 := hacc.nt
 have n2 := hacc.cs
 have hxl := hacc.len
 have hp0 : plain1 (.slice none 0 0) = true := rfl
 refine ac_of_aw Try.func98 rfl Try.ntmps98 Try.results98 (by simp) ?_
 refine aw_seq ?_
 (refine aw_ops (by kernel_rfl) (fun K hK => ?_); simp (disch := first | omega | (simp only [lnS]; try omega)) [-getElem?_pos, -getElem?_neg]; refine hK _ _ ?_; clear hK K)
 refine aw_seq ?_
 (refine aw_ops (by kernel_rfl) (fun K hK => ?_); simp (disch := first | omega | (simp only [lnS]; try omega)) [-getElem?_pos, -getElem?_neg]; refine hK _ _ ?_; clear hK K)
 refine aw_seq ?_
 refine aw_seq ?_
 (refine aw_ops (by kernel_rfl) (fun K hK => ?_); simp (disch := first | omega | (simp only [lnS]; try omega)) [-getElem?_pos, -getElem?_neg, -notTuple, n1, n2, nt_intG, -xlen, hxl]; refine hK _ _ ?_; clear hK K)
 refine aw_block ?_
 refine aw_loop (fun c α G => ∃ (i : Nat) (x : Value) (F : List Nat), i + c = ids.length ∧ Low H.length H G ∧ α 0 = v ∧ α 3 = x ∧ α 6 = v ∧ α 7 = .int .i64 (ids.length : Nat) ∧ α 8 = .int .i64 (i : Nat) ∧ OwnF G x 38 32 (kr (ids.take i)) F ∧ ∀ j ∈ F, H.length ≤ j) ids.length ?_ ?_
 ·exact ⟨0, .slice none 0 0, [], by omega, Low.refl (Nat.le_refl _), by (first | (simp [put_at, put_none, fr0_at]; done) | rfl), by (first | (simp [put_at, put_none, fr0_at]; done) | rfl), by (first | (simp [put_at, put_none, fr0_at]; done) | rfl), by (first | (simp [put_at, put_none, fr0_at]; done) | rfl), by (first | (simp [put_at, put_none, fr0_at]; done) | rfl), .inl ⟨rfl, by simp [kr], rfl⟩, fun j hj => by cases hj⟩
 rintro c α G ⟨i, x, F, hic, lw, q0, q3, q6, q7, q8, hF, hFl⟩
 obtain ⟨x1, x2⟩ := own_nt hF
 have hle1 := lw.2
 refine aw_seq ?_
 by_cases hi : i < ids.length
 case neg =>
  obtain rfl : i = ids.length := by omega
  rw [List.take_length] at hF
  (refine aw_ops (by kernel_rfl) (fun K hK => ?_); simp (disch := first | omega | (simp only [lnS]; try omega)) [-getElem?_pos, -getElem?_neg, q7, q8]; refine hK _ _ ?_; clear hK K)
  refine aw_seq ?_
  refine aw_f (by (first | (simp [eval_tmp, put_at]; done) | (simp [eval_tmp, put_at]; omega))) (by kernel_rfl) ?_
  refine aw_exit ?_
  refine aw_seq ?_
  (refine aw_ops (by kernel_rfl) (fun K hK => ?_); simp (disch := first | omega | (simp only [lnS]; try omega)) [-getElem?_pos, -getElem?_neg, q3, -notTuple, x1, x2]; refine hK _ _ ?_; clear hK K)
  (refine aw_ret ?_; simp (disch := first | omega | (simp only [lnS]; try omega)) [-getElem?_pos, -getElem?_neg, thenQ_ret, scopeQ_ret, inBlockQ_ret, RQ, resL, resV])
  exact ⟨lw, F, hF, hFl⟩
 obtain ⟨p, y, r1, r2, r3, r4, r5⟩ := hacc.at_ i hi
 have r5 := r5 G lw
 subst r4
 obtain ⟨z, hz⟩ : ∃ z, z = ids.getD i [] := ⟨_, rfl⟩
 have hzi : ids[i]? = some z := by rw [hz, List.getD_eq_getElem?_getD, List.getElem?_eq_getElem hi]; rfl
 have hz32 : z.length = 32 := hk z (List.mem_of_getElem? hzi)
 have hzl : (iv .u8 z).length = 32 := by rw [iv_length, hz32]
 have htz : (iv .u8 z).take 32 = iv .u8 z := List.take_of_length_le (by omega)
 rw [← hz] at r5
 have hset : ∀ Z : List Value, Z.length = 32 → setR Z 0 (iv .u8 z) = iv .u8 z := fun Z hZ => setR_all _ _ (by omega)
 (refine aw_ops (by kernel_rfl) (fun K hK => ?_); simp (disch := first | omega | (simp only [lnS]; try omega)) [-getElem?_pos, -getElem?_neg, q7, q8, hi]; refine hK _ _ ?_; clear hK K)
 refine aw_seq ?_
 refine aw_t (by (first | (simp [eval_tmp, put_at, hi]; done) | (simp [eval_tmp, put_at, hi]; omega))) (by kernel_rfl) ?_
 refine aw_skip ?_
 refine aw_seq ?_
 refine aw_block ?_
 refine aw_seq ?_
 (refine aw_ops (by kernel_rfl) (fun K hK => ?_); simp (disch := first | omega | (simp only [lnS]; try omega)) [-getElem?_pos, -getElem?_neg, q6, q8, -notTuple, n1, n2, nt_intG, nt_aggG, r1, -xindexAddr, r2, -xload, r5, hzl, all_zl, hset, hle1]; refine hK _ _ ?_; clear hK K)
 obtain ⟨lw2, b5⟩ := boxed (H := G) (iv .u8 z) 38
 obtain ⟨g, hg⟩ : ∃ g, g = G.length := ⟨_, rfl⟩
 have lw3 := lw.both lw2
 have hF2 := hF.low (H' := G ++ ([some ⟨iv .u8 z, 38, none⟩] : AH)) (fun j hj => hget_left (hF.lt j hj))
 rw [← hg] at b5 ⊢
 generalize G ++ [some ⟨iv .u8 z, 38, none⟩] = G2 at *
 have xl5 : xload Try.prog 38 (.pointer (some ⟨g, 0, none⟩)) G2 = some (.agg (iv .u8 z).toArray) := by simp [xload, b5, hzl, htz]
 refine aw_seq ?_
 refine aw_cut (fun α G3 => α 23 = .bool true ∧ α 0 = v ∧ α 3 = x ∧ α 5 = .pointer (some ⟨g, 0, none⟩) ∧ α 6 = v ∧ α 7 = .int .i64 (ids.length : Nat) ∧ α 8 = .int .i64 (i : Nat) ∧ G3 = G2) ?_ ?_
 ·by_cases h0 : i = 0
  ·subst h0
   (refine aw_plan [] [] [0, 1, 2, 3, 4, 5, 6, 7, 8, 9, 10] 11 0 (by kernel_rfl) (by kernel_rfl) (by kernel_rfl) (fun K hK => ?_)); simp only [sel, List.getElem?_cons_succ, List.getElem?_cons_zero, List.drop_succ_cons, List.drop_zero]; simp (disch := first | omega | (simp only [lnS]; try omega)) [-getElem?_pos, -getElem?_neg, nt_intG, PL_nil, plainB_lit, PL_cons, PLc_val, PLc_new, stepP_t, stepP_f, stepPC_n, stepPC_s, stepPX_s, stepPX_n, stepPV_n, stepPV_s, stepPA_t, stepPA_c, stepPA_l, stepPN_s, allocOp, reloc_sl, reloc_ptr, List.map_cons, List.map_nil, List.nil_append, List.append_assoc, List.cons_append, Nat.add_assoc]
   refine hK _ _ ?_; clear hK K
   exact ⟨by (first | (simp [put_at, put_none, fr0_at]; done) | rfl), by (first | (simp [put_at, put_none, fr0_at, q0]; done) | rfl), by (first | (simp [put_at, put_none, fr0_at, q3]; done) | rfl), by (first | (simp [put_at, put_none, fr0_at]; done) | rfl), by (first | (simp [put_at, put_none, fr0_at, q6]; done) | rfl), by (first | (simp [put_at, put_none, fr0_at, q7]; done) | rfl), by (first | (simp [put_at, put_none, fr0_at, q8]; done) | rfl), rfl⟩
  have h0b : ((i : Int) == 0) = false := by rw [beq_eq_false_iff_ne]; omega
  have h0i : ¬ (i : Int) = 0 := by omega
  have hi1 : i - 1 < ids.length := by omega
  obtain ⟨p', y', s1, s2, s3, s4, s5⟩ := hacc.at_ (i - 1) hi1
  have s5 := s5 G2 lw3
  subst s4
  obtain ⟨z', hz'⟩ : ∃ z', z' = ids.getD (i - 1) [] := ⟨_, rfl⟩
  have hzi' : ids[i - 1]? = some z' := by rw [hz', List.getD_eq_getElem?_getD, List.getElem?_eq_getElem hi1]; rfl
  rw [← hz'] at s5
  have hne : z ≠ z' := fun e => by
   have := (List.getElem?_inj hi hnd (j := i - 1)).1 (by rw [hzi, hzi', e])
   omega
  have hneb : (z == z') = false := by simpa using hne
  have hsub : (i : Int) - 1 = ((i - 1 : Nat) : Int) := by omega
  have hzl' : (iv .u8 z').length = 32 := by rw [iv_length]; exact hk z' (List.mem_of_getElem? hzi')
  (refine aw_plan [] [] [0, 1, 2, 3, 4, 5, 6, 7, 8, 9, 10] 11 0 (by kernel_rfl) (by kernel_rfl) (by kernel_rfl) (fun K hK => ?_)); simp only [sel, List.getElem?_cons_succ, List.getElem?_cons_zero, List.drop_succ_cons, List.drop_zero]; simp (disch := first | omega | (simp only [lnS]; try omega)) [-getElem?_pos, -getElem?_neg, q0, h0b, h0i, hsub, -notTuple, n1, n2, nt_intG, nt_ptrG, nt_aggG, s1, -xindexAddr, s2, -xload, xl5, s5, hneb, hzl, hzl', PL_nil, plainB_lit, PL_cons, PLc_val, PLc_new, stepP_t, stepP_f, stepPC_n, stepPC_s, stepPX_s, stepPX_n, stepPV_n, stepPV_s, stepPA_t, stepPA_c, stepPA_l, stepPN_s, allocOp, reloc_sl, reloc_ptr, List.map_cons, List.map_nil, List.nil_append, List.append_assoc, List.cons_append, Nat.add_assoc]
  refine hK _ _ ?_; clear hK K
  exact ⟨by (first | (simp [put_at, put_none, fr0_at]; done) | rfl), by (first | (simp [put_at, put_none, fr0_at, q0]; done) | rfl), by (first | (simp [put_at, put_none, fr0_at, q3]; done) | rfl), by (first | (simp [put_at, put_none, fr0_at]; done) | rfl), by (first | (simp [put_at, put_none, fr0_at, q6]; done) | rfl), by (first | (simp [put_at, put_none, fr0_at, q7]; done) | rfl), by (first | (simp [put_at, put_none, fr0_at, q8]; done) | rfl), rfl⟩
 clear q0 q3 q6 q7 q8
 rintro α G3 ⟨q23, q0, q3, q5, q6, q7, q8, rfl⟩
 refine aw_t (by (first | (simp [eval_tmp, put_at, q23]; done) | (simp [eval_tmp, put_at, q23]; omega))) (by kernel_rfl) ?_
 have hle3 := lw3.2
 have hkt : K32 (ids.take i) := fun k hk' => hk k (List.mem_of_mem_take hk')
 have hkl := kr_len hkt
 have htl : (ids.take i).length = i := by rw [List.length_take]; omega
 rw [htl] at hkl
 have hxc : xcells 32 (.slice (some ⟨G3.length, 0, none⟩) 1 1) (G3 ++ [some ⟨iv .u8 z, 38, some 32⟩]) = some (iv .u8 z) := by simp [xcells, hget_app0, hzl, htz]
 obtain ⟨v', G6, hap, ho3, hl3, hk3⟩ := ownF_append (P := Try.prog) (nro := nro) (t := 36) (e := 38) (H := G3 ++ [some ⟨iv .u8 z, 38, some 32⟩]) (v := x) (x := .slice (some ⟨G3.length, 0, none⟩) 1 1) (sz := 32) (cells := kr (ids.take i)) (news := iv .u8 z) (F := F) (by simp) (by simp) (by omega) (by simp) (hF2.low (fun j hj => hget_left (hF2.lt j hj)))
  (fun j hj => by have := hFl j hj; omega) (fun s e => by cases e) hxc (fun e => by rw [e] at hzl; simp at hzl) (by rw [hzl]) (by rw [hkl, hzl]; simp; omega) (by rw [hkl, hzl]; simp only [maxLen]; omega)
 have fk := fill_keyG (k := .u8) (x := z) (n := 32) (zl 32) hzl
 have hno : nro ≤ G3.length := by omega
 (refine aw_ops (by kernel_rfl) (fun K hK => ?_); simp (disch := first | omega | (simp only [lnS]; try omega)) [-getElem?_pos, -getElem?_neg, q3, q5, -xload, xl5, -notTuple, x1, x2, nt_intG, nt_slG, nt_aggG, all_zl, hzl, -xfill, fk, hno, -xappend, hap]; refine hK _ _ ?_; clear hK K)
 (refine aw_ops (by kernel_rfl) (fun K hK => ?_); simp (disch := first | omega | (simp only [lnS]; try omega)) [-getElem?_pos, -getElem?_neg, q8]; refine hK _ _ ?_; clear hK K)
 have hsu : ids.take (i + 1) = ids.take i ++ [z] := by rw [List.take_add_one, hzi]; rfl
 refine ⟨c - 1, by omega, i + 1, v', _, by omega, ⟨fun j hj => (hk3 j (by simp; omega) (fun h => by have := hFl _ h; omega)).trans ((hget_left (by omega)).trans (lw3.1 j hj)), by rw [hl3]; simp; omega⟩, by (first | (simp [put_at, put_none, fr0_at, q0]; done) | rfl), by (first | (simp [put_at, put_none, fr0_at]; done) | rfl), by (first | (simp [put_at, put_none, fr0_at, q6]; done) | rfl), by (first | (simp [put_at, put_none, fr0_at, q7]; done) | rfl), by (first | (simp [put_at, put_none, fr0_at]; done) | rfl), by rw [hsu, kr_app, kr_one]; exact ho3, fun j hj => ?_⟩
 rw [List.mem_singleton] at hj
 rw [hj]
 simp
 omega
end
section
def wantK (l : List NodeD) (q : List HeldD) (k : List Int) : Bool := decide (findI l l.length k < 0) && decide (findIH q q.length k < 0)
def wantsL (l : List NodeD) (q : List HeldD) : Nat → List (List Int)
 | 0 => []
 | i + 1 => wantsL l q i ++ (hn q i).op.parents.filter (wantK l q)
theorem rightQ_op {q : List HeldD} (h : rightQ q = true) {i : Nat} (hi : i < q.length) : rightO (hn q i).op = true := by
 unfold rightQ at h
 rw [Bool.and_eq_true, List.all_eq_true] at h
 have h1 := h.2 i (List.mem_range.2 hi)
 unfold oneQ at h1
 rw [Bool.and_eq_true] at h1
 exact h1.2
theorem wants_len {l : List NodeD} {q : List HeldD} (h : rightQ q = true) : ∀ i, i ≤ q.length → (wantsL l q i).length ≤ 8 * i
 | 0, _ => Nat.le_refl _
 | i + 1, hi => by
  have h1 := wants_len (l := l) h i (by omega)
  have h2 := (rightO_sm (rightQ_op h (show i < q.length by omega))).1
  have h3 := List.length_filter_le (wantK l q) (hn q i).op.parents
  unfold wantsL
  rw [List.length_append]
  omega
theorem wants_k {l : List NodeD} {q : List HeldD} (hw : ∀ x ∈ q, x.Wf) : ∀ i, i ≤ q.length → ∀ k ∈ wantsL l q i, Key32 k
 | 0, _ => fun k hk => by cases hk
 | i + 1, hi => fun k hk => by
  unfold wantsL at hk
  rcases List.mem_append.1 hk with hk | hk
  ·exact wants_k hw i (by omega) k hk
  ·exact (hw _ (List.mem_of_getElem? (hn_get (show i < q.length by omega)))).op.parents k (List.mem_filter.1 hk).1
attribute [local simp] wb_bool wb_undef with_lit XL_nil XL_cons XLc_val XLc_call step1_eq stepW_t stepW_f stepC_n stepC_s stepX_s stepX_n stepN_s calleeX xrecv oneV xop_eq xopR_s xopR_n wantedA_eq wantedG_n wantedG_s plain1_int plain1_bool plain1_string bits_i64 bits_u64 bits_u32 bits_u16 bits_u8 xeqA xagg xcmp xarr allK_iv num_iv calleeOf xread xeff xbin xint xnil xun xstr xload xconv xpart xfield xfieldAddr xindexAddr xindex bnd asInt? xslice xlen xmin xmax xbuild xfill xappend xapp2 xappstr xappmk xcap xcopy xcells eval_tmp eval_const put_at put_none fr0_at cells_agg cells_int cells_bool cells_string cells_ptr cells_slice notTuple tab iv_all hget_app hget_app0 hget_cons0 hget_cons set_app set_app0 setR setR_one QL_nil QL_cons QLc_val stepQ_t stepQ_f stepQC_n stepQC_s stepQX_s SL_nil SL_cons SLc_val stepS_t stepS_f ltT ltF leT leF eqT eqF ltTn ltFn leTn leFn eqTn eqFn beqT beqF bneT bneF wi64 wu64 wu32 wu16 wu8 tmodP tdivP hgetL hgetNe hgetEq setL nums_def nums_len Nat.succ_le_of_lt List.getElem?_cons_zero List.getElem?_cons_succ Option.getD_some Int.toNat_add Int.toNat_mul agM okM agB agI agS agP agL agA okB okI okS okP okSl okA
theorem wanted_ac {nro : Nat} {γ : Nat → Option Nat} {H : AH} {nv qv : Value} {l : List NodeD} {q : List HeldD} (hN : NdA H nv l) (hl : l.length ≤ maxLen) (hQ : HdA H qv q) (hq : q.length ≤ maxLen) (hnd : (wantsL l q q.length).Nodup) (h12 : (wantsL l q q.length).length ≤ 12) (hnro : nro ≤ H.length) :
  AC Try.prog nro γ 48 #[nv, qv] H (fun v' H' => Low H.length H H' ∧ ∃ F, OwnF H' v' 38 32 (kr (if rightG l && rightQ q then sortK (wantsL l q q.length) else [])) F ∧ ∀ j ∈ F, H.length ≤ j) := by
 have n1 := hN.nt
 have n2 := hN.cs
 have q1 := hQ.nt
 have q2 := hQ.cs
 have hxl := hQ.len
 have hp0 : plain1 (.slice none 0 0) = true := rfl
 have gr := graph_right_rc (γ := γ) hN
 have qr := qRight_rc (γ := γ) hQ hq
 refine ac_of_aw Try.func48 rfl Try.ntmps48 Try.results48 (by simp) ?_
 refine aw_seq ?_
 (refine aw_ops (by kernel_rfl) (fun K hK => ?_); simp (disch := first | omega | (simp only [lnS]; try omega)) [-getElem?_pos, -getElem?_neg]; refine hK _ _ ?_; clear hK K)
 refine aw_seq ?_
 refine aw_seq ?_
 refine aw_cut (fun α G3 => α 17 = .bool (!(rightG l && rightQ q)) ∧ α 0 = nv ∧ α 1 = qv ∧ H = G3) ?_ ?_
 ·refine aw_ops (by kernel_rfl) (fun K hK => ?_)
  simp (disch := first | omega | (simp only [lnS]; try omega)) [-getElem?_pos, -getElem?_neg, -notTuple, n1, n2, nt_intG]
  refine ⟨by kernel_rfl, ac_of_rc gr (by simp [pv_iv, pv_int, pv_bool, pv_string, pv_tup2, pv_tup3, iv_plain, p2_int, p2_bool, p2_string]) ?_⟩
  cases h3 : rightG l with
  | false =>
   try simp (disch := first | omega | (simp only [lnS]; try omega)) [-getElem?_pos, -getElem?_neg]
   refine hK _ _ ?_; clear hK K
   exact ⟨by rw [h3]; (first | (simp [put_at, put_none, fr0_at]; done) | rfl), by (first | (simp [put_at, put_none, fr0_at]; done) | rfl), by (first | (simp [put_at, put_none, fr0_at]; done) | rfl), rfl⟩
  | true =>
   simp (disch := first | omega | (simp only [lnS]; try omega)) [-getElem?_pos, -getElem?_neg, -notTuple, q1, q2, nt_intG]
   refine ⟨by kernel_rfl, ac_of_rc qr (by simp [pv_iv, pv_int, pv_bool, pv_string, pv_tup2, pv_tup3, iv_plain, p2_int, p2_bool, p2_string]) ?_⟩
   try simp (disch := first | omega | (simp only [lnS]; try omega)) [-getElem?_pos, -getElem?_neg]
   refine hK _ _ ?_; clear hK K
   exact ⟨by rw [h3]; (first | (simp [put_at, put_none, fr0_at]; done) | rfl), by (first | (simp [put_at, put_none, fr0_at]; done) | rfl), by (first | (simp [put_at, put_none, fr0_at]; done) | rfl), rfl⟩
 rintro α _ ⟨q17, q0, q1', rfl⟩
 cases hb : (rightG l && rightQ q) with
 | false =>
  rw [hb] at q17
  refine aw_t (by (first | (simp [eval_tmp, put_at, q17]; done) | (simp [eval_tmp, put_at, q17]; omega))) (by kernel_rfl) ?_
  refine aw_seq ?_
  (refine aw_ops (by kernel_rfl) (fun K hK => ?_); simp (disch := first | omega | (simp only [lnS]; try omega)) [-getElem?_pos, -getElem?_neg]; refine hK _ _ ?_; clear hK K)
  (refine aw_ret ?_; simp (disch := first | omega | (simp only [lnS]; try omega)) [-getElem?_pos, -getElem?_neg, thenQ_ret, scopeQ_ret, inBlockQ_ret, RQ, resL, resV])
  exact ⟨Low.refl (Nat.le_refl _), [], .inl ⟨rfl, by simp [kr], rfl⟩, fun j hj => by cases hj⟩
 | true =>
 rw [hb] at q17
 rw [if_pos rfl]
 refine aw_f (by (first | (simp [eval_tmp, put_at, q17]; done) | (simp [eval_tmp, put_at, q17]; omega))) (by kernel_rfl) ?_
 refine aw_skip ?_
 obtain ⟨h3, hrq⟩ := Bool.and_eq_true_iff.1 hb
 have hq24 := rightQ_len hrq
 refine aw_seq ?_
 (refine aw_ops (by kernel_rfl) (fun K hK => ?_); simp (disch := first | omega | (simp only [lnS]; try omega)) [-getElem?_pos, -getElem?_neg]; refine hK _ _ ?_; clear hK K)
 refine aw_seq ?_
 refine aw_seq ?_
 (refine aw_ops (by kernel_rfl) (fun K hK => ?_); simp (disch := first | omega | (simp only [lnS]; try omega)) [-getElem?_pos, -getElem?_neg, q1', -notTuple, q1, q2, nt_intG, -xlen, hxl]; refine hK _ _ ?_; clear hK K)
 refine aw_block ?_
 refine aw_loop (fun c α G => ∃ (i : Nat) (x : Value) (F : List Nat), i + c = q.length ∧ Low H.length H G ∧ α 0 = nv ∧ α 1 = qv ∧ α 5 = x ∧ α 18 = qv ∧ α 19 = .int .i64 (q.length : Nat) ∧ α 20 = .int .i64 (i : Nat) ∧ OwnF G x 38 32 (kr (wantsL l q i)) F ∧ ∀ j ∈ F, H.length ≤ j) q.length ?_ ?_
 ·exact ⟨0, .slice none 0 0, [], by omega, Low.refl (Nat.le_refl _), by (first | (simp [put_at, put_none, fr0_at, q0]; done) | rfl), by (first | (simp [put_at, put_none, fr0_at, q1']; done) | rfl), by (first | (simp [put_at, put_none, fr0_at]; done) | rfl), by (first | (simp [put_at, put_none, fr0_at]; done) | rfl), by (first | (simp [put_at, put_none, fr0_at]; done) | rfl), by (first | (simp [put_at, put_none, fr0_at]; done) | rfl), .inl ⟨rfl, by simp [kr, wantsL], rfl⟩, fun j hj => by cases hj⟩
 clear q0 q1' q17
 rintro c α G ⟨i, x, F, hic, lw, q0, q1', q5, q18, q19, q20, hF, hFl⟩
 obtain ⟨x1, x2⟩ := own_nt hF
 have hle1 := lw.2
 refine aw_seq ?_
 by_cases hi : i < q.length
 case neg =>
  obtain rfl : i = q.length := by omega
  (refine aw_ops (by kernel_rfl) (fun K hK => ?_); simp (disch := first | omega | (simp only [lnS]; try omega)) [-getElem?_pos, -getElem?_neg, q19, q20]; refine hK _ _ ?_; clear hK K)
  refine aw_seq ?_
  refine aw_f (by (first | (simp [eval_tmp, put_at]; done) | (simp [eval_tmp, put_at]; omega))) (by kernel_rfl) ?_
  refine aw_exit ?_
  have hkk := wants_k (l := l) hQ.wf q.length (Nat.le_refl _)
  have hk32 : K32 (wantsL l q q.length) := fun k hk => (hkk k hk).1
  have hKs := kr_ksv hF hk32
  have hfn : notTuple (.func (.func 100) #[] #[]) = true := rfl
  have hfc : (Value.func (.func 100) #[] #[]).cells = #[.func (.func 100) #[] #[]] := rfl
  refine aw_seq ?_
  refine aw_ops (by kernel_rfl) (fun K hK => ?_)
  simp (disch := first | omega | (simp only [lnS]; try omega)) [-getElem?_pos, -getElem?_neg, q5, -notTuple, x1, x2, hfn, hfc, eval_fnG]
  refine ⟨by kernel_rfl, (ordered_ac (nro := nro) (γ := γ) hKs hk32 (fun k hk => (hkk k hk).2) hnd h12 (by omega)).mono ?_⟩
  rintro w G2 ⟨lw2, F2, hF2, hF2l⟩
  obtain ⟨w1, w2⟩ := own_nt hF2
  have hle2 := lw2.2
  have hs32 := K32.sortK hk32
  have hsl : (sortK (wantsL l q q.length)).length ≤ 100 := by rw [(sortK_perm _).length_eq]; omega
  try simp (disch := first | omega | (simp only [lnS]; try omega)) [-getElem?_pos, -getElem?_neg, -notTuple, w1, w2]
  refine ⟨by kernel_rfl, (once_ac (nro := nro) (γ := γ) (kr_ksv hF2 hs32) hs32 ((sortK_perm _).nodup_iff.2 hnd) hsl (by omega)).mono ?_⟩
  rintro u G3 ⟨lw3, F3, hF3, hF3l⟩
  obtain ⟨u1, u2⟩ := own_nt hF3
  try simp (disch := first | omega | (simp only [lnS]; try omega)) [-getElem?_pos, -getElem?_neg, -notTuple, u1, u2]
  refine hK _ _ ?_; clear hK K
  (refine aw_ret ?_; simp (disch := first | omega | (simp only [lnS]; try omega)) [-getElem?_pos, -getElem?_neg, thenQ_ret, scopeQ_ret, inBlockQ_ret, RQ, resL, resV])
  have hle3 := lw3.2
  exact ⟨⟨fun j hj => (lw3.1 j (by omega)).trans ((lw2.1 j (by omega)).trans (lw.1 j hj)), by omega⟩, F3, hF3, fun j hj => by have := hF3l j hj; omega⟩
 obtain ⟨j, a, bb, us, pv, wv, bv, kv, hx, hbb, ha, hcell, hus, hC⟩ := hQ.at_ i _ (hn_get hi)
 have hw := hQ.wf _ (List.mem_of_getElem? (hn_get hi))
 have hbG : hget G j = some bb := (lw.1 j (hget_lt hbb)).trans hbb
 have hul := hC.len
 have hus' := hus.symm
 clear hus
 have hset : ∀ Z : List Value, Z.length = 104 → setR Z 0 us = us := fun Z hZ => setR_all _ _ (by omega)
 have c34 : us[34]? = some pv := by
  have := hC.op.c2
  rwa [List.getElem?_take_of_lt (by omega), List.getElem?_drop] at this
 have hwl := wants_len (l := l) hrq i (by omega)
 have hps := (rightO_sm (rightQ_op hrq hi)).1
 have hk32 : ∀ k ∈ (hn q i).op.parents, k.length = 32 := fun k hk => (hw.op.parents k hk).1
 have hacc0 := hC.op.parents.acc hk32
 have p1 := hacc0.nt
 have p2 := hacc0.cs
 have pxl := hacc0.len
 have hwi : wantsL l q (i + 1) = wantsL l q i ++ (hn q i).op.parents.filter (wantK l q) := rfl
 have hkw : ∀ k ∈ wantsL l q i, k.length = 32 := fun k hk => (wants_k (l := l) hQ.wf i (by omega) k hk).1
 (refine aw_ops (by kernel_rfl) (fun K hK => ?_); simp (disch := first | omega | (simp only [lnS]; try omega)) [-getElem?_pos, -getElem?_neg, q19, q20, hi]; refine hK _ _ ?_; clear hK K)
 refine aw_seq ?_
 refine aw_t (by (first | (simp [eval_tmp, put_at, hi]; done) | (simp [eval_tmp, put_at, hi]; omega))) (by kernel_rfl) ?_
 refine aw_skip ?_
 refine aw_seq ?_
 refine aw_block ?_
 refine aw_seq ?_
 (refine aw_ops (by kernel_rfl) (fun K hK => ?_); simp (disch := first | omega | (simp only [lnS]; try omega)) [-getElem?_pos, -getElem?_neg, q18, q20, -notTuple, q1, q2, nt_intG, nt_aggG, -xindexAddr, hx, hbG, hus', hul, ha, hp0, all_zl, hset, hle1]; refine hK _ _ ?_; clear hK K)
 obtain ⟨lw2, b7⟩ := boxed (H := G) us 60
 have hF := hF.low (H' := G ++ ([some ⟨us, 60, none⟩] : AH)) (fun j hj => hget_left (hF.lt j hj))
 have lw := lw.both lw2
 generalize G ++ [some ⟨us, 60, none⟩] = G2 at *
 generalize wantsL l q i = W0 at *
 generalize (hn q i).op.parents = ps at *
 refine aw_seq ?_
 (refine aw_ops (by kernel_rfl) (fun K hK => ?_); simp (disch := first | omega | (simp only [lnS]; try omega)) [-getElem?_pos, -getElem?_neg, b7, c34, hul, -notTuple, p1, p2, nt_intG, -xlen, pxl]; refine hK _ _ ?_; clear hK K)
 refine aw_block ?_
 refine aw_loop (fun c2 α G => ∃ (k : Nat) (x : Value) (F : List Nat), k + c2 = ps.length ∧ Low H.length H G ∧ α 0 = nv ∧ α 1 = qv ∧ α 5 = x ∧ α 18 = qv ∧ α 19 = .int .i64 (q.length : Nat) ∧ α 20 = .int .i64 (i : Nat) ∧ α 26 = pv ∧ α 27 = .int .i64 (ps.length : Nat) ∧ α 28 = .int .i64 (k : Nat) ∧ OwnF G x 38 32 (kr (W0 ++ (ps.take k).filter (wantK l q))) F ∧ ∀ j ∈ F, H.length ≤ j) ps.length ?_ ?_
 ·exact ⟨0, x, F, by omega, lw, by (first | (simp [put_at, put_none, fr0_at, q0]; done) | rfl), by (first | (simp [put_at, put_none, fr0_at, q1']; done) | rfl), by (first | (simp [put_at, put_none, fr0_at, q5]; done) | rfl), by (first | (simp [put_at, put_none, fr0_at, q18]; done) | rfl), by (first | (simp [put_at, put_none, fr0_at, q19]; done) | rfl), by (first | (simp [put_at, put_none, fr0_at, q20]; done) | rfl), by (first | (simp [put_at, put_none, fr0_at]; done) | rfl), by (first | (simp [put_at, put_none, fr0_at]; done) | rfl), by (first | (simp [put_at, put_none, fr0_at]; done) | rfl), by simpa using hF, hFl⟩
 clear q0 q1' q5 q18 q19 q20 hF hFl x1 x2 lw hle1
 rintro c2 α G3 ⟨k, x, F, hkc, lw, q0, q1', q5, q18, q19, q20, q26, q27, q28, hF, hFl⟩
 obtain ⟨x1, x2⟩ := own_nt hF
 have hle1 := lw.2
 refine aw_seq ?_
 by_cases hk : k < ps.length
 case neg =>
  obtain rfl : k = ps.length := by omega
  rw [List.take_length] at hF
  (refine aw_ops (by kernel_rfl) (fun K hK => ?_); simp (disch := first | omega | (simp only [lnS]; try omega)) [-getElem?_pos, -getElem?_neg, q27, q28]; refine hK _ _ ?_; clear hK K)
  refine aw_seq ?_
  refine aw_f (by (first | (simp [eval_tmp, put_at]; done) | (simp [eval_tmp, put_at]; omega))) (by kernel_rfl) ?_
  refine aw_exit ?_
  (refine aw_ops (by kernel_rfl) (fun K hK => ?_); simp (disch := first | omega | (simp only [lnS]; try omega)) [-getElem?_pos, -getElem?_neg, q20]; refine hK _ _ ?_; clear hK K)
  exact ⟨c - 1, by omega, i + 1, x, F, by omega, lw, by (first | (simp [put_at, put_none, fr0_at, q0]; done) | rfl), by (first | (simp [put_at, put_none, fr0_at, q1']; done) | rfl), by (first | (simp [put_at, put_none, fr0_at, q5]; done) | rfl), by (first | (simp [put_at, put_none, fr0_at, q18]; done) | rfl), by (first | (simp [put_at, put_none, fr0_at, q19]; done) | rfl), by (first | (simp [put_at, put_none, fr0_at]; done) | rfl), by rw [hwi]; exact hF, hFl⟩
 obtain ⟨p, y, r1, r2, r3, r4, r5⟩ := hacc0.at_ k hk
 have r5 := r5 G3 lw
 subst r4
 obtain ⟨z, hz⟩ : ∃ z, z = ps.getD k [] := ⟨_, rfl⟩
 have hzi : ps[k]? = some z := by rw [hz, List.getD_eq_getElem?_getD, List.getElem?_eq_getElem hk]; rfl
 have hz32 : z.length = 32 := hk32 z (List.mem_of_getElem? hzi)
 have hzl : (iv .u8 z).length = 32 := by rw [iv_length, hz32]
 have htz : (iv .u8 z).take 32 = iv .u8 z := List.take_of_length_le (by omega)
 rw [← hz] at r5
 have hset2 : ∀ Z : List Value, Z.length = 32 → setR Z 0 (iv .u8 z) = iv .u8 z := fun Z hZ => setR_all _ _ (by omega)
 have hnx : (ps.take (k + 1)).filter (wantK l q) = (ps.take k).filter (wantK l q) ++ if wantK l q z then [z] else [] := by
  rw [List.take_add_one, hzi, List.filter_append]
  congr 1
  cases h : wantK l q z <;> simp [h]
 (refine aw_ops (by kernel_rfl) (fun K hK => ?_); simp (disch := first | omega | (simp only [lnS]; try omega)) [-getElem?_pos, -getElem?_neg, q27, q28, hk]; refine hK _ _ ?_; clear hK K)
 refine aw_seq ?_
 refine aw_t (by (first | (simp [eval_tmp, put_at, hk]; done) | (simp [eval_tmp, put_at, hk]; omega))) (by kernel_rfl) ?_
 refine aw_skip ?_
 refine aw_seq ?_
 refine aw_block ?_
 refine aw_seq ?_
 (refine aw_ops (by kernel_rfl) (fun K hK => ?_); simp (disch := first | omega | (simp only [lnS]; try omega)) [-getElem?_pos, -getElem?_neg, q26, q28, -notTuple, p1, p2, nt_intG, nt_aggG, r1, -xindexAddr, r2, -xload, r5, hzl, all_zl, hset2, hle1]; refine hK _ _ ?_; clear hK K)
 obtain ⟨lw5, b9⟩ := boxed (H := G3) (iv .u8 z) 38
 obtain ⟨g, hg⟩ : ∃ g, g = G3.length := ⟨_, rfl⟩
 have lw6 := lw.both lw5
 have hF2 := hF.low (H' := G3 ++ ([some ⟨iv .u8 z, 38, none⟩] : AH)) (fun j hj => hget_left (hF.lt j hj))
 rw [← hg] at b9 ⊢
 generalize G3 ++ [some ⟨iv .u8 z, 38, none⟩] = G4 at *
 have xl9 : xload Try.prog 38 (.pointer (some ⟨g, 0, none⟩)) G4 = some (.agg (iv .u8 z).toArray) := by simp [xload, b9, hzl, htz]
 have f1 := find_rc (γ := γ) (hN.lowG lw6) hl hz32
 have f2 := qfind_rc (γ := γ) (hQ.lowG lw6) hq hz32
 have hwz : wantK l q z = (decide (findI l l.length z < 0) && decide (findIH q q.length z < 0)) := rfl
 generalize findI l l.length z = e1 at *
 generalize findIH q q.length z = e2 at *
 refine aw_seq ?_
 refine aw_cut (fun α G5 => α 41 = .bool (wantK l q z) ∧ α 0 = nv ∧ α 1 = qv ∧ α 5 = x ∧ α 9 = .pointer (some ⟨g, 0, none⟩) ∧ α 18 = qv ∧ α 19 = .int .i64 (q.length : Nat) ∧ α 20 = .int .i64 (i : Nat) ∧ α 26 = pv ∧ α 27 = .int .i64 (ps.length : Nat) ∧ α 28 = .int .i64 (k : Nat) ∧ G5 = G4) ?_ ?_
 ·refine aw_ops (by kernel_rfl) (fun K hK => ?_)
  simp (disch := first | omega | (simp only [lnS]; try omega)) [-getElem?_pos, -getElem?_neg, q0, -xload, xl9, -notTuple, n1, n2, nt_intG, nt_aggG, hzl]
  refine ⟨by kernel_rfl, ac_of_rc f1 (by simp [pv_iv, pv_int, pv_bool, pv_string, pv_tup2, pv_tup3, iv_plain, p2_int, p2_bool, p2_string]) ?_⟩
  by_cases h1 : e1 < 0
  ·rw [decide_eq_true h1, Bool.true_and] at hwz
   simp (disch := first | omega | (simp only [lnS]; try omega)) [-getElem?_pos, -getElem?_neg, h1, q1', -xload, xl9, -notTuple, q1, q2, nt_intG, nt_aggG, hzl]
   refine ⟨by kernel_rfl, ac_of_rc f2 (by simp [pv_iv, pv_int, pv_bool, pv_string, pv_tup2, pv_tup3, iv_plain, p2_int, p2_bool, p2_string]) ?_⟩
   by_cases h2 : e2 < 0
   ·rw [decide_eq_true h2] at hwz
    try simp (disch := first | omega | (simp only [lnS]; try omega)) [-getElem?_pos, -getElem?_neg, h2]
    refine hK _ _ ?_; clear hK K
    exact ⟨by rw [hwz]; (first | (simp [put_at, put_none, fr0_at]; done) | rfl), by (first | (simp [put_at, put_none, fr0_at, q0]; done) | rfl), by (first | (simp [put_at, put_none, fr0_at, q1']; done) | rfl), by (first | (simp [put_at, put_none, fr0_at, q5]; done) | rfl), by (first | (simp [put_at, put_none, fr0_at]; done) | rfl), by (first | (simp [put_at, put_none, fr0_at, q18]; done) | rfl), by (first | (simp [put_at, put_none, fr0_at, q19]; done) | rfl), by (first | (simp [put_at, put_none, fr0_at, q20]; done) | rfl), by (first | (simp [put_at, put_none, fr0_at, q26]; done) | rfl), by (first | (simp [put_at, put_none, fr0_at, q27]; done) | rfl), by (first | (simp [put_at, put_none, fr0_at, q28]; done) | rfl), rfl⟩
   ·rw [decide_eq_false h2] at hwz
    try simp (disch := first | omega | (simp only [lnS]; try omega)) [-getElem?_pos, -getElem?_neg, h2]
    refine hK _ _ ?_; clear hK K
    exact ⟨by rw [hwz]; (first | (simp [put_at, put_none, fr0_at]; done) | rfl), by (first | (simp [put_at, put_none, fr0_at, q0]; done) | rfl), by (first | (simp [put_at, put_none, fr0_at, q1']; done) | rfl), by (first | (simp [put_at, put_none, fr0_at, q5]; done) | rfl), by (first | (simp [put_at, put_none, fr0_at]; done) | rfl), by (first | (simp [put_at, put_none, fr0_at, q18]; done) | rfl), by (first | (simp [put_at, put_none, fr0_at, q19]; done) | rfl), by (first | (simp [put_at, put_none, fr0_at, q20]; done) | rfl), by (first | (simp [put_at, put_none, fr0_at, q26]; done) | rfl), by (first | (simp [put_at, put_none, fr0_at, q27]; done) | rfl), by (first | (simp [put_at, put_none, fr0_at, q28]; done) | rfl), rfl⟩
  ·rw [decide_eq_false h1, Bool.false_and] at hwz
   try simp (disch := first | omega | (simp only [lnS]; try omega)) [-getElem?_pos, -getElem?_neg, h1]
   refine hK _ _ ?_; clear hK K
   exact ⟨by rw [hwz]; (first | (simp [put_at, put_none, fr0_at]; done) | rfl), by (first | (simp [put_at, put_none, fr0_at, q0]; done) | rfl), by (first | (simp [put_at, put_none, fr0_at, q1']; done) | rfl), by (first | (simp [put_at, put_none, fr0_at, q5]; done) | rfl), by (first | (simp [put_at, put_none, fr0_at]; done) | rfl), by (first | (simp [put_at, put_none, fr0_at, q18]; done) | rfl), by (first | (simp [put_at, put_none, fr0_at, q19]; done) | rfl), by (first | (simp [put_at, put_none, fr0_at, q20]; done) | rfl), by (first | (simp [put_at, put_none, fr0_at, q26]; done) | rfl), by (first | (simp [put_at, put_none, fr0_at, q27]; done) | rfl), by (first | (simp [put_at, put_none, fr0_at, q28]; done) | rfl), rfl⟩
 clear q0 q1' q5 q18 q19 q20 q26 q27 q28
 rintro α G5 ⟨q41, q0, q1', q5, q9, q18, q19, q20, q26, q27, q28, rfl⟩
 cases hwk : wantK l q z with
 | false =>
  rw [hwk] at q41 hnx
  refine aw_f (by (first | (simp [eval_tmp, put_at, q41]; done) | (simp [eval_tmp, put_at, q41]; omega))) (by kernel_rfl) ?_
  refine aw_skip ?_
  (refine aw_ops (by kernel_rfl) (fun K hK => ?_); simp (disch := first | omega | (simp only [lnS]; try omega)) [-getElem?_pos, -getElem?_neg, q28]; refine hK _ _ ?_; clear hK K)
  exact ⟨c2 - 1, by omega, k + 1, x, F, by omega, lw6, by (first | (simp [put_at, put_none, fr0_at, q0]; done) | rfl), by (first | (simp [put_at, put_none, fr0_at, q1']; done) | rfl), by (first | (simp [put_at, put_none, fr0_at, q5]; done) | rfl), by (first | (simp [put_at, put_none, fr0_at, q18]; done) | rfl), by (first | (simp [put_at, put_none, fr0_at, q19]; done) | rfl), by (first | (simp [put_at, put_none, fr0_at, q20]; done) | rfl), by (first | (simp [put_at, put_none, fr0_at, q26]; done) | rfl), by (first | (simp [put_at, put_none, fr0_at, q27]; done) | rfl), by (first | (simp [put_at, put_none, fr0_at]; done) | rfl), by rw [hnx]; simpa using hF2, hFl⟩
 | true =>
 rw [hwk, if_pos rfl] at hnx
 rw [hwk] at q41
 refine aw_t (by (first | (simp [eval_tmp, put_at, q41]; done) | (simp [eval_tmp, put_at, q41]; omega))) (by kernel_rfl) ?_
 have hle3 := lw6.2
 have hfl := List.length_filter_le (wantK l q) (ps.take k)
 rw [List.length_take] at hfl
 have hk32' : K32 (W0 ++ (ps.take k).filter (wantK l q)) := fun y hy => by
  rcases List.mem_append.1 hy with hy | hy
  ·exact hkw y hy
  ·exact hk32 y (List.mem_of_mem_take (List.mem_filter.1 hy).1)
 have hkl := kr_len hk32'
 rw [List.length_append] at hkl
 obtain ⟨O, hO⟩ : ∃ O, O = W0 ++ (ps.take k).filter (wantK l q) := ⟨_, rfl⟩
 have hOn : W0 ++ (ps.take (k + 1)).filter (wantK l q) = O ++ [z] := by rw [hnx, hO, List.append_assoc]
 rw [← hO] at hkl hF2
 have hxc : xcells 32 (.slice (some ⟨G5.length, 0, none⟩) 1 1) (G5 ++ [some ⟨iv .u8 z, 38, some 32⟩]) = some (iv .u8 z) := by simp [xcells, hget_app0, hzl, htz]
 obtain ⟨v', G6, hap, ho3, hl3, hk3⟩ := ownF_append (P := Try.prog) (nro := nro) (t := 36) (e := 38) (H := G5 ++ [some ⟨iv .u8 z, 38, some 32⟩]) (v := x) (x := .slice (some ⟨G5.length, 0, none⟩) 1 1) (sz := 32) (cells := kr O) (news := iv .u8 z) (F := F) (by simp) (by simp) (by omega) (by simp) (hF2.low (fun j hj => hget_left (hF2.lt j hj)))
  (fun j hj => by have := hFl j hj; omega) (fun s e => by cases e) hxc (fun e => by rw [e] at hzl; simp at hzl) (by rw [hzl]) (by rw [hkl, hzl]; simp; omega) (by rw [hkl, hzl]; simp only [maxLen]; omega)
 have fk := fill_keyG (k := .u8) (x := z) (n := 32) (zl 32) hzl
 have hno : nro ≤ G5.length := by omega
 (refine aw_ops (by kernel_rfl) (fun K hK => ?_); simp (disch := first | omega | (simp only [lnS]; try omega)) [-getElem?_pos, -getElem?_neg, q5, q9, -xload, xl9, -notTuple, x1, x2, nt_intG, nt_slG, nt_aggG, all_zl, hzl, -xfill, fk, hno, -xappend, hap]; refine hK _ _ ?_; clear hK K)
 (refine aw_ops (by kernel_rfl) (fun K hK => ?_); simp (disch := first | omega | (simp only [lnS]; try omega)) [-getElem?_pos, -getElem?_neg, q28]; refine hK _ _ ?_; clear hK K)
 refine ⟨c2 - 1, by omega, k + 1, v', _, by omega, ⟨fun j hj => (hk3 j (by simp; omega) (fun h => by have := hFl _ h; omega)).trans ((hget_left (by omega)).trans (lw6.1 j hj)), by rw [hl3]; simp; omega⟩, by (first | (simp [put_at, put_none, fr0_at, q0]; done) | rfl), by (first | (simp [put_at, put_none, fr0_at, q1']; done) | rfl), by (first | (simp [put_at, put_none, fr0_at]; done) | rfl), by (first | (simp [put_at, put_none, fr0_at, q18]; done) | rfl), by (first | (simp [put_at, put_none, fr0_at, q19]; done) | rfl), by (first | (simp [put_at, put_none, fr0_at, q20]; done) | rfl), by (first | (simp [put_at, put_none, fr0_at, q26]; done) | rfl), by (first | (simp [put_at, put_none, fr0_at, q27]; done) | rfl), by (first | (simp [put_at, put_none, fr0_at]; done) | rfl), by rw [hOn, kr_app, kr_one]; exact ho3, fun j hj => ?_⟩
 rw [List.mem_singleton] at hj
 rw [hj]
 simp
 omega
end
section
def witE (l : List HeldD) (z : Int) : Int := if rightQ l = false then 1 else if z < 0 ∨ (l.length : Int) ≤ z then 22 else 0
def withoutL (l : List HeldD) (a : Nat) : List HeldD := l.take a ++ l.drop (a + 1)
def RWithQ (l : List HeldD) (z : Int) (H0 H : AH) (v' : Value) (H' : AH) : Prop :=
 Low H.length H H' ∧ ∃ sv, v' = .tuple #[sv, .int .i64 (witE l z)] ∧ notTuple sv = true ∧ sv.cells = #[sv] ∧ ((witE l z = 0 ∧ ∀ G, Low H0.length H0 G → KeepN H.length H' G → HdV G sv (withoutL l z.toNat)) ∨ (witE l z ≠ 0 ∧ sv = .slice none 0 0))
theorem RWithQ.bad {l : List HeldD} {y : Int} {H0 H H' : AH} {z : Int} (hl : Low H.length H H') (h : witE l y = z) (hz : z ≠ 0) : RWithQ l y H0 H (.tuple #[.slice none 0 0, .int .i64 z]) H' :=
 ⟨hl, _, by rw [h], rfl, rfl, .inr ⟨by rw [h]; exact hz, rfl⟩⟩
theorem fl_cut {R : List (List Value)} (h : ∀ r ∈ R, r.length = 104) {a : Nat} (ha : a ≤ R.length) : R.flatten.take (a * 104) = (R.take a).flatten ∧ R.flatten.drop (a * 104) = (R.drop a).flatten := by
 have h1 : R.flatten = (R.take a).flatten ++ (R.drop a).flatten := by rw [← List.flatten_append, List.take_append_drop]
 have h2 := fl_len (L := R.take a) (n := 104) (fun r hr => h r (List.mem_of_mem_take hr))
 rw [List.length_take, Nat.min_eq_left ha] at h2
 rw [h1]
 exact ⟨by rw [← h2, List.take_left], by rw [← h2, List.drop_left]⟩
attribute [local simp] wb_bool wb_undef with_lit XL_nil XL_cons XLc_val XLc_call step1_eq stepW_t stepW_f stepC_n stepC_s stepX_s stepX_n stepN_s calleeX xrecv oneV xop_eq xopR_s xopR_n wantedA_eq wantedG_n wantedG_s plain1_int plain1_bool plain1_string bits_i64 bits_u64 bits_u32 bits_u16 bits_u8 xeqA xagg xcmp xarr allK_iv num_iv calleeOf xread xeff xbin xint xnil xun xstr xload xconv xpart xfield xfieldAddr xindexAddr xindex bnd asInt? xslice xlen xmin xmax xbuild xfill xappend xapp2 xappstr xappmk xcap xcopy xcells eval_tmp eval_const put_at put_none fr0_at cells_agg cells_int cells_bool cells_string cells_ptr cells_slice notTuple tab iv_all hget_app hget_app0 hget_cons0 hget_cons set_app set_app0 setR setR_one QL_nil QL_cons QLc_val stepQ_t stepQ_f stepQC_n stepQC_s stepQX_s SL_nil SL_cons SLc_val stepS_t stepS_f ltT ltF leT leF eqT eqF ltTn ltFn leTn leFn eqTn eqFn beqT beqF bneT bneF wi64 wu64 wu32 wu16 wu8 tmodP tdivP hgetL hgetNe hgetEq setL nums_def nums_len Nat.succ_le_of_lt List.getElem?_cons_zero List.getElem?_cons_succ Option.getD_some Int.toNat_add Int.toNat_mul agM okM agB agI agS agP agL agA okB okI okS okP okSl okA
theorem held_parts {H0 : AH} {qv : Value} {l : List HeldD} {R : List (List Value)} {a : Nat} (hV : HdV H0 qv l) (hwf : ∀ y ∈ l, y.Wf) (ha : a < l.length) (hRl : R.length = l.length) (hRlen : ∀ r ∈ R, r.length = 104) (hRx : ∀ G, Low H0.length H0 G → xcells 104 qv G = some R.flatten) :
  ∃ x1 x2, (∀ G : AH, xslice Try.prog 58 qv none (some (.int .i64 (a : Nat))) G = some x1) ∧ (∀ G : AH, xslice Try.prog 58 qv (some (.int .i64 ((a + 1 : Nat) : Int))) none G = some x2) ∧ notTuple x1 = true ∧ x1.cells = #[x1] ∧ notTuple x2 = true ∧ x2.cells = #[x2] ∧ (∀ s, x1 ≠ .string s) ∧ (∀ s, x2 ≠ .string s) ∧
   (∀ G, Low H0.length H0 G → xcells 104 x1 G = some (R.take a).flatten) ∧ (∀ G, Low H0.length H0 G → xcells 104 x2 G = some (R.drop (a + 1)).flatten) := by
 obtain ⟨x, hx⟩ : ∃ x, l[0]? = some x := ⟨_, List.getElem?_eq_getElem (by omega)⟩
 obtain ⟨j, b, us, hv, hb, hle, _⟩ := val_at (P := Try.prog) (t := 58) (e := 60) (sz := 104) hV (by kernel_rfl) (by kernel_rfl) (by omega) (fun row hr => by
  obtain ⟨y, hy, rfl⟩ := List.mem_map.1 hr
  exact held_row_len (hwf y hy)) (i := 0) (row := x.row) (by rw [List.getElem?_map, hx]; rfl)
 rw [List.length_map] at hv hle
 subst hv
 have hF := hRx H0 (Low.refl (Nat.le_refl _))
 have hRf : R.flatten = b.cells.take (l.length * 104) := by
  unfold xcells at hF
  simp only [hb] at hF
  rw [if_pos (by omega), List.drop_zero] at hF
  exact (Option.some.inj hF).symm
 obtain ⟨f1, _⟩ := fl_cut hRlen (show a ≤ R.length by omega)
 obtain ⟨_, f2⟩ := fl_cut hRlen (show a + 1 ≤ R.length by omega)
 have ht : und Try.prog 58 = .slice 60 := by kernel_rfl
 have hs : szt Try.prog 60 = 104 := by kernel_rfl
 obtain ⟨x2, hx2⟩ : ∃ x2, x2 = if a + 1 = l.length then Value.slice (some ⟨j, 0, some 0⟩) 0 0 else .slice (some ⟨j, (a + 1) * 104, none⟩) (l.length - (a + 1)) (l.length - (a + 1)) := ⟨_, rfl⟩
 refine ⟨.slice (some ⟨j, 0, none⟩) a a, x2, fun G => ?_, fun G => ?_, rfl, rfl, by rw [hx2]; split <;> rfl, by rw [hx2]; split <;> rfl, fun s e => (by cases e), fun s e => (by rw [hx2] at e; split at e <;> cases e), fun G hG => ?_, fun G hG => ?_⟩
 ·unfold xslice
  simp only [ht, bnd, asInt?, hs]
  rw [if_pos ⟨by omega, by omega, by omega, by omega⟩]
  simp
 ·unfold xslice
  simp only [ht, bnd, asInt?, hs]
  rw [if_pos ⟨by omega, by omega, by omega, by omega⟩, hx2]
  by_cases e : a + 1 = l.length
  ·rw [if_pos ⟨by omega, by omega⟩, if_pos e]
  ·rw [if_neg (by omega), if_neg e]
   simp
 ·have hg := (hG.1 j (hget_lt hb)).trans hb
  unfold xcells
  simp only [hg]
  rw [if_pos (by omega), List.drop_zero, ← f1, hRf, List.take_take, Nat.min_eq_left (by omega)]
 ·have hg := (hG.1 j (hget_lt hb)).trans hb
  rw [hx2]
  by_cases e : a + 1 = l.length
  ·rw [if_pos e, List.drop_of_length_le (by omega)]
   rfl
  ·rw [if_neg e]
   unfold xcells
   simp only [hg]
   rw [if_pos (by omega), ← f2, hRf, List.drop_take]
   congr 2
   omega
theorem qrWithout_rc {γ : Nat → Option Nat} {H0 H : AH} {qv : Value} {l : List HeldD} {z : Int} (hV : HdV H0 qv l) (hwf : ∀ y ∈ l, y.Wf) (hl : l.length ≤ maxLen) (hH : Low H0.length H0 H) : AC Try.prog H.length γ 40 #[qv, .int .i64 z] H (RWithQ l z H0 H) := by
 have hQ := (hV.hda hwf).lowG hH
 obtain ⟨R, hRl, hR, hRx⟩ := helds_cells hV hwf
 have q1 := hQ.nt
 have q2 := hQ.cs
 have hxl := hQ.len
 have qr := qrRight_rc (γ := γ) hQ hl
 have k0 : witE l z = if rightQ l = false then 1 else if z < 0 ∨ (l.length : Int) ≤ z then 22 else 0 := rfl
 refine ac_of_aw Try.func40 rfl Try.ntmps40 Try.results40 (by simp) ?_
 refine aw_seq ?_
 (refine aw_ops (by kernel_rfl) (fun K hK => ?_); simp (disch := first | omega | (simp only [lnS]; try omega)) [-getElem?_pos, -getElem?_neg]; refine hK _ _ ?_; clear hK K)
 refine aw_seq ?_
 refine aw_seq ?_
 refine aw_ops (by kernel_rfl) (fun K hK => ?_)
 simp (disch := first | omega | (simp only [lnS]; try omega)) [-getElem?_pos, -getElem?_neg, -notTuple, q1, q2, nt_intG]
 refine ⟨by kernel_rfl, ac_of_rc qr (by simp [pv_iv, pv_int, pv_bool, pv_string, pv_tup2, pv_tup3, iv_plain, p2_int, p2_bool, p2_string]) ?_⟩
 cases hq : rightQ l with
 | false =>
  try simp (disch := first | omega | (simp only [lnS]; try omega)) [-getElem?_pos, -getElem?_neg]
  refine hK _ _ ?_; clear hK K
  refine aw_t (by (first | (simp [eval_tmp, put_at]; done) | (simp [eval_tmp, put_at]; omega))) (by kernel_rfl) ?_
  refine aw_seq ?_
  (refine aw_ops (by kernel_rfl) (fun K hK => ?_); simp (disch := first | omega | (simp only [lnS]; try omega)) [-getElem?_pos, -getElem?_neg, nt_slG, nt_intG]; refine hK _ _ ?_; clear hK K)
  (refine aw_ret ?_; simp (disch := first | omega | (simp only [lnS]; try omega)) [-getElem?_pos, -getElem?_neg, thenQ_ret, scopeQ_ret, inBlockQ_ret, RQ, resL, resV])
  exact RWithQ.bad (Low.refl (Nat.le_refl _)) (by rw [k0, if_pos hq]) (by decide)
 | true =>
 rw [hq, if_neg (by simp)] at k0
 try simp (disch := first | omega | (simp only [lnS]; try omega)) [-getElem?_pos, -getElem?_neg]
 refine hK _ _ ?_; clear hK K
 refine aw_f (by (first | (simp [eval_tmp, put_at]; done) | (simp [eval_tmp, put_at]; omega))) (by kernel_rfl) ?_
 refine aw_skip ?_
 refine aw_seq ?_
 refine aw_seq ?_
 refine aw_cut (fun α G => α 17 = .bool (decide (z < 0 ∨ (l.length : Int) ≤ z)) ∧ α 0 = qv ∧ α 1 = .int .i64 z ∧ H = G) ?_ ?_
 ·by_cases h0 : z < 0
  ·(refine aw_ops (by kernel_rfl) (fun K hK => ?_); simp (disch := first | omega | (simp only [lnS]; try omega)) [-getElem?_pos, -getElem?_neg, h0, nt_intG]; refine hK _ _ ?_; clear hK K)
   exact ⟨by rw [decide_eq_true (.inl h0)]; (first | (simp [put_at, put_none, fr0_at]; done) | rfl), by (first | (simp [put_at, put_none, fr0_at]; done) | rfl), by (first | (simp [put_at, put_none, fr0_at]; done) | rfl), rfl⟩
  ·by_cases h1 : (l.length : Int) ≤ z
   ·(refine aw_ops (by kernel_rfl) (fun K hK => ?_); simp (disch := first | omega | (simp only [lnS]; try omega)) [-getElem?_pos, -getElem?_neg, h0, h1, -notTuple, q1, q2, nt_intG, -xlen, hxl]; refine hK _ _ ?_; clear hK K)
    exact ⟨by rw [decide_eq_true (.inr h1)]; (first | (simp [put_at, put_none, fr0_at]; done) | rfl), by (first | (simp [put_at, put_none, fr0_at]; done) | rfl), by (first | (simp [put_at, put_none, fr0_at]; done) | rfl), rfl⟩
   ·(refine aw_ops (by kernel_rfl) (fun K hK => ?_); simp (disch := first | omega | (simp only [lnS]; try omega)) [-getElem?_pos, -getElem?_neg, h0, h1, -notTuple, q1, q2, nt_intG, -xlen, hxl]; refine hK _ _ ?_; clear hK K)
    exact ⟨by rw [decide_eq_false (fun h => h.elim h0 h1)]; (first | (simp [put_at, put_none, fr0_at]; done) | rfl), by (first | (simp [put_at, put_none, fr0_at]; done) | rfl), by (first | (simp [put_at, put_none, fr0_at]; done) | rfl), rfl⟩
 rintro α _ ⟨q17, q0, q1', rfl⟩
 by_cases hz : z < 0 ∨ (l.length : Int) ≤ z
 ·rw [decide_eq_true hz] at q17
  rw [if_pos hz] at k0
  refine aw_t (by (first | (simp [eval_tmp, put_at, q17]; done) | (simp [eval_tmp, put_at, q17]; omega))) (by kernel_rfl) ?_
  refine aw_seq ?_
  (refine aw_ops (by kernel_rfl) (fun K hK => ?_); simp (disch := first | omega | (simp only [lnS]; try omega)) [-getElem?_pos, -getElem?_neg, nt_slG, nt_intG]; refine hK _ _ ?_; clear hK K)
  (refine aw_ret ?_; simp (disch := first | omega | (simp only [lnS]; try omega)) [-getElem?_pos, -getElem?_neg, thenQ_ret, scopeQ_ret, inBlockQ_ret, RQ, resL, resV])
  exact RWithQ.bad (Low.refl (Nat.le_refl _)) k0 (by decide)
 rw [decide_eq_false hz] at q17
 rw [if_neg hz] at k0
 refine aw_f (by (first | (simp [eval_tmp, put_at, q17]; done) | (simp [eval_tmp, put_at, q17]; omega))) (by kernel_rfl) ?_
 refine aw_skip ?_
 obtain ⟨a, rfl⟩ : ∃ a : Nat, z = (a : Int) := ⟨z.toNat, by omega⟩
 have ha : a < l.length := by omega
 have hRlen : ∀ r ∈ R, r.length = 104 := fun r hr' => by
  obtain ⟨k, hk⟩ := List.getElem?_of_mem hr'
  have hkl := (List.getElem?_eq_some_iff.1 hk).1
  exact (hR k r _ hk (List.getElem?_eq_getElem (show k < l.length by omega))).1
 obtain ⟨x1, x2, s1, s2, a1, a2, d1, d2, g1, g2, c1, c2⟩ := held_parts hV hwf ha hRl hRlen hRx
 have hl24 := rightQ_len hq
 have l1 := fl_len (L := R.take a) (n := 104) (fun r hr => hRlen r (List.mem_of_mem_take hr))
 have l2 := fl_len (L := R.drop (a + 1)) (n := 104) (fun r hr => hRlen r (List.mem_of_mem_drop hr))
 rw [List.length_take] at l1
 rw [List.length_drop] at l2
 obtain ⟨n, hn0⟩ : ∃ n, n = H.length := ⟨_, rfl⟩
 have hH2 := hH.2
 obtain ⟨w1, A1, F1, ap1, o1, le1, kp1, nf1⟩ := ownF_app (P := Try.prog) (nro := n) (t := 58) (e := 60) (H := H) (v := .slice none 0 0) (x := x1) (sz := 104) (cells := []) (news := (R.take a).flatten) (F := []) (by simp) (by simp) (by omega) (by simp) (.inl ⟨rfl, rfl, rfl⟩) (fun j hj => by cases hj) g1 (c1 H hH) (by rw [l1]; omega) (by rw [l1]; simp; omega) (by rw [l1]; simp only [List.length_nil, maxLen]; omega)
 rw [List.nil_append] at o1
 obtain ⟨w11, w12⟩ := own_nt o1
 have hlow1 : Low H0.length H0 A1 := ⟨fun j hj => (kp1 j (by omega) (by simp)).trans (hH.1 j hj), by omega⟩
 obtain ⟨w2, A2, F2, ap2, o2, le2, kp2, nf2⟩ := ownF_app (P := Try.prog) (nro := n) (t := 58) (e := 60) (H := A1) (v := w1) (x := x2) (sz := 104) (cells := (R.take a).flatten) (news := (R.drop (a + 1)).flatten) (F := F1) (by simp) (by simp) (by omega) (by simp) o1 (fun j hj => by have := nf1 j hj; omega) g2 (c2 A1 hlow1) (by rw [l2]; omega) (by rw [l1, l2]; simp; omega) (by rw [l1, l2]; simp only [maxLen]; omega)
 obtain ⟨w21, w22⟩ := own_nt o2
 obtain ⟨a', ha'⟩ : ∃ a', a' = a + 1 := ⟨_, rfl⟩
 rw [← ha'] at s2
 have hai : (a : Int) + 1 = (a' : Int) := by omega
 have hai2 : IntKind.i64.wrap (a' : Int) = (a' : Int) := wi64 (by omega)
 rw [← hn0]
 refine aw_seq ?_
 (refine aw_ops (by kernel_rfl) (fun K hK => ?_); simp (disch := first | omega | (simp only [lnS]; try omega)) [-getElem?_pos, -getElem?_neg]; refine hK _ _ ?_; clear hK K)
 refine aw_seq ?_
 (refine aw_ops (by kernel_rfl) (fun K hK => ?_); simp (disch := first | omega | (simp only [lnS]; try omega)) [-getElem?_pos, -getElem?_neg, q0, q1', -notTuple, q1, q2, a1, a2, nt_intG, nt_slG, -xslice, s1, -xappend, ap1]; refine hK _ _ ?_; clear hK K)
 refine aw_seq ?_
 (refine aw_ops (by kernel_rfl) (fun K hK => ?_); simp (disch := first | omega | (simp only [lnS]; try omega)) [-getElem?_pos, -getElem?_neg, q0, q1', hai, hai2, -notTuple, q1, q2, d1, d2, w11, w12, w21, w22, nt_intG, nt_slG, -xslice, s2, -xappend, ap2]; refine hK _ _ ?_; clear hK K)
 (refine aw_ret ?_; simp (disch := first | omega | (simp only [lnS]; try omega)) [-getElem?_pos, -getElem?_neg, thenQ_ret, scopeQ_ret, inBlockQ_ret, RQ, resL, resV])
 refine ⟨_, ⟨w21, rfl⟩, ?_⟩
 have kp : ∀ j, j < H.length → hget A2 j = hget H j := fun j hj => (kp2 j (by omega) (fun h => by have := nf1 j h; omega)).trans (kp1 j hj (by simp))
 refine ⟨⟨fun j hj => kp j (by omega), by omega⟩, w2, by rw [k0], w21, w22, .inl ⟨k0, fun D hD0 hD => ?_⟩⟩
 rw [Int.toNat_natCast]
 rw [← List.flatten_append] at o2
 unfold withoutL
 have hlen : (R.take a ++ R.drop (a + 1)).length = (l.take a ++ l.drop (a + 1)).length := by
  rw [List.length_append, List.length_append, List.length_take, List.length_take, List.length_drop, List.length_drop, hRl]
 have hwL : ∀ y ∈ l.take a ++ l.drop (a + 1), y.Wf := fun y hy => by
  rcases List.mem_append.1 hy with hy | hy
  ·exact hwf y (List.mem_of_mem_take hy)
  ·exact hwf y (List.mem_of_mem_drop hy)
 have hrow : ∀ (k : Nat) (us' : List Value) (y : HeldD), (R.take a ++ R.drop (a + 1))[k]? = some us' → (l.take a ++ l.drop (a + 1))[k]? = some y → us'.length = 104 ∧ ValL D y.row us' := fun k us' y hk hy => by
  have h1 : (R.take a).length = a := by rw [List.length_take]; omega
  have h2 : (l.take a).length = a := by rw [List.length_take]; omega
  rcases Nat.lt_or_ge k a with hka | hka
  ·rw [List.getElem?_append_left (by omega), List.getElem?_take_of_lt hka] at hk hy
   have := hR k us' y hk hy
   exact ⟨this.1, this.2 D hD0⟩
  ·rw [List.getElem?_append_right (by omega), List.getElem?_drop] at hk hy
   rw [h1] at hk
   rw [h2] at hy
   have := hR _ us' y hk hy
   exact ⟨this.1, this.2 D hD0⟩
 rcases o2 with ⟨rfl, he, _⟩ | ⟨b, len, rfl, hb, hbl, rfl⟩
 ·have hl0 : (l.take a ++ l.drop (a + 1)) = [] := by
   have h3 := congrArg List.length he
   rw [List.flatten_append, List.length_append, l1, l2] at h3
   rw [← List.length_eq_zero_iff, ← hlen, List.length_append, List.length_take, List.length_drop]
   simp at h3
   omega
  rw [hl0]
  exact .nil (fun x e => by cases e)
 ·have hbn := nf2 b (by simp)
  have hbl2 := hget_lt hb
  have hlen2 : len = (l.take a ++ l.drop (a + 1)).length := by
   rw [List.flatten_append, List.length_append, l1, l2] at hbl
   rw [← hlen, List.length_append, List.length_take, List.length_drop]
   omega
  rw [hlen2]
  exact rows_valH (D := D) (b := b) (T := 60) (es := some 104) (R := R.take a ++ R.drop (a + 1)) (L := l.take a ++ l.drop (a + 1)) (by rw [hD b (by omega) hbl2, hb]) hlen hwL hrow
end
end Go.Proofs.Ytdeccbjdhcifiaa
