/-
  deep.Nodes: a graph, copied into new memory.
  graph.Same: are two graphs the same?
  What holds of right graphs: pasts, authors, heads.
  Keys sorted: the insertion sort of the library, for at most twelve of them.
  graph.Heads.
  graph.Add.
  The vector that every right program answers: three nodes, put behind one another.
  GraphOrder: the law, walked.
  GraphHeads: the law, walked.
  cabalref15.Right: is it a graph?
-/
import Derived.Test.YtcbfbmdglhlbmaaMrF
import Derived.Test.YtcbfbmdglhlbmaaMrC
import Derived.Test.YtcbfbmdglhlbmaaMrE
namespace Go.Proofs.Ytcbfbmdglhlbmaa
open Go Go.RowKit
set_option linter.unusedSimpArgs false
set_option linter.unusedVariables false
set_option maxRecDepth 100000
set_option maxHeartbeats 4000000
section
theorem put3 {Z A B : List Value} {q : Value} (hA : A.length = 32) (hB : B.length = 71) (hZ : Z.length = 104) : setR (setR (setR Z 0 A) 32 B) 103 [q] = A ++ (B ++ [q]) := by
  have e1 := setR_frontF Z A (by omega)
  rw [e1]
  have l1 : (Z.drop A.length).length = 72 := by rw [List.length_drop]; omega
  have e2 := setR_right A (Z.drop A.length) B 0 (by omega)
  rw [Nat.add_zero] at e2
  rw [show (32 : Nat) = A.length by omega, e2, setR_frontF _ B (by omega)]
  rw [show (103 : Nat) = A.length + 71 by omega, setR_right A _ [q] 71 (by rw [List.length_append, List.length_drop, l1]; simp; omega)]
  congr 1
  have e3 := setR_right B ((Z.drop A.length).drop B.length) [q] 0 (by rw [List.length_drop, l1]; simp; omega)
  rw [Nat.add_zero] at e3
  rw [show (71 : Nat) = B.length by omega, e3, setR_frontF _ [q] (by rw [List.length_drop, l1]; simp; omega)]
  rw [List.drop_of_length_le (l := (Z.drop A.length).drop B.length) (by rw [List.length_drop, l1]; simp; omega), List.append_nil]
theorem build_node {x : NodeD} {pv wv bv qv : Value} (hw : x.Wf) (h1 : notTuple qv = true) (h2 : qv.cells = #[qv]) : xbuild Try.prog 39 [(0, .agg (iv .u8 x.id).toArray), (1, .agg (opRow x.op pv wv bv).toArray), (2, qv)] = some (.agg (nodeRow x pv wv bv qv).toArray) := by
  have hf : flds Try.prog 39 = some [(24, 0), (37, 32), (34, 103)] := by kernel_rfl
  obtain ⟨z, hz⟩ : ∃ z, zer Try.prog 39 = some z := by
    have : (zer Try.prog 39).isSome = true := by kernel_rfl
    exact Option.isSome_iff_exists.1 this
  have hzl : z.cells.toList.length = 104 := by
    have : (zer Try.prog 39).map (fun z => z.cells.toList.length) = some 104 := by kernel_rfl
    rw [hz] at this
    simpa using this
  have hzp : z.cells.toList.all plain1 = true := by
    have : (zer Try.prog 39).map (fun z => z.cells.toList.all plain1) = some true := by kernel_rfl
    rw [hz] at this
    simpa using this
  have s1 : szt Try.prog 24 = 32 := by kernel_rfl
  have s2 : szt Try.prog 37 = 71 := by kernel_rfl
  have s3 : szt Try.prog 34 = 1 := by kernel_rfl
  have hA : (iv .u8 x.id).length = 32 := by rw [iv_length]; exact hw.id.1
  have hB := opRow_len hw.op pv wv bv
  have hp := put3 (q := qv) hA hB hzl
  unfold xbuild
  simp only [hf, hz]
  rw [if_pos ⟨by simp [s1, s2, s3], hzp, by simp only [List.all_cons, List.all_nil, h1, Bool.and_true]; rfl⟩]
  generalize z.cells.toList = Z at *
  unfold nodeRow
  generalize iv .u8 x.id = A at *
  generalize opRow x.op pv wv bv = B at *
  have c1 : (Value.agg A.toArray).cells = A.toArray := rfl
  have c2 : (Value.agg B.toArray).cells = B.toArray := rfl
  simp only [xfill, List.getElem?_cons_zero, List.getElem?_cons_succ, Option.map_some, s1, s2, s3, c1, c2, h2]
  rw [if_pos ⟨by simp [hA], by simp; omega⟩]
  rw [if_pos ⟨by simp [hB], by simp; omega⟩]
  rw [if_pos ⟨by simp, by simp; omega⟩]
  rw [hp]
def nodeN (pv wv bv qv : Value) : Nat := 2 + opN pv wv bv + clN qv
def SmN (x : NodeD) : Prop := SmO x.op ∧ x.past.length ≤ 1000
/-- A copied node's row. -/
def nodeCp (x : NodeD) (pv wv bv qv : Value) (n : Nat) : List Value := nodeRow x (opP pv (n + 2)) (opW pv wv (n + 2)) (opB pv wv bv (n + 2)) (clV qv (n + 2 + opN pv wv bv))
def DeepN (H : AH) (x : NodeD) (pv wv bv qv : Value) (v' : Value) (H' : AH) : Prop :=
  v' = .agg (nodeCp x pv wv bv qv H.length).toArray ∧ H'.length = H.length + nodeN pv wv bv qv ∧ Low H.length H H' ∧ ∀ G, KeepN H.length H' G → ValL G x.row (nodeCp x pv wv bv qv H.length)
theorem KeepN.trans {n : Nat} {A B C : AH} (h : KeepN n A B) (k : KeepN n B C) (hl : A.length ≤ B.length) : KeepN n A C := fun j h1 h2 => (k j h1 (by omega)).trans (h j h1 h2)
theorem opRow_off {x : NodeD} (hw : x.Wf) (pv wv bv qv : Value) : (nodeRow x pv wv bv qv).take 32 = iv .u8 x.id ∧ ((nodeRow x pv wv bv qv).drop 32).take 71 = opRow x.op pv wv bv ∧ (nodeRow x pv wv bv qv)[103]? = some qv := by
  have hA : (iv .u8 x.id).length = 32 := by rw [iv_length]; exact hw.id.1
  have hB := opRow_len hw.op pv wv bv
  unfold nodeRow
  refine ⟨?_, ?_, ?_⟩
  · rw [List.take_append_of_le_length (by omega), List.take_of_length_le (by omega)]
  · rw [List.drop_append_of_le_length (by omega), List.drop_of_length_le (by omega), List.nil_append, List.take_append_of_le_length (by omega), List.take_of_length_le (by omega)]
  · rw [List.getElem?_append_right (by omega), List.getElem?_append_right (by omega), hA, hB]
    rfl
attribute [local simp] wb_bool wb_undef with_lit XL_nil XL_cons XLc_val XLc_call step1_eq stepW_t stepW_f stepC_n stepC_s stepX_s stepX_n stepN_s calleeX oneV xop_eq xopR_s xopR_n wantedA_eq wantedG_n wantedG_s plain1_int plain1_bool plain1_string bits_i64 bits_u64 bits_u32 bits_u16 bits_u8 xeqA xagg xcmp xarr allK_iv num_iv calleeOf xread xeff xbin xint xnil xun xstr xload xconv xpart xfield xfieldAddr xindexAddr xindex bnd asInt? xslice xlen xmin xmax xbuild xfill xappend xapp2 xappstr xappmk xcap xcopy xcells eval_tmp eval_const put_at put_none fr0_at cells_agg cells_int cells_bool cells_string cells_ptr cells_slice notTuple tab iv_all hget_app hget_app0 hget_cons0 hget_cons set_app set_app0 setR setR_one QL_nil QL_cons QLc_val stepQ_t stepQ_f stepQC_n stepQC_s stepQX_s SL_nil SL_cons SLc_val stepS_t stepS_f ltT ltF leT leF eqT eqF ltTn ltFn leTn leFn eqTn eqFn beqT beqF bneT bneF wi64 wu64 wu32 wu16 wu8 tmodP tdivP hgetL hgetNe hgetEq setL nums_def nums_len Nat.succ_le_of_lt List.getElem?_cons_zero List.getElem?_cons_succ Option.getD_some Int.toNat_add Int.toNat_mul agM okM agB agI agS agP agL agA okB okI okS okP okSl okA
theorem nodes1_ac {nro : Nat} {γ : Nat → Option Nat} {H : AH} {us : List Value} {x : NodeD} {pv wv bv qv : Value} (h : NodeC H us x pv wv bv qv) (hw : x.Wf) (hs : SmN x) (hnro : nro ≤ H.length) : AC Try.prog nro γ 72 #[.agg us.toArray] H (DeepN H x pv wv bv qv) := by
  have hrow := h.row hw
  have hul := h.len
  obtain ⟨q1, q2, q3⟩ := opRow_off hw pv wv bv qv
  rw [← hrow] at q1 q2 q3
  have hivl : (iv .u8 x.id).length = 32 := by rw [iv_length]; exact hw.id.1
  have hopl := opRow_len hw.op pv wv bv
  have hQ := h.past
  have nq := val_nt hQ
  have nq' := clV_nt hQ (H.length + 2 + opN pv wv bv)
  have hbl := build_node (pv := opP pv (H.length + 2)) (wv := opW pv wv (H.length + 2)) (bv := opB pv wv bv (H.length + 2)) hw nq'.1 nq'.2
  have hopC : ∀ G : AH, Low H.length H G → OpC G (opRow x.op pv wv bv) x.op pv wv bv := fun G hG => by
    have := h.op.low hG.1
    rwa [q2] at this
  have hr3l := nodeRow_len hw (opP pv (H.length + 2)) (opW pv wv (H.length + 2)) (opB pv wv bv (H.length + 2)) (clV qv (H.length + 2 + opN pv wv bv))
  obtain ⟨R, hR⟩ : ∃ R, R = nodeRow x (opP pv (H.length + 2)) (opW pv wv (H.length + 2)) (opB pv wv bv (H.length + 2)) (clV qv (H.length + 2 + opN pv wv bv)) := ⟨_, rfl⟩
  rw [← hR] at hbl hr3l
  have hset : ∀ Z : List Value, Z.length = 104 → setR Z 0 R = R := fun Z hZ => setR_all _ _ (by omega)
  have htk : R.take 104 = R := List.take_of_length_le (by omega)
  have hopv : notTuple (.agg (opRow x.op (opP pv (H.length + 2)) (opW pv wv (H.length + 2)) (opB pv wv bv (H.length + 2))).toArray) = true := rfl
  refine ac_of_aw Try.func72 rfl Try.ntmps72 Try.results72 (by simp) ?_
  refine aw_seq ?_
  (refine aw_ops (by kernel_rfl) (fun K hK => ?_); simp (disch := first | omega | (simp only [lnS]; try omega; done)) [-getElem?_pos, -getElem?_neg, hul, nt_aggG, all_zl]; refine hK _ _ ?_; clear hK K)
  obtain ⟨ZZ, hZZ, hZl⟩ : ∃ ZZ : List Value, (iv .u8 (zl 32) ++ Value.int .i64 0 :: .int .u32 0 :: .slice none 0 0 :: .int .i64 0 :: .slice none 0 0 :: (iv .u8 (zl 64) ++ [.string ByteArray.empty, .slice none 0 0, .slice none 0 0])) = ZZ ∧ ZZ.length = 104 := ⟨_, rfl, by simp⟩
  rw [hZZ]
  have hset := hset ZZ hZl
  obtain ⟨G, hG⟩ : ∃ G : AH, G = H ++ [some ⟨us, 39, none⟩, some ⟨ZZ, 39, none⟩] := ⟨_, rfl⟩
  have b1 : hget G H.length = some ⟨us, 39, none⟩ := by rw [hG, hget_app0]; rfl
  have b2 : hget G (H.length + 1) = some ⟨ZZ, 39, none⟩ := by rw [hG, hget_app]; rfl
  have lw : Low H.length H G := hG ▸ Low.push (Nat.le_refl _) _
  have gl : G.length = H.length + 2 := by simp [hG]
  rw [← hG]
  clear hG
  have kO := hopC G lw
  have kQ : InV G qv x.past := CD.Val.low (fun j hj => lw.1 j hj) hQ
  have hcO := deepOp_ac (nro := nro) (γ := γ) kO hw.op hs.1 (by omega)
  unfold DeepO at hcO
  rw [gl] at hcO
  unfold DeepN nodeN nodeCp
  obtain ⟨n, hn⟩ : ∃ n, n = H.length := ⟨_, rfl⟩
  rw [← hR]
  rw [← hn] at lw gl b1 b2 nq' hbl hR hnro hcO ⊢
  obtain ⟨ov, hov⟩ : ∃ ov, ov = opRow x.op (opP pv (n + 2)) (opW pv wv (n + 2)) (opB pv wv bv (n + 2)) := ⟨_, rfl⟩
  rw [← hov] at hcO hbl
  have hcells : R = iv .u8 x.id ++ (ov ++ [clV qv (n + 2 + opN pv wv bv)]) := by rw [hR, hov]; rfl
  refine aw_seq ?_
  obtain ⟨Φ, e0, e1, e2, e3, eS⟩ : ∃ Φ : Nat → AH → Prop, (∀ A, Φ 0 A ↔ A = G) ∧ (∀ A, Φ 1 A ↔ (A.length = n + 2 + opN pv wv bv ∧ Low (n + 2) G A ∧ NewO (n + 2) A x.op (opP pv (n + 2)) (opW pv wv (n + 2)) (opB pv wv bv (n + 2)))) ∧
      (∀ A, Φ 2 A ↔ (A.length = n + 2 + opN pv wv bv + clN qv ∧ Low (n + 2) G A ∧ NewO (n + 2) A x.op (opP pv (n + 2)) (opW pv wv (n + 2)) (opB pv wv bv (n + 2)) ∧ ∃ F, OwnF A (clV qv (n + 2 + opN pv wv bv)) 3 1 (isC x.past) F ∧ ∀ j ∈ F, n + 2 ≤ j)) ∧
      (∀ A, Φ 3 A ↔ ∃ B, Φ 2 B ∧ A = B.set (n + 1) (some ⟨R, 39, none⟩)) ∧ (∀ s A, Φ s A → hget A n = hget G n) := by
    refine ⟨fun s A => match s with
      | 0 => A = G
      | 1 => A.length = n + 2 + opN pv wv bv ∧ Low (n + 2) G A ∧ NewO (n + 2) A x.op (opP pv (n + 2)) (opW pv wv (n + 2)) (opB pv wv bv (n + 2))
      | 2 => A.length = n + 2 + opN pv wv bv + clN qv ∧ Low (n + 2) G A ∧ NewO (n + 2) A x.op (opP pv (n + 2)) (opW pv wv (n + 2)) (opB pv wv bv (n + 2)) ∧ ∃ F, OwnF A (clV qv (n + 2 + opN pv wv bv)) 3 1 (isC x.past) F ∧ ∀ j ∈ F, n + 2 ≤ j
      | _ => ∃ B : AH, (B.length = n + 2 + opN pv wv bv + clN qv ∧ Low (n + 2) G B ∧ NewO (n + 2) B x.op (opP pv (n + 2)) (opW pv wv (n + 2)) (opB pv wv bv (n + 2)) ∧ ∃ F, OwnF B (clV qv (n + 2 + opN pv wv bv)) 3 1 (isC x.past) F ∧ ∀ j ∈ F, n + 2 ≤ j) ∧ A = B.set (n + 1) (some ⟨R, 39, none⟩), fun _ => Iff.rfl, fun _ => Iff.rfl, fun _ => Iff.rfl, fun _ => Iff.rfl, fun s A h => ?_⟩
    match s, h with
    | 0, h => cases h; rfl
    | 1, h => exact h.2.1.1 n (by omega)
    | 2, h => exact h.2.1.1 n (by omega)
    | s + 3, ⟨B, h, hA⟩ => rw [hA, hget_set_ne (by omega)]; exact h.2.1.1 n (by omega)
  refine aw_chain (fun j => j == n) Φ (by kernel_rfl) (by kernel_rfl) (by kernel_rfl) (fun s A h j hj => by
    have e : j = n := by simpa using hj
    rw [e]; exact eS s A h) ((e0 _).2 rfl) (fun K hK => ?_)
  simp (disch := first | omega | (simp only [lnS]; try omega; done)) [-getElem?_pos, -getElem?_neg, b1, hul, q1, q2, q3, hivl, hopl, -notTuple, nq.1, nq.2, nt_aggG, CL_nil, CL_cons, CLc_val, CLc_skip, memS, inS, inSp, isCallF, effF]
  refine CLc_call (v := .agg ov.toArray) (by kernel_rfl) (fun A hA => ?_) ?_
  · obtain rfl := (e0 _).1 hA
    exact hcO.mono fun v' A' h => ⟨h.1, (e1 _).2 ⟨h.2.1, h.2.2.1, h.2.2.2⟩⟩
  try simp (disch := first | omega | (simp only [lnS]; try omega; done)) [-getElem?_pos, -getElem?_neg, b1, hul, q1, q2, q3, hivl, hopl, -notTuple, nq.1, nq.2, nt_aggG, CL_nil, CL_cons, CLc_val, CLc_skip, memS, inS, inSp, isCallF, effF]
  refine CLc_call (v := clV qv (n + 2 + opN pv wv bv)) (by kernel_rfl) (fun A hA => ?_) ?_
  · obtain ⟨g1, g2, g3⟩ := (e1 _).1 hA
    have kQ2 : InV A qv x.past := CD.Val.low (fun j hj => g2.1 j (by omega)) kQ
    refine (cloneI_ac (nro := nro) (γ := γ) kQ2 (by omega) (by have := hs.2; omega)).mono ?_
    rintro v' A' ⟨h1, h2, h3, F, h4, h5⟩
    rw [g1] at h1 h2 h3 h5
    refine ⟨h1, (e2 _).2 ⟨h2, ⟨fun j hj => (h3.1 j (by omega)).trans (g2.1 j hj), by have := h3.2; omega⟩, fun B hB => g3 B (KeepN.trans (fun j _ hj => h3.1 j (by omega)) hB (by have := h3.2; omega)), F, by rw [← h1]; exact h4, fun j hj => by have := h5 j hj; omega⟩⟩
  try simp (disch := first | omega | (simp only [lnS]; try omega; done)) [-getElem?_pos, -getElem?_neg, b1, hul, q1, q2, q3, hivl, hopl, -notTuple, nq'.1, nq'.2, nt_aggG, -xbuild, hbl, CL_nil, CL_cons, CLc_val, CLc_skip, memS, inS, inSp, isCallF, effF]
  refine CLc_eff (v := undef) (fun A hA => ?_) ?_
  · have hA2 := hA
    obtain ⟨g1, g2, g3, F, g4, g5⟩ := (e2 _).1 hA2
    have c2 : hget A (n + 1) = some ⟨ZZ, 39, none⟩ := (g2.1 (n + 1) (by omega)).trans b2
    refine ⟨_, ?_, (e3 _).2 ⟨A, hA, rfl⟩⟩
    simp (disch := first | omega | (simp only [lnS]; try omega; done)) [-getElem?_pos, -getElem?_neg, c2, hZl, hset, hr3l, nt_aggG]
  try simp (disch := first | omega | (simp only [lnS]; try omega; done)) [-getElem?_pos, -getElem?_neg, CL_nil, CL_cons, CLc_val, CLc_skip, memS, inS, inSp, isCallF, effF]
  intro A hA
  obtain ⟨B, hB, rfl⟩ := (e3 _).1 hA
  obtain ⟨g1, g2, g3, F, g4, g5⟩ := (e2 _).1 hB
  have hFl := g4.lt
  have c2 : hget B (n + 1) = some ⟨ZZ, 39, none⟩ := (g2.1 (n + 1) (by omega)).trans b2
  have z1 : hget (B.set (n + 1) (some ⟨R, 39, none⟩)) (n + 1) = some ⟨R, 39, none⟩ := hget_set_eq (hget_lt c2)
  have z2 : ∀ j, j ≠ n + 1 → hget (B.set (n + 1) (some ⟨R, 39, none⟩)) j = hget B j := fun j hj => hget_set_ne (fun e => hj e.symm)
  have z3 : (B.set (n + 1) (some ⟨R, 39, none⟩)).length = B.length := by rw [List.length_set]
  generalize B.set (n + 1) (some ⟨R, 39, none⟩) = C at *
  refine hK _ _ ?_; clear hK K
  (refine aw_ret ?_; simp (disch := first | omega | (simp only [lnS]; try omega; done)) [-getElem?_pos, -getElem?_neg, thenQ_ret, scopeQ_ret, inBlockQ_ret, RQ, resL, resV, z1, hr3l, htk])
  refine ⟨⟨fun j hj => (z2 j (by omega)).trans ((g2.1 j (by omega)).trans (lw.1 j hj)), by have := lw.2; omega⟩, fun D hD => ?_⟩
  rw [hR]
  obtain ⟨k1, k2, k3⟩ := g3 D (fun j h1 h2 => (hD j (by omega) (by omega)).trans (z2 j (by omega)))
  have g4 := g4.low (H' := D) (fun j hj => (hD j (by have := g5 j hj; omega) (by have := hFl j hj; omega)).trans (z2 j (by have := g5 j hj; omega)))
  exact node_val k1 k2 k3 (own_val (by omega) g4 (int_len _) (int_flat _))
theorem nodes1_callable : callable Try.prog 72 = true := by kernel_rfl
/-- Rows of new memory that show nodes. -/
def NewRows (n : Nat) (H : AH) (R : List (List Value)) (l : List NodeD) : Prop := R.length = l.length ∧ ∀ (k : Nat) (us : List Value) (x : NodeD), R[k]? = some us → l[k]? = some x → us.length = 104 ∧ ∀ G, KeepN n H G → ValL G x.row us
theorem NewRows.keep {n : Nat} {H G : AH} {R : List (List Value)} {l : List NodeD} (h : NewRows n H R l) (hk : KeepN n H G) (hl : H.length ≤ G.length) : NewRows n G R l :=
  ⟨h.1, fun k us x h1 h2 => ⟨(h.2 k us x h1 h2).1, fun B hB => (h.2 k us x h1 h2).2 B (hk.trans hB hl)⟩⟩
theorem row_put {R : List (List Value)} {Z us : List Value} {i : Nat} (hR : ∀ r ∈ R, r.length = 104) (hl : R.length = i) (hu : us.length = 104) (hZ : 104 ≤ Z.length) : setR (R.flatten ++ Z) (i * 104) us = (R ++ [us]).flatten ++ Z.drop 104 := by
  have hfl := fl_len hR
  rw [hl] at hfl
  have e := setR_right R.flatten Z us 0 (by omega)
  rw [Nat.add_zero, hfl] at e
  rw [e, setR_frontF _ _ (by omega), hu, List.flatten_append]
  simp
theorem NewRows.len {n : Nat} {H : AH} {R : List (List Value)} {l : List NodeD} (h : NewRows n H R l) : ∀ r ∈ R, r.length = 104 := fun r hr => by
  obtain ⟨k, hk⟩ := List.getElem?_of_mem hr
  have hkl := (List.getElem?_eq_some_iff.1 hk).1
  have := h.1
  exact (h.2 k r _ hk (List.getElem?_eq_getElem (show k < l.length by omega))).1
theorem NewRows.push {n : Nat} {H : AH} {R : List (List Value)} {l : List NodeD} {us : List Value} {x : NodeD} (h : NewRows n H R l) (h1 : us.length = 104) (h2 : ∀ G, KeepN n H G → ValL G x.row us) : NewRows n H (R ++ [us]) (l ++ [x]) := by
  have hl := h.1
  refine ⟨by simp [hl], fun k r y hr hy => ?_⟩
  rcases Nat.lt_or_ge k R.length with hk | hk
  · rw [List.getElem?_append_left hk] at hr
    rw [List.getElem?_append_left (by omega)] at hy
    exact h.2 k r y hr hy
  · rw [List.getElem?_append_right hk] at hr
    rw [List.getElem?_append_right (by omega)] at hy
    rw [hl] at hr
    match k - l.length, hr, hy with
    | 0, hr, hy => cases hr; cases hy; exact ⟨h1, h2⟩
theorem node_row_len {x : NodeD} (hw : x.Wf) : x.row.length = 104 := by
  have h1 := hw.id.1
  have h2 := hw.op.of.1
  have h3 := hw.op.check.1
  simp [NodeD.row, OpD.row, kd, h1, h2, h3]
/-- Rows that show nodes make a slice of them. -/
theorem rows_val {D : AH} {b : Nat} {T : TypeId} {es : Option Nat} {R : List (List Value)} {L : List NodeD} (hb : hget D b = some ⟨R.flatten, T, es⟩) (hl : R.length = L.length) (hw : ∀ x ∈ L, x.Wf) (h : ∀ (k : Nat) (us : List Value) (x : NodeD), R[k]? = some us → L[k]? = some x → us.length = 104 ∧ ValL D x.row us) : NdV D (.slice (some ⟨b, 0, none⟩) L.length L.length) L := by
  have hR : ∀ r ∈ R, r.length = 104 := fun r hr => by
    obtain ⟨k, hk⟩ := List.getElem?_of_mem hr
    have hkl := (List.getElem?_eq_some_iff.1 hk).1
    exact (h k r _ hk (List.getElem?_eq_getElem (show k < L.length by omega))).1
  have := CD.Val.sl (H := D) (sz := 104) (rows := L.map NodeD.row) hb (by rw [List.length_map]; show _ ≤ R.flatten.length; rw [fl_len hR, hl]; exact Nat.le_refl _) (fun row hr => by
    obtain ⟨x, hx, rfl⟩ := List.mem_map.1 hr
    exact node_row_len (hw x hx)) (fun i row c d v hi hc hv => by
    rw [List.getElem?_map] at hi
    cases hx : L[i]? with
    | none => rw [hx] at hi; cases hi
    | some x =>
      rw [hx] at hi
      cases hi
      have hil := (List.getElem?_eq_some_iff.1 hx).1
      obtain ⟨us, hus⟩ : ∃ us, R[i]? = some us := ⟨_, List.getElem?_eq_getElem (by omega)⟩
      obtain ⟨h1, h2⟩ := h i us x hus hx
      have hcl := (List.getElem?_eq_some_iff.1 hc).1
      have h2l := h2.1
      obtain ⟨u, hu⟩ : ∃ u, us[c]? = some u := ⟨_, List.getElem?_eq_getElem (by omega)⟩
      have hat := fl_at hR hus hu
      have hv' : R.flatten[i * 104 + c]? = some v := hv
      rw [hat] at hv'
      cases hv'
      exact h2.2 c d _ hc hu)
  rw [List.length_map] at this
  exact this
theorem each_ac {nro : Nat} {γ : Nat → Option Nat} {H : AH} {nv : Value} {l : List NodeD} (hN : NdA H nv l) (hl : l.length ≤ 1000) (hs : ∀ x ∈ l, SmN x) (hnro : nro ≤ H.length) (hcal : callable Try.prog 72 = true) :
    ∃ N : Nat, AC Try.prog nro γ 71 #[nv, .func (.func 72) #[] #[]] H (fun v' H' => v' = .slice (some ⟨H.length, 0, none⟩) l.length l.length ∧ H'.length = N ∧ Low H.length H H' ∧ ∃ R, NewRows (H.length + 1) H' R l ∧ hget H' H.length = some ⟨R.flatten, 39, some 104⟩) := by
  have hN' := hN
  obtain ⟨hnt, hvc, hxl, hwf, hat⟩ := hN
  obtain ⟨c, hc⟩ := Classical.skolem.1 (fun i : Nat => show ∃ N : Nat, ∀ x, l[i]? = some x → ∃ j q b us pv wv bv qv, xindexAddr Try.prog 22 nv (.int .i64 (i : Nat)) = some (.pointer (some ⟨j, q, none⟩)) ∧ hget H j = some b ∧ q + 104 ≤ b.cells.length ∧ us = (b.cells.drop q).take 104 ∧ NodeC H us x pv wv bv qv ∧ nodeN pv wv bv qv = N from by
    cases hi : l[i]? with
    | none => exact ⟨0, fun x hx => by cases hx⟩
    | some x =>
      obtain ⟨j, q, b, us, pv, wv, bv, qv, h1, h2, h3, h4, h5, h6⟩ := hat i x hi
      exact ⟨nodeN pv wv bv qv, fun y hy => by cases hy; exact ⟨j, q, b, us, pv, wv, bv, qv, h1, h2, h3, h5, h6, rfl⟩⟩)
  have hm63 : l.length ≤ 9223372036854775807 := by omega
  have hfn : notTuple (.func (.func 72) #[] #[]) = true := rfl
  have hfc : (Value.func (.func 72) #[] #[]).cells = #[.func (.func 72) #[] #[]] := rfl
  refine ⟨H.length + 1 + ((List.range l.length).map fun i => c i + 1).sum, ?_⟩
  refine ac_of_aw Try.func71 rfl Try.ntmps71 Try.results71 (by simp) ?_
  refine aw_seq ?_
  (refine aw_ops (by kernel_rfl) (fun K hK => ?_); simp (disch := first | omega | (simp only [lnS]; try omega; done)) [-getElem?_pos, -getElem?_neg]; refine hK _ _ ?_; clear hK K)
  refine aw_seq ?_
  refine aw_ops (by kernel_rfl) (fun K hK => ?_)
  have hlm : l.length ≤ maxLen := by simp only [maxLen]; omega
  have hp0 : plain1 (.slice none 0 0) = true := rfl
  simp (disch := first | omega | (simp only [lnS]; try omega; done)) [-getElem?_pos, -getElem?_neg, -notTuple, hnt, hvc, hfn, hfc, nt_intG, -xlen, hxl, all_zl, hlm, hp0]
  refine hK _ _ ?_; clear hK K
  generalize hZZ : List.map (fun j => (iv .u8 (zl 32) ++ Value.int .i64 0 :: .int .u32 0 :: .slice none 0 0 :: .int .i64 0 :: .slice none 0 0 :: (iv .u8 (zl 64) ++ [.string ByteArray.empty, .slice none 0 0, .slice none 0 0]))[j % 104]?.getD undef) (List.range (l.length * 104)) = ZZ
  have hZl : ZZ.length = l.length * 104 := by rw [← hZZ]; simp
  clear hZZ
  obtain ⟨n, hn⟩ : ∃ n, n = H.length := ⟨_, rfl⟩
  obtain ⟨G0, hG0⟩ : ∃ G : AH, G = H ++ [some ⟨ZZ, 39, some 104⟩] := ⟨_, rfl⟩
  have b0 : hget G0 n = some ⟨ZZ, 39, some 104⟩ := by rw [hG0, hn, hget_app0]; rfl
  have lw0 : Low n H G0 := by rw [hG0, hn]; exact Low.push (Nat.le_refl _) _
  have gl0 : G0.length = n + 1 := by rw [hG0, hn]; simp
  rw [← hG0, ← hn]
  rw [← hn] at hnro
  clear hG0
  refine aw_seq ?_
  refine aw_seq ?_
  (refine aw_ops (by kernel_rfl) (fun K hK => ?_); simp (disch := first | omega | (simp only [lnS]; try omega; done)) [-getElem?_pos, -getElem?_neg, -notTuple, hnt, hvc, nt_intG, -xlen, hxl]; refine hK _ _ ?_; clear hK K)
  refine aw_block ?_
  refine aw_loop (fun q α G => ∃ (i : Nat) (R : List (List Value)), i + q = l.length ∧ α 0 = nv ∧ α 1 = .func (.func 72) #[] #[] ∧ α 5 = .slice (some ⟨n, 0, none⟩) l.length l.length ∧ α 11 = nv ∧ α 12 = .int .i64 (l.length : Nat) ∧ α 13 = .int .i64 (i : Nat) ∧ Low n H G ∧ G.length = n + 1 + ((List.range i).map fun i => c i + 1).sum ∧ hget G n = some ⟨R.flatten ++ ZZ.drop (i * 104), 39, some 104⟩ ∧ NewRows (n + 1) G R (l.take i)) l.length ?_ ?_
  · exact ⟨0, [], by omega, by (first | (simp [put_at, put_none, fr0_at]; done) | rfl), by (first | (simp [put_at, put_none, fr0_at]; done) | rfl), by (first | (simp [put_at, put_none, fr0_at]; done) | rfl), by (first | (simp [put_at, put_none, fr0_at]; done) | rfl), by (first | (simp [put_at, put_none, fr0_at]; done) | rfl), by (first | (simp [put_at, put_none, fr0_at]; done) | rfl), lw0, by simp [gl0], by simpa using b0, ⟨by simp, fun k us x h => by simp at h⟩⟩
  rintro q α G ⟨i, R, hiq, h0, h1, h5, h11, h12, h13, hlow, hgl, hout, hrows⟩
  refine aw_seq ?_
  by_cases hi : i < l.length
  case neg =>
    (refine aw_ops (by kernel_rfl) (fun K hK => ?_); simp (disch := first | omega | (simp only [lnS]; try omega; done)) [-getElem?_pos, -getElem?_neg, h12, h13, hi]; refine hK _ _ ?_; clear hK K)
    refine aw_seq ?_
    refine aw_f (by (first | (simp [eval_tmp, put_at, hi]; done) | (simp [eval_tmp, put_at, hi]; omega))) (by kernel_rfl) ?_
    refine aw_exit ?_
    obtain rfl : i = l.length := by omega
    rw [List.drop_of_length_le (by omega), List.append_nil] at hout
    rw [List.take_length] at hrows
    refine aw_seq ?_
    (refine aw_ops (by kernel_rfl) (fun K hK => ?_); simp (disch := first | omega | (simp only [lnS]; try omega; done)) [-getElem?_pos, -getElem?_neg, h5]; refine hK _ _ ?_; clear hK K)
    (refine aw_ret ?_; simp (disch := first | omega | (simp only [lnS]; try omega; done)) [-getElem?_pos, -getElem?_neg, thenQ_ret, scopeQ_ret, inBlockQ_ret, RQ, resL, resV])
    exact ⟨hlow, R, hrows, hout⟩
  obtain ⟨j, qq, bb, us, pv, wv', bv, qv, hx, hbb, hq, hus, hC, hcn⟩ := hc i _ (nd_get hi)
  have hbG : hget G j = some bb := (hlow.1 j (by have := hget_lt hbb; omega)).trans hbb
  have hul := hC.len
  have hxw := hwf _ (List.mem_of_getElem? (nd_get hi))
  have hxs := hs _ (List.mem_of_getElem? (nd_get hi))
  have hus' := hus.symm
  clear hus
  have hset2 : ∀ Z : List Value, Z.length = 104 → setR Z 0 us = us := fun Z hZ => setR_all _ _ (by omega)
  have hle0 := hlow.2
  have hRl := hrows.1
  rw [List.length_take] at hRl
  have hRl : R.length = i := by omega
  (refine aw_ops (by kernel_rfl) (fun K hK => ?_); simp (disch := first | omega | (simp only [lnS]; try omega; done)) [-getElem?_pos, -getElem?_neg, h12, h13, hi]; refine hK _ _ ?_; clear hK K)
  refine aw_seq ?_
  refine aw_t (by (first | (simp [eval_tmp, put_at, hi]; done) | (simp [eval_tmp, put_at, hi]; omega))) (by kernel_rfl) ?_
  refine aw_skip ?_
  refine aw_seq ?_
  refine aw_block ?_
  refine aw_seq ?_
  (refine aw_ops (by kernel_rfl) (fun K hK => ?_); simp (disch := first | omega | (simp only [lnS]; try omega; done)) [-getElem?_pos, -getElem?_neg, h11, h13, -notTuple, hnt, hvc, nt_intG, nt_aggG, -xindexAddr, hx, hbG, hus', hul, hq, hle0, hp0, all_zl, hset2]; refine hK _ _ ?_; clear hK K)
  obtain ⟨hlow2, hb2⟩ := boxed (H := G) us 39
  have hout2 := hget_left' (L := [some ⟨us, 39, none⟩]) hout
  have hgl2 : (G ++ ([some ⟨us, 39, none⟩] : AH)).length = G.length + 1 := by simp
  obtain ⟨g, hg⟩ : ∃ g, g = G.length := ⟨_, rfl⟩
  rw [← hg] at hb2 hgl2 hlow2 hle0 hgl ⊢
  have hrows := hrows.keep (G := G ++ ([some ⟨us, 39, none⟩] : AH)) (fun j _ hj => hlow2.1 j (by omega)) (by omega)
  generalize G ++ [some ⟨us, 39, none⟩] = G2 at *
  have hlowG2 : Low n H G2 := ⟨fun j hj => (hlow2.1 j (by omega)).trans (hlow.1 j hj), by omega⟩
  have hC2 : NodeC G2 us (nd l i) pv wv' bv qv := hC.low (fun j hj => hlowG2.1 j (by omega))
  have hcn1 := nodes1_ac (nro := nro) (γ := γ) hC2 hxw hxs (by omega)
  have htk : us.take 104 = us := List.take_of_length_le (by omega)
  have hsuc : (List.map (fun i => c i + 1) (List.range (i + 1))).sum = (List.map (fun i => c i + 1) (List.range i)).sum + (c i + 1) := by
    rw [List.range_succ, List.map_append, List.sum_append]
    simp
  have hng : n < g := by omega
  refine aw_ops (by kernel_rfl) (fun K hK => ?_)
  simp (disch := first | omega | (simp only [lnS]; try omega; done)) [-getElem?_pos, -getElem?_neg, h5, h1, -notTuple, hnt, hvc, hfn, hfc, nt_intG, nt_aggG, nt_slG, hb2, hul, htk]
  refine ⟨hcal, hcn1.mono ?_⟩
  rintro v1 G3 ⟨rfl, l1, w1, r1⟩
  rw [hgl2] at l1 w1 r1 ⊢
  have hle3 := w1.2
  have hout3 := (w1.1 n (by omega)).trans hout2
  have hrl := nodeRow_len hxw (opP pv (g + 1 + 2)) (opW pv wv' (g + 1 + 2)) (opB pv wv' bv (g + 1 + 2)) (clV qv (g + 1 + 2 + opN pv wv' bv))
  have hput := row_put (Z := ZZ.drop (i * 104)) (us := nodeCp (nd l i) pv wv' bv qv (g + 1)) hrows.len hRl hrl (by rw [List.length_drop]; omega)
  rw [List.drop_drop, show i * 104 + 104 = (i + 1) * 104 by omega] at hput
  have hrows3 := (hrows.keep (G := G3) (fun j _ hj => w1.1 j (by omega)) (by omega)).push (us := nodeCp (nd l i) pv wv' bv qv (g + 1)) hrl (fun B hB => r1 B (fun j h1 h2 => hB j (by omega) h2))
  have hrl : (nodeCp (nd l i) pv wv' bv qv (g + 1)).length = 104 := hrl
  have hcl : (R.flatten ++ ZZ.drop (i * 104)).length = l.length * 104 := by
    rw [List.length_append, fl_len hrows.len, List.length_drop, hRl]; omega
  generalize nodeCp (nd l i) pv wv' bv qv (g + 1) = us' at *
  generalize hCe : R.flatten ++ ZZ.drop (i * 104) = C at *
  generalize hCe2 : (R ++ [us']).flatten ++ ZZ.drop ((i + 1) * 104) = C' at *
  simp (disch := first | omega | (simp only [lnS]; try omega; done)) [-getElem?_pos, -getElem?_neg, hout3, hcl, hrl, hput, nt_aggG, hi]
  refine hK _ _ ?_; clear hK K
  have z1 : hget (G3.set n (some ⟨C', 39, some 104⟩)) n = some ⟨C', 39, some 104⟩ := hget_set_eq (hget_lt hout3)
  have z2 : ∀ j, j ≠ n → hget (G3.set n (some ⟨C', 39, some 104⟩)) j = hget G3 j := fun j hj => hget_set_ne (fun e => hj e.symm)
  have z3 : (G3.set n (some ⟨C', 39, some 104⟩)).length = G3.length := by rw [List.length_set]
  have hrows4 := hrows3.keep (G := G3.set n (some ⟨C', 39, some 104⟩)) (fun j h1 h2 => z2 j (by omega)) (by omega)
  generalize G3.set n (some ⟨C', 39, some 104⟩) = G4 at *
  have htk2 : l.take i ++ [nd l i] = l.take (i + 1) := by rw [List.take_add_one, nd_get hi]; rfl
  rw [htk2] at hrows4
  subst hCe2
  (refine aw_ops (by kernel_rfl) (fun K hK => ?_); simp (disch := first | omega | (simp only [lnS]; try omega; done)) [-getElem?_pos, -getElem?_neg, h13]; refine hK _ _ ?_; clear hK K)
  exact ⟨q - 1, by omega, i + 1, R ++ [us'], by omega, by (first | (simp [put_at, put_none, fr0_at, h0]; done) | rfl), by (first | (simp [put_at, put_none, fr0_at, h1]; done) | rfl), by (first | (simp [put_at, put_none, fr0_at, h5]; done) | rfl), by (first | (simp [put_at, put_none, fr0_at, h11]; done) | rfl), by (first | (simp [put_at, put_none, fr0_at, h12]; done) | rfl), by (first | (simp [put_at, put_none, fr0_at]; done) | rfl), ⟨fun j hj => (z2 j (by omega)).trans ((w1.1 j (by omega)).trans (hlowG2.1 j hj)), by omega⟩, by rw [hsuc]; omega, z1, hrows4⟩
/-- A graph, copied: its length is fixed. -/
theorem deepNodes_ac {nro : Nat} {γ : Nat → Option Nat} {H : AH} {nv : Value} {l : List NodeD} (hN : NdA H nv l) (hl : l.length ≤ 1000) (hs : ∀ x ∈ l, SmN x) (hnro : nro ≤ H.length) :
    ∃ N : Nat, AC Try.prog nro γ 54 #[nv] H (fun v' H' => v' = .slice (some ⟨H.length, 0, none⟩) l.length l.length ∧ H'.length = N ∧ Low H.length H H' ∧ ∃ R, NewRows (H.length + 1) H' R l ∧ hget H' H.length = some ⟨R.flatten, 39, some 104⟩) := by
  obtain ⟨N, hE⟩ := each_ac (nro := nro) (γ := γ) hN hl hs hnro nodes1_callable
  obtain ⟨hnt, hvc, hxl, hwf, hat⟩ := hN
  have hfn : notTuple (.func (.func 72) #[] #[]) = true := rfl
  have hfc : (Value.func (.func 72) #[] #[]).cells = #[.func (.func 72) #[] #[]] := rfl
  refine ⟨N, ?_⟩
  refine ac_of_aw Try.func54 rfl Try.ntmps54 Try.results54 (by simp) ?_
  refine aw_seq ?_
  (refine aw_ops (by kernel_rfl) (fun K hK => ?_); simp (disch := first | omega | (simp only [lnS]; try omega; done)) [-getElem?_pos, -getElem?_neg]; refine hK _ _ ?_; clear hK K)
  refine aw_seq ?_
  refine aw_ops (by kernel_rfl) (fun K hK => ?_)
  simp (disch := first | omega | (simp only [lnS]; try omega; done)) [-getElem?_pos, -getElem?_neg, -notTuple, hnt, hvc, hfn, hfc, eval_fnG]
  refine ⟨by kernel_rfl, hE.mono ?_⟩
  rintro v1 G1 ⟨rfl, h1, h2, h3⟩
  try simp (disch := first | omega | (simp only [lnS]; try omega; done)) [-getElem?_pos, -getElem?_neg]
  refine hK _ _ ?_; clear hK K
  (refine aw_ret ?_; simp (disch := first | omega | (simp only [lnS]; try omega; done)) [-getElem?_pos, -getElem?_neg, thenQ_ret, scopeQ_ret, inBlockQ_ret, RQ, resL, resV])
  exact ⟨h2, h3⟩
end
section
theorem nodeSame_callable : callable Try.prog 40 = true := by kernel_rfl
theorem NdA.row {H : AH} {v : Value} {l : List NodeD} (h : NdA H v l) {i : Nat} (hi : i < l.length) : ∃ j q bb us pv wv bv qv, xindexAddr Try.prog 22 v (.int .i64 (i : Nat)) = some (.pointer (some ⟨j, q, none⟩)) ∧ hget H j = some bb ∧ q + 104 ≤ bb.cells.length ∧ (bb.cells.drop q).take 104 = us ∧ NodeC H us (nd l i) pv wv bv qv := by
  obtain ⟨j, q, bb, us, pv, wv', bv, qv, hx, hbb, hq, hcell, hus, hC⟩ := h.at_ i _ (nd_get hi)
  exact ⟨j, q, bb, us, pv, wv', bv, qv, hx, hbb, hq, hus.symm, hC⟩
attribute [local simp] wb_bool wb_undef with_lit XL_nil XL_cons XLc_val XLc_call step1_eq stepW_t stepW_f stepC_n stepC_s stepX_s stepX_n stepN_s calleeX oneV xop_eq xopR_s xopR_n wantedA_eq wantedG_n wantedG_s plain1_int plain1_bool plain1_string bits_i64 bits_u64 bits_u32 bits_u16 bits_u8 xeqA xagg xcmp xarr allK_iv num_iv calleeOf xread xeff xbin xint xnil xun xstr xload xconv xpart xfield xfieldAddr xindexAddr xindex bnd asInt? xslice xlen xmin xmax xbuild xfill xappend xapp2 xappstr xappmk xcap xcopy xcells eval_tmp eval_const put_at put_none fr0_at cells_agg cells_int cells_bool cells_string cells_ptr cells_slice notTuple tab iv_all hget_app hget_app0 hget_cons0 hget_cons set_app set_app0 setR setR_one QL_nil QL_cons QLc_val stepQ_t stepQ_f stepQC_n stepQC_s stepQX_s SL_nil SL_cons SLc_val stepS_t stepS_f ltT ltF leT leF eqT eqF ltTn ltFn leTn leFn eqTn eqFn beqT beqF bneT bneF wi64 wu64 wu32 wu16 wu8 tmodP tdivP hgetL hgetNe hgetEq setL nums_def nums_len Nat.succ_le_of_lt List.getElem?_cons_zero List.getElem?_cons_succ Option.getD_some Int.toNat_add Int.toNat_mul agM okM agB agI agS agP agL agA okB okI okS okP okSl okA
theorem eqN_rc {γ : Nat → Option Nat} {H : AH} {u v : Value} {l m : List NodeD} (hU : NdA H u l) (hV : NdA H v m) (hl : l.length ≤ maxLen) : AC Try.prog H.length γ 39 #[u, v, .func (.func 40) #[] #[]] H (fun v' _ => v' = .bool (decide (l = m))) := by
  have u1 := hU.nt
  have u2 := hU.cs
  have u3 := hU.len
  have v1 := hV.nt
  have v2 := hV.cs
  have v3 := hV.len
  have hm63 : l.length ≤ 9223372036854775807 := by simp only [maxLen] at hl; omega
  have hfn : notTuple (.func (.func 40) #[] #[]) = true := rfl
  have hfc : (Value.func (.func 40) #[] #[]).cells = #[.func (.func 40) #[] #[]] := rfl
  have hp0 : plain1 (.slice none 0 0) = true := rfl
  refine ac_of_aw Try.func39 rfl Try.ntmps39 Try.results39 (by simp) ?_
  refine aw_seq ?_
  (refine aw_ops (by kernel_rfl) (fun K hK => ?_); simp (disch := first | omega | (simp only [lnS]; try omega; done)) [-getElem?_pos, -getElem?_neg]; refine hK _ _ ?_; clear hK K)
  refine aw_seq ?_
  refine aw_seq ?_
  by_cases hab : l.length = m.length
  case neg =>
    have hne : ((l.length : Int) == (m.length : Int)) = false := by rw [beq_eq_false_iff_ne]; omega
    have hne2 : ¬ (l.length : Int) = (m.length : Int) := by omega
    (refine aw_ops (by kernel_rfl) (fun K hK => ?_); simp (disch := first | omega | (simp only [lnS]; try omega; done)) [-getElem?_pos, -getElem?_neg, -notTuple, u1, u2, v1, v2, nt_intG, -xlen, u3, v3, hne, hne2]; refine hK _ _ ?_; clear hK K)
    refine aw_t (by (first | (simp [eval_tmp, put_at]; done) | (simp [eval_tmp, put_at]; omega))) (by kernel_rfl) ?_
    refine aw_seq ?_
    (refine aw_ops (by kernel_rfl) (fun K hK => ?_); simp (disch := first | omega | (simp only [lnS]; try omega; done)) [-getElem?_pos, -getElem?_neg]; refine hK _ _ ?_; clear hK K)
    (refine aw_ret ?_; simp (disch := first | omega | (simp only [lnS]; try omega; done)) [-getElem?_pos, -getElem?_neg, thenQ_ret, scopeQ_ret, inBlockQ_ret, RQ, resL, resV])
    all_goals exact fun h => hab (congrArg List.length h)
  have heq : ((l.length : Int) == (m.length : Int)) = true := by rw [beq_iff_eq]; omega
  have heq2 : (l.length : Int) = (m.length : Int) := by omega
  (refine aw_ops (by kernel_rfl) (fun K hK => ?_); simp (disch := first | omega | (simp only [lnS]; try omega; done)) [-getElem?_pos, -getElem?_neg, -notTuple, u1, u2, v1, v2, nt_intG, -xlen, u3, v3, hab, heq, heq2]; refine hK _ _ ?_; clear hK K)
  refine aw_f (by (first | (simp [eval_tmp, put_at]; done) | (simp [eval_tmp, put_at]; omega))) (by kernel_rfl) ?_
  refine aw_skip ?_
  refine aw_seq ?_
  refine aw_seq ?_
  (refine aw_ops (by kernel_rfl) (fun K hK => ?_); simp (disch := first | omega | (simp only [lnS]; try omega; done)) [-getElem?_pos, -getElem?_neg, -notTuple, u1, u2, nt_intG, -xlen, u3]; refine hK _ _ ?_; clear hK K)
  refine aw_block ?_
  refine aw_loop (fun c α G => ∃ i : Nat, i + c = l.length ∧ Low H.length H G ∧ α 1 = v ∧ α 2 = .func (.func 40) #[] #[] ∧ α 15 = u ∧ α 16 = .int .i64 (l.length : Nat) ∧ α 17 = .int .i64 (i : Nat) ∧ ∀ k, k < i → nd l k = nd m k) l.length ?_ ?_
  · exact ⟨0, by omega, Low.refl (Nat.le_refl _), by (first | (simp [put_at, put_none, fr0_at]; done) | rfl), by (first | (simp [put_at, put_none, fr0_at]; done) | rfl), by (first | (simp [put_at, put_none, fr0_at]; done) | rfl), by (first | (simp [put_at, put_none, fr0_at]; done) | rfl), by (first | (simp [put_at, put_none, fr0_at]; done) | rfl), fun k hk => by omega⟩
  rintro c α G ⟨i, hic, hlow, q1, q2, q15, q16, q17, hpre⟩
  refine aw_seq ?_
  by_cases hi : i < l.length
  case neg =>
    (refine aw_ops (by kernel_rfl) (fun K hK => ?_); simp (disch := first | omega | (simp only [lnS]; try omega; done)) [-getElem?_pos, -getElem?_neg, q16, q17, nt_intG, hi]; refine hK _ _ ?_; clear hK K)
    refine aw_seq ?_
    refine aw_f (by (first | (simp [eval_tmp, put_at, hi]; done) | (simp [eval_tmp, put_at, hi]; omega))) (by kernel_rfl) ?_
    refine aw_exit ?_
    refine aw_seq ?_
    (refine aw_ops (by kernel_rfl) (fun K hK => ?_); simp (disch := first | omega | (simp only [lnS]; try omega; done)) [-getElem?_pos, -getElem?_neg]; refine hK _ _ ?_; clear hK K)
    (refine aw_ret ?_; simp (disch := first | omega | (simp only [lnS]; try omega; done)) [-getElem?_pos, -getElem?_neg, thenQ_ret, scopeQ_ret, inBlockQ_ret, RQ, resL, resV])
    all_goals exact nodes_ext hab (fun k hk => hpre k (by omega))
  obtain ⟨j, q, bb, us, pv, wv', bv, qv, a1, a2, a3, a4, hC⟩ := hU.row hi
  obtain ⟨j', q', bb', us', pv', wv'', bv', qv', d1, d2, d3, d4, hC'⟩ := hV.row (show i < m.length by omega)
  have xw := hU.wf _ (List.mem_of_getElem? (nd_get hi))
  have yw := hV.wf _ (List.mem_of_getElem? (nd_get (show i < m.length by omega)))
  have a2 := (hlow.1 j (hget_lt a2)).trans a2
  have d2 := (hlow.1 j' (hget_lt d2)).trans d2
  have hul := hC.len
  have hwl := hC'.len
  have hset : ∀ Z : List Value, Z.length = 104 → setR Z 0 us = us := fun Z hZ => setR_all _ _ (by omega)
  have hset' : ∀ Z : List Value, Z.length = 104 → setR Z 0 us' = us' := fun Z hZ => setR_all _ _ (by omega)
  have htu : us.take 104 = us := List.take_of_length_le (by omega)
  have htw : us'.take 104 = us' := List.take_of_length_le (by omega)
  have hle := hlow.2
  (refine aw_ops (by kernel_rfl) (fun K hK => ?_); simp (disch := first | omega | (simp only [lnS]; try omega; done)) [-getElem?_pos, -getElem?_neg, q16, q17, nt_intG, hi]; refine hK _ _ ?_; clear hK K)
  refine aw_seq ?_
  refine aw_t (by (first | (simp [eval_tmp, put_at, hi]; done) | (simp [eval_tmp, put_at, hi]; omega))) (by kernel_rfl) ?_
  refine aw_skip ?_
  refine aw_seq ?_
  refine aw_block ?_
  refine aw_seq ?_
  (refine aw_ops (by kernel_rfl) (fun K hK => ?_); simp (disch := first | omega | (simp only [lnS]; try omega; done)) [-getElem?_pos, -getElem?_neg, q15, q17, -notTuple, u1, u2, nt_intG, nt_aggG, -xindexAddr, a1, a2, a3, a4, hul, hle, hp0, all_zl, hset]; refine hK _ _ ?_; clear hK K)
  obtain ⟨hlow2, hb2⟩ := boxed (H := G) us 39
  have d2 := hget_left' (L := [some ⟨us, 39, none⟩]) d2
  have gl2 : (G ++ ([some ⟨us, 39, none⟩] : AH)).length = G.length + 1 := by simp
  obtain ⟨g, hg⟩ : ∃ g, g = G.length := ⟨_, rfl⟩
  rw [← hg] at hb2 gl2 hlow2 hle ⊢
  generalize G ++ [some ⟨us, 39, none⟩] = G2 at *
  refine aw_seq ?_
  (refine aw_ops (by kernel_rfl) (fun K hK => ?_); simp (disch := first | omega | (simp only [lnS]; try omega; done)) [-getElem?_pos, -getElem?_neg, q1, q17, -notTuple, v1, v2, nt_intG, nt_aggG, -xindexAddr, d1, d2, d3, d4, hwl, hle, hp0, all_zl, hset']; refine hK _ _ ?_; clear hK K)
  obtain ⟨hlow3, hb3⟩ := boxed (H := G2) us' 39
  have hb2 := hget_left' (L := [some ⟨us', 39, none⟩]) hb2
  have gl3 : (G2 ++ ([some ⟨us', 39, none⟩] : AH)).length = G2.length + 1 := by simp
  rw [gl2] at hb3 gl3 hlow3 ⊢
  generalize G2 ++ [some ⟨us', 39, none⟩] = G3 at *
  have hlowG3 : Low H.length H G3 := ⟨fun j hj => (hlow3.1 j (by omega)).trans ((hlow2.1 j (by omega)).trans (hlow.1 j hj)), by omega⟩
  have hcn := nodeSame_rc (γ := γ) (hC.low (fun j hj => hlowG3.1 j hj)) (hC'.low (fun j hj => hlowG3.1 j hj)) xw yw
  refine aw_seq ?_
  by_cases hd : nd l i = nd m i
  · rw [decide_eq_true hd] at hcn
    refine aw_ops (by kernel_rfl) (fun K hK => ?_)
    simp (disch := first | omega | (simp only [lnS]; try omega; done)) [-getElem?_pos, -getElem?_neg, q2, q17, -notTuple, hfn, hfc, nt_intG, nt_aggG, hb2, hb3, hul, hwl, htu, htw]
    refine ⟨nodeSame_callable, ac_of_rc hcn (by simp [pv_iv, pv_int, pv_bool, pv_string, pv_tup2, pv_tup3, iv_plain, p2_int, p2_bool, p2_string]) ?_⟩
    try simp (disch := first | omega | (simp only [lnS]; try omega; done)) [-getElem?_pos, -getElem?_neg]
    refine hK _ _ ?_; clear hK K
    refine aw_f (by (first | (simp [eval_tmp, put_at]; done) | (simp [eval_tmp, put_at]; omega))) (by kernel_rfl) ?_
    refine aw_skip ?_
    (refine aw_ops (by kernel_rfl) (fun K hK => ?_); simp (disch := first | omega | (simp only [lnS]; try omega; done)) [-getElem?_pos, -getElem?_neg, q17]; refine hK _ _ ?_; clear hK K)
    refine ⟨c - 1, by omega, i + 1, by omega, hlowG3, by (first | (simp [put_at, put_none, fr0_at, q1]; done) | rfl), by (first | (simp [put_at, put_none, fr0_at, q2]; done) | rfl), by (first | (simp [put_at, put_none, fr0_at, q15]; done) | rfl), by (first | (simp [put_at, put_none, fr0_at, q16]; done) | rfl), by (first | (simp [put_at, put_none, fr0_at]; done) | rfl), fun k hk => ?_⟩
    by_cases e : k = i
    · subst e; exact hd
    · exact hpre k (by omega)
  · rw [decide_eq_false hd] at hcn
    refine aw_ops (by kernel_rfl) (fun K hK => ?_)
    simp (disch := first | omega | (simp only [lnS]; try omega; done)) [-getElem?_pos, -getElem?_neg, q2, q17, -notTuple, hfn, hfc, nt_intG, nt_aggG, hb2, hb3, hul, hwl, htu, htw]
    refine ⟨nodeSame_callable, ac_of_rc hcn (by simp [pv_iv, pv_int, pv_bool, pv_string, pv_tup2, pv_tup3, iv_plain, p2_int, p2_bool, p2_string]) ?_⟩
    try simp (disch := first | omega | (simp only [lnS]; try omega; done)) [-getElem?_pos, -getElem?_neg]
    refine hK _ _ ?_; clear hK K
    refine aw_t (by (first | (simp [eval_tmp, put_at]; done) | (simp [eval_tmp, put_at]; omega))) (by kernel_rfl) ?_
    refine aw_seq ?_
    (refine aw_ops (by kernel_rfl) (fun K hK => ?_); simp (disch := first | omega | (simp only [lnS]; try omega; done)) [-getElem?_pos, -getElem?_neg]; refine hK _ _ ?_; clear hK K)
    (refine aw_ret ?_; simp (disch := first | omega | (simp only [lnS]; try omega; done)) [-getElem?_pos, -getElem?_neg, thenQ_ret, scopeQ_ret, inBlockQ_ret, RQ, resL, resV])
    all_goals exact fun hh => hd (by rw [hh])
theorem gSame_rc {γ : Nat → Option Nat} {H : AH} {u v : Value} {l m : List NodeD} (hU : NdA H u l) (hV : NdA H v m) (hl : l.length ≤ maxLen) : AC Try.prog H.length γ 15 #[u, v] H (fun v' _ => v' = .bool (decide (l = m))) := by
  have u1 := hU.nt
  have u2 := hU.cs
  have v1 := hV.nt
  have v2 := hV.cs
  have hfn : notTuple (.func (.func 40) #[] #[]) = true := rfl
  have hfc : (Value.func (.func 40) #[] #[]).cells = #[.func (.func 40) #[] #[]] := rfl
  have he := eqN_rc (γ := γ) hU hV hl
  refine ac_of_aw Try.func15 rfl Try.ntmps15 Try.results15 (by simp) ?_
  refine aw_seq ?_
  (refine aw_ops (by kernel_rfl) (fun K hK => ?_); simp (disch := first | omega | (simp only [lnS]; try omega; done)) [-getElem?_pos, -getElem?_neg]; refine hK _ _ ?_; clear hK K)
  refine aw_seq ?_
  refine aw_ops (by kernel_rfl) (fun K hK => ?_)
  simp (disch := first | omega | (simp only [lnS]; try omega; done)) [-getElem?_pos, -getElem?_neg, -notTuple, u1, u2, v1, v2, hfn, hfc]
  refine ⟨by kernel_rfl, ac_of_rc he (by simp [pv_iv, pv_int, pv_bool, pv_string, pv_tup2, pv_tup3, iv_plain, p2_int, p2_bool, p2_string]) ?_⟩
  try simp (disch := first | omega | (simp only [lnS]; try omega; done)) [-getElem?_pos, -getElem?_neg]
  refine hK _ _ ?_; clear hK K
  (refine aw_ret ?_; simp (disch := first | omega | (simp only [lnS]; try omega; done)) [-getElem?_pos, -getElem?_neg, thenQ_ret, scopeQ_ret, inBlockQ_ret, RQ, resL, resV])
end
section
section
variable {l : List NodeD}
theorem right_step (h : rightG l = true) {i : Nat} (hi : i < l.length) : stepB l i = true := by
  unfold rightG at h
  rw [Bool.and_eq_true, List.all_eq_true] at h
  exact h.2 i (List.mem_range.2 hi)
theorem step_iff {i : Nat} : stepB l i = true ↔ ((nd l i).op.parents.all (fun p => (findN l i p).isSome) = true ∧ rightO (nd l i).op = true ∧ findN l i (nd l i).id = none ∧ (nd l i).past = pastL l i (nd l i).op.parents ∧ turnB l i (nd l i).op (nd l i).past = true) := by
  unfold stepB
  rw [Bool.and_eq_true, Bool.and_eq_true, Bool.and_eq_true, Bool.and_eq_true, decide_eq_true_eq, Option.isNone_iff_eq_none]
theorem right_past (h : rightG l = true) {i : Nat} (hi : i < l.length) : (nd l i).past = pastL l i (nd l i).op.parents := (step_iff.1 (right_step h hi)).2.2.2.1
theorem right_op (h : rightG l = true) {i : Nat} (hi : i < l.length) : rightO (nd l i).op = true := (step_iff.1 (right_step h hi)).2.1
theorem right_fresh (h : rightG l = true) {i : Nat} (hi : i < l.length) : findN l i (nd l i).id = none := (step_iff.1 (right_step h hi)).2.2.1
theorem right_turn (h : rightG l = true) {i : Nat} (hi : i < l.length) : turnB l i (nd l i).op (nd l i).past = true := (step_iff.1 (right_step h hi)).2.2.2.2
theorem pastL_bd {n : Nat} {ps : List (List Int)} {z : Int} (h : z ∈ pastL l n ps) : ∃ k : Nat, z = k ∧ k < n ∧ inB l n ps k = true := by
  unfold pastL at h
  obtain ⟨k, hk, rfl⟩ := List.mem_map.1 h
  rw [List.mem_filter, List.mem_range] at hk
  exact ⟨k, rfl, hk.1, hk.2⟩
theorem past_bd (h : rightG l = true) {i : Nat} (hi : i < l.length) {z : Int} (hz : z ∈ (nd l i).past) : ∃ k : Nat, z = k ∧ k < i := by
  rw [right_past h hi] at hz
  obtain ⟨k, e, hk, _⟩ := pastL_bd hz
  exact ⟨k, e, hk⟩
theorem pastL_length (l : List NodeD) (n : Nat) (ps : List (List Int)) : (pastL l n ps).length ≤ n := by
  unfold pastL
  rw [List.length_map]
  exact Nat.le_trans (List.length_filter_le _ _) (by simp)
theorem past_len (h : rightG l = true) {i : Nat} (hi : i < l.length) : (nd l i).past.length ≤ i := by
  rw [right_past h hi]; exact pastL_length _ _ _
theorem rightO_sm {o : OpD} (h : rightO o = true) : o.parents.length ≤ 8 ∧ o.who.length ≤ 8 ∧ o.boxes.length ≤ 8 := by
  rw [← refO_eq] at h
  unfold refO at h
  simp only [Bool.and_eq_true, decide_eq_true_eq, List.all_eq_true] at h
  refine ⟨h.2.2.2.2.1, ?_, h.2.2.2.2.2.1⟩
  obtain ⟨hm, hr⟩ := h.2.2.2.2.2.2.2.2.1
  refine rise_len hm (fun i hi => ?_)
  unfold risesI at hr
  rw [List.all_eq_true] at hr
  have := hr i (List.mem_range.2 (by omega))
  rwa [decide_eq_true_eq, cmpI_lt] at this
theorem rightO_author {o : OpD} (h : rightO o = true) : 0 ≤ o.author ∧ o.author < 8 := by
  unfold rightO at h
  simp only [Bool.and_eq_true] at h
  have := h.2.2.1
  unfold memI at this
  simpa using this
theorem right_sm (h : rightG l = true) : ∀ x ∈ l, SmN x := fun x hx => by
  obtain ⟨i, hi⟩ := List.getElem?_of_mem hx
  have hil := (List.getElem?_eq_some_iff.1 hi).1
  have e := nd_eq hi
  have h1 := rightO_sm (right_op h hil)
  have h2 := past_len h hil
  have h3 := rightG_len h
  rw [e] at h1 h2
  exact ⟨⟨by omega, by omega, by omega⟩, by omega⟩
theorem findN_none {n a : Nat} {k : List Int} (h : findN l n k = none) (ha : a < n) : (nd l a).id ≠ k := by
  unfold findN at h
  rw [List.find?_eq_none] at h
  have := h a (List.mem_range.2 ha)
  simpa using this
theorem ids_ne (h : rightG l = true) {i j : Nat} (hij : i < j) (hj : j < l.length) : (nd l i).id ≠ (nd l j).id := findN_none (right_fresh h hj) hij
theorem author_ahead (h : rightG l = true) {i j : Nat} (hij : i < j) (hj : j < l.length) (he : (nd l i).op.author = (nd l j).op.author) : (i : Int) ∈ (nd l j).past := by
  have := right_turn h hj
  unfold turnB autA at this
  simp only [Bool.and_eq_true, List.all_eq_true] at this
  have := this.2.1 i (List.mem_range.2 hij)
  simpa [he] using this
/-- Heads. -/
def behB (l : List NodeD) (k : Nat) : Bool := (List.range l.length).any fun i => decide ((k : Int) ∈ (nd l i).past)
def headP (l : List NodeD) : List Nat := (List.range l.length).filter fun k => !behB l k
def headK (l : List NodeD) : List (List Int) := (headP l).map fun k => (nd l k).id
def headsL (l : List NodeD) : List (List Int) := sortK (headK l)
theorem mem_headP {k : Nat} : k ∈ headP l ↔ k < l.length ∧ ∀ i, i < l.length → (k : Int) ∉ (nd l i).past := by
  unfold headP behB
  rw [List.mem_filter, List.mem_range]
  refine and_congr_right fun _ => ?_
  rw [Bool.not_eq_true', List.any_eq_false]
  refine ⟨fun h i hi => by simpa using h i (List.mem_range.2 hi), fun h i hi => by simpa using h i (List.mem_range.1 hi)⟩
theorem headP_lt : (headP l).Pairwise (· < ·) := List.Pairwise.filter _ List.pairwise_lt_range
theorem headP_len (h : rightG l = true) : (headP l).length ≤ 8 := by
  have hnd : ((headP l).map fun k => (nd l k).op.author.toNat).Nodup := by
    rw [List.Nodup, List.pairwise_map]
    refine List.Pairwise.imp_of_mem ?_ headP_lt
    intro i j hi hj hij e
    have hjl := (mem_headP.1 hj).1
    have hil := (mem_headP.1 hi).1
    have a1 := rightO_author (right_op h hil)
    have a2 := rightO_author (right_op h hjl)
    exact (mem_headP.1 hi).2 j hjl (author_ahead h hij hjl (by omega))
  have := List.Nodup.length_le_of_subset (l₂ := List.range 8) hnd (fun x hx => by
    obtain ⟨k, hk, rfl⟩ := List.mem_map.1 hx
    have a1 := rightO_author (right_op h (mem_headP.1 hk).1)
    exact List.mem_range.2 (by omega))
  simpa using this
theorem headK_nodup (h : rightG l = true) : (headK l).Nodup := by
  unfold headK
  rw [List.Nodup, List.pairwise_map]
  refine List.Pairwise.imp_of_mem ?_ headP_lt
  intro i j hi hj hij
  exact ids_ne h hij (mem_headP.1 hj).1
end
end
section
/-- Keys as cells. -/
def kr (l : List (List Int)) : List Value := (l.map (iv .u8)).flatten
theorem ksC_kr (l : List (List Int)) : ksC l = kr l := by
  unfold ksC kr
  induction l with
  | nil => rfl
  | cons k l ih =>
    rw [List.map_cons, List.flatten_cons, List.map_append, ih, List.map_cons, List.flatten_cons]
    congr 1
    simp [kd, iv, CD.fv]
theorem kr_app (a b : List (List Int)) : kr (a ++ b) = kr a ++ kr b := by simp [kr]
theorem kr_one (k : List Int) : kr [k] = iv .u8 k := by simp [kr]
def K32 (l : List (List Int)) : Prop := ∀ k ∈ l, k.length = 32
theorem kr_rows {l : List (List Int)} (h : K32 l) : ∀ r ∈ l.map (iv .u8), r.length = 32 := fun r hr => by
  obtain ⟨k, hk, rfl⟩ := List.mem_map.1 hr
  rw [iv_length]; exact h k hk
theorem kr_len {l : List (List Int)} (h : K32 l) : (kr l).length = l.length * 32 := by unfold kr; rw [fl_len (kr_rows h), List.length_map]
theorem kr_get {l : List (List Int)} (h : K32 l) {j : Nat} {k : List Int} (hj : l[j]? = some k) : ((kr l).drop (j * 32)).take 32 = iv .u8 k := fl_get (kr_rows h) (by rw [List.getElem?_map, hj]; rfl)
theorem kr_set {l : List (List Int)} (h : K32 l) {j : Nat} {k : List Int} (hj : j < l.length) (hk : k.length = 32) : setR (kr l) (j * 32) (iv .u8 k) = kr (l.set j k) := by
  have hj' : l[j]? = some l[j] := List.getElem?_eq_getElem hj
  have hq := h _ (List.mem_of_getElem? hj')
  unfold kr
  rw [fl_setR (q := iv .u8 l[j]) (kr_rows h) (by rw [List.getElem?_map, hj']; rfl) (by rw [iv_length, hk]; omega)]
  rw [List.drop_of_length_le (by rw [iv_length, iv_length]; omega), List.append_nil, List.map_set]
theorem kr_addr {n b j : Nat} (hj : j < n) : xindexAddr Try.prog 30 (.slice (some ⟨b, 0, none⟩) n n) (.int .i64 (j : Nat)) = some (.pointer (some ⟨b, j * 32, none⟩)) := by
  have h1 : und Try.prog 30 = .slice 24 := by kernel_rfl
  have h2 : szt Try.prog 24 = 32 := by kernel_rfl
  unfold xindexAddr
  simp only [h1, h2]
  rw [if_pos ⟨by omega, by omega, by omega⟩]
  simp
theorem kr_load {G : AH} {b j : Nat} {l : List (List Int)} {k : List Int} (h : K32 l) (hj : l[j]? = some k) (hb : hget G b = some ⟨kr l, 24, some 32⟩) : xload Try.prog 24 (.pointer (some ⟨b, j * 32, none⟩)) G = some (.agg (iv .u8 k).toArray) := by
  have hl := (List.getElem?_eq_some_iff.1 hj).1
  refine load_at (sz := 32) hb (by kernel_rfl) (by omega) (by kernel_rfl) (kr_get h hj).symm ?_
  show _ ≤ (kr l).length
  rw [kr_len h]
  have : (j + 1) * 32 ≤ l.length * 32 := Nat.mul_le_mul_right _ hl
  omega
attribute [local simp] wb_bool wb_undef with_lit XL_nil XL_cons XLc_val XLc_call step1_eq stepW_t stepW_f stepC_n stepC_s stepX_s stepX_n stepN_s calleeX oneV xop_eq xopR_s xopR_n wantedA_eq wantedG_n wantedG_s plain1_int plain1_bool plain1_string bits_i64 bits_u64 bits_u32 bits_u16 bits_u8 xeqA xagg xcmp xarr allK_iv num_iv calleeOf xread xeff xbin xint xnil xun xstr xload xconv xpart xfield xfieldAddr xindexAddr xindex bnd asInt? xslice xlen xmin xmax xbuild xfill xappend xapp2 xappstr xappmk xcap xcopy xcells eval_tmp eval_const put_at put_none fr0_at cells_agg cells_int cells_bool cells_string cells_ptr cells_slice notTuple tab iv_all hget_app hget_app0 hget_cons0 hget_cons set_app set_app0 setR setR_one QL_nil QL_cons QLc_val stepQ_t stepQ_f stepQC_n stepQC_s stepQX_s SL_nil SL_cons SLc_val stepS_t stepS_f ltT ltF leT leF eqT eqF ltTn ltFn leTn leFn eqTn eqFn beqT beqF bneT bneF wi64 wu64 wu32 wu16 wu8 tmodP tdivP hgetL hgetNe hgetEq setL nums_def nums_len Nat.succ_le_of_lt List.getElem?_cons_zero List.getElem?_cons_succ Option.getD_some Int.toNat_add Int.toNat_mul agM okM agB agI agS agP agL agA okB okI okS okP okSl okA
theorem heads1_rc {γ : Nat → Option Nat} {H : AH} {a b : List Int} (ha : a.length = 32) (hb : b.length = 32) : AC Try.prog H.length γ 49 #[.agg (iv .u8 a).toArray, .agg (iv .u8 b).toArray] H (fun v' _ => v' = .int .i64 (cmpL a b)) := by
  have hla : (iv .u8 a).length = 32 := by rw [iv_length, ha]
  have hlb : (iv .u8 b).length = 32 := by rw [iv_length, hb]
  refine ac_of_aw Try.func49 rfl Try.ntmps49 Try.results49 (by simp) ?_
  refine aw_seq ?_
  (refine aw_ops (by kernel_rfl) (fun K hK => ?_); simp (disch := first | omega | (simp only [lnS]; try omega; done)) [-getElem?_pos, -getElem?_neg, hla, hlb]; refine hK _ _ ?_; clear hK K)
  obtain ⟨G, hG⟩ : ∃ G : AH, G = H ++ [some ⟨iv .u8 a, 24, none⟩, some ⟨iv .u8 b, 24, none⟩] := ⟨_, rfl⟩
  have g0 : hget G H.length = some ⟨iv .u8 a, 24, none⟩ := by rw [hG, hget_app0]; rfl
  have g1 : hget G (H.length + 1) = some ⟨iv .u8 b, 24, none⟩ := by rw [hG, hget_app]; rfl
  rw [← hG]
  clear hG
  refine aw_seq ?_
  (refine aw_plan [] [] [0, 1, 2, 3] 4 0 (by kernel_rfl) (by kernel_rfl) (by kernel_rfl) (fun K hK => ?_)); simp only [sel, List.getElem?_cons_succ, List.getElem?_cons_zero, List.drop_succ_cons, List.drop_zero]; simp (disch := first | omega | (simp only [lnS]; try omega; done)) [-getElem?_pos, -getElem?_neg, g0, g1, hla, hlb, PL_nil, plainB_lit, PL_cons, PLc_val, PLc_new, stepP_t, stepP_f, stepPC_n, stepPC_s, stepPX_s, stepPX_n, stepPV_n, stepPV_s, stepPA_t, stepPA_c, stepPA_l, stepPN_s, allocOp, reloc_sl, reloc_ptr, List.map_cons, List.map_nil, List.nil_append, List.append_assoc, List.cons_append, Nat.add_assoc]
  refine PLc_call (v := .int .i64 (cmpL a b)) (by kernel_rfl) (fun L hL => ?_) (by simp [pv_iv, pv_int, pv_bool, pv_string, pv_tup2, pv_tup3, iv_plain, p2_int, p2_bool, p2_string]) ?_
  · exact (compare_ac (hget_left' g0) (hget_left' g1) ha hb).mono fun v' H' h => h.1
  simp (disch := first | omega | (simp only [lnS]; try omega; done)) [-getElem?_pos, -getElem?_neg, PL_nil, plainB_lit, PL_cons, PLc_val, PLc_new, stepP_t, stepP_f, stepPC_n, stepPC_s, stepPX_s, stepPX_n, stepPV_n, stepPV_s, stepPA_t, stepPA_c, stepPA_l, stepPN_s, allocOp, reloc_sl, reloc_ptr, List.map_cons, List.map_nil, List.nil_append, List.append_assoc, List.cons_append, Nat.add_assoc]
  refine hK _ _ ?_; clear hK K
  (refine aw_ret ?_; simp (disch := first | omega | (simp only [lnS]; try omega; done)) [-getElem?_pos, -getElem?_neg, thenQ_ret, scopeQ_ret, inBlockQ_ret, RQ, resL, resV])
theorem heads1_callable : callable Try.prog 49 = true := by kernel_rfl
/-- Others than one block are as they were. -/
def Oth (b : Nat) (H G : AH) : Prop := H.length ≤ G.length ∧ ∀ j, j < H.length → j ≠ b → hget G j = hget H j
/-- What a sort answers. -/
def SortQ (b : Nat) (ids : List (List Int)) (H : AH) (v' : Value) (H' : AH) : Prop := hget H' b = some ⟨kr (sortK ids), 24, some 32⟩ ∧ Oth b H H'
theorem insertion_ac {nro : Nat} {γ : Nat → Option Nat} {H : AH} {b n : Nat} {ids : List (List Int)} (hb : hget H b = some ⟨kr ids, 24, some 32⟩) (hn : ids.length = n) (hk : K32 ids) (hy : ∀ k ∈ ids, By k) (hnd : ids.Nodup) (hle : n ≤ 100) (hnro : nro ≤ b) :
    AC Try.prog nro γ 83 #[.slice (some ⟨b, 0, none⟩) n n, .int .i64 0, .int .i64 (n : Nat), .func (.func 49) #[] #[]] H (SortQ b ids H) := by
  have hbl := hget_lt hb
  refine ac_of_aw Try.func83 rfl Try.ntmps83 Try.results83 (by simp) ?_
  refine aw_seq ?_
  (refine aw_ops (by kernel_rfl) (fun K hK => ?_); simp (disch := first | omega | (simp only [lnS]; try omega; done)) [-getElem?_pos, -getElem?_neg]; refine hK _ _ ?_; clear hK K)
  refine aw_block ?_
  refine aw_loop (fun c α G => ∃ (i : Nat) (S : List (List Int)), 1 ≤ i ∧ i + c = n + 1 ∧ α 0 = .slice (some ⟨b, 0, none⟩) n n ∧ α 1 = .int .i64 0 ∧ α 2 = .int .i64 (n : Nat) ∧ α 3 = .func (.func 49) #[] #[] ∧ α 8 = .int .i64 (i : Nat) ∧ hget G b = some ⟨kr (S ++ ids.drop i), 24, some 32⟩ ∧ Oth b H G ∧ S.Perm (ids.take i) ∧ Rise S) n ?_ ?_
  · refine ⟨1, ids.take 1, by omega, by omega, by (first | (simp [put_at, put_none, fr0_at]; done) | rfl), by (first | (simp [put_at, put_none, fr0_at]; done) | rfl), by (first | (simp [put_at, put_none, fr0_at]; done) | rfl), by (first | (simp [put_at, put_none, fr0_at]; done) | rfl), by (first | (simp [put_at, put_none, fr0_at]; done) | rfl), by rw [List.take_append_drop]; exact hb, ⟨Nat.le_refl _, fun _ _ _ => rfl⟩, .refl _, ?_⟩
    cases ids with
    | nil => exact List.Pairwise.nil
    | cons k l => simp
  rintro c α G ⟨i, S, hi1, hic, h0, h1, h2, h3, h8, hbG, hoth, hperm, hrise⟩
  refine aw_seq ?_
  refine aw_seq ?_
  by_cases hi : i < n
  case neg =>
    (refine aw_ops (by kernel_rfl) (fun K hK => ?_); simp (disch := first | omega | (simp only [lnS]; try omega; done)) [-getElem?_pos, -getElem?_neg, h8, h2, hi]; refine hK _ _ ?_; clear hK K)
    refine aw_f (by (first | (simp [eval_tmp, put_at, hi]; done) | (simp [eval_tmp, put_at, hi]; omega))) (by kernel_rfl) ?_
    refine aw_exit ?_
    have e1 : ids.take i = ids := List.take_of_length_le (by omega)
    have e2 : ids.drop i = [] := List.drop_of_length_le (by omega)
    rw [e1] at hperm
    rw [e2, List.append_nil, sortK_eq hperm hrise] at hbG
    exact ⟨[], _, rfl, rfl, hbG, hoth⟩
  (refine aw_ops (by kernel_rfl) (fun K hK => ?_); simp (disch := first | omega | (simp only [lnS]; try omega; done)) [-getElem?_pos, -getElem?_neg, h8, h2, hi]; refine hK _ _ ?_; clear hK K)
  refine aw_t (by (first | (simp [eval_tmp, put_at, hi]; done) | (simp [eval_tmp, put_at, hi]; omega))) (by kernel_rfl) ?_
  refine aw_skip ?_
  refine aw_seq ?_
  refine aw_block ?_
  refine aw_seq ?_
  (refine aw_ops (by kernel_rfl) (fun K hK => ?_); simp (disch := first | omega | (simp only [lnS]; try omega; done)) [-getElem?_pos, -getElem?_neg, h8]; refine hK _ _ ?_; clear hK K)
  obtain ⟨x, hx⟩ : ∃ x, ids[i]? = some x := ⟨_, List.getElem?_eq_getElem (by omega)⟩
  have hxm := List.mem_of_getElem? hx
  have hx32 := hk x hxm
  have hxb := hy x hxm
  have hdi : ids.drop i = x :: ids.drop (i + 1) := by
    obtain ⟨hl, e⟩ := List.getElem?_eq_some_iff.1 hx
    rw [List.drop_eq_getElem_cons hl, e]
  have htk : ids.take (i + 1) = ids.take i ++ [x] := by rw [List.take_add_one, hx]; rfl
  have hSl : S.length = i := by rw [hperm.length_eq, List.length_take]; omega
  have hSm : ∀ s ∈ S, s ∈ ids := fun s hs => List.mem_of_mem_take (hperm.mem_iff.1 hs)
  have hxS : x ∉ S := fun h => by
    have h2 := hperm.mem_iff.1 h
    have hnd2 : (ids.take i ++ [x]).Nodup := by rw [← htk]; exact hnd.sublist (List.take_sublist _ _)
    exact (List.pairwise_append.1 hnd2).2.2 x h2 x (by simp) rfl
  refine aw_block ?_
  refine aw_loop (fun c2 α G => c2 ≤ i ∧ α 0 = .slice (some ⟨b, 0, none⟩) n n ∧ α 1 = .int .i64 0 ∧ α 2 = .int .i64 (n : Nat) ∧ α 3 = .func (.func 49) #[] #[] ∧ α 8 = .int .i64 (i : Nat) ∧ α 9 = .int .i64 (c2 : Nat) ∧ hget G b = some ⟨kr (S.take c2 ++ x :: S.drop c2 ++ ids.drop (i + 1)), 24, some 32⟩ ∧ Oth b H G ∧ ∀ s ∈ S.drop c2, x < s) i ?_ ?_
  · refine ⟨Nat.le_refl _, by (first | (simp [put_at, put_none, fr0_at, h0]; done) | rfl), by (first | (simp [put_at, put_none, fr0_at, h1]; done) | rfl), by (first | (simp [put_at, put_none, fr0_at, h2]; done) | rfl), by (first | (simp [put_at, put_none, fr0_at, h3]; done) | rfl), by (first | (simp [put_at, put_none, fr0_at, h8]; done) | rfl), by (first | (simp [put_at, put_none, fr0_at]; done) | rfl), ?_, hoth, ?_⟩
    · rw [hbG, hdi, List.take_of_length_le (l := S) (by omega), List.drop_of_length_le (l := S) (by omega)]
      simp
    · rw [List.drop_of_length_le (l := S) (by omega)]
      simp
  rintro j α G ⟨hji, h0, h1, h2, h3, h8, h9, hbG, hoth, hgt⟩
  have hLm : ∀ k ∈ S.take j ++ x :: S.drop j ++ ids.drop (i + 1), k ∈ ids := fun k hm => by
    simp only [List.mem_append, List.mem_cons] at hm
    rcases hm with (hm | rfl | hm) | hm
    · exact hSm k (List.mem_of_mem_take hm)
    · exact hxm
    · exact hSm k (List.mem_of_mem_drop hm)
    · exact List.mem_of_mem_drop hm
  have hLk : K32 (S.take j ++ x :: S.drop j ++ ids.drop (i + 1)) := fun k hm => hk k (hLm k hm)
  have hLn : (S.take j ++ x :: S.drop j ++ ids.drop (i + 1)).length = n := by simp; omega
  have hLj : (S.take j ++ x :: S.drop j ++ ids.drop (i + 1))[j]? = some x := by
    rw [List.append_assoc, List.getElem?_append_right (by rw [List.length_take]; omega), List.length_take]
    rw [show j - min j S.length = 0 by omega]
    rfl
  have hend : ∀ s, j ≠ 0 → S[j - 1]? = some s → ¬ x < s → True := fun _ _ _ _ => trivial
  refine aw_seq ?_
  refine aw_seq ?_
  have hexit : (∀ s, j ≠ 0 → S[j - 1]? = some s → ¬ x < s) → (S.take j ++ x :: S.drop j).Perm (ids.take (i + 1)) ∧ Rise (S.take j ++ x :: S.drop j) := fun hle => by
    refine ⟨?_, rise_put hrise (by omega) hgt hle hxS⟩
    rw [htk]
    exact (put_perm x j).trans (hperm.append_right _)
  by_cases hj0 : j = 0
  · subst hj0
    obtain ⟨hp2, hr2⟩ := hexit (fun s h => absurd rfl h)
    (refine aw_plan [] [] [0, 1, 2, 3, 4, 5, 6, 7, 8, 9, 10, 11, 12, 13, 14, 15, 16] 17 0 (by kernel_rfl) (by kernel_rfl) (by kernel_rfl) (fun K hK => ?_)); simp only [sel, List.getElem?_cons_succ, List.getElem?_cons_zero, List.drop_succ_cons, List.drop_zero]; simp (disch := first | omega | (simp only [lnS]; try omega; done)) [-getElem?_pos, -getElem?_neg, h9, h1, PL_nil, plainB_lit, PL_cons, PLc_val, PLc_new, stepP_t, stepP_f, stepPC_n, stepPC_s, stepPX_s, stepPX_n, stepPV_n, stepPV_s, stepPA_t, stepPA_c, stepPA_l, stepPN_s, allocOp, reloc_sl, reloc_ptr, List.map_cons, List.map_nil, List.nil_append, List.append_assoc, List.cons_append, Nat.add_assoc]
    refine hK _ _ ?_; clear hK K
    refine aw_f (by (first | (simp [eval_tmp, put_at]; done) | (simp [eval_tmp, put_at]; omega))) (by kernel_rfl) ?_
    refine aw_exit ?_
    (refine aw_ops (by kernel_rfl) (fun K hK => ?_); simp (disch := first | omega | (simp only [lnS]; try omega; done)) [-getElem?_pos, -getElem?_neg, h8]; refine hK _ _ ?_; clear hK K)
    exact ⟨c - 1, by omega, i + 1, _, by omega, by omega, by (first | (simp [put_at, put_none, fr0_at, h0]; done) | rfl), by (first | (simp [put_at, put_none, fr0_at, h1]; done) | rfl), by (first | (simp [put_at, put_none, fr0_at, h2]; done) | rfl), by (first | (simp [put_at, put_none, fr0_at, h3]; done) | rfl), by (first | (simp [put_at, put_none, fr0_at]; done) | rfl), hbG, hoth, hp2, hr2⟩
  obtain ⟨s, hs⟩ : ∃ s, S[j - 1]? = some s := ⟨_, List.getElem?_eq_getElem (by omega)⟩
  have hsm := hSm s (List.mem_of_getElem? hs)
  have hs32 := hk s hsm
  have hsb := hy s hsm
  have hsub : (j : Int) - 1 = ((j - 1 : Nat) : Int) := by omega
  have hLj1 : (S.take j ++ x :: S.drop j ++ ids.drop (i + 1))[j - 1]? = some s := by
    rw [List.append_assoc, List.getElem?_append_left (by rw [List.length_take]; omega), List.getElem?_take_of_lt (by omega), hs]
  have a0 := kr_addr (b := b) (show j < n by omega)
  have a1 := kr_addr (b := b) (show j - 1 < n by omega)
  have l0 := kr_load hLk hLj hbG
  have l1 := kr_load hLk hLj1 hbG
  have hcall := heads1_rc (γ := γ) (H := G) hx32 hs32
  have hlt := cmpL_lt hxb hsb (by omega)
  have hjp : 0 < j := by omega
  have hfn : notTuple (.func (.func 49) #[] #[]) = true := rfl
  have hfc : (Value.func (.func 49) #[] #[]).cells = #[.func (.func 49) #[] #[]] := rfl
  have t1 := kr_set hLk (j := j) (k := s) (by omega) hs32
  have hLk2 : K32 ((S.take j ++ x :: S.drop j ++ ids.drop (i + 1)).set j s) := fun k hm => by
    rcases List.mem_or_eq_of_mem_set hm with h | rfl
    · exact hLk k h
    · exact hs32
  have t2 := kr_set hLk2 (j := j - 1) (k := x) (by rw [List.length_set]; omega) hx32
  have hLs : ((S.take j ++ x :: S.drop j ++ ids.drop (i + 1)).set j s).set (j - 1) x = S.take (j - 1) ++ x :: S.drop (j - 1) ++ ids.drop (i + 1) := by
    have e1 : S.take j = S.take (j - 1) ++ [s] := by
      have := List.take_add_one (l := S) (i := j - 1)
      rwa [show j - 1 + 1 = j by omega, hs] at this
    have e2 : S.drop (j - 1) = s :: S.drop j := by
      obtain ⟨hl, e⟩ := List.getElem?_eq_some_iff.1 hs
      rw [List.drop_eq_getElem_cons hl, e, show j - 1 + 1 = j by omega]
    have e3 : (S.take (j - 1)).length = j - 1 := by rw [List.length_take]; omega
    rw [e1, e2]
    obtain ⟨A, hA⟩ : ∃ A, A = S.take (j - 1) := ⟨_, rfl⟩
    rw [← hA] at e3 ⊢
    obtain ⟨m, rfl⟩ : ∃ m, j = m + 1 := ⟨j - 1, by omega⟩
    simp only [Nat.add_sub_cancel] at e3 ⊢
    rw [List.append_assoc, List.append_assoc, List.append_assoc, List.set_append_right _ _ (by omega), List.set_append_right _ _ (by omega), e3]
    simp
  rw [hLs] at t2
  have hgl : (kr (S.take j ++ x :: S.drop j ++ ids.drop (i + 1))).length = n * 32 := by rw [kr_len hLk, hLn]
  have hgl2 : (kr ((S.take j ++ x :: S.drop j ++ ids.drop (i + 1)).set j s)).length = n * 32 := by rw [kr_len hLk2, List.length_set, hLn]
  generalize hL : S.take j ++ x :: S.drop j ++ ids.drop (i + 1) = L at t1 t2 hgl hgl2 hbG
  have hdj : S.drop (j - 1) = s :: S.drop j := by
    obtain ⟨hl, e⟩ := List.getElem?_eq_some_iff.1 hs
    rw [List.drop_eq_getElem_cons hl, e, show j - 1 + 1 = j by omega]
  generalize hL3 : S.take (j - 1) ++ x :: S.drop (j - 1) ++ ids.drop (i + 1) = L3 at t2
  (refine aw_plan [] [] [0, 1, 2, 3, 4, 5, 6, 7, 8, 9, 10, 11, 12, 13, 14, 15, 16] 17 0 (by kernel_rfl) (by kernel_rfl) (by kernel_rfl) (fun K hK => ?_)); simp only [sel, List.getElem?_cons_succ, List.getElem?_cons_zero, List.drop_succ_cons, List.drop_zero]; simp (disch := first | omega | (simp only [lnS]; try omega; done)) [-getElem?_pos, -getElem?_neg, h0, h1, h3, h9, hjp, hsub, hfn, hfc, nt_ptrG, nt_intG, nt_slG, -xload, l0, l1, -xindexAddr, a0, a1, PL_nil, plainB_lit, PL_cons, PLc_val, PLc_new, stepP_t, stepP_f, stepPC_n, stepPC_s, stepPX_s, stepPX_n, stepPV_n, stepPV_s, stepPA_t, stepPA_c, stepPA_l, stepPN_s, allocOp, reloc_sl, reloc_ptr, List.map_cons, List.map_nil, List.nil_append, List.append_assoc, List.cons_append, Nat.add_assoc]
  refine PLc_callV (v := .int .i64 (cmpL x s)) heads1_callable (by simpa using hcall) (by simp [pv_iv, pv_int, pv_bool, pv_string, pv_tup2, pv_tup3, iv_plain, p2_int, p2_bool, p2_string]) ?_
  have hbl2 := hget_lt hbG
  by_cases hc : cmpL x s < 0
  · have hxs : x < s := hlt.1 hc
    have hc2 : ¬ 0 ≤ cmpL x s := by omega
    simp (disch := first | omega | (simp only [lnS]; try omega; done)) [-getElem?_pos, -getElem?_neg, hc, hc2, PL_nil, plainB_lit, PL_cons, PLc_val, PLc_new, stepP_t, stepP_f, stepPC_n, stepPC_s, stepPX_s, stepPX_n, stepPV_n, stepPV_s, stepPA_t, stepPA_c, stepPA_l, stepPN_s, allocOp, reloc_sl, reloc_ptr, List.map_cons, List.map_nil, List.nil_append, List.append_assoc, List.cons_append, Nat.add_assoc]
    refine hK _ _ ?_; clear hK K
    refine aw_t (by (first | (simp [eval_tmp, put_at, hc]; done) | (simp [eval_tmp, put_at, hc]; omega))) (by kernel_rfl) ?_
    refine aw_skip ?_
    refine aw_seq ?_
    refine aw_block ?_
    (refine aw_plan [] [2, 3, 4] [0, 1, 5, 6, 7, 8, 9, 10, 11, 12, 13, 14] 15 3 (by kernel_rfl) (by kernel_rfl) (by kernel_rfl) (fun K hK => ?_)); simp only [sel, List.getElem?_cons_succ, List.getElem?_cons_zero, List.drop_succ_cons, List.drop_zero]; simp (disch := first | omega | (simp only [lnS]; try omega; done)) [-getElem?_pos, -getElem?_neg, h0, h9, hsub, nt_ptrG, nt_intG, nt_slG, nt_aggG, -xload, l0, l1, -xindexAddr, a0, a1, hbG, hgl, hgl2, hx32, hs32, iv_length, t1, t2, PL_nil, plainB_lit, PL_cons, PLc_val, PLc_new, stepP_t, stepP_f, stepPC_n, stepPC_s, stepPX_s, stepPX_n, stepPV_n, stepPV_s, stepPA_t, stepPA_c, stepPA_l, stepPN_s, allocOp, reloc_sl, reloc_ptr, List.map_cons, List.map_nil, List.nil_append, List.append_assoc, List.cons_append, Nat.add_assoc]
    refine hK _ _ ?_; clear hK K
    have hG2 : hget (G.set b (some ⟨kr L3, 24, some 32⟩)) b = some ⟨kr L3, 24, some 32⟩ := hget_set_eq hbl2
    have hoth2 : Oth b H (G.set b (some ⟨kr L3, 24, some 32⟩)) := ⟨by rw [List.length_set]; exact hoth.1, fun j hj hjb => (hget_set_ne (fun e => hjb e.symm)).trans (hoth.2 j hj hjb)⟩
    generalize G.set b (some ⟨kr L3, 24, some 32⟩) = G2 at *
    subst hL3
    (refine aw_ops (by kernel_rfl) (fun K hK => ?_); simp (disch := first | omega | (simp only [lnS]; try omega; done)) [-getElem?_pos, -getElem?_neg, h9, hsub]; refine hK _ _ ?_; clear hK K)
    refine ⟨j - 1, by omega, by omega, by (first | (simp [put_at, put_none, fr0_at, h0]; done) | rfl), by (first | (simp [put_at, put_none, fr0_at, h1]; done) | rfl), by (first | (simp [put_at, put_none, fr0_at, h2]; done) | rfl), by (first | (simp [put_at, put_none, fr0_at, h3]; done) | rfl), by (first | (simp [put_at, put_none, fr0_at, h8]; done) | rfl), by (first | (simp [put_at, put_none, fr0_at]; done) | rfl), hG2, hoth2, fun s' hs' => ?_⟩
    rw [hdj] at hs'
    rcases List.mem_cons.1 hs' with rfl | hs'
    · exact hxs
    · exact hgt s' hs'
  · have hc2 : 0 ≤ cmpL x s := by omega
    simp (disch := first | omega | (simp only [lnS]; try omega; done)) [-getElem?_pos, -getElem?_neg, hc, hc2, PL_nil, plainB_lit, PL_cons, PLc_val, PLc_new, stepP_t, stepP_f, stepPC_n, stepPC_s, stepPX_s, stepPX_n, stepPV_n, stepPV_s, stepPA_t, stepPA_c, stepPA_l, stepPN_s, allocOp, reloc_sl, reloc_ptr, List.map_cons, List.map_nil, List.nil_append, List.append_assoc, List.cons_append, Nat.add_assoc]
    refine hK _ _ ?_; clear hK K
    refine aw_f (by (first | (simp [eval_tmp, put_at, hc]; done) | (simp [eval_tmp, put_at, hc]; omega))) (by kernel_rfl) ?_
    refine aw_exit ?_
    (refine aw_ops (by kernel_rfl) (fun K hK => ?_); simp (disch := first | omega | (simp only [lnS]; try omega; done)) [-getElem?_pos, -getElem?_neg, h8]; refine hK _ _ ?_; clear hK K)
    obtain ⟨hp2, hr2⟩ := hexit (fun s' _ h => by rw [hs] at h; cases h; exact fun h => hc (hlt.2 h))
    exact ⟨c - 1, by omega, i + 1, _, by omega, by omega, by (first | (simp [put_at, put_none, fr0_at, h0]; done) | rfl), by (first | (simp [put_at, put_none, fr0_at, h1]; done) | rfl), by (first | (simp [put_at, put_none, fr0_at, h2]; done) | rfl), by (first | (simp [put_at, put_none, fr0_at, h3]; done) | rfl), by (first | (simp [put_at, put_none, fr0_at]; done) | rfl), by rw [hL]; exact hbG, hoth, hp2, hr2⟩
theorem len_rc {nro : Nat} {γ : Nat → Option Nat} {H : AH} {n : Nat} (hn : n ≤ 12) : AC Try.prog nro γ 69 #[.int .u64 (n : Nat)] H (fun v' H' => H' = H ∧ ∃ z, v' = .int .i64 z) := by
  have h64 : AC Try.prog nro γ 92 #[.int .u64 (n : Nat)] H (fun v' H' => H' = H ∧ ∃ z, v' = .int .i64 z) := by
    refine ac_of_aw Try.func92 rfl Try.ntmps92 Try.results92 (by simp) ?_
    refine aw_seq ?_
    (refine aw_ops (by kernel_rfl) (fun K hK => ?_); simp (disch := first | omega | (simp only [lnS]; try omega; done)) [-getElem?_pos, -getElem?_neg]; refine hK _ _ ?_; clear hK K)
    refine aw_seq ?_
    refine aw_seq ?_
    (refine aw_ops (by kernel_rfl) (fun K hK => ?_); simp (disch := first | omega | (simp only [lnS]; try omega; done)) [-getElem?_pos, -getElem?_neg]; refine hK _ _ ?_; clear hK K)
    refine aw_f (by (first | (simp [eval_tmp, put_at]; done) | (simp [eval_tmp, put_at]; omega))) (by kernel_rfl) ?_
    refine aw_skip ?_
    refine aw_seq ?_
    refine aw_seq ?_
    (refine aw_ops (by kernel_rfl) (fun K hK => ?_); simp (disch := first | omega | (simp only [lnS]; try omega; done)) [-getElem?_pos, -getElem?_neg]; refine hK _ _ ?_; clear hK K)
    refine aw_f (by (first | (simp [eval_tmp, put_at]; done) | (simp [eval_tmp, put_at]; omega))) (by kernel_rfl) ?_
    refine aw_skip ?_
    refine aw_seq ?_
    refine aw_seq ?_
    (refine aw_ops (by kernel_rfl) (fun K hK => ?_); simp (disch := first | omega | (simp only [lnS]; try omega; done)) [-getElem?_pos, -getElem?_neg]; refine hK _ _ ?_; clear hK K)
    refine aw_f (by (first | (simp [eval_tmp, put_at]; done) | (simp [eval_tmp, put_at]; omega))) (by kernel_rfl) ?_
    refine aw_skip ?_
    refine aw_seq ?_
    (refine aw_ops (by kernel_rfl) (fun K hK => ?_); simp (disch := first | omega | (simp only [lnS]; try omega; done)) [-getElem?_pos, -getElem?_neg, ByteArray.size, List.size_toArray, List.length_cons, List.length_nil]; refine hK _ _ ?_; clear hK K)
    (refine aw_ret ?_; simp (disch := first | omega | (simp only [lnS]; try omega; done)) [-getElem?_pos, -getElem?_neg, thenQ_ret, scopeQ_ret, inBlockQ_ret, RQ, resL, resV])
  refine ac_of_aw Try.func69 rfl Try.ntmps69 Try.results69 (by simp) ?_
  refine aw_seq ?_
  (refine aw_ops (by kernel_rfl) (fun K hK => ?_); simp (disch := first | omega | (simp only [lnS]; try omega; done)) [-getElem?_pos, -getElem?_neg]; refine hK _ _ ?_; clear hK K)
  refine aw_seq ?_
  refine aw_f (by (first | (simp [eval_tmp, put_at]; done) | (simp [eval_tmp, put_at]; omega))) (by kernel_rfl) ?_
  refine aw_skip ?_
  refine aw_seq ?_
  refine aw_ops (by kernel_rfl) (fun K hK => ?_)
  simp (disch := first | omega | (simp only [lnS]; try omega; done)) [-getElem?_pos, -getElem?_neg]
  refine ⟨by kernel_rfl, h64.mono ?_⟩
  rintro v1 G1 ⟨rfl, z, rfl⟩
  try simp (disch := first | omega | (simp only [lnS]; try omega; done)) [-getElem?_pos, -getElem?_neg]
  refine hK _ _ ?_; clear hK K
  (refine aw_ret ?_; simp (disch := first | omega | (simp only [lnS]; try omega; done)) [-getElem?_pos, -getElem?_neg, thenQ_ret, scopeQ_ret, inBlockQ_ret, RQ, resL, resV])
theorem sort_go {nro : Nat} {γ : Nat → Option Nat} {H : AH} {v : Value} {n : Nat} {z : Int} {Q : Value → AH → Prop} (hv : notTuple v = true ∧ v.cells = #[v]) (hle : n ≤ 12)
    (hins : AC Try.prog nro γ 83 #[v, .int .i64 0, .int .i64 (n : Nat), .func (.func 49) #[] #[]] H (fun _ G => ∀ u, Q u G)) :
    AC Try.prog nro γ 68 #[v, .int .i64 0, .int .i64 (n : Nat), .int .i64 z, .func (.func 49) #[] #[]] H (fun _ G => ∀ u, Q u G) := by
  obtain ⟨v1, v2⟩ := hv
  have hfn : notTuple (.func (.func 49) #[] #[]) = true := rfl
  have hfc : (Value.func (.func 49) #[] #[]).cells = #[.func (.func 49) #[] #[]] := rfl
  refine ac_of_aw Try.func68 rfl Try.ntmps68 Try.results68 (by simp) ?_
  refine aw_seq ?_
  (refine aw_ops (by kernel_rfl) (fun K hK => ?_); simp (disch := first | omega | (simp only [lnS]; try omega; done)) [-getElem?_pos, -getElem?_neg]; refine hK _ _ ?_; clear hK K)
  refine aw_seq ?_
  (refine aw_ops (by kernel_rfl) (fun K hK => ?_); simp (disch := first | omega | (simp only [lnS]; try omega; done)) [-getElem?_pos, -getElem?_neg]; refine hK _ _ ?_; clear hK K)
  refine aw_block ?_
  refine aw_loop (fun c α G => G = H ∧ α 0 = v ∧ α 1 = .int .i64 0 ∧ α 2 = .int .i64 (n : Nat) ∧ α 4 = .func (.func 49) #[] #[]) 1 ?_ ?_
  · exact ⟨rfl, by (first | (simp [put_at, put_none, fr0_at]; done) | rfl), by (first | (simp [put_at, put_none, fr0_at]; done) | rfl), by (first | (simp [put_at, put_none, fr0_at]; done) | rfl), by (first | (simp [put_at, put_none, fr0_at]; done) | rfl)⟩
  rintro c α G ⟨rfl, h0, h1, h2, h4⟩
  refine aw_block ?_
  refine aw_seq ?_
  (refine aw_ops (by kernel_rfl) (fun K hK => ?_); simp (disch := first | omega | (simp only [lnS]; try omega; done)) [-getElem?_pos, -getElem?_neg, h1, h2]; refine hK _ _ ?_; clear hK K)
  refine aw_seq ?_
  refine aw_seq ?_
  (refine aw_ops (by kernel_rfl) (fun K hK => ?_); simp (disch := first | omega | (simp only [lnS]; try omega; done)) [-getElem?_pos, -getElem?_neg, hle]; refine hK _ _ ?_; clear hK K)
  refine aw_t (by (first | (simp [eval_tmp, put_at, hle]; done) | (simp [eval_tmp, put_at, hle]; omega))) (by kernel_rfl) ?_
  refine aw_seq ?_
  refine aw_ops (by kernel_rfl) (fun K hK => ?_)
  simp (disch := first | omega | (simp only [lnS]; try omega; done)) [-getElem?_pos, -getElem?_neg, h0, h1, h2, h4, -notTuple, v1, v2, hfn, hfc, nt_intG]
  refine ⟨by kernel_rfl, hins.mono ?_⟩
  intro u G1 hq
  try simp (disch := first | omega | (simp only [lnS]; try omega; done)) [-getElem?_pos, -getElem?_neg]
  refine hK _ _ ?_; clear hK K
  (refine aw_ret ?_; simp (disch := first | omega | (simp only [lnS]; try omega; done)) [-getElem?_pos, -getElem?_neg, thenQ_ret, scopeQ_ret, inBlockQ_ret, RQ, resL, resV])
  exact hq
theorem sortFunc_go {nro : Nat} {γ : Nat → Option Nat} {H : AH} {v : Value} {n : Nat} {Q : Value → AH → Prop} (hv : notTuple v = true ∧ v.cells = #[v]) (hxl : xlen Try.prog 30 v = some (.int .i64 n)) (hle : n ≤ 12)
    (hins : AC Try.prog nro γ 83 #[v, .int .i64 0, .int .i64 (n : Nat), .func (.func 49) #[] #[]] H (fun _ G => ∀ u, Q u G)) :
    AC Try.prog nro γ 48 #[v, .func (.func 49) #[] #[]] H (fun _ G => ∀ u, Q u G) := by
  have hgo := fun z => sort_go (z := z) hv hle hins
  obtain ⟨v1, v2⟩ := hv
  have hfn : notTuple (.func (.func 49) #[] #[]) = true := rfl
  have hfc : (Value.func (.func 49) #[] #[]).cells = #[.func (.func 49) #[] #[]] := rfl
  have hlen := len_rc (nro := nro) (γ := γ) (H := H) hle
  refine ac_of_aw Try.func48 rfl Try.ntmps48 Try.results48 (by simp) ?_
  refine aw_seq ?_
  (refine aw_ops (by kernel_rfl) (fun K hK => ?_); simp (disch := first | omega | (simp only [lnS]; try omega; done)) [-getElem?_pos, -getElem?_neg, -notTuple, v1, v2, hfn, hfc, nt_intG, -xlen, hxl]; refine hK _ _ ?_; clear hK K)
  refine aw_ops (by kernel_rfl) (fun K hK => ?_)
  simp (disch := first | omega | (simp only [lnS]; try omega; done)) [-getElem?_pos, -getElem?_neg, -notTuple, v1, v2, hfn, hfc, nt_intG]
  refine ⟨by kernel_rfl, hlen.mono ?_⟩
  rintro u1 G1 ⟨rfl, z, rfl⟩
  try simp (disch := first | omega | (simp only [lnS]; try omega; done)) [-getElem?_pos, -getElem?_neg, -notTuple, v1, v2, hfn, hfc, nt_intG]
  refine ⟨by kernel_rfl, (hgo z).mono ?_⟩
  intro u G1 hq
  try simp (disch := first | omega | (simp only [lnS]; try omega; done)) [-getElem?_pos, -getElem?_neg]
  refine hK _ _ ?_; clear hK K
  exact ⟨[], _, rfl, rfl, hq⟩
theorem insertion_nil {nro : Nat} {γ : Nat → Option Nat} {H : AH} : AC Try.prog nro γ 83 #[.slice none 0 0, .int .i64 0, .int .i64 ((0 : Nat) : Int), .func (.func 49) #[] #[]] H (fun _ G => G = H) := by
  refine ac_of_aw Try.func83 rfl Try.ntmps83 Try.results83 (by simp) ?_
  refine aw_seq ?_
  (refine aw_ops (by kernel_rfl) (fun K hK => ?_); simp (disch := first | omega | (simp only [lnS]; try omega; done)) [-getElem?_pos, -getElem?_neg]; refine hK _ _ ?_; clear hK K)
  refine aw_block ?_
  refine aw_loop (fun c α G => G = H ∧ α 8 = .int .i64 1 ∧ α 2 = .int .i64 0) 1 ?_ ?_
  · exact ⟨rfl, by (first | (simp [put_at, put_none, fr0_at]; done) | rfl), by (first | (simp [put_at, put_none, fr0_at]; done) | rfl)⟩
  rintro c α G ⟨rfl, h8, h2⟩
  refine aw_seq ?_
  refine aw_seq ?_
  (refine aw_ops (by kernel_rfl) (fun K hK => ?_); simp (disch := first | omega | (simp only [lnS]; try omega; done)) [-getElem?_pos, -getElem?_neg, h8, h2]; refine hK _ _ ?_; clear hK K)
  refine aw_f (by (first | (simp [eval_tmp, put_at]; done) | (simp [eval_tmp, put_at]; omega))) (by kernel_rfl) ?_
  refine aw_exit ?_
  exact ⟨[], _, rfl, rfl, rfl⟩
/-- An own list of keys, sorted where it lies. -/
theorem sortFunc_ac {nro : Nat} {γ : Nat → Option Nat} {H : AH} {v : Value} {F : List Nat} {ids : List (List Int)} (ho : OwnF H v 24 32 (kr ids) F) (hF : ∀ j ∈ F, nro ≤ j) (hk : K32 ids) (hy : ∀ k ∈ ids, By k) (hnd : ids.Nodup) (hle : ids.length ≤ 12) :
    AC Try.prog nro γ 48 #[v, .func (.func 49) #[] #[]] H (fun _ G => OwnF G v 24 32 (kr (sortK ids)) F ∧ H.length ≤ G.length ∧ ∀ j, j < H.length → j ∉ F → hget G j = hget H j) := by
  have hxl := ho.len (P := Try.prog) (t := 30) (by simp) (kr_len hk) (by omega)
  have hnt := own_nt ho
  refine (sortFunc_go (nro := nro) (γ := γ) (Q := fun _ G => OwnF G v 24 32 (kr (sortK ids)) F ∧ H.length ≤ G.length ∧ ∀ j, j < H.length → j ∉ F → hget G j = hget H j) hnt hxl hle ?_).mono (fun u G h => h u)
  rcases ho with ⟨rfl, hc, rfl⟩ | ⟨j, len, rfl, h2, h3, rfl⟩
  · have hl : ids = [] := by
      have := kr_len hk
      rw [hc, List.length_nil] at this
      exact List.eq_nil_of_length_eq_zero (by omega)
    subst hl
    refine (insertion_nil (nro := nro) (γ := γ) (H := H)).mono ?_
    rintro _ G rfl _
    refine ⟨.inl ⟨rfl, ?_, rfl⟩, Nat.le_refl _, fun _ _ _ => rfl⟩
    rw [(sortK_perm []).eq_nil]; rfl
  · rw [kr_len hk] at h3
    obtain rfl : ids.length = len := by omega
    refine (insertion_ac (nro := nro) (γ := γ) h2 rfl hk hy hnd (by omega) (hF j (by simp))).mono ?_
    rintro _ G ⟨q1, q2, q3⟩ _
    have hks : K32 (sortK ids) := fun k hm => hk k ((sortK_perm ids).mem_iff.1 hm)
    exact ⟨.inr ⟨j, _, rfl, q1, by rw [kr_len hks, (sortK_perm ids).length_eq], rfl⟩, q2, fun i hi hn => q3 i hi (fun e => hn (by simp [e]))⟩
end
section
theorem hasW_zero (k : Nat) : hasW [0, 0] 0 k = false := by
  unfold hasW
  have : ([0, 0] : List Nat).getD (2 * 0 + k / 64) 0 = 0 := by
    match k / 64 with
    | 0 => rfl
    | 1 => rfl
    | j + 2 => rfl
  rw [this]
  exact Nat.zero_testBit _
def behT (l : List NodeD) (t k : Nat) : Bool := (List.range t).any fun i => decide ((k : Int) ∈ (nd l i).past)
theorem behT_succ (l : List NodeD) (t k : Nat) : behT l (t + 1) k = (behT l t k || decide ((k : Int) ∈ (nd l t).past)) := by
  unfold behT
  rw [List.range_succ, List.any_append]
  simp
def headT (l : List NodeD) (t : Nat) : List (List Int) := ((List.range t).filter fun k => !behB l k).map fun k => (nd l k).id
theorem headT_succ (l : List NodeD) (t : Nat) : headT l (t + 1) = headT l t ++ (if behB l t = true then [] else [(nd l t).id]) := by
  unfold headT
  rw [List.range_succ, List.filter_append, List.map_append]
  cases h : behB l t <;> simp [h]
theorem headT_len (l : List NodeD) (t : Nat) : (headT l t).length ≤ t := by
  unfold headT
  rw [List.length_map]
  exact Nat.le_trans (List.length_filter_le _ _) (by simp)
theorem headT_mem {l : List NodeD} {t : Nat} {k : List Int} (h : k ∈ headT l t) : ∃ i, i < t ∧ k = (nd l i).id := by
  unfold headT at h
  obtain ⟨i, hi, rfl⟩ := List.mem_map.1 h
  exact ⟨i, List.mem_range.1 (List.mem_filter.1 hi).1, rfl⟩
theorem Oth.low {n b : Nat} {H G K : AH} (hn : n ≤ b) (hl : Low n H G) (h : Oth b G K) : Low n H K := ⟨fun j hj => (h.2 j (by have := hl.2; omega) (by omega)).trans (hl.1 j hj), by have := hl.2; have := h.1; omega⟩
theorem fill_keyG {k : IntKind} {x : List Int} {n : Nat} (z : List Int) (hx : (iv k x).length = n) : xfill (fun i => some (i * n, n)) (List.map (fun j => (iv k z)[j % n]?.getD undef) (List.range n)) [(0, .agg (iv k x).toArray)] = some (iv k x) := by
  have h1 : (Value.agg (iv k x).toArray).cells.size = n := by simpa [Value.cells] using hx
  unfold xfill
  simp only [Nat.zero_mul]
  rw [if_pos ⟨h1, by rw [h1]; simp⟩]
  unfold xfill
  rw [setR_all _ _ (by simp [Value.cells, hx])]
  rfl
/-- Answers of Heads. -/
def HeadsQ (l : List NodeD) (H : AH) (v' : Value) (H' : AH) : Prop :=
  Low H.length H H' ∧ ((rightG l = true ∧ ∃ F, OwnF H' v' 24 32 (kr (headsL l)) F ∧ ∀ j ∈ F, H.length ≤ j) ∨ (rightG l = false ∧ v' = .slice none 0 0))
attribute [local simp] wb_bool wb_undef with_lit XL_nil XL_cons XLc_val XLc_call step1_eq stepW_t stepW_f stepC_n stepC_s stepX_s stepX_n stepN_s calleeX oneV xop_eq xopR_s xopR_n wantedA_eq wantedG_n wantedG_s plain1_int plain1_bool plain1_string bits_i64 bits_u64 bits_u32 bits_u16 bits_u8 xeqA xagg xcmp xarr allK_iv num_iv calleeOf xread xeff xbin xint xnil xun xstr xload xconv xpart xfield xfieldAddr xindexAddr xindex bnd asInt? xslice xlen xmin xmax xbuild xfill xappend xapp2 xappstr xappmk xcap xcopy xcells eval_tmp eval_const put_at put_none fr0_at cells_agg cells_int cells_bool cells_string cells_ptr cells_slice notTuple tab iv_all hget_app hget_app0 hget_cons0 hget_cons set_app set_app0 setR setR_one QL_nil QL_cons QLc_val stepQ_t stepQ_f stepQC_n stepQC_s stepQX_s SL_nil SL_cons SLc_val stepS_t stepS_f ltT ltF leT leF eqT eqF ltTn ltFn leTn leFn eqTn eqFn beqT beqF bneT bneF wi64 wu64 wu32 wu16 wu8 tmodP tdivP hgetL hgetNe hgetEq setL nums_def nums_len Nat.succ_le_of_lt List.getElem?_cons_zero List.getElem?_cons_succ Option.getD_some Int.toNat_add Int.toNat_mul agM okM agB agI agS agP agL agA okB okI okS okP okSl okA
theorem heads_rc {γ : Nat → Option Nat} {H : AH} {nv : Value} {l : List NodeD} (hN : NdA H nv l) : AC Try.prog H.length γ 19 #[nv] H (HeadsQ l H) := by
  have r3 := graph_right_rc (γ := γ) hN
  have hN' := hN
  obtain ⟨hnt, hvc, hxl, hwf, hat⟩ := hN
  refine ac_of_aw Try.func19 rfl Try.ntmps19 Try.results19 (by simp) ?_
  refine aw_seq ?_
  (refine aw_ops (by kernel_rfl) (fun K hK => ?_); simp (disch := first | omega | (simp only [lnS]; try omega; done)) [-getElem?_pos, -getElem?_neg]; refine hK _ _ ?_; clear hK K)
  refine aw_seq ?_
  refine aw_seq ?_
  refine aw_ops (by kernel_rfl) (fun K hK => ?_)
  simp (disch := first | omega | (simp only [lnS]; try omega; done)) [-getElem?_pos, -getElem?_neg, -notTuple, hnt, hvc, nt_intG]
  refine ⟨by kernel_rfl, ac_of_rc r3 (by simp [pv_iv, pv_int, pv_bool, pv_string, pv_tup2, pv_tup3, iv_plain, p2_int, p2_bool, p2_string]) ?_⟩
  cases hr : rightG l with
  | false =>
    try simp (disch := first | omega | (simp only [lnS]; try omega; done)) [-getElem?_pos, -getElem?_neg]
    refine hK _ _ ?_; clear hK K
    refine aw_t (by (first | (simp [eval_tmp, put_at]; done) | (simp [eval_tmp, put_at]; omega))) (by kernel_rfl) ?_
    refine aw_seq ?_
    (refine aw_ops (by kernel_rfl) (fun K hK => ?_); simp (disch := first | omega | (simp only [lnS]; try omega; done)) [-getElem?_pos, -getElem?_neg]; refine hK _ _ ?_; clear hK K)
    (refine aw_ret ?_; simp (disch := first | omega | (simp only [lnS]; try omega; done)) [-getElem?_pos, -getElem?_neg, thenQ_ret, scopeQ_ret, inBlockQ_ret, RQ, resL, resV])
    exact ⟨Low.refl (Nat.le_refl _), .inr ⟨hr, rfl⟩⟩
  | true =>
  try simp (disch := first | omega | (simp only [lnS]; try omega; done)) [-getElem?_pos, -getElem?_neg]
  refine hK _ _ ?_; clear hK K
  refine aw_f (by (first | (simp [eval_tmp, put_at]; done) | (simp [eval_tmp, put_at]; omega))) (by kernel_rfl) ?_
  refine aw_skip ?_
  have hl := rightG_len hr
  have hm63 : l.length ≤ 9223372036854775807 := by omega
  obtain ⟨n, hn⟩ : ∃ n, n = H.length := ⟨_, rfl⟩
  refine aw_seq ?_
  (refine aw_ops (by kernel_rfl) (fun K hK => ?_); simp (disch := first | omega | (simp only [lnS]; try omega; done)) [-getElem?_pos, -getElem?_neg]; refine hK _ _ ?_; clear hK K)
  obtain ⟨hlow0, hb0⟩ := boxed (H := H) (iv .u64 (zl 2)) 67
  have hwz : iv .u64 (zl 2) = [] ++ wv [0, 0] := rfl
  rw [hwz] at hlow0 hb0 ⊢
  rw [← hn] at hlow0 hb0 ⊢
  generalize H ++ [some ⟨[] ++ wv [0, 0], 67, none⟩] = G0 at *
  have hwd0 : Wd [0, 0] := fun x hx => by
    have : x = 0 := by simpa using hx
    omega
  refine aw_seq ?_
  refine aw_seq ?_
  (refine aw_ops (by kernel_rfl) (fun K hK => ?_); simp (disch := first | omega | (simp only [lnS]; try omega; done)) [-getElem?_pos, -getElem?_neg, -notTuple, hnt, hvc, nt_intG, -xlen, hxl]; refine hK _ _ ?_; clear hK K)
  refine aw_block ?_
  refine aw_loop (fun c α G => ∃ (t : Nat) (W : List Nat), t + c = l.length ∧ α 0 = nv ∧ α 3 = .pointer (some ⟨n, 0, none⟩) ∧ α 14 = nv ∧ α 15 = .int .i64 (l.length : Nat) ∧ α 16 = .int .i64 (t : Nat) ∧ Low n H G ∧ hget G n = some ⟨[] ++ wv W, 67, none⟩ ∧ Wd W ∧ W.length = 2 ∧ ∀ k, k < 128 → hasW W 0 k = behT l t k) l.length ?_ ?_
  · exact ⟨0, [0, 0], by omega, by (first | (simp [put_at, put_none, fr0_at]; done) | rfl), by (first | (simp [put_at, put_none, fr0_at]; done) | rfl), by (first | (simp [put_at, put_none, fr0_at]; done) | rfl), by (first | (simp [put_at, put_none, fr0_at]; done) | rfl), by (first | (simp [put_at, put_none, fr0_at]; done) | rfl), hlow0, hb0, hwd0, rfl, fun k _ => hasW_zero k⟩
  rintro c α G ⟨t, W, htc, h0, h3, h14, h15, h16, hlow, hb, hwd, hWl, hW⟩
  refine aw_seq ?_
  by_cases ht : t < l.length
  case neg =>
    (refine aw_ops (by kernel_rfl) (fun K hK => ?_); simp (disch := first | omega | (simp only [lnS]; try omega; done)) [-getElem?_pos, -getElem?_neg, h15, h16, ht]; refine hK _ _ ?_; clear hK K)
    refine aw_seq ?_
    refine aw_f (by (first | (simp [eval_tmp, put_at, ht]; done) | (simp [eval_tmp, put_at, ht]; omega))) (by kernel_rfl) ?_
    refine aw_exit ?_
    obtain rfl : t = l.length := by omega
    have hW2 : ∀ k, k < 128 → hasW W 0 k = behB l k := hW
    clear hW h14 h15 h16
    refine aw_seq ?_
    (refine aw_ops (by kernel_rfl) (fun K hK => ?_); simp (disch := first | omega | (simp only [lnS]; try omega; done)) [-getElem?_pos, -getElem?_neg]; refine hK _ _ ?_; clear hK K)
    refine aw_seq ?_
    refine aw_seq ?_
    (refine aw_ops (by kernel_rfl) (fun K hK => ?_); simp (disch := first | omega | (simp only [lnS]; try omega; done)) [-getElem?_pos, -getElem?_neg, h0, -notTuple, hnt, hvc, nt_intG, -xlen, hxl]; refine hK _ _ ?_; clear hK K)
    refine aw_block ?_
    refine aw_loop (fun c2 α G => ∃ (i : Nat) (v : Value) (F : List Nat), i + c2 = l.length ∧ α 3 = .pointer (some ⟨n, 0, none⟩) ∧ α 8 = v ∧ α 31 = nv ∧ α 32 = .int .i64 (l.length : Nat) ∧ α 33 = .int .i64 (i : Nat) ∧ Low n H G ∧ hget G n = some ⟨[] ++ wv W, 67, none⟩ ∧ OwnF G v 24 32 (kr (headT l i)) F ∧ ∀ j ∈ F, n < j) l.length ?_ ?_
    · exact ⟨0, .slice none 0 0, [], by omega, by (first | (simp [put_at, put_none, fr0_at, h3]; done) | rfl), by (first | (simp [put_at, put_none, fr0_at]; done) | rfl), by (first | (simp [put_at, put_none, fr0_at]; done) | rfl), by (first | (simp [put_at, put_none, fr0_at]; done) | rfl), by (first | (simp [put_at, put_none, fr0_at]; done) | rfl), hlow, hb, .inl ⟨rfl, rfl, rfl⟩, fun j hj => by cases hj⟩
    rintro c2 α G ⟨i, v, F, hic, h3, h8, h31, h32, h33, hlow, hb, hown, hF⟩
    obtain ⟨v1, v2⟩ := own_nt hown
    have hTl := headT_len l i
    refine aw_seq ?_
    by_cases hi : i < l.length
    case neg =>
      (refine aw_ops (by kernel_rfl) (fun K hK => ?_); simp (disch := first | omega | (simp only [lnS]; try omega; done)) [-getElem?_pos, -getElem?_neg, h32, h33, hi]; refine hK _ _ ?_; clear hK K)
      refine aw_seq ?_
      refine aw_f (by (first | (simp [eval_tmp, put_at, hi]; done) | (simp [eval_tmp, put_at, hi]; omega))) (by kernel_rfl) ?_
      refine aw_exit ?_
      obtain rfl : i = l.length := by omega
      have hids : headT l l.length = headK l := rfl
      rw [hids] at hown hTl
      have hsort := sortFunc_ac (nro := n) (γ := γ) hown (fun j hj => by have := hF j hj; omega) (fun k hk => by
        obtain ⟨i, hi, rfl⟩ := headT_mem (t := l.length) hk
        exact (hwf _ (List.mem_of_getElem? (nd_get hi))).id.1) (fun k hk => by
        obtain ⟨i, hi, rfl⟩ := headT_mem (t := l.length) hk
        exact (hwf _ (List.mem_of_getElem? (nd_get hi))).id.2) (headK_nodup hr) (by have := headP_len hr; unfold headK; rw [List.length_map]; omega)
      refine aw_seq ?_
      refine aw_ops (by kernel_rfl) (fun K hK => ?_)
      simp (disch := first | omega | (simp only [lnS]; try omega; done)) [-getElem?_pos, -getElem?_neg, h8, -notTuple, v1, v2, nt_intG, eval_fnG]
      refine ⟨by kernel_rfl, hsort.mono ?_⟩
      rintro u G1 ⟨ho, hle, hk⟩
      try simp (disch := first | omega | (simp only [lnS]; try omega; done)) [-getElem?_pos, -getElem?_neg]
      refine hK _ _ ?_; clear hK K
      refine aw_seq ?_
      (refine aw_ops (by kernel_rfl) (fun K hK => ?_); simp (disch := first | omega | (simp only [lnS]; try omega; done)) [-getElem?_pos, -getElem?_neg, h8, -notTuple, v1, v2]; refine hK _ _ ?_; clear hK K)
      (refine aw_ret ?_; simp (disch := first | omega | (simp only [lnS]; try omega; done)) [-getElem?_pos, -getElem?_neg, thenQ_ret, scopeQ_ret, inBlockQ_ret, RQ, resL, resV])
      exact ⟨⟨fun j hj => (hk j (by have := hlow.2; omega) (fun h => by have := hF j h; omega)).trans (hlow.1 j (by omega)), by have := hlow.2; omega⟩, .inl ⟨hr, F, ho, fun j hj => by have := hF j hj; omega⟩⟩
    obtain ⟨j, q, bb, us, pv, wv', bv, qv, hx, hbb, hq, hcell, hus, hC⟩ := hat i _ (nd_get hi)
    have hbG : hget G j = some bb := (hlow.1 j (by have := hget_lt hbb; omega)).trans hbb
    have hul := hC.len
    have hid := hC.id
    have hidl := (hwf _ (List.mem_of_getElem? (nd_get hi))).id.1
    have hivl : (iv .u8 (nd l i).id).length = 32 := by rw [iv_length, hidl]
    have hle0 := hlow.2
    have hset2 : ∀ Z : List Value, Z.length = 104 → setR Z 0 us = us := fun Z hZ => setR_all _ _ (by omega)
    have hus' := hus.symm
    clear hus
    have hp0 : plain1 (.slice none 0 0) = true := rfl
    (refine aw_ops (by kernel_rfl) (fun K hK => ?_); simp (disch := first | omega | (simp only [lnS]; try omega; done)) [-getElem?_pos, -getElem?_neg, h32, h33, hi]; refine hK _ _ ?_; clear hK K)
    refine aw_seq ?_
    refine aw_t (by (first | (simp [eval_tmp, put_at, hi]; done) | (simp [eval_tmp, put_at, hi]; omega))) (by kernel_rfl) ?_
    refine aw_skip ?_
    refine aw_seq ?_
    refine aw_block ?_
    refine aw_seq ?_
    have hnG : H.length ≤ G.length := by omega
    (refine aw_ops (by kernel_rfl) (fun K hK => ?_); simp (disch := first | omega | (simp only [lnS]; try omega; done)) [-getElem?_pos, -getElem?_neg, h31, h33, -notTuple, hnt, hvc, nt_intG, nt_aggG, -xindexAddr, hx, hbG, hus', hul, hq, hnG, hp0, all_zl, hset2]; refine hK _ _ ?_; clear hK K)
    obtain ⟨hlow2, hb2⟩ := boxed (H := G) us 39
    have hmb := hget_left' (L := [some ⟨us, 39, none⟩]) hb
    have hown := hown.low (H' := G ++ ([some ⟨us, 39, none⟩] : AH)) (fun j hj => hget_left (hown.lt j hj))
    obtain ⟨g, hg⟩ : ∃ g, g = G.length := ⟨_, rfl⟩
    rw [← hg] at hb2 hlow2 hle0 ⊢
    generalize G ++ [some ⟨us, 39, none⟩] = G2 at *
    have hlowG2 : Low n H G2 := ⟨fun j hj => (hlow2.1 j (by omega)).trans (hlow.1 j hj), by have := hlow2.2; omega⟩
    have hhas := has_rc (nro := n) (γ := γ) (i := 0) (k := i) (off := 0) (p := 0) (pre := []) hmb rfl rfl hwd (by omega) (by omega)
    rw [hW2 i (by omega)] at hhas
    have hsu := headT_succ l i
    refine aw_seq ?_
    refine aw_ops (by kernel_rfl) (fun K hK => ?_)
    simp (disch := first | omega | (simp only [lnS]; try omega; done)) [-getElem?_pos, -getElem?_neg, h3]
    refine ⟨by kernel_rfl, hhas.mono ?_⟩
    rintro u G3 ⟨rfl, rfl⟩
    cases hbh : behB l i with
    | true =>
      try simp (disch := first | omega | (simp only [lnS]; try omega; done)) [-getElem?_pos, -getElem?_neg]
      refine hK _ _ ?_; clear hK K
      refine aw_f (by (first | (simp [eval_tmp, put_at]; done) | (simp [eval_tmp, put_at]; omega))) (by kernel_rfl) ?_
      refine aw_skip ?_
      (refine aw_ops (by kernel_rfl) (fun K hK => ?_); simp (disch := first | omega | (simp only [lnS]; try omega; done)) [-getElem?_pos, -getElem?_neg, h33]; refine hK _ _ ?_; clear hK K)
      rw [hbh, if_pos rfl, List.append_nil] at hsu
      exact ⟨c2 - 1, by omega, i + 1, v, F, by omega, by (first | (simp [put_at, put_none, fr0_at, h3]; done) | rfl), by (first | (simp [put_at, put_none, fr0_at, h8]; done) | rfl), by (first | (simp [put_at, put_none, fr0_at, h31]; done) | rfl), by (first | (simp [put_at, put_none, fr0_at, h32]; done) | rfl), by (first | (simp [put_at, put_none, fr0_at]; done) | rfl), hlowG2, hmb, by rw [hsu]; exact hown, hF⟩
    | false =>
      try simp (disch := first | omega | (simp only [lnS]; try omega; done)) [-getElem?_pos, -getElem?_neg]
      refine hK _ _ ?_; clear hK K
      refine aw_t (by (first | (simp [eval_tmp, put_at]; done) | (simp [eval_tmp, put_at]; omega))) (by kernel_rfl) ?_
      rw [hbh, if_neg (by simp)] at hsu
      have hTk : K32 (headT l i) := fun k hk => by
        obtain ⟨a, ha, rfl⟩ := headT_mem hk
        exact (hwf _ (List.mem_of_getElem? (nd_get (show a < l.length by omega)))).id.1
      have hkl := kr_len hTk
      generalize headT l i = out at *
      generalize (nd l i).id = key at *
      have htk : List.take 32 (iv .u8 key) = iv .u8 key := List.take_of_length_le (by omega)
      have hxc : xcells 32 (.slice (some ⟨G3.length, 0, none⟩) 1 1) (G3 ++ [some ⟨iv .u8 key, 24, some 32⟩]) = some (iv .u8 key) := by simp [xcells, hget_app0, hivl, htk]
      obtain ⟨v', G5, hap, ho3, hl3, hk3⟩ := ownF_append (P := Try.prog) (nro := n) (t := 30) (e := 24) (H := G3 ++ [some ⟨iv .u8 key, 24, some 32⟩]) (v := v) (x := .slice (some ⟨G3.length, 0, none⟩) 1 1) (sz := 32) (cells := kr out) (news := iv .u8 key) (F := F) (by simp) (by simp) (by omega) (by simp) (hown.low (fun j hj => hget_left (hown.lt j hj)))
        (fun j hj => by have := hF j hj; omega) (fun s e => by cases e) hxc (fun e => by rw [e] at hivl; simp at hivl) (by rw [hivl]) (by rw [hkl, hivl]; simp; omega) (by rw [hkl, hivl]; simp [maxLen]; omega)
      have hfil := fill_keyG (k := .u8) (x := key) (n := 32) (zl 32) hivl
      (refine aw_ops (by kernel_rfl) (fun K hK => ?_); simp (disch := first | omega | (simp only [lnS]; try omega; done)) [-getElem?_pos, -getElem?_neg, h8, hb2, hul, hid, hivl, htk, -notTuple, v1, v2, nt_slG, nt_aggG, -xfill, hfil, all_zl, -xappend, hap]; refine hK _ _ ?_; clear hK K)
      (refine aw_ops (by kernel_rfl) (fun K hK => ?_); simp (disch := first | omega | (simp only [lnS]; try omega; done)) [-getElem?_pos, -getElem?_neg, h33]; refine hK _ _ ?_; clear hK K)
      have hgl := hget_lt hmb
      refine ⟨c2 - 1, by omega, i + 1, v', _, by omega, by (first | (simp [put_at, put_none, fr0_at, h3]; done) | rfl), by (first | (simp [put_at, put_none, fr0_at]; done) | rfl), by (first | (simp [put_at, put_none, fr0_at, h31]; done) | rfl), by (first | (simp [put_at, put_none, fr0_at, h32]; done) | rfl), by (first | (simp [put_at, put_none, fr0_at]; done) | rfl), ?_, ?_, by rw [hsu, kr_app, kr_one]; exact ho3, fun j hj => ?_⟩
      · exact ⟨fun j hj => (hk3 j (by have := hlowG2.2; simp; omega) (fun h => by have := hF _ h; omega)).trans ((hget_left (by have := hlowG2.2; omega)).trans (hlowG2.1 j hj)), by have := hlowG2.2; rw [hl3]; simp; omega⟩
      · exact (hk3 n (by simp; omega) (fun h => by have := hF _ h; omega)).trans ((hget_left (by omega)).trans hmb)
      · rw [List.mem_singleton] at hj
        rw [hj]
        simp; omega
  obtain ⟨j, q, bb, us, pv, wv', bv, qv, hx, hbb, hq, hcell, hus, hC⟩ := hat t _ (nd_get ht)
  have hbG : hget G j = some bb := (hlow.1 j (by have := hget_lt hbb; omega)).trans hbb
  have hul := hC.len
  have hle0 := hlow.2
  have hset2 : ∀ Z : List Value, Z.length = 104 → setR Z 0 us = us := fun Z hZ => setR_all _ _ (by omega)
  have hus' := hus.symm
  clear hus
  have hp0 : plain1 (.slice none 0 0) = true := rfl
  have hnG : H.length ≤ G.length := by omega
  (refine aw_ops (by kernel_rfl) (fun K hK => ?_); simp (disch := first | omega | (simp only [lnS]; try omega; done)) [-getElem?_pos, -getElem?_neg, h15, h16, ht]; refine hK _ _ ?_; clear hK K)
  refine aw_seq ?_
  refine aw_t (by (first | (simp [eval_tmp, put_at, ht]; done) | (simp [eval_tmp, put_at, ht]; omega))) (by kernel_rfl) ?_
  refine aw_skip ?_
  refine aw_seq ?_
  refine aw_block ?_
  refine aw_seq ?_
  (refine aw_ops (by kernel_rfl) (fun K hK => ?_); simp (disch := first | omega | (simp only [lnS]; try omega; done)) [-getElem?_pos, -getElem?_neg, h14, h16, -notTuple, hnt, hvc, nt_intG, nt_aggG, -xindexAddr, hx, hbG, hus', hul, hq, hnG, hp0, all_zl, hset2]; refine hK _ _ ?_; clear hK K)
  obtain ⟨hlow2, hb2⟩ := boxed (H := G) us 39
  have hmb := hget_left' (L := [some ⟨us, 39, none⟩]) hb
  obtain ⟨g, hg⟩ : ∃ g, g = G.length := ⟨_, rfl⟩
  rw [← hg] at hb2 hlow2 hle0 ⊢
  generalize G ++ [some ⟨us, 39, none⟩] = G2 at *
  have hlowG2 : Low n H G2 := ⟨fun j hj => (hlow2.1 j (by omega)).trans (hlow.1 j hj), by have := hlow2.2; omega⟩
  have hC2 : NodeC G2 us (nd l t) pv wv' bv qv := hC.low (fun j hj => hlowG2.1 j (by omega))
  have hacc := hC.past.acc
  have c103 := hC.c103
  have hpm := past_len hr ht
  refine aw_seq ?_
  (refine aw_ops (by kernel_rfl) (fun K hK => ?_); simp (disch := first | omega | (simp only [lnS]; try omega; done)) [-getElem?_pos, -getElem?_neg, hb2, hul, c103, -notTuple, hacc.nt, hacc.cs, nt_intG, -xlen, hacc.len]; refine hK _ _ ?_; clear hK K)
  refine aw_block ?_
  refine aw_loop (fun c2 α G => ∃ (e : Nat) (V : List Nat), e + c2 = (nd l t).past.length ∧ α 0 = nv ∧ α 3 = .pointer (some ⟨n, 0, none⟩) ∧ α 14 = nv ∧ α 15 = .int .i64 (l.length : Nat) ∧ α 16 = .int .i64 (t : Nat) ∧ α 21 = qv ∧ α 22 = .int .i64 ((nd l t).past.length : Nat) ∧ α 23 = .int .i64 (e : Nat) ∧ Low n H G ∧ hget G n = some ⟨[] ++ wv V, 67, none⟩ ∧ Wd V ∧ V.length = 2 ∧ ∀ k, k < 128 → hasW V 0 k = (behT l t k || decide ((k : Int) ∈ (nd l t).past.take e))) (nd l t).past.length ?_ ?_
  · exact ⟨0, W, by omega, by (first | (simp [put_at, put_none, fr0_at, h0]; done) | rfl), by (first | (simp [put_at, put_none, fr0_at, h3]; done) | rfl), by (first | (simp [put_at, put_none, fr0_at, h14]; done) | rfl), by (first | (simp [put_at, put_none, fr0_at, h15]; done) | rfl), by (first | (simp [put_at, put_none, fr0_at, h16]; done) | rfl), by (first | (simp [put_at, put_none, fr0_at]; done) | rfl), by (first | (simp [put_at, put_none, fr0_at]; done) | rfl), by (first | (simp [put_at, put_none, fr0_at]; done) | rfl), hlowG2, hmb, hwd, hWl, fun k hk => by rw [hW k hk]; simp⟩
  rintro c2 α G ⟨e, V, hec, h0, h3, h14, h15, h16, h21, h22, h23, hlow, hb, hwd, hWl, hW⟩
  refine aw_seq ?_
  by_cases he : e < (nd l t).past.length
  case neg =>
    (refine aw_ops (by kernel_rfl) (fun K hK => ?_); simp (disch := first | omega | (simp only [lnS]; try omega; done)) [-getElem?_pos, -getElem?_neg, h22, h23, he]; refine hK _ _ ?_; clear hK K)
    refine aw_seq ?_
    refine aw_f (by (first | (simp [eval_tmp, put_at, he]; done) | (simp [eval_tmp, put_at, he]; omega))) (by kernel_rfl) ?_
    refine aw_exit ?_
    obtain rfl : e = (nd l t).past.length := by omega
    (refine aw_ops (by kernel_rfl) (fun K hK => ?_); simp (disch := first | omega | (simp only [lnS]; try omega; done)) [-getElem?_pos, -getElem?_neg, h16]; refine hK _ _ ?_; clear hK K)
    exact ⟨c - 1, by omega, t + 1, V, by omega, by (first | (simp [put_at, put_none, fr0_at, h0]; done) | rfl), by (first | (simp [put_at, put_none, fr0_at, h3]; done) | rfl), by (first | (simp [put_at, put_none, fr0_at, h14]; done) | rfl), by (first | (simp [put_at, put_none, fr0_at, h15]; done) | rfl), by (first | (simp [put_at, put_none, fr0_at]; done) | rfl), hlow, hb, hwd, hWl, fun k hk => by rw [hW k hk, List.take_length, behT_succ]⟩
  obtain ⟨p2, x2, p21, p22, p23, p24, p25⟩ := hacc.at_ e he
  subst p24
  obtain ⟨z, hz⟩ : ∃ z, z = (nd l t).past.getD e 0 := ⟨_, rfl⟩
  rw [← hz] at p25
  have hze : (nd l t).past[e]? = some z := by rw [hz, List.getD_eq_getElem?_getD, List.getElem?_eq_getElem he]; rfl
  have htk2 : (nd l t).past.take (e + 1) = (nd l t).past.take e ++ [z] := by rw [List.take_add_one, hze]; rfl
  have p25 := p25 G (hn ▸ hlow)
  obtain ⟨kz, rfl, hkz⟩ := past_bd hr ht (List.mem_of_getElem? hze)
  have hadd := add_ac (nro := n) (γ := γ) (i := 0) (k := kz) (off := 0) (p := 0) (pre := []) hb (by omega) rfl rfl hwd (by omega) (by omega)
  (refine aw_ops (by kernel_rfl) (fun K hK => ?_); simp (disch := first | omega | (simp only [lnS]; try omega; done)) [-getElem?_pos, -getElem?_neg, h22, h23, he]; refine hK _ _ ?_; clear hK K)
  refine aw_seq ?_
  refine aw_t (by (first | (simp [eval_tmp, put_at, he]; done) | (simp [eval_tmp, put_at, he]; omega))) (by kernel_rfl) ?_
  refine aw_skip ?_
  refine aw_seq ?_
  refine aw_block ?_
  refine aw_seq ?_
  (refine aw_ops (by kernel_rfl) (fun K hK => ?_); simp (disch := first | omega | (simp only [lnS]; try omega; done)) [-getElem?_pos, -getElem?_neg, h21, h23, -notTuple, hacc.nt, hacc.cs, p21, nt_intG, -xindexAddr, p22, -xload, p25]; refine hK _ _ ?_; clear hK K)
  refine aw_ops (by kernel_rfl) (fun K hK => ?_)
  simp (disch := first | omega | (simp only [lnS]; try omega; done)) [-getElem?_pos, -getElem?_neg, h3]
  refine ⟨by kernel_rfl, hadd.mono ?_⟩
  rintro u G3 rfl
  try simp (disch := first | omega | (simp only [lnS]; try omega; done)) [-getElem?_pos, -getElem?_neg]
  refine hK _ _ ?_; clear hK K
  have hbl := hget_lt hb
  have hb3 : hget (G.set n (some ⟨wv (addW V 0 kz), 67, none⟩)) n = some ⟨wv (addW V 0 kz), 67, none⟩ := hget_set_eq hbl
  have hlow3 : Low n H (G.set n (some ⟨wv (addW V 0 kz), 67, none⟩)) := ⟨fun j hj => (hget_set_ne (by omega)).trans (hlow.1 j hj), by rw [List.length_set]; exact hlow.2⟩
  generalize G.set n (some ⟨wv (addW V 0 kz), 67, none⟩) = G4 at *
  (refine aw_ops (by kernel_rfl) (fun K hK => ?_); simp (disch := first | omega | (simp only [lnS]; try omega; done)) [-getElem?_pos, -getElem?_neg, h23]; refine hK _ _ ?_; clear hK K)
  refine ⟨c2 - 1, by omega, e + 1, addW V 0 kz, by omega, by (first | (simp [put_at, put_none, fr0_at, h0]; done) | rfl), by (first | (simp [put_at, put_none, fr0_at, h3]; done) | rfl), by (first | (simp [put_at, put_none, fr0_at, h14]; done) | rfl), by (first | (simp [put_at, put_none, fr0_at, h15]; done) | rfl), by (first | (simp [put_at, put_none, fr0_at, h16]; done) | rfl), by (first | (simp [put_at, put_none, fr0_at, h21]; done) | rfl), by (first | (simp [put_at, put_none, fr0_at, h22]; done) | rfl), by (first | (simp [put_at, put_none, fr0_at]; done) | rfl), hlow3, hb3, hwd.add 0 kz, by rw [addW_len, hWl], fun k hk => ?_⟩
  rw [hasW_add (by omega) hk (by omega), hW k hk, htk2]
  rw [Bool.eq_iff_iff]
  simp only [Bool.or_eq_true, Bool.and_eq_true, decide_eq_true_eq, List.mem_append, List.mem_singleton, or_assoc]
  refine or_congr Iff.rfl (or_congr Iff.rfl ?_)
  constructor
  · intro h; have := h.2; omega
  · intro h; exact ⟨trivial, by omega⟩
end
section
/-- How many of a past are an author's. -/
def aheadL (l : List NodeD) (P : List Int) (x : Int) : Nat := (P.filter fun z => (nd l z.toNat).op.author == x).length
theorem aheadL_le (l : List NodeD) (P : List Int) (x : Int) : aheadL l P x ≤ P.length := List.length_filter_le _ _
theorem aheadL_succ {l : List NodeD} {P : List Int} {e : Nat} {z : Int} (x : Int) (h : P[e]? = some z) : aheadL l (P.take (e + 1)) x = aheadL l (P.take e) x + if (nd l z.toNat).op.author = x then 1 else 0 := by
  unfold aheadL
  rw [List.take_add_one, h, List.filter_append, List.length_append]
  congr 1
  show (List.filter _ [z]).length = _
  by_cases hc : (nd l z.toNat).op.author = x
  · simp [hc]
  · have : ((nd l z.toNat).op.author == x) = false := by simpa using hc
    simp [this, hc]
/-- May it be put behind? -/
def seqOk (l : List NodeD) (o : OpD) : Bool := !(decide (o.kind = 1) && decide (0 < l.length)) && (decide (o.seq = 1 + (aheadL l (pastL l l.length o.parents) o.author : Nat)) && decide (aheadL l (pastL l l.length o.parents) o.author = autN l l.length o.author))
def addE (l : List NodeD) (id : List Int) (o : OpD) : Int :=
  if rightG l = false then 1 else if rightO o = false then 1 else if (findN l l.length id).isSome = true then 13 else if l.length = 96 then 8 else if o.parents.all (fun p => (findN l l.length p).isSome) = false then 14 else if seqOk l o = false then 15 else 0
def addD (l : List NodeD) (id : List Int) (o : OpD) : NodeD := ⟨id, o, pastL l l.length o.parents⟩
/-- New memory that shows nodes. -/
def NewG (n : Nat) (H : AH) (v : Value) (l : List NodeD) : Prop := ∀ G, KeepN n H G → NdV G v l
def AddQ (l : List NodeD) (id : List Int) (o : OpD) (H : AH) (v' : Value) (H' : AH) : Prop :=
  Low H.length H H' ∧ ∃ sv, v' = .tuple #[sv, .int .i64 (addE l id o)] ∧ ((addE l id o = 0 ∧ NewG H.length H' sv (l ++ [addD l id o])) ∨ (addE l id o ≠ 0 ∧ sv = .slice none 0 0))
theorem AddQ.bad {l : List NodeD} {id : List Int} {o : OpD} {H H' : AH} {z : Int} (hl : Low H.length H H') (h : addE l id o = z) (hz : z ≠ 0) : AddQ l id o H (.tuple #[.slice none 0 0, .int .i64 z]) H' :=
  ⟨hl, _, by rw [h], .inr ⟨by rw [h]; exact hz, rfl⟩⟩
theorem fill_row {Z row : List Value} (hr : row.length = 104) (hZ : Z.length = 104) : xfill (fun i => some (i * 104, 104)) Z [(0, .agg row.toArray)] = some row := by
  have h1 : (Value.agg row.toArray).cells.size = 104 := by simpa [Value.cells] using hr
  unfold xfill
  simp only [Nat.zero_mul]
  rw [if_pos ⟨h1, by omega⟩]
  unfold xfill
  rw [setR_all _ _ (by simp [Value.cells, hr, hZ])]
  rfl
attribute [local simp] wb_bool wb_undef with_lit XL_nil XL_cons XLc_val XLc_call step1_eq stepW_t stepW_f stepC_n stepC_s stepX_s stepX_n stepN_s calleeX oneV xop_eq xopR_s xopR_n wantedA_eq wantedG_n wantedG_s plain1_int plain1_bool plain1_string bits_i64 bits_u64 bits_u32 bits_u16 bits_u8 xeqA xagg xcmp xarr allK_iv num_iv calleeOf xread xeff xbin xint xnil xun xstr xload xconv xpart xfield xfieldAddr xindexAddr xindex bnd asInt? xslice xlen xmin xmax xbuild xfill xappend xapp2 xappstr xappmk xcap xcopy xcells eval_tmp eval_const put_at put_none fr0_at cells_agg cells_int cells_bool cells_string cells_ptr cells_slice notTuple tab iv_all hget_app hget_app0 hget_cons0 hget_cons set_app set_app0 setR setR_one QL_nil QL_cons QLc_val stepQ_t stepQ_f stepQC_n stepQC_s stepQX_s SL_nil SL_cons SLc_val stepS_t stepS_f ltT ltF leT leF eqT eqF ltTn ltFn leTn leFn eqTn eqFn beqT beqF bneT bneF wi64 wu64 wu32 wu16 wu8 tmodP tdivP hgetL hgetNe hgetEq setL nums_def nums_len Nat.succ_le_of_lt List.getElem?_cons_zero List.getElem?_cons_succ Option.getD_some Int.toNat_add Int.toNat_mul agM okM agB agI agS agP agL agA okB okI okS okP okSl okA
theorem add_rc {γ : Nat → Option Nat} {H : AH} {nv pv wv bv : Value} {l : List NodeD} {id : List Int} {us : List Value} {o : OpD} (hN : NdA H nv l) (hid : Key32 id) (hO : OpC H us o pv wv bv) (hw : o.Wf) : AC Try.prog H.length γ 24 #[nv, .agg (iv .u8 id).toArray, .agg us.toArray] H (AddQ l id o H) := by
  have hivl : (iv .u8 id).length = 32 := by rw [iv_length, hid.1]
  have hta : (iv .u8 id).take 32 = iv .u8 id := List.take_of_length_le (by omega)
  have hul := hO.len
  have htu : us.take 71 = us := List.take_of_length_le (by omega)
  refine ac_of_aw Try.func24 rfl Try.ntmps24 Try.results24 (by simp) ?_
  refine aw_seq ?_
  (refine aw_ops (by kernel_rfl) (fun K hK => ?_); simp (disch := first | omega | (simp only [lnS]; try omega; done)) [-getElem?_pos, -getElem?_neg, hivl, hul, nt_aggG]; refine hK _ _ ?_; clear hK K)
  obtain ⟨G, hG⟩ : ∃ G : AH, G = H ++ [some ⟨iv .u8 id, 24, none⟩, some ⟨us, 37, none⟩] := ⟨_, rfl⟩
  have b4 : hget G H.length = some ⟨iv .u8 id, 24, none⟩ := by rw [hG, hget_app0]; rfl
  have b5 : hget G (H.length + 1) = some ⟨us, 37, none⟩ := by rw [hG, hget_app]; rfl
  have lw : Low H.length H G := hG ▸ Low.push (Nat.le_refl _) _
  have gl : G.length = H.length + 2 := by simp [hG]
  rw [← hG]
  clear hG
  have hNG := hN.lowG lw
  have hOG : OpC G us o pv wv bv := hO.low lw.1
  have hnt := hN.nt
  have hvc := hN.cs
  have hxl := hN.len
  have r1 := graph_right_rc (γ := γ) hNG
  have r2 := right_rc (γ := γ) hOG hw
  obtain ⟨n, hn⟩ : ∃ n, n = H.length := ⟨_, rfl⟩
  rw [← hn] at b4 b5 gl lw ⊢
  refine aw_seq ?_
  refine aw_block ?_
  refine aw_seq ?_
  refine aw_seq ?_
  refine aw_ops (by kernel_rfl) (fun K hK => ?_)
  simp (disch := first | omega | (simp only [lnS]; try omega; done)) [-getElem?_pos, -getElem?_neg, -notTuple, hnt, hvc, nt_intG]
  refine ⟨by kernel_rfl, ac_of_rc r1 (by simp [pv_iv, pv_int, pv_bool, pv_string, pv_tup2, pv_tup3, iv_plain, p2_int, p2_bool, p2_string]) ?_⟩
  cases h1 : rightG l with
  | false =>
    try simp (disch := first | omega | (simp only [lnS]; try omega; done)) [-getElem?_pos, -getElem?_neg]
    refine hK _ _ ?_; clear hK K
    refine aw_t (by (first | (simp [eval_tmp, put_at]; done) | (simp [eval_tmp, put_at]; omega))) (by kernel_rfl) ?_
    refine aw_skip ?_
    refine aw_t (by (first | (simp [eval_tmp, put_at]; done) | (simp [eval_tmp, put_at]; omega))) (by kernel_rfl) ?_
    refine aw_seq ?_
    (refine aw_ops (by kernel_rfl) (fun K hK => ?_); simp (disch := first | omega | (simp only [lnS]; try omega; done)) [-getElem?_pos, -getElem?_neg]; refine hK _ _ ?_; clear hK K)
    (refine aw_ret ?_; simp (disch := first | omega | (simp only [lnS]; try omega; done)) [-getElem?_pos, -getElem?_neg, thenQ_ret, scopeQ_ret, inBlockQ_ret, RQ, resL, resV])
    exact AddQ.bad (hn ▸ lw) (by simp [addE, h1]) (by decide)
  | true =>
  try simp (disch := first | omega | (simp only [lnS]; try omega; done)) [-getElem?_pos, -getElem?_neg]
  refine hK _ _ ?_; clear hK K
  refine aw_f (by (first | (simp [eval_tmp, put_at]; done) | (simp [eval_tmp, put_at]; omega))) (by kernel_rfl) ?_
  refine aw_ops (by kernel_rfl) (fun K hK => ?_)
  simp (disch := first | omega | (simp only [lnS]; try omega; done)) [-getElem?_pos, -getElem?_neg, b5, hul, htu, nt_aggG]
  refine ⟨by kernel_rfl, ac_of_rc r2 (by simp [pv_iv, pv_int, pv_bool, pv_string, pv_tup2, pv_tup3, iv_plain, p2_int, p2_bool, p2_string]) ?_⟩
  cases h2 : rightO o with
  | false =>
    try simp (disch := first | omega | (simp only [lnS]; try omega; done)) [-getElem?_pos, -getElem?_neg]
    refine hK _ _ ?_; clear hK K
    refine aw_t (by (first | (simp [eval_tmp, put_at]; done) | (simp [eval_tmp, put_at]; omega))) (by kernel_rfl) ?_
    refine aw_seq ?_
    (refine aw_ops (by kernel_rfl) (fun K hK => ?_); simp (disch := first | omega | (simp only [lnS]; try omega; done)) [-getElem?_pos, -getElem?_neg]; refine hK _ _ ?_; clear hK K)
    (refine aw_ret ?_; simp (disch := first | omega | (simp only [lnS]; try omega; done)) [-getElem?_pos, -getElem?_neg, thenQ_ret, scopeQ_ret, inBlockQ_ret, RQ, resL, resV])
    exact AddQ.bad (hn ▸ lw) (by simp [addE, h1, h2]) (by decide)
  | true =>
  try simp (disch := first | omega | (simp only [lnS]; try omega; done)) [-getElem?_pos, -getElem?_neg]
  refine hK _ _ ?_; clear hK K
  refine aw_f (by (first | (simp [eval_tmp, put_at]; done) | (simp [eval_tmp, put_at]; omega))) (by kernel_rfl) ?_
  have hl := rightG_len h1
  have r4 := find_rc (γ := γ) hNG (by simp only [maxLen]; omega) hid.1
  refine aw_seq ?_
  refine aw_ops (by kernel_rfl) (fun K hK => ?_)
  simp (disch := first | omega | (simp only [lnS]; try omega; done)) [-getElem?_pos, -getElem?_neg, b4, hivl, hta, -notTuple, hnt, hvc, nt_intG, nt_aggG]
  refine ⟨by kernel_rfl, ac_of_rc r4 (by simp [pv_iv, pv_int, pv_bool, pv_string, pv_tup2, pv_tup3, iv_plain, p2_int, p2_bool, p2_string]) ?_⟩
  unfold findI
  cases h3 : findN l l.length id with
  | some a =>
    have ha := findN_lt h3
    try simp (disch := first | omega | (simp only [lnS]; try omega; done)) [-getElem?_pos, -getElem?_neg]
    refine hK _ _ ?_; clear hK K
    refine aw_t (by (first | (simp [eval_tmp, put_at]; done) | (simp [eval_tmp, put_at]; omega))) (by kernel_rfl) ?_
    refine aw_seq ?_
    (refine aw_ops (by kernel_rfl) (fun K hK => ?_); simp (disch := first | omega | (simp only [lnS]; try omega; done)) [-getElem?_pos, -getElem?_neg]; refine hK _ _ ?_; clear hK K)
    (refine aw_ret ?_; simp (disch := first | omega | (simp only [lnS]; try omega; done)) [-getElem?_pos, -getElem?_neg, thenQ_ret, scopeQ_ret, inBlockQ_ret, RQ, resL, resV])
    exact AddQ.bad (hn ▸ lw) (by simp [addE, h1, h2, h3]) (by decide)
  | none =>
  try simp (disch := first | omega | (simp only [lnS]; try omega; done)) [-getElem?_pos, -getElem?_neg]
  refine hK _ _ ?_; clear hK K
  refine aw_f (by (first | (simp [eval_tmp, put_at]; done) | (simp [eval_tmp, put_at]; omega))) (by kernel_rfl) ?_
  refine aw_seq ?_
  by_cases h4 : l.length = 96
  · (refine aw_ops (by kernel_rfl) (fun K hK => ?_); simp (disch := first | omega | (simp only [lnS]; try omega; done)) [-getElem?_pos, -getElem?_neg, -notTuple, hnt, hvc, nt_intG, -xlen, hxl, h4]; refine hK _ _ ?_; clear hK K)
    refine aw_t (by (first | (simp [eval_tmp, put_at, h4]; done) | (simp [eval_tmp, put_at, h4]; omega))) (by kernel_rfl) ?_
    refine aw_seq ?_
    (refine aw_ops (by kernel_rfl) (fun K hK => ?_); simp (disch := first | omega | (simp only [lnS]; try omega; done)) [-getElem?_pos, -getElem?_neg]; refine hK _ _ ?_; clear hK K)
    (refine aw_ret ?_; simp (disch := first | omega | (simp only [lnS]; try omega; done)) [-getElem?_pos, -getElem?_neg, thenQ_ret, scopeQ_ret, inBlockQ_ret, RQ, resL, resV])
    exact AddQ.bad (hn ▸ lw) (by unfold addE; rw [h1, h2, h3, if_neg (by simp), if_neg (by simp), if_neg (by simp), if_pos h4]) (by decide)
  have h4n : l.length < 96 := by omega
  have h4i : ¬ (l.length : Int) = 96 := by omega
  (refine aw_ops (by kernel_rfl) (fun K hK => ?_); simp (disch := first | omega | (simp only [lnS]; try omega; done)) [-getElem?_pos, -getElem?_neg, -notTuple, hnt, hvc, nt_intG, -xlen, hxl, h4i]; refine hK _ _ ?_; clear hK K)
  refine aw_f (by (first | (simp [eval_tmp, put_at]; done) | (simp [eval_tmp, put_at]; omega))) (by kernel_rfl) ?_
  refine aw_skip ?_
  have hP := hOG.parents
  have hP4 := val_nt hP
  have hps := rightO_sm h2
  have c2 := hOG.c2
  have hpk : ∀ k ∈ o.parents, k.length = 32 := fun k hk => (hw.parents k hk).1
  have rp := (pastF_rc (γ := γ) hNG hl hP hpk (by simp only [maxLen]; omega)).thaw (nro := n) (fun v H' h => ⟨h.1.2, h.1.1⟩)
  refine aw_seq ?_
  refine aw_ops (by kernel_rfl) (fun K hK => ?_)
  simp (disch := first | omega | (simp only [lnS]; try omega; done)) [-getElem?_pos, -getElem?_neg, b5, hul, c2, -notTuple, hnt, hvc, hP4.1, hP4.2, nt_intG, nt_aggG]
  refine ⟨by kernel_rfl, rp.mono ?_⟩
  rintro v1 G1 ⟨hlow1, ⟨hall, sv, F, rfl, hown, hF⟩ | ⟨hall, rfl⟩⟩
  case inr =>
    simp (disch := first | omega | (simp only [lnS]; try omega; done)) [-getElem?_pos, -getElem?_neg]
    refine hK _ _ ?_; clear hK K
    refine aw_seq ?_
    refine aw_seq ?_
    (refine aw_ops (by kernel_rfl) (fun K hK => ?_); simp (disch := first | omega | (simp only [lnS]; try omega; done)) [-getElem?_pos, -getElem?_neg]; refine hK _ _ ?_; clear hK K)
    refine aw_t (by (first | (simp [eval_tmp, put_at]; done) | (simp [eval_tmp, put_at]; omega))) (by kernel_rfl) ?_
    refine aw_seq ?_
    (refine aw_ops (by kernel_rfl) (fun K hK => ?_); simp (disch := first | omega | (simp only [lnS]; try omega; done)) [-getElem?_pos, -getElem?_neg]; refine hK _ _ ?_; clear hK K)
    (refine aw_ret ?_; simp (disch := first | omega | (simp only [lnS]; try omega; done)) [-getElem?_pos, -getElem?_neg, thenQ_ret, scopeQ_ret, inBlockQ_ret, RQ, resL, resV])
    exact AddQ.bad ⟨fun j hj => (hlow1.1 j (by have := lw.2; omega)).trans (lw.1 j (by omega)), by have := hlow1.2; have := lw.2; omega⟩ (by simp [addE, h1, h2, h3, h4, hall]) (by decide)
  obtain ⟨v1, v2⟩ := own_nt hown
  have hFn : ∀ j ∈ F, n + 2 ≤ j := fun j hj => by have := hF j hj; omega
  clear hF
  simp (disch := first | omega | (simp only [lnS]; try omega; done)) [-getElem?_pos, -getElem?_neg, -notTuple, v1, v2, nt_intG]
  refine hK _ _ ?_; clear hK K
  refine aw_seq ?_
  refine aw_seq ?_
  (refine aw_ops (by kernel_rfl) (fun K hK => ?_); simp (disch := first | omega | (simp only [lnS]; try omega; done)) [-getElem?_pos, -getElem?_neg]; refine hK _ _ ?_; clear hK K)
  refine aw_f (by (first | (simp [eval_tmp, put_at]; done) | (simp [eval_tmp, put_at]; omega))) (by kernel_rfl) ?_
  refine aw_skip ?_
  have hPl := pastL_length l l.length o.parents
  have hPb : ∀ z ∈ pastL l l.length o.parents, ∃ k : Nat, z = k ∧ k < l.length := fun z hz => by
    obtain ⟨k, e, hk, _⟩ := pastL_bd hz
    exact ⟨k, e, hk⟩
  have hseq : seqOk l o = (!(decide (o.kind = 1) && decide (0 < l.length)) && (decide (o.seq = 1 + (aheadL l (pastL l l.length o.parents) o.author : Nat)) && decide (aheadL l (pastL l l.length o.parents) o.author = autN l l.length o.author))) := rfl
  have hle : addE l id o = if seqOk l o = false then 15 else 0 := by unfold addE; rw [h1, h2, h3, hall, if_neg (by simp), if_neg (by simp), if_neg (by simp), if_neg h4, if_neg (by simp)]
  have hInv := own_inv hown
  have hacc := hInv.acc
  have hdd : addD l id o = ⟨id, o, pastL l l.length o.parents⟩ := rfl
  obtain ⟨P, hPe⟩ : ∃ P, P = pastL l l.length o.parents := ⟨_, rfl⟩
  rw [← hPe] at hPl hPb hown hInv hacc hseq hdd
  have hlowG1 : Low n H G1 := ⟨fun j hj => (hlow1.1 j (by omega)).trans (lw.1 j (by omega)), by have := hlow1.2; omega⟩
  have hNG1 := hN.lowG (hn ▸ hlowG1)
  have d4 := (hlow1.1 n (by omega)).trans b4
  have d5 := (hlow1.1 (n + 1) (by omega)).trans b5
  have hOG1 : OpC G1 us o pv wv bv := hOG.low hlow1.1
  have hat := hNG1.at_
  have ca := hOG1.c0
  have hlG1 : n + 2 ≤ G1.length := by have := hlow1.2; omega
  refine aw_seq ?_
  (refine aw_ops (by kernel_rfl) (fun K hK => ?_); simp (disch := first | omega | (simp only [lnS]; try omega; done)) [-getElem?_pos, -getElem?_neg]; refine hK _ _ ?_; clear hK K)
  refine aw_seq ?_
  refine aw_seq ?_
  (refine aw_ops (by kernel_rfl) (fun K hK => ?_); simp (disch := first | omega | (simp only [lnS]; try omega; done)) [-getElem?_pos, -getElem?_neg, -notTuple, v1, v2, nt_intG, -xlen, hacc.len]; refine hK _ _ ?_; clear hK K)
  refine aw_block ?_
  refine aw_loop (fun c α G => ∃ e : Nat, e + c = P.length ∧ G = G1 ∧ α 0 = nv ∧ α 4 = .pointer (some ⟨n, 0, none⟩) ∧ α 5 = .pointer (some ⟨n + 1, 0, none⟩) ∧ α 8 = sv ∧ α 10 = .int .i64 (aheadL l (P.take e) o.author : Nat) ∧ α 39 = sv ∧ α 40 = .int .i64 (P.length : Nat) ∧ α 41 = .int .i64 (e : Nat)) P.length ?_ ?_
  · exact ⟨0, by omega, rfl, by (first | (simp [put_at, put_none, fr0_at]; done) | rfl), by (first | (simp [put_at, put_none, fr0_at]; done) | rfl), by (first | (simp [put_at, put_none, fr0_at]; done) | rfl), by (first | (simp [put_at, put_none, fr0_at]; done) | rfl), by (first | (simp [put_at, put_none, fr0_at]; done) | rfl), by (first | (simp [put_at, put_none, fr0_at]; done) | rfl), by (first | (simp [put_at, put_none, fr0_at]; done) | rfl), by (first | (simp [put_at, put_none, fr0_at]; done) | rfl)⟩
  rintro c α G2 ⟨e, hec, rfl, q0, q4, q5, q8, q10, q39, q40, q41⟩
  refine aw_seq ?_
  by_cases he : e < P.length
  case pos =>
    obtain ⟨p2, x2, p21, p22, p23, p24, p25⟩ := hacc.at_ e he
    subst p24
    obtain ⟨z, hz⟩ : ∃ z, z = P.getD e 0 := ⟨_, rfl⟩
    rw [← hz] at p25
    have hze : P[e]? = some z := by rw [hz, List.getD_eq_getElem?_getD, List.getElem?_eq_getElem he]; rfl
    have hsu := aheadL_succ (l := l) o.author hze
    have hal := aheadL_le l (P.take e) o.author
    rw [List.length_take] at hal
    have p25 := p25 G2 (Low.refl (Nat.le_refl _))
    obtain ⟨kz, rfl, hkz⟩ := hPb z (List.mem_of_getElem? hze)
    rw [Int.toNat_natCast] at hsu
    obtain ⟨j, q, bb, ws, pv', wv', bv', qv', hx, hbb, hq, hcell, hws, hC⟩ := hat kz _ (nd_get hkz)
    have cz : bb.cells[q + 32]? = some (.int .i64 (nd l kz).op.author) := by
      have := hC.op.c0
      rw [List.getElem?_take_of_lt (by omega), List.getElem?_drop] at this
      exact (hcell 32 (by omega)).trans this
    (refine aw_ops (by kernel_rfl) (fun K hK => ?_); simp (disch := first | omega | (simp only [lnS]; try omega; done)) [-getElem?_pos, -getElem?_neg, q40, q41, he]; refine hK _ _ ?_; clear hK K)
    refine aw_seq ?_
    refine aw_t (by (first | (simp [eval_tmp, put_at, he]; done) | (simp [eval_tmp, put_at, he]; omega))) (by kernel_rfl) ?_
    refine aw_skip ?_
    refine aw_seq ?_
    refine aw_block ?_
    refine aw_seq ?_
    (refine aw_ops (by kernel_rfl) (fun K hK => ?_); simp (disch := first | omega | (simp only [lnS]; try omega; done)) [-getElem?_pos, -getElem?_neg, q39, q41, -notTuple, v1, v2, p21, nt_intG, -xindexAddr, p22, -xload, p25]; refine hK _ _ ?_; clear hK K)
    refine aw_seq ?_
    obtain ⟨x, hxa⟩ : ∃ x, x = (nd l kz).op.author := ⟨_, rfl⟩
    rw [← hxa] at cz hsu
    by_cases hxz : x = o.author
    · have hxb : (x == o.author) = true := by simp [hxz]
      rw [if_pos hxz] at hsu
      (refine aw_plan [] [] [0, 1, 2, 3, 4, 5, 6, 7, 8] 9 0 (by kernel_rfl) (by kernel_rfl) (by kernel_rfl) (fun K hK => ?_)); simp only [sel, List.getElem?_cons_succ, List.getElem?_cons_zero, List.drop_succ_cons, List.drop_zero]; simp (disch := first | omega | (simp only [lnS]; try omega; done)) [-getElem?_pos, -getElem?_neg, q0, q5, -notTuple, hnt, hvc, nt_intG, nt_ptrG, -xindexAddr, hx, hbb, cz, d5, ca, hxz, hxb, PL_nil, plainB_lit, PL_cons, PLc_val, PLc_new, stepP_t, stepP_f, stepPC_n, stepPC_s, stepPX_s, stepPX_n, stepPV_n, stepPV_s, stepPA_t, stepPA_c, stepPA_l, stepPN_s, allocOp, reloc_sl, reloc_ptr, List.map_cons, List.map_nil, List.nil_append, List.append_assoc, List.cons_append, Nat.add_assoc]
      refine hK _ _ ?_; clear hK K
      refine aw_t (by (first | (simp [eval_tmp, put_at, hxz, hxb]; done) | (simp [eval_tmp, put_at, hxz, hxb]; omega))) (by kernel_rfl) ?_
      (refine aw_ops (by kernel_rfl) (fun K hK => ?_); simp (disch := first | omega | (simp only [lnS]; try omega; done)) [-getElem?_pos, -getElem?_neg, q10]; refine hK _ _ ?_; clear hK K)
      (refine aw_ops (by kernel_rfl) (fun K hK => ?_); simp (disch := first | omega | (simp only [lnS]; try omega; done)) [-getElem?_pos, -getElem?_neg, q41]; refine hK _ _ ?_; clear hK K)
      exact ⟨c - 1, by omega, e + 1, by omega, rfl, by (first | (simp [put_at, put_none, fr0_at, q0]; done) | rfl), by (first | (simp [put_at, put_none, fr0_at, q4]; done) | rfl), by (first | (simp [put_at, put_none, fr0_at, q5]; done) | rfl), by (first | (simp [put_at, put_none, fr0_at, q8]; done) | rfl), by rw [hsu]; (first | (simp [put_at, put_none, fr0_at]; done) | rfl), by (first | (simp [put_at, put_none, fr0_at, q39]; done) | rfl), by (first | (simp [put_at, put_none, fr0_at, q40]; done) | rfl), by (first | (simp [put_at, put_none, fr0_at]; done) | rfl)⟩
    · have hxb : (x == o.author) = false := by simp [hxz]
      rw [if_neg hxz] at hsu
      (refine aw_plan [] [] [0, 1, 2, 3, 4, 5, 6, 7, 8] 9 0 (by kernel_rfl) (by kernel_rfl) (by kernel_rfl) (fun K hK => ?_)); simp only [sel, List.getElem?_cons_succ, List.getElem?_cons_zero, List.drop_succ_cons, List.drop_zero]; simp (disch := first | omega | (simp only [lnS]; try omega; done)) [-getElem?_pos, -getElem?_neg, q0, q5, -notTuple, hnt, hvc, nt_intG, nt_ptrG, -xindexAddr, hx, hbb, cz, d5, ca, hxz, hxb, PL_nil, plainB_lit, PL_cons, PLc_val, PLc_new, stepP_t, stepP_f, stepPC_n, stepPC_s, stepPX_s, stepPX_n, stepPV_n, stepPV_s, stepPA_t, stepPA_c, stepPA_l, stepPN_s, allocOp, reloc_sl, reloc_ptr, List.map_cons, List.map_nil, List.nil_append, List.append_assoc, List.cons_append, Nat.add_assoc]
      refine hK _ _ ?_; clear hK K
      refine aw_f (by (first | (simp [eval_tmp, put_at, hxz, hxb]; done) | (simp [eval_tmp, put_at, hxz, hxb]; omega))) (by kernel_rfl) ?_
      refine aw_skip ?_
      (refine aw_ops (by kernel_rfl) (fun K hK => ?_); simp (disch := first | omega | (simp only [lnS]; try omega; done)) [-getElem?_pos, -getElem?_neg, q41]; refine hK _ _ ?_; clear hK K)
      exact ⟨c - 1, by omega, e + 1, by omega, rfl, by (first | (simp [put_at, put_none, fr0_at, q0]; done) | rfl), by (first | (simp [put_at, put_none, fr0_at, q4]; done) | rfl), by (first | (simp [put_at, put_none, fr0_at, q5]; done) | rfl), by (first | (simp [put_at, put_none, fr0_at, q8]; done) | rfl), by rw [hsu]; (first | (simp [put_at, put_none, fr0_at, q10]; done) | rfl), by (first | (simp [put_at, put_none, fr0_at, q39]; done) | rfl), by (first | (simp [put_at, put_none, fr0_at, q40]; done) | rfl), by (first | (simp [put_at, put_none, fr0_at]; done) | rfl)⟩
  (refine aw_ops (by kernel_rfl) (fun K hK => ?_); simp (disch := first | omega | (simp only [lnS]; try omega; done)) [-getElem?_pos, -getElem?_neg, q40, q41, he]; refine hK _ _ ?_; clear hK K)
  refine aw_seq ?_
  refine aw_f (by (first | (simp [eval_tmp, put_at, he]; done) | (simp [eval_tmp, put_at, he]; omega))) (by kernel_rfl) ?_
  refine aw_exit ?_
  obtain rfl : e = P.length := by omega
  rw [List.take_length] at q10
  have c3 := hOG1.c3
  have c1 := hOG1.c1
  have hsq := hw.seq
  unfold U32 at hsq
  have hal := aheadL_le l P o.author
  have rc := count_rc (γ := γ) hNG1 (by simp only [maxLen]; omega) o.author
  have hcl := autN_le l l.length o.author
  generalize aheadL l P o.author = ah at *
  generalize autN l l.length o.author = cn at *
  refine aw_seq ?_
  refine aw_seq ?_
  refine aw_cut (fun α G => α 81 = .bool (!seqOk l o) ∧ α 0 = nv ∧ α 4 = .pointer (some ⟨n, 0, none⟩) ∧ α 5 = .pointer (some ⟨n + 1, 0, none⟩) ∧ α 8 = sv ∧ G = G2) ?_ ?_
  · by_cases hk : o.kind = 1
    · by_cases h0 : 0 < l.length
      · (refine aw_ops (by kernel_rfl) (fun K hK => ?_); simp (disch := first | omega | (simp only [lnS]; try omega; done)) [-getElem?_pos, -getElem?_neg, q0, q5, q10, hk, h0, d5, c3, c1, ca, hul, -notTuple, hnt, hvc, nt_intG, nt_ptrG, -xlen, hxl]; refine hK _ _ ?_; clear hK K)
        exact ⟨by rw [hseq]; simp [hk, h0, put_at], by (first | (simp [put_at, put_none, fr0_at, q0]; done) | rfl), by (first | (simp [put_at, put_none, fr0_at, q4]; done) | rfl), by (first | (simp [put_at, put_none, fr0_at, q5]; done) | rfl), by (first | (simp [put_at, put_none, fr0_at, q8]; done) | rfl), rfl⟩
      · have h0e : l.length = 0 := by omega
        by_cases hs1 : o.seq = 1 + (ah : Int)
        · have hs2 : ¬ o.seq ≠ 1 + (ah : Int) := by omega
          have hs3 : (o.seq == 1 + (ah : Int)) = true := by simp [hs1]
          refine aw_ops (by kernel_rfl) (fun K hK => ?_)
          simp (disch := first | omega | (simp only [lnS]; try omega; done)) [-getElem?_pos, -getElem?_neg, q0, q5, q10, hk, h0, h0e, d5, c3, c1, ca, hul, -notTuple, hnt, hvc, nt_intG, nt_ptrG, -xlen, hxl, hs1, hs3]
          refine ⟨by kernel_rfl, ac_of_rc rc (by simp [pv_iv, pv_int, pv_bool, pv_string, pv_tup2, pv_tup3, iv_plain, p2_int, p2_bool, p2_string]) ?_⟩
          by_cases hcn : ah = cn
          · have hcb : ((ah : Int) == (cn : Int)) = true := by simp [hcn]
            have hci : (ah : Int) = (cn : Int) := by omega
            try simp (disch := first | omega | (simp only [lnS]; try omega; done)) [-getElem?_pos, -getElem?_neg, hcb, hci]
            refine hK _ _ ?_; clear hK K
            refine ⟨by rw [hseq]; simp [hk, h0, h0e, hs1, hcn, put_at], by (first | (simp [put_at, put_none, fr0_at, q0]; done) | rfl), by (first | (simp [put_at, put_none, fr0_at, q4]; done) | rfl), by (first | (simp [put_at, put_none, fr0_at, q5]; done) | rfl), by (first | (simp [put_at, put_none, fr0_at, q8]; done) | rfl), rfl⟩
          · have hci : ¬ (ah : Int) = (cn : Int) := by omega
            have hcb : ((ah : Int) == (cn : Int)) = false := by simp [hci]
            try simp (disch := first | omega | (simp only [lnS]; try omega; done)) [-getElem?_pos, -getElem?_neg, hcb, hci]
            refine hK _ _ ?_; clear hK K
            refine ⟨by rw [hseq]; simp [hci, hk, h0, h0e, hs1, hcn, put_at], by (first | (simp [put_at, put_none, fr0_at, q0]; done) | rfl), by (first | (simp [put_at, put_none, fr0_at, q4]; done) | rfl), by (first | (simp [put_at, put_none, fr0_at, q5]; done) | rfl), by (first | (simp [put_at, put_none, fr0_at, q8]; done) | rfl), rfl⟩
        · have hs3 : (o.seq == 1 + (ah : Int)) = false := by simp [hs1]
          (refine aw_ops (by kernel_rfl) (fun K hK => ?_); simp (disch := first | omega | (simp only [lnS]; try omega; done)) [-getElem?_pos, -getElem?_neg, q0, q5, q10, hk, h0, h0e, d5, c3, c1, ca, hul, -notTuple, hnt, hvc, nt_intG, nt_ptrG, -xlen, hxl, hs1, hs3]; refine hK _ _ ?_; clear hK K)
          refine ⟨by rw [hseq]; simp [hk, h0, h0e, hs1, put_at], by (first | (simp [put_at, put_none, fr0_at, q0]; done) | rfl), by (first | (simp [put_at, put_none, fr0_at, q4]; done) | rfl), by (first | (simp [put_at, put_none, fr0_at, q5]; done) | rfl), by (first | (simp [put_at, put_none, fr0_at, q8]; done) | rfl), rfl⟩
    · have hkb : (o.kind == 1) = false := by simp [hk]
      by_cases hs1 : o.seq = 1 + (ah : Int)
      · have hs2 : ¬ o.seq ≠ 1 + (ah : Int) := by omega
        have hs3 : (o.seq == 1 + (ah : Int)) = true := by simp [hs1]
        refine aw_ops (by kernel_rfl) (fun K hK => ?_)
        simp (disch := first | omega | (simp only [lnS]; try omega; done)) [-getElem?_pos, -getElem?_neg, q0, q5, q10, hk, hkb, d5, c3, c1, ca, hul, -notTuple, hnt, hvc, nt_intG, nt_ptrG, -xlen, hxl, hs1, hs3]
        refine ⟨by kernel_rfl, ac_of_rc rc (by simp [pv_iv, pv_int, pv_bool, pv_string, pv_tup2, pv_tup3, iv_plain, p2_int, p2_bool, p2_string]) ?_⟩
        by_cases hcn : ah = cn
        · have hcb : ((ah : Int) == (cn : Int)) = true := by simp [hcn]
          have hci : (ah : Int) = (cn : Int) := by omega
          try simp (disch := first | omega | (simp only [lnS]; try omega; done)) [-getElem?_pos, -getElem?_neg, hcb, hci]
          refine hK _ _ ?_; clear hK K
          refine ⟨by rw [hseq]; simp [hk, hkb, hs1, hcn, put_at], by (first | (simp [put_at, put_none, fr0_at, q0]; done) | rfl), by (first | (simp [put_at, put_none, fr0_at, q4]; done) | rfl), by (first | (simp [put_at, put_none, fr0_at, q5]; done) | rfl), by (first | (simp [put_at, put_none, fr0_at, q8]; done) | rfl), rfl⟩
        · have hci : ¬ (ah : Int) = (cn : Int) := by omega
          have hcb : ((ah : Int) == (cn : Int)) = false := by simp [hci]
          try simp (disch := first | omega | (simp only [lnS]; try omega; done)) [-getElem?_pos, -getElem?_neg, hcb, hci]
          refine hK _ _ ?_; clear hK K
          refine ⟨by rw [hseq]; simp [hci, hk, hkb, hs1, hcn, put_at], by (first | (simp [put_at, put_none, fr0_at, q0]; done) | rfl), by (first | (simp [put_at, put_none, fr0_at, q4]; done) | rfl), by (first | (simp [put_at, put_none, fr0_at, q5]; done) | rfl), by (first | (simp [put_at, put_none, fr0_at, q8]; done) | rfl), rfl⟩
      · have hs3 : (o.seq == 1 + (ah : Int)) = false := by simp [hs1]
        (refine aw_ops (by kernel_rfl) (fun K hK => ?_); simp (disch := first | omega | (simp only [lnS]; try omega; done)) [-getElem?_pos, -getElem?_neg, q0, q5, q10, hk, hkb, d5, c3, c1, ca, hul, -notTuple, hnt, hvc, nt_intG, nt_ptrG, -xlen, hxl, hs1, hs3]; refine hK _ _ ?_; clear hK K)
        refine ⟨by rw [hseq]; simp [hk, hkb, hs1, put_at], by (first | (simp [put_at, put_none, fr0_at, q0]; done) | rfl), by (first | (simp [put_at, put_none, fr0_at, q4]; done) | rfl), by (first | (simp [put_at, put_none, fr0_at, q5]; done) | rfl), by (first | (simp [put_at, put_none, fr0_at, q8]; done) | rfl), rfl⟩
  clear q0 q4 q5 q8 q10 q39 q40 q41
  rintro α G3 ⟨q81, q0, q4, q5, q8, rfl⟩
  cases hso : seqOk l o with
  | false =>
    rw [hso] at q81
    refine aw_t (by (first | (simp [eval_tmp, put_at, q81]; done) | (simp [eval_tmp, put_at, q81]; omega))) (by kernel_rfl) ?_
    refine aw_seq ?_
    (refine aw_ops (by kernel_rfl) (fun K hK => ?_); simp (disch := first | omega | (simp only [lnS]; try omega; done)) [-getElem?_pos, -getElem?_neg]; refine hK _ _ ?_; clear hK K)
    (refine aw_ret ?_; simp (disch := first | omega | (simp only [lnS]; try omega; done)) [-getElem?_pos, -getElem?_neg, thenQ_ret, scopeQ_ret, inBlockQ_ret, RQ, resL, resV])
    exact AddQ.bad (hn ▸ hlowG1) (by rw [hle, if_pos hso]) (by decide)
  | true =>
  rw [hso] at q81
  refine aw_f (by (first | (simp [eval_tmp, put_at, q81]; done) | (simp [eval_tmp, put_at, q81]; omega))) (by kernel_rfl) ?_
  refine aw_skip ?_
  refine aw_seq ?_
  have hadd0 : addE l id o = 0 := by rw [hle, if_neg (by simp [hso])]
  obtain ⟨L0, hL0⟩ : ∃ k, k = G3.length := ⟨_, rfl⟩
  obtain ⟨N, hcN⟩ := deepNodes_ac (nro := n) (γ := γ) hNG1 (by omega) (right_sm h1) (by omega)
  rw [← hL0] at hcN
  have hxw : (addD l id o).Wf := by
    rw [hdd]
    refine ⟨hid, hw, fun z hz => ?_, by simp only [maxLen]; omega⟩
    obtain ⟨k, rfl, hk⟩ := hPb z hz
    unfold I64
    omega
  have hcO : ∀ A : AH, A.length = N → Low L0 G3 A → AC Try.prog n γ 55 #[.agg us.toArray] A (DeepO A o pv wv bv) := fun A hA hlow => deepOp_ac (nro := n) (γ := γ) (hOG1.low (fun j hj => hlow.1 j (by omega))) hw ⟨by omega, by omega, by omega⟩ (by have := hlow.2; omega)
  unfold DeepO at hcO
  have hbl := build_node (x := addD l id o) (pv := opP pv N) (wv := opW pv wv N) (bv := opB pv wv bv N) hxw v1 v2
  have hrl := nodeRow_len hxw (opP pv N) (opW pv wv N) (opB pv wv bv N) sv
  have hrv : ∀ D : AH, KsV D (opP pv N) o.parents → InV D (opW pv wv N) o.who → BxV D (opB pv wv bv N) o.boxes → InV D sv P → ValL D (addD l id o).row (nodeRow (addD l id o) (opP pv N) (opW pv wv N) (opB pv wv bv N) sv) := fun D k1 k2 k3 k4 => by
    have : (addD l id o).past = P := by rw [hdd]
    exact node_val (x := addD l id o) k1 k2 k3 (by rw [this]; exact k4)
  have hxid : (addD l id o).id = id := rfl
  have hxop : (addD l id o).op = o := rfl
  rw [hxid, hxop] at hbl
  obtain ⟨ov, hov⟩ : ∃ ov, ov = opRow o (opP pv N) (opW pv wv N) (opB pv wv bv N) := ⟨_, rfl⟩
  have hovl := opRow_len hw (opP pv N) (opW pv wv N) (opB pv wv bv N)
  rw [← hov] at hbl hovl
  have hwfx : ∀ x ∈ l ++ [addD l id o], x.Wf := fun x hx => by
    rcases List.mem_append.1 hx with hx | hx
    · exact hN.wf x hx
    · rw [List.mem_singleton] at hx; subst hx; exact hxw
  obtain ⟨row, hrow⟩ : ∃ r, r = nodeRow (addD l id o) (opP pv N) (opW pv wv N) (opB pv wv bv N) sv := ⟨_, rfl⟩
  rw [← hrow] at hbl hrl hrv
  have hown0 := hown
  have hFl := hown.lt
  obtain ⟨N2, hN2⟩ : ∃ k, k = N + opN pv wv bv := ⟨_, rfl⟩
  obtain ⟨Φ, e0, e1, e2, e3, e4, eS⟩ : ∃ Φ : Nat → AH → Prop, (∀ A, Φ 0 A ↔ A = G3) ∧ (∀ A, Φ 1 A ↔ (A.length = N ∧ Low L0 G3 A ∧ ∃ R, NewRows (L0 + 1) A R l ∧ hget A L0 = some ⟨R.flatten, 39, some 104⟩)) ∧
      (∀ A, Φ 2 A ↔ (A.length = N2 ∧ Low L0 G3 A ∧ L0 < N ∧ NewO N A o (opP pv N) (opW pv wv N) (opB pv wv bv N) ∧ ∃ R, NewRows (L0 + 1) A R l ∧ hget A L0 = some ⟨R.flatten, 39, some 104⟩)) ∧
      (∀ A, Φ 3 A ↔ ∃ B, Φ 2 B ∧ A = B ++ [some ⟨row, 39, some 104⟩]) ∧ (∀ A, Φ 4 A ↔ (Low L0 G3 A ∧ NewG n A (.slice (some ⟨N2 + 1, 0, none⟩) (l.length + 1) (l.length + 1)) (l ++ [addD l id o]))) ∧ (∀ s A, Φ s A → Low L0 G3 A) := by
    refine ⟨fun s A => match s with
      | 0 => A = G3
      | 1 => A.length = N ∧ Low L0 G3 A ∧ ∃ R, NewRows (L0 + 1) A R l ∧ hget A L0 = some ⟨R.flatten, 39, some 104⟩
      | 2 => A.length = N2 ∧ Low L0 G3 A ∧ L0 < N ∧ NewO N A o (opP pv N) (opW pv wv N) (opB pv wv bv N) ∧ ∃ R, NewRows (L0 + 1) A R l ∧ hget A L0 = some ⟨R.flatten, 39, some 104⟩
      | 3 => ∃ B : AH, (B.length = N2 ∧ Low L0 G3 B ∧ L0 < N ∧ NewO N B o (opP pv N) (opW pv wv N) (opB pv wv bv N) ∧ ∃ R, NewRows (L0 + 1) B R l ∧ hget B L0 = some ⟨R.flatten, 39, some 104⟩) ∧ A = B ++ [some ⟨row, 39, some 104⟩]
      | _ => Low L0 G3 A ∧ NewG n A (.slice (some ⟨N2 + 1, 0, none⟩) (l.length + 1) (l.length + 1)) (l ++ [addD l id o]), fun _ => Iff.rfl, fun _ => Iff.rfl, fun _ => Iff.rfl, fun _ => Iff.rfl, fun _ => Iff.rfl, fun s A h => ?_⟩
    match s, h with
    | 0, h => cases h; rw [hL0]; exact Low.refl (Nat.le_refl _)
    | 1, h => exact h.2.1
    | 2, h => exact h.2.1
    | 3, ⟨B, h, hA⟩ => rw [hA]; exact ⟨fun j hj => (hget_left (by have := h.2.1.2; omega)).trans (h.2.1.1 j hj), by have := h.2.1.2; rw [List.length_append]; omega⟩
    | s + 4, h => exact h.1
  refine aw_chain (fun j => j == n || j == n + 1) Φ (by kernel_rfl) (by kernel_rfl) (by kernel_rfl) (fun s A h j hj => by
    have e : j = n ∨ j = n + 1 := by simpa using hj
    exact (eS s A h).1 j (by omega)) ((e0 _).2 rfl) (fun K hK => ?_)
  simp (disch := first | omega | (simp only [lnS]; try omega; done)) [-getElem?_pos, -getElem?_neg, q0, q4, q5, q8, d4, d5, hivl, hta, hul, htu, -notTuple, hnt, hvc, v1, v2, nt_intG, nt_aggG, nt_slG, CL_nil, CL_cons, CLc_val, CLc_skip, memS, inS, inSp, isCallF, effF]
  refine CLc_call (v := .slice (some ⟨L0, 0, none⟩) l.length l.length) (by kernel_rfl) (fun A hA => ?_) ?_
  · obtain rfl := (e0 _).1 hA
    exact hcN.mono fun v' A' h => ⟨h.1, (e1 _).2 h.2⟩
  try simp (disch := first | omega | (simp only [lnS]; try omega; done)) [-getElem?_pos, -getElem?_neg, q0, q4, q5, q8, d4, d5, hivl, hta, hul, htu, -notTuple, hnt, hvc, v1, v2, nt_intG, nt_aggG, nt_slG, CL_nil, CL_cons, CLc_val, CLc_skip, memS, inS, inSp, isCallF, effF]
  refine CLc_call (v := .agg ov.toArray) (by kernel_rfl) (fun A hA => ?_) ?_
  · obtain ⟨g1, g2, R, g3, g4⟩ := (e1 _).1 hA
    refine (hcO A g1 g2).mono ?_
    rintro v' A' ⟨k1, k2, k3, k4⟩
    rw [g1] at k1 k2 k3 k4
    have hL0A := hget_lt g4
    refine ⟨by rw [hov]; exact k1, (e2 _).2 ⟨by omega, ⟨fun j hj => (k3.1 j (by omega)).trans (g2.1 j hj), by have := k3.2; omega⟩, by omega, k4, R, g3.keep (fun j _ hj => k3.1 j (by omega)) (by have := k3.2; omega), (k3.1 L0 (by omega)).trans g4⟩⟩
  try simp (disch := first | omega | (simp only [lnS]; try omega; done)) [-getElem?_pos, -getElem?_neg, q0, q4, q5, q8, d4, d5, hivl, hta, hul, htu, -notTuple, hnt, hvc, v1, v2, nt_intG, nt_aggG, nt_slG, -xbuild, hbl, CL_nil, CL_cons, CLc_val, CLc_skip, memS, inS, inSp, isCallF, effF]
  have hfil : ∀ Z : List Value, Z.length = 104 → xfill (fun i => some (i * 104, 104)) Z [(0, .agg row.toArray)] = some row := fun Z hZ => fill_row hrl hZ
  have hp0 : plain1 (.slice none 0 0) = true := rfl
  refine CLc_eff (v := .slice (some ⟨N2, 0, none⟩) 1 1) (fun A hA => ?_) ?_
  · have hA' := (e2 _).1 hA
    refine ⟨A ++ [some ⟨row, 39, some 104⟩], ?_, (e3 _).2 ⟨A, hA, rfl⟩⟩
    have g1 := hA'.1
    simp (disch := first | omega | (simp only [lnS]; try omega; done)) [-getElem?_pos, -getElem?_neg, -xfill, nt_aggG, hp0, all_zl, g1]
    rw [hfil _ (by simp)]
  try simp (disch := first | omega | (simp only [lnS]; try omega; done)) [-getElem?_pos, -getElem?_neg, CL_nil, CL_cons, CLc_val, CLc_skip, memS, inS, inSp, isCallF, effF]
  refine CLc_eff (v := .slice (some ⟨N2 + 1, 0, none⟩) (l.length + 1) (l.length + 1)) (fun A hA => ?_) ?_
  · obtain ⟨B, hB, rfl⟩ := (e3 _).1 hA
    obtain ⟨g1, g2, hLN, g3, R, g4, g5⟩ := (e2 _).1 hB
    have hL0B := hget_lt g5
    have hRl := fl_len g4.len
    rw [g4.1] at hRl
    have htr : List.take 104 row = row := List.take_of_length_le (by omega)
    have hxc : xcells 104 (.slice (some ⟨N2, 0, none⟩) 1 1) (B ++ [some ⟨row, 39, some 104⟩]) = some row := by rw [← g1]; simp [xcells, hget_app0, hrl, htr]
    obtain ⟨v', H', hap, ho, hl', hk'⟩ := ownF_append (P := Try.prog) (nro := n) (t := 22) (e := 39) (H := B ++ ([some ⟨row, 39, some 104⟩] : AH)) (v := .slice (some ⟨L0, 0, none⟩) l.length l.length) (x := .slice (some ⟨N2, 0, none⟩) 1 1) (sz := 104) (cells := R.flatten) (news := row) (F := [L0]) (by simp) (by simp) (by omega) (by simp) (.inr ⟨L0, l.length, rfl, hget_left' g5, hRl, rfl⟩)
      (fun j hj => by simp at hj; omega) (fun s e => by cases e) hxc (fun e => by rw [e] at hrl; simp at hrl) (by rw [hrl]) (by rw [hRl, hrl]; simp; omega) (by rw [hRl, hrl]; simp only [maxLen]; omega)
    have hBl : (B ++ ([some ⟨row, 39, some 104⟩] : AH)).length = N2 + 1 := by simp [g1]
    rw [hBl] at ho hl' hk'
    obtain ⟨len, rfl⟩ := ho.new
    have hlen : len = l.length + 1 := by
      rcases ho with ⟨h, _, _⟩ | ⟨i, k, he, _, h3, _⟩
      · cases h
      · cases he
        rw [List.length_append, hRl, hrl] at h3
        omega
    subst hlen
    have hnew : hget H' (N2 + 1) = some ⟨R.flatten ++ row, 39, some 104⟩ := by
      rcases ho with ⟨h, _, _⟩ | ⟨i, k, he, h2, _, _⟩
      · cases h
      · cases he; exact h2
    have hold : ∀ j, j < N2 → j ≠ L0 → hget H' j = hget B j := fun j hj hn => (hk' j (by omega) (by simpa using hn)).trans (hget_left (by omega))
    refine ⟨H', ?_, (e4 _).2 ⟨⟨fun j hj => (hold j (by omega) (by omega)).trans (g2.1 j hj), by omega⟩, fun D hD => ?_⟩⟩
    · simp (disch := first | omega | (simp only [lnS]; try omega; done)) [-getElem?_pos, -getElem?_neg, -xappend, hap]
    · have hD2 : ∀ j, n ≤ j → j < N2 → j ≠ L0 → hget D j = hget B j := fun j h1 h2 h3 => (hD j h1 (by omega)).trans (hold j h2 h3)
      obtain ⟨k1, k2, k3⟩ := g3 D (fun j h1 h2 => hD2 j (by omega) (by omega) (by omega))
      have ho2 := hown0.low (H' := D) (fun j hj => (hD2 j (by have := hFn j hj; omega) (by have := hFl j hj; omega) (by have := hFl j hj; omega)).trans (g2.1 j (by have := hFl j hj; omega)))
      have hrow2 := hrv D k1 k2 k3 (own_inv ho2)
      have hfin := rows_val (D := D) (b := N2 + 1) (T := 39) (es := some 104) (R := R ++ [row]) (L := l ++ [addD l id o]) (by rw [hD (N2 + 1) (by omega) (by omega), hnew]; simp) (by simp [g4.1]) hwfx (fun k us' x hk hx => by
        rcases Nat.lt_or_ge k l.length with hkl | hkl
        · rw [List.getElem?_append_left (by rw [g4.1]; exact hkl)] at hk
          rw [List.getElem?_append_left hkl] at hx
          have := g4.2 k us' x hk hx
          exact ⟨this.1, this.2 D (fun j h1 h2 => hD2 j (by omega) (by omega) (by omega))⟩
        · rw [List.getElem?_append_right (by rw [g4.1]; exact hkl), g4.1] at hk
          rw [List.getElem?_append_right hkl] at hx
          match k - l.length, hk, hx with
          | 0, hk, hx => cases hk; cases hx; exact ⟨hrl, hrow2⟩)
      rw [List.length_append] at hfin
      exact hfin
  try simp (disch := first | omega | (simp only [lnS]; try omega; done)) [-getElem?_pos, -getElem?_neg, CL_nil, CL_cons, CLc_val, CLc_skip, memS, inS, inSp, isCallF, effF]
  intro A hA
  obtain ⟨g1, g2⟩ := (e4 _).1 hA
  refine hK _ _ ?_; clear hK K
  (refine aw_ret ?_; simp (disch := first | omega | (simp only [lnS]; try omega; done)) [-getElem?_pos, -getElem?_neg, thenQ_ret, scopeQ_ret, inBlockQ_ret, RQ, resL, resV])
  refine ⟨⟨fun j hj => (g1.1 j (by omega)).trans (hlowG1.1 j (by omega)), by have := g1.2; omega⟩, _, by rw [hadd0], .inl ⟨hadd0, hn ▸ g2⟩⟩
end
section
theorem opC_row {G : AH} {o : OpD} {pv wv bv : Value} (hw : o.Wf) (h1 : KsV G pv o.parents) (h2 : InV G wv o.who) (h3 : BxV G bv o.boxes) : OpC G (opRow o pv wv bv) o pv wv bv := by
  obtain ⟨pv', wv', bv', h⟩ := op_c hw (op_val h1 h2 h3)
  have e2 := h.c2
  have e4 := h.c4
  have e70 := h.c70
  rw [opRow_2] at e2
  rw [opRow_4] at e4
  rw [opRow_70 hw] at e70
  cases e2; cases e4; cases e70
  exact h
def key1 (x : Int) : List Int := x :: zl 31
def opC1 (a s k : Int) (ps : List (List Int)) (who : List Int) : OpD := ⟨a, s, ps, k, who, zl 32, key1 1, ByteArray.empty, []⟩
theorem key1_32 (x : Int) : (key1 x).length = 32 := by simp [key1]
theorem key1_ok {x : Int} (h : 0 ≤ x ∧ x ≤ 255) : Key32 (key1 x) := ⟨key1_32 x, fun y hy => by
  rcases List.mem_cons.1 hy with rfl | hy
  · exact h
  · have : y = 0 := by
      unfold zl at hy
      exact (List.mem_replicate.1 hy).2
    omega⟩
theorem build_key (x : Int) : xbuild Try.prog 24 [(0, .int .u8 x)] = some (.agg (iv .u8 (key1 x)).toArray) := by
  kernel_rfl
theorem build_create (x : Int) (d : Addr) (n : Nat) : xbuild Try.prog 37 [(0, .int .i64 x), (1, .int .u32 1), (3, .int .i64 1), (4, .slice (some d) n n), (6, .agg (iv .u8 (key1 1)).toArray)] = some (.agg (opRow (opC1 x 1 1 [] []) (.slice none 0 0) (.slice (some d) n n) (.slice none 0 0)).toArray) := by kernel_rfl
theorem build_update (x s : Int) (d : Addr) (n : Nat) : xbuild Try.prog 37 [(0, .int .i64 x), (1, .int .u32 s), (3, .int .i64 4), (2, .slice (some d) n n), (6, .agg (iv .u8 (key1 1)).toArray)] = some (.agg (opRow (opC1 x s 4 [] []) (.slice (some d) n n) (.slice none 0 0) (.slice none 0 0)).toArray) := by kernel_rfl
/-- Parents and who don't stand in the row itself. -/
theorem opRow_c1 (a s k : Int) (ps : List (List Int)) (who : List Int) (pv wv bv : Value) : opRow (opC1 a s k [] []) pv wv bv = opRow (opC1 a s k ps who) pv wv bv := rfl
attribute [local simp] wb_bool wb_undef with_lit XL_nil XL_cons XLc_val XLc_call step1_eq stepW_t stepW_f stepC_n stepC_s stepX_s stepX_n stepN_s calleeX oneV xop_eq xopR_s xopR_n wantedA_eq wantedG_n wantedG_s plain1_int plain1_bool plain1_string bits_i64 bits_u64 bits_u32 bits_u16 bits_u8 xeqA xagg xcmp xarr allK_iv num_iv calleeOf xread xeff xbin xint xnil xun xstr xload xconv xpart xfield xfieldAddr xindexAddr xindex bnd asInt? xslice xlen xmin xmax xbuild xfill xappend xapp2 xappstr xappmk xcap xcopy xcells eval_tmp eval_const put_at put_none fr0_at cells_agg cells_int cells_bool cells_string cells_ptr cells_slice notTuple tab iv_all hget_app hget_app0 hget_cons0 hget_cons set_app set_app0 setR setR_one QL_nil QL_cons QLc_val stepQ_t stepQ_f stepQC_n stepQC_s stepQX_s SL_nil SL_cons SLc_val stepS_t stepS_f ltT ltF leT leF eqT eqF ltTn ltFn leTn leFn eqTn eqFn beqT beqF bneT bneF wi64 wu64 wu32 wu16 wu8 tmodP tdivP hgetL hgetNe hgetEq setL nums_def nums_len Nat.succ_le_of_lt List.getElem?_cons_zero List.getElem?_cons_succ Option.getD_some Int.toNat_add Int.toNat_mul agM okM agB agI agS agP agL agA okB okI okS okP okSl okA
theorem create_ac {nro : Nat} {γ : Nat → Option Nat} {H : AH} {d : Addr} {l : List Int} {a : Int} (h : InV H (.slice (some d) l.length l.length) l) (h0 : l[0]? = some a) (hnro : nro ≤ H.length) : AC Try.prog nro γ 29 #[.slice (some d) l.length l.length] H (fun v' H' => v' = .agg (opRow (opC1 a 1 1 [] l) (.slice none 0 0) (.slice (some d) l.length l.length) (.slice none 0 0)).toArray ∧ Low H.length H H') := by
  have hl0 := (List.getElem?_eq_some_iff.1 h0).1
  obtain ⟨p, x, p1, p2, p3, p4, p5⟩ := h.acc.at_ 0 hl0
  have ha : l.getD 0 0 = a := by rw [List.getD_eq_getElem?_getD, h0]; rfl
  rw [ha] at p4
  subst p4
  have hb := build_create a d l.length
  have hk := build_key 1
  rw [opRow_c1 a 1 1 [] l] at hb
  have hrl : (opRow (opC1 a 1 1 [] l) (.slice none 0 0) (.slice (some d) l.length l.length) (.slice none 0 0)).length = 71 := rfl
  generalize iv .u8 (key1 1) = kk at *
  generalize opRow (opC1 a 1 1 [] l) (.slice none 0 0) (.slice (some d) l.length l.length) (.slice none 0 0) = R at *
  have hset : ∀ Z : List Value, Z.length = 71 → setR Z 0 R = R := fun Z hZ => setR_all _ _ (by omega)
  have htk : R.take 71 = R := List.take_of_length_le (by omega)
  have p2 : xindexAddr Try.prog 34 (.slice (some d) l.length l.length) (.int .i64 0) = some p := p2
  refine ac_of_aw Try.func29 rfl Try.ntmps29 Try.results29 (by simp) ?_
  refine aw_seq ?_
  (refine aw_ops (by kernel_rfl) (fun K hK => ?_); simp (disch := first | omega | (simp only [lnS]; try omega; done)) [-getElem?_pos, -getElem?_neg, all_zl]; refine hK _ _ ?_; clear hK K)
  have p5 : ∀ B : Blk, xload Try.prog 3 p (H ++ [some B]) = some (.int .i64 a) := fun B => p5 _ (Low.push (Nat.le_refl _) _)
  refine aw_seq ?_
  refine aw_ops (by kernel_rfl) (fun K hK => ?_)
  simp (disch := first | omega | (simp only [lnS]; try omega; done)) [-getElem?_pos, -getElem?_neg, -xindexAddr, p2, p1, -xload, p5, -xbuild, hk, hb, nt_aggG, hrl, hset, hnro]
  refine hK _ _ ?_; clear hK K
  obtain ⟨hlow2, hb2⟩ := boxed (H := H) R 37
  generalize H ++ [some ⟨R, 37, none⟩] = G at *
  (refine aw_ret ?_; simp (disch := first | omega | (simp only [lnS]; try omega; done)) [-getElem?_pos, -getElem?_neg, thenQ_ret, scopeQ_ret, inBlockQ_ret, RQ, resL, resV, hb2, hrl, htk])
  exact hlow2
theorem update_ac {nro : Nat} {γ : Nat → Option Nat} {H : AH} {d : Addr} {ps : List (List Int)} {a s : Int} (hnro : nro ≤ H.length) : AC Try.prog nro γ 30 #[.int .i64 a, .int .u32 s, .slice (some d) ps.length ps.length] H (fun v' H' => v' = .agg (opRow (opC1 a s 4 ps []) (.slice (some d) ps.length ps.length) (.slice none 0 0) (.slice none 0 0)).toArray ∧ Low H.length H H') := by
  have hb := build_update a s d ps.length
  have hk := build_key 1
  rw [opRow_c1 a s 4 ps []] at hb
  have hrl : (opRow (opC1 a s 4 ps []) (.slice (some d) ps.length ps.length) (.slice none 0 0) (.slice none 0 0)).length = 71 := rfl
  generalize iv .u8 (key1 1) = kk at *
  generalize opRow (opC1 a s 4 ps []) (.slice (some d) ps.length ps.length) (.slice none 0 0) (.slice none 0 0) = R at *
  have hset : ∀ Z : List Value, Z.length = 71 → setR Z 0 R = R := fun Z hZ => setR_all _ _ (by omega)
  have htk : R.take 71 = R := List.take_of_length_le (by omega)
  refine ac_of_aw Try.func30 rfl Try.ntmps30 Try.results30 (by simp) ?_
  refine aw_seq ?_
  (refine aw_ops (by kernel_rfl) (fun K hK => ?_); simp (disch := first | omega | (simp only [lnS]; try omega; done)) [-getElem?_pos, -getElem?_neg, all_zl]; refine hK _ _ ?_; clear hK K)
  refine aw_seq ?_
  (refine aw_ops (by kernel_rfl) (fun K hK => ?_); simp (disch := first | omega | (simp only [lnS]; try omega; done)) [-getElem?_pos, -getElem?_neg, -xbuild, hk, hb, nt_aggG, hrl, hset, hnro]; refine hK _ _ ?_; clear hK K)
  obtain ⟨hlow2, hb2⟩ := boxed (H := H) R 37
  generalize H ++ [some ⟨R, 37, none⟩] = G at *
  (refine aw_ret ?_; simp (disch := first | omega | (simp only [lnS]; try omega; done)) [-getElem?_pos, -getElem?_neg, thenQ_ret, scopeQ_ret, inBlockQ_ret, RQ, resL, resV, hb2, hrl, htk])
  exact hlow2
def aO1 : OpD := opC1 0 1 1 [] [0, 1]
def aO2 : OpD := opC1 1 1 4 [key1 1] []
def aO3 : OpD := opC1 0 2 4 [key1 1] []
def aL1 : List NodeD := [⟨key1 1, aO1, []⟩]
def aL2 : List NodeD := aL1 ++ [⟨key1 2, aO2, [0]⟩]
def aL3 : List NodeD := aL2 ++ [⟨key1 3, aO3, [0]⟩]
theorem opC1_wf {a s k : Int} {ps : List (List Int)} {who : List Int} (ha : I64 a) (hs : U32 s) (hk : I64 k) (hp : ∀ p ∈ ps, Key32 p) (hpl : ps.length ≤ 100) (hw : ∀ z ∈ who, I64 z) (hwl : who.length ≤ 100) : (opC1 a s k ps who).Wf := by
  refine ⟨ha, hs, hp, by simp only [maxLen]; show ps.length ≤ _; omega, hk, hw, by simp only [maxLen]; show who.length ≤ _; omega, ⟨by simp [opC1], fun y hy => ?_⟩, key1_ok (by omega), by simp [opC1], fun b hb => (by cases hb), by simp [opC1]⟩
  have : y = 0 := (List.mem_replicate.1 hy).2
  omega
theorem aO1_wf : aO1.Wf := opC1_wf (by unfold I64; omega) (by unfold U32; omega) (by unfold I64; omega) (by simp) (by simp) (by unfold I64; simp) (by simp)
theorem aO2_wf : aO2.Wf := opC1_wf (by unfold I64; omega) (by unfold U32; omega) (by unfold I64; omega) (fun p hp => by simp at hp; subst hp; exact key1_ok (by omega)) (by simp) (by simp) (by simp)
theorem aO3_wf : aO3.Wf := opC1_wf (by unfold I64; omega) (by unfold U32; omega) (by unfold I64; omega) (fun p hp => by simp at hp; subst hp; exact key1_ok (by omega)) (by simp) (by simp) (by simp)
theorem aL1_wf : ∀ x ∈ aL1, x.Wf := fun x hx => by
  rw [aL1, List.mem_singleton] at hx
  subst hx
  exact ⟨key1_ok (by omega), aO1_wf, fun z hz => (by cases hz), by simp⟩
theorem aL2_wf : ∀ x ∈ aL2, x.Wf := fun x hx => by
  rcases List.mem_append.1 hx with hx | hx
  · exact aL1_wf x hx
  · rw [List.mem_singleton] at hx
    subst hx
    exact ⟨key1_ok (by omega), aO2_wf, fun z hz => by unfold I64; simp at hz; subst hz; omega, by simp [maxLen]⟩
theorem aL3_wf : ∀ x ∈ aL3, x.Wf := fun x hx => by
  rcases List.mem_append.1 hx with hx | hx
  · exact aL2_wf x hx
  · rw [List.mem_singleton] at hx
    subst hx
    exact ⟨key1_ok (by omega), aO3_wf, fun z hz => by unfold I64; simp at hz; subst hz; omega, by simp [maxLen]⟩
theorem add1 : addE [] (key1 1) aO1 = 0 ∧ [] ++ [addD [] (key1 1) aO1] = aL1 := ⟨by decide +kernel, by unfold addD aL1; rfl⟩
theorem past2 : pastL aL1 aL1.length aO2.parents = [0] := by decide +kernel
theorem past3 : pastL aL2 aL2.length aO3.parents = [0] := by decide +kernel
theorem add2 : addE aL1 (key1 2) aO2 = 0 ∧ aL1 ++ [addD aL1 (key1 2) aO2] = aL2 := ⟨by decide +kernel, by unfold addD; rw [past2]; rfl⟩
theorem add3 : addE aL2 (key1 3) aO3 = 0 ∧ aL2 ++ [addD aL2 (key1 3) aO3] = aL3 := ⟨by decide +kernel, by unfold addD; rw [past3]; rfl⟩
theorem al_apart : apartB aL3 1 2 = true := by decide +kernel
theorem al_ahead : aheadB aL3 0 2 = true := by decide +kernel
theorem al_right : rightG aL3 = true := by decide +kernel
theorem al_heads : headsL aL3 = [key1 2, key1 3] := by
  have e : headK aL3 = [key1 2, key1 3] := by decide +kernel
  unfold headsL
  rw [e]
  refine (sortK_eq (.refl _) ?_).symm
  unfold Rise
  decide +kernel
/-- Nodes of new memory, by their addresses. -/
theorem NewG.nda {n : Nat} {H G : AH} {v : Value} {l : List NodeD} (h : NewG n H v l) (hw : ∀ x ∈ l, x.Wf) (hk : KeepN n H G) : NdA G v l := (h G hk).nda hw
theorem nil_nda (H : AH) : NdA H (.slice none 0 0) [] := NdV.nda (CD.Val.nil (fun x e => by cases e)) (fun x hx => by cases hx)
theorem AddQ.zero {l : List NodeD} {id : List Int} {o : OpD} {H : AH} {v' : Value} {H' : AH} {L : List NodeD} (h : AddQ l id o H v' H') (hz : addE l id o = 0 ∧ l ++ [addD l id o] = L) : Low H.length H H' ∧ ∃ sv, v' = .tuple #[sv, .int .i64 0] ∧ NewG H.length H' sv L := by
  obtain ⟨h1, sv, h2, h3⟩ := h
  rw [hz.1] at h2
  refine ⟨h1, sv, h2, ?_⟩
  rcases h3 with ⟨_, h3⟩ | ⟨h3, _⟩
  · rw [← hz.2]; exact h3
  · exact absurd hz.1 h3
theorem NewG.sh {n : Nat} {H : AH} {v : Value} {l : List NodeD} (h : NewG n H v l) : notTuple v = true ∧ v.cells = #[v] := val_nt (h H (fun _ _ _ => rfl))
theorem kr_ksv {G : AH} {v : Value} {F : List Nat} {ps : List (List Int)} (h : OwnF G v 24 32 (kr ps) F) (hk : K32 ps) : KsV G v ps := by
  rw [← ksC_kr] at h
  exact own_val (by omega) h (kd_len hk) (kd_flat ps)
theorem alive_rc {γ : Nat → Option Nat} {H : AH} : AC Try.prog H.length γ 9 #[] H (fun v' _ => v' = .bool true) := by
  have k1 := build_key 1
  have k2 := build_key 2
  have k3 := build_key 3
  obtain ⟨n, hn⟩ : ∃ n, n = H.length := ⟨_, rfl⟩
  rw [← hn]
  refine ac_of_aw Try.func9 rfl Try.ntmps9 Try.results9 (by simp) ?_
  refine aw_seq ?_
  (refine aw_ops (by kernel_rfl) (fun K hK => ?_); simp (disch := first | omega | (simp only [lnS]; try omega; done)) [-getElem?_pos, -getElem?_neg]; refine hK _ _ ?_; clear hK K)
  refine aw_seq ?_
  refine aw_ops (by kernel_rfl) (fun K hK => ?_)
  have f2 : ((List.map (fun j => [Value.int .i64 0][j % 1]?.getD undef) (List.range 2)).set 0 (.int .i64 0)).set 1 (.int .i64 1) = iv .i64 [0, 1] := rfl
  have x0 : notTuple (.slice none 0 0) = true := rfl
  have x1 : (Value.slice none 0 0).cells = #[.slice none 0 0] := rfl
  have q1 : (iv .u8 (key1 1)).length = 32 := by rw [iv_length, key1_32]
  have fk := fill_keyG (k := .u8) (x := key1 1) (n := 32) (zl 32) q1
  have hnil : ∀ G : AH, KsV G (.slice none 0 0) [] ∧ InV G (.slice none 0 0) [] ∧ BxV G (.slice none 0 0) [] := fun G => ⟨.nil (fun x e => by cases e), .nil (fun x e => by cases e), .nil (fun x e => by cases e)⟩
  have thw : ∀ {G : AH} {l : List NodeD} {id : List Int} {o : OpD} (v : Value) (G' : AH), AddQ l id o G v G' → G.length ≤ G'.length ∧ ∀ j, j < G.length → hget G' j = hget G j := fun v G' h => ⟨h.1.2, h.1.1⟩
  simp (disch := first | omega | (simp only [lnS]; try omega; done)) [-getElem?_pos, -getElem?_neg, -xbuild, k1, f2]
  rw [← hn]
  obtain ⟨G1, hG1⟩ : ∃ G : AH, G = H ++ [some ⟨iv .i64 [0, 1], 3, some 1⟩] := ⟨_, rfl⟩
  have lw1 : Low n H G1 := by rw [hG1, hn]; exact Low.push (Nat.le_refl _) _
  have i1 : InV G1 (.slice (some ⟨n, 0, none⟩) 2 2) [0, 1] := own_inv (e := 3) (F := [n]) (.inr ⟨n, 2, rfl, by rw [hG1, hn, hget_app0]; rfl, rfl, rfl⟩)
  rw [← hG1]
  clear hG1
  refine ⟨by kernel_rfl, (create_ac (nro := n) (γ := γ) (l := [0, 1]) (a := 0) i1 rfl lw1.2).mono ?_⟩
  rintro v G2 ⟨rfl, lw2⟩
  have o1 : OpC G2 _ aO1 _ _ _ := opC_row aO1_wf (hnil G2).1 (i1.lowG lw2) (hnil G2).2.2
  refine ⟨by kernel_rfl, ((add_rc (γ := γ) (nil_nda G2) (key1_ok (x := 1) (by omega)) o1 aO1_wf).thaw thw).mono ?_⟩
  rintro v G3 hq
  obtain ⟨lw3, sv, rfl, hnew⟩ := hq.zero add1
  obtain ⟨v1, v2⟩ := hnew.sh
  have N1 := hnew.nda aL1_wf (fun _ _ _ => rfl)
  have low3 : Low n H G3 := ⟨fun j hj => (lw3.1 j (by have := lw2.2; have := lw1.2; omega)).trans ((lw2.1 j (by have := lw1.2; omega)).trans (lw1.1 j hj)), by have := lw3.2; have := lw2.2; have := lw1.2; omega⟩
  clear hnew hq lw1 lw2 lw3 i1 o1
  simp (disch := first | omega | (simp only [lnS]; try omega; done)) [-getElem?_pos, -getElem?_neg, -notTuple, v1, v2, nt_intG]
  refine hK _ _ ?_; clear hK K
  -- the second node
  refine aw_seq ?_
  refine aw_ops (by kernel_rfl) (fun K hK => ?_)
  simp (disch := first | omega | (simp only [lnS]; try omega; done)) [-getElem?_pos, -getElem?_neg, -xbuild, k1, k2, -notTuple, v1, v2, nt_intG, nt_aggG, all_zl, q1, -xfill, fk]
  obtain ⟨G4, hG1⟩ : ∃ G : AH, G = G3 ++ [some ⟨iv .u8 (key1 1), 24, some 32⟩] := ⟨_, rfl⟩
  have lw1 : Low G3.length G3 G4 := by rw [hG1]; exact Low.push (Nat.le_refl _) _
  have i1 : KsV G4 (.slice (some ⟨G3.length, 0, none⟩) 1 1) [key1 1] := kr_ksv (F := [G3.length]) (.inr ⟨G3.length, 1, rfl, by rw [hG1, hget_app0, kr_one]; rfl, by rw [kr_one, q1], rfl⟩) (fun k hk => by simp at hk; subst hk; exact key1_32 1)
  rw [← hG1]
  clear hG1
  have hle0 := low3.2
  have hle1 := lw1.2
  refine ⟨by kernel_rfl, (update_ac (nro := n) (γ := γ) (H := G4) (ps := [key1 1]) (a := 1) (s := 1) (by omega)).mono ?_⟩
  rintro v G5 ⟨rfl, lw2⟩
  have hle2 := lw2.2
  have lw12 : Low G3.length G3 G5 := ⟨fun j hj => (lw2.1 j (by omega)).trans (lw1.1 j hj), by omega⟩
  have o1 : OpC G5 _ aO2 _ _ _ := opC_row aO2_wf (CD.Val.low (fun j hj => lw2.1 j hj) i1) (hnil G5).2.1 (hnil G5).2.2
  refine ⟨by kernel_rfl, ((add_rc (γ := γ) (N1.lowG lw12) (key1_ok (x := 2) (by omega)) o1 aO2_wf).thaw thw).mono ?_⟩
  rintro v G6 hq
  obtain ⟨lw3, su, rfl, hnew⟩ := hq.zero add2
  obtain ⟨u1, u2⟩ := hnew.sh
  have N2 := hnew.nda aL2_wf (fun _ _ _ => rfl)
  have hle3 := lw3.2
  have low6 : Low n H G6 := ⟨fun j hj => (lw3.1 j (by omega)).trans ((lw12.1 j (by omega)).trans (low3.1 j hj)), by omega⟩
  clear hnew hq lw1 lw2 lw12 lw3 i1 o1 hle1 hle2 hle3 N1
  simp (disch := first | omega | (simp only [lnS]; try omega; done)) [-getElem?_pos, -getElem?_neg, -notTuple, u1, u2, nt_intG]
  refine hK _ _ ?_; clear hK K
  refine aw_seq ?_
  refine aw_ops (by kernel_rfl) (fun K hK => ?_)
  simp (disch := first | omega | (simp only [lnS]; try omega; done)) [-getElem?_pos, -getElem?_neg, -xbuild, k1, k3, -notTuple, u1, u2, nt_intG, nt_aggG, all_zl, q1, -xfill, fk]
  obtain ⟨G7, hG1⟩ : ∃ G : AH, G = G6 ++ [some ⟨iv .u8 (key1 1), 24, some 32⟩] := ⟨_, rfl⟩
  have lw1 : Low G6.length G6 G7 := by rw [hG1]; exact Low.push (Nat.le_refl _) _
  have i1 : KsV G7 (.slice (some ⟨G6.length, 0, none⟩) 1 1) [key1 1] := kr_ksv (F := [G6.length]) (.inr ⟨G6.length, 1, rfl, by rw [hG1, hget_app0, kr_one]; rfl, by rw [kr_one, q1], rfl⟩) (fun k hk => by simp at hk; subst hk; exact key1_32 1)
  rw [← hG1]
  clear hG1
  have hle0 := low6.2
  have hle1 := lw1.2
  refine ⟨by kernel_rfl, (update_ac (nro := n) (γ := γ) (H := G7) (ps := [key1 1]) (a := 0) (s := 2) (by omega)).mono ?_⟩
  rintro v G8 ⟨rfl, lw2⟩
  have hle2 := lw2.2
  have lw12 : Low G6.length G6 G8 := ⟨fun j hj => (lw2.1 j (by omega)).trans (lw1.1 j hj), by omega⟩
  have o1 : OpC G8 _ aO3 _ _ _ := opC_row aO3_wf (CD.Val.low (fun j hj => lw2.1 j hj) i1) (hnil G8).2.1 (hnil G8).2.2
  refine ⟨by kernel_rfl, ((add_rc (γ := γ) (N2.lowG lw12) (key1_ok (x := 3) (by omega)) o1 aO3_wf).thaw thw).mono ?_⟩
  rintro v G9 hq
  obtain ⟨lw3, st, rfl, hnew⟩ := hq.zero add3
  obtain ⟨t1, t2⟩ := hnew.sh
  have N3 := hnew.nda aL3_wf (fun _ _ _ => rfl)
  have hle3 := lw3.2
  have low9 : Low n H G9 := ⟨fun j hj => (lw3.1 j (by omega)).trans ((lw12.1 j (by omega)).trans (low6.1 j hj)), by omega⟩
  clear hnew hq lw1 lw2 lw12 lw3 i1 o1 hle1 hle2 hle3 N2
  simp (disch := first | omega | (simp only [lnS]; try omega; done)) [-getElem?_pos, -getElem?_neg, -notTuple, t1, t2, nt_intG]
  refine hK _ _ ?_; clear hK K
  -- the heads
  refine aw_seq ?_
  refine aw_ops (by kernel_rfl) (fun K hK => ?_)
  simp (disch := first | omega | (simp only [lnS]; try omega; done)) [-getElem?_pos, -getElem?_neg, -notTuple, t1, t2, nt_intG]
  refine ⟨by kernel_rfl, ((heads_rc (γ := γ) N3).thaw (fun v G' h => ⟨h.1.2, h.1.1⟩)).mono ?_⟩
  rintro hv G10 ⟨lw10, ⟨_, F, ho, hF⟩ | ⟨hbad, _⟩⟩
  case inr => rw [al_right] at hbad; cases hbad
  rw [al_heads] at ho
  have hkk : K32 [key1 2, key1 3] := fun k hk => by
    rcases List.mem_cons.1 hk with rfl | hk
    · exact key1_32 2
    · rw [List.mem_singleton] at hk; subst hk; exact key1_32 3
  obtain ⟨h1, h2⟩ := own_nt ho
  have hxl := ho.len (P := Try.prog) (t := 30) (by simp) (kr_len hkk) (by omega)
  obtain ⟨b, rfl, hbk⟩ : ∃ b, hv = .slice (some ⟨b, 0, none⟩) 2 2 ∧ hget G10 b = some ⟨kr [key1 2, key1 3], 24, some 32⟩ := by
    rcases ho with ⟨_, hc, _⟩ | ⟨b, len, rfl, hb, hl, _⟩
    · have := congrArg List.length hc
      rw [kr_len hkk] at this
      cases this
    · rw [kr_len hkk] at hl
      have : len = 2 := by simp at hl; omega
      subst this
      exact ⟨b, rfl, hb⟩
  have N4 := N3.lowG lw10
  have hxa := kr_addr (n := 2) (b := b) (j := 1) (by omega)
  have hld := kr_load hkk (j := 1) (k := key1 3) rfl hbk
  have hxn := N4.len
  have ra := apart_rc (γ := γ) N4 1 2
  have rb := ahead_rc (γ := γ) N4 0 2
  have rc := graph_right_rc (γ := γ) N4
  rw [al_apart] at ra
  rw [al_ahead] at rb
  rw [al_right] at rc
  have e3 : ((aL3.length : Nat) : Int) = 3 := rfl
  try simp (disch := first | omega | (simp only [lnS]; try omega; done)) [-getElem?_pos, -getElem?_neg]
  refine hK _ _ ?_; clear hK K
  refine aw_seq ?_
  refine aw_ops (by kernel_rfl) (fun K hK => ?_)
  simp (disch := first | omega | (simp only [lnS]; try omega; done)) [-getElem?_pos, -getElem?_neg, -notTuple, t1, t2, nt_intG, -xlen, hxn, hxl, e3]
  refine ⟨by kernel_rfl, ac_of_rc ra (by simp [pv_iv, pv_int, pv_bool, pv_string, pv_tup2, pv_tup3, iv_plain, p2_int, p2_bool, p2_string]) ?_⟩
  simp (disch := first | omega | (simp only [lnS]; try omega; done)) [-getElem?_pos, -getElem?_neg, -notTuple, t1, t2, nt_intG]
  refine ⟨by kernel_rfl, ac_of_rc rb (by simp [pv_iv, pv_int, pv_bool, pv_string, pv_tup2, pv_tup3, iv_plain, p2_int, p2_bool, p2_string]) ?_⟩
  have hxa : xindexAddr Try.prog 30 (.slice (some ⟨b, 0, none⟩) 2 2) (.int .i64 1) = some (.pointer (some ⟨b, 1 * 32, none⟩)) := hxa
  have hll : (iv .u8 (key1 3)).length = 32 := by rw [iv_length, key1_32]
  simp (disch := first | omega | (simp only [lnS]; try omega; done)) [-getElem?_pos, -getElem?_neg, -notTuple, t1, t2, nt_intG, nt_aggG, -xlen, hxl, -xindexAddr, hxa, -xload, hld, -xbuild, k3, hll]
  refine ⟨by kernel_rfl, ac_of_rc rc (by simp [pv_iv, pv_int, pv_bool, pv_string, pv_tup2, pv_tup3, iv_plain, p2_int, p2_bool, p2_string]) ?_⟩
  refine hK _ _ ?_; clear hK K
  (refine aw_ret ?_; simp (disch := first | omega | (simp only [lnS]; try omega; done)) [-getElem?_pos, -getElem?_neg, thenQ_ret, scopeQ_ret, inBlockQ_ret, RQ, resL, resV])
end
section
/-- What comes in: a graph; an operation. -/
theorem nodes_in {H : AH} {ds : List CD} {u : Value} (ho : OkL [.sl nodeK] ds) (hv : ValL H ds [u]) : ∃ l, NdV H u l ∧ (∀ x ∈ l, x.Wf) ∧ l.length ≤ maxLen := by
  obtain ⟨d, r, rfl, h1, h2⟩ := ho.cons
  obtain rfl := h2.nil
  obtain ⟨l, rfl, h3, h4⟩ := nodes_of h1
  obtain ⟨u', r', e, h5, h6⟩ := hv.cons
  cases e
  exact ⟨l, h5, h3, h4⟩
section
variable {l : List NodeD}
end
attribute [local simp] wb_bool wb_undef with_lit XL_nil XL_cons XLc_val XLc_call step1_eq stepW_t stepW_f stepC_n stepC_s stepX_s stepX_n stepN_s calleeX oneV xop_eq xopR_s xopR_n wantedA_eq wantedG_n wantedG_s plain1_int plain1_bool plain1_string bits_i64 bits_u64 bits_u32 bits_u16 bits_u8 xeqA xagg xcmp xarr allK_iv num_iv calleeOf xread xeff xbin xint xnil xun xstr xload xconv xpart xfield xfieldAddr xindexAddr xindex bnd asInt? xslice xlen xmin xmax xbuild xfill xappend xapp2 xappstr xappmk xcap xcopy xcells eval_tmp eval_const put_at put_none fr0_at cells_agg cells_int cells_bool cells_string cells_ptr cells_slice notTuple tab iv_all hget_app hget_app0 hget_cons0 hget_cons set_app set_app0 setR setR_one QL_nil QL_cons QLc_val stepQ_t stepQ_f stepQC_n stepQC_s stepQX_s SL_nil SL_cons SLc_val stepS_t stepS_f ltT ltF leT leF eqT eqF ltTn ltFn leTn leFn eqTn eqFn beqT beqF bneT bneF wi64 wu64 wu32 wu16 wu8 tmodP tdivP hgetL hgetNe hgetEq setL nums_def nums_len Nat.succ_le_of_lt List.getElem?_cons_zero List.getElem?_cons_succ Option.getD_some Int.toNat_add Int.toNat_mul agM okM agB agI agS agP agL agA okB okI okS okP okSl okA
end
section
section
variable {l : List NodeD}
theorem mem_headsL {k : List Int} : k ∈ headsL l ↔ ∃ a, a ∈ headP l ∧ k = (nd l a).id := by
  unfold headsL headK
  rw [(sortK_perm _).mem_iff, List.mem_map]
  exact exists_congr fun a => and_congr_right fun _ => eq_comm
theorem headsL_len : (headsL l).length = (headP l).length := by
  unfold headsL headK
  rw [(sortK_perm _).length_eq, List.length_map]
end
attribute [local simp] wb_bool wb_undef with_lit XL_nil XL_cons XLc_val XLc_call step1_eq stepW_t stepW_f stepC_n stepC_s stepX_s stepX_n stepN_s calleeX oneV xop_eq xopR_s xopR_n wantedA_eq wantedG_n wantedG_s plain1_int plain1_bool plain1_string bits_i64 bits_u64 bits_u32 bits_u16 bits_u8 xeqA xagg xcmp xarr allK_iv num_iv calleeOf xread xeff xbin xint xnil xun xstr xload xconv xpart xfield xfieldAddr xindexAddr xindex bnd asInt? xslice xlen xmin xmax xbuild xfill xappend xapp2 xappstr xappmk xcap xcopy xcells eval_tmp eval_const put_at put_none fr0_at cells_agg cells_int cells_bool cells_string cells_ptr cells_slice notTuple tab iv_all hget_app hget_app0 hget_cons0 hget_cons set_app set_app0 setR setR_one QL_nil QL_cons QLc_val stepQ_t stepQ_f stepQC_n stepQC_s stepQX_s SL_nil SL_cons SLc_val stepS_t stepS_f ltT ltF leT leF eqT eqF ltTn ltFn leTn leFn eqTn eqFn beqT beqF bneT bneF wi64 wu64 wu32 wu16 wu8 tmodP tdivP hgetL hgetNe hgetEq setL nums_def nums_len Nat.succ_le_of_lt List.getElem?_cons_zero List.getElem?_cons_succ Option.getD_some Int.toNat_add Int.toNat_mul agM okM agB agI agS agP agL agA okB okI okS okP okSl okA
end
section
theorem take_nd {l : List NodeD} {i : Nat} : ∀ a, a < i → nd (l.take i) a = nd l a := fun a ha => nd_take ha
theorem take_len {l : List NodeD} {i : Nat} (hi : i < l.length) : (l.take i).length = i := by rw [List.length_take]; omega
theorem step_false {l : List NodeD} {i : Nat} (h : ¬ ((nd l i).op.parents.all (fun p => (findN l i p).isSome) = true ∧ rightO (nd l i).op = true ∧ findN l i (nd l i).id = none ∧ (nd l i).past = pastL l i (nd l i).op.parents ∧ turnB l i (nd l i).op (nd l i).past = true)) : stepB l i = false := by
  cases hs : stepB l i with
  | false => rfl
  | true => exact absurd (step_iff.1 hs) h
attribute [local simp] wb_bool wb_undef with_lit XL_nil XL_cons XLc_val XLc_call step1_eq stepW_t stepW_f stepC_n stepC_s stepX_s stepX_n stepN_s calleeX oneV xop_eq xopR_s xopR_n wantedA_eq wantedG_n wantedG_s plain1_int plain1_bool plain1_string bits_i64 bits_u64 bits_u32 bits_u16 bits_u8 xeqA xagg xcmp xarr allK_iv num_iv calleeOf xread xeff xbin xint xnil xun xstr xload xconv xpart xfield xfieldAddr xindexAddr xindex bnd asInt? xslice xlen xmin xmax xbuild xfill xappend xapp2 xappstr xappmk xcap xcopy xcells eval_tmp eval_const put_at put_none fr0_at cells_agg cells_int cells_bool cells_string cells_ptr cells_slice notTuple tab iv_all hget_app hget_app0 hget_cons0 hget_cons set_app set_app0 setR setR_one QL_nil QL_cons QLc_val stepQ_t stepQ_f stepQC_n stepQC_s stepQX_s SL_nil SL_cons SLc_val stepS_t stepS_f ltT ltF leT leF eqT eqF ltTn ltFn leTn leFn eqTn eqFn beqT beqF bneT bneF wi64 wu64 wu32 wu16 wu8 tmodP tdivP hgetL hgetNe hgetEq setL nums_def nums_len Nat.succ_le_of_lt List.getElem?_cons_zero List.getElem?_cons_succ Option.getD_some Int.toNat_add Int.toNat_mul agM okM agB agI agS agP agL agA okB okI okS okP okSl okA
theorem rRightG_rc {γ : Nat → Option Nat} {H : AH} {nv : Value} {l : List NodeD} (hV : NdV H nv l) (hw : ∀ x ∈ l, x.Wf) (hm : l.length ≤ maxLen) : AC Try.prog H.length γ 11 #[nv] H (fun v' _ => v' = .bool (rightG l)) := by
  have hN := hV.nda hw
  have hnt := hN.nt
  have hvc := hN.cs
  have hxl := hN.len
  have hm63 : l.length ≤ 9223372036854775807 := by simp only [maxLen] at hm; omega
  obtain ⟨n, hn⟩ : ∃ n, n = H.length := ⟨_, rfl⟩
  rw [← hn]
  refine ac_of_aw Try.func11 rfl Try.ntmps11 Try.results11 (by simp) ?_
  refine aw_seq ?_
  (refine aw_ops (by kernel_rfl) (fun K hK => ?_); simp (disch := first | omega | (simp only [lnS]; try omega; done)) [-getElem?_pos, -getElem?_neg]; refine hK _ _ ?_; clear hK K)
  refine aw_seq ?_
  refine aw_seq ?_
  by_cases hl : 96 < l.length
  · (refine aw_ops (by kernel_rfl) (fun K hK => ?_); simp (disch := first | omega | (simp only [lnS]; try omega; done)) [-getElem?_pos, -getElem?_neg, -notTuple, hnt, hvc, nt_intG, -xlen, hxl, hl]; refine hK _ _ ?_; clear hK K)
    refine aw_t (by (first | (simp [eval_tmp, put_at, hl]; done) | (simp [eval_tmp, put_at, hl]; omega))) (by kernel_rfl) ?_
    refine aw_seq ?_
    (refine aw_ops (by kernel_rfl) (fun K hK => ?_); simp (disch := first | omega | (simp only [lnS]; try omega; done)) [-getElem?_pos, -getElem?_neg]; refine hK _ _ ?_; clear hK K)
    (refine aw_ret ?_; simp (disch := first | omega | (simp only [lnS]; try omega; done)) [-getElem?_pos, -getElem?_neg, thenQ_ret, scopeQ_ret, inBlockQ_ret, RQ, resL, resV])
    have : ¬ l.length ≤ 96 := by omega
    simp [rightG, this]
  (refine aw_ops (by kernel_rfl) (fun K hK => ?_); simp (disch := first | omega | (simp only [lnS]; try omega; done)) [-getElem?_pos, -getElem?_neg, -notTuple, hnt, hvc, nt_intG, -xlen, hxl, hl]; refine hK _ _ ?_; clear hK K)
  refine aw_f (by (first | (simp [eval_tmp, put_at, hl]; done) | (simp [eval_tmp, put_at, hl]; omega))) (by kernel_rfl) ?_
  refine aw_skip ?_
  refine aw_seq ?_
  refine aw_seq ?_
  (refine aw_ops (by kernel_rfl) (fun K hK => ?_); simp (disch := first | omega | (simp only [lnS]; try omega; done)) [-getElem?_pos, -getElem?_neg]; refine hK _ _ ?_; clear hK K)
  refine aw_block ?_
  refine aw_loop (fun c α G => ∃ i : Nat, i + c = l.length ∧ α 0 = nv ∧ α 3 = .int .i64 (i : Nat) ∧ Low n H G ∧ ∀ k, k < i → stepB l k = true) l.length ?_ ?_
  · exact ⟨0, by omega, by (first | (simp [put_at, put_none, fr0_at]; done) | rfl), by (first | (simp [put_at, put_none, fr0_at]; done) | rfl), by rw [hn]; exact Low.refl (Nat.le_refl _), fun k hk => by omega⟩
  rintro c α G ⟨i, hic, q0, q3, hlow, hpre⟩
  refine aw_seq ?_
  refine aw_seq ?_
  by_cases hi : i < l.length
  case neg =>
    (refine aw_ops (by kernel_rfl) (fun K hK => ?_); simp (disch := first | omega | (simp only [lnS]; try omega; done)) [-getElem?_pos, -getElem?_neg, q0, q3, -notTuple, hnt, hvc, nt_intG, -xlen, hxl, hi]; refine hK _ _ ?_; clear hK K)
    refine aw_f (by (first | (simp [eval_tmp, put_at, hi]; done) | (simp [eval_tmp, put_at, hi]; omega))) (by kernel_rfl) ?_
    refine aw_exit ?_
    refine aw_seq ?_
    (refine aw_ops (by kernel_rfl) (fun K hK => ?_); simp (disch := first | omega | (simp only [lnS]; try omega; done)) [-getElem?_pos, -getElem?_neg]; refine hK _ _ ?_; clear hK K)
    (refine aw_ret ?_; simp (disch := first | omega | (simp only [lnS]; try omega; done)) [-getElem?_pos, -getElem?_neg, thenQ_ret, scopeQ_ret, inBlockQ_ret, RQ, resL, resV])
    unfold rightG
    rw [range_true (fun k hk => hpre k (by omega)), Bool.and_true]
    simp; omega
  obtain ⟨tv, hT, hsl⟩ := hV.take hw hi
  have htl := take_len hi
  have hTG := hT.lowG (hn ▸ hlow)
  have t1 := hTG.nt
  have t2 := hTG.cs
  obtain ⟨j, q, bb, us, pv, wv', bv, qv, hx, hbb, hq, hcell, hus, hC⟩ := (hN.lowG (hn ▸ hlow)).at_ i _ (nd_get hi)
  have hxw := hw _ (List.mem_of_getElem? (nd_get hi))
  have hP := hC.op.parents
  have p12 := val_nt hP
  have cp : bb.cells[q + 34]? = some pv := by
    have := hC.op.c2
    rw [List.getElem?_take_of_lt (by omega), List.getElem?_drop] at this
    exact (hcell 34 (by omega)).trans this
  have cq : bb.cells[q + 103]? = some qv := (hcell 103 (by omega)).trans hC.c103
  have co : (bb.cells.drop (q + 32)).take 71 = (us.drop 32).take 71 := by rw [op_cut, ← hus]
  have ci : (bb.cells.drop q).take 32 = iv .u8 (nd l i).id := by
    have := hC.id
    rw [hus, List.take_take] at this
    simpa using this
  have hpk : ∀ k ∈ (nd l i).op.parents, k.length = 32 := fun k hk => (hxw.op.parents k hk).1
  have hrp := (rPast_rc (γ := γ) hTG (by omega) hP hpk hxw.op.plen).thaw (nro := n) (fun v G' h => ⟨h.1.2, h.1.1⟩)
  unfold RPastQ at hrp
  rw [htl, pastL_congr take_nd] at hrp
  have hfc : (fun p => (findN (l.take i) i p).isSome) = fun p => (findN l i p).isSome := by
    funext p
    rw [find_congr take_nd]
  rw [hfc] at hrp
  have hbad : stepB l i = false → rightG l = false := rightG_bad hi
  (refine aw_ops (by kernel_rfl) (fun K hK => ?_); simp (disch := first | omega | (simp only [lnS]; try omega; done)) [-getElem?_pos, -getElem?_neg, q0, q3, -notTuple, hnt, hvc, nt_intG, -xlen, hxl, hi]; refine hK _ _ ?_; clear hK K)
  refine aw_t (by (first | (simp [eval_tmp, put_at, hi]; done) | (simp [eval_tmp, put_at, hi]; omega))) (by kernel_rfl) ?_
  refine aw_skip ?_
  refine aw_seq ?_
  refine aw_block ?_
  refine aw_seq ?_
  refine aw_cut (fun α2 G2 => α2 0 = nv ∧ α2 3 = .int .i64 (i : Nat) ∧ Low n H G2 ∧ Low G.length G G2 ∧ ∃ sv ok, α2 4 = sv ∧ α2 5 = .bool ok ∧ notTuple sv = true ∧ sv.cells = #[sv] ∧ ok = (nd l i).op.parents.all (fun p => (findN l i p).isSome) ∧ (ok = true → ∃ F, OwnF G2 sv 3 1 (iv .i64 (pastL l i (nd l i).op.parents)) F)) ?_ ?_
  (refine aw_ptree [0, 1, 3, 4, 5, 6, 7] 8 [[2, 8, 9, 10, 11, 12, 13, 14], [2, 8, 9, 10, 11, 13, 12, 14], [2, 8, 9, 10, 12, 11, 13, 14], [8, 2, 9, 10, 11, 12, 13, 14], [8, 2, 9, 10, 11, 13, 12, 14], [8, 2, 9, 10, 12, 11, 13, 14]] (by kernel_rfl) (by kernel_rfl) (by kernel_rfl) (fun K hK => ?_)); simp only [sel, List.getElem?_cons_succ, List.getElem?_cons_zero]; simp (disch := first | omega | (simp only [lnS]; try omega; done)) [-getElem?_pos, -getElem?_neg, q0, q3, hsl, -xslice, -xindexAddr, hx, hbb, cp, -notTuple, hnt, hvc, t1, t2, p12.1, p12.2, nt_intG, nt_ptrG, XO_s, XO_z, XLk_val, XLk_call, headsO, behind, List.length_cons, List.length_nil, List.mem_cons, List.not_mem_nil, or_false, forall_eq_or_imp, forall_eq, List.contains_cons, List.contains_nil]
  · have hG1 : ∀ G1 : AH, Low G.length G G1 → Low n H G1 := fun G1 h => ⟨fun j hj => (h.1 j (by have := hlow.2; omega)).trans (hlow.1 j hj), by have := h.2; have := hlow.2; omega⟩
    refine ⟨⟨by kernel_rfl, AC.mono hrp ?_⟩, by kernel_rfl, AC.mono hrp ?_⟩
    all_goals rintro v G1 ⟨low1, ⟨hall, sv, F, rfl, ho, hF⟩ | ⟨hall, rfl⟩⟩
    · obtain ⟨s1, s2⟩ := own_nt ho
      simp (disch := first | omega | (simp only [lnS]; try omega; done)) [-getElem?_pos, -getElem?_neg, -notTuple, s1, s2, nt_boolG, XO_s, XO_z, XLk_val, XLk_call, headsO, behind, List.length_cons, List.length_nil, List.mem_cons, List.not_mem_nil, or_false, forall_eq_or_imp, forall_eq, List.contains_cons, List.contains_nil]
      refine ⟨⟨hK _ _ ?_, hK _ _ ?_⟩, hK _ _ ?_⟩
      · exact ⟨by (first | (simp [put_at, put_none, fr0_at, q0]; done) | rfl), by (first | (simp [put_at, put_none, fr0_at, q3]; done) | rfl), hG1 _ low1, low1, sv, true, by (first | (simp [put_at, put_none, fr0_at]; done) | rfl), by (first | (simp [put_at, put_none, fr0_at]; done) | rfl), s1, s2, hall.symm, fun _ => ⟨F, ho⟩⟩
      · exact ⟨by (first | (simp [put_at, put_none, fr0_at, q0]; done) | rfl), by (first | (simp [put_at, put_none, fr0_at, q3]; done) | rfl), hG1 _ low1, low1, sv, true, by (first | (simp [put_at, put_none, fr0_at]; done) | rfl), by (first | (simp [put_at, put_none, fr0_at]; done) | rfl), s1, s2, hall.symm, fun _ => ⟨F, ho⟩⟩
      · exact ⟨by (first | (simp [put_at, put_none, fr0_at, q0]; done) | rfl), by (first | (simp [put_at, put_none, fr0_at, q3]; done) | rfl), hG1 _ low1, low1, sv, true, by (first | (simp [put_at, put_none, fr0_at]; done) | rfl), by (first | (simp [put_at, put_none, fr0_at]; done) | rfl), s1, s2, hall.symm, fun _ => ⟨F, ho⟩⟩
    · simp (disch := first | omega | (simp only [lnS]; try omega; done)) [-getElem?_pos, -getElem?_neg, XO_s, XO_z, XLk_val, XLk_call, headsO, behind, List.length_cons, List.length_nil, List.mem_cons, List.not_mem_nil, or_false, forall_eq_or_imp, forall_eq, List.contains_cons, List.contains_nil]
      refine ⟨⟨hK _ _ ?_, hK _ _ ?_⟩, hK _ _ ?_⟩
      · exact ⟨by (first | (simp [put_at, put_none, fr0_at, q0]; done) | rfl), by (first | (simp [put_at, put_none, fr0_at, q3]; done) | rfl), hG1 _ low1, low1, .slice none 0 0, false, by (first | (simp [put_at, put_none, fr0_at]; done) | rfl), by (first | (simp [put_at, put_none, fr0_at]; done) | rfl), rfl, rfl, hall.symm, fun h => (by cases h)⟩
      · exact ⟨by (first | (simp [put_at, put_none, fr0_at, q0]; done) | rfl), by (first | (simp [put_at, put_none, fr0_at, q3]; done) | rfl), hG1 _ low1, low1, .slice none 0 0, false, by (first | (simp [put_at, put_none, fr0_at]; done) | rfl), by (first | (simp [put_at, put_none, fr0_at]; done) | rfl), rfl, rfl, hall.symm, fun h => (by cases h)⟩
      · exact ⟨by (first | (simp [put_at, put_none, fr0_at, q0]; done) | rfl), by (first | (simp [put_at, put_none, fr0_at, q3]; done) | rfl), hG1 _ low1, low1, .slice none 0 0, false, by (first | (simp [put_at, put_none, fr0_at]; done) | rfl), by (first | (simp [put_at, put_none, fr0_at]; done) | rfl), rfl, rfl, hall.symm, fun h => (by cases h)⟩
    · obtain ⟨s1, s2⟩ := own_nt ho
      simp (disch := first | omega | (simp only [lnS]; try omega; done)) [-getElem?_pos, -getElem?_neg, -notTuple, s1, s2, nt_boolG, XO_s, XO_z, XLk_val, XLk_call, headsO, behind, List.length_cons, List.length_nil, List.mem_cons, List.not_mem_nil, or_false, forall_eq_or_imp, forall_eq, List.contains_cons, List.contains_nil]
      refine ⟨⟨hK _ _ ?_, hK _ _ ?_⟩, hK _ _ ?_⟩
      · exact ⟨by (first | (simp [put_at, put_none, fr0_at, q0]; done) | rfl), by (first | (simp [put_at, put_none, fr0_at, q3]; done) | rfl), hG1 _ low1, low1, sv, true, by (first | (simp [put_at, put_none, fr0_at]; done) | rfl), by (first | (simp [put_at, put_none, fr0_at]; done) | rfl), s1, s2, hall.symm, fun _ => ⟨F, ho⟩⟩
      · exact ⟨by (first | (simp [put_at, put_none, fr0_at, q0]; done) | rfl), by (first | (simp [put_at, put_none, fr0_at, q3]; done) | rfl), hG1 _ low1, low1, sv, true, by (first | (simp [put_at, put_none, fr0_at]; done) | rfl), by (first | (simp [put_at, put_none, fr0_at]; done) | rfl), s1, s2, hall.symm, fun _ => ⟨F, ho⟩⟩
      · exact ⟨by (first | (simp [put_at, put_none, fr0_at, q0]; done) | rfl), by (first | (simp [put_at, put_none, fr0_at, q3]; done) | rfl), hG1 _ low1, low1, sv, true, by (first | (simp [put_at, put_none, fr0_at]; done) | rfl), by (first | (simp [put_at, put_none, fr0_at]; done) | rfl), s1, s2, hall.symm, fun _ => ⟨F, ho⟩⟩
    · simp (disch := first | omega | (simp only [lnS]; try omega; done)) [-getElem?_pos, -getElem?_neg, XO_s, XO_z, XLk_val, XLk_call, headsO, behind, List.length_cons, List.length_nil, List.mem_cons, List.not_mem_nil, or_false, forall_eq_or_imp, forall_eq, List.contains_cons, List.contains_nil]
      refine ⟨⟨hK _ _ ?_, hK _ _ ?_⟩, hK _ _ ?_⟩
      · exact ⟨by (first | (simp [put_at, put_none, fr0_at, q0]; done) | rfl), by (first | (simp [put_at, put_none, fr0_at, q3]; done) | rfl), hG1 _ low1, low1, .slice none 0 0, false, by (first | (simp [put_at, put_none, fr0_at]; done) | rfl), by (first | (simp [put_at, put_none, fr0_at]; done) | rfl), rfl, rfl, hall.symm, fun h => (by cases h)⟩
      · exact ⟨by (first | (simp [put_at, put_none, fr0_at, q0]; done) | rfl), by (first | (simp [put_at, put_none, fr0_at, q3]; done) | rfl), hG1 _ low1, low1, .slice none 0 0, false, by (first | (simp [put_at, put_none, fr0_at]; done) | rfl), by (first | (simp [put_at, put_none, fr0_at]; done) | rfl), rfl, rfl, hall.symm, fun h => (by cases h)⟩
      · exact ⟨by (first | (simp [put_at, put_none, fr0_at, q0]; done) | rfl), by (first | (simp [put_at, put_none, fr0_at, q3]; done) | rfl), hG1 _ low1, low1, .slice none 0 0, false, by (first | (simp [put_at, put_none, fr0_at]; done) | rfl), by (first | (simp [put_at, put_none, fr0_at]; done) | rfl), rfl, rfl, hall.symm, fun h => (by cases h)⟩
  clear q0 q3
  rintro α G2 ⟨q0, q3, hlow2, lowG2, sv, ok, q4, q5, s1, s2, hok, hown⟩
  have hTG2 := hTG.lowG lowG2
  have hNG2 := hN.lowG (hn ▸ hlow2)
  have hbb2 := (lowG2.1 j (hget_lt hbb)).trans hbb
  have hC2 : NodeC G2 us (nd l i) pv wv' bv qv := hC.low lowG2.1
  refine aw_seq ?_
  refine aw_cut (fun α G3 => α 73 = .bool (!stepB l i) ∧ α 0 = nv ∧ α 3 = .int .i64 (i : Nat) ∧ G3 = G2) ?_ ?_
  · have hrr := rRight_rc (γ := γ) hC2.op hxw.op
    cases ok with
    | false =>
      have hsf : stepB l i = false := step_false (fun h => by rw [← hok] at h; cases h.1)
      (refine aw_plan [] [] [0, 1, 2, 3, 4, 5, 6, 7, 8, 9, 10, 11, 12, 13, 14, 15, 16, 17, 18, 19, 20, 21, 22, 23, 24, 25, 26, 27, 28, 29, 30, 31, 32, 33, 34, 35, 36, 37, 38, 39, 40, 41, 42, 43, 44, 45] 46 0 (by kernel_rfl) (by kernel_rfl) (by kernel_rfl) (fun K hK => ?_)); simp only [sel, List.getElem?_cons_succ, List.getElem?_cons_zero, List.drop_succ_cons, List.drop_zero]; simp (disch := first | omega | (simp only [lnS]; try omega; done)) [-getElem?_pos, -getElem?_neg, q0, q3, q5, PL_nil, plainB_lit, PL_cons, PLc_val, PLc_new, stepP_t, stepP_f, stepPC_n, stepPC_s, stepPX_s, stepPX_n, stepPV_n, stepPV_s, stepPA_t, stepPA_c, stepPA_l, stepPN_s, allocOp, reloc_sl, reloc_ptr, List.map_cons, List.map_nil, List.nil_append, List.append_assoc, List.cons_append, Nat.add_assoc]
      refine hK _ _ ?_; clear hK K
      exact ⟨by rw [hsf]; (first | (simp [put_at, put_none, fr0_at]; done) | rfl), by (first | (simp [put_at, put_none, fr0_at, q0]; done) | rfl), by (first | (simp [put_at, put_none, fr0_at, q3]; done) | rfl), rfl⟩
    | true =>
    obtain ⟨F, ho⟩ := hown rfl
    have hnx : stepB l i = (rightO (nd l i).op && ((findN l i (nd l i).id).isNone && (decide ((nd l i).past = pastL l i (nd l i).op.parents) && turnB l i (nd l i).op (nd l i).past))) := by
      unfold stepB
      rw [← hok, Bool.true_and]
    (refine aw_plan [] [] [0, 1, 2, 3, 4, 5, 6, 7, 8, 9, 10, 11, 12, 13, 14, 15, 16, 17, 18, 19, 20, 21, 22, 23, 24, 25, 26, 27, 28, 29, 30, 31, 32, 33, 34, 35, 36, 37, 38, 39, 40, 41, 42, 43, 44, 45] 46 0 (by kernel_rfl) (by kernel_rfl) (by kernel_rfl) (fun K hK => ?_)); simp only [sel, List.getElem?_cons_succ, List.getElem?_cons_zero, List.drop_succ_cons, List.drop_zero]; simp (disch := first | omega | (simp only [lnS]; try omega; done)) [-getElem?_pos, -getElem?_neg, q0, q3, q4, q5, hsl, -xslice, -xindexAddr, hx, hbb2, co, ci, cq, -notTuple, hnt, hvc, t1, t2, s1, s2, nt_intG, nt_ptrG, nt_aggG, PL_nil, plainB_lit, PL_cons, PLc_val, PLc_new, stepP_t, stepP_f, stepPC_n, stepPC_s, stepPX_s, stepPX_n, stepPV_n, stepPV_s, stepPA_t, stepPA_c, stepPA_l, stepPN_s, allocOp, reloc_sl, reloc_ptr, List.map_cons, List.map_nil, List.nil_append, List.append_assoc, List.cons_append, Nat.add_assoc]
    refine PLc_call (v := .bool (refO (nd l i).op)) (by kernel_rfl) (fun L hL => rRight_rc (hC2.op.low (fun j hj => hget_left hj)) hxw.op) (by simp [pv_iv, pv_int, pv_bool, pv_string, pv_tup2, pv_tup3, iv_plain, p2_int, p2_bool, p2_string]) ?_
    have hri : (iv .u8 (nd l i).id).length = 32 := by rw [iv_length, hxw.id.1]
    have hqn := val_nt hC2.past
    rw [refO_eq]
    cases k1 : rightO (nd l i).op with
    | false =>
      simp (disch := first | omega | (simp only [lnS]; try omega; done)) [-getElem?_pos, -getElem?_neg, PL_nil, plainB_lit, PL_cons, PLc_val, PLc_new, stepP_t, stepP_f, stepPC_n, stepPC_s, stepPX_s, stepPX_n, stepPV_n, stepPV_s, stepPA_t, stepPA_c, stepPA_l, stepPN_s, allocOp, reloc_sl, reloc_ptr, List.map_cons, List.map_nil, List.nil_append, List.append_assoc, List.cons_append, Nat.add_assoc]
      refine hK _ _ ?_; clear hK K
      exact ⟨by rw [hnx]; simp [k1, put_at], by (first | (simp [put_at, put_none, fr0_at, q0]; done) | rfl), by (first | (simp [put_at, put_none, fr0_at, q3]; done) | rfl), rfl⟩
    | true =>
    simp (disch := first | omega | (simp only [lnS]; try omega; done)) [-getElem?_pos, -getElem?_neg, q0, q3, q4, q5, hsl, -xslice, -xindexAddr, hx, hbb2, co, ci, cq, -notTuple, hnt, hvc, t1, t2, s1, s2, nt_intG, nt_ptrG, nt_aggG, hri, PL_nil, plainB_lit, PL_cons, PLc_val, PLc_new, stepP_t, stepP_f, stepPC_n, stepPC_s, stepPX_s, stepPX_n, stepPV_n, stepPV_s, stepPA_t, stepPA_c, stepPA_l, stepPN_s, allocOp, reloc_sl, reloc_ptr, List.map_cons, List.map_nil, List.nil_append, List.append_assoc, List.cons_append, Nat.add_assoc]
    have hfi : ∀ L : AH, AC Try.prog (G2 ++ L).length γ 14 #[tv, .agg (iv .u8 (nd l i).id).toArray] (G2 ++ L) (fun v' _ => v' = .int .i64 (findI l i (nd l i).id)) := fun L => by
      have := rFind_rc (γ := γ) (hTG2.lowG (Low.push (Nat.le_refl _) L)) (by rw [htl]; simp only [maxLen]; omega) hxw.id.1
      rw [htl] at this
      unfold findI at this ⊢
      rwa [find_congr take_nd] at this
    refine PLc_call (v := .int .i64 (findI l i (nd l i).id)) (by kernel_rfl) (fun L hL => hfi L) (by simp [pv_iv, pv_int, pv_bool, pv_string, pv_tup2, pv_tup3, iv_plain, p2_int, p2_bool, p2_string]) ?_
    unfold findI
    cases k2 : findN l i (nd l i).id with
    | some a =>
      have ha := findN_lt k2
      simp (disch := first | omega | (simp only [lnS]; try omega; done)) [-getElem?_pos, -getElem?_neg, q0, q3, q4, q5, hsl, -xslice, -xindexAddr, hx, hbb2, co, ci, cq, -notTuple, hnt, hvc, t1, t2, s1, s2, nt_intG, nt_ptrG, nt_aggG, hri, PL_nil, plainB_lit, PL_cons, PLc_val, PLc_new, stepP_t, stepP_f, stepPC_n, stepPC_s, stepPX_s, stepPX_n, stepPV_n, stepPV_s, stepPA_t, stepPA_c, stepPA_l, stepPN_s, allocOp, reloc_sl, reloc_ptr, List.map_cons, List.map_nil, List.nil_append, List.append_assoc, List.cons_append, Nat.add_assoc]
      refine hK _ _ ?_; clear hK K
      exact ⟨by rw [hnx]; simp [k1, k2, put_at], by (first | (simp [put_at, put_none, fr0_at, q0]; done) | rfl), by (first | (simp [put_at, put_none, fr0_at, q3]; done) | rfl), rfl⟩
    | none =>
    simp (disch := first | omega | (simp only [lnS]; try omega; done)) [-getElem?_pos, -getElem?_neg, q0, q3, q4, q5, hsl, -xslice, -xindexAddr, hx, hbb2, co, ci, cq, -notTuple, hnt, hvc, t1, t2, s1, s2, nt_intG, nt_ptrG, nt_aggG, hri, hqn.1, hqn.2, PL_nil, plainB_lit, PL_cons, PLc_val, PLc_new, stepP_t, stepP_f, stepPC_n, stepPC_s, stepPX_s, stepPX_n, stepPV_n, stepPV_s, stepPA_t, stepPA_c, stepPA_l, stepPN_s, allocOp, reloc_sl, reloc_ptr, List.map_cons, List.map_nil, List.nil_append, List.append_assoc, List.cons_append, Nat.add_assoc]
    have hIP := own_inv ho
    have hpl := pastL_length l i (nd l i).op.parents
    refine PLc_call (v := .bool (decide (pastL l i (nd l i).op.parents = (nd l i).past))) (by kernel_rfl) (fun L hL => sameInts_rc (hIP.lowG (Low.push (Nat.le_refl _) L)) (hC2.past.lowG (Low.push (Nat.le_refl _) L)) (by simp only [maxLen]; omega)) (by simp [pv_iv, pv_int, pv_bool, pv_string, pv_tup2, pv_tup3, iv_plain, p2_int, p2_bool, p2_string]) ?_
    by_cases k3 : pastL l i (nd l i).op.parents = (nd l i).past
    case neg =>
      have k3' : ¬ (nd l i).past = pastL l i (nd l i).op.parents := fun e => k3 e.symm
      simp (disch := first | omega | (simp only [lnS]; try omega; done)) [-getElem?_pos, -getElem?_neg, q0, q3, q4, q5, hsl, -xslice, -xindexAddr, hx, hbb2, co, ci, cq, -notTuple, hnt, hvc, t1, t2, s1, s2, nt_intG, nt_ptrG, nt_aggG, hri, hqn.1, hqn.2, k3, PL_nil, plainB_lit, PL_cons, PLc_val, PLc_new, stepP_t, stepP_f, stepPC_n, stepPC_s, stepPX_s, stepPX_n, stepPV_n, stepPV_s, stepPA_t, stepPA_c, stepPA_l, stepPN_s, allocOp, reloc_sl, reloc_ptr, List.map_cons, List.map_nil, List.nil_append, List.append_assoc, List.cons_append, Nat.add_assoc]
      refine hK _ _ ?_; clear hK K
      exact ⟨by rw [hnx]; simp [k1, k2, k3', put_at], by (first | (simp [put_at, put_none, fr0_at, q0]; done) | rfl), by (first | (simp [put_at, put_none, fr0_at, q3]; done) | rfl), rfl⟩
    have k3' : (nd l i).past = pastL l i (nd l i).op.parents := k3.symm
    simp (disch := first | omega | (simp only [lnS]; try omega; done)) [-getElem?_pos, -getElem?_neg, q0, q3, q4, q5, hsl, -xslice, -xindexAddr, hx, hbb2, co, ci, cq, -notTuple, hnt, hvc, t1, t2, s1, s2, nt_intG, nt_ptrG, nt_aggG, hri, hqn.1, hqn.2, k3, PL_nil, plainB_lit, PL_cons, PLc_val, PLc_new, stepP_t, stepP_f, stepPC_n, stepPC_s, stepPX_s, stepPX_n, stepPV_n, stepPV_s, stepPA_t, stepPA_c, stepPA_l, stepPN_s, allocOp, reloc_sl, reloc_ptr, List.map_cons, List.map_nil, List.nil_append, List.append_assoc, List.cons_append, Nat.add_assoc]
    have htu : ∀ L : AH, AC Try.prog (G2 ++ L).length γ 32 #[tv, .agg ((us.drop 32).take 71).toArray, sv] (G2 ++ L) (fun v' _ => v' = .bool (turnB l i (nd l i).op (pastL l i (nd l i).op.parents))) := fun L => by
      have := turn_rc (γ := γ) (hTG2.lowG (Low.push (Nat.le_refl _) L)) (by omega) (hC2.op.low (fun j hj => hget_left hj)) hxw.op (hIP.lowG (Low.push (Nat.le_refl _) L)) (by simp only [maxLen]; omega)
      rw [htl] at this
      rwa [turnB_congr take_nd] at this
    refine PLc_call (v := .bool (turnB l i (nd l i).op (pastL l i (nd l i).op.parents))) (by kernel_rfl) (fun L hL => htu L) (by simp [pv_iv, pv_int, pv_bool, pv_string, pv_tup2, pv_tup3, iv_plain, p2_int, p2_bool, p2_string]) ?_
    rw [← k3']
    cases k4 : turnB l i (nd l i).op (nd l i).past with
    | false =>
      simp (disch := first | omega | (simp only [lnS]; try omega; done)) [-getElem?_pos, -getElem?_neg, PL_nil, plainB_lit, PL_cons, PLc_val, PLc_new, stepP_t, stepP_f, stepPC_n, stepPC_s, stepPX_s, stepPX_n, stepPV_n, stepPV_s, stepPA_t, stepPA_c, stepPA_l, stepPN_s, allocOp, reloc_sl, reloc_ptr, List.map_cons, List.map_nil, List.nil_append, List.append_assoc, List.cons_append, Nat.add_assoc]
      refine hK _ _ ?_; clear hK K
      exact ⟨by rw [hnx]; simp [k1, k2, ← k3', k4, put_at], by (first | (simp [put_at, put_none, fr0_at, q0]; done) | rfl), by (first | (simp [put_at, put_none, fr0_at, q3]; done) | rfl), rfl⟩
    | true =>
      simp (disch := first | omega | (simp only [lnS]; try omega; done)) [-getElem?_pos, -getElem?_neg, PL_nil, plainB_lit, PL_cons, PLc_val, PLc_new, stepP_t, stepP_f, stepPC_n, stepPC_s, stepPX_s, stepPX_n, stepPV_n, stepPV_s, stepPA_t, stepPA_c, stepPA_l, stepPN_s, allocOp, reloc_sl, reloc_ptr, List.map_cons, List.map_nil, List.nil_append, List.append_assoc, List.cons_append, Nat.add_assoc]
      refine hK _ _ ?_; clear hK K
      exact ⟨by rw [hnx]; simp [k1, k2, ← k3', k4, put_at], by (first | (simp [put_at, put_none, fr0_at, q0]; done) | rfl), by (first | (simp [put_at, put_none, fr0_at, q3]; done) | rfl), rfl⟩
  clear q0 q3 q4 q5
  rintro α G3 ⟨q73, q0, q3, rfl⟩
  cases hst : stepB l i with
  | false =>
    rw [hst] at q73
    refine aw_t (by (first | (simp [eval_tmp, put_at, q73]; done) | (simp [eval_tmp, put_at, q73]; omega))) (by kernel_rfl) ?_
    refine aw_seq ?_
    (refine aw_ops (by kernel_rfl) (fun K hK => ?_); simp (disch := first | omega | (simp only [lnS]; try omega; done)) [-getElem?_pos, -getElem?_neg]; refine hK _ _ ?_; clear hK K)
    (refine aw_ret ?_; simp (disch := first | omega | (simp only [lnS]; try omega; done)) [-getElem?_pos, -getElem?_neg, thenQ_ret, scopeQ_ret, inBlockQ_ret, RQ, resL, resV])
    rw [hbad hst]
  | true =>
    rw [hst] at q73
    refine aw_f (by (first | (simp [eval_tmp, put_at, q73]; done) | (simp [eval_tmp, put_at, q73]; omega))) (by kernel_rfl) ?_
    refine aw_skip ?_
    (refine aw_ops (by kernel_rfl) (fun K hK => ?_); simp (disch := first | omega | (simp only [lnS]; try omega; done)) [-getElem?_pos, -getElem?_neg, q3]; refine hK _ _ ?_; clear hK K)
    refine ⟨c - 1, by omega, i + 1, by omega, by (first | (simp [put_at, put_none, fr0_at, q0]; done) | rfl), by (first | (simp [put_at, put_none, fr0_at]; done) | rfl), hlow2, fun k hk => ?_⟩
    by_cases e : k = i
    · subst e; exact hst
    · exact hpre k (by omega)
end
end Go.Proofs.Ytcbfbmdglhlbmaa
