/-
  deep.Nodes: a graph, copied into new memory.
  The reference: Great.
  Keys in order: the comparison is the order of lists; sorted lists are told by their members.
  cabalref11.Right: what it asks of an operation.
  What holds of right graphs: pasts, authors, heads.
  cabalref15.Right: is it a graph?
  Keys sorted: the insertion sort of the library, for at most twelve of them.
  graph.Heads.
  cabalref15.Heads.
  Boxes, compared.
  cabalref11.SameOp: are two operations the same?
-/
import Derived.Test.YtcbfbmdglhlbmaaMsE
import Derived.Test.YtcbfbmdglhlbmaaMsD
import Derived.Test.YtcbfbmdglhlbmaaMsC
namespace Go.Proofs.Ytcbfbmdglhlbmaa
open Go Go.RowKit
set_option linter.unusedSimpArgs false
set_option linter.unusedVariables false
set_option maxRecDepth 100000
set_option maxHeartbeats 4000000
section
theorem put3 {Z A B : List Value} {q : Value} (hA : A.length = 32) (hB : B.length = 71) (hZ : Z.length = 104) : setR (setR (setR Z 0 A) 32 B) 103 [q] = A ++ (B ++ [q]) := by
  have e1 := setR_frontF Z A (by omega)
  rw [e1]
  have l1 : (Z.drop A.length).length = 72 := by rw [List.length_drop]; omega
  have e2 := setR_right A (Z.drop A.length) B 0 (by omega)
  rw [Nat.add_zero] at e2
  rw [show (32 : Nat) = A.length by omega, e2, setR_frontF _ B (by omega)]
  rw [show (103 : Nat) = A.length + 71 by omega, setR_right A _ [q] 71 (by rw [List.length_append, List.length_drop, l1]; simp; omega)]
  congr 1
  have e3 := setR_right B ((Z.drop A.length).drop B.length) [q] 0 (by rw [List.length_drop, l1]; simp; omega)
  rw [Nat.add_zero] at e3
  rw [show (71 : Nat) = B.length by omega, e3, setR_frontF _ [q] (by rw [List.length_drop, l1]; simp; omega)]
  rw [List.drop_of_length_le (l := (Z.drop A.length).drop B.length) (by rw [List.length_drop, l1]; simp; omega), List.append_nil]
theorem build_node {x : NodeD} {pv wv bv qv : Value} (hw : x.Wf) (h1 : notTuple qv = true) (h2 : qv.cells = #[qv]) : xbuild Try.prog 39 [(0, .agg (iv .u8 x.id).toArray), (1, .agg (opRow x.op pv wv bv).toArray), (2, qv)] = some (.agg (nodeRow x pv wv bv qv).toArray) := by
  have hf : flds Try.prog 39 = some [(24, 0), (37, 32), (34, 103)] := by kernel_rfl
  obtain ⟨z, hz⟩ : ∃ z, zer Try.prog 39 = some z := by
    have : (zer Try.prog 39).isSome = true := by kernel_rfl
    exact Option.isSome_iff_exists.1 this
  have hzl : z.cells.toList.length = 104 := by
    have : (zer Try.prog 39).map (fun z => z.cells.toList.length) = some 104 := by kernel_rfl
    rw [hz] at this
    simpa using this
  have hzp : z.cells.toList.all plain1 = true := by
    have : (zer Try.prog 39).map (fun z => z.cells.toList.all plain1) = some true := by kernel_rfl
    rw [hz] at this
    simpa using this
  have s1 : szt Try.prog 24 = 32 := by kernel_rfl
  have s2 : szt Try.prog 37 = 71 := by kernel_rfl
  have s3 : szt Try.prog 34 = 1 := by kernel_rfl
  have hA : (iv .u8 x.id).length = 32 := by rw [iv_length]; exact hw.id.1
  have hB := opRow_len hw.op pv wv bv
  have hp := put3 (q := qv) hA hB hzl
  unfold xbuild
  simp only [hf, hz]
  rw [if_pos ⟨by simp [s1, s2, s3], hzp, by simp only [List.all_cons, List.all_nil, h1, Bool.and_true]; rfl⟩]
  generalize z.cells.toList = Z at *
  unfold nodeRow
  generalize iv .u8 x.id = A at *
  generalize opRow x.op pv wv bv = B at *
  have c1 : (Value.agg A.toArray).cells = A.toArray := rfl
  have c2 : (Value.agg B.toArray).cells = B.toArray := rfl
  simp only [xfill, List.getElem?_cons_zero, List.getElem?_cons_succ, Option.map_some, s1, s2, s3, c1, c2, h2]
  rw [if_pos ⟨by simp [hA], by simp; omega⟩]
  rw [if_pos ⟨by simp [hB], by simp; omega⟩]
  rw [if_pos ⟨by simp, by simp; omega⟩]
  rw [hp]
def nodeN (pv wv bv qv : Value) : Nat := 2 + opN pv wv bv + clN qv
def SmN (x : NodeD) : Prop := SmO x.op ∧ x.past.length ≤ 1000
/-- A copied node's row. -/
def nodeCp (x : NodeD) (pv wv bv qv : Value) (n : Nat) : List Value := nodeRow x (opP pv (n + 2)) (opW pv wv (n + 2)) (opB pv wv bv (n + 2)) (clV qv (n + 2 + opN pv wv bv))
def DeepN (H : AH) (x : NodeD) (pv wv bv qv : Value) (v' : Value) (H' : AH) : Prop :=
  v' = .agg (nodeCp x pv wv bv qv H.length).toArray ∧ H'.length = H.length + nodeN pv wv bv qv ∧ Low H.length H H' ∧ ∀ G, KeepN H.length H' G → ValL G x.row (nodeCp x pv wv bv qv H.length)
theorem KeepN.trans {n : Nat} {A B C : AH} (h : KeepN n A B) (k : KeepN n B C) (hl : A.length ≤ B.length) : KeepN n A C := fun j h1 h2 => (k j h1 (by omega)).trans (h j h1 h2)
theorem opRow_off {x : NodeD} (hw : x.Wf) (pv wv bv qv : Value) : (nodeRow x pv wv bv qv).take 32 = iv .u8 x.id ∧ ((nodeRow x pv wv bv qv).drop 32).take 71 = opRow x.op pv wv bv ∧ (nodeRow x pv wv bv qv)[103]? = some qv := by
  have hA : (iv .u8 x.id).length = 32 := by rw [iv_length]; exact hw.id.1
  have hB := opRow_len hw.op pv wv bv
  unfold nodeRow
  refine ⟨?_, ?_, ?_⟩
  · rw [List.take_append_of_le_length (by omega), List.take_of_length_le (by omega)]
  · rw [List.drop_append_of_le_length (by omega), List.drop_of_length_le (by omega), List.nil_append, List.take_append_of_le_length (by omega), List.take_of_length_le (by omega)]
  · rw [List.getElem?_append_right (by omega), List.getElem?_append_right (by omega), hA, hB]
    rfl
attribute [local simp] wb_bool wb_undef with_lit XL_nil XL_cons XLc_val XLc_call step1_eq stepW_t stepW_f stepC_n stepC_s stepX_s stepX_n stepN_s calleeX oneV xop_eq xopR_s xopR_n wantedA_eq wantedG_n wantedG_s plain1_int plain1_bool plain1_string bits_i64 bits_u64 bits_u32 bits_u16 bits_u8 xeqA xagg xcmp xarr allK_iv num_iv calleeOf xread xeff xbin xint xnil xun xstr xload xconv xpart xfield xfieldAddr xindexAddr xindex bnd asInt? xslice xlen xmin xmax xbuild xfill xappend xapp2 xappstr xappmk xcap xcopy xcells eval_tmp eval_const put_at put_none fr0_at cells_agg cells_int cells_bool cells_string cells_ptr cells_slice notTuple tab iv_all hget_app hget_app0 hget_cons0 hget_cons set_app set_app0 setR setR_one QL_nil QL_cons QLc_val stepQ_t stepQ_f stepQC_n stepQC_s stepQX_s SL_nil SL_cons SLc_val stepS_t stepS_f ltT ltF leT leF eqT eqF ltTn ltFn leTn leFn eqTn eqFn beqT beqF bneT bneF wi64 wu64 wu32 wu16 wu8 tmodP tdivP hgetL hgetNe hgetEq setL nums_def nums_len Nat.succ_le_of_lt List.getElem?_cons_zero List.getElem?_cons_succ Option.getD_some Int.toNat_add Int.toNat_mul agM okM agB agI agS agP agL agA okB okI okS okP okSl okA
theorem nodes1_ac {nro : Nat} {γ : Nat → Option Nat} {H : AH} {us : List Value} {x : NodeD} {pv wv bv qv : Value} (h : NodeC H us x pv wv bv qv) (hw : x.Wf) (hs : SmN x) (hnro : nro ≤ H.length) : AC Try.prog nro γ 72 #[.agg us.toArray] H (DeepN H x pv wv bv qv) := by
  have hrow := h.row hw
  have hul := h.len
  obtain ⟨q1, q2, q3⟩ := opRow_off hw pv wv bv qv
  rw [← hrow] at q1 q2 q3
  have hivl : (iv .u8 x.id).length = 32 := by rw [iv_length]; exact hw.id.1
  have hopl := opRow_len hw.op pv wv bv
  have hQ := h.past
  have nq := val_nt hQ
  have nq' := clV_nt hQ (H.length + 2 + opN pv wv bv)
  have hbl := build_node (pv := opP pv (H.length + 2)) (wv := opW pv wv (H.length + 2)) (bv := opB pv wv bv (H.length + 2)) hw nq'.1 nq'.2
  have hopC : ∀ G : AH, Low H.length H G → OpC G (opRow x.op pv wv bv) x.op pv wv bv := fun G hG => by
    have := h.op.low hG.1
    rwa [q2] at this
  have hr3l := nodeRow_len hw (opP pv (H.length + 2)) (opW pv wv (H.length + 2)) (opB pv wv bv (H.length + 2)) (clV qv (H.length + 2 + opN pv wv bv))
  obtain ⟨R, hR⟩ : ∃ R, R = nodeRow x (opP pv (H.length + 2)) (opW pv wv (H.length + 2)) (opB pv wv bv (H.length + 2)) (clV qv (H.length + 2 + opN pv wv bv)) := ⟨_, rfl⟩
  rw [← hR] at hbl hr3l
  have hset : ∀ Z : List Value, Z.length = 104 → setR Z 0 R = R := fun Z hZ => setR_all _ _ (by omega)
  have htk : R.take 104 = R := List.take_of_length_le (by omega)
  have hopv : notTuple (.agg (opRow x.op (opP pv (H.length + 2)) (opW pv wv (H.length + 2)) (opB pv wv bv (H.length + 2))).toArray) = true := rfl
  refine ac_of_aw Try.func72 rfl Try.ntmps72 Try.results72 (by simp) ?_
  refine aw_seq ?_
  (refine aw_ops (by kernel_rfl) (fun K hK => ?_); simp (disch := first | omega | (simp only [lnS]; try omega; done)) [-getElem?_pos, -getElem?_neg, hul, nt_aggG, all_zl]; refine hK _ _ ?_; clear hK K)
  obtain ⟨ZZ, hZZ, hZl⟩ : ∃ ZZ : List Value, (iv .u8 (zl 32) ++ Value.int .i64 0 :: .int .u32 0 :: .slice none 0 0 :: .int .i64 0 :: .slice none 0 0 :: (iv .u8 (zl 64) ++ [.string ByteArray.empty, .slice none 0 0, .slice none 0 0])) = ZZ ∧ ZZ.length = 104 := ⟨_, rfl, by simp⟩
  rw [hZZ]
  have hset := hset ZZ hZl
  obtain ⟨G, hG⟩ : ∃ G : AH, G = H ++ [some ⟨us, 39, none⟩, some ⟨ZZ, 39, none⟩] := ⟨_, rfl⟩
  have b1 : hget G H.length = some ⟨us, 39, none⟩ := by rw [hG, hget_app0]; rfl
  have b2 : hget G (H.length + 1) = some ⟨ZZ, 39, none⟩ := by rw [hG, hget_app]; rfl
  have lw : Low H.length H G := hG ▸ Low.push (Nat.le_refl _) _
  have gl : G.length = H.length + 2 := by simp [hG]
  rw [← hG]
  clear hG
  have kO := hopC G lw
  have kQ : InV G qv x.past := CD.Val.low (fun j hj => lw.1 j hj) hQ
  have hcO := deepOp_ac (nro := nro) (γ := γ) kO hw.op hs.1 (by omega)
  unfold DeepO at hcO
  rw [gl] at hcO
  unfold DeepN nodeN nodeCp
  obtain ⟨n, hn⟩ : ∃ n, n = H.length := ⟨_, rfl⟩
  rw [← hR]
  rw [← hn] at lw gl b1 b2 nq' hbl hR hnro hcO ⊢
  obtain ⟨ov, hov⟩ : ∃ ov, ov = opRow x.op (opP pv (n + 2)) (opW pv wv (n + 2)) (opB pv wv bv (n + 2)) := ⟨_, rfl⟩
  rw [← hov] at hcO hbl
  have hcells : R = iv .u8 x.id ++ (ov ++ [clV qv (n + 2 + opN pv wv bv)]) := by rw [hR, hov]; rfl
  refine aw_seq ?_
  obtain ⟨Φ, e0, e1, e2, e3, eS⟩ : ∃ Φ : Nat → AH → Prop, (∀ A, Φ 0 A ↔ A = G) ∧ (∀ A, Φ 1 A ↔ (A.length = n + 2 + opN pv wv bv ∧ Low (n + 2) G A ∧ NewO (n + 2) A x.op (opP pv (n + 2)) (opW pv wv (n + 2)) (opB pv wv bv (n + 2)))) ∧
      (∀ A, Φ 2 A ↔ (A.length = n + 2 + opN pv wv bv + clN qv ∧ Low (n + 2) G A ∧ NewO (n + 2) A x.op (opP pv (n + 2)) (opW pv wv (n + 2)) (opB pv wv bv (n + 2)) ∧ ∃ F, OwnF A (clV qv (n + 2 + opN pv wv bv)) 3 1 (isC x.past) F ∧ ∀ j ∈ F, n + 2 ≤ j)) ∧
      (∀ A, Φ 3 A ↔ ∃ B, Φ 2 B ∧ A = B.set (n + 1) (some ⟨R, 39, none⟩)) ∧ (∀ s A, Φ s A → hget A n = hget G n) := by
    refine ⟨fun s A => match s with
      | 0 => A = G
      | 1 => A.length = n + 2 + opN pv wv bv ∧ Low (n + 2) G A ∧ NewO (n + 2) A x.op (opP pv (n + 2)) (opW pv wv (n + 2)) (opB pv wv bv (n + 2))
      | 2 => A.length = n + 2 + opN pv wv bv + clN qv ∧ Low (n + 2) G A ∧ NewO (n + 2) A x.op (opP pv (n + 2)) (opW pv wv (n + 2)) (opB pv wv bv (n + 2)) ∧ ∃ F, OwnF A (clV qv (n + 2 + opN pv wv bv)) 3 1 (isC x.past) F ∧ ∀ j ∈ F, n + 2 ≤ j
      | _ => ∃ B : AH, (B.length = n + 2 + opN pv wv bv + clN qv ∧ Low (n + 2) G B ∧ NewO (n + 2) B x.op (opP pv (n + 2)) (opW pv wv (n + 2)) (opB pv wv bv (n + 2)) ∧ ∃ F, OwnF B (clV qv (n + 2 + opN pv wv bv)) 3 1 (isC x.past) F ∧ ∀ j ∈ F, n + 2 ≤ j) ∧ A = B.set (n + 1) (some ⟨R, 39, none⟩), fun _ => Iff.rfl, fun _ => Iff.rfl, fun _ => Iff.rfl, fun _ => Iff.rfl, fun s A h => ?_⟩
    match s, h with
    | 0, h => cases h; rfl
    | 1, h => exact h.2.1.1 n (by omega)
    | 2, h => exact h.2.1.1 n (by omega)
    | s + 3, ⟨B, h, hA⟩ => rw [hA, hget_set_ne (by omega)]; exact h.2.1.1 n (by omega)
  refine aw_chain (fun j => j == n) Φ (by kernel_rfl) (by kernel_rfl) (by kernel_rfl) (fun s A h j hj => by
    have e : j = n := by simpa using hj
    rw [e]; exact eS s A h) ((e0 _).2 rfl) (fun K hK => ?_)
  simp (disch := first | omega | (simp only [lnS]; try omega; done)) [-getElem?_pos, -getElem?_neg, b1, hul, q1, q2, q3, hivl, hopl, -notTuple, nq.1, nq.2, nt_aggG, CL_nil, CL_cons, CLc_val, CLc_skip, memS, inS, inSp, isCallF, effF]
  refine CLc_call (v := .agg ov.toArray) (by kernel_rfl) (fun A hA => ?_) ?_
  · obtain rfl := (e0 _).1 hA
    exact hcO.mono fun v' A' h => ⟨h.1, (e1 _).2 ⟨h.2.1, h.2.2.1, h.2.2.2⟩⟩
  try simp (disch := first | omega | (simp only [lnS]; try omega; done)) [-getElem?_pos, -getElem?_neg, b1, hul, q1, q2, q3, hivl, hopl, -notTuple, nq.1, nq.2, nt_aggG, CL_nil, CL_cons, CLc_val, CLc_skip, memS, inS, inSp, isCallF, effF]
  refine CLc_call (v := clV qv (n + 2 + opN pv wv bv)) (by kernel_rfl) (fun A hA => ?_) ?_
  · obtain ⟨g1, g2, g3⟩ := (e1 _).1 hA
    have kQ2 : InV A qv x.past := CD.Val.low (fun j hj => g2.1 j (by omega)) kQ
    refine (cloneI_ac (nro := nro) (γ := γ) kQ2 (by omega) (by have := hs.2; omega)).mono ?_
    rintro v' A' ⟨h1, h2, h3, F, h4, h5⟩
    rw [g1] at h1 h2 h3 h5
    refine ⟨h1, (e2 _).2 ⟨h2, ⟨fun j hj => (h3.1 j (by omega)).trans (g2.1 j hj), by have := h3.2; omega⟩, fun B hB => g3 B (KeepN.trans (fun j _ hj => h3.1 j (by omega)) hB (by have := h3.2; omega)), F, by rw [← h1]; exact h4, fun j hj => by have := h5 j hj; omega⟩⟩
  try simp (disch := first | omega | (simp only [lnS]; try omega; done)) [-getElem?_pos, -getElem?_neg, b1, hul, q1, q2, q3, hivl, hopl, -notTuple, nq'.1, nq'.2, nt_aggG, -xbuild, hbl, CL_nil, CL_cons, CLc_val, CLc_skip, memS, inS, inSp, isCallF, effF]
  refine CLc_eff (v := undef) (fun A hA => ?_) ?_
  · have hA2 := hA
    obtain ⟨g1, g2, g3, F, g4, g5⟩ := (e2 _).1 hA2
    have c2 : hget A (n + 1) = some ⟨ZZ, 39, none⟩ := (g2.1 (n + 1) (by omega)).trans b2
    refine ⟨_, ?_, (e3 _).2 ⟨A, hA, rfl⟩⟩
    simp (disch := first | omega | (simp only [lnS]; try omega; done)) [-getElem?_pos, -getElem?_neg, c2, hZl, hset, hr3l, nt_aggG]
  try simp (disch := first | omega | (simp only [lnS]; try omega; done)) [-getElem?_pos, -getElem?_neg, CL_nil, CL_cons, CLc_val, CLc_skip, memS, inS, inSp, isCallF, effF]
  intro A hA
  obtain ⟨B, hB, rfl⟩ := (e3 _).1 hA
  obtain ⟨g1, g2, g3, F, g4, g5⟩ := (e2 _).1 hB
  have hFl := g4.lt
  have c2 : hget B (n + 1) = some ⟨ZZ, 39, none⟩ := (g2.1 (n + 1) (by omega)).trans b2
  have z1 : hget (B.set (n + 1) (some ⟨R, 39, none⟩)) (n + 1) = some ⟨R, 39, none⟩ := hget_set_eq (hget_lt c2)
  have z2 : ∀ j, j ≠ n + 1 → hget (B.set (n + 1) (some ⟨R, 39, none⟩)) j = hget B j := fun j hj => hget_set_ne (fun e => hj e.symm)
  have z3 : (B.set (n + 1) (some ⟨R, 39, none⟩)).length = B.length := by rw [List.length_set]
  generalize B.set (n + 1) (some ⟨R, 39, none⟩) = C at *
  refine hK _ _ ?_; clear hK K
  (refine aw_ret ?_; simp (disch := first | omega | (simp only [lnS]; try omega; done)) [-getElem?_pos, -getElem?_neg, thenQ_ret, scopeQ_ret, inBlockQ_ret, RQ, resL, resV, z1, hr3l, htk])
  refine ⟨⟨fun j hj => (z2 j (by omega)).trans ((g2.1 j (by omega)).trans (lw.1 j hj)), by have := lw.2; omega⟩, fun D hD => ?_⟩
  rw [hR]
  obtain ⟨k1, k2, k3⟩ := g3 D (fun j h1 h2 => (hD j (by omega) (by omega)).trans (z2 j (by omega)))
  have g4 := g4.low (H' := D) (fun j hj => (hD j (by have := g5 j hj; omega) (by have := hFl j hj; omega)).trans (z2 j (by have := g5 j hj; omega)))
  exact node_val k1 k2 k3 (own_val (by omega) g4 (int_len _) (int_flat _))
theorem nodes1_callable : callable Try.prog 72 = true := by kernel_rfl
/-- Rows of new memory that show nodes. -/
def NewRows (n : Nat) (H : AH) (R : List (List Value)) (l : List NodeD) : Prop := R.length = l.length ∧ ∀ (k : Nat) (us : List Value) (x : NodeD), R[k]? = some us → l[k]? = some x → us.length = 104 ∧ ∀ G, KeepN n H G → ValL G x.row us
theorem NewRows.keep {n : Nat} {H G : AH} {R : List (List Value)} {l : List NodeD} (h : NewRows n H R l) (hk : KeepN n H G) (hl : H.length ≤ G.length) : NewRows n G R l :=
  ⟨h.1, fun k us x h1 h2 => ⟨(h.2 k us x h1 h2).1, fun B hB => (h.2 k us x h1 h2).2 B (hk.trans hB hl)⟩⟩
theorem row_put {R : List (List Value)} {Z us : List Value} {i : Nat} (hR : ∀ r ∈ R, r.length = 104) (hl : R.length = i) (hu : us.length = 104) (hZ : 104 ≤ Z.length) : setR (R.flatten ++ Z) (i * 104) us = (R ++ [us]).flatten ++ Z.drop 104 := by
  have hfl := fl_len hR
  rw [hl] at hfl
  have e := setR_right R.flatten Z us 0 (by omega)
  rw [Nat.add_zero, hfl] at e
  rw [e, setR_frontF _ _ (by omega), hu, List.flatten_append]
  simp
theorem NewRows.len {n : Nat} {H : AH} {R : List (List Value)} {l : List NodeD} (h : NewRows n H R l) : ∀ r ∈ R, r.length = 104 := fun r hr => by
  obtain ⟨k, hk⟩ := List.getElem?_of_mem hr
  have hkl := (List.getElem?_eq_some_iff.1 hk).1
  have := h.1
  exact (h.2 k r _ hk (List.getElem?_eq_getElem (show k < l.length by omega))).1
theorem NewRows.push {n : Nat} {H : AH} {R : List (List Value)} {l : List NodeD} {us : List Value} {x : NodeD} (h : NewRows n H R l) (h1 : us.length = 104) (h2 : ∀ G, KeepN n H G → ValL G x.row us) : NewRows n H (R ++ [us]) (l ++ [x]) := by
  have hl := h.1
  refine ⟨by simp [hl], fun k r y hr hy => ?_⟩
  rcases Nat.lt_or_ge k R.length with hk | hk
  · rw [List.getElem?_append_left hk] at hr
    rw [List.getElem?_append_left (by omega)] at hy
    exact h.2 k r y hr hy
  · rw [List.getElem?_append_right hk] at hr
    rw [List.getElem?_append_right (by omega)] at hy
    rw [hl] at hr
    match k - l.length, hr, hy with
    | 0, hr, hy => cases hr; cases hy; exact ⟨h1, h2⟩
theorem node_row_len {x : NodeD} (hw : x.Wf) : x.row.length = 104 := by
  have h1 := hw.id.1
  have h2 := hw.op.of.1
  have h3 := hw.op.check.1
  simp [NodeD.row, OpD.row, kd, h1, h2, h3]
/-- Rows that show nodes make a slice of them. -/
theorem rows_val {D : AH} {b : Nat} {T : TypeId} {es : Option Nat} {R : List (List Value)} {L : List NodeD} (hb : hget D b = some ⟨R.flatten, T, es⟩) (hl : R.length = L.length) (hw : ∀ x ∈ L, x.Wf) (h : ∀ (k : Nat) (us : List Value) (x : NodeD), R[k]? = some us → L[k]? = some x → us.length = 104 ∧ ValL D x.row us) : NdV D (.slice (some ⟨b, 0, none⟩) L.length L.length) L := by
  have hR : ∀ r ∈ R, r.length = 104 := fun r hr => by
    obtain ⟨k, hk⟩ := List.getElem?_of_mem hr
    have hkl := (List.getElem?_eq_some_iff.1 hk).1
    exact (h k r _ hk (List.getElem?_eq_getElem (show k < L.length by omega))).1
  have := CD.Val.sl (H := D) (sz := 104) (rows := L.map NodeD.row) hb (by rw [List.length_map]; show _ ≤ R.flatten.length; rw [fl_len hR, hl]; exact Nat.le_refl _) (fun row hr => by
    obtain ⟨x, hx, rfl⟩ := List.mem_map.1 hr
    exact node_row_len (hw x hx)) (fun i row c d v hi hc hv => by
    rw [List.getElem?_map] at hi
    cases hx : L[i]? with
    | none => rw [hx] at hi; cases hi
    | some x =>
      rw [hx] at hi
      cases hi
      have hil := (List.getElem?_eq_some_iff.1 hx).1
      obtain ⟨us, hus⟩ : ∃ us, R[i]? = some us := ⟨_, List.getElem?_eq_getElem (by omega)⟩
      obtain ⟨h1, h2⟩ := h i us x hus hx
      have hcl := (List.getElem?_eq_some_iff.1 hc).1
      have h2l := h2.1
      obtain ⟨u, hu⟩ : ∃ u, us[c]? = some u := ⟨_, List.getElem?_eq_getElem (by omega)⟩
      have hat := fl_at hR hus hu
      have hv' : R.flatten[i * 104 + c]? = some v := hv
      rw [hat] at hv'
      cases hv'
      exact h2.2 c d _ hc hu)
  rw [List.length_map] at this
  exact this
theorem each_ac {nro : Nat} {γ : Nat → Option Nat} {H : AH} {nv : Value} {l : List NodeD} (hN : NdA H nv l) (hl : l.length ≤ 1000) (hs : ∀ x ∈ l, SmN x) (hnro : nro ≤ H.length) (hcal : callable Try.prog 72 = true) :
    ∃ N : Nat, AC Try.prog nro γ 71 #[nv, .func (.func 72) #[] #[]] H (fun v' H' => v' = .slice (some ⟨H.length, 0, none⟩) l.length l.length ∧ H'.length = N ∧ Low H.length H H' ∧ ∃ R, NewRows (H.length + 1) H' R l ∧ hget H' H.length = some ⟨R.flatten, 39, some 104⟩) := by
  have hN' := hN
  obtain ⟨hnt, hvc, hxl, hwf, hat⟩ := hN
  obtain ⟨c, hc⟩ := Classical.skolem.1 (fun i : Nat => show ∃ N : Nat, ∀ x, l[i]? = some x → ∃ j q b us pv wv bv qv, xindexAddr Try.prog 22 nv (.int .i64 (i : Nat)) = some (.pointer (some ⟨j, q, none⟩)) ∧ hget H j = some b ∧ q + 104 ≤ b.cells.length ∧ us = (b.cells.drop q).take 104 ∧ NodeC H us x pv wv bv qv ∧ nodeN pv wv bv qv = N from by
    cases hi : l[i]? with
    | none => exact ⟨0, fun x hx => by cases hx⟩
    | some x =>
      obtain ⟨j, q, b, us, pv, wv, bv, qv, h1, h2, h3, h4, h5, h6⟩ := hat i x hi
      exact ⟨nodeN pv wv bv qv, fun y hy => by cases hy; exact ⟨j, q, b, us, pv, wv, bv, qv, h1, h2, h3, h5, h6, rfl⟩⟩)
  have hm63 : l.length ≤ 9223372036854775807 := by omega
  have hfn : notTuple (.func (.func 72) #[] #[]) = true := rfl
  have hfc : (Value.func (.func 72) #[] #[]).cells = #[.func (.func 72) #[] #[]] := rfl
  refine ⟨H.length + 1 + ((List.range l.length).map fun i => c i + 1).sum, ?_⟩
  refine ac_of_aw Try.func71 rfl Try.ntmps71 Try.results71 (by simp) ?_
  refine aw_seq ?_
  (refine aw_ops (by kernel_rfl) (fun K hK => ?_); simp (disch := first | omega | (simp only [lnS]; try omega; done)) [-getElem?_pos, -getElem?_neg]; refine hK _ _ ?_; clear hK K)
  refine aw_seq ?_
  refine aw_ops (by kernel_rfl) (fun K hK => ?_)
  have hlm : l.length ≤ maxLen := by simp only [maxLen]; omega
  have hp0 : plain1 (.slice none 0 0) = true := rfl
  simp (disch := first | omega | (simp only [lnS]; try omega; done)) [-getElem?_pos, -getElem?_neg, -notTuple, hnt, hvc, hfn, hfc, nt_intG, -xlen, hxl, all_zl, hlm, hp0]
  refine hK _ _ ?_; clear hK K
  generalize hZZ : List.map (fun j => (iv .u8 (zl 32) ++ Value.int .i64 0 :: .int .u32 0 :: .slice none 0 0 :: .int .i64 0 :: .slice none 0 0 :: (iv .u8 (zl 64) ++ [.string ByteArray.empty, .slice none 0 0, .slice none 0 0]))[j % 104]?.getD undef) (List.range (l.length * 104)) = ZZ
  have hZl : ZZ.length = l.length * 104 := by rw [← hZZ]; simp
  clear hZZ
  obtain ⟨n, hn⟩ : ∃ n, n = H.length := ⟨_, rfl⟩
  obtain ⟨G0, hG0⟩ : ∃ G : AH, G = H ++ [some ⟨ZZ, 39, some 104⟩] := ⟨_, rfl⟩
  have b0 : hget G0 n = some ⟨ZZ, 39, some 104⟩ := by rw [hG0, hn, hget_app0]; rfl
  have lw0 : Low n H G0 := by rw [hG0, hn]; exact Low.push (Nat.le_refl _) _
  have gl0 : G0.length = n + 1 := by rw [hG0, hn]; simp
  rw [← hG0, ← hn]
  rw [← hn] at hnro
  clear hG0
  refine aw_seq ?_
  refine aw_seq ?_
  (refine aw_ops (by kernel_rfl) (fun K hK => ?_); simp (disch := first | omega | (simp only [lnS]; try omega; done)) [-getElem?_pos, -getElem?_neg, -notTuple, hnt, hvc, nt_intG, -xlen, hxl]; refine hK _ _ ?_; clear hK K)
  refine aw_block ?_
  refine aw_loop (fun q α G => ∃ (i : Nat) (R : List (List Value)), i + q = l.length ∧ α 0 = nv ∧ α 1 = .func (.func 72) #[] #[] ∧ α 5 = .slice (some ⟨n, 0, none⟩) l.length l.length ∧ α 11 = nv ∧ α 12 = .int .i64 (l.length : Nat) ∧ α 13 = .int .i64 (i : Nat) ∧ Low n H G ∧ G.length = n + 1 + ((List.range i).map fun i => c i + 1).sum ∧ hget G n = some ⟨R.flatten ++ ZZ.drop (i * 104), 39, some 104⟩ ∧ NewRows (n + 1) G R (l.take i)) l.length ?_ ?_
  · exact ⟨0, [], by omega, by (first | (simp [put_at, put_none, fr0_at]; done) | rfl), by (first | (simp [put_at, put_none, fr0_at]; done) | rfl), by (first | (simp [put_at, put_none, fr0_at]; done) | rfl), by (first | (simp [put_at, put_none, fr0_at]; done) | rfl), by (first | (simp [put_at, put_none, fr0_at]; done) | rfl), by (first | (simp [put_at, put_none, fr0_at]; done) | rfl), lw0, by simp [gl0], by simpa using b0, ⟨by simp, fun k us x h => by simp at h⟩⟩
  rintro q α G ⟨i, R, hiq, h0, h1, h5, h11, h12, h13, hlow, hgl, hout, hrows⟩
  refine aw_seq ?_
  by_cases hi : i < l.length
  case neg =>
    (refine aw_ops (by kernel_rfl) (fun K hK => ?_); simp (disch := first | omega | (simp only [lnS]; try omega; done)) [-getElem?_pos, -getElem?_neg, h12, h13, hi]; refine hK _ _ ?_; clear hK K)
    refine aw_seq ?_
    refine aw_f (by (first | (simp [eval_tmp, put_at, hi]; done) | (simp [eval_tmp, put_at, hi]; omega))) (by kernel_rfl) ?_
    refine aw_exit ?_
    obtain rfl : i = l.length := by omega
    rw [List.drop_of_length_le (by omega), List.append_nil] at hout
    rw [List.take_length] at hrows
    refine aw_seq ?_
    (refine aw_ops (by kernel_rfl) (fun K hK => ?_); simp (disch := first | omega | (simp only [lnS]; try omega; done)) [-getElem?_pos, -getElem?_neg, h5]; refine hK _ _ ?_; clear hK K)
    (refine aw_ret ?_; simp (disch := first | omega | (simp only [lnS]; try omega; done)) [-getElem?_pos, -getElem?_neg, thenQ_ret, scopeQ_ret, inBlockQ_ret, RQ, resL, resV])
    exact ⟨hlow, R, hrows, hout⟩
  obtain ⟨j, qq, bb, us, pv, wv', bv, qv, hx, hbb, hq, hus, hC, hcn⟩ := hc i _ (nd_get hi)
  have hbG : hget G j = some bb := (hlow.1 j (by have := hget_lt hbb; omega)).trans hbb
  have hul := hC.len
  have hxw := hwf _ (List.mem_of_getElem? (nd_get hi))
  have hxs := hs _ (List.mem_of_getElem? (nd_get hi))
  have hus' := hus.symm
  clear hus
  have hset2 : ∀ Z : List Value, Z.length = 104 → setR Z 0 us = us := fun Z hZ => setR_all _ _ (by omega)
  have hle0 := hlow.2
  have hRl := hrows.1
  rw [List.length_take] at hRl
  have hRl : R.length = i := by omega
  (refine aw_ops (by kernel_rfl) (fun K hK => ?_); simp (disch := first | omega | (simp only [lnS]; try omega; done)) [-getElem?_pos, -getElem?_neg, h12, h13, hi]; refine hK _ _ ?_; clear hK K)
  refine aw_seq ?_
  refine aw_t (by (first | (simp [eval_tmp, put_at, hi]; done) | (simp [eval_tmp, put_at, hi]; omega))) (by kernel_rfl) ?_
  refine aw_skip ?_
  refine aw_seq ?_
  refine aw_block ?_
  refine aw_seq ?_
  (refine aw_ops (by kernel_rfl) (fun K hK => ?_); simp (disch := first | omega | (simp only [lnS]; try omega; done)) [-getElem?_pos, -getElem?_neg, h11, h13, -notTuple, hnt, hvc, nt_intG, nt_aggG, -xindexAddr, hx, hbG, hus', hul, hq, hle0, hp0, all_zl, hset2]; refine hK _ _ ?_; clear hK K)
  obtain ⟨hlow2, hb2⟩ := boxed (H := G) us 39
  have hout2 := hget_left' (L := [some ⟨us, 39, none⟩]) hout
  have hgl2 : (G ++ ([some ⟨us, 39, none⟩] : AH)).length = G.length + 1 := by simp
  obtain ⟨g, hg⟩ : ∃ g, g = G.length := ⟨_, rfl⟩
  rw [← hg] at hb2 hgl2 hlow2 hle0 hgl ⊢
  have hrows := hrows.keep (G := G ++ ([some ⟨us, 39, none⟩] : AH)) (fun j _ hj => hlow2.1 j (by omega)) (by omega)
  generalize G ++ [some ⟨us, 39, none⟩] = G2 at *
  have hlowG2 : Low n H G2 := ⟨fun j hj => (hlow2.1 j (by omega)).trans (hlow.1 j hj), by omega⟩
  have hC2 : NodeC G2 us (nd l i) pv wv' bv qv := hC.low (fun j hj => hlowG2.1 j (by omega))
  have hcn1 := nodes1_ac (nro := nro) (γ := γ) hC2 hxw hxs (by omega)
  have htk : us.take 104 = us := List.take_of_length_le (by omega)
  have hsuc : (List.map (fun i => c i + 1) (List.range (i + 1))).sum = (List.map (fun i => c i + 1) (List.range i)).sum + (c i + 1) := by
    rw [List.range_succ, List.map_append, List.sum_append]
    simp
  have hng : n < g := by omega
  refine aw_ops (by kernel_rfl) (fun K hK => ?_)
  simp (disch := first | omega | (simp only [lnS]; try omega; done)) [-getElem?_pos, -getElem?_neg, h5, h1, -notTuple, hnt, hvc, hfn, hfc, nt_intG, nt_aggG, nt_slG, hb2, hul, htk]
  refine ⟨hcal, hcn1.mono ?_⟩
  rintro v1 G3 ⟨rfl, l1, w1, r1⟩
  rw [hgl2] at l1 w1 r1 ⊢
  have hle3 := w1.2
  have hout3 := (w1.1 n (by omega)).trans hout2
  have hrl := nodeRow_len hxw (opP pv (g + 1 + 2)) (opW pv wv' (g + 1 + 2)) (opB pv wv' bv (g + 1 + 2)) (clV qv (g + 1 + 2 + opN pv wv' bv))
  have hput := row_put (Z := ZZ.drop (i * 104)) (us := nodeCp (nd l i) pv wv' bv qv (g + 1)) hrows.len hRl hrl (by rw [List.length_drop]; omega)
  rw [List.drop_drop, show i * 104 + 104 = (i + 1) * 104 by omega] at hput
  have hrows3 := (hrows.keep (G := G3) (fun j _ hj => w1.1 j (by omega)) (by omega)).push (us := nodeCp (nd l i) pv wv' bv qv (g + 1)) hrl (fun B hB => r1 B (fun j h1 h2 => hB j (by omega) h2))
  have hrl : (nodeCp (nd l i) pv wv' bv qv (g + 1)).length = 104 := hrl
  have hcl : (R.flatten ++ ZZ.drop (i * 104)).length = l.length * 104 := by
    rw [List.length_append, fl_len hrows.len, List.length_drop, hRl]; omega
  generalize nodeCp (nd l i) pv wv' bv qv (g + 1) = us' at *
  generalize hCe : R.flatten ++ ZZ.drop (i * 104) = C at *
  generalize hCe2 : (R ++ [us']).flatten ++ ZZ.drop ((i + 1) * 104) = C' at *
  simp (disch := first | omega | (simp only [lnS]; try omega; done)) [-getElem?_pos, -getElem?_neg, hout3, hcl, hrl, hput, nt_aggG, hi]
  refine hK _ _ ?_; clear hK K
  have z1 : hget (G3.set n (some ⟨C', 39, some 104⟩)) n = some ⟨C', 39, some 104⟩ := hget_set_eq (hget_lt hout3)
  have z2 : ∀ j, j ≠ n → hget (G3.set n (some ⟨C', 39, some 104⟩)) j = hget G3 j := fun j hj => hget_set_ne (fun e => hj e.symm)
  have z3 : (G3.set n (some ⟨C', 39, some 104⟩)).length = G3.length := by rw [List.length_set]
  have hrows4 := hrows3.keep (G := G3.set n (some ⟨C', 39, some 104⟩)) (fun j h1 h2 => z2 j (by omega)) (by omega)
  generalize G3.set n (some ⟨C', 39, some 104⟩) = G4 at *
  have htk2 : l.take i ++ [nd l i] = l.take (i + 1) := by rw [List.take_add_one, nd_get hi]; rfl
  rw [htk2] at hrows4
  subst hCe2
  (refine aw_ops (by kernel_rfl) (fun K hK => ?_); simp (disch := first | omega | (simp only [lnS]; try omega; done)) [-getElem?_pos, -getElem?_neg, h13]; refine hK _ _ ?_; clear hK K)
  exact ⟨q - 1, by omega, i + 1, R ++ [us'], by omega, by (first | (simp [put_at, put_none, fr0_at, h0]; done) | rfl), by (first | (simp [put_at, put_none, fr0_at, h1]; done) | rfl), by (first | (simp [put_at, put_none, fr0_at, h5]; done) | rfl), by (first | (simp [put_at, put_none, fr0_at, h11]; done) | rfl), by (first | (simp [put_at, put_none, fr0_at, h12]; done) | rfl), by (first | (simp [put_at, put_none, fr0_at]; done) | rfl), ⟨fun j hj => (z2 j (by omega)).trans ((w1.1 j (by omega)).trans (hlowG2.1 j hj)), by omega⟩, by rw [hsuc]; omega, z1, hrows4⟩
/-- A graph, copied: its length is fixed. -/
theorem deepNodes_ac {nro : Nat} {γ : Nat → Option Nat} {H : AH} {nv : Value} {l : List NodeD} (hN : NdA H nv l) (hl : l.length ≤ 1000) (hs : ∀ x ∈ l, SmN x) (hnro : nro ≤ H.length) :
    ∃ N : Nat, AC Try.prog nro γ 54 #[nv] H (fun v' H' => v' = .slice (some ⟨H.length, 0, none⟩) l.length l.length ∧ H'.length = N ∧ Low H.length H H' ∧ ∃ R, NewRows (H.length + 1) H' R l ∧ hget H' H.length = some ⟨R.flatten, 39, some 104⟩) := by
  obtain ⟨N, hE⟩ := each_ac (nro := nro) (γ := γ) hN hl hs hnro nodes1_callable
  obtain ⟨hnt, hvc, hxl, hwf, hat⟩ := hN
  have hfn : notTuple (.func (.func 72) #[] #[]) = true := rfl
  have hfc : (Value.func (.func 72) #[] #[]).cells = #[.func (.func 72) #[] #[]] := rfl
  refine ⟨N, ?_⟩
  refine ac_of_aw Try.func54 rfl Try.ntmps54 Try.results54 (by simp) ?_
  refine aw_seq ?_
  (refine aw_ops (by kernel_rfl) (fun K hK => ?_); simp (disch := first | omega | (simp only [lnS]; try omega; done)) [-getElem?_pos, -getElem?_neg]; refine hK _ _ ?_; clear hK K)
  refine aw_seq ?_
  refine aw_ops (by kernel_rfl) (fun K hK => ?_)
  simp (disch := first | omega | (simp only [lnS]; try omega; done)) [-getElem?_pos, -getElem?_neg, -notTuple, hnt, hvc, hfn, hfc, eval_fnG]
  refine ⟨by kernel_rfl, hE.mono ?_⟩
  rintro v1 G1 ⟨rfl, h1, h2, h3⟩
  try simp (disch := first | omega | (simp only [lnS]; try omega; done)) [-getElem?_pos, -getElem?_neg]
  refine hK _ _ ?_; clear hK K
  (refine aw_ret ?_; simp (disch := first | omega | (simp only [lnS]; try omega; done)) [-getElem?_pos, -getElem?_neg, thenQ_ret, scopeQ_ret, inBlockQ_ret, RQ, resL, resV])
  exact ⟨h2, h3⟩
end
section
def bodyAt (l : List BoxD) (k : Nat) : ByteArray := ((l[k]?).map BoxD.body).getD ByteArray.empty
def greatO (o : OpD) : Bool := decide (30 < o.parents.length) || (decide (30 < o.who.length) || (decide (30 < o.boxes.length) || (decide (600 < o.text.size) || (List.range o.boxes.length).any fun k => decide (600 < (bodyAt o.boxes k).size))))
theorem any_none {n : Nat} {p : Nat → Bool} (h : ∀ k, k < n → p k = false) : (List.range n).any p = false := by
  rw [List.any_eq_false]
  intro k hk
  rw [h k (List.mem_range.1 hk)]
  decide
theorem any_some {n k : Nat} {p : Nat → Bool} (hk : k < n) (h : p k = true) : (List.range n).any p = true := List.any_eq_true.2 ⟨k, List.mem_range.2 hk, h⟩
attribute [local simp] wb_bool wb_undef with_lit XL_nil XL_cons XLc_val XLc_call step1_eq stepW_t stepW_f stepC_n stepC_s stepX_s stepX_n stepN_s calleeX oneV xop_eq xopR_s xopR_n wantedA_eq wantedG_n wantedG_s plain1_int plain1_bool plain1_string bits_i64 bits_u64 bits_u32 bits_u16 bits_u8 xeqA xagg xcmp xarr allK_iv num_iv calleeOf xread xeff xbin xint xnil xun xstr xload xconv xpart xfield xfieldAddr xindexAddr xindex bnd asInt? xslice xlen xmin xmax xbuild xfill xappend xapp2 xappstr xappmk xcap xcopy xcells eval_tmp eval_const put_at put_none fr0_at cells_agg cells_int cells_bool cells_string cells_ptr cells_slice notTuple tab iv_all hget_app hget_app0 hget_cons0 hget_cons set_app set_app0 setR setR_one QL_nil QL_cons QLc_val stepQ_t stepQ_f stepQC_n stepQC_s stepQX_s SL_nil SL_cons SLc_val stepS_t stepS_f ltT ltF leT leF eqT eqF ltTn ltFn leTn leFn eqTn eqFn beqT beqF bneT bneF wi64 wu64 wu32 wu16 wu8 tmodP tdivP hgetL hgetNe hgetEq setL nums_def nums_len Nat.succ_le_of_lt List.getElem?_cons_zero List.getElem?_cons_succ Option.getD_some Int.toNat_add Int.toNat_mul agM okM agB agI agS agP agL agA okB okI okS okP okSl okA
theorem BxV.body_at {H : AH} {v : Value} {l : List BoxD} (h : BxV H v l) (hl : ∀ b ∈ l, b.Wf) {i : Nat} (hi : i < l.length) : ∃ j q bb, xindexAddr Try.prog 35 v (.int .i64 (i : Nat)) = some (.pointer (some ⟨j, q, none⟩)) ∧ hget H j = some bb ∧ bb.cells[q + 35]? = some (.string (bodyAt l i)) ∧ (bodyAt l i).size ≤ maxLen := by
  obtain ⟨z, hz⟩ : ∃ z, l[i]? = some z := ⟨_, List.getElem?_eq_getElem hi⟩
  have hzw := hl z (List.mem_of_getElem? hz)
  obtain ⟨j, b, us, hv, hb, hle, hx, hus, hul, hle2, hc, hval⟩ := val_at (P := Try.prog) (t := 35) (e := 60) (sz := 36) h (by simp) (by simp) (by omega) (fun row hr => by
    obtain ⟨y, hy, rfl⟩ := List.mem_map.1 hr
    have := (hl y hy).pub.1
    simp [BoxD.row, kd, this]) (i := i) (row := z.row) (by rw [List.getElem?_map, hz]; rfl)
  have hbody : bodyAt l i = z.body := by simp [bodyAt, hz]
  rw [hbody]
  exact ⟨j, i * 36, b, hx, hb, (hc 35 (by omega)).trans (box_c hzw hval).c35, hzw.body⟩
theorem greatO_rc {γ : Nat → Option Nat} {H : AH} {us : List Value} {o : OpD} {pv wv bv : Value} (h : OpC H us o pv wv bv) (hw : o.Wf) : AC Try.prog H.length γ 23 #[.agg us.toArray] H (fun v' _ => v' = .bool (greatO o)) := by
  have hlen := h.len
  have c2 := h.c2
  have c4 := h.c4
  have c69 := h.c69
  have c70 := h.c70
  have pa := h.parents.acc (fun k hk => (hw.parents k hk).1)
  have wa := h.who.acc
  have ba := h.boxes.acc hw.boxes
  have p1 := pa.nt
  have p2 := pa.cs
  have p3 := pa.len
  have w1 := wa.nt
  have w2 := wa.cs
  have w3 := wa.len
  have b1 := ba.nt
  have b2 := ba.cs
  have b3 := ba.len
  have hbx := h.boxes
  obtain ⟨np, hnp⟩ : ∃ n, n = o.parents.length := ⟨_, rfl⟩
  obtain ⟨nw, hnw⟩ : ∃ n, n = o.who.length := ⟨_, rfl⟩
  obtain ⟨nb, hnb⟩ : ∃ n, n = o.boxes.length := ⟨_, rfl⟩
  obtain ⟨ts, hts⟩ : ∃ t, t = o.text := ⟨_, rfl⟩
  have htz : ts.size ≤ 9223372036854775807 := by rw [hts]; have := hw.text; simp only [maxLen] at this; omega
  have hnb63 : nb ≤ 9223372036854775807 := by rw [hnb]; have := hw.blen; simp only [maxLen] at this; omega
  have hG : greatO o = (decide (30 < np) || (decide (30 < nw) || (decide (30 < nb) || (decide (600 < ts.size) || (List.range nb).any fun k => decide (600 < (bodyAt o.boxes k).size))))) := by rw [hnp, hnw, hnb, hts]; rfl
  rw [hG]
  rw [← hnp] at p3
  rw [← hnw] at w3
  rw [← hnb] at b3
  rw [← hts] at c69
  refine ac_of_aw Try.func23 rfl Try.ntmps23 Try.results23 (by simp) ?_
  refine aw_seq ?_
  (refine aw_ops (by kernel_rfl) (fun K hK => ?_); simp (disch := first | omega | (simp only [lnS]; try omega; done)) [-getElem?_pos, -getElem?_neg, hlen]; refine hK _ _ ?_; clear hK K)
  obtain ⟨hlow, hb⟩ := boxed (H := H) us 37
  generalize H ++ [some ⟨us, 37, none⟩] = G at *
  obtain ⟨g, hg⟩ : ∃ g, g = H.length := ⟨_, rfl⟩
  rw [← hg] at hb ⊢
  refine aw_seq ?_
  refine aw_seq ?_
  refine aw_cut (fun α G' => G = G' ∧ α 1 = .pointer (some ⟨g, 0, none⟩) ∧ α 25 = .bool (decide (30 < np) || (decide (30 < nw) || (decide (30 < nb) || decide (600 < ts.size))))) ?_ ?_
  · by_cases h1 : 30 < np
    · (refine aw_ops (by kernel_rfl) (fun K hK => ?_); simp (disch := first | omega | (simp only [lnS]; try omega; done)) [-getElem?_pos, -getElem?_neg, hb, hlen, c2, -notTuple, p1, p2, nt_intG, -xlen, p3, h1]; refine hK _ _ ?_; clear hK K)
      exact ⟨rfl, by (first | (simp [put_at, put_none, fr0_at]; done) | rfl), by simp [put_at, h1]⟩
    · by_cases h2 : 30 < nw
      · (refine aw_ops (by kernel_rfl) (fun K hK => ?_); simp (disch := first | omega | (simp only [lnS]; try omega; done)) [-getElem?_pos, -getElem?_neg, hb, hlen, c2, c4, -notTuple, p1, p2, w1, w2, nt_intG, -xlen, p3, w3, h1, h2]; refine hK _ _ ?_; clear hK K)
        exact ⟨rfl, by (first | (simp [put_at, put_none, fr0_at]; done) | rfl), by simp [put_at, h2]⟩
      · by_cases h3 : 30 < nb
        · (refine aw_ops (by kernel_rfl) (fun K hK => ?_); simp (disch := first | omega | (simp only [lnS]; try omega; done)) [-getElem?_pos, -getElem?_neg, hb, hlen, c2, c4, c70, -notTuple, p1, p2, w1, w2, b1, b2, nt_intG, -xlen, p3, w3, b3, h1, h2, h3]; refine hK _ _ ?_; clear hK K)
          exact ⟨rfl, by (first | (simp [put_at, put_none, fr0_at]; done) | rfl), by simp [put_at, h3]⟩
        · have hxt : xlen Try.prog 9 (.string ts) = some (.int .i64 ts.size) := by simp [xlen]
          by_cases h4 : 600 < ts.size
          · (refine aw_ops (by kernel_rfl) (fun K hK => ?_); simp (disch := first | omega | (simp only [lnS]; try omega; done)) [-getElem?_pos, -getElem?_neg, hb, hlen, c2, c4, c70, c69, -notTuple, p1, p2, w1, w2, b1, b2, nt_intG, nt_strG, -xlen, p3, w3, b3, hxt, h1, h2, h3, h4]; refine hK _ _ ?_; clear hK K)
            exact ⟨rfl, by (first | (simp [put_at, put_none, fr0_at]; done) | rfl), by simp [put_at, h4]⟩
          · (refine aw_ops (by kernel_rfl) (fun K hK => ?_); simp (disch := first | omega | (simp only [lnS]; try omega; done)) [-getElem?_pos, -getElem?_neg, hb, hlen, c2, c4, c70, c69, -notTuple, p1, p2, w1, w2, b1, b2, nt_intG, nt_strG, -xlen, p3, w3, b3, hxt, h1, h2, h3, h4]; refine hK _ _ ?_; clear hK K)
            exact ⟨rfl, by (first | (simp [put_at, put_none, fr0_at]; done) | rfl), by simp [put_at, h1, h2, h3, h4]⟩
  rintro α G' ⟨rfl, h1, h25⟩
  obtain ⟨B, hB⟩ : ∃ B, B = (decide (30 < np) || (decide (30 < nw) || (decide (30 < nb) || decide (600 < ts.size)))) := ⟨_, rfl⟩
  have hGB : (decide (30 < np) || (decide (30 < nw) || (decide (30 < nb) || (decide (600 < ts.size) || (List.range nb).any fun k => decide (600 < (bodyAt o.boxes k).size))))) = (B || (List.range nb).any fun k => decide (600 < (bodyAt o.boxes k).size)) := by
    rw [hB, Bool.or_assoc, Bool.or_assoc, Bool.or_assoc]
  rw [hGB]
  rw [← hB] at h25
  clear hB hGB hG
  cases B with
  | true =>
    refine aw_t (by (first | (simp [eval_tmp, put_at, h25]; done) | (simp [eval_tmp, put_at, h25]; omega))) (by kernel_rfl) ?_
    refine aw_seq ?_
    (refine aw_ops (by kernel_rfl) (fun K hK => ?_); simp (disch := first | omega | (simp only [lnS]; try omega; done)) [-getElem?_pos, -getElem?_neg]; refine hK _ _ ?_; clear hK K)
    (refine aw_ret ?_; simp (disch := first | omega | (simp only [lnS]; try omega; done)) [-getElem?_pos, -getElem?_neg, thenQ_ret, scopeQ_ret, inBlockQ_ret, RQ, resL, resV])
  | false =>
  rw [Bool.false_or]
  refine aw_f (by (first | (simp [eval_tmp, put_at, h25]; done) | (simp [eval_tmp, put_at, h25]; omega))) (by kernel_rfl) ?_
  refine aw_skip ?_
  refine aw_seq ?_
  refine aw_seq ?_
  (refine aw_ops (by kernel_rfl) (fun K hK => ?_); simp (disch := first | omega | (simp only [lnS]; try omega; done)) [-getElem?_pos, -getElem?_neg]; refine hK _ _ ?_; clear hK K)
  refine aw_block ?_
  refine aw_loop (fun c α G' => ∃ i : Nat, i + c = nb ∧ G = G' ∧ α 1 = .pointer (some ⟨g, 0, none⟩) ∧ α 3 = .int .i64 (i : Nat) ∧ ∀ k, k < i → decide (600 < (bodyAt o.boxes k).size) = false) nb ?_ ?_
  · exact ⟨0, by omega, rfl, by (first | (simp [put_at, put_none, fr0_at, h1]; done) | rfl), by (first | (simp [put_at, put_none, fr0_at]; done) | rfl), fun k hk => by omega⟩
  clear h1 h25 α
  rintro c α G' ⟨i, hic, rfl, h1, h3, hpre⟩
  refine aw_seq ?_
  refine aw_seq ?_
  by_cases hi : i < nb
  case neg =>
    (refine aw_ops (by kernel_rfl) (fun K hK => ?_); simp (disch := first | omega | (simp only [lnS]; try omega; done)) [-getElem?_pos, -getElem?_neg, h1, h3, hb, hlen, c70, -notTuple, b1, b2, nt_intG, -xlen, b3, hi]; refine hK _ _ ?_; clear hK K)
    refine aw_f (by (first | (simp [eval_tmp, put_at, hi]; done) | (simp [eval_tmp, put_at, hi]; omega))) (by kernel_rfl) ?_
    refine aw_exit ?_
    refine aw_seq ?_
    (refine aw_ops (by kernel_rfl) (fun K hK => ?_); simp (disch := first | omega | (simp only [lnS]; try omega; done)) [-getElem?_pos, -getElem?_neg]; refine hK _ _ ?_; clear hK K)
    (refine aw_ret ?_; simp (disch := first | omega | (simp only [lnS]; try omega; done)) [-getElem?_pos, -getElem?_neg, thenQ_ret, scopeQ_ret, inBlockQ_ret, RQ, resL, resV])
    intro k hk
    have := hpre k (by omega)
    simp at this
    exact this
  obtain ⟨j, q, bb, hx, hbb, hcb, hbm⟩ := hbx.body_at hw.boxes (i := i) (by omega)
  have hbG : hget G j = some bb := (hlow.1 j (hget_lt hbb)).trans hbb
  (refine aw_ops (by kernel_rfl) (fun K hK => ?_); simp (disch := first | omega | (simp only [lnS]; try omega; done)) [-getElem?_pos, -getElem?_neg, h1, h3, hb, hlen, c70, -notTuple, b1, b2, nt_intG, -xlen, b3, hi]; refine hK _ _ ?_; clear hK K)
  refine aw_t (by (first | (simp [eval_tmp, put_at, hi]; done) | (simp [eval_tmp, put_at, hi]; omega))) (by kernel_rfl) ?_
  refine aw_skip ?_
  refine aw_seq ?_
  refine aw_block ?_
  obtain ⟨bd, hbd⟩ : ∃ b, b = bodyAt o.boxes i := ⟨_, rfl⟩
  rw [← hbd] at hcb hbm
  have hbz : bd.size ≤ 9223372036854775807 := by simp only [maxLen] at hbm; omega
  have hxt : xlen Try.prog 9 (.string bd) = some (.int .i64 bd.size) := by simp [xlen]
  refine aw_seq ?_
  by_cases h6 : 600 < bd.size
  · (refine aw_ops (by kernel_rfl) (fun K hK => ?_); simp (disch := first | omega | (simp only [lnS]; try omega; done)) [-getElem?_pos, -getElem?_neg, h1, h3, hb, hlen, c70, -notTuple, b1, b2, nt_intG, nt_strG, -xindexAddr, hx, hbG, hcb, -xlen, hxt, h6]; refine hK _ _ ?_; clear hK K)
    refine aw_t (by (first | (simp [eval_tmp, put_at, h6]; done) | (simp [eval_tmp, put_at, h6]; omega))) (by kernel_rfl) ?_
    refine aw_seq ?_
    (refine aw_ops (by kernel_rfl) (fun K hK => ?_); simp (disch := first | omega | (simp only [lnS]; try omega; done)) [-getElem?_pos, -getElem?_neg]; refine hK _ _ ?_; clear hK K)
    (refine aw_ret ?_; simp (disch := first | omega | (simp only [lnS]; try omega; done)) [-getElem?_pos, -getElem?_neg, thenQ_ret, scopeQ_ret, inBlockQ_ret, RQ, resL, resV])
    exact ⟨i, hi, by rw [← hbd]; exact h6⟩
  · (refine aw_ops (by kernel_rfl) (fun K hK => ?_); simp (disch := first | omega | (simp only [lnS]; try omega; done)) [-getElem?_pos, -getElem?_neg, h1, h3, hb, hlen, c70, -notTuple, b1, b2, nt_intG, nt_strG, -xindexAddr, hx, hbG, hcb, -xlen, hxt, h6]; refine hK _ _ ?_; clear hK K)
    refine aw_f (by (first | (simp [eval_tmp, put_at, h6]; done) | (simp [eval_tmp, put_at, h6]; omega))) (by kernel_rfl) ?_
    refine aw_skip ?_
    (refine aw_ops (by kernel_rfl) (fun K hK => ?_); simp (disch := first | omega | (simp only [lnS]; try omega; done)) [-getElem?_pos, -getElem?_neg, h3]; refine hK _ _ ?_; clear hK K)
    refine ⟨c - 1, by omega, i + 1, by omega, rfl, by (first | (simp [put_at, put_none, fr0_at, h1]; done) | rfl), by (first | (simp [put_at, put_none, fr0_at]; done) | rfl), fun k hk => ?_⟩
    by_cases e : k = i
    · subst e
      rw [← hbd]
      simpa using h6
    · exact hpre k (by omega)
def greatG (l : List NodeD) : Bool := decide (110 < l.length) || (List.range l.length).any fun k => greatO (nd l k).op || decide (200 < (nd l k).past.length)
theorem greatG_rc {γ : Nat → Option Nat} {H : AH} {nv : Value} {l : List NodeD} (hN : NdA H nv l) : AC Try.prog H.length γ 10 #[nv] H (fun v' _ => v' = .bool (greatG l)) := by
  have hN' := hN
  obtain ⟨hnt, hvc, hxl, hwf, hat⟩ := hN
  unfold greatG
  refine ac_of_aw Try.func10 rfl Try.ntmps10 Try.results10 (by simp) ?_
  refine aw_seq ?_
  (refine aw_ops (by kernel_rfl) (fun K hK => ?_); simp (disch := first | omega | (simp only [lnS]; try omega; done)) [-getElem?_pos, -getElem?_neg]; refine hK _ _ ?_; clear hK K)
  refine aw_seq ?_
  refine aw_seq ?_
  by_cases hl : 110 < l.length
  · (refine aw_ops (by kernel_rfl) (fun K hK => ?_); simp (disch := first | omega | (simp only [lnS]; try omega; done)) [-getElem?_pos, -getElem?_neg, -notTuple, hnt, hvc, nt_intG, -xlen, hxl, hl]; refine hK _ _ ?_; clear hK K)
    refine aw_t (by (first | (simp [eval_tmp, put_at, hl]; done) | (simp [eval_tmp, put_at, hl]; omega))) (by kernel_rfl) ?_
    refine aw_seq ?_
    (refine aw_ops (by kernel_rfl) (fun K hK => ?_); simp (disch := first | omega | (simp only [lnS]; try omega; done)) [-getElem?_pos, -getElem?_neg]; refine hK _ _ ?_; clear hK K)
    (refine aw_ret ?_; simp (disch := first | omega | (simp only [lnS]; try omega; done)) [-getElem?_pos, -getElem?_neg, thenQ_ret, scopeQ_ret, inBlockQ_ret, RQ, resL, resV])
    all_goals simp [hl]
  have hlf : decide (110 < l.length) = false := by simpa using hl
  rw [hlf, Bool.false_or]
  (refine aw_ops (by kernel_rfl) (fun K hK => ?_); simp (disch := first | omega | (simp only [lnS]; try omega; done)) [-getElem?_pos, -getElem?_neg, -notTuple, hnt, hvc, nt_intG, -xlen, hxl, hl]; refine hK _ _ ?_; clear hK K)
  refine aw_f (by (first | (simp [eval_tmp, put_at, hl]; done) | (simp [eval_tmp, put_at, hl]; omega))) (by kernel_rfl) ?_
  refine aw_skip ?_
  refine aw_seq ?_
  refine aw_seq ?_
  (refine aw_ops (by kernel_rfl) (fun K hK => ?_); simp (disch := first | omega | (simp only [lnS]; try omega; done)) [-getElem?_pos, -getElem?_neg]; refine hK _ _ ?_; clear hK K)
  refine aw_block ?_
  obtain ⟨R, hR⟩ : ∃ R, R = ((List.range l.length).any fun k => greatO (nd l k).op || decide (200 < (nd l k).past.length)) := ⟨_, rfl⟩
  rw [← hR]
  refine aw_loop (fun c α G' => ∃ i : Nat, i + c = l.length ∧ H = G' ∧ α 0 = nv ∧ α 3 = .int .i64 (i : Nat) ∧ ∀ k, k < i → (greatO (nd l k).op || decide (200 < (nd l k).past.length)) = false) l.length ?_ ?_
  · exact ⟨0, by omega, rfl, by (first | (simp [put_at, put_none, fr0_at]; done) | rfl), by (first | (simp [put_at, put_none, fr0_at]; done) | rfl), fun k hk => by omega⟩
  rintro c α G' ⟨i, hic, rfl, h0, h3, hpre⟩
  refine aw_seq ?_
  refine aw_seq ?_
  by_cases hi : i < l.length
  case neg =>
    (refine aw_ops (by kernel_rfl) (fun K hK => ?_); simp (disch := first | omega | (simp only [lnS]; try omega; done)) [-getElem?_pos, -getElem?_neg, h0, h3, -notTuple, hnt, hvc, nt_intG, -xlen, hxl, hi]; refine hK _ _ ?_; clear hK K)
    refine aw_f (by (first | (simp [eval_tmp, put_at, hi]; done) | (simp [eval_tmp, put_at, hi]; omega))) (by kernel_rfl) ?_
    refine aw_exit ?_
    have hRf : R = false := hR.trans (any_none (fun k hk => hpre k (by omega)))
    rw [hRf]
    refine aw_seq ?_
    (refine aw_ops (by kernel_rfl) (fun K hK => ?_); simp (disch := first | omega | (simp only [lnS]; try omega; done)) [-getElem?_pos, -getElem?_neg]; refine hK _ _ ?_; clear hK K)
    (refine aw_ret ?_; simp (disch := first | omega | (simp only [lnS]; try omega; done)) [-getElem?_pos, -getElem?_neg, thenQ_ret, scopeQ_ret, inBlockQ_ret, RQ, resL, resV])
  obtain ⟨j, q, bb, us, pv, wv', bv, qv, hx, hbb, hq, hcell, hus, hC⟩ := hat i _ (nd_get hi)
  have hwfi := hwf _ (List.mem_of_getElem? (nd_get hi))
  obtain ⟨u7, hu7⟩ : ∃ u, u = (us.drop 32).take 71 := ⟨_, rfl⟩
  have hO : OpC H u7 (nd l i).op pv wv' bv := hu7 ▸ hC.op
  have hcut : (bb.cells.drop (q + 32)).take 71 = u7 := by rw [op_cut, ← hus, hu7]
  have hu7l := hO.len
  have hgo := greatO_rc (γ := γ) hO hwfi.op
  have hqv : bb.cells[q + 103]? = some qv := (hcell 103 (by omega)).trans hC.c103
  have qa := hC.past.acc
  have q1 := qa.nt
  have q2 := qa.cs
  have q3 := qa.len
  have hRt : (greatO (nd l i).op || decide (200 < (nd l i).past.length)) = true → R = true := fun e => hR.trans (any_some hi e)
  (refine aw_ops (by kernel_rfl) (fun K hK => ?_); simp (disch := first | omega | (simp only [lnS]; try omega; done)) [-getElem?_pos, -getElem?_neg, h0, h3, -notTuple, hnt, hvc, nt_intG, -xlen, hxl, hi]; refine hK _ _ ?_; clear hK K)
  refine aw_t (by (first | (simp [eval_tmp, put_at, hi]; done) | (simp [eval_tmp, put_at, hi]; omega))) (by kernel_rfl) ?_
  refine aw_skip ?_
  refine aw_seq ?_
  refine aw_block ?_
  refine aw_seq ?_
  refine aw_ops (by kernel_rfl) (fun K hK => ?_)
  simp (disch := first | omega | (simp only [lnS]; try omega; done)) [-getElem?_pos, -getElem?_neg, h0, h3, -notTuple, hnt, hvc, nt_intG, nt_aggG, -xindexAddr, hx, hbb, hcut, hu7l]
  refine ⟨by kernel_rfl, ac_of_rc hgo (by simp [pv_iv, pv_int, pv_bool, pv_string, pv_tup2, pv_tup3, iv_plain, p2_int, p2_bool, p2_string]) ?_⟩
  cases h5 : greatO (nd l i).op with
  | true =>
    try simp (disch := first | omega | (simp only [lnS]; try omega; done)) [-getElem?_pos, -getElem?_neg]
    refine hK _ _ ?_; clear hK K
    refine aw_t (by (first | (simp [eval_tmp, put_at]; done) | (simp [eval_tmp, put_at]; omega))) (by kernel_rfl) ?_
    refine aw_seq ?_
    rw [hRt (by rw [h5]; rfl)]
    (refine aw_ops (by kernel_rfl) (fun K hK => ?_); simp (disch := first | omega | (simp only [lnS]; try omega; done)) [-getElem?_pos, -getElem?_neg]; refine hK _ _ ?_; clear hK K)
    (refine aw_ret ?_; simp (disch := first | omega | (simp only [lnS]; try omega; done)) [-getElem?_pos, -getElem?_neg, thenQ_ret, scopeQ_ret, inBlockQ_ret, RQ, resL, resV])
  | false =>
    by_cases h6 : 200 < (nd l i).past.length
    · simp (disch := first | omega | (simp only [lnS]; try omega; done)) [-getElem?_pos, -getElem?_neg, h0, h3, -notTuple, hnt, hvc, q1, q2, nt_intG, -xindexAddr, hx, hbb, hqv, -xlen, q3, h6]
      refine hK _ _ ?_; clear hK K
      refine aw_t (by (first | (simp [eval_tmp, put_at]; done) | (simp [eval_tmp, put_at]; omega))) (by kernel_rfl) ?_
      refine aw_seq ?_
      rw [hRt (by rw [decide_eq_true h6, Bool.or_true])]
      (refine aw_ops (by kernel_rfl) (fun K hK => ?_); simp (disch := first | omega | (simp only [lnS]; try omega; done)) [-getElem?_pos, -getElem?_neg]; refine hK _ _ ?_; clear hK K)
      (refine aw_ret ?_; simp (disch := first | omega | (simp only [lnS]; try omega; done)) [-getElem?_pos, -getElem?_neg, thenQ_ret, scopeQ_ret, inBlockQ_ret, RQ, resL, resV])
    · simp (disch := first | omega | (simp only [lnS]; try omega; done)) [-getElem?_pos, -getElem?_neg, h0, h3, -notTuple, hnt, hvc, q1, q2, nt_intG, -xindexAddr, hx, hbb, hqv, -xlen, q3, h6]
      refine hK _ _ ?_; clear hK K
      refine aw_f (by (first | (simp [eval_tmp, put_at]; done) | (simp [eval_tmp, put_at]; omega))) (by kernel_rfl) ?_
      refine aw_skip ?_
      (refine aw_ops (by kernel_rfl) (fun K hK => ?_); simp (disch := first | omega | (simp only [lnS]; try omega; done)) [-getElem?_pos, -getElem?_neg, h3]; refine hK _ _ ?_; clear hK K)
      refine ⟨c - 1, by omega, i + 1, by omega, rfl, by (first | (simp [put_at, put_none, fr0_at, h0]; done) | rfl), by (first | (simp [put_at, put_none, fr0_at]; done) | rfl), fun k hk => ?_⟩
      by_cases e : k = i
      · subst e
        rw [h5, decide_eq_false h6]; rfl
      · exact hpre k (by omega)
end
section
theorem first_diff : ∀ {a b : List Int}, a.length = b.length → a ≠ b → ∃ p x y r s, a = p ++ x :: r ∧ b = p ++ y :: s ∧ x ≠ y
  | [], [], _, h => absurd rfl h
  | [], _ :: _, h, _ => by cases h
  | _ :: _, [], h, _ => by cases h
  | u :: a, v :: b, hl, h => by
    by_cases e : u = v
    · subst e
      obtain ⟨p, x, y, r, s, rfl, rfl, hxy⟩ := first_diff (a := a) (b := b) (by simpa using hl) (fun e => h (by rw [e]))
      exact ⟨u :: p, x, y, r, s, rfl, rfl, hxy⟩
    · exact ⟨[], u, v, a, b, rfl, rfl, e⟩
theorem lt_at (p : List Int) (x y : Int) (r s : List Int) (h : x ≠ y) : p ++ x :: r < p ++ y :: s ↔ x < y := by
  induction p with
  | nil =>
    rw [List.nil_append, List.nil_append, List.cons_lt_cons_iff]
    exact ⟨fun h2 => h2.elim id (fun h3 => absurd h3.1 h), Or.inl⟩
  | cons u p ih =>
    rw [List.cons_append, List.cons_append, List.cons_lt_cons_iff]
    exact ⟨fun h2 => h2.elim (fun h3 => absurd h3 (Int.lt_irrefl _)) (fun h3 => ih.1 h3.2), fun h2 => .inr ⟨rfl, ih.2 h2⟩⟩
theorem cmpL_lt {a b : List Int} (ha : By a) (hb : By b) (hl : a.length = b.length) : cmpL a b < 0 ↔ a < b := by
  by_cases e : a = b
  · subst e
    rw [cmpL_eq]
    exact ⟨fun h => absurd h (by omega), fun h => absurd h (List.lt_irrefl a)⟩
  · obtain ⟨p, x, y, r, s, rfl, rfl, hxy⟩ := first_diff hl e
    rw [lt_at p x y r s hxy, cmpL_at ha hb hl (i := p.length) (x := x) (y := y) (by simp) (by simp) hxy (by simp)]
    split
    · exact ⟨fun _ => by assumption, fun _ => by omega⟩
    · exact ⟨fun h => by omega, fun h => by contradiction⟩
theorem cmpL_gt {a b : List Int} (ha : By a) (hb : By b) (hl : a.length = b.length) : 0 < cmpL a b ↔ b < a := by
  by_cases e : a = b
  · subst e
    rw [cmpL_eq]
    exact ⟨fun h => absurd h (by omega), fun h => absurd h (List.lt_irrefl a)⟩
  · obtain ⟨p, x, y, r, s, rfl, rfl, hxy⟩ := first_diff hl e
    rw [lt_at p y x s r (fun e => hxy e.symm), cmpL_at ha hb hl (i := p.length) (x := x) (y := y) (by simp) (by simp) hxy (by simp)]
    split
    · exact ⟨fun h => by omega, fun h => by omega⟩
    · exact ⟨fun h => by omega, fun h => by omega⟩
theorem lt_tri {a b : List Int} (h1 : ¬ a < b) (h2 : a ≠ b) : b < a := by
  rcases List.le_total a b with h | h
  · exact Decidable.byContradiction fun h3 => h2 (List.le_antisymm h (List.not_lt.1 h1))
  · exact Decidable.byContradiction fun h3 => h2 (List.le_antisymm (List.not_lt.1 h3) (List.not_lt.1 h1))
abbrev Rise (l : List (List Int)) : Prop := l.Pairwise (· < ·)
/-- One more key put where it belongs. -/
theorem rise_put {S : List (List Int)} {x : List Int} {j : Nat} (hS : Rise S) (hj : j ≤ S.length) (hgt : ∀ s ∈ S.drop j, x < s) (hle : ∀ s, j ≠ 0 → S[j - 1]? = some s → ¬ x < s) (hx : x ∉ S) : Rise (S.take j ++ x :: S.drop j) := by
  have hS' := hS
  rw [← List.take_append_drop j S] at hS'
  obtain ⟨h1, h2, h3⟩ := List.pairwise_append.1 hS'
  refine List.pairwise_append.2 ⟨h1, List.pairwise_cons.2 ⟨hgt, h2⟩, fun a ha b hb => ?_⟩
  rcases List.mem_cons.1 hb with rfl | hb
  · cases j with
    | zero => simp at ha
    | succ j =>
      have hjl : j < S.length := by omega
      obtain ⟨s, hs⟩ : ∃ s, S[j]? = some s := ⟨_, List.getElem?_eq_getElem hjl⟩
      have hsx : s < b := lt_tri (hle s (by omega) (by simpa using hs)) (fun e => hx (by rw [e]; exact List.mem_of_getElem? hs))
      rw [List.take_add_one, hs] at ha h1
      rcases List.mem_append.1 ha with ha | ha
      · exact List.lt_trans ((List.pairwise_append.1 h1).2.2 a ha s (by simp)) hsx
      · simp at ha; subst ha; exact hsx
  · exact h3 a ha b hb
theorem put_perm {S : List (List Int)} (x : List Int) (j : Nat) : (S.take j ++ x :: S.drop j).Perm (S ++ [x]) := by
  refine List.perm_middle.trans ?_
  rw [List.take_append_drop]
  exact (List.perm_append_comm (l₁ := S) (l₂ := [x])).symm
/-- Keys, sorted. -/
def sortK (l : List (List Int)) : List (List Int) := l.mergeSort fun a b => !decide (b < a)
theorem sortK_perm (l : List (List Int)) : (sortK l).Perm l := List.mergeSort_perm _ _
theorem sortK_le (l : List (List Int)) : (sortK l).Pairwise fun a b => ¬ b < a := by
  have := List.pairwise_mergeSort (le := fun a b : List Int => !decide (b < a)) (fun a b c h1 h2 => by
    simp only [Bool.not_eq_true', decide_eq_false_iff_not] at h1 h2 ⊢
    intro h3
    by_cases e : b = c
    · subst e; exact h1 h3
    · exact h1 (List.lt_trans (lt_tri h2 (fun e2 => e e2.symm)) h3)) (fun a b => by
    by_cases h : b < a
    · have := List.lt_asymm h
      simp [h, this]
    · simp [h]) l
  exact this.imp (fun h => by simpa using h)
theorem sortK_eq {L l : List (List Int)} (hp : L.Perm l) (hs : Rise L) : L = sortK l := by
  refine List.Perm.eq_of_pairwise (le := fun a b => ¬ b < a) (fun a b _ _ h1 h2 => Decidable.byContradiction fun e => h1 (lt_tri h2 e)) (hs.imp fun h => List.lt_asymm h) (sortK_le l) (hp.trans (sortK_perm l).symm)
theorem sortK_of_perm {l m : List (List Int)} (h : l.Perm m) : sortK l = sortK m :=
  List.Perm.eq_of_pairwise (le := fun a b => ¬ b < a) (fun a b _ _ h1 h2 => Decidable.byContradiction fun e => h1 (lt_tri h2 e)) (sortK_le l) (sortK_le m) ((sortK_perm l).trans (h.trans (sortK_perm m).symm))
end
section
def hdO (o : OpD) : Bool := memI o.author && (decide (o.seq ≠ 0) && (decide (1 ≤ o.kind) && (decide (o.kind ≤ 7) && (decide (o.parents.length ≤ 8) && (decide (o.boxes.length ≤ 8) && decide (o.text.size ≤ 256))))))
theorem refO_hd (o : OpD) : refO o = (hdO o && (risesK o.parents && ((o.who.all memI && risesI o.who) && (boxesB o && kindB o (decide (o.author ∈ o.who)))))) := by
  unfold refO hdO
  simp only [Bool.and_assoc]
theorem BxV.row_at {H : AH} {v : Value} {l : List BoxD} (h : BxV H v l) (hl : ∀ b ∈ l, b.Wf) {i : Nat} {z : BoxD} (hz : l[i]? = some z) : ∃ j q bb ws, xindexAddr Try.prog 35 v (.int .i64 (i : Nat)) = some (.pointer (some ⟨j, q, none⟩)) ∧ hget H j = some bb ∧ q + 36 ≤ bb.cells.length ∧ ws = (bb.cells.drop q).take 36 ∧ (∀ c, c < 36 → bb.cells[q + c]? = ws[c]?) ∧ BoxC H ws z := by
  have hzw := hl z (List.mem_of_getElem? hz)
  obtain ⟨j, b, us, hv, hb, hle, hx, hus, hul, hle2, hc, hval⟩ := val_at (P := Try.prog) (t := 35) (e := 60) (sz := 36) h (by kernel_rfl) (by kernel_rfl) (by omega) (fun row hr => by
    obtain ⟨y, hy, rfl⟩ := List.mem_map.1 hr
    have := (hl y hy).pub.1
    simp [BoxD.row, kd, this]) (i := i) (row := z.row) (by rw [List.getElem?_map, hz]; rfl)
  exact ⟨j, i * 36, b, us, hx, hb, hle2, hus, hc, box_c hzw hval⟩
theorem all_false {β : Type} {l : List β} {p : β → Bool} {i : Nat} {z : β} (hz : l[i]? = some z) (h : p z = false) : l.all p = false := by
  rw [List.all_eq_false]
  exact ⟨z, List.mem_of_getElem? hz, by rw [h]; decide⟩
theorem all_take {β : Type} {l : List β} {p : β → Bool} (h : ∀ (k : Nat) (z : β), l[k]? = some z → p z = true) : l.all p = true := by
  rw [List.all_eq_true]
  intro z hz
  obtain ⟨k, hk⟩ := List.getElem?_of_mem hz
  exact h k z hk
theorem range_false {n i : Nat} {p : Nat → Bool} (hi : i < n) (h : p i = false) : (List.range n).all p = false := by
  rw [List.all_eq_false]
  exact ⟨i, List.mem_range.2 hi, by rw [h]; decide⟩
theorem range_true {n : Nat} {p : Nat → Bool} (h : ∀ i, i < n → p i = true) : (List.range n).all p = true := by
  rw [List.all_eq_true]
  exact fun i hi => h i (List.mem_range.1 hi)
theorem getD_of {β : Type} {l : List β} {i : Nat} {z d : β} (h : l[i]? = some z) : l.getD i d = z := by rw [List.getD_eq_getElem?_getD, h]; rfl
attribute [local simp] wb_bool wb_undef with_lit XL_nil XL_cons XLc_val XLc_call step1_eq stepW_t stepW_f stepC_n stepC_s stepX_s stepX_n stepN_s calleeX oneV xop_eq xopR_s xopR_n wantedA_eq wantedG_n wantedG_s plain1_int plain1_bool plain1_string bits_i64 bits_u64 bits_u32 bits_u16 bits_u8 xeqA xagg xcmp xarr allK_iv num_iv calleeOf xread xeff xbin xint xnil xun xstr xload xconv xpart xfield xfieldAddr xindexAddr xindex bnd asInt? xslice xlen xmin xmax xbuild xfill xappend xapp2 xappstr xappmk xcap xcopy xcells eval_tmp eval_const put_at put_none fr0_at cells_agg cells_int cells_bool cells_string cells_ptr cells_slice notTuple tab iv_all hget_app hget_app0 hget_cons0 hget_cons set_app set_app0 setR setR_one QL_nil QL_cons QLc_val stepQ_t stepQ_f stepQC_n stepQC_s stepQX_s SL_nil SL_cons SLc_val stepS_t stepS_f ltT ltF leT leF eqT eqF ltTn ltFn leTn leFn eqTn eqFn beqT beqF bneT bneF wi64 wu64 wu32 wu16 wu8 tmodP tdivP hgetL hgetNe hgetEq setL nums_def nums_len Nat.succ_le_of_lt List.getElem?_cons_zero List.getElem?_cons_succ Option.getD_some Int.toNat_add Int.toNat_mul agM okM agB agI agS agP agL agA okB okI okS okP okSl okA
theorem member_vc (z : Int) : VC Try.prog 56 #[.int .i64 z] (.bool (memI z)) := by
  refine vc_of_ac (by simp [pv_iv, pv_int, pv_bool, pv_string, pv_tup2, pv_tup3, iv_plain, p2_int, p2_bool, p2_string]) (by simp [pv_iv, pv_int, pv_bool, pv_string, pv_tup2, pv_tup3, iv_plain, p2_int, p2_bool, p2_string]) ?_
  refine ac_of_aw Try.func56 rfl Try.ntmps56 Try.results56 (by simp) ?_
  refine aw_seq ?_
  (refine aw_ops (by kernel_rfl) (fun K hK => ?_); simp (disch := first | omega | (simp only [lnS]; try omega; done)) [-getElem?_pos, -getElem?_neg]; refine hK _ _ ?_; clear hK K)
  refine aw_seq ?_
  by_cases h : 0 ≤ z
  · by_cases h2 : z ≤ 7
    · (refine aw_ops (by kernel_rfl) (fun K hK => ?_); simp (disch := first | omega | (simp only [lnS]; try omega; done)) [-getElem?_pos, -getElem?_neg, h, h2]; refine hK _ _ ?_; clear hK K)
      (refine aw_ret ?_; simp (disch := first | omega | (simp only [lnS]; try omega; done)) [-getElem?_pos, -getElem?_neg, thenQ_ret, scopeQ_ret, inBlockQ_ret, RQ, resL, resV])
      simp [memI, h]; omega
    · (refine aw_ops (by kernel_rfl) (fun K hK => ?_); simp (disch := first | omega | (simp only [lnS]; try omega; done)) [-getElem?_pos, -getElem?_neg, h, h2]; refine hK _ _ ?_; clear hK K)
      (refine aw_ret ?_; simp (disch := first | omega | (simp only [lnS]; try omega; done)) [-getElem?_pos, -getElem?_neg, thenQ_ret, scopeQ_ret, inBlockQ_ret, RQ, resL, resV])
      simp [memI, h]; omega
  · (refine aw_ops (by kernel_rfl) (fun K hK => ?_); simp (disch := first | omega | (simp only [lnS]; try omega; done)) [-getElem?_pos, -getElem?_neg, h]; refine hK _ _ ?_; clear hK K)
    (refine aw_ret ?_; simp (disch := first | omega | (simp only [lnS]; try omega; done)) [-getElem?_pos, -getElem?_neg, thenQ_ret, scopeQ_ret, inBlockQ_ret, RQ, resL, resV])
    simp [memI, h]
theorem rRight_rc {γ : Nat → Option Nat} {H : AH} {us : List Value} {o : OpD} {pv wv bv : Value} (h : OpC H us o pv wv bv) (hw : o.Wf) : AC Try.prog H.length γ 31 #[.agg us.toArray] H (fun v' _ => v' = .bool (refO o)) := by
  have hul := h.len
  have htu : us.take 71 = us := List.take_of_length_le (by omega)
  have hps := hw.plen
  have hws := hw.wlen
  have hbs := hw.blen
  have hts := hw.text
  have hm63 : o.parents.length ≤ 9223372036854775807 ∧ o.who.length ≤ 9223372036854775807 ∧ o.boxes.length ≤ 9223372036854775807 ∧ o.text.size ≤ 9223372036854775807 := by simp only [maxLen] at hps hws hbs hts; omega
  obtain ⟨m1, m2, m3, m4⟩ := hm63
  refine ac_of_aw Try.func31 rfl Try.ntmps31 Try.results31 (by simp) ?_
  refine aw_seq ?_
  (refine aw_ops (by kernel_rfl) (fun K hK => ?_); simp (disch := first | omega | (simp only [lnS]; try omega; done)) [-getElem?_pos, -getElem?_neg, hul, nt_aggG]; refine hK _ _ ?_; clear hK K)
  obtain ⟨hlow, hb⟩ := boxed (H := H) us 37
  obtain ⟨n, hn⟩ : ∃ n, n = H.length := ⟨_, rfl⟩
  rw [← hn] at hb hlow ⊢
  generalize H ++ [some ⟨us, 37, none⟩] = G at *
  have hG : OpC G us o pv wv bv := h.low (fun j hj => hlow.1 j (by omega))
  have hpacc := hG.parents.acc (fun k hk => (hw.parents k hk).1)
  have hwacc := hG.who.acc
  have hbx := hG.boxes
  have hbnt := val_nt hbx
  have hblen := val_len (P := Try.prog) (t := 35) (e := 60) hbx (by kernel_rfl)
  rw [List.length_map] at hblen
  have c0 := hG.c0
  have c1 := hG.c1
  have c2 := hG.c2
  have c3 := hG.c3
  have c4 := hG.c4
  have c69 := hG.c69
  have c70 := hG.c70
  have p1 := hpacc.nt
  have p2 := hpacc.cs
  have p3 := hpacc.len
  have w1 := hwacc.nt
  have w2 := hwacc.cs
  have w3 := hwacc.len
  obtain ⟨b1, b2⟩ := hbnt
  have hx2 : xload Try.prog 30 (.pointer (some ⟨n, 2, none⟩)) G = some pv := by simp [xload, hb, c2]
  have hx4 : xload Try.prog 34 (.pointer (some ⟨n, 4, none⟩)) G = some wv := by simp [xload, hb, c4]
  have hx70 : xload Try.prog 35 (.pointer (some ⟨n, 70, none⟩)) G = some bv := by simp [xload, hb, c70]
  have hsq := hw.seq
  unfold U32 at hsq
  refine aw_seq ?_
  refine aw_seq ?_
  refine aw_cut (fun α G2 => α 44 = .bool (!hdO o) ∧ α 1 = .pointer (some ⟨n, 0, none⟩) ∧ G2 = G) ?_ ?_
  · refine aw_ops (by kernel_rfl) (fun K hK => ?_)
    simp (disch := first | omega | (simp only [lnS]; try omega; done)) [-getElem?_pos, -getElem?_neg, hb, hul, c0]
    refine ⟨by kernel_rfl, ac_of_vc (by simp [pv_iv, pv_int, pv_bool, pv_string, pv_tup2, pv_tup3, iv_plain, p2_int, p2_bool, p2_string]) (member_vc o.author) ?_⟩
    cases h1 : memI o.author with
    | false =>
      try simp (disch := first | omega | (simp only [lnS]; try omega; done)) [-getElem?_pos, -getElem?_neg]
      refine hK _ _ ?_; clear hK K
      exact ⟨by simp [hdO, h1, put_at], by (first | (simp [put_at, put_none, fr0_at]; done) | rfl), rfl⟩
    | true =>
    by_cases h2 : o.seq = 0
    · have h2b : (o.seq == 0) = true := by simp [h2]
      simp (disch := first | omega | (simp only [lnS]; try omega; done)) [-getElem?_pos, -getElem?_neg, hb, hul, c1, h2, h2b]
      refine hK _ _ ?_; clear hK K
      exact ⟨by simp [hdO, h1, h2, put_at], by (first | (simp [put_at, put_none, fr0_at]; done) | rfl), rfl⟩
    have h2b : (o.seq == 0) = false := by simp [h2]
    by_cases h3 : 1 ≤ o.kind
    case neg =>
      have h3b : o.kind < 1 := by omega
      simp (disch := first | omega | (simp only [lnS]; try omega; done)) [-getElem?_pos, -getElem?_neg, hb, hul, c1, c3, h2, h2b, h3b]
      refine hK _ _ ?_; clear hK K
      exact ⟨by simp [hdO, h1, h2, h3, put_at], by (first | (simp [put_at, put_none, fr0_at]; done) | rfl), rfl⟩
    have h3b : ¬ o.kind < 1 := by omega
    by_cases h4 : o.kind ≤ 7
    case neg =>
      have h4b : 7 < o.kind := by omega
      simp (disch := first | omega | (simp only [lnS]; try omega; done)) [-getElem?_pos, -getElem?_neg, hb, hul, c1, c3, h2, h2b, h3b, h4b]
      refine hK _ _ ?_; clear hK K
      exact ⟨by simp [hdO, h1, h2, h3, h4, put_at], by (first | (simp [put_at, put_none, fr0_at]; done) | rfl), rfl⟩
    have h4b : ¬ 7 < o.kind := by omega
    by_cases h5 : o.parents.length ≤ 8
    case neg =>
      have h5b : 8 < o.parents.length := by omega
      simp (disch := first | omega | (simp only [lnS]; try omega; done)) [-getElem?_pos, -getElem?_neg, hb, hul, c1, c2, c3, h2, h2b, h3b, h4b, h5b, -notTuple, p1, p2, nt_intG, nt_ptrG, -xlen, p3]
      refine hK _ _ ?_; clear hK K
      exact ⟨by simp [hdO, h1, h2, h3, h4, h5, put_at], by (first | (simp [put_at, put_none, fr0_at]; done) | rfl), rfl⟩
    have h5b : ¬ 8 < o.parents.length := by omega
    by_cases h6 : o.boxes.length ≤ 8
    case neg =>
      have h6b : 8 < o.boxes.length := by omega
      simp (disch := first | omega | (simp only [lnS]; try omega; done)) [-getElem?_pos, -getElem?_neg, hb, hul, c1, c2, c3, c70, h2, h2b, h3b, h4b, h5b, h6b, -notTuple, p1, p2, b1, b2, nt_intG, nt_ptrG, -xlen, p3, hblen]
      refine hK _ _ ?_; clear hK K
      exact ⟨by simp [hdO, h1, h2, h3, h4, h5, h6, put_at], by (first | (simp [put_at, put_none, fr0_at]; done) | rfl), rfl⟩
    have h6b : ¬ 8 < o.boxes.length := by omega
    have hxt : xlen Try.prog 9 (.string o.text) = some (.int .i64 o.text.size) := by simp [xlen]
    by_cases h7 : o.text.size ≤ 256
    · have h7b : ¬ 256 < o.text.size := by omega
      simp (disch := first | omega | (simp only [lnS]; try omega; done)) [-getElem?_pos, -getElem?_neg, hb, hul, c1, c2, c3, c69, c70, h2, h2b, h3b, h4b, h5b, h6b, h7b, -notTuple, p1, p2, b1, b2, nt_intG, nt_ptrG, nt_strG, -xlen, p3, hblen, hxt]
      refine hK _ _ ?_; clear hK K
      exact ⟨by simp [hdO, h1, h2, h3, h4, h5, h6, h7, put_at], by (first | (simp [put_at, put_none, fr0_at]; done) | rfl), rfl⟩
    · have h7b : 256 < o.text.size := by omega
      simp (disch := first | omega | (simp only [lnS]; try omega; done)) [-getElem?_pos, -getElem?_neg, hb, hul, c1, c2, c3, c69, c70, h2, h2b, h3b, h4b, h5b, h6b, h7b, -notTuple, p1, p2, b1, b2, nt_intG, nt_ptrG, nt_strG, -xlen, p3, hblen, hxt]
      refine hK _ _ ?_; clear hK K
      exact ⟨by simp [hdO, h1, h2, h3, h4, h5, h6, h7, put_at], by (first | (simp [put_at, put_none, fr0_at]; done) | rfl), rfl⟩
  rintro α G2 ⟨q44, q1, rfl⟩
  have hrf := refO_hd o
  cases hhd : hdO o with
  | false =>
    rw [hhd] at q44 hrf
    refine aw_t (by (first | (simp [eval_tmp, put_at, q44]; done) | (simp [eval_tmp, put_at, q44]; omega))) (by kernel_rfl) ?_
    refine aw_seq ?_
    (refine aw_ops (by kernel_rfl) (fun K hK => ?_); simp (disch := first | omega | (simp only [lnS]; try omega; done)) [-getElem?_pos, -getElem?_neg]; refine hK _ _ ?_; clear hK K)
    (refine aw_ret ?_; simp (disch := first | omega | (simp only [lnS]; try omega; done)) [-getElem?_pos, -getElem?_neg, thenQ_ret, scopeQ_ret, inBlockQ_ret, RQ, resL, resV])
    rw [hrf]; rfl
  | true =>
  rw [hhd, Bool.true_and] at hrf
  rw [hhd] at q44
  refine aw_f (by (first | (simp [eval_tmp, put_at, q44]; done) | (simp [eval_tmp, put_at, q44]; omega))) (by kernel_rfl) ?_
  refine aw_skip ?_
  -- the parents
  refine aw_seq ?_
  refine aw_seq ?_
  (refine aw_ops (by kernel_rfl) (fun K hK => ?_); simp (disch := first | omega | (simp only [lnS]; try omega; done)) [-getElem?_pos, -getElem?_neg]; refine hK _ _ ?_; clear hK K)
  refine aw_block ?_
  refine aw_loop (fun c α G => ∃ i : Nat, 1 ≤ i ∧ i + c = o.parents.length + 1 ∧ α 1 = .pointer (some ⟨n, 0, none⟩) ∧ α 3 = .int .i64 (i : Nat) ∧ G = G2 ∧ ∀ k, k + 1 < i → cmpL (o.parents.getD k []) (o.parents.getD (k + 1) []) < 0) o.parents.length ?_ ?_
  · exact ⟨1, by omega, by omega, by (first | (simp [put_at, put_none, fr0_at, q1]; done) | rfl), by (first | (simp [put_at, put_none, fr0_at]; done) | rfl), rfl, fun k hk => by omega⟩
  clear q1 q44
  rintro c α G ⟨i, hi1, hic, q1, q3, rfl, hpre⟩
  refine aw_seq ?_
  refine aw_seq ?_
  by_cases hi : i < o.parents.length
  case pos =>
    obtain ⟨x0, y0, r1, r2, r3, r4, r5⟩ := hpacc.at_ (i - 1) (by omega)
    obtain ⟨x1, y1, s1, s2, s3, s4, s5⟩ := hpacc.at_ i hi
    subst r4 s4
    have r5 := r5 G (Low.refl (Nat.le_refl _))
    have s5 := s5 G (Low.refl (Nat.le_refl _))
    have hk0 := hw.parents (o.parents.getD (i - 1) []) (by rw [List.getD_eq_getElem?_getD, List.getElem?_eq_getElem (show i - 1 < o.parents.length by omega)]; exact List.getElem_mem _)
    have hk1 := hw.parents (o.parents.getD i []) (by rw [List.getD_eq_getElem?_getD, List.getElem?_eq_getElem hi]; exact List.getElem_mem _)
    have hsub : (i : Int) - 1 = ((i - 1 : Nat) : Int) := by omega
    have hls := less_vc _ _ hk0.1 hk1.1 hk0.2 hk1.2
    have hgt := cmpL_gt hk1.2 hk0.2 (by rw [hk1.1, hk0.1])
    have hlt := cmpL_lt hk0.2 hk1.2 (by rw [hk1.1, hk0.1])
    have hnx : cmpL (o.parents.getD (i - 1) []) (o.parents.getD (i - 1 + 1) []) = cmpL (o.parents.getD (i - 1) []) (o.parents.getD i []) := by rw [show i - 1 + 1 = i by omega]
    (refine aw_ops (by kernel_rfl) (fun K hK => ?_); simp (disch := first | omega | (simp only [lnS]; try omega; done)) [-getElem?_pos, -getElem?_neg, q1, q3, hb, hul, c2, -notTuple, p1, p2, nt_intG, nt_ptrG, -xlen, p3, hi]; refine hK _ _ ?_; clear hK K)
    refine aw_t (by (first | (simp [eval_tmp, put_at, hi]; done) | (simp [eval_tmp, put_at, hi]; omega))) (by kernel_rfl) ?_
    refine aw_skip ?_
    refine aw_seq ?_
    refine aw_block ?_
    refine aw_seq ?_
    have e1 : (0 : Int) < cmpL (o.parents.getD i []) (o.parents.getD (i - 1) []) ↔ cmpL (o.parents.getD (i - 1) []) (o.parents.getD i []) < 0 := hgt.trans hlt.symm
    generalize hA : o.parents.getD (i - 1) [] = A at *
    generalize hB : o.parents.getD i [] = B at *
    (refine aw_plan [] [] [0, 1, 2, 3, 4, 5, 6, 7, 8, 9, 10, 11, 12] 13 0 (by kernel_rfl) (by kernel_rfl) (by kernel_rfl) (fun K hK => ?_)); simp only [sel, List.getElem?_cons_succ, List.getElem?_cons_zero, List.drop_succ_cons, List.drop_zero]; simp (disch := first | omega | (simp only [lnS]; try omega; done)) [-getElem?_pos, -getElem?_neg, q1, q3, hb, hul, c2, hsub, -notTuple, p1, p2, r1, s1, r3, s3, nt_intG, nt_ptrG, nt_aggG, -xindexAddr, r2, s2, -xload, hx2, r5, s5, PL_nil, plainB_lit, PL_cons, PLc_val, PLc_new, stepP_t, stepP_f, stepPC_n, stepPC_s, stepPX_s, stepPX_n, stepPV_n, stepPV_s, stepPA_t, stepPA_c, stepPA_l, stepPN_s, allocOp, reloc_sl, reloc_ptr, List.map_cons, List.map_nil, List.nil_append, List.append_assoc, List.cons_append, Nat.add_assoc]
    refine PLc_call (v := .bool (decide (0 < cmpL B A))) (by kernel_rfl) (fun L hL => ac_of_vc (by simp [pv_iv, pv_int, pv_bool, pv_string, pv_tup2, pv_tup3, iv_plain, p2_int, p2_bool, p2_string]) hls rfl) (by simp [pv_iv, pv_int, pv_bool, pv_string, pv_tup2, pv_tup3, iv_plain, p2_int, p2_bool, p2_string]) ?_
    by_cases hlt2 : 0 < cmpL B A
    · simp (disch := first | omega | (simp only [lnS]; try omega; done)) [-getElem?_pos, -getElem?_neg, hlt2, PL_nil, plainB_lit, PL_cons, PLc_val, PLc_new, stepP_t, stepP_f, stepPC_n, stepPC_s, stepPX_s, stepPX_n, stepPV_n, stepPV_s, stepPA_t, stepPA_c, stepPA_l, stepPN_s, allocOp, reloc_sl, reloc_ptr, List.map_cons, List.map_nil, List.nil_append, List.append_assoc, List.cons_append, Nat.add_assoc]
      refine hK _ _ ?_; clear hK K
      refine aw_f (by (first | (simp [eval_tmp, put_at, hlt2]; done) | (simp [eval_tmp, put_at, hlt2]; omega))) (by kernel_rfl) ?_
      refine aw_skip ?_
      (refine aw_ops (by kernel_rfl) (fun K hK => ?_); simp (disch := first | omega | (simp only [lnS]; try omega; done)) [-getElem?_pos, -getElem?_neg, q3]; refine hK _ _ ?_; clear hK K)
      refine ⟨c - 1, by omega, i + 1, by omega, by omega, by (first | (simp [put_at, put_none, fr0_at, q1]; done) | rfl), by (first | (simp [put_at, put_none, fr0_at]; done) | rfl), rfl, fun k hk => ?_⟩
      by_cases e : k = i - 1
      · subst e
        rw [hA, hnx]
        exact e1.1 hlt2
      · exact hpre k (by omega)
    · simp (disch := first | omega | (simp only [lnS]; try omega; done)) [-getElem?_pos, -getElem?_neg, hlt2, PL_nil, plainB_lit, PL_cons, PLc_val, PLc_new, stepP_t, stepP_f, stepPC_n, stepPC_s, stepPX_s, stepPX_n, stepPV_n, stepPV_s, stepPA_t, stepPA_c, stepPA_l, stepPN_s, allocOp, reloc_sl, reloc_ptr, List.map_cons, List.map_nil, List.nil_append, List.append_assoc, List.cons_append, Nat.add_assoc]
      refine hK _ _ ?_; clear hK K
      refine aw_t (by (first | (simp [eval_tmp, put_at, hlt2]; done) | (simp [eval_tmp, put_at, hlt2]; omega))) (by kernel_rfl) ?_
      refine aw_seq ?_
      (refine aw_ops (by kernel_rfl) (fun K hK => ?_); simp (disch := first | omega | (simp only [lnS]; try omega; done)) [-getElem?_pos, -getElem?_neg]; refine hK _ _ ?_; clear hK K)
      (refine aw_ret ?_; simp (disch := first | omega | (simp only [lnS]; try omega; done)) [-getElem?_pos, -getElem?_neg, thenQ_ret, scopeQ_ret, inBlockQ_ret, RQ, resL, resV])
      rw [hrf]
      have : risesK o.parents = false := by
        unfold risesK
        refine range_false (i := i - 1) (by omega) ?_
        rw [hA, hnx, decide_eq_false_iff_not]
        exact fun hh => hlt2 (e1.2 hh)
      rw [this]; rfl
  (refine aw_ops (by kernel_rfl) (fun K hK => ?_); simp (disch := first | omega | (simp only [lnS]; try omega; done)) [-getElem?_pos, -getElem?_neg, q1, q3, hb, hul, c2, -notTuple, p1, p2, nt_intG, nt_ptrG, -xlen, p3, hi]; refine hK _ _ ?_; clear hK K)
  refine aw_f (by (first | (simp [eval_tmp, put_at, hi]; done) | (simp [eval_tmp, put_at, hi]; omega))) (by kernel_rfl) ?_
  refine aw_exit ?_
  have hrK : risesK o.parents = true := by
    unfold risesK
    exact range_true fun k hk => by
      rw [decide_eq_true_eq]
      exact hpre k (by omega)
  rw [hrK, Bool.true_and] at hrf
  -- who
  refine aw_seq ?_
  (refine aw_ops (by kernel_rfl) (fun K hK => ?_); simp (disch := first | omega | (simp only [lnS]; try omega; done)) [-getElem?_pos, -getElem?_neg]; refine hK _ _ ?_; clear hK K)
  refine aw_seq ?_
  refine aw_seq ?_
  (refine aw_ops (by kernel_rfl) (fun K hK => ?_); simp (disch := first | omega | (simp only [lnS]; try omega; done)) [-getElem?_pos, -getElem?_neg]; refine hK _ _ ?_; clear hK K)
  refine aw_block ?_
  refine aw_loop (fun c α G2 => ∃ i : Nat, i + c = o.who.length ∧ α 1 = .pointer (some ⟨n, 0, none⟩) ∧ α 4 = .bool (decide (o.author ∈ o.who.take i)) ∧ α 5 = .int .i64 (i : Nat) ∧ G2 = G ∧ (∀ k z, k < i → o.who[k]? = some z → memI z = true) ∧ ∀ k, k + 1 < i → o.who.getD k 0 < o.who.getD (k + 1) 0) o.who.length ?_ ?_
  · exact ⟨0, by omega, by (first | (simp [put_at, put_none, fr0_at, q1]; done) | rfl), by simp [put_at], by (first | (simp [put_at, put_none, fr0_at]; done) | rfl), rfl, fun k z hk => by omega, fun k hk => by omega⟩
  clear q1 q3
  rintro c α G3 ⟨i, hic, q1, q4, q5, rfl, hmem, hrise⟩
  refine aw_seq ?_
  refine aw_seq ?_
  by_cases hi : i < o.who.length
  case pos =>
    obtain ⟨x1, y1, s1, s2, s3, s4, s5⟩ := hwacc.at_ i hi
    subst s4
    have s5 := s5 G3 (Low.refl (Nat.le_refl _))
    obtain ⟨z, hz⟩ : ∃ z, o.who[i]? = some z := ⟨_, List.getElem?_eq_getElem hi⟩
    have hzd : o.who.getD i 0 = z := getD_of hz
    have hzb := hw.who z (List.mem_of_getElem? hz)
    have htk : o.who.take (i + 1) = o.who.take i ++ [z] := by rw [List.take_add_one, hz]; rfl
    rw [hzd] at s5 s3
    (refine aw_ops (by kernel_rfl) (fun K hK => ?_); simp (disch := first | omega | (simp only [lnS]; try omega; done)) [-getElem?_pos, -getElem?_neg, q1, q5, hb, hul, c4, -notTuple, w1, w2, nt_intG, nt_ptrG, -xlen, w3, hi]; refine hK _ _ ?_; clear hK K)
    refine aw_t (by (first | (simp [eval_tmp, put_at, hi]; done) | (simp [eval_tmp, put_at, hi]; omega))) (by kernel_rfl) ?_
    refine aw_skip ?_
    refine aw_seq ?_
    refine aw_block ?_
    refine aw_seq ?_
    refine aw_cut (fun α G2 => α 1 = .pointer (some ⟨n, 0, none⟩) ∧ α 4 = .bool (decide (o.author ∈ o.who.take i)) ∧ α 5 = .int .i64 (i : Nat) ∧ G2 = G3 ∧ memI z = true ∧ (0 < i → o.who.getD (i - 1) 0 < z)) ?_ ?_
    · refine aw_seq ?_
      (refine aw_plan [] [] [0, 1, 2, 3, 4, 5, 6, 7, 8, 9, 10, 11, 12, 13, 14, 15, 16, 17, 18, 19, 20, 21, 22, 23, 24] 25 0 (by kernel_rfl) (by kernel_rfl) (by kernel_rfl) (fun K hK => ?_)); simp only [sel, List.getElem?_cons_succ, List.getElem?_cons_zero, List.drop_succ_cons, List.drop_zero]; simp (disch := first | omega | (simp only [lnS]; try omega; done)) [-getElem?_pos, -getElem?_neg, q1, q5, hb, hul, c4, -notTuple, w1, w2, s1, s3, nt_intG, nt_ptrG, -xindexAddr, s2, -xload, hx4, s5, PL_nil, plainB_lit, PL_cons, PLc_val, PLc_new, stepP_t, stepP_f, stepPC_n, stepPC_s, stepPX_s, stepPX_n, stepPV_n, stepPV_s, stepPA_t, stepPA_c, stepPA_l, stepPN_s, allocOp, reloc_sl, reloc_ptr, List.map_cons, List.map_nil, List.nil_append, List.append_assoc, List.cons_append, Nat.add_assoc]
      refine PLc_call (v := .bool (memI z)) (by kernel_rfl) (fun L hL => ac_of_vc (by simp [pv_iv, pv_int, pv_bool, pv_string, pv_tup2, pv_tup3, iv_plain, p2_int, p2_bool, p2_string]) (member_vc z) rfl) (by simp [pv_iv, pv_int, pv_bool, pv_string, pv_tup2, pv_tup3, iv_plain, p2_int, p2_bool, p2_string]) ?_
      have hbadW : (o.who.all memI && risesI o.who) = false → (risesK o.parents && ((o.who.all memI && risesI o.who) && (boxesB o && kindB o (decide (o.author ∈ o.who))))) = false := fun hh => by rw [hh]; simp
      cases hmz : memI z with
      | false =>
        simp (disch := first | omega | (simp only [lnS]; try omega; done)) [-getElem?_pos, -getElem?_neg, PL_nil, plainB_lit, PL_cons, PLc_val, PLc_new, stepP_t, stepP_f, stepPC_n, stepPC_s, stepPX_s, stepPX_n, stepPV_n, stepPV_s, stepPA_t, stepPA_c, stepPA_l, stepPN_s, allocOp, reloc_sl, reloc_ptr, List.map_cons, List.map_nil, List.nil_append, List.append_assoc, List.cons_append, Nat.add_assoc]
        refine hK _ _ ?_; clear hK K
        refine aw_t (by (first | (simp [eval_tmp, put_at]; done) | (simp [eval_tmp, put_at]; omega))) (by kernel_rfl) ?_
        refine aw_seq ?_
        (refine aw_ops (by kernel_rfl) (fun K hK => ?_); simp (disch := first | omega | (simp only [lnS]; try omega; done)) [-getElem?_pos, -getElem?_neg]; refine hK _ _ ?_; clear hK K)
        (refine aw_ret ?_; simp (disch := first | omega | (simp only [lnS]; try omega; done)) [-getElem?_pos, -getElem?_neg, thenQ_ret, scopeQ_ret, inBlockQ_ret, RQ, resL, resV])
        rw [hrf, all_false hz hmz]; simp
      | true =>
      by_cases hi0 : 0 < i
      case neg =>
        simp (disch := first | omega | (simp only [lnS]; try omega; done)) [-getElem?_pos, -getElem?_neg, q1, q5, hb, hul, c4, -notTuple, w1, w2, s1, s3, nt_intG, nt_ptrG, -xindexAddr, s2, -xload, hx4, s5, hi0, PL_nil, plainB_lit, PL_cons, PLc_val, PLc_new, stepP_t, stepP_f, stepPC_n, stepPC_s, stepPX_s, stepPX_n, stepPV_n, stepPV_s, stepPA_t, stepPA_c, stepPA_l, stepPN_s, allocOp, reloc_sl, reloc_ptr, List.map_cons, List.map_nil, List.nil_append, List.append_assoc, List.cons_append, Nat.add_assoc]
        refine hK _ _ ?_; clear hK K
        refine aw_f (by (first | (simp [eval_tmp, put_at]; done) | (simp [eval_tmp, put_at]; omega))) (by kernel_rfl) ?_
        refine aw_skip ?_
        exact ⟨by (first | (simp [put_at, put_none, fr0_at, q1]; done) | rfl), by (first | (simp [put_at, put_none, fr0_at, q4]; done) | rfl), by (first | (simp [put_at, put_none, fr0_at, q5]; done) | rfl), rfl, hmz, fun hh => absurd hh hi0⟩
      obtain ⟨x0, y0, r1, r2, r3, r4, r5⟩ := hwacc.at_ (i - 1) (by omega)
      subst r4
      have r5 := r5 G3 (Low.refl (Nat.le_refl _))
      have hsub : (i : Int) - 1 = ((i - 1 : Nat) : Int) := by omega
      obtain ⟨y, hy⟩ : ∃ y, o.who[i - 1]? = some y := ⟨_, List.getElem?_eq_getElem (by omega)⟩
      have hyd : o.who.getD (i - 1) 0 = y := getD_of hy
      rw [hyd] at r5 r3
      by_cases hyz : y < z
      · have hyz2 : ¬ z ≤ y := by omega
        simp (disch := first | omega | (simp only [lnS]; try omega; done)) [-getElem?_pos, -getElem?_neg, q1, q5, hb, hul, c4, -notTuple, w1, w2, s1, s3, nt_intG, nt_ptrG, -xindexAddr, s2, -xload, hx4, s5, hi0, hsub, r1, r3, r2, r5, hyz2, PL_nil, plainB_lit, PL_cons, PLc_val, PLc_new, stepP_t, stepP_f, stepPC_n, stepPC_s, stepPX_s, stepPX_n, stepPV_n, stepPV_s, stepPA_t, stepPA_c, stepPA_l, stepPN_s, allocOp, reloc_sl, reloc_ptr, List.map_cons, List.map_nil, List.nil_append, List.append_assoc, List.cons_append, Nat.add_assoc]
        refine hK _ _ ?_; clear hK K
        refine aw_f (by (first | (simp [eval_tmp, put_at, hyz2]; done) | (simp [eval_tmp, put_at, hyz2]; omega))) (by kernel_rfl) ?_
        refine aw_skip ?_
        exact ⟨by (first | (simp [put_at, put_none, fr0_at, q1]; done) | rfl), by (first | (simp [put_at, put_none, fr0_at, q4]; done) | rfl), by (first | (simp [put_at, put_none, fr0_at, q5]; done) | rfl), rfl, hmz, fun _ => by rw [hyd]; exact hyz⟩
      · have hyz2 : z ≤ y := by omega
        simp (disch := first | omega | (simp only [lnS]; try omega; done)) [-getElem?_pos, -getElem?_neg, q1, q5, hb, hul, c4, -notTuple, w1, w2, s1, s3, nt_intG, nt_ptrG, -xindexAddr, s2, -xload, hx4, s5, hi0, hsub, r1, r3, r2, r5, hyz2, PL_nil, plainB_lit, PL_cons, PLc_val, PLc_new, stepP_t, stepP_f, stepPC_n, stepPC_s, stepPX_s, stepPX_n, stepPV_n, stepPV_s, stepPA_t, stepPA_c, stepPA_l, stepPN_s, allocOp, reloc_sl, reloc_ptr, List.map_cons, List.map_nil, List.nil_append, List.append_assoc, List.cons_append, Nat.add_assoc]
        refine hK _ _ ?_; clear hK K
        refine aw_t (by (first | (simp [eval_tmp, put_at, hyz2]; done) | (simp [eval_tmp, put_at, hyz2]; omega))) (by kernel_rfl) ?_
        refine aw_seq ?_
        (refine aw_ops (by kernel_rfl) (fun K hK => ?_); simp (disch := first | omega | (simp only [lnS]; try omega; done)) [-getElem?_pos, -getElem?_neg]; refine hK _ _ ?_; clear hK K)
        (refine aw_ret ?_; simp (disch := first | omega | (simp only [lnS]; try omega; done)) [-getElem?_pos, -getElem?_neg, thenQ_ret, scopeQ_ret, inBlockQ_ret, RQ, resL, resV])
        have : risesI o.who = false := by
          unfold risesI
          refine range_false (i := i - 1) (by omega) ?_
          rw [decide_eq_false_iff_not, show i - 1 + 1 = i by omega, hyd, hzd, cmpI_lt]
          omega
        rw [hrf, this]; simp
    clear q1 q4 q5
    rintro α G4 ⟨q1, q4, q5, rfl, hmz, hrz⟩
    have hau : decide (o.author ∈ o.who.take (i + 1)) = (decide (o.author ∈ o.who.take i) || decide (z = o.author)) := by
      rw [htk, Bool.eq_iff_iff, Bool.or_eq_true, decide_eq_true_eq, decide_eq_true_eq, decide_eq_true_eq, List.mem_append, List.mem_singleton, eq_comm (a := o.author) (b := z)]
    have hm2 : ∀ k z, k < i + 1 → o.who[k]? = some z → memI z = true := fun k z' hk hz' => by
      by_cases e : k = i
      · subst e
        rw [hz] at hz'
        cases hz'
        exact hmz
      · exact hmem k z' (by omega) hz'
    have hr2 : ∀ k, k + 1 < i + 1 → o.who.getD k 0 < o.who.getD (k + 1) 0 := fun k hk => by
      by_cases e : k + 1 = i
      · rw [e, hzd, show k = i - 1 by omega]
        exact hrz (by omega)
      · exact hrise k (by omega)
    cases hd : decide (o.author ∈ o.who.take i) with
    | true =>
      rw [hd] at q4 hau
      (refine aw_plan [] [] [0, 1, 2, 3, 4, 5, 6, 7, 8, 9, 10, 11] 12 0 (by kernel_rfl) (by kernel_rfl) (by kernel_rfl) (fun K hK => ?_)); simp only [sel, List.getElem?_cons_succ, List.getElem?_cons_zero, List.drop_succ_cons, List.drop_zero]; simp (disch := first | omega | (simp only [lnS]; try omega; done)) [-getElem?_pos, -getElem?_neg, q1, q4, q5, hb, hul, PL_nil, plainB_lit, PL_cons, PLc_val, PLc_new, stepP_t, stepP_f, stepPC_n, stepPC_s, stepPX_s, stepPX_n, stepPV_n, stepPV_s, stepPA_t, stepPA_c, stepPA_l, stepPN_s, allocOp, reloc_sl, reloc_ptr, List.map_cons, List.map_nil, List.nil_append, List.append_assoc, List.cons_append, Nat.add_assoc]
      refine hK _ _ ?_; clear hK K
      (refine aw_ops (by kernel_rfl) (fun K hK => ?_); simp (disch := first | omega | (simp only [lnS]; try omega; done)) [-getElem?_pos, -getElem?_neg, q5]; refine hK _ _ ?_; clear hK K)
      refine ⟨c - 1, by omega, i + 1, by omega, by (first | (simp [put_at, put_none, fr0_at, q1]; done) | rfl), by rw [hau]; (first | (simp [put_at, put_none, fr0_at]; done) | rfl), by (first | (simp [put_at, put_none, fr0_at]; done) | rfl), rfl, hm2, hr2⟩
    | false =>
      rw [hd] at q4 hau
      have hx0 : xload Try.prog 3 (.pointer (some ⟨n, 0, none⟩)) G4 = some (.int .i64 o.author) := by simp [xload, hb, c0]
      by_cases hza : z = o.author
      · have hzab : (z == o.author) = true := by simp [hza]
        (refine aw_plan [] [] [0, 1, 2, 3, 4, 5, 6, 7, 8, 9, 10, 11] 12 0 (by kernel_rfl) (by kernel_rfl) (by kernel_rfl) (fun K hK => ?_)); simp only [sel, List.getElem?_cons_succ, List.getElem?_cons_zero, List.drop_succ_cons, List.drop_zero]; simp (disch := first | omega | (simp only [lnS]; try omega; done)) [-getElem?_pos, -getElem?_neg, q1, q4, q5, hb, hul, -notTuple, w1, w2, s1, s3, nt_intG, nt_ptrG, -xindexAddr, s2, -xload, hx4, hx0, s5, hza, hzab, PL_nil, plainB_lit, PL_cons, PLc_val, PLc_new, stepP_t, stepP_f, stepPC_n, stepPC_s, stepPX_s, stepPX_n, stepPV_n, stepPV_s, stepPA_t, stepPA_c, stepPA_l, stepPN_s, allocOp, reloc_sl, reloc_ptr, List.map_cons, List.map_nil, List.nil_append, List.append_assoc, List.cons_append, Nat.add_assoc]
        refine hK _ _ ?_; clear hK K
        (refine aw_ops (by kernel_rfl) (fun K hK => ?_); simp (disch := first | omega | (simp only [lnS]; try omega; done)) [-getElem?_pos, -getElem?_neg, q5]; refine hK _ _ ?_; clear hK K)
        refine ⟨c - 1, by omega, i + 1, by omega, by (first | (simp [put_at, put_none, fr0_at, q1]; done) | rfl), by rw [hau]; simp [put_at, hza], by (first | (simp [put_at, put_none, fr0_at]; done) | rfl), rfl, hm2, hr2⟩
      · have hzab : (z == o.author) = false := by simp [hza]
        (refine aw_plan [] [] [0, 1, 2, 3, 4, 5, 6, 7, 8, 9, 10, 11] 12 0 (by kernel_rfl) (by kernel_rfl) (by kernel_rfl) (fun K hK => ?_)); simp only [sel, List.getElem?_cons_succ, List.getElem?_cons_zero, List.drop_succ_cons, List.drop_zero]; simp (disch := first | omega | (simp only [lnS]; try omega; done)) [-getElem?_pos, -getElem?_neg, q1, q4, q5, hb, hul, -notTuple, w1, w2, s1, s3, nt_intG, nt_ptrG, -xindexAddr, s2, -xload, hx4, hx0, s5, hza, hzab, PL_nil, plainB_lit, PL_cons, PLc_val, PLc_new, stepP_t, stepP_f, stepPC_n, stepPC_s, stepPX_s, stepPX_n, stepPV_n, stepPV_s, stepPA_t, stepPA_c, stepPA_l, stepPN_s, allocOp, reloc_sl, reloc_ptr, List.map_cons, List.map_nil, List.nil_append, List.append_assoc, List.cons_append, Nat.add_assoc]
        refine hK _ _ ?_; clear hK K
        (refine aw_ops (by kernel_rfl) (fun K hK => ?_); simp (disch := first | omega | (simp only [lnS]; try omega; done)) [-getElem?_pos, -getElem?_neg, q5]; refine hK _ _ ?_; clear hK K)
        refine ⟨c - 1, by omega, i + 1, by omega, by (first | (simp [put_at, put_none, fr0_at, q1]; done) | rfl), by rw [hau]; simp [put_at, hza], by (first | (simp [put_at, put_none, fr0_at]; done) | rfl), rfl, hm2, hr2⟩
  (refine aw_ops (by kernel_rfl) (fun K hK => ?_); simp (disch := first | omega | (simp only [lnS]; try omega; done)) [-getElem?_pos, -getElem?_neg, q1, q5, hb, hul, c4, -notTuple, w1, w2, nt_intG, nt_ptrG, -xlen, w3, hi]; refine hK _ _ ?_; clear hK K)
  refine aw_f (by (first | (simp [eval_tmp, put_at, hi]; done) | (simp [eval_tmp, put_at, hi]; omega))) (by kernel_rfl) ?_
  refine aw_exit ?_
  obtain rfl : i = o.who.length := by omega
  rw [List.take_length] at q4
  have hW : (o.who.all memI && risesI o.who) = true := by
    rw [all_take (fun k z hz => hmem k z (List.getElem?_eq_some_iff.1 hz).1 hz), Bool.true_and]
    unfold risesI
    exact range_true fun k hk => by
      rw [decide_eq_true_eq, cmpI_lt]
      exact hrise k (by omega)
  rw [hW, Bool.true_and] at hrf
  -- boxes
  refine aw_seq ?_
  refine aw_seq ?_
  (refine aw_ops (by kernel_rfl) (fun K hK => ?_); simp (disch := first | omega | (simp only [lnS]; try omega; done)) [-getElem?_pos, -getElem?_neg]; refine hK _ _ ?_; clear hK K)
  refine aw_block ?_
  refine aw_loop (fun c α G2 => ∃ i : Nat, i + c = o.boxes.length ∧ α 1 = .pointer (some ⟨n, 0, none⟩) ∧ α 4 = .bool (decide (o.author ∈ o.who)) ∧ α 6 = .int .i64 (i : Nat) ∧ Low G3.length G3 G2 ∧ (∀ k z, k < i → o.boxes[k]? = some z → boxB o.author z = true) ∧ ∀ k, k + 1 < i → (o.boxes.map BoxD.to).getD k 0 < (o.boxes.map BoxD.to).getD (k + 1) 0) o.boxes.length ?_ ?_
  · exact ⟨0, by omega, by (first | (simp [put_at, put_none, fr0_at, q1]; done) | rfl), by (first | (simp [put_at, put_none, fr0_at, q4]; done) | rfl), by (first | (simp [put_at, put_none, fr0_at]; done) | rfl), Low.refl (Nat.le_refl _), fun k z hk => by omega, fun k hk => by omega⟩
  clear q1 q4 q5
  rintro c α G4 ⟨i, hic, q1, q4, q6, low4, hbox, hrise2⟩
  have hb4 := (low4.1 n (hget_lt hb)).trans hb
  have hle4 := low4.2
  have hlG3 := hget_lt hb
  refine aw_seq ?_
  refine aw_seq ?_
  by_cases hi : i < o.boxes.length
  case neg =>
    (refine aw_ops (by kernel_rfl) (fun K hK => ?_); simp (disch := first | omega | (simp only [lnS]; try omega; done)) [-getElem?_pos, -getElem?_neg, q1, q6, hb4, hul, c70, -notTuple, b1, b2, nt_intG, nt_ptrG, -xlen, hblen, hi]; refine hK _ _ ?_; clear hK K)
    refine aw_f (by (first | (simp [eval_tmp, put_at, hi]; done) | (simp [eval_tmp, put_at, hi]; omega))) (by kernel_rfl) ?_
    refine aw_exit ?_
    obtain rfl : i = o.boxes.length := by omega
    have hB : boxesB o = true := by
      unfold boxesB risesX
      rw [all_take (fun k z hz => hbox k z (List.getElem?_eq_some_iff.1 hz).1 hz), Bool.true_and]
      exact range_true fun k hk => by
        rw [decide_eq_true_eq, cmpI_lt]
        exact hrise2 k (by omega)
    rw [hB, Bool.true_and] at hrf
    have hO4 : OpC G4 us o pv wv bv := hG.low low4.1
    have hkd := rkind_rc (γ := γ) hO4 hw (decide (o.author ∈ o.who))
    refine aw_seq ?_
    refine aw_ops (by kernel_rfl) (fun K hK => ?_)
    simp (disch := first | omega | (simp only [lnS]; try omega; done)) [-getElem?_pos, -getElem?_neg, q1, q4, hb4, hul, htu, nt_aggG]
    refine ⟨by kernel_rfl, ac_of_rc hkd (by simp [pv_iv, pv_int, pv_bool, pv_string, pv_tup2, pv_tup3, iv_plain, p2_int, p2_bool, p2_string]) ?_⟩
    try simp (disch := first | omega | (simp only [lnS]; try omega; done)) [-getElem?_pos, -getElem?_neg]
    refine hK _ _ ?_; clear hK K
    (refine aw_ret ?_; simp (disch := first | omega | (simp only [lnS]; try omega; done)) [-getElem?_pos, -getElem?_neg, thenQ_ret, scopeQ_ret, inBlockQ_ret, RQ, resL, resV])
    rw [hrf]
  obtain ⟨z, hz⟩ : ∃ z, o.boxes[i]? = some z := ⟨_, List.getElem?_eq_getElem hi⟩
  obtain ⟨j, q, bb, ws, hxa, hbb, hq, hws, hcl, hC⟩ := hbx.row_at hw.boxes hz
  have hbb4 := (low4.1 j (hget_lt hbb)).trans hbb
  have hwl := hC.len
  have d0 := hC.c0
  have d35 := hC.c35
  have hws' := hws.symm
  clear hws
  have hset2 : ∀ Z : List Value, Z.length = 36 → setR Z 0 ws = ws := fun Z hZ => setR_all _ _ (by omega)
  have hzw := hw.boxes z (List.mem_of_getElem? hz)
  have hzb := hzw.body
  have hzt := hzw.to
  have htd : (o.boxes.map BoxD.to).getD i 0 = z.to := getD_of (by rw [List.getElem?_map, hz]; rfl)
  have hnG : n ≤ G4.length := by omega
  (refine aw_ops (by kernel_rfl) (fun K hK => ?_); simp (disch := first | omega | (simp only [lnS]; try omega; done)) [-getElem?_pos, -getElem?_neg, q1, q6, hb4, hul, c70, -notTuple, b1, b2, nt_intG, nt_ptrG, -xlen, hblen, hi]; refine hK _ _ ?_; clear hK K)
  refine aw_t (by (first | (simp [eval_tmp, put_at, hi]; done) | (simp [eval_tmp, put_at, hi]; omega))) (by kernel_rfl) ?_
  refine aw_skip ?_
  refine aw_seq ?_
  refine aw_block ?_
  refine aw_seq ?_
  (refine aw_ops (by kernel_rfl) (fun K hK => ?_); simp (disch := first | omega | (simp only [lnS]; try omega; done)) [-getElem?_pos, -getElem?_neg, q1, q6, hb4, hul, c70, -notTuple, b1, b2, nt_intG, nt_ptrG, nt_aggG, -xindexAddr, hxa, hbb4, hws', hwl, hq, hnG, all_zl, hset2]; refine hK _ _ ?_; clear hK K)
  obtain ⟨low5, hbg⟩ := boxed (H := G4) ws 60
  obtain ⟨g, hg⟩ : ∃ g, g = G4.length := ⟨_, rfl⟩
  rw [← hg] at hbg ⊢
  generalize G4 ++ [some ⟨ws, 60, none⟩] = G5 at *
  have hb5 := (low5.1 n (by omega)).trans hb4
  have hxA : xload Try.prog 3 (.pointer (some ⟨n, 0, none⟩)) G5 = some (.int .i64 o.author) := by simp [xload, hb5, c0]
  have hxT : xload Try.prog 3 (.pointer (some ⟨g, 0, none⟩)) G5 = some (.int .i64 z.to) := by simp [xload, hbg, d0]
  have hxB : xload Try.prog 9 (.pointer (some ⟨g, 35, none⟩)) G5 = some (.string z.body) := by simp [xload, hbg, d35]
  have hx70 : xload Try.prog 35 (.pointer (some ⟨n, 70, none⟩)) G5 = some bv := by simp [xload, hb5, c70]
  have hxt : xlen Try.prog 9 (.string z.body) = some (.int .i64 z.body.size) := by simp [xlen]
  have hzb2 : z.body.size ≤ 9223372036854775807 := by simp only [maxLen] at hzb; omega
  have low45 : Low G3.length G3 G5 := ⟨fun j hj => (low5.1 j (by omega)).trans (low4.1 j hj), by have := low5.2; omega⟩
  have q6' := q6
  have hbadB : boxB o.author z = false → boxesB o = false := fun hh => by unfold boxesB; rw [all_false hz hh]; rfl
  refine aw_seq ?_
  have hnextI : ∀ w : Int, (o.boxes.map BoxD.to).getD (i - 1) 0 = w → True := fun _ _ => trivial
  refine aw_cut (fun α G2 => α 152 = .bool (!(boxB o.author z && (decide (i = 0) || decide ((o.boxes.map BoxD.to).getD (i - 1) 0 < z.to)))) ∧ α 1 = .pointer (some ⟨n, 0, none⟩) ∧ α 4 = .bool (decide (o.author ∈ o.who)) ∧ α 6 = .int .i64 (i : Nat) ∧ G2 = G5) ?_ ?_
  · (refine aw_plan [] [] [0, 1, 2, 3, 4, 5, 6, 7, 8, 9, 10, 11, 12, 13, 14, 15, 16, 17, 18, 19, 20, 21, 22, 23, 24, 25, 26, 27, 28, 29, 30, 31, 32] 33 0 (by kernel_rfl) (by kernel_rfl) (by kernel_rfl) (fun K hK => ?_)); simp only [sel, List.getElem?_cons_succ, List.getElem?_cons_zero, List.drop_succ_cons, List.drop_zero]; simp (disch := first | omega | (simp only [lnS]; try omega; done)) [-getElem?_pos, -getElem?_neg, q1, q6, hb, hul, c70, hbg, hwl, d0, d35, -notTuple, b1, b2, nt_intG, nt_ptrG, nt_strG, -xlen, hxt, -xload, hxA, hxT, hxB, hx70, PL_nil, plainB_lit, PL_cons, PLc_val, PLc_new, stepP_t, stepP_f, stepPC_n, stepPC_s, stepPX_s, stepPX_n, stepPV_n, stepPV_s, stepPA_t, stepPA_c, stepPA_l, stepPN_s, allocOp, reloc_sl, reloc_ptr, List.map_cons, List.map_nil, List.nil_append, List.append_assoc, List.cons_append, Nat.add_assoc]
    refine PLc_call (v := .bool (memI z.to)) (by kernel_rfl) (fun L hL => ac_of_vc (by simp [pv_iv, pv_int, pv_bool, pv_string, pv_tup2, pv_tup3, iv_plain, p2_int, p2_bool, p2_string]) (member_vc z.to) rfl) (by simp [pv_iv, pv_int, pv_bool, pv_string, pv_tup2, pv_tup3, iv_plain, p2_int, p2_bool, p2_string]) ?_
    cases k1 : memI z.to with
    | false =>
      simp (disch := first | omega | (simp only [lnS]; try omega; done)) [-getElem?_pos, -getElem?_neg, PL_nil, plainB_lit, PL_cons, PLc_val, PLc_new, stepP_t, stepP_f, stepPC_n, stepPC_s, stepPX_s, stepPX_n, stepPV_n, stepPV_s, stepPA_t, stepPA_c, stepPA_l, stepPN_s, allocOp, reloc_sl, reloc_ptr, List.map_cons, List.map_nil, List.nil_append, List.append_assoc, List.cons_append, Nat.add_assoc]
      refine hK _ _ ?_; clear hK K
      exact ⟨by simp [boxB, k1, put_at], by (first | (simp [put_at, put_none, fr0_at, q1]; done) | rfl), by (first | (simp [put_at, put_none, fr0_at, q4]; done) | rfl), by (first | (simp [put_at, put_none, fr0_at, q6]; done) | rfl), rfl⟩
    | true =>
    by_cases k2 : z.to = o.author
    · have k2b : (z.to == o.author) = true := by simp [k2]
      simp (disch := first | omega | (simp only [lnS]; try omega; done)) [-getElem?_pos, -getElem?_neg, q1, q6, hb, hul, c70, hbg, hwl, d0, d35, -notTuple, b1, b2, nt_intG, nt_ptrG, nt_strG, -xlen, hxt, -xload, hxA, hxT, hxB, hx70, k2, k2b, PL_nil, plainB_lit, PL_cons, PLc_val, PLc_new, stepP_t, stepP_f, stepPC_n, stepPC_s, stepPX_s, stepPX_n, stepPV_n, stepPV_s, stepPA_t, stepPA_c, stepPA_l, stepPN_s, allocOp, reloc_sl, reloc_ptr, List.map_cons, List.map_nil, List.nil_append, List.append_assoc, List.cons_append, Nat.add_assoc]
      refine hK _ _ ?_; clear hK K
      exact ⟨by simp [boxB, k1, k2, put_at], by (first | (simp [put_at, put_none, fr0_at, q1]; done) | rfl), by (first | (simp [put_at, put_none, fr0_at, q4]; done) | rfl), by (first | (simp [put_at, put_none, fr0_at, q6]; done) | rfl), rfl⟩
    have k2b : (z.to == o.author) = false := by simp [k2]
    by_cases k3 : z.body.size ≤ 256
    case neg =>
      have k3b : 256 < z.body.size := by omega
      simp (disch := first | omega | (simp only [lnS]; try omega; done)) [-getElem?_pos, -getElem?_neg, q1, q6, hb, hul, c70, hbg, hwl, d0, d35, -notTuple, b1, b2, nt_intG, nt_ptrG, nt_strG, -xlen, hxt, -xload, hxA, hxT, hxB, hx70, k2, k2b, k3b, PL_nil, plainB_lit, PL_cons, PLc_val, PLc_new, stepP_t, stepP_f, stepPC_n, stepPC_s, stepPX_s, stepPX_n, stepPV_n, stepPV_s, stepPA_t, stepPA_c, stepPA_l, stepPN_s, allocOp, reloc_sl, reloc_ptr, List.map_cons, List.map_nil, List.nil_append, List.append_assoc, List.cons_append, Nat.add_assoc]
      refine hK _ _ ?_; clear hK K
      exact ⟨by simp [boxB, k1, k2, k3, put_at], by (first | (simp [put_at, put_none, fr0_at, q1]; done) | rfl), by (first | (simp [put_at, put_none, fr0_at, q4]; done) | rfl), by (first | (simp [put_at, put_none, fr0_at, q6]; done) | rfl), rfl⟩
    have k3b : ¬ 256 < z.body.size := by omega
    by_cases hi0 : 0 < i
    case neg =>
      have hi0e : i = 0 := by omega
      simp (disch := first | omega | (simp only [lnS]; try omega; done)) [-getElem?_pos, -getElem?_neg, q1, q6, hb, hul, c70, hbg, hwl, d0, d35, -notTuple, b1, b2, nt_intG, nt_ptrG, nt_strG, -xlen, hxt, -xload, hxA, hxT, hxB, hx70, k2, k2b, k3b, hi0, PL_nil, plainB_lit, PL_cons, PLc_val, PLc_new, stepP_t, stepP_f, stepPC_n, stepPC_s, stepPX_s, stepPX_n, stepPV_n, stepPV_s, stepPA_t, stepPA_c, stepPA_l, stepPN_s, allocOp, reloc_sl, reloc_ptr, List.map_cons, List.map_nil, List.nil_append, List.append_assoc, List.cons_append, Nat.add_assoc]
      refine hK _ _ ?_; clear hK K
      exact ⟨by simp [boxB, k1, k2, k3, hi0e, put_at], by (first | (simp [put_at, put_none, fr0_at, q1]; done) | rfl), by (first | (simp [put_at, put_none, fr0_at, q4]; done) | rfl), by (first | (simp [put_at, put_none, fr0_at, q6]; done) | rfl), rfl⟩
    have hi0n : ¬ i = 0 := by omega
    obtain ⟨y, hy⟩ : ∃ y, o.boxes[i - 1]? = some y := ⟨_, List.getElem?_eq_getElem (by omega)⟩
    obtain ⟨j', q', bb', ws', hxa', hbb', hq', hws2, hcl', hC'⟩ := hbx.row_at hw.boxes hy
    have hbb5 := (low45.1 j' (hget_lt hbb')).trans hbb'
    have htd' : (o.boxes.map BoxD.to).getD (i - 1) 0 = y.to := getD_of (by rw [List.getElem?_map, hy]; rfl)
    have e0 := (hcl' 0 (by omega)).trans hC'.c0
    have hxY : xload Try.prog 3 (.pointer (some ⟨j', q', none⟩)) G5 = some (.int .i64 y.to) := by simp [xload, hbb5]; simpa using e0
    have hsub : (i : Int) - 1 = ((i - 1 : Nat) : Int) := by omega
    by_cases k4 : y.to < z.to
    · have k4b : ¬ z.to ≤ y.to := by omega
      simp (disch := first | omega | (simp only [lnS]; try omega; done)) [-getElem?_pos, -getElem?_neg, q1, q6, hb, hul, c70, hbg, hwl, d0, d35, -notTuple, b1, b2, nt_intG, nt_ptrG, nt_strG, -xlen, hxt, -xload, hxA, hxT, hxB, hx70, k2, k2b, k3b, hi0, hsub, -xindexAddr, hxa', hxY, k4b, PL_nil, plainB_lit, PL_cons, PLc_val, PLc_new, stepP_t, stepP_f, stepPC_n, stepPC_s, stepPX_s, stepPX_n, stepPV_n, stepPV_s, stepPA_t, stepPA_c, stepPA_l, stepPN_s, allocOp, reloc_sl, reloc_ptr, List.map_cons, List.map_nil, List.nil_append, List.append_assoc, List.cons_append, Nat.add_assoc]
      refine hK _ _ ?_; clear hK K
      exact ⟨by simp only [htd']; simp [boxB, k1, k2, k3, hi0n, k4, put_at], by (first | (simp [put_at, put_none, fr0_at, q1]; done) | rfl), by (first | (simp [put_at, put_none, fr0_at, q4]; done) | rfl), by (first | (simp [put_at, put_none, fr0_at, q6]; done) | rfl), rfl⟩
    · have k4b : z.to ≤ y.to := by omega
      simp (disch := first | omega | (simp only [lnS]; try omega; done)) [-getElem?_pos, -getElem?_neg, q1, q6, hb, hul, c70, hbg, hwl, d0, d35, -notTuple, b1, b2, nt_intG, nt_ptrG, nt_strG, -xlen, hxt, -xload, hxA, hxT, hxB, hx70, k2, k2b, k3b, hi0, hsub, -xindexAddr, hxa', hxY, k4b, PL_nil, plainB_lit, PL_cons, PLc_val, PLc_new, stepP_t, stepP_f, stepPC_n, stepPC_s, stepPX_s, stepPX_n, stepPV_n, stepPV_s, stepPA_t, stepPA_c, stepPA_l, stepPN_s, allocOp, reloc_sl, reloc_ptr, List.map_cons, List.map_nil, List.nil_append, List.append_assoc, List.cons_append, Nat.add_assoc]
      refine hK _ _ ?_; clear hK K
      exact ⟨by simp only [htd']; simp [boxB, k1, k2, k3, hi0n, k4, put_at], by (first | (simp [put_at, put_none, fr0_at, q1]; done) | rfl), by (first | (simp [put_at, put_none, fr0_at, q4]; done) | rfl), by (first | (simp [put_at, put_none, fr0_at, q6]; done) | rfl), rfl⟩
  clear q1 q4 q6 q6'
  rintro α G6 ⟨q152, q1, q4, q6, rfl⟩
  cases hgood : (boxB o.author z && (decide (i = 0) || decide ((o.boxes.map BoxD.to).getD (i - 1) 0 < z.to))) with
  | false =>
    rw [hgood] at q152
    refine aw_t (by (first | (simp [eval_tmp, put_at, q152]; done) | (simp [eval_tmp, put_at, q152]; omega))) (by kernel_rfl) ?_
    refine aw_seq ?_
    (refine aw_ops (by kernel_rfl) (fun K hK => ?_); simp (disch := first | omega | (simp only [lnS]; try omega; done)) [-getElem?_pos, -getElem?_neg]; refine hK _ _ ?_; clear hK K)
    (refine aw_ret ?_; simp (disch := first | omega | (simp only [lnS]; try omega; done)) [-getElem?_pos, -getElem?_neg, thenQ_ret, scopeQ_ret, inBlockQ_ret, RQ, resL, resV])
    have hBf : boxesB o = false := by
      rw [Bool.and_eq_false_iff] at hgood
      rcases hgood with hh | hh
      · exact hbadB hh
      · rw [Bool.or_eq_false_iff, decide_eq_false_iff_not, decide_eq_false_iff_not] at hh
        unfold boxesB
        have : risesX o.boxes = false := by
          unfold risesX
          refine range_false (i := i - 1) (by omega) ?_
          rw [decide_eq_false_iff_not, show i - 1 + 1 = i by omega, htd, cmpI_lt]
          exact hh.2
        rw [this, Bool.and_false]
    rw [hrf, hBf]; rfl
  | true =>
    rw [hgood] at q152
    refine aw_f (by (first | (simp [eval_tmp, put_at, q152]; done) | (simp [eval_tmp, put_at, q152]; omega))) (by kernel_rfl) ?_
    refine aw_skip ?_
    rw [Bool.and_eq_true, Bool.or_eq_true, decide_eq_true_eq, decide_eq_true_eq] at hgood
    (refine aw_ops (by kernel_rfl) (fun K hK => ?_); simp (disch := first | omega | (simp only [lnS]; try omega; done)) [-getElem?_pos, -getElem?_neg, q6]; refine hK _ _ ?_; clear hK K)
    refine ⟨c - 1, by omega, i + 1, by omega, by (first | (simp [put_at, put_none, fr0_at, q1]; done) | rfl), by (first | (simp [put_at, put_none, fr0_at, q4]; done) | rfl), by (first | (simp [put_at, put_none, fr0_at]; done) | rfl), low45, fun k z' hk hz' => ?_, fun k hk => ?_⟩
    · by_cases e : k = i
      · subst e
        rw [hz] at hz'
        cases hz'
        exact hgood.1
      · exact hbox k z' (by omega) hz'
    · by_cases e : k + 1 = i
      · rw [e, htd, show k = i - 1 by omega]
        rcases hgood.2 with hh | hh
        · omega
        · exact hh
      · exact hrise2 k (by omega)
end
section
section
variable {l : List NodeD}
theorem right_step (h : rightG l = true) {i : Nat} (hi : i < l.length) : stepB l i = true := by
  unfold rightG at h
  rw [Bool.and_eq_true, List.all_eq_true] at h
  exact h.2 i (List.mem_range.2 hi)
theorem step_iff {i : Nat} : stepB l i = true ↔ ((nd l i).op.parents.all (fun p => (findN l i p).isSome) = true ∧ rightO (nd l i).op = true ∧ findN l i (nd l i).id = none ∧ (nd l i).past = pastL l i (nd l i).op.parents ∧ turnB l i (nd l i).op (nd l i).past = true) := by
  unfold stepB
  rw [Bool.and_eq_true, Bool.and_eq_true, Bool.and_eq_true, Bool.and_eq_true, decide_eq_true_eq, Option.isNone_iff_eq_none]
theorem right_past (h : rightG l = true) {i : Nat} (hi : i < l.length) : (nd l i).past = pastL l i (nd l i).op.parents := (step_iff.1 (right_step h hi)).2.2.2.1
theorem right_op (h : rightG l = true) {i : Nat} (hi : i < l.length) : rightO (nd l i).op = true := (step_iff.1 (right_step h hi)).2.1
theorem right_fresh (h : rightG l = true) {i : Nat} (hi : i < l.length) : findN l i (nd l i).id = none := (step_iff.1 (right_step h hi)).2.2.1
theorem right_turn (h : rightG l = true) {i : Nat} (hi : i < l.length) : turnB l i (nd l i).op (nd l i).past = true := (step_iff.1 (right_step h hi)).2.2.2.2
theorem right_par (h : rightG l = true) {i : Nat} (hi : i < l.length) {p : List Int} (hp : p ∈ (nd l i).op.parents) : ∃ a, findN l i p = some a := by
  have := (step_iff.1 (right_step h hi)).1
  rw [List.all_eq_true] at this
  exact Option.isSome_iff_exists.1 (this p hp)
theorem pastL_bd {n : Nat} {ps : List (List Int)} {z : Int} (h : z ∈ pastL l n ps) : ∃ k : Nat, z = k ∧ k < n ∧ inB l n ps k = true := by
  unfold pastL at h
  obtain ⟨k, hk, rfl⟩ := List.mem_map.1 h
  rw [List.mem_filter, List.mem_range] at hk
  exact ⟨k, rfl, hk.1, hk.2⟩
theorem past_bd (h : rightG l = true) {i : Nat} (hi : i < l.length) {z : Int} (hz : z ∈ (nd l i).past) : ∃ k : Nat, z = k ∧ k < i := by
  rw [right_past h hi] at hz
  obtain ⟨k, e, hk, _⟩ := pastL_bd hz
  exact ⟨k, e, hk⟩
theorem pastL_length (l : List NodeD) (n : Nat) (ps : List (List Int)) : (pastL l n ps).length ≤ n := by
  unfold pastL
  rw [List.length_map]
  exact Nat.le_trans (List.length_filter_le _ _) (by simp)
theorem past_len (h : rightG l = true) {i : Nat} (hi : i < l.length) : (nd l i).past.length ≤ i := by
  rw [right_past h hi]; exact pastL_length _ _ _
theorem rightO_sm {o : OpD} (h : rightO o = true) : o.parents.length ≤ 8 ∧ o.who.length ≤ 8 ∧ o.boxes.length ≤ 8 := by
  rw [← refO_eq] at h
  unfold refO at h
  simp only [Bool.and_eq_true, decide_eq_true_eq, List.all_eq_true] at h
  refine ⟨h.2.2.2.2.1, ?_, h.2.2.2.2.2.1⟩
  obtain ⟨hm, hr⟩ := h.2.2.2.2.2.2.2.2.1
  refine rise_len hm (fun i hi => ?_)
  unfold risesI at hr
  rw [List.all_eq_true] at hr
  have := hr i (List.mem_range.2 (by omega))
  rwa [decide_eq_true_eq, cmpI_lt] at this
theorem rightO_author {o : OpD} (h : rightO o = true) : 0 ≤ o.author ∧ o.author < 8 := by
  unfold rightO at h
  simp only [Bool.and_eq_true] at h
  have := h.2.2.1
  unfold memI at this
  simpa using this
theorem right_sm (h : rightG l = true) : ∀ x ∈ l, SmN x := fun x hx => by
  obtain ⟨i, hi⟩ := List.getElem?_of_mem hx
  have hil := (List.getElem?_eq_some_iff.1 hi).1
  have e := nd_eq hi
  have h1 := rightO_sm (right_op h hil)
  have h2 := past_len h hil
  have h3 := rightG_len h
  rw [e] at h1 h2
  exact ⟨⟨by omega, by omega, by omega⟩, by omega⟩
theorem findN_none {n a : Nat} {k : List Int} (h : findN l n k = none) (ha : a < n) : (nd l a).id ≠ k := by
  unfold findN at h
  rw [List.find?_eq_none] at h
  have := h a (List.mem_range.2 ha)
  simpa using this
theorem ids_ne (h : rightG l = true) {i j : Nat} (hij : i < j) (hj : j < l.length) : (nd l i).id ≠ (nd l j).id := findN_none (right_fresh h hj) hij
theorem author_ahead (h : rightG l = true) {i j : Nat} (hij : i < j) (hj : j < l.length) (he : (nd l i).op.author = (nd l j).op.author) : (i : Int) ∈ (nd l j).past := by
  have := right_turn h hj
  unfold turnB autA at this
  simp only [Bool.and_eq_true, List.all_eq_true] at this
  have := this.2.1 i (List.mem_range.2 hij)
  simpa [he] using this
theorem inB_iff {n k : Nat} {ps : List (List Int)} : inB l n ps k = true ↔ ∃ p ∈ ps, ∃ a, findN l n p = some a ∧ (a = k ∨ (k : Int) ∈ (nd l a).past) := by
  rw [inZ_B]
  unfold inZ
  refine exists_congr fun p => and_congr_right fun _ => exists_congr fun a => and_congr_right fun _ => or_congr ?_ Iff.rfl
  omega
/-- Heads. -/
def behB (l : List NodeD) (k : Nat) : Bool := (List.range l.length).any fun i => decide ((k : Int) ∈ (nd l i).past)
def headP (l : List NodeD) : List Nat := (List.range l.length).filter fun k => !behB l k
def headK (l : List NodeD) : List (List Int) := (headP l).map fun k => (nd l k).id
def headsL (l : List NodeD) : List (List Int) := sortK (headK l)
theorem mem_headP {k : Nat} : k ∈ headP l ↔ k < l.length ∧ ∀ i, i < l.length → (k : Int) ∉ (nd l i).past := by
  unfold headP behB
  rw [List.mem_filter, List.mem_range]
  refine and_congr_right fun _ => ?_
  rw [Bool.not_eq_true', List.any_eq_false]
  refine ⟨fun h i hi => by simpa using h i (List.mem_range.2 hi), fun h i hi => by simpa using h i (List.mem_range.1 hi)⟩
theorem headP_lt : (headP l).Pairwise (· < ·) := List.Pairwise.filter _ List.pairwise_lt_range
theorem headP_len (h : rightG l = true) : (headP l).length ≤ 8 := by
  have hnd : ((headP l).map fun k => (nd l k).op.author.toNat).Nodup := by
    rw [List.Nodup, List.pairwise_map]
    refine List.Pairwise.imp_of_mem ?_ headP_lt
    intro i j hi hj hij e
    have hjl := (mem_headP.1 hj).1
    have hil := (mem_headP.1 hi).1
    have a1 := rightO_author (right_op h hil)
    have a2 := rightO_author (right_op h hjl)
    exact (mem_headP.1 hi).2 j hjl (author_ahead h hij hjl (by omega))
  have := List.Nodup.length_le_of_subset (l₂ := List.range 8) hnd (fun x hx => by
    obtain ⟨k, hk, rfl⟩ := List.mem_map.1 hx
    have a1 := rightO_author (right_op h (mem_headP.1 hk).1)
    exact List.mem_range.2 (by omega))
  simpa using this
theorem headK_nodup (h : rightG l = true) : (headK l).Nodup := by
  unfold headK
  rw [List.Nodup, List.pairwise_map]
  refine List.Pairwise.imp_of_mem ?_ headP_lt
  intro i j hi hj hij
  exact ids_ne h hij (mem_headP.1 hj).1
end
end
section
attribute [local simp] wb_bool wb_undef with_lit XL_nil XL_cons XLc_val XLc_call step1_eq stepW_t stepW_f stepC_n stepC_s stepX_s stepX_n stepN_s calleeX oneV xop_eq xopR_s xopR_n wantedA_eq wantedG_n wantedG_s plain1_int plain1_bool plain1_string bits_i64 bits_u64 bits_u32 bits_u16 bits_u8 xeqA xagg xcmp xarr allK_iv num_iv calleeOf xread xeff xbin xint xnil xun xstr xload xconv xpart xfield xfieldAddr xindexAddr xindex bnd asInt? xslice xlen xmin xmax xbuild xfill xappend xapp2 xappstr xappmk xcap xcopy xcells eval_tmp eval_const put_at put_none fr0_at cells_agg cells_int cells_bool cells_string cells_ptr cells_slice notTuple tab iv_all hget_app hget_app0 hget_cons0 hget_cons set_app set_app0 setR setR_one QL_nil QL_cons QLc_val stepQ_t stepQ_f stepQC_n stepQC_s stepQX_s SL_nil SL_cons SLc_val stepS_t stepS_f ltT ltF leT leF eqT eqF ltTn ltFn leTn leFn eqTn eqFn beqT beqF bneT bneF wi64 wu64 wu32 wu16 wu8 tmodP tdivP hgetL hgetNe hgetEq setL nums_def nums_len Nat.succ_le_of_lt List.getElem?_cons_zero List.getElem?_cons_succ Option.getD_some Int.toNat_add Int.toNat_mul agM okM agB agI agS agP agL agA okB okI okS okP okSl okA
end
section
/-- Keys as cells. -/
def kr (l : List (List Int)) : List Value := (l.map (iv .u8)).flatten
theorem ksC_kr (l : List (List Int)) : ksC l = kr l := by
  unfold ksC kr
  induction l with
  | nil => rfl
  | cons k l ih =>
    rw [List.map_cons, List.flatten_cons, List.map_append, ih, List.map_cons, List.flatten_cons]
    congr 1
    simp [kd, iv, CD.fv]
theorem kr_app (a b : List (List Int)) : kr (a ++ b) = kr a ++ kr b := by simp [kr]
theorem kr_one (k : List Int) : kr [k] = iv .u8 k := by simp [kr]
def K32 (l : List (List Int)) : Prop := ∀ k ∈ l, k.length = 32
theorem kr_rows {l : List (List Int)} (h : K32 l) : ∀ r ∈ l.map (iv .u8), r.length = 32 := fun r hr => by
  obtain ⟨k, hk, rfl⟩ := List.mem_map.1 hr
  rw [iv_length]; exact h k hk
theorem kr_len {l : List (List Int)} (h : K32 l) : (kr l).length = l.length * 32 := by unfold kr; rw [fl_len (kr_rows h), List.length_map]
theorem kr_get {l : List (List Int)} (h : K32 l) {j : Nat} {k : List Int} (hj : l[j]? = some k) : ((kr l).drop (j * 32)).take 32 = iv .u8 k := fl_get (kr_rows h) (by rw [List.getElem?_map, hj]; rfl)
theorem kr_set {l : List (List Int)} (h : K32 l) {j : Nat} {k : List Int} (hj : j < l.length) (hk : k.length = 32) : setR (kr l) (j * 32) (iv .u8 k) = kr (l.set j k) := by
  have hj' : l[j]? = some l[j] := List.getElem?_eq_getElem hj
  have hq := h _ (List.mem_of_getElem? hj')
  unfold kr
  rw [fl_setR (q := iv .u8 l[j]) (kr_rows h) (by rw [List.getElem?_map, hj']; rfl) (by rw [iv_length, hk]; omega)]
  rw [List.drop_of_length_le (by rw [iv_length, iv_length]; omega), List.append_nil, List.map_set]
theorem kr_addr {n b j : Nat} (hj : j < n) : xindexAddr Try.prog 30 (.slice (some ⟨b, 0, none⟩) n n) (.int .i64 (j : Nat)) = some (.pointer (some ⟨b, j * 32, none⟩)) := by
  have h1 : und Try.prog 30 = .slice 24 := by kernel_rfl
  have h2 : szt Try.prog 24 = 32 := by kernel_rfl
  unfold xindexAddr
  simp only [h1, h2]
  rw [if_pos ⟨by omega, by omega, by omega⟩]
  simp
theorem kr_load {G : AH} {b j : Nat} {l : List (List Int)} {k : List Int} (h : K32 l) (hj : l[j]? = some k) (hb : hget G b = some ⟨kr l, 24, some 32⟩) : xload Try.prog 24 (.pointer (some ⟨b, j * 32, none⟩)) G = some (.agg (iv .u8 k).toArray) := by
  have hl := (List.getElem?_eq_some_iff.1 hj).1
  refine load_at (sz := 32) hb (by kernel_rfl) (by omega) (by kernel_rfl) (kr_get h hj).symm ?_
  show _ ≤ (kr l).length
  rw [kr_len h]
  have : (j + 1) * 32 ≤ l.length * 32 := Nat.mul_le_mul_right _ hl
  omega
attribute [local simp] wb_bool wb_undef with_lit XL_nil XL_cons XLc_val XLc_call step1_eq stepW_t stepW_f stepC_n stepC_s stepX_s stepX_n stepN_s calleeX oneV xop_eq xopR_s xopR_n wantedA_eq wantedG_n wantedG_s plain1_int plain1_bool plain1_string bits_i64 bits_u64 bits_u32 bits_u16 bits_u8 xeqA xagg xcmp xarr allK_iv num_iv calleeOf xread xeff xbin xint xnil xun xstr xload xconv xpart xfield xfieldAddr xindexAddr xindex bnd asInt? xslice xlen xmin xmax xbuild xfill xappend xapp2 xappstr xappmk xcap xcopy xcells eval_tmp eval_const put_at put_none fr0_at cells_agg cells_int cells_bool cells_string cells_ptr cells_slice notTuple tab iv_all hget_app hget_app0 hget_cons0 hget_cons set_app set_app0 setR setR_one QL_nil QL_cons QLc_val stepQ_t stepQ_f stepQC_n stepQC_s stepQX_s SL_nil SL_cons SLc_val stepS_t stepS_f ltT ltF leT leF eqT eqF ltTn ltFn leTn leFn eqTn eqFn beqT beqF bneT bneF wi64 wu64 wu32 wu16 wu8 tmodP tdivP hgetL hgetNe hgetEq setL nums_def nums_len Nat.succ_le_of_lt List.getElem?_cons_zero List.getElem?_cons_succ Option.getD_some Int.toNat_add Int.toNat_mul agM okM agB agI agS agP agL agA okB okI okS okP okSl okA
theorem heads1_rc {γ : Nat → Option Nat} {H : AH} {a b : List Int} (ha : a.length = 32) (hb : b.length = 32) : AC Try.prog H.length γ 49 #[.agg (iv .u8 a).toArray, .agg (iv .u8 b).toArray] H (fun v' _ => v' = .int .i64 (cmpL a b)) := by
  have hla : (iv .u8 a).length = 32 := by rw [iv_length, ha]
  have hlb : (iv .u8 b).length = 32 := by rw [iv_length, hb]
  refine ac_of_aw Try.func49 rfl Try.ntmps49 Try.results49 (by simp) ?_
  refine aw_seq ?_
  (refine aw_ops (by kernel_rfl) (fun K hK => ?_); simp (disch := first | omega | (simp only [lnS]; try omega; done)) [-getElem?_pos, -getElem?_neg, hla, hlb]; refine hK _ _ ?_; clear hK K)
  obtain ⟨G, hG⟩ : ∃ G : AH, G = H ++ [some ⟨iv .u8 a, 24, none⟩, some ⟨iv .u8 b, 24, none⟩] := ⟨_, rfl⟩
  have g0 : hget G H.length = some ⟨iv .u8 a, 24, none⟩ := by rw [hG, hget_app0]; rfl
  have g1 : hget G (H.length + 1) = some ⟨iv .u8 b, 24, none⟩ := by rw [hG, hget_app]; rfl
  rw [← hG]
  clear hG
  refine aw_seq ?_
  (refine aw_plan [] [] [0, 1, 2, 3] 4 0 (by kernel_rfl) (by kernel_rfl) (by kernel_rfl) (fun K hK => ?_)); simp only [sel, List.getElem?_cons_succ, List.getElem?_cons_zero, List.drop_succ_cons, List.drop_zero]; simp (disch := first | omega | (simp only [lnS]; try omega; done)) [-getElem?_pos, -getElem?_neg, g0, g1, hla, hlb, PL_nil, plainB_lit, PL_cons, PLc_val, PLc_new, stepP_t, stepP_f, stepPC_n, stepPC_s, stepPX_s, stepPX_n, stepPV_n, stepPV_s, stepPA_t, stepPA_c, stepPA_l, stepPN_s, allocOp, reloc_sl, reloc_ptr, List.map_cons, List.map_nil, List.nil_append, List.append_assoc, List.cons_append, Nat.add_assoc]
  refine PLc_call (v := .int .i64 (cmpL a b)) (by kernel_rfl) (fun L hL => ?_) (by simp [pv_iv, pv_int, pv_bool, pv_string, pv_tup2, pv_tup3, iv_plain, p2_int, p2_bool, p2_string]) ?_
  · exact (compare_ac (hget_left' g0) (hget_left' g1) ha hb).mono fun v' H' h => h.1
  simp (disch := first | omega | (simp only [lnS]; try omega; done)) [-getElem?_pos, -getElem?_neg, PL_nil, plainB_lit, PL_cons, PLc_val, PLc_new, stepP_t, stepP_f, stepPC_n, stepPC_s, stepPX_s, stepPX_n, stepPV_n, stepPV_s, stepPA_t, stepPA_c, stepPA_l, stepPN_s, allocOp, reloc_sl, reloc_ptr, List.map_cons, List.map_nil, List.nil_append, List.append_assoc, List.cons_append, Nat.add_assoc]
  refine hK _ _ ?_; clear hK K
  (refine aw_ret ?_; simp (disch := first | omega | (simp only [lnS]; try omega; done)) [-getElem?_pos, -getElem?_neg, thenQ_ret, scopeQ_ret, inBlockQ_ret, RQ, resL, resV])
theorem heads1_callable : callable Try.prog 49 = true := by kernel_rfl
/-- Others than one block are as they were. -/
def Oth (b : Nat) (H G : AH) : Prop := H.length ≤ G.length ∧ ∀ j, j < H.length → j ≠ b → hget G j = hget H j
/-- What a sort answers. -/
def SortQ (b : Nat) (ids : List (List Int)) (H : AH) (v' : Value) (H' : AH) : Prop := hget H' b = some ⟨kr (sortK ids), 24, some 32⟩ ∧ Oth b H H'
theorem insertion_ac {nro : Nat} {γ : Nat → Option Nat} {H : AH} {b n : Nat} {ids : List (List Int)} (hb : hget H b = some ⟨kr ids, 24, some 32⟩) (hn : ids.length = n) (hk : K32 ids) (hy : ∀ k ∈ ids, By k) (hnd : ids.Nodup) (hle : n ≤ 100) (hnro : nro ≤ b) :
    AC Try.prog nro γ 83 #[.slice (some ⟨b, 0, none⟩) n n, .int .i64 0, .int .i64 (n : Nat), .func (.func 49) #[] #[]] H (SortQ b ids H) := by
  have hbl := hget_lt hb
  refine ac_of_aw Try.func83 rfl Try.ntmps83 Try.results83 (by simp) ?_
  refine aw_seq ?_
  (refine aw_ops (by kernel_rfl) (fun K hK => ?_); simp (disch := first | omega | (simp only [lnS]; try omega; done)) [-getElem?_pos, -getElem?_neg]; refine hK _ _ ?_; clear hK K)
  refine aw_block ?_
  refine aw_loop (fun c α G => ∃ (i : Nat) (S : List (List Int)), 1 ≤ i ∧ i + c = n + 1 ∧ α 0 = .slice (some ⟨b, 0, none⟩) n n ∧ α 1 = .int .i64 0 ∧ α 2 = .int .i64 (n : Nat) ∧ α 3 = .func (.func 49) #[] #[] ∧ α 8 = .int .i64 (i : Nat) ∧ hget G b = some ⟨kr (S ++ ids.drop i), 24, some 32⟩ ∧ Oth b H G ∧ S.Perm (ids.take i) ∧ Rise S) n ?_ ?_
  · refine ⟨1, ids.take 1, by omega, by omega, by (first | (simp [put_at, put_none, fr0_at]; done) | rfl), by (first | (simp [put_at, put_none, fr0_at]; done) | rfl), by (first | (simp [put_at, put_none, fr0_at]; done) | rfl), by (first | (simp [put_at, put_none, fr0_at]; done) | rfl), by (first | (simp [put_at, put_none, fr0_at]; done) | rfl), by rw [List.take_append_drop]; exact hb, ⟨Nat.le_refl _, fun _ _ _ => rfl⟩, .refl _, ?_⟩
    cases ids with
    | nil => exact List.Pairwise.nil
    | cons k l => simp
  rintro c α G ⟨i, S, hi1, hic, h0, h1, h2, h3, h8, hbG, hoth, hperm, hrise⟩
  refine aw_seq ?_
  refine aw_seq ?_
  by_cases hi : i < n
  case neg =>
    (refine aw_ops (by kernel_rfl) (fun K hK => ?_); simp (disch := first | omega | (simp only [lnS]; try omega; done)) [-getElem?_pos, -getElem?_neg, h8, h2, hi]; refine hK _ _ ?_; clear hK K)
    refine aw_f (by (first | (simp [eval_tmp, put_at, hi]; done) | (simp [eval_tmp, put_at, hi]; omega))) (by kernel_rfl) ?_
    refine aw_exit ?_
    have e1 : ids.take i = ids := List.take_of_length_le (by omega)
    have e2 : ids.drop i = [] := List.drop_of_length_le (by omega)
    rw [e1] at hperm
    rw [e2, List.append_nil, sortK_eq hperm hrise] at hbG
    exact ⟨[], _, rfl, rfl, hbG, hoth⟩
  (refine aw_ops (by kernel_rfl) (fun K hK => ?_); simp (disch := first | omega | (simp only [lnS]; try omega; done)) [-getElem?_pos, -getElem?_neg, h8, h2, hi]; refine hK _ _ ?_; clear hK K)
  refine aw_t (by (first | (simp [eval_tmp, put_at, hi]; done) | (simp [eval_tmp, put_at, hi]; omega))) (by kernel_rfl) ?_
  refine aw_skip ?_
  refine aw_seq ?_
  refine aw_block ?_
  refine aw_seq ?_
  (refine aw_ops (by kernel_rfl) (fun K hK => ?_); simp (disch := first | omega | (simp only [lnS]; try omega; done)) [-getElem?_pos, -getElem?_neg, h8]; refine hK _ _ ?_; clear hK K)
  obtain ⟨x, hx⟩ : ∃ x, ids[i]? = some x := ⟨_, List.getElem?_eq_getElem (by omega)⟩
  have hxm := List.mem_of_getElem? hx
  have hx32 := hk x hxm
  have hxb := hy x hxm
  have hdi : ids.drop i = x :: ids.drop (i + 1) := by
    obtain ⟨hl, e⟩ := List.getElem?_eq_some_iff.1 hx
    rw [List.drop_eq_getElem_cons hl, e]
  have htk : ids.take (i + 1) = ids.take i ++ [x] := by rw [List.take_add_one, hx]; rfl
  have hSl : S.length = i := by rw [hperm.length_eq, List.length_take]; omega
  have hSm : ∀ s ∈ S, s ∈ ids := fun s hs => List.mem_of_mem_take (hperm.mem_iff.1 hs)
  have hxS : x ∉ S := fun h => by
    have h2 := hperm.mem_iff.1 h
    have hnd2 : (ids.take i ++ [x]).Nodup := by rw [← htk]; exact hnd.sublist (List.take_sublist _ _)
    exact (List.pairwise_append.1 hnd2).2.2 x h2 x (by simp) rfl
  refine aw_block ?_
  refine aw_loop (fun c2 α G => c2 ≤ i ∧ α 0 = .slice (some ⟨b, 0, none⟩) n n ∧ α 1 = .int .i64 0 ∧ α 2 = .int .i64 (n : Nat) ∧ α 3 = .func (.func 49) #[] #[] ∧ α 8 = .int .i64 (i : Nat) ∧ α 9 = .int .i64 (c2 : Nat) ∧ hget G b = some ⟨kr (S.take c2 ++ x :: S.drop c2 ++ ids.drop (i + 1)), 24, some 32⟩ ∧ Oth b H G ∧ ∀ s ∈ S.drop c2, x < s) i ?_ ?_
  · refine ⟨Nat.le_refl _, by (first | (simp [put_at, put_none, fr0_at, h0]; done) | rfl), by (first | (simp [put_at, put_none, fr0_at, h1]; done) | rfl), by (first | (simp [put_at, put_none, fr0_at, h2]; done) | rfl), by (first | (simp [put_at, put_none, fr0_at, h3]; done) | rfl), by (first | (simp [put_at, put_none, fr0_at, h8]; done) | rfl), by (first | (simp [put_at, put_none, fr0_at]; done) | rfl), ?_, hoth, ?_⟩
    · rw [hbG, hdi, List.take_of_length_le (l := S) (by omega), List.drop_of_length_le (l := S) (by omega)]
      simp
    · rw [List.drop_of_length_le (l := S) (by omega)]
      simp
  rintro j α G ⟨hji, h0, h1, h2, h3, h8, h9, hbG, hoth, hgt⟩
  have hLm : ∀ k ∈ S.take j ++ x :: S.drop j ++ ids.drop (i + 1), k ∈ ids := fun k hm => by
    simp only [List.mem_append, List.mem_cons] at hm
    rcases hm with (hm | rfl | hm) | hm
    · exact hSm k (List.mem_of_mem_take hm)
    · exact hxm
    · exact hSm k (List.mem_of_mem_drop hm)
    · exact List.mem_of_mem_drop hm
  have hLk : K32 (S.take j ++ x :: S.drop j ++ ids.drop (i + 1)) := fun k hm => hk k (hLm k hm)
  have hLn : (S.take j ++ x :: S.drop j ++ ids.drop (i + 1)).length = n := by simp; omega
  have hLj : (S.take j ++ x :: S.drop j ++ ids.drop (i + 1))[j]? = some x := by
    rw [List.append_assoc, List.getElem?_append_right (by rw [List.length_take]; omega), List.length_take]
    rw [show j - min j S.length = 0 by omega]
    rfl
  have hend : ∀ s, j ≠ 0 → S[j - 1]? = some s → ¬ x < s → True := fun _ _ _ _ => trivial
  refine aw_seq ?_
  refine aw_seq ?_
  have hexit : (∀ s, j ≠ 0 → S[j - 1]? = some s → ¬ x < s) → (S.take j ++ x :: S.drop j).Perm (ids.take (i + 1)) ∧ Rise (S.take j ++ x :: S.drop j) := fun hle => by
    refine ⟨?_, rise_put hrise (by omega) hgt hle hxS⟩
    rw [htk]
    exact (put_perm x j).trans (hperm.append_right _)
  by_cases hj0 : j = 0
  · subst hj0
    obtain ⟨hp2, hr2⟩ := hexit (fun s h => absurd rfl h)
    (refine aw_plan [] [] [0, 1, 2, 3, 4, 5, 6, 7, 8, 9, 10, 11, 12, 13, 14, 15, 16] 17 0 (by kernel_rfl) (by kernel_rfl) (by kernel_rfl) (fun K hK => ?_)); simp only [sel, List.getElem?_cons_succ, List.getElem?_cons_zero, List.drop_succ_cons, List.drop_zero]; simp (disch := first | omega | (simp only [lnS]; try omega; done)) [-getElem?_pos, -getElem?_neg, h9, h1, PL_nil, plainB_lit, PL_cons, PLc_val, PLc_new, stepP_t, stepP_f, stepPC_n, stepPC_s, stepPX_s, stepPX_n, stepPV_n, stepPV_s, stepPA_t, stepPA_c, stepPA_l, stepPN_s, allocOp, reloc_sl, reloc_ptr, List.map_cons, List.map_nil, List.nil_append, List.append_assoc, List.cons_append, Nat.add_assoc]
    refine hK _ _ ?_; clear hK K
    refine aw_f (by (first | (simp [eval_tmp, put_at]; done) | (simp [eval_tmp, put_at]; omega))) (by kernel_rfl) ?_
    refine aw_exit ?_
    (refine aw_ops (by kernel_rfl) (fun K hK => ?_); simp (disch := first | omega | (simp only [lnS]; try omega; done)) [-getElem?_pos, -getElem?_neg, h8]; refine hK _ _ ?_; clear hK K)
    exact ⟨c - 1, by omega, i + 1, _, by omega, by omega, by (first | (simp [put_at, put_none, fr0_at, h0]; done) | rfl), by (first | (simp [put_at, put_none, fr0_at, h1]; done) | rfl), by (first | (simp [put_at, put_none, fr0_at, h2]; done) | rfl), by (first | (simp [put_at, put_none, fr0_at, h3]; done) | rfl), by (first | (simp [put_at, put_none, fr0_at]; done) | rfl), hbG, hoth, hp2, hr2⟩
  obtain ⟨s, hs⟩ : ∃ s, S[j - 1]? = some s := ⟨_, List.getElem?_eq_getElem (by omega)⟩
  have hsm := hSm s (List.mem_of_getElem? hs)
  have hs32 := hk s hsm
  have hsb := hy s hsm
  have hsub : (j : Int) - 1 = ((j - 1 : Nat) : Int) := by omega
  have hLj1 : (S.take j ++ x :: S.drop j ++ ids.drop (i + 1))[j - 1]? = some s := by
    rw [List.append_assoc, List.getElem?_append_left (by rw [List.length_take]; omega), List.getElem?_take_of_lt (by omega), hs]
  have a0 := kr_addr (b := b) (show j < n by omega)
  have a1 := kr_addr (b := b) (show j - 1 < n by omega)
  have l0 := kr_load hLk hLj hbG
  have l1 := kr_load hLk hLj1 hbG
  have hcall := heads1_rc (γ := γ) (H := G) hx32 hs32
  have hlt := cmpL_lt hxb hsb (by omega)
  have hjp : 0 < j := by omega
  have hfn : notTuple (.func (.func 49) #[] #[]) = true := rfl
  have hfc : (Value.func (.func 49) #[] #[]).cells = #[.func (.func 49) #[] #[]] := rfl
  have t1 := kr_set hLk (j := j) (k := s) (by omega) hs32
  have hLk2 : K32 ((S.take j ++ x :: S.drop j ++ ids.drop (i + 1)).set j s) := fun k hm => by
    rcases List.mem_or_eq_of_mem_set hm with h | rfl
    · exact hLk k h
    · exact hs32
  have t2 := kr_set hLk2 (j := j - 1) (k := x) (by rw [List.length_set]; omega) hx32
  have hLs : ((S.take j ++ x :: S.drop j ++ ids.drop (i + 1)).set j s).set (j - 1) x = S.take (j - 1) ++ x :: S.drop (j - 1) ++ ids.drop (i + 1) := by
    have e1 : S.take j = S.take (j - 1) ++ [s] := by
      have := List.take_add_one (l := S) (i := j - 1)
      rwa [show j - 1 + 1 = j by omega, hs] at this
    have e2 : S.drop (j - 1) = s :: S.drop j := by
      obtain ⟨hl, e⟩ := List.getElem?_eq_some_iff.1 hs
      rw [List.drop_eq_getElem_cons hl, e, show j - 1 + 1 = j by omega]
    have e3 : (S.take (j - 1)).length = j - 1 := by rw [List.length_take]; omega
    rw [e1, e2]
    obtain ⟨A, hA⟩ : ∃ A, A = S.take (j - 1) := ⟨_, rfl⟩
    rw [← hA] at e3 ⊢
    obtain ⟨m, rfl⟩ : ∃ m, j = m + 1 := ⟨j - 1, by omega⟩
    simp only [Nat.add_sub_cancel] at e3 ⊢
    rw [List.append_assoc, List.append_assoc, List.append_assoc, List.set_append_right _ _ (by omega), List.set_append_right _ _ (by omega), e3]
    simp
  rw [hLs] at t2
  have hgl : (kr (S.take j ++ x :: S.drop j ++ ids.drop (i + 1))).length = n * 32 := by rw [kr_len hLk, hLn]
  have hgl2 : (kr ((S.take j ++ x :: S.drop j ++ ids.drop (i + 1)).set j s)).length = n * 32 := by rw [kr_len hLk2, List.length_set, hLn]
  generalize hL : S.take j ++ x :: S.drop j ++ ids.drop (i + 1) = L at t1 t2 hgl hgl2 hbG
  have hdj : S.drop (j - 1) = s :: S.drop j := by
    obtain ⟨hl, e⟩ := List.getElem?_eq_some_iff.1 hs
    rw [List.drop_eq_getElem_cons hl, e, show j - 1 + 1 = j by omega]
  generalize hL3 : S.take (j - 1) ++ x :: S.drop (j - 1) ++ ids.drop (i + 1) = L3 at t2
  (refine aw_plan [] [] [0, 1, 2, 3, 4, 5, 6, 7, 8, 9, 10, 11, 12, 13, 14, 15, 16] 17 0 (by kernel_rfl) (by kernel_rfl) (by kernel_rfl) (fun K hK => ?_)); simp only [sel, List.getElem?_cons_succ, List.getElem?_cons_zero, List.drop_succ_cons, List.drop_zero]; simp (disch := first | omega | (simp only [lnS]; try omega; done)) [-getElem?_pos, -getElem?_neg, h0, h1, h3, h9, hjp, hsub, hfn, hfc, nt_ptrG, nt_intG, nt_slG, -xload, l0, l1, -xindexAddr, a0, a1, PL_nil, plainB_lit, PL_cons, PLc_val, PLc_new, stepP_t, stepP_f, stepPC_n, stepPC_s, stepPX_s, stepPX_n, stepPV_n, stepPV_s, stepPA_t, stepPA_c, stepPA_l, stepPN_s, allocOp, reloc_sl, reloc_ptr, List.map_cons, List.map_nil, List.nil_append, List.append_assoc, List.cons_append, Nat.add_assoc]
  refine PLc_callV (v := .int .i64 (cmpL x s)) heads1_callable (by simpa using hcall) (by simp [pv_iv, pv_int, pv_bool, pv_string, pv_tup2, pv_tup3, iv_plain, p2_int, p2_bool, p2_string]) ?_
  have hbl2 := hget_lt hbG
  by_cases hc : cmpL x s < 0
  · have hxs : x < s := hlt.1 hc
    have hc2 : ¬ 0 ≤ cmpL x s := by omega
    simp (disch := first | omega | (simp only [lnS]; try omega; done)) [-getElem?_pos, -getElem?_neg, hc, hc2, PL_nil, plainB_lit, PL_cons, PLc_val, PLc_new, stepP_t, stepP_f, stepPC_n, stepPC_s, stepPX_s, stepPX_n, stepPV_n, stepPV_s, stepPA_t, stepPA_c, stepPA_l, stepPN_s, allocOp, reloc_sl, reloc_ptr, List.map_cons, List.map_nil, List.nil_append, List.append_assoc, List.cons_append, Nat.add_assoc]
    refine hK _ _ ?_; clear hK K
    refine aw_t (by (first | (simp [eval_tmp, put_at, hc]; done) | (simp [eval_tmp, put_at, hc]; omega))) (by kernel_rfl) ?_
    refine aw_skip ?_
    refine aw_seq ?_
    refine aw_block ?_
    (refine aw_plan [] [2, 3, 4] [0, 1, 5, 6, 7, 8, 9, 10, 11, 12, 13, 14] 15 3 (by kernel_rfl) (by kernel_rfl) (by kernel_rfl) (fun K hK => ?_)); simp only [sel, List.getElem?_cons_succ, List.getElem?_cons_zero, List.drop_succ_cons, List.drop_zero]; simp (disch := first | omega | (simp only [lnS]; try omega; done)) [-getElem?_pos, -getElem?_neg, h0, h9, hsub, nt_ptrG, nt_intG, nt_slG, nt_aggG, -xload, l0, l1, -xindexAddr, a0, a1, hbG, hgl, hgl2, hx32, hs32, iv_length, t1, t2, PL_nil, plainB_lit, PL_cons, PLc_val, PLc_new, stepP_t, stepP_f, stepPC_n, stepPC_s, stepPX_s, stepPX_n, stepPV_n, stepPV_s, stepPA_t, stepPA_c, stepPA_l, stepPN_s, allocOp, reloc_sl, reloc_ptr, List.map_cons, List.map_nil, List.nil_append, List.append_assoc, List.cons_append, Nat.add_assoc]
    refine hK _ _ ?_; clear hK K
    have hG2 : hget (G.set b (some ⟨kr L3, 24, some 32⟩)) b = some ⟨kr L3, 24, some 32⟩ := hget_set_eq hbl2
    have hoth2 : Oth b H (G.set b (some ⟨kr L3, 24, some 32⟩)) := ⟨by rw [List.length_set]; exact hoth.1, fun j hj hjb => (hget_set_ne (fun e => hjb e.symm)).trans (hoth.2 j hj hjb)⟩
    generalize G.set b (some ⟨kr L3, 24, some 32⟩) = G2 at *
    subst hL3
    (refine aw_ops (by kernel_rfl) (fun K hK => ?_); simp (disch := first | omega | (simp only [lnS]; try omega; done)) [-getElem?_pos, -getElem?_neg, h9, hsub]; refine hK _ _ ?_; clear hK K)
    refine ⟨j - 1, by omega, by omega, by (first | (simp [put_at, put_none, fr0_at, h0]; done) | rfl), by (first | (simp [put_at, put_none, fr0_at, h1]; done) | rfl), by (first | (simp [put_at, put_none, fr0_at, h2]; done) | rfl), by (first | (simp [put_at, put_none, fr0_at, h3]; done) | rfl), by (first | (simp [put_at, put_none, fr0_at, h8]; done) | rfl), by (first | (simp [put_at, put_none, fr0_at]; done) | rfl), hG2, hoth2, fun s' hs' => ?_⟩
    rw [hdj] at hs'
    rcases List.mem_cons.1 hs' with rfl | hs'
    · exact hxs
    · exact hgt s' hs'
  · have hc2 : 0 ≤ cmpL x s := by omega
    simp (disch := first | omega | (simp only [lnS]; try omega; done)) [-getElem?_pos, -getElem?_neg, hc, hc2, PL_nil, plainB_lit, PL_cons, PLc_val, PLc_new, stepP_t, stepP_f, stepPC_n, stepPC_s, stepPX_s, stepPX_n, stepPV_n, stepPV_s, stepPA_t, stepPA_c, stepPA_l, stepPN_s, allocOp, reloc_sl, reloc_ptr, List.map_cons, List.map_nil, List.nil_append, List.append_assoc, List.cons_append, Nat.add_assoc]
    refine hK _ _ ?_; clear hK K
    refine aw_f (by (first | (simp [eval_tmp, put_at, hc]; done) | (simp [eval_tmp, put_at, hc]; omega))) (by kernel_rfl) ?_
    refine aw_exit ?_
    (refine aw_ops (by kernel_rfl) (fun K hK => ?_); simp (disch := first | omega | (simp only [lnS]; try omega; done)) [-getElem?_pos, -getElem?_neg, h8]; refine hK _ _ ?_; clear hK K)
    obtain ⟨hp2, hr2⟩ := hexit (fun s' _ h => by rw [hs] at h; cases h; exact fun h => hc (hlt.2 h))
    exact ⟨c - 1, by omega, i + 1, _, by omega, by omega, by (first | (simp [put_at, put_none, fr0_at, h0]; done) | rfl), by (first | (simp [put_at, put_none, fr0_at, h1]; done) | rfl), by (first | (simp [put_at, put_none, fr0_at, h2]; done) | rfl), by (first | (simp [put_at, put_none, fr0_at, h3]; done) | rfl), by (first | (simp [put_at, put_none, fr0_at]; done) | rfl), by rw [hL]; exact hbG, hoth, hp2, hr2⟩
theorem len_rc {nro : Nat} {γ : Nat → Option Nat} {H : AH} {n : Nat} (hn : n ≤ 12) : AC Try.prog nro γ 69 #[.int .u64 (n : Nat)] H (fun v' H' => H' = H ∧ ∃ z, v' = .int .i64 z) := by
  have h64 : AC Try.prog nro γ 92 #[.int .u64 (n : Nat)] H (fun v' H' => H' = H ∧ ∃ z, v' = .int .i64 z) := by
    refine ac_of_aw Try.func92 rfl Try.ntmps92 Try.results92 (by simp) ?_
    refine aw_seq ?_
    (refine aw_ops (by kernel_rfl) (fun K hK => ?_); simp (disch := first | omega | (simp only [lnS]; try omega; done)) [-getElem?_pos, -getElem?_neg]; refine hK _ _ ?_; clear hK K)
    refine aw_seq ?_
    refine aw_seq ?_
    (refine aw_ops (by kernel_rfl) (fun K hK => ?_); simp (disch := first | omega | (simp only [lnS]; try omega; done)) [-getElem?_pos, -getElem?_neg]; refine hK _ _ ?_; clear hK K)
    refine aw_f (by (first | (simp [eval_tmp, put_at]; done) | (simp [eval_tmp, put_at]; omega))) (by kernel_rfl) ?_
    refine aw_skip ?_
    refine aw_seq ?_
    refine aw_seq ?_
    (refine aw_ops (by kernel_rfl) (fun K hK => ?_); simp (disch := first | omega | (simp only [lnS]; try omega; done)) [-getElem?_pos, -getElem?_neg]; refine hK _ _ ?_; clear hK K)
    refine aw_f (by (first | (simp [eval_tmp, put_at]; done) | (simp [eval_tmp, put_at]; omega))) (by kernel_rfl) ?_
    refine aw_skip ?_
    refine aw_seq ?_
    refine aw_seq ?_
    (refine aw_ops (by kernel_rfl) (fun K hK => ?_); simp (disch := first | omega | (simp only [lnS]; try omega; done)) [-getElem?_pos, -getElem?_neg]; refine hK _ _ ?_; clear hK K)
    refine aw_f (by (first | (simp [eval_tmp, put_at]; done) | (simp [eval_tmp, put_at]; omega))) (by kernel_rfl) ?_
    refine aw_skip ?_
    refine aw_seq ?_
    (refine aw_ops (by kernel_rfl) (fun K hK => ?_); simp (disch := first | omega | (simp only [lnS]; try omega; done)) [-getElem?_pos, -getElem?_neg, ByteArray.size, List.size_toArray, List.length_cons, List.length_nil]; refine hK _ _ ?_; clear hK K)
    (refine aw_ret ?_; simp (disch := first | omega | (simp only [lnS]; try omega; done)) [-getElem?_pos, -getElem?_neg, thenQ_ret, scopeQ_ret, inBlockQ_ret, RQ, resL, resV])
  refine ac_of_aw Try.func69 rfl Try.ntmps69 Try.results69 (by simp) ?_
  refine aw_seq ?_
  (refine aw_ops (by kernel_rfl) (fun K hK => ?_); simp (disch := first | omega | (simp only [lnS]; try omega; done)) [-getElem?_pos, -getElem?_neg]; refine hK _ _ ?_; clear hK K)
  refine aw_seq ?_
  refine aw_f (by (first | (simp [eval_tmp, put_at]; done) | (simp [eval_tmp, put_at]; omega))) (by kernel_rfl) ?_
  refine aw_skip ?_
  refine aw_seq ?_
  refine aw_ops (by kernel_rfl) (fun K hK => ?_)
  simp (disch := first | omega | (simp only [lnS]; try omega; done)) [-getElem?_pos, -getElem?_neg]
  refine ⟨by kernel_rfl, h64.mono ?_⟩
  rintro v1 G1 ⟨rfl, z, rfl⟩
  try simp (disch := first | omega | (simp only [lnS]; try omega; done)) [-getElem?_pos, -getElem?_neg]
  refine hK _ _ ?_; clear hK K
  (refine aw_ret ?_; simp (disch := first | omega | (simp only [lnS]; try omega; done)) [-getElem?_pos, -getElem?_neg, thenQ_ret, scopeQ_ret, inBlockQ_ret, RQ, resL, resV])
theorem sort_go {nro : Nat} {γ : Nat → Option Nat} {H : AH} {v : Value} {n : Nat} {z : Int} {Q : Value → AH → Prop} (hv : notTuple v = true ∧ v.cells = #[v]) (hle : n ≤ 12)
    (hins : AC Try.prog nro γ 83 #[v, .int .i64 0, .int .i64 (n : Nat), .func (.func 49) #[] #[]] H (fun _ G => ∀ u, Q u G)) :
    AC Try.prog nro γ 68 #[v, .int .i64 0, .int .i64 (n : Nat), .int .i64 z, .func (.func 49) #[] #[]] H (fun _ G => ∀ u, Q u G) := by
  obtain ⟨v1, v2⟩ := hv
  have hfn : notTuple (.func (.func 49) #[] #[]) = true := rfl
  have hfc : (Value.func (.func 49) #[] #[]).cells = #[.func (.func 49) #[] #[]] := rfl
  refine ac_of_aw Try.func68 rfl Try.ntmps68 Try.results68 (by simp) ?_
  refine aw_seq ?_
  (refine aw_ops (by kernel_rfl) (fun K hK => ?_); simp (disch := first | omega | (simp only [lnS]; try omega; done)) [-getElem?_pos, -getElem?_neg]; refine hK _ _ ?_; clear hK K)
  refine aw_seq ?_
  (refine aw_ops (by kernel_rfl) (fun K hK => ?_); simp (disch := first | omega | (simp only [lnS]; try omega; done)) [-getElem?_pos, -getElem?_neg]; refine hK _ _ ?_; clear hK K)
  refine aw_block ?_
  refine aw_loop (fun c α G => G = H ∧ α 0 = v ∧ α 1 = .int .i64 0 ∧ α 2 = .int .i64 (n : Nat) ∧ α 4 = .func (.func 49) #[] #[]) 1 ?_ ?_
  · exact ⟨rfl, by (first | (simp [put_at, put_none, fr0_at]; done) | rfl), by (first | (simp [put_at, put_none, fr0_at]; done) | rfl), by (first | (simp [put_at, put_none, fr0_at]; done) | rfl), by (first | (simp [put_at, put_none, fr0_at]; done) | rfl)⟩
  rintro c α G ⟨rfl, h0, h1, h2, h4⟩
  refine aw_block ?_
  refine aw_seq ?_
  (refine aw_ops (by kernel_rfl) (fun K hK => ?_); simp (disch := first | omega | (simp only [lnS]; try omega; done)) [-getElem?_pos, -getElem?_neg, h1, h2]; refine hK _ _ ?_; clear hK K)
  refine aw_seq ?_
  refine aw_seq ?_
  (refine aw_ops (by kernel_rfl) (fun K hK => ?_); simp (disch := first | omega | (simp only [lnS]; try omega; done)) [-getElem?_pos, -getElem?_neg, hle]; refine hK _ _ ?_; clear hK K)
  refine aw_t (by (first | (simp [eval_tmp, put_at, hle]; done) | (simp [eval_tmp, put_at, hle]; omega))) (by kernel_rfl) ?_
  refine aw_seq ?_
  refine aw_ops (by kernel_rfl) (fun K hK => ?_)
  simp (disch := first | omega | (simp only [lnS]; try omega; done)) [-getElem?_pos, -getElem?_neg, h0, h1, h2, h4, -notTuple, v1, v2, hfn, hfc, nt_intG]
  refine ⟨by kernel_rfl, hins.mono ?_⟩
  intro u G1 hq
  try simp (disch := first | omega | (simp only [lnS]; try omega; done)) [-getElem?_pos, -getElem?_neg]
  refine hK _ _ ?_; clear hK K
  (refine aw_ret ?_; simp (disch := first | omega | (simp only [lnS]; try omega; done)) [-getElem?_pos, -getElem?_neg, thenQ_ret, scopeQ_ret, inBlockQ_ret, RQ, resL, resV])
  exact hq
theorem sortFunc_go {nro : Nat} {γ : Nat → Option Nat} {H : AH} {v : Value} {n : Nat} {Q : Value → AH → Prop} (hv : notTuple v = true ∧ v.cells = #[v]) (hxl : xlen Try.prog 30 v = some (.int .i64 n)) (hle : n ≤ 12)
    (hins : AC Try.prog nro γ 83 #[v, .int .i64 0, .int .i64 (n : Nat), .func (.func 49) #[] #[]] H (fun _ G => ∀ u, Q u G)) :
    AC Try.prog nro γ 48 #[v, .func (.func 49) #[] #[]] H (fun _ G => ∀ u, Q u G) := by
  have hgo := fun z => sort_go (z := z) hv hle hins
  obtain ⟨v1, v2⟩ := hv
  have hfn : notTuple (.func (.func 49) #[] #[]) = true := rfl
  have hfc : (Value.func (.func 49) #[] #[]).cells = #[.func (.func 49) #[] #[]] := rfl
  have hlen := len_rc (nro := nro) (γ := γ) (H := H) hle
  refine ac_of_aw Try.func48 rfl Try.ntmps48 Try.results48 (by simp) ?_
  refine aw_seq ?_
  (refine aw_ops (by kernel_rfl) (fun K hK => ?_); simp (disch := first | omega | (simp only [lnS]; try omega; done)) [-getElem?_pos, -getElem?_neg, -notTuple, v1, v2, hfn, hfc, nt_intG, -xlen, hxl]; refine hK _ _ ?_; clear hK K)
  refine aw_ops (by kernel_rfl) (fun K hK => ?_)
  simp (disch := first | omega | (simp only [lnS]; try omega; done)) [-getElem?_pos, -getElem?_neg, -notTuple, v1, v2, hfn, hfc, nt_intG]
  refine ⟨by kernel_rfl, hlen.mono ?_⟩
  rintro u1 G1 ⟨rfl, z, rfl⟩
  try simp (disch := first | omega | (simp only [lnS]; try omega; done)) [-getElem?_pos, -getElem?_neg, -notTuple, v1, v2, hfn, hfc, nt_intG]
  refine ⟨by kernel_rfl, (hgo z).mono ?_⟩
  intro u G1 hq
  try simp (disch := first | omega | (simp only [lnS]; try omega; done)) [-getElem?_pos, -getElem?_neg]
  refine hK _ _ ?_; clear hK K
  exact ⟨[], _, rfl, rfl, hq⟩
theorem insertion_nil {nro : Nat} {γ : Nat → Option Nat} {H : AH} : AC Try.prog nro γ 83 #[.slice none 0 0, .int .i64 0, .int .i64 ((0 : Nat) : Int), .func (.func 49) #[] #[]] H (fun _ G => G = H) := by
  refine ac_of_aw Try.func83 rfl Try.ntmps83 Try.results83 (by simp) ?_
  refine aw_seq ?_
  (refine aw_ops (by kernel_rfl) (fun K hK => ?_); simp (disch := first | omega | (simp only [lnS]; try omega; done)) [-getElem?_pos, -getElem?_neg]; refine hK _ _ ?_; clear hK K)
  refine aw_block ?_
  refine aw_loop (fun c α G => G = H ∧ α 8 = .int .i64 1 ∧ α 2 = .int .i64 0) 1 ?_ ?_
  · exact ⟨rfl, by (first | (simp [put_at, put_none, fr0_at]; done) | rfl), by (first | (simp [put_at, put_none, fr0_at]; done) | rfl)⟩
  rintro c α G ⟨rfl, h8, h2⟩
  refine aw_seq ?_
  refine aw_seq ?_
  (refine aw_ops (by kernel_rfl) (fun K hK => ?_); simp (disch := first | omega | (simp only [lnS]; try omega; done)) [-getElem?_pos, -getElem?_neg, h8, h2]; refine hK _ _ ?_; clear hK K)
  refine aw_f (by (first | (simp [eval_tmp, put_at]; done) | (simp [eval_tmp, put_at]; omega))) (by kernel_rfl) ?_
  refine aw_exit ?_
  exact ⟨[], _, rfl, rfl, rfl⟩
/-- An own list of keys, sorted where it lies. -/
theorem sortFunc_ac {nro : Nat} {γ : Nat → Option Nat} {H : AH} {v : Value} {F : List Nat} {ids : List (List Int)} (ho : OwnF H v 24 32 (kr ids) F) (hF : ∀ j ∈ F, nro ≤ j) (hk : K32 ids) (hy : ∀ k ∈ ids, By k) (hnd : ids.Nodup) (hle : ids.length ≤ 12) :
    AC Try.prog nro γ 48 #[v, .func (.func 49) #[] #[]] H (fun _ G => OwnF G v 24 32 (kr (sortK ids)) F ∧ H.length ≤ G.length ∧ ∀ j, j < H.length → j ∉ F → hget G j = hget H j) := by
  have hxl := ho.len (P := Try.prog) (t := 30) (by simp) (kr_len hk) (by omega)
  have hnt := own_nt ho
  refine (sortFunc_go (nro := nro) (γ := γ) (Q := fun _ G => OwnF G v 24 32 (kr (sortK ids)) F ∧ H.length ≤ G.length ∧ ∀ j, j < H.length → j ∉ F → hget G j = hget H j) hnt hxl hle ?_).mono (fun u G h => h u)
  rcases ho with ⟨rfl, hc, rfl⟩ | ⟨j, len, rfl, h2, h3, rfl⟩
  · have hl : ids = [] := by
      have := kr_len hk
      rw [hc, List.length_nil] at this
      exact List.eq_nil_of_length_eq_zero (by omega)
    subst hl
    refine (insertion_nil (nro := nro) (γ := γ) (H := H)).mono ?_
    rintro _ G rfl _
    refine ⟨.inl ⟨rfl, ?_, rfl⟩, Nat.le_refl _, fun _ _ _ => rfl⟩
    rw [(sortK_perm []).eq_nil]; rfl
  · rw [kr_len hk] at h3
    obtain rfl : ids.length = len := by omega
    refine (insertion_ac (nro := nro) (γ := γ) h2 rfl hk hy hnd (by omega) (hF j (by simp))).mono ?_
    rintro _ G ⟨q1, q2, q3⟩ _
    have hks : K32 (sortK ids) := fun k hm => hk k ((sortK_perm ids).mem_iff.1 hm)
    exact ⟨.inr ⟨j, _, rfl, q1, by rw [kr_len hks, (sortK_perm ids).length_eq], rfl⟩, q2, fun i hi hn => q3 i hi (fun e => hn (by simp [e]))⟩
end
section
theorem hasW_zero (k : Nat) : hasW [0, 0] 0 k = false := by
  unfold hasW
  have : ([0, 0] : List Nat).getD (2 * 0 + k / 64) 0 = 0 := by
    match k / 64 with
    | 0 => rfl
    | 1 => rfl
    | j + 2 => rfl
  rw [this]
  exact Nat.zero_testBit _
def behT (l : List NodeD) (t k : Nat) : Bool := (List.range t).any fun i => decide ((k : Int) ∈ (nd l i).past)
theorem behT_succ (l : List NodeD) (t k : Nat) : behT l (t + 1) k = (behT l t k || decide ((k : Int) ∈ (nd l t).past)) := by
  unfold behT
  rw [List.range_succ, List.any_append]
  simp
def headT (l : List NodeD) (t : Nat) : List (List Int) := ((List.range t).filter fun k => !behB l k).map fun k => (nd l k).id
theorem headT_succ (l : List NodeD) (t : Nat) : headT l (t + 1) = headT l t ++ (if behB l t = true then [] else [(nd l t).id]) := by
  unfold headT
  rw [List.range_succ, List.filter_append, List.map_append]
  cases h : behB l t <;> simp [h]
theorem headT_len (l : List NodeD) (t : Nat) : (headT l t).length ≤ t := by
  unfold headT
  rw [List.length_map]
  exact Nat.le_trans (List.length_filter_le _ _) (by simp)
theorem headT_mem {l : List NodeD} {t : Nat} {k : List Int} (h : k ∈ headT l t) : ∃ i, i < t ∧ k = (nd l i).id := by
  unfold headT at h
  obtain ⟨i, hi, rfl⟩ := List.mem_map.1 h
  exact ⟨i, List.mem_range.1 (List.mem_filter.1 hi).1, rfl⟩
theorem Oth.low {n b : Nat} {H G K : AH} (hn : n ≤ b) (hl : Low n H G) (h : Oth b G K) : Low n H K := ⟨fun j hj => (h.2 j (by have := hl.2; omega) (by omega)).trans (hl.1 j hj), by have := hl.2; have := h.1; omega⟩
theorem fill_keyG {k : IntKind} {x : List Int} {n : Nat} (z : List Int) (hx : (iv k x).length = n) : xfill (fun i => some (i * n, n)) (List.map (fun j => (iv k z)[j % n]?.getD undef) (List.range n)) [(0, .agg (iv k x).toArray)] = some (iv k x) := by
  have h1 : (Value.agg (iv k x).toArray).cells.size = n := by simpa [Value.cells] using hx
  unfold xfill
  simp only [Nat.zero_mul]
  rw [if_pos ⟨h1, by rw [h1]; simp⟩]
  unfold xfill
  rw [setR_all _ _ (by simp [Value.cells, hx])]
  rfl
/-- Answers of Heads. -/
def HeadsQ (l : List NodeD) (H : AH) (v' : Value) (H' : AH) : Prop :=
  Low H.length H H' ∧ ((rightG l = true ∧ ∃ F, OwnF H' v' 24 32 (kr (headsL l)) F ∧ ∀ j ∈ F, H.length ≤ j) ∨ (rightG l = false ∧ v' = .slice none 0 0))
attribute [local simp] wb_bool wb_undef with_lit XL_nil XL_cons XLc_val XLc_call step1_eq stepW_t stepW_f stepC_n stepC_s stepX_s stepX_n stepN_s calleeX oneV xop_eq xopR_s xopR_n wantedA_eq wantedG_n wantedG_s plain1_int plain1_bool plain1_string bits_i64 bits_u64 bits_u32 bits_u16 bits_u8 xeqA xagg xcmp xarr allK_iv num_iv calleeOf xread xeff xbin xint xnil xun xstr xload xconv xpart xfield xfieldAddr xindexAddr xindex bnd asInt? xslice xlen xmin xmax xbuild xfill xappend xapp2 xappstr xappmk xcap xcopy xcells eval_tmp eval_const put_at put_none fr0_at cells_agg cells_int cells_bool cells_string cells_ptr cells_slice notTuple tab iv_all hget_app hget_app0 hget_cons0 hget_cons set_app set_app0 setR setR_one QL_nil QL_cons QLc_val stepQ_t stepQ_f stepQC_n stepQC_s stepQX_s SL_nil SL_cons SLc_val stepS_t stepS_f ltT ltF leT leF eqT eqF ltTn ltFn leTn leFn eqTn eqFn beqT beqF bneT bneF wi64 wu64 wu32 wu16 wu8 tmodP tdivP hgetL hgetNe hgetEq setL nums_def nums_len Nat.succ_le_of_lt List.getElem?_cons_zero List.getElem?_cons_succ Option.getD_some Int.toNat_add Int.toNat_mul agM okM agB agI agS agP agL agA okB okI okS okP okSl okA
theorem heads_rc {γ : Nat → Option Nat} {H : AH} {nv : Value} {l : List NodeD} (hN : NdA H nv l) : AC Try.prog H.length γ 19 #[nv] H (HeadsQ l H) := by
  have r3 := graph_right_rc (γ := γ) hN
  have hN' := hN
  obtain ⟨hnt, hvc, hxl, hwf, hat⟩ := hN
  refine ac_of_aw Try.func19 rfl Try.ntmps19 Try.results19 (by simp) ?_
  refine aw_seq ?_
  (refine aw_ops (by kernel_rfl) (fun K hK => ?_); simp (disch := first | omega | (simp only [lnS]; try omega; done)) [-getElem?_pos, -getElem?_neg]; refine hK _ _ ?_; clear hK K)
  refine aw_seq ?_
  refine aw_seq ?_
  refine aw_ops (by kernel_rfl) (fun K hK => ?_)
  simp (disch := first | omega | (simp only [lnS]; try omega; done)) [-getElem?_pos, -getElem?_neg, -notTuple, hnt, hvc, nt_intG]
  refine ⟨by kernel_rfl, ac_of_rc r3 (by simp [pv_iv, pv_int, pv_bool, pv_string, pv_tup2, pv_tup3, iv_plain, p2_int, p2_bool, p2_string]) ?_⟩
  cases hr : rightG l with
  | false =>
    try simp (disch := first | omega | (simp only [lnS]; try omega; done)) [-getElem?_pos, -getElem?_neg]
    refine hK _ _ ?_; clear hK K
    refine aw_t (by (first | (simp [eval_tmp, put_at]; done) | (simp [eval_tmp, put_at]; omega))) (by kernel_rfl) ?_
    refine aw_seq ?_
    (refine aw_ops (by kernel_rfl) (fun K hK => ?_); simp (disch := first | omega | (simp only [lnS]; try omega; done)) [-getElem?_pos, -getElem?_neg]; refine hK _ _ ?_; clear hK K)
    (refine aw_ret ?_; simp (disch := first | omega | (simp only [lnS]; try omega; done)) [-getElem?_pos, -getElem?_neg, thenQ_ret, scopeQ_ret, inBlockQ_ret, RQ, resL, resV])
    exact ⟨Low.refl (Nat.le_refl _), .inr ⟨hr, rfl⟩⟩
  | true =>
  try simp (disch := first | omega | (simp only [lnS]; try omega; done)) [-getElem?_pos, -getElem?_neg]
  refine hK _ _ ?_; clear hK K
  refine aw_f (by (first | (simp [eval_tmp, put_at]; done) | (simp [eval_tmp, put_at]; omega))) (by kernel_rfl) ?_
  refine aw_skip ?_
  have hl := rightG_len hr
  have hm63 : l.length ≤ 9223372036854775807 := by omega
  obtain ⟨n, hn⟩ : ∃ n, n = H.length := ⟨_, rfl⟩
  refine aw_seq ?_
  (refine aw_ops (by kernel_rfl) (fun K hK => ?_); simp (disch := first | omega | (simp only [lnS]; try omega; done)) [-getElem?_pos, -getElem?_neg]; refine hK _ _ ?_; clear hK K)
  obtain ⟨hlow0, hb0⟩ := boxed (H := H) (iv .u64 (zl 2)) 67
  have hwz : iv .u64 (zl 2) = [] ++ wv [0, 0] := rfl
  rw [hwz] at hlow0 hb0 ⊢
  rw [← hn] at hlow0 hb0 ⊢
  generalize H ++ [some ⟨[] ++ wv [0, 0], 67, none⟩] = G0 at *
  have hwd0 : Wd [0, 0] := fun x hx => by
    have : x = 0 := by simpa using hx
    omega
  refine aw_seq ?_
  refine aw_seq ?_
  (refine aw_ops (by kernel_rfl) (fun K hK => ?_); simp (disch := first | omega | (simp only [lnS]; try omega; done)) [-getElem?_pos, -getElem?_neg, -notTuple, hnt, hvc, nt_intG, -xlen, hxl]; refine hK _ _ ?_; clear hK K)
  refine aw_block ?_
  refine aw_loop (fun c α G => ∃ (t : Nat) (W : List Nat), t + c = l.length ∧ α 0 = nv ∧ α 3 = .pointer (some ⟨n, 0, none⟩) ∧ α 14 = nv ∧ α 15 = .int .i64 (l.length : Nat) ∧ α 16 = .int .i64 (t : Nat) ∧ Low n H G ∧ hget G n = some ⟨[] ++ wv W, 67, none⟩ ∧ Wd W ∧ W.length = 2 ∧ ∀ k, k < 128 → hasW W 0 k = behT l t k) l.length ?_ ?_
  · exact ⟨0, [0, 0], by omega, by (first | (simp [put_at, put_none, fr0_at]; done) | rfl), by (first | (simp [put_at, put_none, fr0_at]; done) | rfl), by (first | (simp [put_at, put_none, fr0_at]; done) | rfl), by (first | (simp [put_at, put_none, fr0_at]; done) | rfl), by (first | (simp [put_at, put_none, fr0_at]; done) | rfl), hlow0, hb0, hwd0, rfl, fun k _ => hasW_zero k⟩
  rintro c α G ⟨t, W, htc, h0, h3, h14, h15, h16, hlow, hb, hwd, hWl, hW⟩
  refine aw_seq ?_
  by_cases ht : t < l.length
  case neg =>
    (refine aw_ops (by kernel_rfl) (fun K hK => ?_); simp (disch := first | omega | (simp only [lnS]; try omega; done)) [-getElem?_pos, -getElem?_neg, h15, h16, ht]; refine hK _ _ ?_; clear hK K)
    refine aw_seq ?_
    refine aw_f (by (first | (simp [eval_tmp, put_at, ht]; done) | (simp [eval_tmp, put_at, ht]; omega))) (by kernel_rfl) ?_
    refine aw_exit ?_
    obtain rfl : t = l.length := by omega
    have hW2 : ∀ k, k < 128 → hasW W 0 k = behB l k := hW
    clear hW h14 h15 h16
    refine aw_seq ?_
    (refine aw_ops (by kernel_rfl) (fun K hK => ?_); simp (disch := first | omega | (simp only [lnS]; try omega; done)) [-getElem?_pos, -getElem?_neg]; refine hK _ _ ?_; clear hK K)
    refine aw_seq ?_
    refine aw_seq ?_
    (refine aw_ops (by kernel_rfl) (fun K hK => ?_); simp (disch := first | omega | (simp only [lnS]; try omega; done)) [-getElem?_pos, -getElem?_neg, h0, -notTuple, hnt, hvc, nt_intG, -xlen, hxl]; refine hK _ _ ?_; clear hK K)
    refine aw_block ?_
    refine aw_loop (fun c2 α G => ∃ (i : Nat) (v : Value) (F : List Nat), i + c2 = l.length ∧ α 3 = .pointer (some ⟨n, 0, none⟩) ∧ α 8 = v ∧ α 31 = nv ∧ α 32 = .int .i64 (l.length : Nat) ∧ α 33 = .int .i64 (i : Nat) ∧ Low n H G ∧ hget G n = some ⟨[] ++ wv W, 67, none⟩ ∧ OwnF G v 24 32 (kr (headT l i)) F ∧ ∀ j ∈ F, n < j) l.length ?_ ?_
    · exact ⟨0, .slice none 0 0, [], by omega, by (first | (simp [put_at, put_none, fr0_at, h3]; done) | rfl), by (first | (simp [put_at, put_none, fr0_at]; done) | rfl), by (first | (simp [put_at, put_none, fr0_at]; done) | rfl), by (first | (simp [put_at, put_none, fr0_at]; done) | rfl), by (first | (simp [put_at, put_none, fr0_at]; done) | rfl), hlow, hb, .inl ⟨rfl, rfl, rfl⟩, fun j hj => by cases hj⟩
    rintro c2 α G ⟨i, v, F, hic, h3, h8, h31, h32, h33, hlow, hb, hown, hF⟩
    obtain ⟨v1, v2⟩ := own_nt hown
    have hTl := headT_len l i
    refine aw_seq ?_
    by_cases hi : i < l.length
    case neg =>
      (refine aw_ops (by kernel_rfl) (fun K hK => ?_); simp (disch := first | omega | (simp only [lnS]; try omega; done)) [-getElem?_pos, -getElem?_neg, h32, h33, hi]; refine hK _ _ ?_; clear hK K)
      refine aw_seq ?_
      refine aw_f (by (first | (simp [eval_tmp, put_at, hi]; done) | (simp [eval_tmp, put_at, hi]; omega))) (by kernel_rfl) ?_
      refine aw_exit ?_
      obtain rfl : i = l.length := by omega
      have hids : headT l l.length = headK l := rfl
      rw [hids] at hown hTl
      have hsort := sortFunc_ac (nro := n) (γ := γ) hown (fun j hj => by have := hF j hj; omega) (fun k hk => by
        obtain ⟨i, hi, rfl⟩ := headT_mem (t := l.length) hk
        exact (hwf _ (List.mem_of_getElem? (nd_get hi))).id.1) (fun k hk => by
        obtain ⟨i, hi, rfl⟩ := headT_mem (t := l.length) hk
        exact (hwf _ (List.mem_of_getElem? (nd_get hi))).id.2) (headK_nodup hr) (by have := headP_len hr; unfold headK; rw [List.length_map]; omega)
      refine aw_seq ?_
      refine aw_ops (by kernel_rfl) (fun K hK => ?_)
      simp (disch := first | omega | (simp only [lnS]; try omega; done)) [-getElem?_pos, -getElem?_neg, h8, -notTuple, v1, v2, nt_intG, eval_fnG]
      refine ⟨by kernel_rfl, hsort.mono ?_⟩
      rintro u G1 ⟨ho, hle, hk⟩
      try simp (disch := first | omega | (simp only [lnS]; try omega; done)) [-getElem?_pos, -getElem?_neg]
      refine hK _ _ ?_; clear hK K
      refine aw_seq ?_
      (refine aw_ops (by kernel_rfl) (fun K hK => ?_); simp (disch := first | omega | (simp only [lnS]; try omega; done)) [-getElem?_pos, -getElem?_neg, h8, -notTuple, v1, v2]; refine hK _ _ ?_; clear hK K)
      (refine aw_ret ?_; simp (disch := first | omega | (simp only [lnS]; try omega; done)) [-getElem?_pos, -getElem?_neg, thenQ_ret, scopeQ_ret, inBlockQ_ret, RQ, resL, resV])
      exact ⟨⟨fun j hj => (hk j (by have := hlow.2; omega) (fun h => by have := hF j h; omega)).trans (hlow.1 j (by omega)), by have := hlow.2; omega⟩, .inl ⟨hr, F, ho, fun j hj => by have := hF j hj; omega⟩⟩
    obtain ⟨j, q, bb, us, pv, wv', bv, qv, hx, hbb, hq, hcell, hus, hC⟩ := hat i _ (nd_get hi)
    have hbG : hget G j = some bb := (hlow.1 j (by have := hget_lt hbb; omega)).trans hbb
    have hul := hC.len
    have hid := hC.id
    have hidl := (hwf _ (List.mem_of_getElem? (nd_get hi))).id.1
    have hivl : (iv .u8 (nd l i).id).length = 32 := by rw [iv_length, hidl]
    have hle0 := hlow.2
    have hset2 : ∀ Z : List Value, Z.length = 104 → setR Z 0 us = us := fun Z hZ => setR_all _ _ (by omega)
    have hus' := hus.symm
    clear hus
    have hp0 : plain1 (.slice none 0 0) = true := rfl
    (refine aw_ops (by kernel_rfl) (fun K hK => ?_); simp (disch := first | omega | (simp only [lnS]; try omega; done)) [-getElem?_pos, -getElem?_neg, h32, h33, hi]; refine hK _ _ ?_; clear hK K)
    refine aw_seq ?_
    refine aw_t (by (first | (simp [eval_tmp, put_at, hi]; done) | (simp [eval_tmp, put_at, hi]; omega))) (by kernel_rfl) ?_
    refine aw_skip ?_
    refine aw_seq ?_
    refine aw_block ?_
    refine aw_seq ?_
    have hnG : H.length ≤ G.length := by omega
    (refine aw_ops (by kernel_rfl) (fun K hK => ?_); simp (disch := first | omega | (simp only [lnS]; try omega; done)) [-getElem?_pos, -getElem?_neg, h31, h33, -notTuple, hnt, hvc, nt_intG, nt_aggG, -xindexAddr, hx, hbG, hus', hul, hq, hnG, hp0, all_zl, hset2]; refine hK _ _ ?_; clear hK K)
    obtain ⟨hlow2, hb2⟩ := boxed (H := G) us 39
    have hmb := hget_left' (L := [some ⟨us, 39, none⟩]) hb
    have hown := hown.low (H' := G ++ ([some ⟨us, 39, none⟩] : AH)) (fun j hj => hget_left (hown.lt j hj))
    obtain ⟨g, hg⟩ : ∃ g, g = G.length := ⟨_, rfl⟩
    rw [← hg] at hb2 hlow2 hle0 ⊢
    generalize G ++ [some ⟨us, 39, none⟩] = G2 at *
    have hlowG2 : Low n H G2 := ⟨fun j hj => (hlow2.1 j (by omega)).trans (hlow.1 j hj), by have := hlow2.2; omega⟩
    have hhas := has_rc (nro := n) (γ := γ) (i := 0) (k := i) (off := 0) (p := 0) (pre := []) hmb rfl rfl hwd (by omega) (by omega)
    rw [hW2 i (by omega)] at hhas
    have hsu := headT_succ l i
    refine aw_seq ?_
    refine aw_ops (by kernel_rfl) (fun K hK => ?_)
    simp (disch := first | omega | (simp only [lnS]; try omega; done)) [-getElem?_pos, -getElem?_neg, h3]
    refine ⟨by kernel_rfl, hhas.mono ?_⟩
    rintro u G3 ⟨rfl, rfl⟩
    cases hbh : behB l i with
    | true =>
      try simp (disch := first | omega | (simp only [lnS]; try omega; done)) [-getElem?_pos, -getElem?_neg]
      refine hK _ _ ?_; clear hK K
      refine aw_f (by (first | (simp [eval_tmp, put_at]; done) | (simp [eval_tmp, put_at]; omega))) (by kernel_rfl) ?_
      refine aw_skip ?_
      (refine aw_ops (by kernel_rfl) (fun K hK => ?_); simp (disch := first | omega | (simp only [lnS]; try omega; done)) [-getElem?_pos, -getElem?_neg, h33]; refine hK _ _ ?_; clear hK K)
      rw [hbh, if_pos rfl, List.append_nil] at hsu
      exact ⟨c2 - 1, by omega, i + 1, v, F, by omega, by (first | (simp [put_at, put_none, fr0_at, h3]; done) | rfl), by (first | (simp [put_at, put_none, fr0_at, h8]; done) | rfl), by (first | (simp [put_at, put_none, fr0_at, h31]; done) | rfl), by (first | (simp [put_at, put_none, fr0_at, h32]; done) | rfl), by (first | (simp [put_at, put_none, fr0_at]; done) | rfl), hlowG2, hmb, by rw [hsu]; exact hown, hF⟩
    | false =>
      try simp (disch := first | omega | (simp only [lnS]; try omega; done)) [-getElem?_pos, -getElem?_neg]
      refine hK _ _ ?_; clear hK K
      refine aw_t (by (first | (simp [eval_tmp, put_at]; done) | (simp [eval_tmp, put_at]; omega))) (by kernel_rfl) ?_
      rw [hbh, if_neg (by simp)] at hsu
      have hTk : K32 (headT l i) := fun k hk => by
        obtain ⟨a, ha, rfl⟩ := headT_mem hk
        exact (hwf _ (List.mem_of_getElem? (nd_get (show a < l.length by omega)))).id.1
      have hkl := kr_len hTk
      generalize headT l i = out at *
      generalize (nd l i).id = key at *
      have htk : List.take 32 (iv .u8 key) = iv .u8 key := List.take_of_length_le (by omega)
      have hxc : xcells 32 (.slice (some ⟨G3.length, 0, none⟩) 1 1) (G3 ++ [some ⟨iv .u8 key, 24, some 32⟩]) = some (iv .u8 key) := by simp [xcells, hget_app0, hivl, htk]
      obtain ⟨v', G5, hap, ho3, hl3, hk3⟩ := ownF_append (P := Try.prog) (nro := n) (t := 30) (e := 24) (H := G3 ++ [some ⟨iv .u8 key, 24, some 32⟩]) (v := v) (x := .slice (some ⟨G3.length, 0, none⟩) 1 1) (sz := 32) (cells := kr out) (news := iv .u8 key) (F := F) (by simp) (by simp) (by omega) (by simp) (hown.low (fun j hj => hget_left (hown.lt j hj)))
        (fun j hj => by have := hF j hj; omega) (fun s e => by cases e) hxc (fun e => by rw [e] at hivl; simp at hivl) (by rw [hivl]) (by rw [hkl, hivl]; simp; omega) (by rw [hkl, hivl]; simp [maxLen]; omega)
      have hfil := fill_keyG (k := .u8) (x := key) (n := 32) (zl 32) hivl
      (refine aw_ops (by kernel_rfl) (fun K hK => ?_); simp (disch := first | omega | (simp only [lnS]; try omega; done)) [-getElem?_pos, -getElem?_neg, h8, hb2, hul, hid, hivl, htk, -notTuple, v1, v2, nt_slG, nt_aggG, -xfill, hfil, all_zl, -xappend, hap]; refine hK _ _ ?_; clear hK K)
      (refine aw_ops (by kernel_rfl) (fun K hK => ?_); simp (disch := first | omega | (simp only [lnS]; try omega; done)) [-getElem?_pos, -getElem?_neg, h33]; refine hK _ _ ?_; clear hK K)
      have hgl := hget_lt hmb
      refine ⟨c2 - 1, by omega, i + 1, v', _, by omega, by (first | (simp [put_at, put_none, fr0_at, h3]; done) | rfl), by (first | (simp [put_at, put_none, fr0_at]; done) | rfl), by (first | (simp [put_at, put_none, fr0_at, h31]; done) | rfl), by (first | (simp [put_at, put_none, fr0_at, h32]; done) | rfl), by (first | (simp [put_at, put_none, fr0_at]; done) | rfl), ?_, ?_, by rw [hsu, kr_app, kr_one]; exact ho3, fun j hj => ?_⟩
      · exact ⟨fun j hj => (hk3 j (by have := hlowG2.2; simp; omega) (fun h => by have := hF _ h; omega)).trans ((hget_left (by have := hlowG2.2; omega)).trans (hlowG2.1 j hj)), by have := hlowG2.2; rw [hl3]; simp; omega⟩
      · exact (hk3 n (by simp; omega) (fun h => by have := hF _ h; omega)).trans ((hget_left (by omega)).trans hmb)
      · rw [List.mem_singleton] at hj
        rw [hj]
        simp; omega
  obtain ⟨j, q, bb, us, pv, wv', bv, qv, hx, hbb, hq, hcell, hus, hC⟩ := hat t _ (nd_get ht)
  have hbG : hget G j = some bb := (hlow.1 j (by have := hget_lt hbb; omega)).trans hbb
  have hul := hC.len
  have hle0 := hlow.2
  have hset2 : ∀ Z : List Value, Z.length = 104 → setR Z 0 us = us := fun Z hZ => setR_all _ _ (by omega)
  have hus' := hus.symm
  clear hus
  have hp0 : plain1 (.slice none 0 0) = true := rfl
  have hnG : H.length ≤ G.length := by omega
  (refine aw_ops (by kernel_rfl) (fun K hK => ?_); simp (disch := first | omega | (simp only [lnS]; try omega; done)) [-getElem?_pos, -getElem?_neg, h15, h16, ht]; refine hK _ _ ?_; clear hK K)
  refine aw_seq ?_
  refine aw_t (by (first | (simp [eval_tmp, put_at, ht]; done) | (simp [eval_tmp, put_at, ht]; omega))) (by kernel_rfl) ?_
  refine aw_skip ?_
  refine aw_seq ?_
  refine aw_block ?_
  refine aw_seq ?_
  (refine aw_ops (by kernel_rfl) (fun K hK => ?_); simp (disch := first | omega | (simp only [lnS]; try omega; done)) [-getElem?_pos, -getElem?_neg, h14, h16, -notTuple, hnt, hvc, nt_intG, nt_aggG, -xindexAddr, hx, hbG, hus', hul, hq, hnG, hp0, all_zl, hset2]; refine hK _ _ ?_; clear hK K)
  obtain ⟨hlow2, hb2⟩ := boxed (H := G) us 39
  have hmb := hget_left' (L := [some ⟨us, 39, none⟩]) hb
  obtain ⟨g, hg⟩ : ∃ g, g = G.length := ⟨_, rfl⟩
  rw [← hg] at hb2 hlow2 hle0 ⊢
  generalize G ++ [some ⟨us, 39, none⟩] = G2 at *
  have hlowG2 : Low n H G2 := ⟨fun j hj => (hlow2.1 j (by omega)).trans (hlow.1 j hj), by have := hlow2.2; omega⟩
  have hC2 : NodeC G2 us (nd l t) pv wv' bv qv := hC.low (fun j hj => hlowG2.1 j (by omega))
  have hacc := hC.past.acc
  have c103 := hC.c103
  have hpm := past_len hr ht
  refine aw_seq ?_
  (refine aw_ops (by kernel_rfl) (fun K hK => ?_); simp (disch := first | omega | (simp only [lnS]; try omega; done)) [-getElem?_pos, -getElem?_neg, hb2, hul, c103, -notTuple, hacc.nt, hacc.cs, nt_intG, -xlen, hacc.len]; refine hK _ _ ?_; clear hK K)
  refine aw_block ?_
  refine aw_loop (fun c2 α G => ∃ (e : Nat) (V : List Nat), e + c2 = (nd l t).past.length ∧ α 0 = nv ∧ α 3 = .pointer (some ⟨n, 0, none⟩) ∧ α 14 = nv ∧ α 15 = .int .i64 (l.length : Nat) ∧ α 16 = .int .i64 (t : Nat) ∧ α 21 = qv ∧ α 22 = .int .i64 ((nd l t).past.length : Nat) ∧ α 23 = .int .i64 (e : Nat) ∧ Low n H G ∧ hget G n = some ⟨[] ++ wv V, 67, none⟩ ∧ Wd V ∧ V.length = 2 ∧ ∀ k, k < 128 → hasW V 0 k = (behT l t k || decide ((k : Int) ∈ (nd l t).past.take e))) (nd l t).past.length ?_ ?_
  · exact ⟨0, W, by omega, by (first | (simp [put_at, put_none, fr0_at, h0]; done) | rfl), by (first | (simp [put_at, put_none, fr0_at, h3]; done) | rfl), by (first | (simp [put_at, put_none, fr0_at, h14]; done) | rfl), by (first | (simp [put_at, put_none, fr0_at, h15]; done) | rfl), by (first | (simp [put_at, put_none, fr0_at, h16]; done) | rfl), by (first | (simp [put_at, put_none, fr0_at]; done) | rfl), by (first | (simp [put_at, put_none, fr0_at]; done) | rfl), by (first | (simp [put_at, put_none, fr0_at]; done) | rfl), hlowG2, hmb, hwd, hWl, fun k hk => by rw [hW k hk]; simp⟩
  rintro c2 α G ⟨e, V, hec, h0, h3, h14, h15, h16, h21, h22, h23, hlow, hb, hwd, hWl, hW⟩
  refine aw_seq ?_
  by_cases he : e < (nd l t).past.length
  case neg =>
    (refine aw_ops (by kernel_rfl) (fun K hK => ?_); simp (disch := first | omega | (simp only [lnS]; try omega; done)) [-getElem?_pos, -getElem?_neg, h22, h23, he]; refine hK _ _ ?_; clear hK K)
    refine aw_seq ?_
    refine aw_f (by (first | (simp [eval_tmp, put_at, he]; done) | (simp [eval_tmp, put_at, he]; omega))) (by kernel_rfl) ?_
    refine aw_exit ?_
    obtain rfl : e = (nd l t).past.length := by omega
    (refine aw_ops (by kernel_rfl) (fun K hK => ?_); simp (disch := first | omega | (simp only [lnS]; try omega; done)) [-getElem?_pos, -getElem?_neg, h16]; refine hK _ _ ?_; clear hK K)
    exact ⟨c - 1, by omega, t + 1, V, by omega, by (first | (simp [put_at, put_none, fr0_at, h0]; done) | rfl), by (first | (simp [put_at, put_none, fr0_at, h3]; done) | rfl), by (first | (simp [put_at, put_none, fr0_at, h14]; done) | rfl), by (first | (simp [put_at, put_none, fr0_at, h15]; done) | rfl), by (first | (simp [put_at, put_none, fr0_at]; done) | rfl), hlow, hb, hwd, hWl, fun k hk => by rw [hW k hk, List.take_length, behT_succ]⟩
  obtain ⟨p2, x2, p21, p22, p23, p24, p25⟩ := hacc.at_ e he
  subst p24
  obtain ⟨z, hz⟩ : ∃ z, z = (nd l t).past.getD e 0 := ⟨_, rfl⟩
  rw [← hz] at p25
  have hze : (nd l t).past[e]? = some z := by rw [hz, List.getD_eq_getElem?_getD, List.getElem?_eq_getElem he]; rfl
  have htk2 : (nd l t).past.take (e + 1) = (nd l t).past.take e ++ [z] := by rw [List.take_add_one, hze]; rfl
  have p25 := p25 G (hn ▸ hlow)
  obtain ⟨kz, rfl, hkz⟩ := past_bd hr ht (List.mem_of_getElem? hze)
  have hadd := add_ac (nro := n) (γ := γ) (i := 0) (k := kz) (off := 0) (p := 0) (pre := []) hb (by omega) rfl rfl hwd (by omega) (by omega)
  (refine aw_ops (by kernel_rfl) (fun K hK => ?_); simp (disch := first | omega | (simp only [lnS]; try omega; done)) [-getElem?_pos, -getElem?_neg, h22, h23, he]; refine hK _ _ ?_; clear hK K)
  refine aw_seq ?_
  refine aw_t (by (first | (simp [eval_tmp, put_at, he]; done) | (simp [eval_tmp, put_at, he]; omega))) (by kernel_rfl) ?_
  refine aw_skip ?_
  refine aw_seq ?_
  refine aw_block ?_
  refine aw_seq ?_
  (refine aw_ops (by kernel_rfl) (fun K hK => ?_); simp (disch := first | omega | (simp only [lnS]; try omega; done)) [-getElem?_pos, -getElem?_neg, h21, h23, -notTuple, hacc.nt, hacc.cs, p21, nt_intG, -xindexAddr, p22, -xload, p25]; refine hK _ _ ?_; clear hK K)
  refine aw_ops (by kernel_rfl) (fun K hK => ?_)
  simp (disch := first | omega | (simp only [lnS]; try omega; done)) [-getElem?_pos, -getElem?_neg, h3]
  refine ⟨by kernel_rfl, hadd.mono ?_⟩
  rintro u G3 rfl
  try simp (disch := first | omega | (simp only [lnS]; try omega; done)) [-getElem?_pos, -getElem?_neg]
  refine hK _ _ ?_; clear hK K
  have hbl := hget_lt hb
  have hb3 : hget (G.set n (some ⟨wv (addW V 0 kz), 67, none⟩)) n = some ⟨wv (addW V 0 kz), 67, none⟩ := hget_set_eq hbl
  have hlow3 : Low n H (G.set n (some ⟨wv (addW V 0 kz), 67, none⟩)) := ⟨fun j hj => (hget_set_ne (by omega)).trans (hlow.1 j hj), by rw [List.length_set]; exact hlow.2⟩
  generalize G.set n (some ⟨wv (addW V 0 kz), 67, none⟩) = G4 at *
  (refine aw_ops (by kernel_rfl) (fun K hK => ?_); simp (disch := first | omega | (simp only [lnS]; try omega; done)) [-getElem?_pos, -getElem?_neg, h23]; refine hK _ _ ?_; clear hK K)
  refine ⟨c2 - 1, by omega, e + 1, addW V 0 kz, by omega, by (first | (simp [put_at, put_none, fr0_at, h0]; done) | rfl), by (first | (simp [put_at, put_none, fr0_at, h3]; done) | rfl), by (first | (simp [put_at, put_none, fr0_at, h14]; done) | rfl), by (first | (simp [put_at, put_none, fr0_at, h15]; done) | rfl), by (first | (simp [put_at, put_none, fr0_at, h16]; done) | rfl), by (first | (simp [put_at, put_none, fr0_at, h21]; done) | rfl), by (first | (simp [put_at, put_none, fr0_at, h22]; done) | rfl), by (first | (simp [put_at, put_none, fr0_at]; done) | rfl), hlow3, hb3, hwd.add 0 kz, by rw [addW_len, hWl], fun k hk => ?_⟩
  rw [hasW_add (by omega) hk (by omega), hW k hk, htk2]
  rw [Bool.eq_iff_iff]
  simp only [Bool.or_eq_true, Bool.and_eq_true, decide_eq_true_eq, List.mem_append, List.mem_singleton, or_assoc]
  refine or_congr Iff.rfl (or_congr Iff.rfl ?_)
  constructor
  · intro h; have := h.2; omega
  · intro h; exact ⟨trivial, by omega⟩
end
section
/-- An own slice with cells behind it, whatever they are. -/
theorem ownF_app {P : Program} {nro : Nat} {t e : TypeId} {H : AH} {v x : Value} {sz : Nat} {cells news : List Value} {F : List Nat} (hu : und P t = .slice e) (hs : szt P e = sz) (h0 : 0 < sz) (hz : (zer P e).map (·.cells.size) = some sz)
    (hv : OwnF H v e sz cells F) (hnro : ∀ j ∈ F, nro ≤ j) (hstr : ∀ s, x ≠ .string s) (hx : xcells sz x H = some news) (hd : news.length % sz = 0) (hb : (cells.length + news.length) * byt P e ≤ 140737488355328) (hm : cells.length + news.length ≤ maxLen) :
    ∃ v' H' F', xappend P nro t v x H = some (v', H') ∧ OwnF H' v' e sz (cells ++ news) F' ∧ H.length ≤ H'.length ∧ (∀ j, j < H.length → j ∉ F → hget H' j = hget H j) ∧ ∀ j ∈ F', H.length ≤ j := by
  by_cases hn : news = []
  · subst hn
    rcases hv with ⟨rfl, rfl, rfl⟩ | ⟨j, len, rfl, h3, h4, rfl⟩
    · refine ⟨.slice none 0 0, H, [], ?_, .inl ⟨rfl, rfl, rfl⟩, Nat.le_refl _, fun _ _ _ => rfl, fun j hj => (by cases hj)⟩
      subst hs
      unfold xappend
      cases x <;> first | (exact absurd rfl (hstr _)) | (simp only [hu, hx]; rw [if_pos ⟨h0, hz, by simp, by simp⟩]; first | rw [if_pos rfl] | rw [if_pos trivial])
    · subst hs
      have hj := hget_lt h3
      refine ⟨.slice (some ⟨H.length, 0, none⟩) len len, H.set j none ++ [some ⟨cells, e, some (szt P e)⟩], [H.length], ?_, .inr ⟨H.length, len, rfl, ?_, by simpa using h4, rfl⟩, by simp, fun i hi hni => ?_, fun j hj => by simp at hj; omega⟩
      · have hc : True ∧ 0 < szt P e ∧ (zer P e).map (·.cells.size) = some (szt P e) ∧ nro ≤ j ∧ True ∧ True ∧ len * szt P e ≤ cells.length ∧ (len * szt P e + 0) * byt P e ≤ 140737488355328 ∧ len * szt P e + 0 ≤ maxLen :=
          ⟨trivial, h0, hz, hnro j (by simp), trivial, trivial, by omega, by rw [← h4]; exact hb, by rw [← h4]; exact hm⟩
        have e2 : cells.take (len * szt P e) = cells := List.take_of_length_le (by omega)
        unfold xappend
        cases x <;> first | (exact absurd rfl (hstr _)) | (simp only [hu, hx, h3, List.length_nil]; rw [if_pos hc, e2]; simp)
      · have : (H.set j none).length = H.length := by simp
        rw [← this, hget_app0, hget_cons0, List.append_nil]
      · rw [hget_left (by simp; omega), hget_set_ne (fun e => hni (by simp [e]))]
  · obtain ⟨v', H', h1, h2, h3, h4⟩ := ownF_append (P := P) (nro := nro) (t := t) hu hs h0 hz hv hnro hstr hx hn hd hb hm
    exact ⟨v', H', _, h1, h2, by omega, h4, fun j hj => by simp at hj; omega⟩
attribute [local simp] wb_bool wb_undef with_lit XL_nil XL_cons XLc_val XLc_call step1_eq stepW_t stepW_f stepC_n stepC_s stepX_s stepX_n stepN_s calleeX oneV xop_eq xopR_s xopR_n wantedA_eq wantedG_n wantedG_s plain1_int plain1_bool plain1_string bits_i64 bits_u64 bits_u32 bits_u16 bits_u8 xeqA xagg xcmp xarr allK_iv num_iv calleeOf xread xeff xbin xint xnil xun xstr xload xconv xpart xfield xfieldAddr xindexAddr xindex bnd asInt? xslice xlen xmin xmax xbuild xfill xappend xapp2 xappstr xappmk xcap xcopy xcells eval_tmp eval_const put_at put_none fr0_at cells_agg cells_int cells_bool cells_string cells_ptr cells_slice notTuple tab iv_all hget_app hget_app0 hget_cons0 hget_cons set_app set_app0 setR setR_one QL_nil QL_cons QLc_val stepQ_t stepQ_f stepQC_n stepQC_s stepQX_s SL_nil SL_cons SLc_val stepS_t stepS_f ltT ltF leT leF eqT eqF ltTn ltFn leTn leFn eqTn eqFn beqT beqF bneT bneF wi64 wu64 wu32 wu16 wu8 tmodP tdivP hgetL hgetNe hgetEq setL nums_def nums_len Nat.succ_le_of_lt List.getElem?_cons_zero List.getElem?_cons_succ Option.getD_some Int.toNat_add Int.toNat_mul agM okM agB agI agS agP agL agA okB okI okS okP okSl okA
end
section
theorem tl_eq (a b : ByteArray) : a.toList = b.toList ↔ a = b := by
  rw [ByteArray.toList_eq, ByteArray.toList_eq]
  exact ⟨fun h => ByteArray.ext (Array.toList_inj.1 h), fun h => by rw [h]⟩
theorem BoxD.ext {a b : BoxD} (h1 : a.to = b.to) (h2 : a.pub = b.pub) (h3 : a.n = b.n) (h4 : a.prev = b.prev) (h5 : a.body = b.body) : a = b := by
  cases a; cases b; simp only [BoxD.mk.injEq] at *; exact ⟨h1, h2, h3, h4, h5⟩
theorem OpD.ext {a b : OpD} (h1 : a.author = b.author) (h2 : a.seq = b.seq) (h3 : a.parents = b.parents) (h4 : a.kind = b.kind) (h5 : a.who = b.who) (h6 : a.of = b.of) (h7 : a.check = b.check) (h8 : a.text = b.text) (h9 : a.boxes = b.boxes) : a = b := by
  cases a; cases b; simp only [OpD.mk.injEq] at *; exact ⟨h1, h2, h3, h4, h5, h6, h7, h8, h9⟩
theorem NodeD.ext {a b : NodeD} (h1 : a.id = b.id) (h2 : a.op = b.op) (h3 : a.past = b.past) : a = b := by
  cases a; cases b; simp only [NodeD.mk.injEq] at *; exact ⟨h1, h2, h3⟩
noncomputable instance : DecidableEq BoxD := Classical.typeDecidableEq _
noncomputable instance : DecidableEq OpD := Classical.typeDecidableEq _
noncomputable instance : DecidableEq NodeD := Classical.typeDecidableEq _
/-- A box's cells. -/
def boxRow (b : BoxD) : List Value := .int .i64 b.to :: (iv .u8 b.pub ++ [.int .u32 b.n, .int .u32 b.prev, .string b.body])
theorem BoxC.row {H : AH} {us : List Value} {b : BoxD} (h : BoxC H us b) : us = boxRow b := by
  have hl := h.len
  have e1 : us.drop 1 = iv .u8 b.pub ++ us.drop 33 := by
    have := (List.take_append_drop 32 (us.drop 1)).symm
    rwa [h.pub, List.drop_drop] at this
  have e0 : us.take 1 = [.int .i64 b.to] := by
    apply List.ext_getElem?
    intro i
    match i with
    | 0 => rw [List.getElem?_take_of_lt (by omega), h.c0]; rfl
    | i + 1 => rw [List.getElem?_eq_none (by rw [List.length_take]; omega), List.getElem?_eq_none (by simp)]
  have e2 : us.drop 33 = [.int .u32 b.n, .int .u32 b.prev, .string b.body] := by
    apply List.ext_getElem?
    intro i
    match i with
    | 0 => rw [List.getElem?_drop, h.c33]; rfl
    | 1 => rw [List.getElem?_drop, h.c34]; rfl
    | 2 => rw [List.getElem?_drop, h.c35]; rfl
    | i + 3 => rw [List.getElem?_eq_none (by rw [List.length_drop]; omega), List.getElem?_eq_none (by simp)]
  have := (List.take_append_drop 1 us).symm
  rw [e0, e1, e2] at this
  exact this
theorem iv_p1 (k : IntKind) (l : List Int) : (iv k l).all plain1 = true := by
  rw [List.all_eq_true]
  intro x hx
  unfold iv at hx
  obtain ⟨z, _, rfl⟩ := List.mem_map.1 hx
  rfl
theorem three {fs : List Field} {n1 n2 n3 : String} {t1 t2 t3 o1 o2 o3 : Nat} (h : fs.map (fun f => (f.name, f.type, f.offset)) = [(n1, t1, o1), (n2, t2, o2), (n3, t3, o3)]) : ∃ f1 f2 f3 : Field, fs = [f1, f2, f3] ∧ (f1.name = n1 ∧ f1.type = t1 ∧ f1.offset = o1) ∧ (f2.name = n2 ∧ f2.type = t2 ∧ f2.offset = o2) ∧ (f3.name = n3 ∧ f3.type = t3 ∧ f3.offset = o3) := by
  match fs, h with
  | [f1, f2, f3], h =>
    simp only [List.map_cons, List.map_nil, List.cons.injEq, Prod.mk.injEq, and_true] at h
    exact ⟨f1, f2, f3, rfl, h.1, h.2.1, h.2.2⟩
theorem three_df {P : Program} {q : TypeId → Value → Value → Option Bool} {f1 f2 f3 : Field} {xs ys : Array Value} {u1 u2 u3 v1 v2 v3 : Value} {r1 r2 r3 : Bool} (n1 : f1.name ≠ "_") (n2 : f2.name ≠ "_") (n3 : f3.name ≠ "_") (a1 : xpartV P f1.type xs f1.offset = some u1) (a2 : xpartV P f2.type xs f2.offset = some u2) (a3 : xpartV P f3.type xs f3.offset = some u3) (b1 : xpartV P f1.type ys f1.offset = some v1) (b2 : xpartV P f2.type ys f2.offset = some v2) (b3 : xpartV P f3.type ys f3.offset = some v3) (e1 : q f1.type u1 v1 = some r1) (e2 : q f2.type u2 v2 = some r2) (e3 : q f3.type u3 v3 = some r3) : xdf P q [f1, f2, f3] xs ys = some (r1 && (r2 && (r3 && true))) := by
  unfold xdf
  rw [if_neg n1, a1, b1]
  simp only [e1]
  unfold xdf
  rw [if_neg n2, a2, b2]
  simp only [e2]
  unfold xdf
  rw [if_neg n3, a3, b3]
  simp only [e3]
  unfold xdf
  rfl
theorem part_at {P : Program} {t : TypeId} {xs : Array Value} {o : Nat} {v : Value} (h : isAggD (und P t) = false) (hx : xs[o]? = some v) : xpartV P t xs o = some v := by
  unfold xpartV
  rw [if_neg (by rw [h]; decide), hx]
theorem part_ag {P : Program} {t : TypeId} {xs : Array Value} {o n : Nat} {v : Array Value} (h : isAggD (und P t) = true) (hz : szt P t = n) (h0 : 0 < n) (hx : xs.extract o (o + n) = v) : xpartV P t xs o = some (.agg v) := by
  unfold xpartV
  rw [if_pos h, hz, if_pos h0, hx]
theorem dq_int {P : Program} {d : Nat} {t : TypeId} {k : IntKind} {a b : Int} {kk : IntKind} (h : und P t = .int kk) : xdq P (d + 1) t (.int k a) (.int k b) = some (a == b) := by
  unfold xdq
  rw [h]
  simp
theorem dq_str {P : Program} {d : Nat} {t : TypeId} {a b : ByteArray} (h : und P t = .string) : xdq P (d + 1) t (.string a) (.string b) = some (a.toList == b.toList) := by
  unfold xdq
  rw [h]
theorem dq_ints {P : Program} {d n : Nat} {t e : TypeId} {k : IntKind} {a b : List Int} (h : und P t = .array n e) (he : und P e = .int k) (hs : szt P e = 1) (ha : a.length = n) (hb : b.length = n) : xdq P (d + 1) t (.agg (iv k a).toArray) (.agg (iv k b).toArray) = some (a == b) := by
  unfold xdq
  rw [h]
  simp only [he]
  rw [if_pos ⟨allK_iv k a, allK_iv k b, by simpa [iv_length] using ha, by simpa [iv_length] using hb, hs⟩, num_iv, num_iv]
theorem head_row (b : BoxD) (hb : b.pub.length = 32) : (boxRow b).toArray.extract 1 (1 + 34) = (iv .u8 b.pub ++ [Value.int .u32 b.n, .int .u32 b.prev]).toArray := by
  apply Array.toList_inj.1
  rw [Array.toList_extract, List.extract_eq_take_drop, List.toList_toArray, List.toList_toArray]
  have hl : (iv .u8 b.pub).length = 32 := by rw [iv_length, hb]
  show ((iv .u8 b.pub ++ [Value.int .u32 b.n, .int .u32 b.prev, .string b.body]).take 34) = _
  rw [List.take_append, List.take_of_length_le (by omega), hl]
  rfl
theorem xdq_box {a b : BoxD} (X Y : Array Value) (hX : X = (boxRow a).toArray) (hY : Y = (boxRow b).toArray) (ha : a.pub.length = 32) (hb : b.pub.length = 32) : xdq Try.prog 6 60 (.agg X) (.agg Y) = some ((a.to == b.to) && (((a.pub == b.pub) && ((a.n == b.n) && ((a.prev == b.prev) && true))) && ((a.body.toList == b.body.toList) && true))) := by
  subst hX hY
  have u1 : und Try.prog 60 = .struct (Try.prog.fieldsOf 60) := by kernel_rfl
  have u2 : und Try.prog 58 = .struct (Try.prog.fieldsOf 58) := by kernel_rfl
  have g1 : Try.prog.stoodInHeld 60 = false := by kernel_rfl
  have g2 : Try.prog.stoodInHeld 58 = false := by kernel_rfl
  obtain ⟨f1, f2, f3, ef, ⟨a1, a2, a3⟩, ⟨b1, b2, b3⟩, c1, c2, c3⟩ := three (fs := (Try.prog.fieldsOf 60).toList) (n1 := "To") (t1 := 3) (o1 := 0) (n2 := "Head") (t2 := 58) (o2 := 1) (n3 := "Body") (t3 := 9) (o3 := 35) (by kernel_rfl)
  obtain ⟨h1, h2, h3, eh, ⟨d1, d2, d3⟩, ⟨e1, e2, e3⟩, k1, k2, k3⟩ := three (fs := (Try.prog.fieldsOf 58).toList) (n1 := "Pub") (t1 := 24) (o1 := 0) (n2 := "N") (t2 := 33) (o2 := 32) (n3 := "Prev") (t3 := 33) (o3 := 33) (by kernel_rfl)
  have la : (iv .u8 a.pub).length = 32 := by rw [iv_length, ha]
  have lb : (iv .u8 b.pub).length = 32 := by rw [iv_length, hb]
  have key : ∀ (x : BoxD), (iv .u8 x.pub).length = 32 → (iv .u8 x.pub ++ [Value.int .u32 x.n, .int .u32 x.prev]).toArray.extract 0 (0 + 32) = (iv .u8 x.pub).toArray := fun x hx => by
    apply Array.toList_inj.1
    rw [Array.toList_extract, List.extract_eq_take_drop, List.toList_toArray, List.toList_toArray]
    show (iv .u8 x.pub ++ _).take 32 = _
    rw [List.take_append_of_le_length (by omega), List.take_of_length_le (by omega)]
  have at32 : ∀ (x : BoxD), (iv .u8 x.pub).length = 32 → (iv .u8 x.pub ++ [Value.int .u32 x.n, .int .u32 x.prev]).toArray[32]? = some (.int .u32 x.n) ∧ (iv .u8 x.pub ++ [Value.int .u32 x.n, .int .u32 x.prev]).toArray[33]? = some (.int .u32 x.prev) := fun x hx => by
    constructor
    · rw [List.getElem?_toArray, List.getElem?_append_right (by omega), hx]; rfl
    · rw [List.getElem?_toArray, List.getElem?_append_right (by omega), hx]; rfl
  have at35 : ∀ (x : BoxD), (iv .u8 x.pub).length = 32 → (boxRow x).toArray[35]? = some (.string x.body) := fun x hx => by
    rw [List.getElem?_toArray]
    unfold boxRow
    rw [List.getElem?_cons_succ, List.getElem?_append_right (by omega), hx]; rfl
  have agk : isAggD (und Try.prog 24) = true := by kernel_rfl
  have agh : isAggD (und Try.prog 58) = true := by kernel_rfl
  have agi : isAggD (und Try.prog 3) = false := by kernel_rfl
  have agu : isAggD (und Try.prog 33) = false := by kernel_rfl
  have ags : isAggD (und Try.prog 9) = false := by kernel_rfl
  have sk : szt Try.prog 24 = 32 := by kernel_rfl
  have sh : szt Try.prog 58 = 34 := by kernel_rfl
  have hhead : xdq Try.prog 5 58 (.agg (iv .u8 a.pub ++ [Value.int .u32 a.n, .int .u32 a.prev]).toArray) (.agg (iv .u8 b.pub ++ [Value.int .u32 b.n, .int .u32 b.prev]).toArray) = some ((a.pub == b.pub) && ((a.n == b.n) && ((a.prev == b.prev) && true))) := by
    unfold xdq
    rw [u2]
    simp only [g2, if_true]
    rw [eh]
    refine three_df (by rw [d1]; decide) (by rw [e1]; decide) (by rw [k1]; decide) (by rw [d2, d3]; exact part_ag agk sk (by omega) (key a la)) (by rw [e2, e3]; exact part_at agu (at32 a la).1) (by rw [k2, k3]; exact part_at agu (at32 a la).2) (by rw [d2, d3]; exact part_ag agk sk (by omega) (key b lb)) (by rw [e2, e3]; exact part_at agu (at32 b lb).1) (by rw [k2, k3]; exact part_at agu (at32 b lb).2) ?_ ?_ ?_
    · rw [d2]; exact dq_ints (e := 5) (n := 32) (by kernel_rfl) (by kernel_rfl) (by kernel_rfl) ha hb
    · rw [e2]; exact dq_int (kk := .u32) (by kernel_rfl)
    · rw [k2]; exact dq_int (kk := .u32) (by kernel_rfl)
  unfold xdq
  rw [u1]
  simp only [g1, if_true]
  rw [ef]
  refine three_df (by rw [a1]; decide) (by rw [b1]; decide) (by rw [c1]; decide) (by rw [a2, a3]; exact part_at agi rfl) (by rw [b2, b3]; exact part_ag agh sh (by omega) (head_row a ha)) (by rw [c2, c3]; exact part_at ags (at35 a la)) (by rw [a2, a3]; exact part_at agi rfl) (by rw [b2, b3]; exact part_ag agh sh (by omega) (head_row b hb)) (by rw [c2, c3]; exact part_at ags (at35 b lb)) ?_ ?_ ?_
  · rw [a2]; exact dq_int (kk := .i64) (by kernel_rfl)
  · rw [b2]; exact hhead
  · rw [c2]; exact dq_str (by kernel_rfl)
/-- Two boxes, compared. -/
theorem box_eq {a b : BoxD} (ha : a.pub.length = 32) (hb : b.pub.length = 32) : xagg Try.prog 60 (boxRow a) (boxRow b) = some (decide (a = b)) := by
  have c1 : cmpT Try.prog 60 = none := by kernel_rfl
  have c2 : ∀ xs ys, xarr Try.prog 60 xs ys = none := fun xs ys => by
    have : und Try.prog 60 = .struct (Try.prog.fieldsOf 60) := by kernel_rfl
    unfold xarr
    rw [this]
  have c3 : gl Try.prog 60 = true := by kernel_rfl
  have p : ∀ x : BoxD, (boxRow x).all plain1 = true := fun x => by
    unfold boxRow
    rw [List.all_cons, List.all_append, iv_p1]; rfl
  unfold xagg
  rw [c1]
  simp only [c2]
  unfold xdeep
  rw [if_pos ⟨c3, p a, p b⟩]
  rw [xdq_box _ _ rfl rfl ha hb]
  congr 1
  rw [Bool.eq_iff_iff, decide_eq_true_eq]
  simp only [Bool.and_eq_true, beq_iff_eq, Bool.and_true]
  rw [tl_eq]
  constructor
  · rintro ⟨h1, ⟨h2, h3, h4⟩, h5⟩
    exact BoxD.ext h1 h2 h3 h4 h5
  · rintro rfl
    exact ⟨rfl, ⟨rfl, rfl, rfl⟩, rfl⟩
end
section
attribute [local simp] wb_bool wb_undef with_lit XL_nil XL_cons XLc_val XLc_call step1_eq stepW_t stepW_f stepC_n stepC_s stepX_s stepX_n stepN_s calleeX oneV xop_eq xopR_s xopR_n wantedA_eq wantedG_n wantedG_s plain1_int plain1_bool plain1_string bits_i64 bits_u64 bits_u32 bits_u16 bits_u8 xeqA xagg xcmp xarr allK_iv num_iv calleeOf xread xeff xbin xint xnil xun xstr xload xconv xpart xfield xfieldAddr xindexAddr xindex bnd asInt? xslice xlen xmin xmax xbuild xfill xappend xapp2 xappstr xappmk xcap xcopy xcells eval_tmp eval_const put_at put_none fr0_at cells_agg cells_int cells_bool cells_string cells_ptr cells_slice notTuple tab iv_all hget_app hget_app0 hget_cons0 hget_cons set_app set_app0 setR setR_one QL_nil QL_cons QLc_val stepQ_t stepQ_f stepQC_n stepQC_s stepQX_s SL_nil SL_cons SLc_val stepS_t stepS_f ltT ltF leT leF eqT eqF ltTn ltFn leTn leFn eqTn eqFn beqT beqF bneT bneF wi64 wu64 wu32 wu16 wu8 tmodP tdivP hgetL hgetNe hgetEq setL nums_def nums_len Nat.succ_le_of_lt List.getElem?_cons_zero List.getElem?_cons_succ Option.getD_some Int.toNat_add Int.toNat_mul agM okM agB agI agS agP agL agA okB okI okS okP okSl okA
theorem sameOp_rc {γ : Nat → Option Nat} {H : AH} {us ws : List Value} {o o' : OpD} {pv wv bv pv' wv' bv' : Value} (h : OpC H us o pv wv bv) (h' : OpC H ws o' pv' wv' bv') (hw : o.Wf) (hw' : o'.Wf) (hs : o.parents.length ≤ 1000000 ∧ o.who.length ≤ 1000000 ∧ o.boxes.length ≤ 1000000) : AC Try.prog H.length γ 43 #[.agg us.toArray, .agg ws.toArray] H (fun v' _ => v' = .bool (decide (o = o'))) := by
  have hul := h.len
  have hwl := h'.len
  obtain ⟨m1, m2, m3⟩ := hs
  have hps := hw'.plen
  have hws := hw'.wlen
  have hbs := hw'.blen
  have hm63 : o'.parents.length ≤ 9223372036854775807 ∧ o'.who.length ≤ 9223372036854775807 ∧ o'.boxes.length ≤ 9223372036854775807 := by simp only [maxLen] at hps hws hbs; omega
  obtain ⟨m1', m2', m3'⟩ := hm63
  refine ac_of_aw Try.func43 rfl Try.ntmps43 Try.results43 (by simp) ?_
  refine aw_seq ?_
  (refine aw_ops (by kernel_rfl) (fun K hK => ?_); simp (disch := first | omega | (simp only [lnS]; try omega; done)) [-getElem?_pos, -getElem?_neg, hul, hwl, nt_aggG]; refine hK _ _ ?_; clear hK K)
  obtain ⟨G, hGe⟩ : ∃ G : AH, G = H ++ [some ⟨us, 37, none⟩, some ⟨ws, 37, none⟩] := ⟨_, rfl⟩
  have b2 : hget G H.length = some ⟨us, 37, none⟩ := by rw [hGe, hget_app0]; rfl
  have b3 : hget G (H.length + 1) = some ⟨ws, 37, none⟩ := by rw [hGe, hget_app]; rfl
  have lw : Low H.length H G := hGe ▸ Low.push (Nat.le_refl _) _
  rw [← hGe]
  clear hGe
  obtain ⟨n, hn⟩ : ∃ n, n = H.length := ⟨_, rfl⟩
  rw [← hn] at b2 b3 lw ⊢
  have hO : OpC G us o pv wv bv := h.low (fun j hj => lw.1 j (by omega))
  have hO' : OpC G ws o' pv' wv' bv' := h'.low (fun j hj => lw.1 j (by omega))
  have pa := hO.parents.acc (fun k hk => (hw.parents k hk).1)
  have wa := hO.who.acc
  have bn := val_nt hO.boxes
  have bl := val_len (P := Try.prog) (t := 35) (e := 60) hO.boxes (by kernel_rfl)
  rw [List.length_map] at bl
  have p1 := pa.nt
  have p2 := pa.cs
  have p3 := pa.len
  have w1 := wa.nt
  have w2 := wa.cs
  have w3 := wa.len
  obtain ⟨n1, n2⟩ := bn
  have c0 := hO.c0
  have c1 := hO.c1
  have c2 := hO.c2
  have c3 := hO.c3
  have c4 := hO.c4
  have cf := hO.of
  have cc := hO.check
  have c69 := hO.c69
  have c70 := hO.c70
  have lf : (iv .u8 o.of).length = 32 := by rw [iv_length, hw.of.1]
  have lc : (iv .u8 o.check).length = 32 := by rw [iv_length, hw.check.1]
  have pa' := hO'.parents.acc (fun k hk => (hw'.parents k hk).1)
  have wa' := hO'.who.acc
  have bn' := val_nt hO'.boxes
  have bl' := val_len (P := Try.prog) (t := 35) (e := 60) hO'.boxes (by kernel_rfl)
  rw [List.length_map] at bl'
  have p1' := pa'.nt
  have p2' := pa'.cs
  have p3' := pa'.len
  have w1' := wa'.nt
  have w2' := wa'.cs
  have w3' := wa'.len
  obtain ⟨n1', n2'⟩ := bn'
  have c0' := hO'.c0
  have c1' := hO'.c1
  have c2' := hO'.c2
  have c3' := hO'.c3
  have c4' := hO'.c4
  have cf' := hO'.of
  have cc' := hO'.check
  have c69' := hO'.c69
  have c70' := hO'.c70
  have lf' : (iv .u8 o'.of).length = 32 := by rw [iv_length, hw'.of.1]
  have lc' : (iv .u8 o'.check).length = 32 := by rw [iv_length, hw'.check.1]
  have x2 : xload Try.prog 30 (.pointer (some ⟨n, 2, none⟩)) G = some pv := by simp [xload, b2, c2]
  have x4 : xload Try.prog 34 (.pointer (some ⟨n, 4, none⟩)) G = some wv := by simp [xload, b2, c4]
  have x70 : xload Try.prog 35 (.pointer (some ⟨n, 70, none⟩)) G = some bv := by simp [xload, b2, c70]
  have x2' : xload Try.prog 30 (.pointer (some ⟨n + 1, 2, none⟩)) G = some pv' := by simp [xload, b3, c2']
  have x4' : xload Try.prog 34 (.pointer (some ⟨n + 1, 4, none⟩)) G = some wv' := by simp [xload, b3, c4']
  have x70' : xload Try.prog 35 (.pointer (some ⟨n + 1, 70, none⟩)) G = some bv' := by simp [xload, b3, c70']
  refine aw_seq ?_
  refine aw_seq ?_
  refine aw_cut (fun α G2 => α 2 = .pointer (some ⟨n, 0, none⟩) ∧ α 3 = .pointer (some ⟨n + 1, 0, none⟩) ∧ G2 = G ∧ ∃ b, α 74 = .bool b ∧ (b = true → ¬ o = o') ∧ (b = false → o.author = o'.author ∧ o.seq = o'.seq ∧ o.kind = o'.kind ∧ o.of = o'.of ∧ o.check = o'.check ∧ o.text = o'.text ∧ o.parents.length = o'.parents.length ∧ o.who.length = o'.who.length ∧ o.boxes.length = o'.boxes.length)) ?_ ?_
  · by_cases e0 : o.author = o'.author
    case neg =>
      have q0 : (o.author == o'.author) = false := by rw [beq_eq_false_iff_ne]; exact e0
      (refine aw_ops (by kernel_rfl) (fun K hK => ?_); simp (disch := first | omega | (simp only [lnS]; try omega; done)) [-getElem?_pos, -getElem?_neg, b2, b3, hul, hwl, c0, c0', c1, c1', c2, c2', c3, c3', c4, c4', cf, cf', cc, cc', c69, c69', c70, c70', lf, lf', lc, lc', -notTuple, p1, p1', p2, p2', w1, w1', w2, w2', n1, n1', n2, n2', nt_intG, nt_ptrG, nt_strG, nt_aggG, -xlen, p3, p3', w3, w3', bl, bl', e0, q0]; refine hK _ _ ?_; clear hK K)
      exact ⟨by (first | (simp [put_at, put_none, fr0_at]; done) | rfl), by (first | (simp [put_at, put_none, fr0_at]; done) | rfl), rfl, true, by (first | (simp [put_at, put_none, fr0_at]; done) | rfl), fun _ => fun hh => e0 (by rw [hh]), fun hh => (by cases hh)⟩
    have q0 : (o.author == o'.author) = true := by rw [beq_iff_eq]; exact e0
    by_cases e1 : o.seq = o'.seq
    case neg =>
      have q1 : (o.seq == o'.seq) = false := by rw [beq_eq_false_iff_ne]; exact e1
      (refine aw_ops (by kernel_rfl) (fun K hK => ?_); simp (disch := first | omega | (simp only [lnS]; try omega; done)) [-getElem?_pos, -getElem?_neg, b2, b3, hul, hwl, c0, c0', c1, c1', c2, c2', c3, c3', c4, c4', cf, cf', cc, cc', c69, c69', c70, c70', lf, lf', lc, lc', -notTuple, p1, p1', p2, p2', w1, w1', w2, w2', n1, n1', n2, n2', nt_intG, nt_ptrG, nt_strG, nt_aggG, -xlen, p3, p3', w3, w3', bl, bl', e0, q0, e1, q1]; refine hK _ _ ?_; clear hK K)
      exact ⟨by (first | (simp [put_at, put_none, fr0_at]; done) | rfl), by (first | (simp [put_at, put_none, fr0_at]; done) | rfl), rfl, true, by (first | (simp [put_at, put_none, fr0_at]; done) | rfl), fun _ => fun hh => e1 (by rw [hh]), fun hh => (by cases hh)⟩
    have q1 : (o.seq == o'.seq) = true := by rw [beq_iff_eq]; exact e1
    by_cases e2 : o.kind = o'.kind
    case neg =>
      have q2 : (o.kind == o'.kind) = false := by rw [beq_eq_false_iff_ne]; exact e2
      (refine aw_ops (by kernel_rfl) (fun K hK => ?_); simp (disch := first | omega | (simp only [lnS]; try omega; done)) [-getElem?_pos, -getElem?_neg, b2, b3, hul, hwl, c0, c0', c1, c1', c2, c2', c3, c3', c4, c4', cf, cf', cc, cc', c69, c69', c70, c70', lf, lf', lc, lc', -notTuple, p1, p1', p2, p2', w1, w1', w2, w2', n1, n1', n2, n2', nt_intG, nt_ptrG, nt_strG, nt_aggG, -xlen, p3, p3', w3, w3', bl, bl', e0, q0, e1, q1, e2, q2]; refine hK _ _ ?_; clear hK K)
      exact ⟨by (first | (simp [put_at, put_none, fr0_at]; done) | rfl), by (first | (simp [put_at, put_none, fr0_at]; done) | rfl), rfl, true, by (first | (simp [put_at, put_none, fr0_at]; done) | rfl), fun _ => fun hh => e2 (by rw [hh]), fun hh => (by cases hh)⟩
    have q2 : (o.kind == o'.kind) = true := by rw [beq_iff_eq]; exact e2
    by_cases e3 : o.of = o'.of
    case neg =>
      have q3 : (o.of == o'.of) = false := by rw [beq_eq_false_iff_ne]; exact e3
      (refine aw_ops (by kernel_rfl) (fun K hK => ?_); simp (disch := first | omega | (simp only [lnS]; try omega; done)) [-getElem?_pos, -getElem?_neg, b2, b3, hul, hwl, c0, c0', c1, c1', c2, c2', c3, c3', c4, c4', cf, cf', cc, cc', c69, c69', c70, c70', lf, lf', lc, lc', -notTuple, p1, p1', p2, p2', w1, w1', w2, w2', n1, n1', n2, n2', nt_intG, nt_ptrG, nt_strG, nt_aggG, -xlen, p3, p3', w3, w3', bl, bl', e0, q0, e1, q1, e2, q2, e3, q3]; refine hK _ _ ?_; clear hK K)
      exact ⟨by (first | (simp [put_at, put_none, fr0_at]; done) | rfl), by (first | (simp [put_at, put_none, fr0_at]; done) | rfl), rfl, true, by (first | (simp [put_at, put_none, fr0_at]; done) | rfl), fun _ => fun hh => e3 (by rw [hh]), fun hh => (by cases hh)⟩
    have q3 : (o.of == o'.of) = true := by rw [beq_iff_eq]; exact e3
    by_cases e4 : o.check = o'.check
    case neg =>
      have q4 : (o.check == o'.check) = false := by rw [beq_eq_false_iff_ne]; exact e4
      (refine aw_ops (by kernel_rfl) (fun K hK => ?_); simp (disch := first | omega | (simp only [lnS]; try omega; done)) [-getElem?_pos, -getElem?_neg, b2, b3, hul, hwl, c0, c0', c1, c1', c2, c2', c3, c3', c4, c4', cf, cf', cc, cc', c69, c69', c70, c70', lf, lf', lc, lc', -notTuple, p1, p1', p2, p2', w1, w1', w2, w2', n1, n1', n2, n2', nt_intG, nt_ptrG, nt_strG, nt_aggG, -xlen, p3, p3', w3, w3', bl, bl', e0, q0, e1, q1, e2, q2, e3, q3, e4, q4]; refine hK _ _ ?_; clear hK K)
      exact ⟨by (first | (simp [put_at, put_none, fr0_at]; done) | rfl), by (first | (simp [put_at, put_none, fr0_at]; done) | rfl), rfl, true, by (first | (simp [put_at, put_none, fr0_at]; done) | rfl), fun _ => fun hh => e4 (by rw [hh]), fun hh => (by cases hh)⟩
    have q4 : (o.check == o'.check) = true := by rw [beq_iff_eq]; exact e4
    by_cases e5 : o.text = o'.text
    case neg =>
      have q5 : (o.text.toList == o'.text.toList) = false := by rw [beq_eq_false_iff_ne]; exact fun hh => e5 ((tl_eq _ _).1 hh)
      (refine aw_ops (by kernel_rfl) (fun K hK => ?_); simp (disch := first | omega | (simp only [lnS]; try omega; done)) [-getElem?_pos, -getElem?_neg, b2, b3, hul, hwl, c0, c0', c1, c1', c2, c2', c3, c3', c4, c4', cf, cf', cc, cc', c69, c69', c70, c70', lf, lf', lc, lc', -notTuple, p1, p1', p2, p2', w1, w1', w2, w2', n1, n1', n2, n2', nt_intG, nt_ptrG, nt_strG, nt_aggG, -xlen, p3, p3', w3, w3', bl, bl', e0, q0, e1, q1, e2, q2, e3, q3, e4, q4, q5]; refine hK _ _ ?_; clear hK K)
      exact ⟨by (first | (simp [put_at, put_none, fr0_at]; done) | rfl), by (first | (simp [put_at, put_none, fr0_at]; done) | rfl), rfl, true, by (first | (simp [put_at, put_none, fr0_at]; done) | rfl), fun _ => fun hh => e5 (by rw [hh]), fun hh => (by cases hh)⟩
    have q5 : (o.text.toList == o'.text.toList) = true := by rw [beq_iff_eq]; exact (tl_eq _ _).2 e5
    by_cases e6 : (o.parents.length : Int) = (o'.parents.length : Int)
    case neg =>
      have q6 : ((o.parents.length : Int) == (o'.parents.length : Int)) = false := by rw [beq_eq_false_iff_ne]; exact e6
      (refine aw_ops (by kernel_rfl) (fun K hK => ?_); simp (disch := first | omega | (simp only [lnS]; try omega; done)) [-getElem?_pos, -getElem?_neg, b2, b3, hul, hwl, c0, c0', c1, c1', c2, c2', c3, c3', c4, c4', cf, cf', cc, cc', c69, c69', c70, c70', lf, lf', lc, lc', -notTuple, p1, p1', p2, p2', w1, w1', w2, w2', n1, n1', n2, n2', nt_intG, nt_ptrG, nt_strG, nt_aggG, -xlen, p3, p3', w3, w3', bl, bl', e0, q0, e1, q1, e2, q2, e3, q3, e4, q4, q5, e6, q6]; refine hK _ _ ?_; clear hK K)
      exact ⟨by (first | (simp [put_at, put_none, fr0_at]; done) | rfl), by (first | (simp [put_at, put_none, fr0_at]; done) | rfl), rfl, true, by (first | (simp [put_at, put_none, fr0_at]; done) | rfl), fun _ => fun hh => e6 (by rw [hh]), fun hh => (by cases hh)⟩
    have q6 : ((o.parents.length : Int) == (o'.parents.length : Int)) = true := by rw [beq_iff_eq]; exact e6
    by_cases e7 : (o.who.length : Int) = (o'.who.length : Int)
    case neg =>
      have q7 : ((o.who.length : Int) == (o'.who.length : Int)) = false := by rw [beq_eq_false_iff_ne]; exact e7
      (refine aw_ops (by kernel_rfl) (fun K hK => ?_); simp (disch := first | omega | (simp only [lnS]; try omega; done)) [-getElem?_pos, -getElem?_neg, b2, b3, hul, hwl, c0, c0', c1, c1', c2, c2', c3, c3', c4, c4', cf, cf', cc, cc', c69, c69', c70, c70', lf, lf', lc, lc', -notTuple, p1, p1', p2, p2', w1, w1', w2, w2', n1, n1', n2, n2', nt_intG, nt_ptrG, nt_strG, nt_aggG, -xlen, p3, p3', w3, w3', bl, bl', e0, q0, e1, q1, e2, q2, e3, q3, e4, q4, q5, e6, q6, e7, q7]; refine hK _ _ ?_; clear hK K)
      exact ⟨by (first | (simp [put_at, put_none, fr0_at]; done) | rfl), by (first | (simp [put_at, put_none, fr0_at]; done) | rfl), rfl, true, by (first | (simp [put_at, put_none, fr0_at]; done) | rfl), fun _ => fun hh => e7 (by rw [hh]), fun hh => (by cases hh)⟩
    have q7 : ((o.who.length : Int) == (o'.who.length : Int)) = true := by rw [beq_iff_eq]; exact e7
    by_cases e8 : (o.boxes.length : Int) = (o'.boxes.length : Int)
    case neg =>
      have q8 : ((o.boxes.length : Int) == (o'.boxes.length : Int)) = false := by rw [beq_eq_false_iff_ne]; exact e8
      (refine aw_ops (by kernel_rfl) (fun K hK => ?_); simp (disch := first | omega | (simp only [lnS]; try omega; done)) [-getElem?_pos, -getElem?_neg, b2, b3, hul, hwl, c0, c0', c1, c1', c2, c2', c3, c3', c4, c4', cf, cf', cc, cc', c69, c69', c70, c70', lf, lf', lc, lc', -notTuple, p1, p1', p2, p2', w1, w1', w2, w2', n1, n1', n2, n2', nt_intG, nt_ptrG, nt_strG, nt_aggG, -xlen, p3, p3', w3, w3', bl, bl', e0, q0, e1, q1, e2, q2, e3, q3, e4, q4, q5, e6, q6, e7, q7, e8, q8]; refine hK _ _ ?_; clear hK K)
      exact ⟨by (first | (simp [put_at, put_none, fr0_at]; done) | rfl), by (first | (simp [put_at, put_none, fr0_at]; done) | rfl), rfl, true, by (first | (simp [put_at, put_none, fr0_at]; done) | rfl), fun _ => fun hh => e8 (by rw [hh]), fun hh => (by cases hh)⟩
    have q8 : ((o.boxes.length : Int) == (o'.boxes.length : Int)) = true := by rw [beq_iff_eq]; exact e8
    (refine aw_ops (by kernel_rfl) (fun K hK => ?_); simp (disch := first | omega | (simp only [lnS]; try omega; done)) [-getElem?_pos, -getElem?_neg, b2, b3, hul, hwl, c0, c0', c1, c1', c2, c2', c3, c3', c4, c4', cf, cf', cc, cc', c69, c69', c70, c70', lf, lf', lc, lc', -notTuple, p1, p1', p2, p2', w1, w1', w2, w2', n1, n1', n2, n2', nt_intG, nt_ptrG, nt_strG, nt_aggG, -xlen, p3, p3', w3, w3', bl, bl', e0, q0, e1, q1, e2, q2, e3, q3, e4, q4, q5, e6, q6, e7, q7, e8, q8]; refine hK _ _ ?_; clear hK K)
    exact ⟨by (first | (simp [put_at, put_none, fr0_at]; done) | rfl), by (first | (simp [put_at, put_none, fr0_at]; done) | rfl), rfl, false, by (first | (simp [put_at, put_none, fr0_at]; done) | rfl), fun hh => (by cases hh), fun _ => ⟨e0, e1, e2, e3, e4, e5, by omega, by omega, by omega⟩⟩
  rintro α G2 ⟨q2, q3, rfl, b, q74, hb1, hb2⟩
  cases b with
  | true =>
    have hne := hb1 rfl
    refine aw_t (by (first | (simp [eval_tmp, put_at, q74]; done) | (simp [eval_tmp, put_at, q74]; omega))) (by kernel_rfl) ?_
    refine aw_seq ?_
    (refine aw_ops (by kernel_rfl) (fun K hK => ?_); simp (disch := first | omega | (simp only [lnS]; try omega; done)) [-getElem?_pos, -getElem?_neg]; refine hK _ _ ?_; clear hK K)
    (refine aw_ret ?_; simp (disch := first | omega | (simp only [lnS]; try omega; done)) [-getElem?_pos, -getElem?_neg, thenQ_ret, scopeQ_ret, inBlockQ_ret, RQ, resL, resV])
    all_goals exact hne
  | false =>
  obtain ⟨e0, e1, e2, e3, e4, e5, e6, e7, e8⟩ := hb2 rfl
  refine aw_f (by (first | (simp [eval_tmp, put_at, q74]; done) | (simp [eval_tmp, put_at, q74]; omega))) (by kernel_rfl) ?_
  refine aw_skip ?_
  clear q74 hb1 hb2
  refine aw_seq ?_
  refine aw_seq ?_
  (refine aw_ops (by kernel_rfl) (fun K hK => ?_); simp (disch := first | omega | (simp only [lnS]; try omega; done)) [-getElem?_pos, -getElem?_neg]; refine hK _ _ ?_; clear hK K)
  refine aw_block ?_
  refine aw_loop (fun c α G => ∃ i : Nat, i + c = o.parents.length ∧ α 2 = .pointer (some ⟨n, 0, none⟩) ∧ α 3 = .pointer (some ⟨n + 1, 0, none⟩) ∧ α 5 = .int .i64 (i : Nat) ∧ G = G2 ∧ ∀ k, k < i → o.parents.getD k [] = o'.parents.getD k []) o.parents.length ?_ ?_
  · exact ⟨0, by omega, by (first | (simp [put_at, put_none, fr0_at, q2]; done) | rfl), by (first | (simp [put_at, put_none, fr0_at, q3]; done) | rfl), by (first | (simp [put_at, put_none, fr0_at]; done) | rfl), rfl, fun k hk => by omega⟩
  clear q2 q3
  rintro c α G ⟨i, hic, q2, q3, q5, rfl, hpre⟩
  refine aw_seq ?_
  refine aw_seq ?_
  by_cases hi : i < o.parents.length
  case pos =>
    obtain ⟨z1, y1, s1, s2, s3, s4, s5⟩ := pa.at_ i hi
    obtain ⟨z2, y2, t1, t2, t3, t4, t5⟩ := pa'.at_ i (by omega)
    subst s4 t4
    have s5 := s5 G (Low.refl (Nat.le_refl _))
    have t5 := t5 G (Low.refl (Nat.le_refl _))
    have k1 : (iv .u8 (o.parents.getD i [])).length = 32 := by rw [iv_length]; exact key_getD (fun k hk => (hw.parents k hk).1) hi
    have k2 : (iv .u8 (o'.parents.getD i [])).length = 32 := by rw [iv_length]; exact key_getD (fun k hk => (hw'.parents k hk).1) (by omega)
    (refine aw_ops (by kernel_rfl) (fun K hK => ?_); simp (disch := first | omega | (simp only [lnS]; try omega; done)) [-getElem?_pos, -getElem?_neg, q2, q3, q5, b2, b3, hul, hwl, c2, c2', -notTuple, p1, p1', p2, p2', nt_intG, nt_ptrG, -xlen, p3, p3', hi]; refine hK _ _ ?_; clear hK K)
    refine aw_t (by (first | (simp [eval_tmp, put_at, hi]; done) | (simp [eval_tmp, put_at, hi]; omega))) (by kernel_rfl) ?_
    refine aw_skip ?_
    refine aw_seq ?_
    refine aw_block ?_
    refine aw_seq ?_
    generalize hA : o.parents.getD i [] = A at *
    generalize hB : o'.parents.getD i [] = B at *
    by_cases hAB : A = B
    · have hq : (A == B) = true := by rw [beq_iff_eq]; exact hAB
      (refine aw_plan [] [] [0, 1, 2, 3, 4, 5, 6, 7, 8, 9, 10] 11 0 (by kernel_rfl) (by kernel_rfl) (by kernel_rfl) (fun K hK => ?_)); simp only [sel, List.getElem?_cons_succ, List.getElem?_cons_zero, List.drop_succ_cons, List.drop_zero]; simp (disch := first | omega | (simp only [lnS]; try omega; done)) [-getElem?_pos, -getElem?_neg, q2, q3, q5, -notTuple, p1, p1', p2, p2', s1, t1, s3, t3, nt_intG, nt_ptrG, nt_aggG, -xindexAddr, s2, t2, -xload, x2, x2', s5, t5, k1, k2, hq, hAB, PL_nil, plainB_lit, PL_cons, PLc_val, PLc_new, stepP_t, stepP_f, stepPC_n, stepPC_s, stepPX_s, stepPX_n, stepPV_n, stepPV_s, stepPA_t, stepPA_c, stepPA_l, stepPN_s, allocOp, reloc_sl, reloc_ptr, List.map_cons, List.map_nil, List.nil_append, List.append_assoc, List.cons_append, Nat.add_assoc]
      refine hK _ _ ?_; clear hK K
      refine aw_f (by (first | (simp [eval_tmp, put_at]; done) | (simp [eval_tmp, put_at]; omega))) (by kernel_rfl) ?_
      refine aw_skip ?_
      (refine aw_ops (by kernel_rfl) (fun K hK => ?_); simp (disch := first | omega | (simp only [lnS]; try omega; done)) [-getElem?_pos, -getElem?_neg, q5]; refine hK _ _ ?_; clear hK K)
      refine ⟨c - 1, by omega, i + 1, by omega, by (first | (simp [put_at, put_none, fr0_at, q2]; done) | rfl), by (first | (simp [put_at, put_none, fr0_at, q3]; done) | rfl), by (first | (simp [put_at, put_none, fr0_at]; done) | rfl), rfl, fun k hk => ?_⟩
      by_cases e : k = i
      · subst e; rw [hA, hB, hAB]
      · exact hpre k (by omega)
    · have hq : (A == B) = false := by rw [beq_eq_false_iff_ne]; exact hAB
      (refine aw_plan [] [] [0, 1, 2, 3, 4, 5, 6, 7, 8, 9, 10] 11 0 (by kernel_rfl) (by kernel_rfl) (by kernel_rfl) (fun K hK => ?_)); simp only [sel, List.getElem?_cons_succ, List.getElem?_cons_zero, List.drop_succ_cons, List.drop_zero]; simp (disch := first | omega | (simp only [lnS]; try omega; done)) [-getElem?_pos, -getElem?_neg, q2, q3, q5, -notTuple, p1, p1', p2, p2', s1, t1, s3, t3, nt_intG, nt_ptrG, nt_aggG, -xindexAddr, s2, t2, -xload, x2, x2', s5, t5, k1, k2, hq, hAB, PL_nil, plainB_lit, PL_cons, PLc_val, PLc_new, stepP_t, stepP_f, stepPC_n, stepPC_s, stepPX_s, stepPX_n, stepPV_n, stepPV_s, stepPA_t, stepPA_c, stepPA_l, stepPN_s, allocOp, reloc_sl, reloc_ptr, List.map_cons, List.map_nil, List.nil_append, List.append_assoc, List.cons_append, Nat.add_assoc]
      refine hK _ _ ?_; clear hK K
      refine aw_t (by (first | (simp [eval_tmp, put_at]; done) | (simp [eval_tmp, put_at]; omega))) (by kernel_rfl) ?_
      refine aw_seq ?_
      (refine aw_ops (by kernel_rfl) (fun K hK => ?_); simp (disch := first | omega | (simp only [lnS]; try omega; done)) [-getElem?_pos, -getElem?_neg]; refine hK _ _ ?_; clear hK K)
      (refine aw_ret ?_; simp (disch := first | omega | (simp only [lnS]; try omega; done)) [-getElem?_pos, -getElem?_neg, thenQ_ret, scopeQ_ret, inBlockQ_ret, RQ, resL, resV])
      all_goals exact fun hh => hAB (by rw [← hA, ← hB, hh])
  (refine aw_ops (by kernel_rfl) (fun K hK => ?_); simp (disch := first | omega | (simp only [lnS]; try omega; done)) [-getElem?_pos, -getElem?_neg, q2, q3, q5, b2, b3, hul, hwl, c2, c2', -notTuple, p1, p1', p2, p2', nt_intG, nt_ptrG, -xlen, p3, p3', hi]; refine hK _ _ ?_; clear hK K)
  refine aw_f (by (first | (simp [eval_tmp, put_at, hi]; done) | (simp [eval_tmp, put_at, hi]; omega))) (by kernel_rfl) ?_
  refine aw_exit ?_
  have hP : o.parents = o'.parents := keys_getD_ext e6 (fun k hk => hpre k (by omega))
  -- who
  refine aw_seq ?_
  refine aw_seq ?_
  (refine aw_ops (by kernel_rfl) (fun K hK => ?_); simp (disch := first | omega | (simp only [lnS]; try omega; done)) [-getElem?_pos, -getElem?_neg]; refine hK _ _ ?_; clear hK K)
  refine aw_block ?_
  refine aw_loop (fun c α G2 => ∃ i : Nat, i + c = o.who.length ∧ α 2 = .pointer (some ⟨n, 0, none⟩) ∧ α 3 = .pointer (some ⟨n + 1, 0, none⟩) ∧ α 6 = .int .i64 (i : Nat) ∧ G2 = G ∧ ∀ k, k < i → o.who.getD k 0 = o'.who.getD k 0) o.who.length ?_ ?_
  · exact ⟨0, by omega, by (first | (simp [put_at, put_none, fr0_at, q2]; done) | rfl), by (first | (simp [put_at, put_none, fr0_at, q3]; done) | rfl), by (first | (simp [put_at, put_none, fr0_at]; done) | rfl), rfl, fun k hk => by omega⟩
  clear q2 q3 q5
  rintro c α G2 ⟨i, hic, q2, q3, q6, rfl, hpre⟩
  refine aw_seq ?_
  refine aw_seq ?_
  by_cases hi : i < o.who.length
  case pos =>
    obtain ⟨z1, y1, s1, s2, s3, s4, s5⟩ := wa.at_ i hi
    obtain ⟨z2, y2, t1, t2, t3, t4, t5⟩ := wa'.at_ i (by omega)
    subst s4 t4
    have s5 := s5 G2 (Low.refl (Nat.le_refl _))
    have t5 := t5 G2 (Low.refl (Nat.le_refl _))
    (refine aw_ops (by kernel_rfl) (fun K hK => ?_); simp (disch := first | omega | (simp only [lnS]; try omega; done)) [-getElem?_pos, -getElem?_neg, q2, q3, q6, b2, b3, hul, hwl, c4, c4', -notTuple, w1, w1', w2, w2', nt_intG, nt_ptrG, -xlen, w3, w3', hi]; refine hK _ _ ?_; clear hK K)
    refine aw_t (by (first | (simp [eval_tmp, put_at, hi]; done) | (simp [eval_tmp, put_at, hi]; omega))) (by kernel_rfl) ?_
    refine aw_skip ?_
    refine aw_seq ?_
    refine aw_block ?_
    refine aw_seq ?_
    generalize hA : o.who.getD i 0 = A at *
    generalize hB : o'.who.getD i 0 = B at *
    by_cases hAB : A = B
    · have hq : (A == B) = true := by rw [beq_iff_eq]; exact hAB
      (refine aw_plan [] [] [0, 1, 2, 3, 4, 5, 6, 7, 8, 9, 10] 11 0 (by kernel_rfl) (by kernel_rfl) (by kernel_rfl) (fun K hK => ?_)); simp only [sel, List.getElem?_cons_succ, List.getElem?_cons_zero, List.drop_succ_cons, List.drop_zero]; simp (disch := first | omega | (simp only [lnS]; try omega; done)) [-getElem?_pos, -getElem?_neg, q2, q3, q6, -notTuple, w1, w1', w2, w2', s1, t1, s3, t3, nt_intG, nt_ptrG, nt_aggG, -xindexAddr, s2, t2, -xload, x4, x4', s5, t5, hq, hAB, PL_nil, plainB_lit, PL_cons, PLc_val, PLc_new, stepP_t, stepP_f, stepPC_n, stepPC_s, stepPX_s, stepPX_n, stepPV_n, stepPV_s, stepPA_t, stepPA_c, stepPA_l, stepPN_s, allocOp, reloc_sl, reloc_ptr, List.map_cons, List.map_nil, List.nil_append, List.append_assoc, List.cons_append, Nat.add_assoc]
      refine hK _ _ ?_; clear hK K
      refine aw_f (by (first | (simp [eval_tmp, put_at, hAB]; done) | (simp [eval_tmp, put_at, hAB]; omega))) (by kernel_rfl) ?_
      refine aw_skip ?_
      (refine aw_ops (by kernel_rfl) (fun K hK => ?_); simp (disch := first | omega | (simp only [lnS]; try omega; done)) [-getElem?_pos, -getElem?_neg, q6]; refine hK _ _ ?_; clear hK K)
      refine ⟨c - 1, by omega, i + 1, by omega, by (first | (simp [put_at, put_none, fr0_at, q2]; done) | rfl), by (first | (simp [put_at, put_none, fr0_at, q3]; done) | rfl), by (first | (simp [put_at, put_none, fr0_at]; done) | rfl), rfl, fun k hk => ?_⟩
      by_cases e : k = i
      · subst e; rw [hA, hB, hAB]
      · exact hpre k (by omega)
    · have hq : (A == B) = false := by rw [beq_eq_false_iff_ne]; exact hAB
      (refine aw_plan [] [] [0, 1, 2, 3, 4, 5, 6, 7, 8, 9, 10] 11 0 (by kernel_rfl) (by kernel_rfl) (by kernel_rfl) (fun K hK => ?_)); simp only [sel, List.getElem?_cons_succ, List.getElem?_cons_zero, List.drop_succ_cons, List.drop_zero]; simp (disch := first | omega | (simp only [lnS]; try omega; done)) [-getElem?_pos, -getElem?_neg, q2, q3, q6, -notTuple, w1, w1', w2, w2', s1, t1, s3, t3, nt_intG, nt_ptrG, nt_aggG, -xindexAddr, s2, t2, -xload, x4, x4', s5, t5, hq, hAB, PL_nil, plainB_lit, PL_cons, PLc_val, PLc_new, stepP_t, stepP_f, stepPC_n, stepPC_s, stepPX_s, stepPX_n, stepPV_n, stepPV_s, stepPA_t, stepPA_c, stepPA_l, stepPN_s, allocOp, reloc_sl, reloc_ptr, List.map_cons, List.map_nil, List.nil_append, List.append_assoc, List.cons_append, Nat.add_assoc]
      refine hK _ _ ?_; clear hK K
      refine aw_t (by (first | (simp [eval_tmp, put_at, hAB]; done) | (simp [eval_tmp, put_at, hAB]; omega))) (by kernel_rfl) ?_
      refine aw_seq ?_
      (refine aw_ops (by kernel_rfl) (fun K hK => ?_); simp (disch := first | omega | (simp only [lnS]; try omega; done)) [-getElem?_pos, -getElem?_neg]; refine hK _ _ ?_; clear hK K)
      (refine aw_ret ?_; simp (disch := first | omega | (simp only [lnS]; try omega; done)) [-getElem?_pos, -getElem?_neg, thenQ_ret, scopeQ_ret, inBlockQ_ret, RQ, resL, resV])
      all_goals exact fun hh => hAB (by rw [← hA, ← hB, hh])
  (refine aw_ops (by kernel_rfl) (fun K hK => ?_); simp (disch := first | omega | (simp only [lnS]; try omega; done)) [-getElem?_pos, -getElem?_neg, q2, q3, q6, b2, b3, hul, hwl, c4, c4', -notTuple, w1, w1', w2, w2', nt_intG, nt_ptrG, -xlen, w3, w3', hi]; refine hK _ _ ?_; clear hK K)
  refine aw_f (by (first | (simp [eval_tmp, put_at, hi]; done) | (simp [eval_tmp, put_at, hi]; omega))) (by kernel_rfl) ?_
  refine aw_exit ?_
  have hW : o.who = o'.who := list_getD_ext e7 (fun k hk => hpre k (by omega))
  -- boxes
  refine aw_seq ?_
  refine aw_seq ?_
  (refine aw_ops (by kernel_rfl) (fun K hK => ?_); simp (disch := first | omega | (simp only [lnS]; try omega; done)) [-getElem?_pos, -getElem?_neg]; refine hK _ _ ?_; clear hK K)
  refine aw_block ?_
  refine aw_loop (fun c α G => ∃ i : Nat, i + c = o.boxes.length ∧ α 2 = .pointer (some ⟨n, 0, none⟩) ∧ α 3 = .pointer (some ⟨n + 1, 0, none⟩) ∧ α 7 = .int .i64 (i : Nat) ∧ G = G2 ∧ ∀ k, k < i → o.boxes[k]? = o'.boxes[k]?) o.boxes.length ?_ ?_
  · exact ⟨0, by omega, by (first | (simp [put_at, put_none, fr0_at, q2]; done) | rfl), by (first | (simp [put_at, put_none, fr0_at, q3]; done) | rfl), by (first | (simp [put_at, put_none, fr0_at]; done) | rfl), rfl, fun k hk => by omega⟩
  clear q2 q3 q6
  rintro c α G ⟨i, hic, q2, q3, q7, rfl, hpre⟩
  refine aw_seq ?_
  refine aw_seq ?_
  by_cases hi : i < o.boxes.length
  case pos =>
    obtain ⟨A, hA⟩ : ∃ A, o.boxes[i]? = some A := ⟨_, List.getElem?_eq_getElem hi⟩
    obtain ⟨B, hB⟩ : ∃ B, o'.boxes[i]? = some B := ⟨_, List.getElem?_eq_getElem (by omega)⟩
    obtain ⟨j1, g1, bb1, a1, s2, s3, s4, s5, s6, hC1⟩ := hO.boxes.row_at hw.boxes hA
    obtain ⟨j2, g2, bb2, a2, t2, t3, t4, t5, t6, hC2⟩ := hO'.boxes.row_at hw'.boxes hB
    have r1 := hC1.row
    have r2 := hC2.row
    have hbe := box_eq (a := A) (b := B) (hw.boxes A (List.mem_of_getElem? hA)).pub.1 (hw'.boxes B (List.mem_of_getElem? hB)).pub.1
    have lx : ∀ (j g : Nat) (bb : Blk) (a : List Value), hget G j = some bb → g + 36 ≤ bb.cells.length → a = (bb.cells.drop g).take 36 → xload Try.prog 60 (.pointer (some ⟨j, g, none⟩)) G = some (.agg a.toArray) := fun j g bb a h1 h2 h3 => by
      have h4 : isAggD (und Try.prog 60) = true := by kernel_rfl
      have h5 : szt Try.prog 60 = 36 := by kernel_rfl
      unfold xload
      simp only [h1, h4, h5, if_true]
      rw [if_pos ⟨by omega, h2⟩, h3]
    have l1 := lx j1 g1 bb1 _ s3 s4 s5
    have l2 := lx j2 g2 bb2 _ t3 t4 t5
    rw [r1] at l1
    rw [r2] at l2
    (refine aw_ops (by kernel_rfl) (fun K hK => ?_); simp (disch := first | omega | (simp only [lnS]; try omega; done)) [-getElem?_pos, -getElem?_neg, q2, q3, q7, b2, b3, hul, hwl, c70, c70', -notTuple, n1, n1', n2, n2', nt_intG, nt_ptrG, -xlen, bl, bl', hi]; refine hK _ _ ?_; clear hK K)
    refine aw_t (by (first | (simp [eval_tmp, put_at, hi]; done) | (simp [eval_tmp, put_at, hi]; omega))) (by kernel_rfl) ?_
    refine aw_skip ?_
    refine aw_seq ?_
    refine aw_block ?_
    refine aw_seq ?_
    generalize boxRow A = RA at *
    generalize boxRow B = RB at *
    by_cases hAB : A = B
    · rw [decide_eq_true hAB] at hbe
      (refine aw_plan [] [] [0, 1, 2, 3, 4, 5, 6, 7, 8, 9, 10] 11 0 (by kernel_rfl) (by kernel_rfl) (by kernel_rfl) (fun K hK => ?_)); simp only [sel, List.getElem?_cons_succ, List.getElem?_cons_zero, List.drop_succ_cons, List.drop_zero]; simp (disch := first | omega | (simp only [lnS]; try omega; done)) [-getElem?_pos, -getElem?_neg, q2, q3, q7, -notTuple, n1, n1', n2, n2', nt_intG, nt_ptrG, nt_aggG, -xindexAddr, s2, t2, -xload, x70, x70', l1, l2, -xagg, hbe, PL_nil, plainB_lit, PL_cons, PLc_val, PLc_new, stepP_t, stepP_f, stepPC_n, stepPC_s, stepPX_s, stepPX_n, stepPV_n, stepPV_s, stepPA_t, stepPA_c, stepPA_l, stepPN_s, allocOp, reloc_sl, reloc_ptr, List.map_cons, List.map_nil, List.nil_append, List.append_assoc, List.cons_append, Nat.add_assoc]
      refine hK _ _ ?_; clear hK K
      refine aw_f (by (first | (simp [eval_tmp, put_at]; done) | (simp [eval_tmp, put_at]; omega))) (by kernel_rfl) ?_
      refine aw_skip ?_
      (refine aw_ops (by kernel_rfl) (fun K hK => ?_); simp (disch := first | omega | (simp only [lnS]; try omega; done)) [-getElem?_pos, -getElem?_neg, q7]; refine hK _ _ ?_; clear hK K)
      refine ⟨c - 1, by omega, i + 1, by omega, by (first | (simp [put_at, put_none, fr0_at, q2]; done) | rfl), by (first | (simp [put_at, put_none, fr0_at, q3]; done) | rfl), by (first | (simp [put_at, put_none, fr0_at]; done) | rfl), rfl, fun k hk => ?_⟩
      by_cases e : k = i
      · subst e; rw [hA, hB, hAB]
      · exact hpre k (by omega)
    · rw [decide_eq_false hAB] at hbe
      (refine aw_plan [] [] [0, 1, 2, 3, 4, 5, 6, 7, 8, 9, 10] 11 0 (by kernel_rfl) (by kernel_rfl) (by kernel_rfl) (fun K hK => ?_)); simp only [sel, List.getElem?_cons_succ, List.getElem?_cons_zero, List.drop_succ_cons, List.drop_zero]; simp (disch := first | omega | (simp only [lnS]; try omega; done)) [-getElem?_pos, -getElem?_neg, q2, q3, q7, -notTuple, n1, n1', n2, n2', nt_intG, nt_ptrG, nt_aggG, -xindexAddr, s2, t2, -xload, x70, x70', l1, l2, -xagg, hbe, PL_nil, plainB_lit, PL_cons, PLc_val, PLc_new, stepP_t, stepP_f, stepPC_n, stepPC_s, stepPX_s, stepPX_n, stepPV_n, stepPV_s, stepPA_t, stepPA_c, stepPA_l, stepPN_s, allocOp, reloc_sl, reloc_ptr, List.map_cons, List.map_nil, List.nil_append, List.append_assoc, List.cons_append, Nat.add_assoc]
      refine hK _ _ ?_; clear hK K
      refine aw_t (by (first | (simp [eval_tmp, put_at]; done) | (simp [eval_tmp, put_at]; omega))) (by kernel_rfl) ?_
      refine aw_seq ?_
      (refine aw_ops (by kernel_rfl) (fun K hK => ?_); simp (disch := first | omega | (simp only [lnS]; try omega; done)) [-getElem?_pos, -getElem?_neg]; refine hK _ _ ?_; clear hK K)
      (refine aw_ret ?_; simp (disch := first | omega | (simp only [lnS]; try omega; done)) [-getElem?_pos, -getElem?_neg, thenQ_ret, scopeQ_ret, inBlockQ_ret, RQ, resL, resV])
      all_goals exact fun hh => hAB (by rw [hh] at hA; rw [hA] at hB; cases hB; rfl)
  (refine aw_ops (by kernel_rfl) (fun K hK => ?_); simp (disch := first | omega | (simp only [lnS]; try omega; done)) [-getElem?_pos, -getElem?_neg, q2, q3, q7, b2, b3, hul, hwl, c70, c70', -notTuple, n1, n1', n2, n2', nt_intG, nt_ptrG, -xlen, bl, bl', hi]; refine hK _ _ ?_; clear hK K)
  refine aw_f (by (first | (simp [eval_tmp, put_at, hi]; done) | (simp [eval_tmp, put_at, hi]; omega))) (by kernel_rfl) ?_
  refine aw_exit ?_
  have hB : o.boxes = o'.boxes := by
    apply List.ext_getElem?
    intro k
    rcases Nat.lt_or_ge k o.boxes.length with hk | hk
    · exact hpre k (by omega)
    · rw [List.getElem?_eq_none hk, List.getElem?_eq_none (by omega)]
  have hfin : o = o' := OpD.ext e0 e1 hP e2 hW e3 e4 e5 hB
  refine aw_seq ?_
  (refine aw_ops (by kernel_rfl) (fun K hK => ?_); simp (disch := first | omega | (simp only [lnS]; try omega; done)) [-getElem?_pos, -getElem?_neg]; refine hK _ _ ?_; clear hK K)
  (refine aw_ret ?_; simp (disch := first | omega | (simp only [lnS]; try omega; done)) [-getElem?_pos, -getElem?_neg, thenQ_ret, scopeQ_ret, inBlockQ_ret, RQ, resL, resV])
  all_goals exact hfin
end
end Go.Proofs.Ytcbfbmdglhlbmaa
