/-
  deep.Held: a queue, copied into new memory.
  queue.Put.
  cabalref15.Heads.
  cabalref15.Add.
  The reference's Put.
  queue.Wanted's sorting: up to twelve keys.
  queue.Wanted's last steps: ordered, once (keys none of which comes twice).
  queue.Wanted (where no key is wanted twice, and at most twelve).
  The reference's Without.
  The law's update: an operation behind another one.
  The law's first queues, as data.
  What is wanted of queue.Without; the first queues, well-formed.
  slices.Delete of one, at a queue of the call's own.
  queue.Without.
  The vector of layer 19.
  QueuePuts: the law, walked.
  Rows within a block; noughts; new slices by append, stored into an own operation.
  Rows within a block as a queue; nought; an own operation's slices written anew.
-/
import Derived.Test.YtdeccbjdhcifiaaKF
import Derived.Test.YtdeccbjdhcifiaaKE
import Derived.Test.YtdeccbjdhcifiaaKC
namespace Go.Proofs.Ytdeccbjdhcifiaa
open Go Go.RowKit
set_option linter.unusedSimpArgs false
set_option linter.unusedVariables false
set_option maxRecDepth 100000
set_option maxHeartbeats 4000000
section
def heldRow (x : HeldD) (pv wv bv qv : Value) : List Value := iv .u8 x.id ++ (opRow x.op pv wv bv ++ [qv])
theorem heldRow_len {x : HeldD} (hw : x.Wf) (pv wv bv qv : Value) : (heldRow x pv wv bv qv).length = 104 := by
 have h1 := hw.id.1
 have h2 := opRow_len hw.op pv wv bv
 simp [heldRow, iv_length, h1, h2]
theorem HdC.row {H : AH} {us : List Value} {x : HeldD} {pv wv bv qv : Value} (h : HdC H us x pv wv bv qv) (hw : x.Wf) : us = heldRow x pv wv bv qv := by
 have hl := h.len
 have e0 := h.op.row hw.op
 have e2 : us.drop 103 = [qv] := by
  apply List.ext_getElem?
  intro i
  match i with
  | 0 => rw [List.getElem?_drop, h.c103]; rfl
  | i + 1 => rw [List.getElem?_eq_none (by rw [List.length_drop]; omega), List.getElem?_eq_none (by simp)]
 have e1 : us.drop 32 = opRow x.op pv wv bv ++ us.drop 103 := by
  have := (List.take_append_drop 71 (us.drop 32)).symm
  rwa [e0, List.drop_drop] at this
 have := (List.take_append_drop 32 us).symm
 rwa [h.id, e1, e2] at this
theorem held_val {G : AH} {x : HeldD} {pv wv bv qv : Value} (h1 : KsV G pv x.op.parents) (h2 : InV G wv x.op.who) (h3 : BxV G bv x.op.boxes) (h4 : KsV G qv x.got) : ValL G x.row (heldRow x pv wv bv qv) :=
 ValL.app (.kdv _) (ValL.app (op_val h1 h2 h3) (.one h4 .none))
theorem build_held {x : HeldD} {pv wv bv qv : Value} (hw : x.Wf) (h1 : notTuple qv = true) (h2 : qv.cells = #[qv]) : xbuild Try.prog 60 [(0, .agg (iv .u8 x.id).toArray), (1, .agg (opRow x.op pv wv bv).toArray), (2, qv)] = some (.agg (heldRow x pv wv bv qv).toArray) := by
 have hf : flds Try.prog 60 = some [(38, 0), (41, 32), (36, 103)] := by kernel_rfl
 obtain ⟨z, hz⟩ : ∃ z, zer Try.prog 60 = some z := by
  have : (zer Try.prog 60).isSome = true := by kernel_rfl
  exact Option.isSome_iff_exists.1 this
 have hzl : z.cells.toList.length = 104 := by
  have : (zer Try.prog 60).map (fun z => z.cells.toList.length) = some 104 := by kernel_rfl
  rw [hz] at this
  simpa using this
 have hzp : z.cells.toList.all plain1 = true := by
  have : (zer Try.prog 60).map (fun z => z.cells.toList.all plain1) = some true := by kernel_rfl
  rw [hz] at this
  simpa using this
 have s1 : szt Try.prog 38 = 32 := by kernel_rfl
 have s2 : szt Try.prog 41 = 71 := by kernel_rfl
 have s3 : szt Try.prog 36 = 1 := by kernel_rfl
 have hA : (iv .u8 x.id).length = 32 := by rw [iv_length]; exact hw.id.1
 have hB := opRow_len hw.op pv wv bv
 have hp := put3 (q := qv) hA hB hzl
 unfold xbuild
 simp only [hf, hz]
 rw [if_pos ⟨by simp [s1, s2, s3], hzp, by simp only [List.all_cons, List.all_nil, h1, Bool.and_true]; rfl⟩]
 generalize z.cells.toList = Z at *
 unfold heldRow
 generalize iv .u8 x.id = A at *
 generalize opRow x.op pv wv bv = B at *
 have c1 : (Value.agg A.toArray).cells = A.toArray := rfl
 have c2 : (Value.agg B.toArray).cells = B.toArray := rfl
 simp only [xfill, List.getElem?_cons_zero, List.getElem?_cons_succ, Option.map_some, s1, s2, s3, c1, c2, h2]
 rw [if_pos ⟨by simp [hA], by simp; omega⟩]
 rw [if_pos ⟨by simp [hB], by simp; omega⟩]
 rw [if_pos ⟨by simp, by simp; omega⟩]
 rw [hp]
def heldN (pv wv bv qv : Value) : Nat := 2 + opN pv wv bv + clN qv
def SmH (x : HeldD) : Prop := SmO x.op ∧ x.got.length ≤ 1000
def heldCp (x : HeldD) (pv wv bv qv : Value) (n : Nat) : List Value := heldRow x (opP pv (n + 2)) (opW pv wv (n + 2)) (opB pv wv bv (n + 2)) (clV qv (n + 2 + opN pv wv bv))
def DeepHd (H : AH) (x : HeldD) (pv wv bv qv : Value) (v' : Value) (H' : AH) : Prop :=
 v' = .agg (heldCp x pv wv bv qv H.length).toArray ∧ H'.length = H.length + heldN pv wv bv qv ∧ Low H.length H H' ∧ ∀ G, KeepN H.length H' G → ValL G x.row (heldCp x pv wv bv qv H.length)
theorem opRow_offH {x : HeldD} (hw : x.Wf) (pv wv bv qv : Value) : (heldRow x pv wv bv qv).take 32 = iv .u8 x.id ∧ ((heldRow x pv wv bv qv).drop 32).take 71 = opRow x.op pv wv bv ∧ (heldRow x pv wv bv qv)[103]? = some qv := by
 have hA : (iv .u8 x.id).length = 32 := by rw [iv_length]; exact hw.id.1
 have hB := opRow_len hw.op pv wv bv
 unfold heldRow
 refine ⟨?_, ?_, ?_⟩
 ·rw [List.take_append_of_le_length (by omega), List.take_of_length_le (by omega)]
 ·rw [List.drop_append_of_le_length (by omega), List.drop_of_length_le (by omega), List.nil_append, List.take_append_of_le_length (by omega), List.take_of_length_le (by omega)]
 ·rw [List.getElem?_append_right (by omega), List.getElem?_append_right (by omega), hA, hB]
  rfl
attribute [local simp] wb_bool wb_undef with_lit XL_nil XL_cons XLc_val XLc_call step1_eq stepW_t stepW_f stepC_n stepC_s stepX_s stepX_n stepN_s calleeX xrecv oneV xop_eq xopR_s xopR_n wantedA_eq wantedG_n wantedG_s plain1_int plain1_bool plain1_string bits_i64 bits_u64 bits_u32 bits_u16 bits_u8 xeqA xagg xcmp xarr allK_iv num_iv calleeOf xread xeff xbin xint xnil xun xstr xload xconv xpart xfield xfieldAddr xindexAddr xindex bnd asInt? xslice xlen xmin xmax xbuild xfill xappend xapp2 xappstr xappmk xcap xcopy xcells eval_tmp eval_const put_at put_none fr0_at cells_agg cells_int cells_bool cells_string cells_ptr cells_slice notTuple tab iv_all hget_app hget_app0 hget_cons0 hget_cons set_app set_app0 setR setR_one QL_nil QL_cons QLc_val stepQ_t stepQ_f stepQC_n stepQC_s stepQX_s SL_nil SL_cons SLc_val stepS_t stepS_f ltT ltF leT leF eqT eqF ltTn ltFn leTn leFn eqTn eqFn beqT beqF bneT bneF wi64 wu64 wu32 wu16 wu8 tmodP tdivP hgetL hgetNe hgetEq setL nums_def nums_len Nat.succ_le_of_lt List.getElem?_cons_zero List.getElem?_cons_succ Option.getD_some Int.toNat_add Int.toNat_mul agM okM agB agI agS agP agL agA okB okI okS okP okSl okA
theorem helds1_ac {nro : Nat} {γ : Nat → Option Nat} {H : AH} {us : List Value} {x : HeldD} {pv wv bv qv : Value} (h : HdC H us x pv wv bv qv) (hw : x.Wf) (hs : SmH x) (hnro : nro ≤ H.length) : AC Try.prog nro γ 138 #[.agg us.toArray] H (DeepHd H x pv wv bv qv) := by
 have hrow := h.row hw
 have hul := h.len
 obtain ⟨q1, q2, q3⟩ := opRow_offH hw pv wv bv qv
 rw [← hrow] at q1 q2 q3
 have hivl : (iv .u8 x.id).length = 32 := by rw [iv_length]; exact hw.id.1
 have hopl := opRow_len hw.op pv wv bv
 have hQ := h.got
 have nq := val_nt hQ
 have nq' := clV_nt hQ (H.length + 2 + opN pv wv bv)
 have hbl := build_held (pv := opP pv (H.length + 2)) (wv := opW pv wv (H.length + 2)) (bv := opB pv wv bv (H.length + 2)) hw nq'.1 nq'.2
 have hopC : ∀ G : AH, Low H.length H G → OpC G (opRow x.op pv wv bv) x.op pv wv bv := fun G hG => by
  have := h.op.low hG.1
  rwa [q2] at this
 have hr3l := heldRow_len hw (opP pv (H.length + 2)) (opW pv wv (H.length + 2)) (opB pv wv bv (H.length + 2)) (clV qv (H.length + 2 + opN pv wv bv))
 obtain ⟨R, hR⟩ : ∃ R, R = heldRow x (opP pv (H.length + 2)) (opW pv wv (H.length + 2)) (opB pv wv bv (H.length + 2)) (clV qv (H.length + 2 + opN pv wv bv)) := ⟨_, rfl⟩
 rw [← hR] at hbl hr3l
 have hset : ∀ Z : List Value, Z.length = 104 → setR Z 0 R = R := fun Z hZ => setR_all _ _ (by omega)
 have htk : R.take 104 = R := List.take_of_length_le (by omega)
 have hopv : notTuple (.agg (opRow x.op (opP pv (H.length + 2)) (opW pv wv (H.length + 2)) (opB pv wv bv (H.length + 2))).toArray) = true := rfl
 refine ac_of_aw Try.func138 rfl Try.ntmps138 Try.results138 (by simp) ?_
 refine aw_seq ?_
 (refine aw_ops (by kernel_rfl) (fun K hK => ?_); simp (disch := first | omega | (simp only [lnS]; try omega)) [-getElem?_pos, -getElem?_neg, hul, nt_aggG, all_zl]; refine hK _ _ ?_; clear hK K)
 obtain ⟨ZZ, hZZ, hZl⟩ : ∃ ZZ : List Value, (iv .u8 (zl 32) ++ Value.int .i64 0 :: .int .u32 0 :: .slice none 0 0 :: .int .i64 0 :: .slice none 0 0 :: (iv .u8 (zl 64) ++ [.string ByteArray.empty, .slice none 0 0, .slice none 0 0])) = ZZ ∧ ZZ.length = 104 := ⟨_, rfl, by simp⟩
 rw [hZZ]
 have hset := hset ZZ hZl
 obtain ⟨G, hG⟩ : ∃ G : AH, G = H ++ [some ⟨us, 60, none⟩, some ⟨ZZ, 60, none⟩] := ⟨_, rfl⟩
 have b1 : hget G H.length = some ⟨us, 60, none⟩ := by rw [hG, hget_app0]; rfl
 have b2 : hget G (H.length + 1) = some ⟨ZZ, 60, none⟩ := by rw [hG, hget_app]; rfl
 have lw : Low H.length H G := hG ▸ Low.push (Nat.le_refl _) _
 have gl : G.length = H.length + 2 := by simp [hG]
 rw [← hG]
 clear hG
 have kO := hopC G lw
 have kQ : KsV G qv x.got := CD.Val.low (fun j hj => lw.1 j hj) hQ
 have hcO := deepOp_ac (nro := nro) (γ := γ) kO hw.op hs.1 (by omega)
 unfold DeepO at hcO
 rw [gl] at hcO
 unfold DeepHd heldN heldCp
 obtain ⟨n, hn0⟩ : ∃ n, n = H.length := ⟨_, rfl⟩
 rw [← hR]
 rw [← hn0] at lw gl b1 b2 nq' hbl hR hnro hcO ⊢
 obtain ⟨ov, hov⟩ : ∃ ov, ov = opRow x.op (opP pv (n + 2)) (opW pv wv (n + 2)) (opB pv wv bv (n + 2)) := ⟨_, rfl⟩
 rw [← hov] at hcO hbl
 have hcells : R = iv .u8 x.id ++ (ov ++ [clV qv (n + 2 + opN pv wv bv)]) := by rw [hR, hov]; rfl
 refine aw_seq ?_
 obtain ⟨Φ, e0, e1, e2, e3, eS⟩ : ∃ Φ : Nat → AH → Prop, (∀ A, Φ 0 A ↔ A = G) ∧ (∀ A, Φ 1 A ↔ (A.length = n + 2 + opN pv wv bv ∧ Low (n + 2) G A ∧ NewO (n + 2) A x.op (opP pv (n + 2)) (opW pv wv (n + 2)) (opB pv wv bv (n + 2)))) ∧
   (∀ A, Φ 2 A ↔ (A.length = n + 2 + opN pv wv bv + clN qv ∧ Low (n + 2) G A ∧ NewO (n + 2) A x.op (opP pv (n + 2)) (opW pv wv (n + 2)) (opB pv wv bv (n + 2)) ∧ ∃ F, OwnF A (clV qv (n + 2 + opN pv wv bv)) 38 32 (ksC x.got) F ∧ ∀ j ∈ F, n + 2 ≤ j)) ∧
   (∀ A, Φ 3 A ↔ ∃ B, Φ 2 B ∧ A = B.set (n + 1) (some ⟨R, 60, none⟩)) ∧ (∀ s A, Φ s A → hget A n = hget G n) := by
  refine ⟨fun s A => match s with
   | 0 => A = G
   | 1 => A.length = n + 2 + opN pv wv bv ∧ Low (n + 2) G A ∧ NewO (n + 2) A x.op (opP pv (n + 2)) (opW pv wv (n + 2)) (opB pv wv bv (n + 2))
   | 2 => A.length = n + 2 + opN pv wv bv + clN qv ∧ Low (n + 2) G A ∧ NewO (n + 2) A x.op (opP pv (n + 2)) (opW pv wv (n + 2)) (opB pv wv bv (n + 2)) ∧ ∃ F, OwnF A (clV qv (n + 2 + opN pv wv bv)) 38 32 (ksC x.got) F ∧ ∀ j ∈ F, n + 2 ≤ j
   | _ => ∃ B : AH, (B.length = n + 2 + opN pv wv bv + clN qv ∧ Low (n + 2) G B ∧ NewO (n + 2) B x.op (opP pv (n + 2)) (opW pv wv (n + 2)) (opB pv wv bv (n + 2)) ∧ ∃ F, OwnF B (clV qv (n + 2 + opN pv wv bv)) 38 32 (ksC x.got) F ∧ ∀ j ∈ F, n + 2 ≤ j) ∧ A = B.set (n + 1) (some ⟨R, 60, none⟩), fun _ => Iff.rfl, fun _ => Iff.rfl, fun _ => Iff.rfl, fun _ => Iff.rfl, fun s A h => ?_⟩
  match s, h with
  | 0, h => cases h; rfl
  | 1, h => exact h.2.1.1 n (by omega)
  | 2, h => exact h.2.1.1 n (by omega)
  | s + 3, ⟨B, h, hA⟩ => rw [hA, hget_set_ne (by omega)]; exact h.2.1.1 n (by omega)
 refine aw_chain (fun j => j == n) Φ (by kernel_rfl) (by kernel_rfl) (by kernel_rfl) (fun s A h j hj => by
  have e : j = n := by simpa using hj
  rw [e]; exact eS s A h) ((e0 _).2 rfl) (fun K hK => ?_)
 simp (disch := first | omega | (simp only [lnS]; try omega)) [-getElem?_pos, -getElem?_neg, b1, hul, q1, q2, q3, hivl, hopl, -notTuple, nq.1, nq.2, nt_aggG, CL_nil, CL_cons, CLc_val, CLc_skip, memS, inS, inSp, isCallH, isCallU, isCallF, calleeH_f, calleeH_t, calleeH_i, effF]
 refine CLc_call (v := .agg ov.toArray) (by kernel_rfl) (fun A hA => ?_) ?_
 ·obtain rfl := (e0 _).1 hA
  exact hcO.mono fun v' A' h => ⟨h.1, (e1 _).2 ⟨h.2.1, h.2.2.1, h.2.2.2⟩⟩
 try simp (disch := first | omega | (simp only [lnS]; try omega)) [-getElem?_pos, -getElem?_neg, b1, hul, q1, q2, q3, hivl, hopl, -notTuple, nq.1, nq.2, nt_aggG, CL_nil, CL_cons, CLc_val, CLc_skip, memS, inS, inSp, isCallH, isCallU, isCallF, calleeH_f, calleeH_t, calleeH_i, effF]
 refine CLc_call (v := clV qv (n + 2 + opN pv wv bv)) (by kernel_rfl) (fun A hA => ?_) ?_
 ·obtain ⟨g1, g2, g3⟩ := (e1 _).1 hA
  have kQ2 : KsV A qv x.got := CD.Val.low (fun j hj => g2.1 j (by omega)) kQ
  refine (cloneK_ac (nro := nro) (γ := γ) kQ2 (fun k hk => (hw.got k hk).1) (by omega) (by have := hs.2; omega)).mono ?_
  rintro v' A' ⟨h1, h2, h3, F, h4, h5⟩
  rw [g1] at h1 h2 h3 h5
  refine ⟨h1, (e2 _).2 ⟨h2, ⟨fun j hj => (h3.1 j (by omega)).trans (g2.1 j hj), by have := h3.2; omega⟩, fun B hB => g3 B (KeepN.trans (fun j _ hj => h3.1 j (by omega)) hB (by have := h3.2; omega)), F, by rw [← h1]; exact h4, fun j hj => by have := h5 j hj; omega⟩⟩
 try simp (disch := first | omega | (simp only [lnS]; try omega)) [-getElem?_pos, -getElem?_neg, b1, hul, q1, q2, q3, hivl, hopl, -notTuple, nq'.1, nq'.2, nt_aggG, -xbuild, hbl, CL_nil, CL_cons, CLc_val, CLc_skip, memS, inS, inSp, isCallH, isCallU, isCallF, calleeH_f, calleeH_t, calleeH_i, effF]
 refine CLc_eff (v := undef) (fun A hA => ?_) ?_
 ·have hA2 := hA
  obtain ⟨g1, g2, g3, F, g4, g5⟩ := (e2 _).1 hA2
  have c2 : hget A (n + 1) = some ⟨ZZ, 60, none⟩ := (g2.1 (n + 1) (by omega)).trans b2
  refine ⟨_, ?_, (e3 _).2 ⟨A, hA, rfl⟩⟩
  simp (disch := first | omega | (simp only [lnS]; try omega)) [-getElem?_pos, -getElem?_neg, c2, hZl, hset, hr3l, nt_aggG]
 try simp (disch := first | omega | (simp only [lnS]; try omega)) [-getElem?_pos, -getElem?_neg, CL_nil, CL_cons, CLc_val, CLc_skip, memS, inS, inSp, isCallH, isCallU, isCallF, calleeH_f, calleeH_t, calleeH_i, effF]
 intro A hA
 obtain ⟨B, hB, rfl⟩ := (e3 _).1 hA
 obtain ⟨g1, g2, g3, F, g4, g5⟩ := (e2 _).1 hB
 have hFl := g4.lt
 have c2 : hget B (n + 1) = some ⟨ZZ, 60, none⟩ := (g2.1 (n + 1) (by omega)).trans b2
 have z1 : hget (B.set (n + 1) (some ⟨R, 60, none⟩)) (n + 1) = some ⟨R, 60, none⟩ := hget_set_eq (hget_lt c2)
 have z2 : ∀ j, j ≠ n + 1 → hget (B.set (n + 1) (some ⟨R, 60, none⟩)) j = hget B j := fun j hj => hget_set_ne (fun e => hj e.symm)
 have z3 : (B.set (n + 1) (some ⟨R, 60, none⟩)).length = B.length := by rw [List.length_set]
 generalize B.set (n + 1) (some ⟨R, 60, none⟩) = C at *
 refine hK _ _ ?_; clear hK K
 (refine aw_ret ?_; simp (disch := first | omega | (simp only [lnS]; try omega)) [-getElem?_pos, -getElem?_neg, thenQ_ret, scopeQ_ret, inBlockQ_ret, RQ, resL, resV, z1, hr3l, htk])
 refine ⟨⟨fun j hj => (z2 j (by omega)).trans ((g2.1 j (by omega)).trans (lw.1 j hj)), by have := lw.2; omega⟩, fun D hD => ?_⟩
 rw [hR]
 obtain ⟨k1, k2, k3⟩ := g3 D (fun j h1 h2 => (hD j (by omega) (by omega)).trans (z2 j (by omega)))
 have g4 := g4.low (H' := D) (fun j hj => (hD j (by have := g5 j hj; omega) (by have := hFl j hj; omega)).trans (z2 j (by have := g5 j hj; omega)))
 exact held_val k1 k2 k3 (own_val (by omega) g4 (kd_len (fun k hk => (hw.got k hk).1)) (kd_flat _))
theorem helds1_callable : callable Try.prog 138 = true := by kernel_rfl
def NewRowsH (n : Nat) (H : AH) (R : List (List Value)) (l : List HeldD) : Prop := R.length = l.length ∧ ∀ (k : Nat) (us : List Value) (x : HeldD), R[k]? = some us → l[k]? = some x → us.length = 104 ∧ ∀ G, KeepN n H G → ValL G x.row us
theorem NewRowsH.keep {n : Nat} {H G : AH} {R : List (List Value)} {l : List HeldD} (h : NewRowsH n H R l) (hk : KeepN n H G) (hl : H.length ≤ G.length) : NewRowsH n G R l :=
 ⟨h.1, fun k us x h1 h2 => ⟨(h.2 k us x h1 h2).1, fun B hB => (h.2 k us x h1 h2).2 B (hk.trans hB hl)⟩⟩
theorem NewRowsH.len {n : Nat} {H : AH} {R : List (List Value)} {l : List HeldD} (h : NewRowsH n H R l) : ∀ r ∈ R, r.length = 104 := fun r hr => by
 obtain ⟨k, hk⟩ := List.getElem?_of_mem hr
 have hkl := (List.getElem?_eq_some_iff.1 hk).1
 have := h.1
 exact (h.2 k r _ hk (List.getElem?_eq_getElem (show k < l.length by omega))).1
theorem NewRowsH.push {n : Nat} {H : AH} {R : List (List Value)} {l : List HeldD} {us : List Value} {x : HeldD} (h : NewRowsH n H R l) (h1 : us.length = 104) (h2 : ∀ G, KeepN n H G → ValL G x.row us) : NewRowsH n H (R ++ [us]) (l ++ [x]) := by
 have hl := h.1
 refine ⟨by simp [hl], fun k r y hr hy => ?_⟩
 rcases Nat.lt_or_ge k R.length with hk | hk
 ·rw [List.getElem?_append_left hk] at hr
  rw [List.getElem?_append_left (by omega)] at hy
  exact h.2 k r y hr hy
 ·rw [List.getElem?_append_right hk] at hr
  rw [List.getElem?_append_right (by omega)] at hy
  rw [hl] at hr
  match k - l.length, hr, hy with
  | 0, hr, hy => cases hr; cases hy; exact ⟨h1, h2⟩
theorem held_row_len {x : HeldD} (hw : x.Wf) : x.row.length = 104 := by
 have h1 := hw.id.1
 have h2 := hw.op.of.1
 have h3 := hw.op.check.1
 simp [HeldD.row, OpD.row, kd, h1, h2, h3]
theorem rows_valH {D : AH} {b : Nat} {T : TypeId} {es : Option Nat} {R : List (List Value)} {L : List HeldD} (hb : hget D b = some ⟨R.flatten, T, es⟩) (hl : R.length = L.length) (hw : ∀ x ∈ L, x.Wf) (h : ∀ (k : Nat) (us : List Value) (x : HeldD), R[k]? = some us → L[k]? = some x → us.length = 104 ∧ ValL D x.row us) : HdV D (.slice (some ⟨b, 0, none⟩) L.length L.length) L := by
 have hR : ∀ r ∈ R, r.length = 104 := fun r hr => by
  obtain ⟨k, hk⟩ := List.getElem?_of_mem hr
  have hkl := (List.getElem?_eq_some_iff.1 hk).1
  exact (h k r _ hk (List.getElem?_eq_getElem (show k < L.length by omega))).1
 have := CD.Val.sl (H := D) (sz := 104) (rows := L.map HeldD.row) hb (by rw [List.length_map]; show _ ≤ R.flatten.length; rw [fl_len hR, hl]; exact Nat.le_refl _) (fun row hr => by
  obtain ⟨x, hx, rfl⟩ := List.mem_map.1 hr
  exact held_row_len (hw x hx)) (fun i row c d v hi hc hv => by
  rw [List.getElem?_map] at hi
  cases hx : L[i]? with
  | none => rw [hx] at hi; cases hi
  | some x =>
   rw [hx] at hi
   cases hi
   have hil := (List.getElem?_eq_some_iff.1 hx).1
   obtain ⟨us, hus⟩ : ∃ us, R[i]? = some us := ⟨_, List.getElem?_eq_getElem (by omega)⟩
   obtain ⟨h1, h2⟩ := h i us x hus hx
   have hcl := (List.getElem?_eq_some_iff.1 hc).1
   have h2l := h2.1
   obtain ⟨u, hu⟩ : ∃ u, us[c]? = some u := ⟨_, List.getElem?_eq_getElem (by omega)⟩
   have hat := fl_at hR hus hu
   have hv' : R.flatten[i * 104 + c]? = some v := hv
   rw [hat] at hv'
   cases hv'
   exact h2.2 c d _ hc hu)
 rw [List.length_map] at this
 exact this
theorem eachH_ac {nro : Nat} {γ : Nat → Option Nat} {H : AH} {nv : Value} {l : List HeldD} (hN : HdA H nv l) (hl : l.length ≤ 1000) (hs : ∀ x ∈ l, SmH x) (hnro : nro ≤ H.length) (hcal : callable Try.prog 138 = true) :
  ∃ N : Nat, AC Try.prog nro γ 137 #[nv, .func (.func 138) #[] #[]] H (fun v' H' => v' = .slice (some ⟨H.length, 0, none⟩) l.length l.length ∧ H'.length = N ∧ Low H.length H H' ∧ ∃ R, NewRowsH (H.length + 1) H' R l ∧ hget H' H.length = some ⟨R.flatten, 60, some 104⟩) := by
 have hN' := hN
 obtain ⟨hnt, hvc, hxl, hwf, hat⟩ := hN
 obtain ⟨c, hc⟩ := Classical.skolem.1 (fun i : Nat => show ∃ N : Nat, ∀ x, l[i]? = some x → ∃ j q b us pv wv bv qv, xindexAddr Try.prog 58 nv (.int .i64 (i : Nat)) = some (.pointer (some ⟨j, q, none⟩)) ∧ hget H j = some b ∧ q + 104 ≤ b.cells.length ∧ us = (b.cells.drop q).take 104 ∧ HdC H us x pv wv bv qv ∧ heldN pv wv bv qv = N from by
  cases hi : l[i]? with
  | none => exact ⟨0, fun x hx => by cases hx⟩
  | some x =>
   obtain ⟨j, q, b, us, pv, wv, bv, qv, h1, h2, h3, h4, h5, h6⟩ := hat i x hi
   exact ⟨heldN pv wv bv qv, fun y hy => by cases hy; exact ⟨j, q, b, us, pv, wv, bv, qv, h1, h2, h3, h5, h6, rfl⟩⟩)
 have hm63 : l.length ≤ 9223372036854775807 := by omega
 have hfn : notTuple (.func (.func 138) #[] #[]) = true := rfl
 have hfc : (Value.func (.func 138) #[] #[]).cells = #[.func (.func 138) #[] #[]] := rfl
 refine ⟨H.length + 1 + ((List.range l.length).map fun i => c i + 1).sum, ?_⟩
 refine ac_of_aw Try.func137 rfl Try.ntmps137 Try.results137 (by simp) ?_
 refine aw_seq ?_
 (refine aw_ops (by kernel_rfl) (fun K hK => ?_); simp (disch := first | omega | (simp only [lnS]; try omega)) [-getElem?_pos, -getElem?_neg]; refine hK _ _ ?_; clear hK K)
 refine aw_seq ?_
 refine aw_ops (by kernel_rfl) (fun K hK => ?_)
 have hlm : l.length ≤ maxLen := by simp only [maxLen]; omega
 have hp0 : plain1 (.slice none 0 0) = true := rfl
 simp (disch := first | omega | (simp only [lnS]; try omega)) [-getElem?_pos, -getElem?_neg, -notTuple, hnt, hvc, hfn, hfc, nt_intG, -xlen, hxl, all_zl, hlm, hp0]
 refine hK _ _ ?_; clear hK K
 generalize hZZ : List.map (fun j => (iv .u8 (zl 32) ++ Value.int .i64 0 :: .int .u32 0 :: .slice none 0 0 :: .int .i64 0 :: .slice none 0 0 :: (iv .u8 (zl 64) ++ [.string ByteArray.empty, .slice none 0 0, .slice none 0 0]))[j % 104]?.getD undef) (List.range (l.length * 104)) = ZZ
 have hZl : ZZ.length = l.length * 104 := by rw [← hZZ]; simp
 clear hZZ
 obtain ⟨n, hn0⟩ : ∃ n, n = H.length := ⟨_, rfl⟩
 obtain ⟨G0, hG0⟩ : ∃ G : AH, G = H ++ [some ⟨ZZ, 60, some 104⟩] := ⟨_, rfl⟩
 have b0 : hget G0 n = some ⟨ZZ, 60, some 104⟩ := by rw [hG0, hn0, hget_app0]; rfl
 have lw0 : Low n H G0 := by rw [hG0, hn0]; exact Low.push (Nat.le_refl _) _
 have gl0 : G0.length = n + 1 := by rw [hG0, hn0]; simp
 rw [← hG0, ← hn0]
 rw [← hn0] at hnro
 clear hG0
 refine aw_seq ?_
 refine aw_seq ?_
 (refine aw_ops (by kernel_rfl) (fun K hK => ?_); simp (disch := first | omega | (simp only [lnS]; try omega)) [-getElem?_pos, -getElem?_neg, -notTuple, hnt, hvc, nt_intG, -xlen, hxl]; refine hK _ _ ?_; clear hK K)
 refine aw_block ?_
 refine aw_loop (fun q α G => ∃ (i : Nat) (R : List (List Value)), i + q = l.length ∧ α 0 = nv ∧ α 1 = .func (.func 138) #[] #[] ∧ α 5 = .slice (some ⟨n, 0, none⟩) l.length l.length ∧ α 11 = nv ∧ α 12 = .int .i64 (l.length : Nat) ∧ α 13 = .int .i64 (i : Nat) ∧ Low n H G ∧ G.length = n + 1 + ((List.range i).map fun i => c i + 1).sum ∧ hget G n = some ⟨R.flatten ++ ZZ.drop (i * 104), 60, some 104⟩ ∧ NewRowsH (n + 1) G R (l.take i)) l.length ?_ ?_
 ·exact ⟨0, [], by omega, by (first | (simp [put_at, put_none, fr0_at]; done) | rfl), by (first | (simp [put_at, put_none, fr0_at]; done) | rfl), by (first | (simp [put_at, put_none, fr0_at]; done) | rfl), by (first | (simp [put_at, put_none, fr0_at]; done) | rfl), by (first | (simp [put_at, put_none, fr0_at]; done) | rfl), by (first | (simp [put_at, put_none, fr0_at]; done) | rfl), lw0, by simp [gl0], by simpa using b0, ⟨by simp, fun k us x h => by simp at h⟩⟩
 rintro q α G ⟨i, R, hiq, h0, h1, h5, h11, h12, h13, hlow, hgl, hout, hrows⟩
 refine aw_seq ?_
 by_cases hi : i < l.length
 case neg =>
  (refine aw_ops (by kernel_rfl) (fun K hK => ?_); simp (disch := first | omega | (simp only [lnS]; try omega)) [-getElem?_pos, -getElem?_neg, h12, h13, hi]; refine hK _ _ ?_; clear hK K)
  refine aw_seq ?_
  refine aw_f (by (first | (simp [eval_tmp, put_at, hi]; done) | (simp [eval_tmp, put_at, hi]; omega))) (by kernel_rfl) ?_
  refine aw_exit ?_
  obtain rfl : i = l.length := by omega
  rw [List.drop_of_length_le (by omega), List.append_nil] at hout
  rw [List.take_length] at hrows
  refine aw_seq ?_
  (refine aw_ops (by kernel_rfl) (fun K hK => ?_); simp (disch := first | omega | (simp only [lnS]; try omega)) [-getElem?_pos, -getElem?_neg, h5]; refine hK _ _ ?_; clear hK K)
  (refine aw_ret ?_; simp (disch := first | omega | (simp only [lnS]; try omega)) [-getElem?_pos, -getElem?_neg, thenQ_ret, scopeQ_ret, inBlockQ_ret, RQ, resL, resV])
  exact ⟨hlow, R, hrows, hout⟩
 obtain ⟨j, qq, bb, us, pv, wv', bv, qv, hx, hbb, hq, hus, hC, hcn⟩ := hc i _ (hn_get hi)
 have hbG : hget G j = some bb := (hlow.1 j (by have := hget_lt hbb; omega)).trans hbb
 have hul := hC.len
 have hxw := hwf _ (List.mem_of_getElem? (hn_get hi))
 have hxs := hs _ (List.mem_of_getElem? (hn_get hi))
 have hus' := hus.symm
 clear hus
 have hset2 : ∀ Z : List Value, Z.length = 104 → setR Z 0 us = us := fun Z hZ => setR_all _ _ (by omega)
 have hle0 := hlow.2
 have hRl := hrows.1
 rw [List.length_take] at hRl
 have hRl : R.length = i := by omega
 (refine aw_ops (by kernel_rfl) (fun K hK => ?_); simp (disch := first | omega | (simp only [lnS]; try omega)) [-getElem?_pos, -getElem?_neg, h12, h13, hi]; refine hK _ _ ?_; clear hK K)
 refine aw_seq ?_
 refine aw_t (by (first | (simp [eval_tmp, put_at, hi]; done) | (simp [eval_tmp, put_at, hi]; omega))) (by kernel_rfl) ?_
 refine aw_skip ?_
 refine aw_seq ?_
 refine aw_block ?_
 refine aw_seq ?_
 (refine aw_ops (by kernel_rfl) (fun K hK => ?_); simp (disch := first | omega | (simp only [lnS]; try omega)) [-getElem?_pos, -getElem?_neg, h11, h13, -notTuple, hnt, hvc, nt_intG, nt_aggG, -xindexAddr, hx, hbG, hus', hul, hq, hle0, hp0, all_zl, hset2]; refine hK _ _ ?_; clear hK K)
 obtain ⟨hlow2, hb2⟩ := boxed (H := G) us 60
 have hout2 := hget_left' (L := [some ⟨us, 60, none⟩]) hout
 have hgl2 : (G ++ ([some ⟨us, 60, none⟩] : AH)).length = G.length + 1 := by simp
 obtain ⟨g, hg⟩ : ∃ g, g = G.length := ⟨_, rfl⟩
 rw [← hg] at hb2 hgl2 hlow2 hle0 hgl ⊢
 have hrows := hrows.keep (G := G ++ ([some ⟨us, 60, none⟩] : AH)) (fun j _ hj => hlow2.1 j (by omega)) (by omega)
 generalize G ++ [some ⟨us, 60, none⟩] = G2 at *
 have hlowG2 : Low n H G2 := ⟨fun j hj => (hlow2.1 j (by omega)).trans (hlow.1 j hj), by omega⟩
 have hC2 : HdC G2 us (hn l i) pv wv' bv qv := hC.low (fun j hj => hlowG2.1 j (by omega))
 have hcn1 := helds1_ac (nro := nro) (γ := γ) hC2 hxw hxs (by omega)
 have htk : us.take 104 = us := List.take_of_length_le (by omega)
 have hsuc : (List.map (fun i => c i + 1) (List.range (i + 1))).sum = (List.map (fun i => c i + 1) (List.range i)).sum + (c i + 1) := by
  rw [List.range_succ, List.map_append, List.sum_append]
  simp
 have hng : n < g := by omega
 refine aw_ops (by kernel_rfl) (fun K hK => ?_)
 simp (disch := first | omega | (simp only [lnS]; try omega)) [-getElem?_pos, -getElem?_neg, h5, h1, -notTuple, hnt, hvc, hfn, hfc, nt_intG, nt_aggG, nt_slG, hb2, hul, htk]
 refine ⟨hcal, hcn1.mono ?_⟩
 rintro v1 G3 ⟨rfl, l1, w1, r1⟩
 rw [hgl2] at l1 w1 r1 ⊢
 have hle3 := w1.2
 have hout3 := (w1.1 n (by omega)).trans hout2
 have hrl := heldRow_len hxw (opP pv (g + 1 + 2)) (opW pv wv' (g + 1 + 2)) (opB pv wv' bv (g + 1 + 2)) (clV qv (g + 1 + 2 + opN pv wv' bv))
 have hput := row_put (Z := ZZ.drop (i * 104)) (us := heldCp (hn l i) pv wv' bv qv (g + 1)) hrows.len hRl hrl (by rw [List.length_drop]; omega)
 rw [List.drop_drop, show i * 104 + 104 = (i + 1) * 104 by omega] at hput
 have hrows3 := (hrows.keep (G := G3) (fun j _ hj => w1.1 j (by omega)) (by omega)).push (us := heldCp (hn l i) pv wv' bv qv (g + 1)) hrl (fun B hB => r1 B (fun j h1 h2 => hB j (by omega) h2))
 have hrl : (heldCp (hn l i) pv wv' bv qv (g + 1)).length = 104 := hrl
 have hcl : (R.flatten ++ ZZ.drop (i * 104)).length = l.length * 104 := by
  rw [List.length_append, fl_len hrows.len, List.length_drop, hRl]; omega
 generalize heldCp (hn l i) pv wv' bv qv (g + 1) = us' at *
 generalize hCe : R.flatten ++ ZZ.drop (i * 104) = C at *
 generalize hCe2 : (R ++ [us']).flatten ++ ZZ.drop ((i + 1) * 104) = C' at *
 simp (disch := first | omega | (simp only [lnS]; try omega)) [-getElem?_pos, -getElem?_neg, hout3, hcl, hrl, hput, nt_aggG, hi]
 refine hK _ _ ?_; clear hK K
 have z1 : hget (G3.set n (some ⟨C', 60, some 104⟩)) n = some ⟨C', 60, some 104⟩ := hget_set_eq (hget_lt hout3)
 have z2 : ∀ j, j ≠ n → hget (G3.set n (some ⟨C', 60, some 104⟩)) j = hget G3 j := fun j hj => hget_set_ne (fun e => hj e.symm)
 have z3 : (G3.set n (some ⟨C', 60, some 104⟩)).length = G3.length := by rw [List.length_set]
 have hrows4 := hrows3.keep (G := G3.set n (some ⟨C', 60, some 104⟩)) (fun j h1 h2 => z2 j (by omega)) (by omega)
 generalize G3.set n (some ⟨C', 60, some 104⟩) = G4 at *
 have htk2 : l.take i ++ [hn l i] = l.take (i + 1) := by rw [List.take_add_one, hn_get hi]; rfl
 rw [htk2] at hrows4
 subst hCe2
 (refine aw_ops (by kernel_rfl) (fun K hK => ?_); simp (disch := first | omega | (simp only [lnS]; try omega)) [-getElem?_pos, -getElem?_neg, h13]; refine hK _ _ ?_; clear hK K)
 exact ⟨q - 1, by omega, i + 1, R ++ [us'], by omega, by (first | (simp [put_at, put_none, fr0_at, h0]; done) | rfl), by (first | (simp [put_at, put_none, fr0_at, h1]; done) | rfl), by (first | (simp [put_at, put_none, fr0_at, h5]; done) | rfl), by (first | (simp [put_at, put_none, fr0_at, h11]; done) | rfl), by (first | (simp [put_at, put_none, fr0_at, h12]; done) | rfl), by (first | (simp [put_at, put_none, fr0_at]; done) | rfl), ⟨fun j hj => (z2 j (by omega)).trans ((w1.1 j (by omega)).trans (hlowG2.1 j hj)), by omega⟩, by rw [hsuc]; omega, z1, hrows4⟩
theorem deepHeld_ac {nro : Nat} {γ : Nat → Option Nat} {H : AH} {nv : Value} {l : List HeldD} (hN : HdA H nv l) (hl : l.length ≤ 1000) (hs : ∀ x ∈ l, SmH x) (hnro : nro ≤ H.length) :
  ∃ N : Nat, AC Try.prog nro γ 86 #[nv] H (fun v' H' => v' = .slice (some ⟨H.length, 0, none⟩) l.length l.length ∧ H'.length = N ∧ Low H.length H H' ∧ ∃ R, NewRowsH (H.length + 1) H' R l ∧ hget H' H.length = some ⟨R.flatten, 60, some 104⟩) := by
 obtain ⟨N, hE⟩ := eachH_ac (nro := nro) (γ := γ) hN hl hs hnro helds1_callable
 obtain ⟨hnt, hvc, hxl, hwf, hat⟩ := hN
 have hfn : notTuple (.func (.func 138) #[] #[]) = true := rfl
 have hfc : (Value.func (.func 138) #[] #[]).cells = #[.func (.func 138) #[] #[]] := rfl
 refine ⟨N, ?_⟩
 refine ac_of_aw Try.func86 rfl Try.ntmps86 Try.results86 (by simp) ?_
 refine aw_seq ?_
 (refine aw_ops (by kernel_rfl) (fun K hK => ?_); simp (disch := first | omega | (simp only [lnS]; try omega)) [-getElem?_pos, -getElem?_neg]; refine hK _ _ ?_; clear hK K)
 refine aw_seq ?_
 refine aw_ops (by kernel_rfl) (fun K hK => ?_)
 simp (disch := first | omega | (simp only [lnS]; try omega)) [-getElem?_pos, -getElem?_neg, -notTuple, hnt, hvc, hfn, hfc, eval_fnG]
 refine ⟨by kernel_rfl, hE.mono ?_⟩
 rintro v1 G1 ⟨rfl, h1, h2, h3⟩
 try simp (disch := first | omega | (simp only [lnS]; try omega)) [-getElem?_pos, -getElem?_neg]
 refine hK _ _ ?_; clear hK K
 (refine aw_ret ?_; simp (disch := first | omega | (simp only [lnS]; try omega)) [-getElem?_pos, -getElem?_neg, thenQ_ret, scopeQ_ret, inBlockQ_ret, RQ, resL, resV])
 exact ⟨h2, h3⟩
end
section
def NewGH (n : Nat) (H : AH) (v : Value) (l : List HeldD) : Prop := ∀ G, KeepN n H G → HdV G v l
theorem NewGH.sh {n : Nat} {H : AH} {v : Value} {l : List HeldD} (h : NewGH n H v l) : notTuple v = true ∧ v.cells = #[v] := val_nt (h H (fun _ _ _ => rfl))
def putE (q : List HeldD) (x : HeldD) : Int := if (rightQ q && rightO x.op) = false then 1 else if 0 ≤ findIH q q.length x.id then 13 else if q.length = 24 then 8 else 0
def PutR (q : List HeldD) (x : HeldD) (H : AH) (v' : Value) (H' : AH) : Prop :=
 Low H.length H H' ∧ ∃ sv, v' = .tuple #[sv, .int .i64 (putE q x)] ∧ ((putE q x = 0 ∧ NewGH H.length H' sv (q ++ [x])) ∨ (putE q x ≠ 0 ∧ sv = .slice none 0 0))
theorem PutR.bad {q : List HeldD} {x : HeldD} {H H' : AH} {z : Int} (hl : Low H.length H H') (h : putE q x = z) (hz : z ≠ 0) : Low H.length H H' ∧ ∃ sv, (Value.slice none 0 0 = sv ∧ z = putE q x) ∧ ((putE q x = 0 ∧ NewGH H.length H' sv (q ++ [x])) ∨ (putE q x ≠ 0 ∧ sv = .slice none 0 0)) :=
 ⟨hl, _, ⟨rfl, h.symm⟩, .inr ⟨by rw [h]; exact hz, rfl⟩⟩
theorem rightQ_smH {q : List HeldD} (h : rightQ q = true) (hg : ∀ x ∈ q, x.got.length ≤ 1000) : ∀ x ∈ q, SmH x := fun x hx => by
 obtain ⟨i, hi, rfl⟩ := List.mem_iff_getElem.1 hx
 unfold rightQ at h
 rw [Bool.and_eq_true, List.all_eq_true] at h
 have h1 := h.2 i (List.mem_range.2 hi)
 unfold oneQ at h1
 rw [Bool.and_eq_true] at h1
 have e : hn q i = q[i] := hn_eq (List.getElem?_eq_getElem hi)
 rw [e] at h1
 have := rightO_sm h1.2
 exact ⟨⟨by omega, by omega, by omega⟩, hg _ hx⟩
theorem rightQ_len {q : List HeldD} (h : rightQ q = true) : q.length ≤ 24 := by
 unfold rightQ at h
 rw [Bool.and_eq_true, decide_eq_true_eq] at h
 exact h.1
attribute [local simp] wb_bool wb_undef with_lit XL_nil XL_cons XLc_val XLc_call step1_eq stepW_t stepW_f stepC_n stepC_s stepX_s stepX_n stepN_s calleeX xrecv oneV xop_eq xopR_s xopR_n wantedA_eq wantedG_n wantedG_s plain1_int plain1_bool plain1_string bits_i64 bits_u64 bits_u32 bits_u16 bits_u8 xeqA xagg xcmp xarr allK_iv num_iv calleeOf xread xeff xbin xint xnil xun xstr xload xconv xpart xfield xfieldAddr xindexAddr xindex bnd asInt? xslice xlen xmin xmax xbuild xfill xappend xapp2 xappstr xappmk xcap xcopy xcells eval_tmp eval_const put_at put_none fr0_at cells_agg cells_int cells_bool cells_string cells_ptr cells_slice notTuple tab iv_all hget_app hget_app0 hget_cons0 hget_cons set_app set_app0 setR setR_one QL_nil QL_cons QLc_val stepQ_t stepQ_f stepQC_n stepQC_s stepQX_s SL_nil SL_cons SLc_val stepS_t stepS_f ltT ltF leT leF eqT eqF ltTn ltFn leTn leFn eqTn eqFn beqT beqF bneT bneF wi64 wu64 wu32 wu16 wu8 tmodP tdivP hgetL hgetNe hgetEq setL nums_def nums_len Nat.succ_le_of_lt List.getElem?_cons_zero List.getElem?_cons_succ Option.getD_some Int.toNat_add Int.toNat_mul agM okM agB agI agS agP agL agA okB okI okS okP okSl okA
theorem held_app {nro n L0 L1 : Nat} {A : AH} {R R1 : List (List Value)} {l : List HeldD} {x : HeldD} (hnro : nro ≤ L0) (hnL : n ≤ L0) (hL : L0 < L1) (b0 : hget A L0 = some ⟨R.flatten, 60, some 104⟩) (b1 : hget A L1 = some ⟨R1.flatten, 60, some 104⟩) (h0 : NewRowsH (L0 + 1) A R l) (h1 : NewRowsH (L1 + 1) A R1 [x]) (hl : l.length ≤ 1000) (hw : ∀ y ∈ l ++ [x], y.Wf) :
  ∃ v' H', xappend Try.prog nro 58 (.slice (some ⟨L0, 0, none⟩) l.length l.length) (.slice (some ⟨L1, 0, none⟩) 1 1) A = some (v', H') ∧ NewGH n H' v' (l ++ [x]) ∧ (∀ j, j < L0 → hget H' j = hget A j) ∧ A.length ≤ H'.length := by
 have hRl := fl_len h0.len
 rw [h0.1] at hRl
 obtain ⟨r1, rfl⟩ : ∃ r, R1 = [r] := by
  have := h1.1
  match R1, this with
  | [r], _ => exact ⟨r, rfl⟩
 have hr1 := h1.2 0 r1 x rfl rfl
 have hfl : [r1].flatten = r1 := by simp
 rw [hfl] at b1
 have hrl := hr1.1
 have htr : r1.take 104 = r1 := List.take_of_length_le (by omega)
 have hxc : xcells 104 (.slice (some ⟨L1, 0, none⟩) 1 1) A = some r1 := by simp [xcells, b1, hrl, htr]
 obtain ⟨v', H', hap, ho, hl', hk'⟩ := ownF_append (P := Try.prog) (nro := nro) (t := 58) (e := 60) (H := A) (v := .slice (some ⟨L0, 0, none⟩) l.length l.length) (x := .slice (some ⟨L1, 0, none⟩) 1 1) (sz := 104) (cells := R.flatten) (news := r1) (F := [L0]) (by simp) (by simp) (by omega) (by simp) (.inr ⟨L0, l.length, rfl, b0, hRl, rfl⟩)
  (fun j hj => by simp at hj; omega) (fun s e => by cases e) hxc (fun e => by rw [e] at hrl; simp at hrl) (by rw [hrl]) (by rw [hRl, hrl]; simp; omega) (by rw [hRl, hrl]; simp only [maxLen]; omega)
 have g0 := hget_lt b0
 have g1 := hget_lt b1
 obtain ⟨len, rfl⟩ := ho.new
 have hlen : len = l.length + 1 := by
  rcases ho with ⟨h, _, _⟩ | ⟨i, k, he, _, h3, _⟩
  ·cases h
  ·cases he
   rw [List.length_append, hRl, hrl] at h3
   omega
 subst hlen
 have hnew : hget H' A.length = some ⟨R.flatten ++ r1, 60, some 104⟩ := by
  rcases ho with ⟨h, _, _⟩ | ⟨i, k, he, h2, _, _⟩
  ·cases h
  ·cases he; exact h2
 have hold : ∀ j, j < A.length → j ≠ L0 → hget H' j = hget A j := fun j hj hn => hk' j hj (by simpa using hn)
 refine ⟨_, H', hap, fun D hD => ?_, fun j hj => hold j (by omega) (by omega), by omega⟩
 have hD2 : ∀ j, L0 + 1 ≤ j → j < A.length → hget D j = hget A j := fun j h1 h2 => (hD j (by omega) (by omega)).trans (hold j h2 (by omega))
 have hfin := rows_valH (D := D) (b := A.length) (T := 60) (es := some 104) (R := R ++ [r1]) (L := l ++ [x]) (by rw [hD A.length (by omega) (by omega), hnew]; simp) (by simp [h0.1]) hw (fun k us' y hk hy => by
  rcases Nat.lt_or_ge k l.length with hkl | hkl
  ·rw [List.getElem?_append_left (by rw [h0.1]; exact hkl)] at hk
   rw [List.getElem?_append_left hkl] at hy
   have := h0.2 k us' y hk hy
   exact ⟨this.1, this.2 D (fun j h1 h2 => hD2 j h1 h2)⟩
  ·rw [List.getElem?_append_right (by rw [h0.1]; exact hkl), h0.1] at hk
   rw [List.getElem?_append_right hkl] at hy
   match k - l.length, hk, hy with
   | 0, hk, hy => cases hk; cases hy; exact ⟨hrl, hr1.2 D (fun j h1 h2 => hD2 j (by omega) h2)⟩)
 rw [List.length_append] at hfin
 exact hfin
theorem put_rc {γ : Nat → Option Nat} {H : AH} {qv : Value} {l : List HeldD} {us : List Value} {x : HeldD} {pv wv bv kv : Value} (hQ : HdA H qv l) (hC : HdC H us x pv wv bv kv) (hw : x.Wf) (hl : l.length ≤ maxLen) (hg : ∀ y ∈ l, y.got.length ≤ 1000) (hgx : x.got.length ≤ 1000) : AC Try.prog H.length γ 37 #[qv, .agg us.toArray] H (PutR l x H) := by
 have q1 := hQ.nt
 have q2 := hQ.cs
 have hxl := hQ.len
 have hul := hC.len
 have hset : ∀ Z : List Value, Z.length = 104 → setR Z 0 us = us := fun Z hZ => setR_all _ _ (by omega)
 have hset2 : ∀ g : Nat → Value, setR (List.map g (List.range 104)) 0 us = us := fun g => hset _ (by simp)
 have hp0 : plain1 (.slice none 0 0) = true := rfl
 have htu : us.take 104 = us := List.take_of_length_le (by omega)
 have hivl : (iv .u8 x.id).length = 32 := by rw [iv_length, hw.id.1]
 have hid := hC.id
 have hcop := hC.op.len
 obtain ⟨n, hn0⟩ : ∃ n, n = H.length := ⟨_, rfl⟩
 unfold PutR
 refine ac_of_aw Try.func37 rfl Try.ntmps37 Try.results37 (by simp) ?_
 refine aw_seq ?_
 (refine aw_ops (by kernel_rfl) (fun K hK => ?_); simp (disch := first | omega | (simp only [lnS]; try omega)) [-getElem?_pos, -getElem?_neg, -notTuple, q1, q2, hul, nt_aggG, hp0, all_zl, hset, htu]; refine hK _ _ ?_; clear hK K)
 obtain ⟨lw, b3⟩ := boxed (H := H) us 60
 rw [← hn0] at b3
 have gl : (H ++ ([some ⟨us, 60, none⟩] : AH)).length = n + 1 := by simp [hn0]
 have hptr : Value.pointer (some ⟨H.length, 0, none⟩) = .pointer (some ⟨n, 0, none⟩) := by rw [hn0]
 generalize H ++ [some ⟨us, 60, none⟩] = G at *
 have hQG := hQ.lowG lw
 have hCG := hC.low lw.1
 have qr := qRight_rc (γ := γ) hQG hl
 have ro := right_rc (γ := γ) hCG.op hw.op
 have fi := qfind_rc (γ := γ) hQG hl hw.id.1
 have k0 : putE l x = if (rightQ l && rightO x.op) = false then 1 else if 0 ≤ findIH l l.length x.id then 13 else if l.length = 24 then 8 else 0 := rfl
 rw [hptr]
 refine aw_seq ?_
 refine aw_block ?_
 refine aw_seq ?_
 refine aw_cut (fun α G2 => α 6 = .bool (!(rightQ l && rightO x.op)) ∧ α 0 = qv ∧ α 3 = .pointer (some ⟨n, 0, none⟩) ∧ G2 = G) ?_ ?_
 ·refine aw_seq ?_
  refine aw_ops (by kernel_rfl) (fun K hK => ?_)
  simp (disch := first | omega | (simp only [lnS]; try omega)) [-getElem?_pos, -getElem?_neg, -notTuple, q1, q2, nt_intG]
  refine ⟨by kernel_rfl, ac_of_rc qr (by simp [pv_iv, pv_int, pv_bool, pv_string, pv_tup2, pv_tup3, iv_plain, p2_int, p2_bool, p2_string]) ?_⟩
  cases hq : rightQ l with
  | false =>
   try simp (disch := first | omega | (simp only [lnS]; try omega)) [-getElem?_pos, -getElem?_neg]
   refine hK _ _ ?_; clear hK K
   refine aw_t (by (first | (simp [eval_tmp, put_at]; done) | (simp [eval_tmp, put_at]; omega))) (by kernel_rfl) ?_
   refine aw_skip ?_
   exact ⟨by rw [hq]; (first | (simp [put_at, put_none, fr0_at]; done) | rfl), by (first | (simp [put_at, put_none, fr0_at]; done) | rfl), by (first | (simp [put_at, put_none, fr0_at]; done) | rfl), rfl⟩
  | true =>
   try simp (disch := first | omega | (simp only [lnS]; try omega)) [-getElem?_pos, -getElem?_neg]
   refine hK _ _ ?_; clear hK K
   refine aw_f (by (first | (simp [eval_tmp, put_at]; done) | (simp [eval_tmp, put_at]; omega))) (by kernel_rfl) ?_
   refine aw_ops (by kernel_rfl) (fun K hK => ?_)
   simp (disch := first | omega | (simp only [lnS]; try omega)) [-getElem?_pos, -getElem?_neg, b3, hul, hcop, nt_intG, nt_aggG]
   refine ⟨by kernel_rfl, ac_of_rc ro (by simp [pv_iv, pv_int, pv_bool, pv_string, pv_tup2, pv_tup3, iv_plain, p2_int, p2_bool, p2_string]) ?_⟩
   try simp (disch := first | omega | (simp only [lnS]; try omega)) [-getElem?_pos, -getElem?_neg]
   refine hK _ _ ?_; clear hK K
   exact ⟨by rw [hq]; (first | (simp [put_at, put_none, fr0_at]; done) | rfl), by (first | (simp [put_at, put_none, fr0_at]; done) | rfl), by (first | (simp [put_at, put_none, fr0_at]; done) | rfl), rfl⟩
 rintro α G2 ⟨q6, q0, q3, rfl⟩
 have lwn : Low H.length H G2 := lw
 cases hb : (rightQ l && rightO x.op) with
 | false =>
  rw [hb] at q6
  refine aw_t (by (first | (simp [eval_tmp, put_at, q6]; done) | (simp [eval_tmp, put_at, q6]; omega))) (by kernel_rfl) ?_
  refine aw_seq ?_
  (refine aw_ops (by kernel_rfl) (fun K hK => ?_); simp (disch := first | omega | (simp only [lnS]; try omega)) [-getElem?_pos, -getElem?_neg, nt_slG, nt_intG]; refine hK _ _ ?_; clear hK K)
  (refine aw_ret ?_; simp (disch := first | omega | (simp only [lnS]; try omega)) [-getElem?_pos, -getElem?_neg, thenQ_ret, scopeQ_ret, inBlockQ_ret, RQ, resL, resV])
  exact PutR.bad lw (by rw [k0, hb, if_pos rfl]) (by decide)
 | true =>
 rw [hb] at q6
 rw [hb, if_neg (by simp)] at k0
 refine aw_f (by (first | (simp [eval_tmp, put_at, q6]; done) | (simp [eval_tmp, put_at, q6]; omega))) (by kernel_rfl) ?_
 obtain ⟨hq, hro⟩ := Bool.and_eq_true_iff.1 hb
 refine aw_seq ?_
 refine aw_ops (by kernel_rfl) (fun K hK => ?_)
 simp (disch := first | omega | (simp only [lnS]; try omega)) [-getElem?_pos, -getElem?_neg, q0, q3, b3, hul, hid, hivl, -notTuple, q1, q2, nt_intG, nt_aggG]
 refine ⟨by kernel_rfl, ac_of_rc fi (by simp [pv_iv, pv_int, pv_bool, pv_string, pv_tup2, pv_tup3, iv_plain, p2_int, p2_bool, p2_string]) ?_⟩
 generalize findIH l l.length x.id = f at *
 by_cases hf : 0 ≤ f
 ·try simp (disch := first | omega | (simp only [lnS]; try omega)) [-getElem?_pos, -getElem?_neg, hf]
  refine hK _ _ ?_; clear hK K
  refine aw_t (by (first | (simp [eval_tmp, put_at]; done) | (simp [eval_tmp, put_at]; omega))) (by kernel_rfl) ?_
  refine aw_seq ?_
  (refine aw_ops (by kernel_rfl) (fun K hK => ?_); simp (disch := first | omega | (simp only [lnS]; try omega)) [-getElem?_pos, -getElem?_neg, nt_slG, nt_intG]; refine hK _ _ ?_; clear hK K)
  (refine aw_ret ?_; simp (disch := first | omega | (simp only [lnS]; try omega)) [-getElem?_pos, -getElem?_neg, thenQ_ret, scopeQ_ret, inBlockQ_ret, RQ, resL, resV])
  first | exact lw | exact PutR.bad lw (by rw [k0, if_pos hf]) (by decide)
 rw [if_neg hf] at k0
 try simp (disch := first | omega | (simp only [lnS]; try omega)) [-getElem?_pos, -getElem?_neg, hf]
 refine hK _ _ ?_; clear hK K
 refine aw_f (by (first | (simp [eval_tmp, put_at]; done) | (simp [eval_tmp, put_at]; omega))) (by kernel_rfl) ?_
 refine aw_seq ?_
 by_cases h24 : l.length = 24
 ·have h24b : ((l.length : Int) == 24) = true := by rw [beq_iff_eq]; omega
  have h24i : (l.length : Int) = 24 := by omega
  (refine aw_ops (by kernel_rfl) (fun K hK => ?_); simp (disch := first | omega | (simp only [lnS]; try omega)) [-getElem?_pos, -getElem?_neg, q0, -notTuple, q1, q2, nt_intG, -xlen, hxl, h24i, h24b]; refine hK _ _ ?_; clear hK K)
  refine aw_t (by (first | (simp [eval_tmp, put_at]; done) | (simp [eval_tmp, put_at]; omega))) (by kernel_rfl) ?_
  refine aw_seq ?_
  (refine aw_ops (by kernel_rfl) (fun K hK => ?_); simp (disch := first | omega | (simp only [lnS]; try omega)) [-getElem?_pos, -getElem?_neg, nt_slG, nt_intG]; refine hK _ _ ?_; clear hK K)
  (refine aw_ret ?_; simp (disch := first | omega | (simp only [lnS]; try omega)) [-getElem?_pos, -getElem?_neg, thenQ_ret, scopeQ_ret, inBlockQ_ret, RQ, resL, resV])
  first | exact lw | exact PutR.bad lw (by rw [k0, if_pos h24]) (by decide)
 have h24b : ((l.length : Int) == 24) = false := by rw [beq_eq_false_iff_ne]; omega
 have h24i : ¬ (l.length : Int) = 24 := by omega
 rw [if_neg h24] at k0
 (refine aw_ops (by kernel_rfl) (fun K hK => ?_); simp (disch := first | omega | (simp only [lnS]; try omega)) [-getElem?_pos, -getElem?_neg, q0, -notTuple, q1, q2, nt_intG, -xlen, hxl, h24i, h24b]; refine hK _ _ ?_; clear hK K)
 refine aw_f (by (first | (simp [eval_tmp, put_at]; done) | (simp [eval_tmp, put_at]; omega))) (by kernel_rfl) ?_
 refine aw_skip ?_
 have hsm := rightQ_smH hq hg
 have hxs : SmH x := by
  have := rightO_sm hro
  exact ⟨⟨by omega, by omega, by omega⟩, hgx⟩
 have hwx : ∀ y ∈ l ++ [x], y.Wf := fun y hy => by
  rcases List.mem_append.1 hy with hy | hy
  ·exact hQ.wf y hy
  ·rw [List.mem_singleton] at hy; subst hy; exact hw
 have hl24 := rightQ_len hq
 have hval : ∀ D, Low G2.length G2 D → ValL D x.row us := fun D hD => by
  have h := hCG.low hD.1
  rw [h.row hw]
  exact held_val h.op.parents h.op.who h.op.boxes h.got
 have hone : ∀ (D : AH) (b : Nat), Low G2.length G2 D → hget D b = some ⟨us, 60, some 104⟩ → HdA D (.slice (some ⟨b, 0, none⟩) 1 1) [x] := fun D b hD hb => by
  have := rows_valH (D := D) (b := b) (T := 60) (es := some 104) (R := [us]) (L := [x]) (by simpa using hb) rfl (fun y hy => by rw [List.mem_singleton] at hy; subst hy; exact hw) (fun k us' y hk hy => by
   match k, hk, hy with
   | 0, hk, hy => cases hk; cases hy; exact ⟨hul, hval D hD⟩)
  exact this.hda (fun y hy => by rw [List.mem_singleton] at hy; subst hy; exact hw)
 have hsx : ∀ y ∈ [x], SmH y := fun y hy => by rw [List.mem_singleton] at hy; subst hy; exact hxs
 have hGn : H.length ≤ G2.length := lw.2
 have fin : ∀ (A : AH) (L0 L1 : Nat) (R R1 : List (List Value)), G2.length ≤ L0 → L0 < L1 → Low G2.length G2 A → hget A L0 = some ⟨R.flatten, 60, some 104⟩ → hget A L1 = some ⟨R1.flatten, 60, some 104⟩ → NewRowsH (L0 + 1) A R l → NewRowsH (L1 + 1) A R1 [x] → ∃ v' H', xappend Try.prog H.length 58 (.slice (some ⟨L0, 0, none⟩) l.length l.length) (.slice (some ⟨L1, 0, none⟩) 1 1) A = some (v', H') ∧ notTuple v' = true ∧ v'.cells = #[v'] ∧ Low H.length H H' ∧ NewGH H.length H' v' (l ++ [x]) := fun A L0 L1 R R1 g1 g2 g3 g4 g5 g6 g7 => by
  obtain ⟨v', H', h1, h2, h3, h4⟩ := held_app (nro := H.length) (n := H.length) (by omega) (by omega) g2 g4 g5 g6 g7 (by omega) hwx
  have hs := h2.sh
  exact ⟨v', H', h1, hs.1, hs.2, ⟨fun j hj => (h3 j (by omega)).trans ((g3.1 j (by omega)).trans (lw.1 j hj)), by have := g3.2; omega⟩, h2⟩
 obtain ⟨N, hc1⟩ := deepHeld_ac (nro := H.length) (γ := γ) hQG (by omega) hsm hGn
 refine aw_seq ?_
 (refine aw_ptree [0] 7 [[1, 2, 3, 4, 5, 6, 7], [2, 1, 3, 4, 5, 6, 7], [2, 3, 1, 4, 5, 6, 7]] (by kernel_rfl) (by kernel_rfl) (by kernel_rfl) (fun K hK => ?_)); simp only [sel, List.getElem?_cons_succ, List.getElem?_cons_zero]; simp (disch := first | omega | (simp only [lnS]; try omega)) [-getElem?_pos, -getElem?_neg, q0, q3, b3, hul, htu, hset2, hp0, hGn, all_zl, -notTuple, q1, q2, nt_intG, nt_aggG, nt_slG, -xappend, XO_s, XO_z, XLk_val, XLk_call, headsO, behind, List.length_cons, List.length_nil, List.mem_cons, List.not_mem_nil, or_false, forall_eq_or_imp, forall_eq, List.contains_cons, List.contains_nil]
 refine ⟨⟨by kernel_rfl, hc1.mono ?_⟩, ?_⟩
 ·rintro v G3 ⟨rfl, hN, lw3, R, hR, bR⟩
  have b33 := (lw3.1 _ (hget_lt b3)).trans b3
  have hle3 := lw3.2
  have hn3 : H.length ≤ G3.length := by omega
  simp (disch := first | omega | (simp only [lnS]; try omega)) [-getElem?_pos, -getElem?_neg, b33, hul, htu, hp0, hset2, -notTuple, nt_slG, nt_aggG, hn3, -xappend, XO_s, XO_z, XLk_val, XLk_call, headsO, behind, List.length_cons, List.length_nil, List.mem_cons, List.not_mem_nil, or_false, forall_eq_or_imp, forall_eq, List.contains_cons, List.contains_nil]
  obtain ⟨lw4, b4⟩ := boxed2 (H := G3) us 60 104
  have hle4 := lw4.2
  have hlt4 := hget_lt b4
  generalize G3 ++ [some ⟨us, 60, some 104⟩] = G4 at *
  obtain ⟨N2, hc2⟩ := deepHeld_ac (nro := H.length) (γ := γ) (hone G4 G3.length (lw3.both lw4) b4) (by simp) hsx (by omega)
  refine ⟨by kernel_rfl, hc2.mono ?_⟩
  rintro v G5 ⟨rfl, hN2, lw5, R1, hR1, bR1⟩
  have hle5 := lw5.2
  have lw35 := lw4.both lw5
  obtain ⟨v', H', hap, s1, s2, hL, hnew⟩ := fin G5 G2.length G4.length R R1 (Nat.le_refl _) (by omega) (lw3.both lw35) ((lw35.1 _ (hget_lt bR)).trans bR) bR1 (hR.keep (fun j _ hj => lw35.1 j hj) lw35.2) hR1
  try simp (disch := first | omega | (simp only [lnS]; try omega)) [-getElem?_pos, -getElem?_neg, -xappend, hap, -notTuple, s1, s2, nt_slG, nt_aggG, XO_s, XO_z, XLk_val, XLk_call, headsO, behind, List.length_cons, List.length_nil, List.mem_cons, List.not_mem_nil, or_false, forall_eq_or_imp, forall_eq, List.contains_cons, List.contains_nil]
  refine hK _ _ ?_; clear hK K
  (refine aw_ret ?_; simp (disch := first | omega | (simp only [lnS]; try omega)) [-getElem?_pos, -getElem?_neg, thenQ_ret, scopeQ_ret, inBlockQ_ret, RQ, resL, resV])
  exact ⟨_, ⟨s1, rfl⟩, hL, v', by rw [k0], hnew⟩
 refine ⟨⟨by kernel_rfl, hc1.mono ?_⟩, ?_⟩
 ·rintro v G3 ⟨rfl, hN, lw3, R, hR, bR⟩
  have hle3 := lw3.2
  have hn3 : H.length ≤ G3.length := by omega
  try simp (disch := first | omega | (simp only [lnS]; try omega)) [-getElem?_pos, -getElem?_neg, hset2, -notTuple, nt_slG, nt_aggG, hn3, -xappend, XO_s, XO_z, XLk_val, XLk_call, headsO, behind, List.length_cons, List.length_nil, List.mem_cons, List.not_mem_nil, or_false, forall_eq_or_imp, forall_eq, List.contains_cons, List.contains_nil]
  obtain ⟨lw4, b4⟩ := boxed2 (H := G3) us 60 104
  have hle4 := lw4.2
  have hlt4 := hget_lt b4
  generalize G3 ++ [some ⟨us, 60, some 104⟩] = G4 at *
  obtain ⟨N2, hc2⟩ := deepHeld_ac (nro := H.length) (γ := γ) (hone G4 G3.length (lw3.both lw4) b4) (by simp) hsx (by omega)
  refine ⟨by kernel_rfl, hc2.mono ?_⟩
  rintro v G5 ⟨rfl, hN2, lw5, R1, hR1, bR1⟩
  have hle5 := lw5.2
  have lw35 := lw4.both lw5
  obtain ⟨v', H', hap, s1, s2, hL, hnew⟩ := fin G5 G2.length G4.length R R1 (Nat.le_refl _) (by omega) (lw3.both lw35) ((lw35.1 _ (hget_lt bR)).trans bR) bR1 (hR.keep (fun j _ hj => lw35.1 j hj) lw35.2) hR1
  try simp (disch := first | omega | (simp only [lnS]; try omega)) [-getElem?_pos, -getElem?_neg, -xappend, hap, -notTuple, s1, s2, nt_slG, nt_aggG, XO_s, XO_z, XLk_val, XLk_call, headsO, behind, List.length_cons, List.length_nil, List.mem_cons, List.not_mem_nil, or_false, forall_eq_or_imp, forall_eq, List.contains_cons, List.contains_nil]
  refine hK _ _ ?_; clear hK K
  (refine aw_ret ?_; simp (disch := first | omega | (simp only [lnS]; try omega)) [-getElem?_pos, -getElem?_neg, thenQ_ret, scopeQ_ret, inBlockQ_ret, RQ, resL, resV])
  exact ⟨_, ⟨s1, rfl⟩, hL, v', by rw [k0], hnew⟩
 ·obtain ⟨lw3, b4⟩ := boxed2 (H := G2) us 60 104
  have hle3 := lw3.2
  have hlt4 := hget_lt b4
  try simp (disch := first | omega | (simp only [lnS]; try omega)) [-getElem?_pos, -getElem?_neg, hset2, -xappend, XO_s, XO_z, XLk_val, XLk_call, headsO, behind, List.length_cons, List.length_nil, List.mem_cons, List.not_mem_nil, or_false, forall_eq_or_imp, forall_eq, List.contains_cons, List.contains_nil]
  generalize G2 ++ [some ⟨us, 60, some 104⟩] = G3 at *
  obtain ⟨N3, hc3⟩ := deepHeld_ac (nro := H.length) (γ := γ) (hQG.lowG lw3) (by omega) hsm (show H.length ≤ G3.length by omega)
  refine ⟨by kernel_rfl, hc3.mono ?_⟩
  rintro v G4 ⟨rfl, hN, lw4, R, hR, bR⟩
  have hle4 := lw4.2
  have b44 := (lw4.1 _ hlt4).trans b4
  obtain ⟨N2, hc2⟩ := deepHeld_ac (nro := H.length) (γ := γ) (hone G4 G2.length (lw3.both lw4) b44) (by simp) hsx (by omega)
  try simp (disch := first | omega | (simp only [lnS]; try omega)) [-getElem?_pos, -getElem?_neg, -notTuple, nt_slG, nt_aggG, -xappend, XO_s, XO_z, XLk_val, XLk_call, headsO, behind, List.length_cons, List.length_nil, List.mem_cons, List.not_mem_nil, or_false, forall_eq_or_imp, forall_eq, List.contains_cons, List.contains_nil]
  refine ⟨by kernel_rfl, hc2.mono ?_⟩
  rintro v G5 ⟨rfl, hN2, lw5, R1, hR1, bR1⟩
  have hle5 := lw5.2
  have g3l := hget_lt bR
  obtain ⟨v', H', hap, s1, s2, hL, hnew⟩ := fin G5 G3.length G4.length R R1 (by omega) (by omega) ((lw3.both lw4).both lw5) ((lw5.1 _ (hget_lt bR)).trans bR) bR1 (hR.keep (fun j _ hj => lw5.1 j hj) lw5.2) hR1
  try simp (disch := first | omega | (simp only [lnS]; try omega)) [-getElem?_pos, -getElem?_neg, -xappend, hap, -notTuple, s1, s2, nt_slG, nt_aggG, XO_s, XO_z, XLk_val, XLk_call, headsO, behind, List.length_cons, List.length_nil, List.mem_cons, List.not_mem_nil, or_false, forall_eq_or_imp, forall_eq, List.contains_cons, List.contains_nil]
  refine hK _ _ ?_; clear hK K
  (refine aw_ret ?_; simp (disch := first | omega | (simp only [lnS]; try omega)) [-getElem?_pos, -getElem?_neg, thenQ_ret, scopeQ_ret, inBlockQ_ret, RQ, resL, resV])
  exact ⟨_, ⟨s1, rfl⟩, hL, v', by rw [k0], hnew⟩
end
section
theorem ownF_app {P : Program} {nro : Nat} {t e : TypeId} {H : AH} {v x : Value} {sz : Nat} {cells news : List Value} {F : List Nat} (hu : und P t = .slice e) (hs : szt P e = sz) (h0 : 0 < sz) (hz : (zer P e).map (·.cells.size) = some sz)
  (hv : OwnF H v e sz cells F) (hnro : ∀ j ∈ F, nro ≤ j) (hstr : ∀ s, x ≠ .string s) (hx : xcells sz x H = some news) (hd : news.length % sz = 0) (hb : (cells.length + news.length) * byt P e ≤ 140737488355328) (hm : cells.length + news.length ≤ maxLen) :
  ∃ v' H' F', xappend P nro t v x H = some (v', H') ∧ OwnF H' v' e sz (cells ++ news) F' ∧ H.length ≤ H'.length ∧ (∀ j, j < H.length → j ∉ F → hget H' j = hget H j) ∧ ∀ j ∈ F', H.length ≤ j := by
 by_cases hn : news = []
 ·subst hn
  rcases hv with ⟨rfl, rfl, rfl⟩ | ⟨j, len, rfl, h3, h4, rfl⟩
  ·refine ⟨.slice none 0 0, H, [], ?_, .inl ⟨rfl, rfl, rfl⟩, Nat.le_refl _, fun _ _ _ => rfl, fun j hj => (by cases hj)⟩
   subst hs
   unfold xappend
   cases x <;> first | (exact absurd rfl (hstr _)) | (simp only [hu, hx]; rw [if_pos ⟨h0, hz, by simp, by simp⟩]; first | rw [if_pos rfl] | rw [if_pos trivial])
  ·subst hs
   have hj := hget_lt h3
   refine ⟨.slice (some ⟨H.length, 0, none⟩) len len, H.set j none ++ [some ⟨cells, e, some (szt P e)⟩], [H.length], ?_, .inr ⟨H.length, len, rfl, ?_, by simpa using h4, rfl⟩, by simp, fun i hi hni => ?_, fun j hj => by simp at hj; omega⟩
   ·have hc : True ∧ 0 < szt P e ∧ (zer P e).map (·.cells.size) = some (szt P e) ∧ nro ≤ j ∧ True ∧ True ∧ len * szt P e ≤ cells.length ∧ (len * szt P e + 0) * byt P e ≤ 140737488355328 ∧ len * szt P e + 0 ≤ maxLen :=
     ⟨trivial, h0, hz, hnro j (by simp), trivial, trivial, by omega, by rw [← h4]; exact hb, by rw [← h4]; exact hm⟩
    have e2 : cells.take (len * szt P e) = cells := List.take_of_length_le (by omega)
    unfold xappend
    cases x <;> first | (exact absurd rfl (hstr _)) | (simp only [hu, hx, h3, List.length_nil]; rw [if_pos hc, e2]; simp)
   ·have : (H.set j none).length = H.length := by simp
    rw [← this, hget_app0, hget_cons0, List.append_nil]
   ·rw [hget_left (by simp; omega), hget_set_ne (fun e => hni (by simp [e]))]
 ·obtain ⟨v', H', h1, h2, h3, h4⟩ := ownF_append (P := P) (nro := nro) (t := t) hu hs h0 hz hv hnro hstr hx hn hd hb hm
  exact ⟨v', H', _, h1, h2, by omega, h4, fun j hj => by simp at hj; omega⟩
end
section
theorem rows_flat (C : List Value) (n : Nat) (h : n * 104 ≤ C.length) : ((List.range n).map fun i => (C.drop (i * 104)).take 104).flatten = C.take (n * 104) := by
 induction n with
 | zero => simp
 | succ n ih =>
  rw [List.range_succ, List.map_append, List.flatten_append, ih (by omega)]
  have e : (n + 1) * 104 = n * 104 + 104 := by omega
  rw [e, List.take_add]
  simp
def RAddQ (l : List NodeD) (id : List Int) (o : OpD) (H0 H : AH) (v' : Value) (H' : AH) : Prop :=
 Low H.length H H' ∧ ∃ sv, v' = .tuple #[sv, .int .i64 (addE l id o)] ∧ ((addE l id o = 0 ∧ ∀ G, Low H0.length H0 G → KeepN H.length H' G → NdV G sv (l ++ [addD l id o])) ∨ (addE l id o ≠ 0 ∧ sv = .slice none 0 0))
theorem RAddQ.bad {l : List NodeD} {id : List Int} {o : OpD} {H0 H H' : AH} {z : Int} (hl : Low H.length H H') (h : addE l id o = z) (hz : z ≠ 0) : RAddQ l id o H0 H (.tuple #[.slice none 0 0, .int .i64 z]) H' :=
 ⟨hl, _, by rw [h], .inr ⟨by rw [h]; exact hz, rfl⟩⟩
end
section
theorem helds_cells {H : AH} {v : Value} {l : List HeldD} (h : HdV H v l) (hw : ∀ x ∈ l, x.Wf) : ∃ R : List (List Value), R.length = l.length ∧ (∀ (k : Nat) (us : List Value) (x : HeldD), R[k]? = some us → l[k]? = some x → us.length = 104 ∧ ∀ G, Low H.length H G → ValL G x.row us) ∧ ∀ G, Low H.length H G → xcells 104 v G = some R.flatten := by
 have hN := h.hda hw
 have h2 := h
 unfold HdV at h
 generalize hd : CD.sl (l.map HeldD.row) = d at h
 cases h with
 | int => cases hd
 | str => cases hd
 | bool => cases hd
 | @nil a ha =>
  injection hd with hd
  have hl : l = [] := List.map_eq_nil_iff.1 hd
  subst hl
  refine ⟨[], rfl, fun k us x h => by simp at h, fun G hG => ?_⟩
  cases a with
  | none => rfl
  | some y =>
   obtain ⟨j, off, spot⟩ := y
   have hsp : spot = some 0 := ha _ rfl
   subst hsp
   rfl
 | @sl sz j b rows h1 h2' h3 h4 =>
  injection hd with hd
  subst hd
  have hle : l.length * 104 ≤ b.cells.length := by
   cases l with
   | nil => simp
   | cons x0 l0 =>
    have e1 := h3 x0.row (by simp)
    rw [held_row_len (hw x0 (by simp))] at e1
    subst e1
    simpa using h2'
  refine ⟨(List.range l.length).map fun i => (b.cells.drop (i * 104)).take 104, by simp, fun k us x hk hx => ?_, fun G hG => ?_⟩
  ·have hkl := (List.getElem?_eq_some_iff.1 hx).1
   rw [List.getElem?_map, List.getElem?_range hkl] at hk
   cases hk
   obtain ⟨j', b', us, hv, hb, hle', hx', hus, hul, hle2, hc, hval⟩ := val_at (P := Try.prog) (t := 58) (e := 60) (sz := 104) h2 (by kernel_rfl) (by kernel_rfl) (by omega) (fun row hr => by
    obtain ⟨y, hy, rfl⟩ := List.mem_map.1 hr
    exact held_row_len (hw y hy)) (i := k) (row := x.row) (by rw [List.getElem?_map, hx]; rfl)
   cases hv
   rw [h1] at hb
   cases hb
   refine ⟨by rw [hus] at hul; exact hul, fun G hG => ?_⟩
   have := hval.low (H' := G) hG.1
   rw [hus] at this
   exact this
  ·have hg := (hG.1 j (hget_lt h1)).trans h1
   rw [rows_flat _ _ hle, List.length_map]
   unfold xcells
   simp only [hg]
   rw [if_pos (by omega), List.drop_zero]
def RPutQ (l : List HeldD) (x : HeldD) (H0 H : AH) (v' : Value) (H' : AH) : Prop :=
 Low H.length H H' ∧ ∃ sv, v' = .tuple #[sv, .int .i64 (putE l x)] ∧ notTuple sv = true ∧ sv.cells = #[sv] ∧ ((putE l x = 0 ∧ ∀ G, Low H0.length H0 G → KeepN H.length H' G → HdV G sv (l ++ [x])) ∨ (putE l x ≠ 0 ∧ sv = .slice none 0 0))
theorem RPutQ.bad {l : List HeldD} {x : HeldD} {H0 H H' : AH} {z : Int} (hl : Low H.length H H') (h : putE l x = z) (hz : z ≠ 0) : RPutQ l x H0 H (.tuple #[.slice none 0 0, .int .i64 z]) H' :=
 ⟨hl, _, by rw [h], rfl, rfl, .inr ⟨by rw [h]; exact hz, rfl⟩⟩
attribute [local simp] wb_bool wb_undef with_lit XL_nil XL_cons XLc_val XLc_call step1_eq stepW_t stepW_f stepC_n stepC_s stepX_s stepX_n stepN_s calleeX xrecv oneV xop_eq xopR_s xopR_n wantedA_eq wantedG_n wantedG_s plain1_int plain1_bool plain1_string bits_i64 bits_u64 bits_u32 bits_u16 bits_u8 xeqA xagg xcmp xarr allK_iv num_iv calleeOf xread xeff xbin xint xnil xun xstr xload xconv xpart xfield xfieldAddr xindexAddr xindex bnd asInt? xslice xlen xmin xmax xbuild xfill xappend xapp2 xappstr xappmk xcap xcopy xcells eval_tmp eval_const put_at put_none fr0_at cells_agg cells_int cells_bool cells_string cells_ptr cells_slice notTuple tab iv_all hget_app hget_app0 hget_cons0 hget_cons set_app set_app0 setR setR_one QL_nil QL_cons QLc_val stepQ_t stepQ_f stepQC_n stepQC_s stepQX_s SL_nil SL_cons SLc_val stepS_t stepS_f ltT ltF leT leF eqT eqF ltTn ltFn leTn leFn eqTn eqFn beqT beqF bneT bneF wi64 wu64 wu32 wu16 wu8 tmodP tdivP hgetL hgetNe hgetEq setL nums_def nums_len Nat.succ_le_of_lt List.getElem?_cons_zero List.getElem?_cons_succ Option.getD_some Int.toNat_add Int.toNat_mul agM okM agB agI agS agP agL agA okB okI okS okP okSl okA
theorem qrPut_rc {γ : Nat → Option Nat} {H0 H : AH} {qv : Value} {l : List HeldD} {us : List Value} {x : HeldD} {pv wv bv kv : Value} (hV : HdV H0 qv l) (hwf : ∀ y ∈ l, y.Wf) (hC0 : HdC H0 us x pv wv bv kv) (hw : x.Wf) (hl : l.length ≤ maxLen) (hH : Low H0.length H0 H) : AC Try.prog H.length γ 38 #[qv, .agg us.toArray] H (RPutQ l x H0 H) := by
 have hQ := (hV.hda hwf).lowG hH
 have hC := hC0.low hH.1
 obtain ⟨R, hRl, hR, hRx⟩ := helds_cells hV hwf
 have q1 := hQ.nt
 have q2 := hQ.cs
 have hxl := hQ.len
 have hul := hC.len
 have hset : ∀ Z : List Value, Z.length = 104 → setR Z 0 us = us := fun Z hZ => setR_all _ _ (by omega)
 have hset2 : ∀ g : Nat → Value, setR (List.map g (List.range 104)) 0 us = us := fun g => hset _ (by simp)
 have hp0 : plain1 (.slice none 0 0) = true := rfl
 have htu : us.take 104 = us := List.take_of_length_le (by omega)
 have hivl : (iv .u8 x.id).length = 32 := by rw [iv_length, hw.id.1]
 have hid := hC.id
 have hcop := hC.op.len
 have k0 : putE l x = if (rightQ l && rightO x.op) = false then 1 else if 0 ≤ findIH l l.length x.id then 13 else if l.length = 24 then 8 else 0 := rfl
 refine ac_of_aw Try.func38 rfl Try.ntmps38 Try.results38 (by simp) ?_
 refine aw_seq ?_
 (refine aw_ops (by kernel_rfl) (fun K hK => ?_); simp (disch := first | omega | (simp only [lnS]; try omega)) [-getElem?_pos, -getElem?_neg, -notTuple, q1, q2, hul, nt_aggG, hp0, all_zl, hset, htu]; refine hK _ _ ?_; clear hK K)
 obtain ⟨lw, b3⟩ := boxed (H := H) us 60
 obtain ⟨n, hn0⟩ : ∃ n, n = H.length := ⟨_, rfl⟩
 have gl : (H ++ ([some ⟨us, 60, none⟩] : AH)).length = n + 1 := by simp [hn0]
 rw [← hn0] at b3 lw ⊢
 have hH2 := hH.2
 generalize H ++ [some ⟨us, 60, none⟩] = G at *
 have hQG := hQ.lowG (hn0 ▸ lw)
 have hCG : HdC G us x pv wv bv kv := hC.low (fun j hj => lw.1 j (by omega))
 have qr := qrRight_rc (γ := γ) hQG hl
 have ro := rRight_rc (γ := γ) hCG.op hw.op
 rw [refO_eq] at ro
 have fi := qrFind_rc (γ := γ) hQG hl hw.id.1
 refine aw_seq ?_
 refine aw_seq ?_
 refine aw_cut (fun α G2 => α 15 = .bool (!(rightQ l && rightO x.op)) ∧ α 0 = qv ∧ α 3 = .pointer (some ⟨n, 0, none⟩) ∧ G2 = G) ?_ ?_
 ·refine aw_ops (by kernel_rfl) (fun K hK => ?_)
  simp (disch := first | omega | (simp only [lnS]; try omega)) [-getElem?_pos, -getElem?_neg, -notTuple, q1, q2, nt_intG]
  refine ⟨by kernel_rfl, ac_of_rc qr (by simp [pv_iv, pv_int, pv_bool, pv_string, pv_tup2, pv_tup3, iv_plain, p2_int, p2_bool, p2_string]) ?_⟩
  cases hq : rightQ l with
  | false =>
   try simp (disch := first | omega | (simp only [lnS]; try omega)) [-getElem?_pos, -getElem?_neg]
   refine hK _ _ ?_; clear hK K
   exact ⟨by rw [hq]; (first | (simp [put_at, put_none, fr0_at]; done) | rfl), by (first | (simp [put_at, put_none, fr0_at]; done) | rfl), by (first | (simp [put_at, put_none, fr0_at]; done) | rfl), rfl⟩
  | true =>
   simp (disch := first | omega | (simp only [lnS]; try omega)) [-getElem?_pos, -getElem?_neg, b3, hul, hcop, nt_intG, nt_aggG]
   refine ⟨by kernel_rfl, ac_of_rc ro (by simp [pv_iv, pv_int, pv_bool, pv_string, pv_tup2, pv_tup3, iv_plain, p2_int, p2_bool, p2_string]) ?_⟩
   try simp (disch := first | omega | (simp only [lnS]; try omega)) [-getElem?_pos, -getElem?_neg]
   refine hK _ _ ?_; clear hK K
   exact ⟨by rw [hq]; (first | (simp [put_at, put_none, fr0_at]; done) | rfl), by (first | (simp [put_at, put_none, fr0_at]; done) | rfl), by (first | (simp [put_at, put_none, fr0_at]; done) | rfl), rfl⟩
 rintro α G2 ⟨q15, q0, q3, rfl⟩
 cases hb : (rightQ l && rightO x.op) with
 | false =>
  rw [hb] at q15
  refine aw_t (by (first | (simp [eval_tmp, put_at, q15]; done) | (simp [eval_tmp, put_at, q15]; omega))) (by kernel_rfl) ?_
  refine aw_seq ?_
  (refine aw_ops (by kernel_rfl) (fun K hK => ?_); simp (disch := first | omega | (simp only [lnS]; try omega)) [-getElem?_pos, -getElem?_neg, nt_slG, nt_intG]; refine hK _ _ ?_; clear hK K)
  (refine aw_ret ?_; simp (disch := first | omega | (simp only [lnS]; try omega)) [-getElem?_pos, -getElem?_neg, thenQ_ret, scopeQ_ret, inBlockQ_ret, RQ, resL, resV])
  exact RPutQ.bad (hn0 ▸ lw) (by rw [k0, hb, if_pos rfl]) (by decide)
 | true =>
 rw [hb] at q15
 rw [hb, if_neg (by simp)] at k0
 refine aw_f (by (first | (simp [eval_tmp, put_at, q15]; done) | (simp [eval_tmp, put_at, q15]; omega))) (by kernel_rfl) ?_
 refine aw_skip ?_
 obtain ⟨hq, hro⟩ := Bool.and_eq_true_iff.1 hb
 refine aw_seq ?_
 refine aw_seq ?_
 refine aw_ops (by kernel_rfl) (fun K hK => ?_)
 simp (disch := first | omega | (simp only [lnS]; try omega)) [-getElem?_pos, -getElem?_neg, q0, q3, b3, hul, hid, hivl, -notTuple, q1, q2, nt_intG, nt_aggG]
 refine ⟨by kernel_rfl, ac_of_rc fi (by simp [pv_iv, pv_int, pv_bool, pv_string, pv_tup2, pv_tup3, iv_plain, p2_int, p2_bool, p2_string]) ?_⟩
 generalize findIH l l.length x.id = f at *
 by_cases hf : 0 ≤ f
 ·rw [if_pos hf] at k0
  try simp (disch := first | omega | (simp only [lnS]; try omega)) [-getElem?_pos, -getElem?_neg, hf]
  refine hK _ _ ?_; clear hK K
  refine aw_t (by (first | (simp [eval_tmp, put_at]; done) | (simp [eval_tmp, put_at]; omega))) (by kernel_rfl) ?_
  refine aw_seq ?_
  (refine aw_ops (by kernel_rfl) (fun K hK => ?_); simp (disch := first | omega | (simp only [lnS]; try omega)) [-getElem?_pos, -getElem?_neg, nt_slG, nt_intG]; refine hK _ _ ?_; clear hK K)
  (refine aw_ret ?_; simp (disch := first | omega | (simp only [lnS]; try omega)) [-getElem?_pos, -getElem?_neg, thenQ_ret, scopeQ_ret, inBlockQ_ret, RQ, resL, resV])
  exact RPutQ.bad (hn0 ▸ lw) k0 (by decide)
 rw [if_neg hf] at k0
 try simp (disch := first | omega | (simp only [lnS]; try omega)) [-getElem?_pos, -getElem?_neg, hf]
 refine hK _ _ ?_; clear hK K
 refine aw_f (by (first | (simp [eval_tmp, put_at]; done) | (simp [eval_tmp, put_at]; omega))) (by kernel_rfl) ?_
 refine aw_skip ?_
 refine aw_seq ?_
 refine aw_seq ?_
 by_cases h24 : l.length = 24
 ·have h24b : ((l.length : Int) == 24) = true := by rw [beq_iff_eq]; omega
  have h24i : (l.length : Int) = 24 := by omega
  rw [if_pos h24] at k0
  (refine aw_ops (by kernel_rfl) (fun K hK => ?_); simp (disch := first | omega | (simp only [lnS]; try omega)) [-getElem?_pos, -getElem?_neg, q0, -notTuple, q1, q2, nt_intG, -xlen, hxl, h24i, h24b]; refine hK _ _ ?_; clear hK K)
  refine aw_t (by (first | (simp [eval_tmp, put_at]; done) | (simp [eval_tmp, put_at]; omega))) (by kernel_rfl) ?_
  refine aw_seq ?_
  (refine aw_ops (by kernel_rfl) (fun K hK => ?_); simp (disch := first | omega | (simp only [lnS]; try omega)) [-getElem?_pos, -getElem?_neg, nt_slG, nt_intG]; refine hK _ _ ?_; clear hK K)
  (refine aw_ret ?_; simp (disch := first | omega | (simp only [lnS]; try omega)) [-getElem?_pos, -getElem?_neg, thenQ_ret, scopeQ_ret, inBlockQ_ret, RQ, resL, resV])
  exact RPutQ.bad (hn0 ▸ lw) k0 (by decide)
 have h24b : ((l.length : Int) == 24) = false := by rw [beq_eq_false_iff_ne]; omega
 have h24i : ¬ (l.length : Int) = 24 := by omega
 rw [if_neg h24] at k0
 (refine aw_ops (by kernel_rfl) (fun K hK => ?_); simp (disch := first | omega | (simp only [lnS]; try omega)) [-getElem?_pos, -getElem?_neg, q0, -notTuple, q1, q2, nt_intG, -xlen, hxl, h24i, h24b]; refine hK _ _ ?_; clear hK K)
 refine aw_f (by (first | (simp [eval_tmp, put_at]; done) | (simp [eval_tmp, put_at]; omega))) (by kernel_rfl) ?_
 refine aw_skip ?_
 have hl24 := rightQ_len hq
 have hRlen : ∀ r ∈ R, r.length = 104 := fun r hr' => by
  obtain ⟨k, hk⟩ := List.getElem?_of_mem hr'
  have hkl := (List.getElem?_eq_some_iff.1 hk).1
  exact (hR k r _ hk (List.getElem?_eq_getElem (show k < l.length by omega))).1
 have hRf := fl_len hRlen
 rw [hRl] at hRf
 have hnvs : ∀ s, qv ≠ .string s := fun s e => by rw [e] at hxl; simp [xlen] at hxl
 have hln1 := lw.2
 have hlH0 : Low H0.length H0 G2 := ⟨fun j hj => (lw.1 j (by omega)).trans (hH.1 j hj), by omega⟩
 obtain ⟨w1, A1, F1, ap1, o1, le1, kp1, nf1⟩ := ownF_app (P := Try.prog) (nro := n) (t := 58) (e := 60) (H := G2) (v := .slice none 0 0) (x := qv) (sz := 104) (cells := []) (news := R.flatten) (F := []) (by simp) (by simp) (by omega) (by simp) (.inl ⟨rfl, rfl, rfl⟩) (fun j hj => by cases hj) hnvs (hRx G2 hlH0) (by rw [hRf]; omega) (by rw [hRf]; simp; omega) (by rw [hRf]; simp only [List.length_nil, maxLen]; omega)
 rw [List.nil_append] at o1
 obtain ⟨w11, w12⟩ := own_nt o1
 have k3 : hget A1 n = _ := (kp1 n (by have := hget_lt b3; omega) (by simp)).trans b3
 refine aw_seq ?_
 (refine aw_ops (by kernel_rfl) (fun K hK => ?_); simp (disch := first | omega | (simp only [lnS]; try omega)) [-getElem?_pos, -getElem?_neg]; refine hK _ _ ?_; clear hK K)
 refine aw_seq ?_
 (refine aw_ops (by kernel_rfl) (fun K hK => ?_); simp (disch := first | omega | (simp only [lnS]; try omega)) [-getElem?_pos, -getElem?_neg, q0, -notTuple, q1, q2, nt_slG, -xappend, ap1]; refine hK _ _ ?_; clear hK K)
 have hxc : xcells 104 (.slice (some ⟨A1.length, 0, none⟩) 1 1) (A1 ++ [some ⟨us, 60, some 104⟩]) = some us := by simp [xcells, hget_app0, hul, htu]
 obtain ⟨w2, A2, ap2, o2, le2, kp2⟩ := ownF_append (P := Try.prog) (nro := n) (t := 58) (e := 60) (H := A1 ++ ([some ⟨us, 60, some 104⟩] : AH)) (v := w1) (x := .slice (some ⟨A1.length, 0, none⟩) 1 1) (sz := 104) (cells := R.flatten) (news := us) (F := F1) (by simp) (by simp) (by omega) (by simp) (o1.low (fun j hj => hget_left (o1.lt j hj)))
  (fun j hj => by have := nf1 j hj; omega) (fun s e => by cases e) hxc (fun e => by rw [e] at hul; simp at hul) (by rw [hul]) (by rw [hRf, hul]; simp; omega) (by rw [hRf, hul]; simp only [maxLen]; omega)
 obtain ⟨w21, w22⟩ := own_nt o2
 refine aw_seq ?_
 (refine aw_ops (by kernel_rfl) (fun K hK => ?_); simp (disch := first | omega | (simp only [lnS]; try omega)) [-getElem?_pos, -getElem?_neg, q3, k3, hul, htu, hset2, hp0, -notTuple, w11, w12, w21, w22, nt_intG, nt_slG, nt_aggG, -xappend, ap2]; refine hK _ _ ?_; clear hK K)
 (refine aw_ret ?_; simp (disch := first | omega | (simp only [lnS]; try omega)) [-getElem?_pos, -getElem?_neg, thenQ_ret, scopeQ_ret, inBlockQ_ret, RQ, resL, resV])
 have hBl : (A1 ++ ([some ⟨us, 60, some 104⟩] : AH)).length = A1.length + 1 := by simp
 rw [hBl] at o2 le2 kp2
 have kp : ∀ j, j < G2.length → hget A2 j = hget G2 j := fun j hj => (kp2 j (by omega) (fun h => by have := nf1 j h; omega)).trans ((hget_left (by omega)).trans (kp1 j hj (by simp)))
 obtain ⟨len, hw2⟩ := o2.new
 have hnew : len = l.length + 1 ∧ hget A2 (A1.length + 1) = some ⟨R.flatten ++ us, 60, some 104⟩ := by
  rcases o2 with ⟨h, _, _⟩ | ⟨i, k, he, h2, h3, _⟩
  ·rw [hw2] at h; cases h
  ·rw [hw2] at he
   cases he
   rw [List.length_append, hRf, hul] at h3
   exact ⟨by omega, h2⟩
 obtain ⟨rfl, hnew⟩ := hnew
 refine ⟨_, ⟨w21, rfl⟩, ?_⟩
 refine ⟨⟨fun j hj => (kp j (by omega)).trans (lw.1 j (by omega)), by omega⟩, w2, by rw [k0], w21, w22, .inl ⟨k0, fun D hD0 hD => ?_⟩⟩
 have hrowD : ValL D x.row us := by
  have h := hC0.low hD0.1
  rw [h.row hw]
  exact held_val h.op.parents h.op.who h.op.boxes h.got
 have hwfx : ∀ y ∈ l ++ [x], y.Wf := fun y hy => by
  rcases List.mem_append.1 hy with hy | hy
  ·exact hwf y hy
  ·rw [List.mem_singleton] at hy; subst hy; exact hw
 have hfin := rows_valH (D := D) (b := A1.length + 1) (T := 60) (es := some 104) (R := R ++ [us]) (L := l ++ [x]) (by rw [hD (A1.length + 1) (by omega) (by omega), hnew]; simp) (by simp [hRl]) hwfx (fun k us' y hk hy => by
  rcases Nat.lt_or_ge k l.length with hkl | hkl
  ·rw [List.getElem?_append_left (by rw [hRl]; exact hkl)] at hk
   rw [List.getElem?_append_left hkl] at hy
   have := hR k us' y hk hy
   exact ⟨this.1, this.2 D hD0⟩
  ·rw [List.getElem?_append_right (by rw [hRl]; exact hkl), hRl] at hk
   rw [List.getElem?_append_right hkl] at hy
   match k - l.length, hk, hy with
   | 0, hk, hy => cases hk; cases hy; exact ⟨hul, hrowD⟩)
 rw [List.length_append] at hfin
 rw [hw2]
 exact hfin
end
section
attribute [local simp] wb_bool wb_undef with_lit XL_nil XL_cons XLc_val XLc_call step1_eq stepW_t stepW_f stepC_n stepC_s stepX_s stepX_n stepN_s calleeX xrecv oneV xop_eq xopR_s xopR_n wantedA_eq wantedG_n wantedG_s plain1_int plain1_bool plain1_string bits_i64 bits_u64 bits_u32 bits_u16 bits_u8 xeqA xagg xcmp xarr allK_iv num_iv calleeOf xread xeff xbin xint xnil xun xstr xload xconv xpart xfield xfieldAddr xindexAddr xindex bnd asInt? xslice xlen xmin xmax xbuild xfill xappend xapp2 xappstr xappmk xcap xcopy xcells eval_tmp eval_const put_at put_none fr0_at cells_agg cells_int cells_bool cells_string cells_ptr cells_slice notTuple tab iv_all hget_app hget_app0 hget_cons0 hget_cons set_app set_app0 setR setR_one QL_nil QL_cons QLc_val stepQ_t stepQ_f stepQC_n stepQC_s stepQX_s SL_nil SL_cons SLc_val stepS_t stepS_f ltT ltF leT leF eqT eqF ltTn ltFn leTn leFn eqTn eqFn beqT beqF bneT bneF wi64 wu64 wu32 wu16 wu8 tmodP tdivP hgetL hgetNe hgetEq setL nums_def nums_len Nat.succ_le_of_lt List.getElem?_cons_zero List.getElem?_cons_succ Option.getD_some Int.toNat_add Int.toNat_mul agM okM agB agI agS agP agL agA okB okI okS okP okSl okA
theorem want1_rc {γ : Nat → Option Nat} {H : AH} {a b : List Int} (ha : a.length = 32) (hb : b.length = 32) : AC Try.prog H.length γ 100 #[.agg (iv .u8 a).toArray, .agg (iv .u8 b).toArray] H (fun v' _ => v' = .int .i64 (cmpL a b)) := by
 have hla : (iv .u8 a).length = 32 := by rw [iv_length, ha]
 have hlb : (iv .u8 b).length = 32 := by rw [iv_length, hb]
 refine ac_of_aw Try.func100 rfl Try.ntmps100 Try.results100 (by simp) ?_
 refine aw_seq ?_
 (refine aw_ops (by kernel_rfl) (fun K hK => ?_); simp (disch := first | omega | (simp only [lnS]; try omega)) [-getElem?_pos, -getElem?_neg, hla, hlb]; refine hK _ _ ?_; clear hK K)
 obtain ⟨G, hG⟩ : ∃ G : AH, G = H ++ [some ⟨iv .u8 a, 38, none⟩, some ⟨iv .u8 b, 38, none⟩] := ⟨_, rfl⟩
 have g0 : hget G H.length = some ⟨iv .u8 a, 38, none⟩ := by rw [hG, hget_app0]; rfl
 have g1 : hget G (H.length + 1) = some ⟨iv .u8 b, 38, none⟩ := by rw [hG, hget_app]; rfl
 rw [← hG]
 clear hG
 refine aw_seq ?_
 (refine aw_plan [] [] [0, 1, 2, 3] 4 0 (by kernel_rfl) (by kernel_rfl) (by kernel_rfl) (fun K hK => ?_)); simp only [sel, List.getElem?_cons_succ, List.getElem?_cons_zero, List.drop_succ_cons, List.drop_zero]; simp (disch := first | omega | (simp only [lnS]; try omega)) [-getElem?_pos, -getElem?_neg, g0, g1, hla, hlb, PL_nil, plainB_lit, PL_cons, PLc_val, PLc_new, stepP_t, stepP_f, stepPC_n, stepPC_s, stepPX_s, stepPX_n, stepPV_n, stepPV_s, stepPA_t, stepPA_c, stepPA_l, stepPN_s, allocOp, reloc_sl, reloc_ptr, List.map_cons, List.map_nil, List.nil_append, List.append_assoc, List.cons_append, Nat.add_assoc]
 refine PLc_call (v := .int .i64 (cmpL a b)) (by kernel_rfl) (fun L hL => ?_) (by simp [pv_iv, pv_int, pv_bool, pv_string, pv_tup2, pv_tup3, iv_plain, p2_int, p2_bool, p2_string]) ?_
 ·exact (compare_ac (hget_left' g0) (hget_left' g1) ha hb).mono fun v' H' h => h.1
 simp (disch := first | omega | (simp only [lnS]; try omega)) [-getElem?_pos, -getElem?_neg, PL_nil, plainB_lit, PL_cons, PLc_val, PLc_new, stepP_t, stepP_f, stepPC_n, stepPC_s, stepPX_s, stepPX_n, stepPV_n, stepPV_s, stepPA_t, stepPA_c, stepPA_l, stepPN_s, allocOp, reloc_sl, reloc_ptr, List.map_cons, List.map_nil, List.nil_append, List.append_assoc, List.cons_append, Nat.add_assoc]
 refine hK _ _ ?_; clear hK K
 (refine aw_ret ?_; simp (disch := first | omega | (simp only [lnS]; try omega)) [-getElem?_pos, -getElem?_neg, thenQ_ret, scopeQ_ret, inBlockQ_ret, RQ, resL, resV])
theorem want1_callable : callable Try.prog 100 = true := by kernel_rfl
theorem insertionW_ac {nro : Nat} {γ : Nat → Option Nat} {H : AH} {b n : Nat} {ids : List (List Int)} (hb : hget H b = some ⟨kr ids, 38, some 32⟩) (hn : ids.length = n) (hk : K32 ids) (hy : ∀ k ∈ ids, By k) (hnd : ids.Nodup) (hle : n ≤ 100) (hnro : nro ≤ b) :
  AC Try.prog nro γ 160 #[.slice (some ⟨b, 0, none⟩) n n, .int .i64 0, .int .i64 (n : Nat), .func (.func 100) #[] #[]] H (SortQ b ids H) := by
 have hbl := hget_lt hb
 refine ac_of_aw Try.func160 rfl Try.ntmps160 Try.results160 (by simp) ?_
 refine aw_seq ?_
 (refine aw_ops (by kernel_rfl) (fun K hK => ?_); simp (disch := first | omega | (simp only [lnS]; try omega)) [-getElem?_pos, -getElem?_neg]; refine hK _ _ ?_; clear hK K)
 refine aw_block ?_
 refine aw_loop (fun c α G => ∃ (i : Nat) (S : List (List Int)), 1 ≤ i ∧ i + c = n + 1 ∧ α 0 = .slice (some ⟨b, 0, none⟩) n n ∧ α 1 = .int .i64 0 ∧ α 2 = .int .i64 (n : Nat) ∧ α 3 = .func (.func 100) #[] #[] ∧ α 8 = .int .i64 (i : Nat) ∧ hget G b = some ⟨kr (S ++ ids.drop i), 38, some 32⟩ ∧ Oth b H G ∧ S.Perm (ids.take i) ∧ Rise S) n ?_ ?_
 ·refine ⟨1, ids.take 1, by omega, by omega, by (first | (simp [put_at, put_none, fr0_at]; done) | rfl), by (first | (simp [put_at, put_none, fr0_at]; done) | rfl), by (first | (simp [put_at, put_none, fr0_at]; done) | rfl), by (first | (simp [put_at, put_none, fr0_at]; done) | rfl), by (first | (simp [put_at, put_none, fr0_at]; done) | rfl), by rw [List.take_append_drop]; exact hb, ⟨Nat.le_refl _, fun _ _ _ => rfl⟩, .refl _, ?_⟩
  cases ids with
  | nil => exact List.Pairwise.nil
  | cons k l => simp
 rintro c α G ⟨i, S, hi1, hic, h0, h1, h2, h3, h8, hbG, hoth, hperm, hrise⟩
 refine aw_seq ?_
 refine aw_seq ?_
 by_cases hi : i < n
 case neg =>
  (refine aw_ops (by kernel_rfl) (fun K hK => ?_); simp (disch := first | omega | (simp only [lnS]; try omega)) [-getElem?_pos, -getElem?_neg, h8, h2, hi]; refine hK _ _ ?_; clear hK K)
  refine aw_f (by (first | (simp [eval_tmp, put_at, hi]; done) | (simp [eval_tmp, put_at, hi]; omega))) (by kernel_rfl) ?_
  refine aw_exit ?_
  have e1 : ids.take i = ids := List.take_of_length_le (by omega)
  have e2 : ids.drop i = [] := List.drop_of_length_le (by omega)
  rw [e1] at hperm
  rw [e2, List.append_nil, sortK_eq hperm hrise] at hbG
  exact ⟨[], _, rfl, rfl, hbG, hoth⟩
 (refine aw_ops (by kernel_rfl) (fun K hK => ?_); simp (disch := first | omega | (simp only [lnS]; try omega)) [-getElem?_pos, -getElem?_neg, h8, h2, hi]; refine hK _ _ ?_; clear hK K)
 refine aw_t (by (first | (simp [eval_tmp, put_at, hi]; done) | (simp [eval_tmp, put_at, hi]; omega))) (by kernel_rfl) ?_
 refine aw_skip ?_
 refine aw_seq ?_
 refine aw_block ?_
 refine aw_seq ?_
 (refine aw_ops (by kernel_rfl) (fun K hK => ?_); simp (disch := first | omega | (simp only [lnS]; try omega)) [-getElem?_pos, -getElem?_neg, h8]; refine hK _ _ ?_; clear hK K)
 obtain ⟨x, hx⟩ : ∃ x, ids[i]? = some x := ⟨_, List.getElem?_eq_getElem (by omega)⟩
 have hxm := List.mem_of_getElem? hx
 have hx32 := hk x hxm
 have hxb := hy x hxm
 have hdi : ids.drop i = x :: ids.drop (i + 1) := by
  obtain ⟨hl, e⟩ := List.getElem?_eq_some_iff.1 hx
  rw [List.drop_eq_getElem_cons hl, e]
 have htk : ids.take (i + 1) = ids.take i ++ [x] := by rw [List.take_add_one, hx]; rfl
 have hSl : S.length = i := by rw [hperm.length_eq, List.length_take]; omega
 have hSm : ∀ s ∈ S, s ∈ ids := fun s hs => List.mem_of_mem_take (hperm.mem_iff.1 hs)
 have hxS : x ∉ S := fun h => by
  have h2 := hperm.mem_iff.1 h
  have hnd2 : (ids.take i ++ [x]).Nodup := by rw [← htk]; exact hnd.sublist (List.take_sublist _ _)
  exact (List.pairwise_append.1 hnd2).2.2 x h2 x (by simp) rfl
 refine aw_block ?_
 refine aw_loop (fun c2 α G => c2 ≤ i ∧ α 0 = .slice (some ⟨b, 0, none⟩) n n ∧ α 1 = .int .i64 0 ∧ α 2 = .int .i64 (n : Nat) ∧ α 3 = .func (.func 100) #[] #[] ∧ α 8 = .int .i64 (i : Nat) ∧ α 9 = .int .i64 (c2 : Nat) ∧ hget G b = some ⟨kr (S.take c2 ++ x :: S.drop c2 ++ ids.drop (i + 1)), 38, some 32⟩ ∧ Oth b H G ∧ ∀ s ∈ S.drop c2, x < s) i ?_ ?_
 ·refine ⟨Nat.le_refl _, by (first | (simp [put_at, put_none, fr0_at, h0]; done) | rfl), by (first | (simp [put_at, put_none, fr0_at, h1]; done) | rfl), by (first | (simp [put_at, put_none, fr0_at, h2]; done) | rfl), by (first | (simp [put_at, put_none, fr0_at, h3]; done) | rfl), by (first | (simp [put_at, put_none, fr0_at, h8]; done) | rfl), by (first | (simp [put_at, put_none, fr0_at]; done) | rfl), ?_, hoth, ?_⟩
  ·rw [hbG, hdi, List.take_of_length_le (l := S) (by omega), List.drop_of_length_le (l := S) (by omega)]
   simp
  ·rw [List.drop_of_length_le (l := S) (by omega)]
   simp
 rintro j α G ⟨hji, h0, h1, h2, h3, h8, h9, hbG, hoth, hgt⟩
 have hLm : ∀ k ∈ S.take j ++ x :: S.drop j ++ ids.drop (i + 1), k ∈ ids := fun k hm => by
  simp only [List.mem_append, List.mem_cons] at hm
  rcases hm with (hm | rfl | hm) | hm
  ·exact hSm k (List.mem_of_mem_take hm)
  ·exact hxm
  ·exact hSm k (List.mem_of_mem_drop hm)
  ·exact List.mem_of_mem_drop hm
 have hLk : K32 (S.take j ++ x :: S.drop j ++ ids.drop (i + 1)) := fun k hm => hk k (hLm k hm)
 have hLn : (S.take j ++ x :: S.drop j ++ ids.drop (i + 1)).length = n := by simp; omega
 have hLj : (S.take j ++ x :: S.drop j ++ ids.drop (i + 1))[j]? = some x := by
  rw [List.append_assoc, List.getElem?_append_right (by rw [List.length_take]; omega), List.length_take]
  rw [show j - min j S.length = 0 by omega]
  rfl
 have hend : ∀ s, j ≠ 0 → S[j - 1]? = some s → ¬ x < s → True := fun _ _ _ _ => trivial
 refine aw_seq ?_
 refine aw_seq ?_
 have hexit : (∀ s, j ≠ 0 → S[j - 1]? = some s → ¬ x < s) → (S.take j ++ x :: S.drop j).Perm (ids.take (i + 1)) ∧ Rise (S.take j ++ x :: S.drop j) := fun hle => by
  refine ⟨?_, rise_put hrise (by omega) hgt hle hxS⟩
  rw [htk]
  exact (put_perm x j).trans (hperm.append_right _)
 by_cases hj0 : j = 0
 ·subst hj0
  obtain ⟨hp2, hr2⟩ := hexit (fun s h => absurd rfl h)
  (refine aw_plan [] [] [0, 1, 2, 3, 4, 5, 6, 7, 8, 9, 10, 11, 12, 13, 14, 15, 16] 17 0 (by kernel_rfl) (by kernel_rfl) (by kernel_rfl) (fun K hK => ?_)); simp only [sel, List.getElem?_cons_succ, List.getElem?_cons_zero, List.drop_succ_cons, List.drop_zero]; simp (disch := first | omega | (simp only [lnS]; try omega)) [-getElem?_pos, -getElem?_neg, h9, h1, PL_nil, plainB_lit, PL_cons, PLc_val, PLc_new, stepP_t, stepP_f, stepPC_n, stepPC_s, stepPX_s, stepPX_n, stepPV_n, stepPV_s, stepPA_t, stepPA_c, stepPA_l, stepPN_s, allocOp, reloc_sl, reloc_ptr, List.map_cons, List.map_nil, List.nil_append, List.append_assoc, List.cons_append, Nat.add_assoc]
  refine hK _ _ ?_; clear hK K
  refine aw_f (by (first | (simp [eval_tmp, put_at]; done) | (simp [eval_tmp, put_at]; omega))) (by kernel_rfl) ?_
  refine aw_exit ?_
  (refine aw_ops (by kernel_rfl) (fun K hK => ?_); simp (disch := first | omega | (simp only [lnS]; try omega)) [-getElem?_pos, -getElem?_neg, h8]; refine hK _ _ ?_; clear hK K)
  exact ⟨c - 1, by omega, i + 1, _, by omega, by omega, by (first | (simp [put_at, put_none, fr0_at, h0]; done) | rfl), by (first | (simp [put_at, put_none, fr0_at, h1]; done) | rfl), by (first | (simp [put_at, put_none, fr0_at, h2]; done) | rfl), by (first | (simp [put_at, put_none, fr0_at, h3]; done) | rfl), by (first | (simp [put_at, put_none, fr0_at]; done) | rfl), hbG, hoth, hp2, hr2⟩
 obtain ⟨s, hs⟩ : ∃ s, S[j - 1]? = some s := ⟨_, List.getElem?_eq_getElem (by omega)⟩
 have hsm := hSm s (List.mem_of_getElem? hs)
 have hs32 := hk s hsm
 have hsb := hy s hsm
 have hsub : (j : Int) - 1 = ((j - 1 : Nat) : Int) := by omega
 have hLj1 : (S.take j ++ x :: S.drop j ++ ids.drop (i + 1))[j - 1]? = some s := by
  rw [List.append_assoc, List.getElem?_append_left (by rw [List.length_take]; omega), List.getElem?_take_of_lt (by omega), hs]
 have a0 := kr_addr (b := b) (show j < n by omega)
 have a1 := kr_addr (b := b) (show j - 1 < n by omega)
 have l0 := kr_load hLk hLj hbG
 have l1 := kr_load hLk hLj1 hbG
 have hcall := want1_rc (γ := γ) (H := G) hx32 hs32
 have hlt := cmpL_lt hxb hsb (by omega)
 have hjp : 0 < j := by omega
 have hfn : notTuple (.func (.func 100) #[] #[]) = true := rfl
 have hfc : (Value.func (.func 100) #[] #[]).cells = #[.func (.func 100) #[] #[]] := rfl
 have t1 := kr_set hLk (j := j) (k := s) (by omega) hs32
 have hLk2 : K32 ((S.take j ++ x :: S.drop j ++ ids.drop (i + 1)).set j s) := fun k hm => by
  rcases List.mem_or_eq_of_mem_set hm with h | rfl
  ·exact hLk k h
  ·exact hs32
 have t2 := kr_set hLk2 (j := j - 1) (k := x) (by rw [List.length_set]; omega) hx32
 have hLs : ((S.take j ++ x :: S.drop j ++ ids.drop (i + 1)).set j s).set (j - 1) x = S.take (j - 1) ++ x :: S.drop (j - 1) ++ ids.drop (i + 1) := by
  have e1 : S.take j = S.take (j - 1) ++ [s] := by
   have := List.take_add_one (l := S) (i := j - 1)
   rwa [show j - 1 + 1 = j by omega, hs] at this
  have e2 : S.drop (j - 1) = s :: S.drop j := by
   obtain ⟨hl, e⟩ := List.getElem?_eq_some_iff.1 hs
   rw [List.drop_eq_getElem_cons hl, e, show j - 1 + 1 = j by omega]
  have e3 : (S.take (j - 1)).length = j - 1 := by rw [List.length_take]; omega
  rw [e1, e2]
  obtain ⟨A, hA⟩ : ∃ A, A = S.take (j - 1) := ⟨_, rfl⟩
  rw [← hA] at e3 ⊢
  obtain ⟨m, rfl⟩ : ∃ m, j = m + 1 := ⟨j - 1, by omega⟩
  simp only [Nat.add_sub_cancel] at e3 ⊢
  rw [List.append_assoc, List.append_assoc, List.append_assoc, List.set_append_right _ _ (by omega), List.set_append_right _ _ (by omega), e3]
  simp
 rw [hLs] at t2
 have hgl : (kr (S.take j ++ x :: S.drop j ++ ids.drop (i + 1))).length = n * 32 := by rw [kr_len hLk, hLn]
 have hgl2 : (kr ((S.take j ++ x :: S.drop j ++ ids.drop (i + 1)).set j s)).length = n * 32 := by rw [kr_len hLk2, List.length_set, hLn]
 generalize hL : S.take j ++ x :: S.drop j ++ ids.drop (i + 1) = L at t1 t2 hgl hgl2 hbG
 have hdj : S.drop (j - 1) = s :: S.drop j := by
  obtain ⟨hl, e⟩ := List.getElem?_eq_some_iff.1 hs
  rw [List.drop_eq_getElem_cons hl, e, show j - 1 + 1 = j by omega]
 generalize hL3 : S.take (j - 1) ++ x :: S.drop (j - 1) ++ ids.drop (i + 1) = L3 at t2
 (refine aw_plan [] [] [0, 1, 2, 3, 4, 5, 6, 7, 8, 9, 10, 11, 12, 13, 14, 15, 16] 17 0 (by kernel_rfl) (by kernel_rfl) (by kernel_rfl) (fun K hK => ?_)); simp only [sel, List.getElem?_cons_succ, List.getElem?_cons_zero, List.drop_succ_cons, List.drop_zero]; simp (disch := first | omega | (simp only [lnS]; try omega)) [-getElem?_pos, -getElem?_neg, h0, h1, h3, h9, hjp, hsub, hfn, hfc, nt_ptrG, nt_intG, nt_slG, -xload, l0, l1, -xindexAddr, a0, a1, PL_nil, plainB_lit, PL_cons, PLc_val, PLc_new, stepP_t, stepP_f, stepPC_n, stepPC_s, stepPX_s, stepPX_n, stepPV_n, stepPV_s, stepPA_t, stepPA_c, stepPA_l, stepPN_s, allocOp, reloc_sl, reloc_ptr, List.map_cons, List.map_nil, List.nil_append, List.append_assoc, List.cons_append, Nat.add_assoc]
 refine PLc_callV (v := .int .i64 (cmpL x s)) want1_callable (by simpa using hcall) (by simp [pv_iv, pv_int, pv_bool, pv_string, pv_tup2, pv_tup3, iv_plain, p2_int, p2_bool, p2_string]) ?_
 have hbl2 := hget_lt hbG
 by_cases hc : cmpL x s < 0
 ·have hxs : x < s := hlt.1 hc
  have hc2 : ¬ 0 ≤ cmpL x s := by omega
  simp (disch := first | omega | (simp only [lnS]; try omega)) [-getElem?_pos, -getElem?_neg, hc, hc2, PL_nil, plainB_lit, PL_cons, PLc_val, PLc_new, stepP_t, stepP_f, stepPC_n, stepPC_s, stepPX_s, stepPX_n, stepPV_n, stepPV_s, stepPA_t, stepPA_c, stepPA_l, stepPN_s, allocOp, reloc_sl, reloc_ptr, List.map_cons, List.map_nil, List.nil_append, List.append_assoc, List.cons_append, Nat.add_assoc]
  refine hK _ _ ?_; clear hK K
  refine aw_t (by (first | (simp [eval_tmp, put_at, hc]; done) | (simp [eval_tmp, put_at, hc]; omega))) (by kernel_rfl) ?_
  refine aw_skip ?_
  refine aw_seq ?_
  refine aw_block ?_
  (refine aw_plan [] [2, 3, 4] [0, 1, 5, 6, 7, 8, 9, 10, 11, 12, 13, 14] 15 3 (by kernel_rfl) (by kernel_rfl) (by kernel_rfl) (fun K hK => ?_)); simp only [sel, List.getElem?_cons_succ, List.getElem?_cons_zero, List.drop_succ_cons, List.drop_zero]; simp (disch := first | omega | (simp only [lnS]; try omega)) [-getElem?_pos, -getElem?_neg, h0, h9, hsub, nt_ptrG, nt_intG, nt_slG, nt_aggG, -xload, l0, l1, -xindexAddr, a0, a1, hbG, hgl, hgl2, hx32, hs32, iv_length, t1, t2, PL_nil, plainB_lit, PL_cons, PLc_val, PLc_new, stepP_t, stepP_f, stepPC_n, stepPC_s, stepPX_s, stepPX_n, stepPV_n, stepPV_s, stepPA_t, stepPA_c, stepPA_l, stepPN_s, allocOp, reloc_sl, reloc_ptr, List.map_cons, List.map_nil, List.nil_append, List.append_assoc, List.cons_append, Nat.add_assoc]
  refine hK _ _ ?_; clear hK K
  have hG2 : hget (G.set b (some ⟨kr L3, 38, some 32⟩)) b = some ⟨kr L3, 38, some 32⟩ := hget_set_eq hbl2
  have hoth2 : Oth b H (G.set b (some ⟨kr L3, 38, some 32⟩)) := ⟨by rw [List.length_set]; exact hoth.1, fun j hj hjb => (hget_set_ne (fun e => hjb e.symm)).trans (hoth.2 j hj hjb)⟩
  generalize G.set b (some ⟨kr L3, 38, some 32⟩) = G2 at *
  subst hL3
  (refine aw_ops (by kernel_rfl) (fun K hK => ?_); simp (disch := first | omega | (simp only [lnS]; try omega)) [-getElem?_pos, -getElem?_neg, h9, hsub]; refine hK _ _ ?_; clear hK K)
  refine ⟨j - 1, by omega, by omega, by (first | (simp [put_at, put_none, fr0_at, h0]; done) | rfl), by (first | (simp [put_at, put_none, fr0_at, h1]; done) | rfl), by (first | (simp [put_at, put_none, fr0_at, h2]; done) | rfl), by (first | (simp [put_at, put_none, fr0_at, h3]; done) | rfl), by (first | (simp [put_at, put_none, fr0_at, h8]; done) | rfl), by (first | (simp [put_at, put_none, fr0_at]; done) | rfl), hG2, hoth2, fun s' hs' => ?_⟩
  rw [hdj] at hs'
  rcases List.mem_cons.1 hs' with rfl | hs'
  ·exact hxs
  ·exact hgt s' hs'
 ·have hc2 : 0 ≤ cmpL x s := by omega
  simp (disch := first | omega | (simp only [lnS]; try omega)) [-getElem?_pos, -getElem?_neg, hc, hc2, PL_nil, plainB_lit, PL_cons, PLc_val, PLc_new, stepP_t, stepP_f, stepPC_n, stepPC_s, stepPX_s, stepPX_n, stepPV_n, stepPV_s, stepPA_t, stepPA_c, stepPA_l, stepPN_s, allocOp, reloc_sl, reloc_ptr, List.map_cons, List.map_nil, List.nil_append, List.append_assoc, List.cons_append, Nat.add_assoc]
  refine hK _ _ ?_; clear hK K
  refine aw_f (by (first | (simp [eval_tmp, put_at, hc]; done) | (simp [eval_tmp, put_at, hc]; omega))) (by kernel_rfl) ?_
  refine aw_exit ?_
  (refine aw_ops (by kernel_rfl) (fun K hK => ?_); simp (disch := first | omega | (simp only [lnS]; try omega)) [-getElem?_pos, -getElem?_neg, h8]; refine hK _ _ ?_; clear hK K)
  obtain ⟨hp2, hr2⟩ := hexit (fun s' _ h => by rw [hs] at h; cases h; exact fun h => hc (hlt.2 h))
  exact ⟨c - 1, by omega, i + 1, _, by omega, by omega, by (first | (simp [put_at, put_none, fr0_at, h0]; done) | rfl), by (first | (simp [put_at, put_none, fr0_at, h1]; done) | rfl), by (first | (simp [put_at, put_none, fr0_at, h2]; done) | rfl), by (first | (simp [put_at, put_none, fr0_at, h3]; done) | rfl), by (first | (simp [put_at, put_none, fr0_at]; done) | rfl), by rw [hL]; exact hbG, hoth, hp2, hr2⟩
theorem sortW_go {nro : Nat} {γ : Nat → Option Nat} {H : AH} {v : Value} {n : Nat} {z : Int} {Q : Value → AH → Prop} (hv : notTuple v = true ∧ v.cells = #[v]) (hle : n ≤ 12)
  (hins : AC Try.prog nro γ 160 #[v, .int .i64 0, .int .i64 (n : Nat), .func (.func 100) #[] #[]] H (fun _ G => ∀ u, Q u G)) :
  AC Try.prog nro γ 156 #[v, .int .i64 0, .int .i64 (n : Nat), .int .i64 z, .func (.func 100) #[] #[]] H (fun _ G => ∀ u, Q u G) := by
 obtain ⟨v1, v2⟩ := hv
 have hfn : notTuple (.func (.func 100) #[] #[]) = true := rfl
 have hfc : (Value.func (.func 100) #[] #[]).cells = #[.func (.func 100) #[] #[]] := rfl
 refine ac_of_aw Try.func156 rfl Try.ntmps156 Try.results156 (by simp) ?_
 refine aw_seq ?_
 (refine aw_ops (by kernel_rfl) (fun K hK => ?_); simp (disch := first | omega | (simp only [lnS]; try omega)) [-getElem?_pos, -getElem?_neg]; refine hK _ _ ?_; clear hK K)
 refine aw_seq ?_
 (refine aw_ops (by kernel_rfl) (fun K hK => ?_); simp (disch := first | omega | (simp only [lnS]; try omega)) [-getElem?_pos, -getElem?_neg]; refine hK _ _ ?_; clear hK K)
 refine aw_block ?_
 refine aw_loop (fun c α G => G = H ∧ α 0 = v ∧ α 1 = .int .i64 0 ∧ α 2 = .int .i64 (n : Nat) ∧ α 4 = .func (.func 100) #[] #[]) 1 ?_ ?_
 ·exact ⟨rfl, by (first | (simp [put_at, put_none, fr0_at]; done) | rfl), by (first | (simp [put_at, put_none, fr0_at]; done) | rfl), by (first | (simp [put_at, put_none, fr0_at]; done) | rfl), by (first | (simp [put_at, put_none, fr0_at]; done) | rfl)⟩
 rintro c α G ⟨rfl, h0, h1, h2, h4⟩
 refine aw_block ?_
 refine aw_seq ?_
 (refine aw_ops (by kernel_rfl) (fun K hK => ?_); simp (disch := first | omega | (simp only [lnS]; try omega)) [-getElem?_pos, -getElem?_neg, h1, h2]; refine hK _ _ ?_; clear hK K)
 refine aw_seq ?_
 refine aw_seq ?_
 (refine aw_ops (by kernel_rfl) (fun K hK => ?_); simp (disch := first | omega | (simp only [lnS]; try omega)) [-getElem?_pos, -getElem?_neg, hle]; refine hK _ _ ?_; clear hK K)
 refine aw_t (by (first | (simp [eval_tmp, put_at, hle]; done) | (simp [eval_tmp, put_at, hle]; omega))) (by kernel_rfl) ?_
 refine aw_seq ?_
 refine aw_ops (by kernel_rfl) (fun K hK => ?_)
 simp (disch := first | omega | (simp only [lnS]; try omega)) [-getElem?_pos, -getElem?_neg, h0, h1, h2, h4, -notTuple, v1, v2, hfn, hfc, nt_intG]
 refine ⟨by kernel_rfl, hins.mono ?_⟩
 intro u G1 hq
 try simp (disch := first | omega | (simp only [lnS]; try omega)) [-getElem?_pos, -getElem?_neg]
 refine hK _ _ ?_; clear hK K
 (refine aw_ret ?_; simp (disch := first | omega | (simp only [lnS]; try omega)) [-getElem?_pos, -getElem?_neg, thenQ_ret, scopeQ_ret, inBlockQ_ret, RQ, resL, resV])
 exact hq
theorem sortFuncW_go {nro : Nat} {γ : Nat → Option Nat} {H : AH} {v : Value} {n : Nat} {Q : Value → AH → Prop} (hv : notTuple v = true ∧ v.cells = #[v]) (hxl : xlen Try.prog 36 v = some (.int .i64 n)) (hle : n ≤ 12)
  (hins : AC Try.prog nro γ 160 #[v, .int .i64 0, .int .i64 (n : Nat), .func (.func 100) #[] #[]] H (fun _ G => ∀ u, Q u G)) :
  AC Try.prog nro γ 141 #[v, .func (.func 100) #[] #[]] H (fun _ G => ∀ u, Q u G) := by
 have hgo := fun z => sortW_go (z := z) hv hle hins
 obtain ⟨v1, v2⟩ := hv
 have hfn : notTuple (.func (.func 100) #[] #[]) = true := rfl
 have hfc : (Value.func (.func 100) #[] #[]).cells = #[.func (.func 100) #[] #[]] := rfl
 have hlen := len_rc (nro := nro) (γ := γ) (H := H) hle
 refine ac_of_aw Try.func141 rfl Try.ntmps141 Try.results141 (by simp) ?_
 refine aw_seq ?_
 (refine aw_ops (by kernel_rfl) (fun K hK => ?_); simp (disch := first | omega | (simp only [lnS]; try omega)) [-getElem?_pos, -getElem?_neg, -notTuple, v1, v2, hfn, hfc, nt_intG, -xlen, hxl]; refine hK _ _ ?_; clear hK K)
 refine aw_ops (by kernel_rfl) (fun K hK => ?_)
 simp (disch := first | omega | (simp only [lnS]; try omega)) [-getElem?_pos, -getElem?_neg, -notTuple, v1, v2, hfn, hfc, nt_intG]
 refine ⟨by kernel_rfl, hlen.mono ?_⟩
 rintro u1 G1 ⟨rfl, z, rfl⟩
 try simp (disch := first | omega | (simp only [lnS]; try omega)) [-getElem?_pos, -getElem?_neg, -notTuple, v1, v2, hfn, hfc, nt_intG]
 refine ⟨by kernel_rfl, (hgo z).mono ?_⟩
 intro u G1 hq
 try simp (disch := first | omega | (simp only [lnS]; try omega)) [-getElem?_pos, -getElem?_neg]
 refine hK _ _ ?_; clear hK K
 exact ⟨[], _, rfl, rfl, hq⟩
theorem insertionW_nil {nro : Nat} {γ : Nat → Option Nat} {H : AH} : AC Try.prog nro γ 160 #[.slice none 0 0, .int .i64 0, .int .i64 ((0 : Nat) : Int), .func (.func 100) #[] #[]] H (fun _ G => G = H) := by
 refine ac_of_aw Try.func160 rfl Try.ntmps160 Try.results160 (by simp) ?_
 refine aw_seq ?_
 (refine aw_ops (by kernel_rfl) (fun K hK => ?_); simp (disch := first | omega | (simp only [lnS]; try omega)) [-getElem?_pos, -getElem?_neg]; refine hK _ _ ?_; clear hK K)
 refine aw_block ?_
 refine aw_loop (fun c α G => G = H ∧ α 8 = .int .i64 1 ∧ α 2 = .int .i64 0) 1 ?_ ?_
 ·exact ⟨rfl, by (first | (simp [put_at, put_none, fr0_at]; done) | rfl), by (first | (simp [put_at, put_none, fr0_at]; done) | rfl)⟩
 rintro c α G ⟨rfl, h8, h2⟩
 refine aw_seq ?_
 refine aw_seq ?_
 (refine aw_ops (by kernel_rfl) (fun K hK => ?_); simp (disch := first | omega | (simp only [lnS]; try omega)) [-getElem?_pos, -getElem?_neg, h8, h2]; refine hK _ _ ?_; clear hK K)
 refine aw_f (by (first | (simp [eval_tmp, put_at]; done) | (simp [eval_tmp, put_at]; omega))) (by kernel_rfl) ?_
 refine aw_exit ?_
 exact ⟨[], _, rfl, rfl, rfl⟩
theorem sortFuncW_ac {nro : Nat} {γ : Nat → Option Nat} {H : AH} {v : Value} {F : List Nat} {ids : List (List Int)} (ho : OwnF H v 38 32 (kr ids) F) (hF : ∀ j ∈ F, nro ≤ j) (hk : K32 ids) (hy : ∀ k ∈ ids, By k) (hnd : ids.Nodup) (hle : ids.length ≤ 12) :
  AC Try.prog nro γ 141 #[v, .func (.func 100) #[] #[]] H (fun _ G => OwnF G v 38 32 (kr (sortK ids)) F ∧ H.length ≤ G.length ∧ ∀ j, j < H.length → j ∉ F → hget G j = hget H j) := by
 have hxl := ho.len (P := Try.prog) (t := 36) (by simp) (kr_len hk) (by omega)
 have hnt := own_nt ho
 refine (sortFuncW_go (nro := nro) (γ := γ) (Q := fun _ G => OwnF G v 38 32 (kr (sortK ids)) F ∧ H.length ≤ G.length ∧ ∀ j, j < H.length → j ∉ F → hget G j = hget H j) hnt hxl hle ?_).mono (fun u G h => h u)
 rcases ho with ⟨rfl, hc, rfl⟩ | ⟨j, len, rfl, h2, h3, rfl⟩
 ·have hl : ids = [] := by
   have := kr_len hk
   rw [hc, List.length_nil] at this
   exact List.eq_nil_of_length_eq_zero (by omega)
  subst hl
  refine (insertionW_nil (nro := nro) (γ := γ) (H := H)).mono ?_
  rintro _ G rfl _
  refine ⟨.inl ⟨rfl, ?_, rfl⟩, Nat.le_refl _, fun _ _ _ => rfl⟩
  rw [(sortK_perm []).eq_nil]; rfl
 ·rw [kr_len hk] at h3
  obtain rfl : ids.length = len := by omega
  refine (insertionW_ac (nro := nro) (γ := γ) h2 rfl hk hy hnd (by omega) (hF j (by simp))).mono ?_
  rintro _ G ⟨q1, q2, q3⟩ _
  have hks : K32 (sortK ids) := fun k hm => hk k ((sortK_perm ids).mem_iff.1 hm)
  exact ⟨.inr ⟨j, _, rfl, q1, by rw [kr_len hks, (sortK_perm ids).length_eq], rfl⟩, q2, fun i hi hn => q3 i hi (fun e => hn (by simp [e]))⟩
end
section
theorem K32.sortK {l : List (List Int)} (h : K32 l) : K32 (sortK l) := fun k hk => h k ((sortK_perm l).mem_iff.1 hk)
attribute [local simp] wb_bool wb_undef with_lit XL_nil XL_cons XLc_val XLc_call step1_eq stepW_t stepW_f stepC_n stepC_s stepX_s stepX_n stepN_s calleeX xrecv oneV xop_eq xopR_s xopR_n wantedA_eq wantedG_n wantedG_s plain1_int plain1_bool plain1_string bits_i64 bits_u64 bits_u32 bits_u16 bits_u8 xeqA xagg xcmp xarr allK_iv num_iv calleeOf xread xeff xbin xint xnil xun xstr xload xconv xpart xfield xfieldAddr xindexAddr xindex bnd asInt? xslice xlen xmin xmax xbuild xfill xappend xapp2 xappstr xappmk xcap xcopy xcells eval_tmp eval_const put_at put_none fr0_at cells_agg cells_int cells_bool cells_string cells_ptr cells_slice notTuple tab iv_all hget_app hget_app0 hget_cons0 hget_cons set_app set_app0 setR setR_one QL_nil QL_cons QLc_val stepQ_t stepQ_f stepQC_n stepQC_s stepQX_s SL_nil SL_cons SLc_val stepS_t stepS_f ltT ltF leT leF eqT eqF ltTn ltFn leTn leFn eqTn eqFn beqT beqF bneT bneF wi64 wu64 wu32 wu16 wu8 tmodP tdivP hgetL hgetNe hgetEq setL nums_def nums_len Nat.succ_le_of_lt List.getElem?_cons_zero List.getElem?_cons_succ Option.getD_some Int.toNat_add Int.toNat_mul agM okM agB agI agS agP agL agA okB okI okS okP okSl okA
theorem ordered_ac {nro : Nat} {γ : Nat → Option Nat} {H : AH} {v : Value} {ids : List (List Int)} (hV : KsV H v ids) (hk : K32 ids) (hy : ∀ k ∈ ids, By k) (hnd : ids.Nodup) (hle : ids.length ≤ 12) (hnro : nro ≤ H.length) :
  AC Try.prog nro γ 99 #[v, .func (.func 100) #[] #[]] H (fun v' H' => Low H.length H H' ∧ ∃ F, OwnF H' v' 38 32 (kr (sortK ids)) F ∧ ∀ j ∈ F, H.length ≤ j) := by
 have n1 := val_nt hV
 have hfn : notTuple (.func (.func 100) #[] #[]) = true := rfl
 have hfc : (Value.func (.func 100) #[] #[]).cells = #[.func (.func 100) #[] #[]] := rfl
 refine ac_of_aw Try.func99 rfl Try.ntmps99 Try.results99 (by simp) ?_
 refine aw_seq ?_
 (refine aw_ops (by kernel_rfl) (fun K hK => ?_); simp (disch := first | omega | (simp only [lnS]; try omega)) [-getElem?_pos, -getElem?_neg]; refine hK _ _ ?_; clear hK K)
 refine aw_seq ?_
 refine aw_ops (by kernel_rfl) (fun K hK => ?_)
 simp (disch := first | omega | (simp only [lnS]; try omega)) [-getElem?_pos, -getElem?_neg, -notTuple, n1.1, n1.2]
 refine ⟨by kernel_rfl, (cloneK_ac (nro := nro) (γ := γ) hV hk hnro (by omega)).mono ?_⟩
 rintro w G ⟨_, hGl, lw, F, ho, hF⟩
 rw [ksC_kr] at ho
 obtain ⟨w1, w2⟩ := own_nt ho
 try simp (disch := first | omega | (simp only [lnS]; try omega)) [-getElem?_pos, -getElem?_neg, -notTuple, w1, w2]
 refine hK _ _ ?_; clear hK K
 have hso := sortFuncW_ac (nro := nro) (γ := γ) ho (fun j hj => by have := hF j hj; omega) hk hy hnd hle
 refine aw_seq ?_
 refine aw_ops (by kernel_rfl) (fun K hK => ?_)
 simp (disch := first | omega | (simp only [lnS]; try omega)) [-getElem?_pos, -getElem?_neg, -notTuple, w1, w2, hfn, hfc]
 refine ⟨by kernel_rfl, hso.mono ?_⟩
 rintro u G2 ⟨ho2, hl2, hk2⟩
 try simp (disch := first | omega | (simp only [lnS]; try omega)) [-getElem?_pos, -getElem?_neg]
 refine hK _ _ ?_; clear hK K
 refine aw_seq ?_
 (refine aw_ops (by kernel_rfl) (fun K hK => ?_); simp (disch := first | omega | (simp only [lnS]; try omega)) [-getElem?_pos, -getElem?_neg, -notTuple, w1, w2]; refine hK _ _ ?_; clear hK K)
 (refine aw_ret ?_; simp (disch := first | omega | (simp only [lnS]; try omega)) [-getElem?_pos, -getElem?_neg, thenQ_ret, scopeQ_ret, inBlockQ_ret, RQ, resL, resV])
 have hle := lw.2
 exact ⟨⟨fun j hj => (hk2 j (by omega) (fun h => by have := hF j h; omega)).trans (lw.1 j hj), by omega⟩, F, ho2, hF⟩
theorem once_ac {nro : Nat} {γ : Nat → Option Nat} {H : AH} {v : Value} {ids : List (List Int)} (hV : KsV H v ids) (hk : K32 ids) (hnd : ids.Nodup) (hle : ids.length ≤ 100) (hnro : nro ≤ H.length) :
  AC Try.prog nro γ 98 #[v] H (fun v' H' => Low H.length H H' ∧ ∃ F, OwnF H' v' 38 32 (kr ids) F ∧ ∀ j ∈ F, H.length ≤ j) := by
 have hacc := hV.acc hk
 have n1 := hacc.nt
 have n2 := hacc.cs
 have hxl := hacc.len
 have hp0 : plain1 (.slice none 0 0) = true := rfl
 refine ac_of_aw Try.func98 rfl Try.ntmps98 Try.results98 (by simp) ?_
 refine aw_seq ?_
 (refine aw_ops (by kernel_rfl) (fun K hK => ?_); simp (disch := first | omega | (simp only [lnS]; try omega)) [-getElem?_pos, -getElem?_neg]; refine hK _ _ ?_; clear hK K)
 refine aw_seq ?_
 (refine aw_ops (by kernel_rfl) (fun K hK => ?_); simp (disch := first | omega | (simp only [lnS]; try omega)) [-getElem?_pos, -getElem?_neg]; refine hK _ _ ?_; clear hK K)
 refine aw_seq ?_
 refine aw_seq ?_
 (refine aw_ops (by kernel_rfl) (fun K hK => ?_); simp (disch := first | omega | (simp only [lnS]; try omega)) [-getElem?_pos, -getElem?_neg, -notTuple, n1, n2, nt_intG, -xlen, hxl]; refine hK _ _ ?_; clear hK K)
 refine aw_block ?_
 refine aw_loop (fun c α G => ∃ (i : Nat) (x : Value) (F : List Nat), i + c = ids.length ∧ Low H.length H G ∧ α 0 = v ∧ α 3 = x ∧ α 6 = v ∧ α 7 = .int .i64 (ids.length : Nat) ∧ α 8 = .int .i64 (i : Nat) ∧ OwnF G x 38 32 (kr (ids.take i)) F ∧ ∀ j ∈ F, H.length ≤ j) ids.length ?_ ?_
 ·exact ⟨0, .slice none 0 0, [], by omega, Low.refl (Nat.le_refl _), by (first | (simp [put_at, put_none, fr0_at]; done) | rfl), by (first | (simp [put_at, put_none, fr0_at]; done) | rfl), by (first | (simp [put_at, put_none, fr0_at]; done) | rfl), by (first | (simp [put_at, put_none, fr0_at]; done) | rfl), by (first | (simp [put_at, put_none, fr0_at]; done) | rfl), .inl ⟨rfl, by simp [kr], rfl⟩, fun j hj => by cases hj⟩
 rintro c α G ⟨i, x, F, hic, lw, q0, q3, q6, q7, q8, hF, hFl⟩
 obtain ⟨x1, x2⟩ := own_nt hF
 have hle1 := lw.2
 refine aw_seq ?_
 by_cases hi : i < ids.length
 case neg =>
  obtain rfl : i = ids.length := by omega
  rw [List.take_length] at hF
  (refine aw_ops (by kernel_rfl) (fun K hK => ?_); simp (disch := first | omega | (simp only [lnS]; try omega)) [-getElem?_pos, -getElem?_neg, q7, q8]; refine hK _ _ ?_; clear hK K)
  refine aw_seq ?_
  refine aw_f (by (first | (simp [eval_tmp, put_at]; done) | (simp [eval_tmp, put_at]; omega))) (by kernel_rfl) ?_
  refine aw_exit ?_
  refine aw_seq ?_
  (refine aw_ops (by kernel_rfl) (fun K hK => ?_); simp (disch := first | omega | (simp only [lnS]; try omega)) [-getElem?_pos, -getElem?_neg, q3, -notTuple, x1, x2]; refine hK _ _ ?_; clear hK K)
  (refine aw_ret ?_; simp (disch := first | omega | (simp only [lnS]; try omega)) [-getElem?_pos, -getElem?_neg, thenQ_ret, scopeQ_ret, inBlockQ_ret, RQ, resL, resV])
  exact ⟨lw, F, hF, hFl⟩
 obtain ⟨p, y, r1, r2, r3, r4, r5⟩ := hacc.at_ i hi
 have r5 := r5 G lw
 subst r4
 obtain ⟨z, hz⟩ : ∃ z, z = ids.getD i [] := ⟨_, rfl⟩
 have hzi : ids[i]? = some z := by rw [hz, List.getD_eq_getElem?_getD, List.getElem?_eq_getElem hi]; rfl
 have hz32 : z.length = 32 := hk z (List.mem_of_getElem? hzi)
 have hzl : (iv .u8 z).length = 32 := by rw [iv_length, hz32]
 have htz : (iv .u8 z).take 32 = iv .u8 z := List.take_of_length_le (by omega)
 rw [← hz] at r5
 have hset : ∀ Z : List Value, Z.length = 32 → setR Z 0 (iv .u8 z) = iv .u8 z := fun Z hZ => setR_all _ _ (by omega)
 (refine aw_ops (by kernel_rfl) (fun K hK => ?_); simp (disch := first | omega | (simp only [lnS]; try omega)) [-getElem?_pos, -getElem?_neg, q7, q8, hi]; refine hK _ _ ?_; clear hK K)
 refine aw_seq ?_
 refine aw_t (by (first | (simp [eval_tmp, put_at, hi]; done) | (simp [eval_tmp, put_at, hi]; omega))) (by kernel_rfl) ?_
 refine aw_skip ?_
 refine aw_seq ?_
 refine aw_block ?_
 refine aw_seq ?_
 (refine aw_ops (by kernel_rfl) (fun K hK => ?_); simp (disch := first | omega | (simp only [lnS]; try omega)) [-getElem?_pos, -getElem?_neg, q6, q8, -notTuple, n1, n2, nt_intG, nt_aggG, r1, -xindexAddr, r2, -xload, r5, hzl, all_zl, hset, hle1]; refine hK _ _ ?_; clear hK K)
 obtain ⟨lw2, b5⟩ := boxed (H := G) (iv .u8 z) 38
 obtain ⟨g, hg⟩ : ∃ g, g = G.length := ⟨_, rfl⟩
 have lw3 := lw.both lw2
 have hF2 := hF.low (H' := G ++ ([some ⟨iv .u8 z, 38, none⟩] : AH)) (fun j hj => hget_left (hF.lt j hj))
 rw [← hg] at b5 ⊢
 generalize G ++ [some ⟨iv .u8 z, 38, none⟩] = G2 at *
 have xl5 : xload Try.prog 38 (.pointer (some ⟨g, 0, none⟩)) G2 = some (.agg (iv .u8 z).toArray) := by simp [xload, b5, hzl, htz]
 refine aw_seq ?_
 refine aw_cut (fun α G3 => α 23 = .bool true ∧ α 0 = v ∧ α 3 = x ∧ α 5 = .pointer (some ⟨g, 0, none⟩) ∧ α 6 = v ∧ α 7 = .int .i64 (ids.length : Nat) ∧ α 8 = .int .i64 (i : Nat) ∧ G3 = G2) ?_ ?_
 ·by_cases h0 : i = 0
  ·subst h0
   (refine aw_plan [] [] [0, 1, 2, 3, 4, 5, 6, 7, 8, 9, 10] 11 0 (by kernel_rfl) (by kernel_rfl) (by kernel_rfl) (fun K hK => ?_)); simp only [sel, List.getElem?_cons_succ, List.getElem?_cons_zero, List.drop_succ_cons, List.drop_zero]; simp (disch := first | omega | (simp only [lnS]; try omega)) [-getElem?_pos, -getElem?_neg, nt_intG, PL_nil, plainB_lit, PL_cons, PLc_val, PLc_new, stepP_t, stepP_f, stepPC_n, stepPC_s, stepPX_s, stepPX_n, stepPV_n, stepPV_s, stepPA_t, stepPA_c, stepPA_l, stepPN_s, allocOp, reloc_sl, reloc_ptr, List.map_cons, List.map_nil, List.nil_append, List.append_assoc, List.cons_append, Nat.add_assoc]
   refine hK _ _ ?_; clear hK K
   exact ⟨by (first | (simp [put_at, put_none, fr0_at]; done) | rfl), by (first | (simp [put_at, put_none, fr0_at, q0]; done) | rfl), by (first | (simp [put_at, put_none, fr0_at, q3]; done) | rfl), by (first | (simp [put_at, put_none, fr0_at]; done) | rfl), by (first | (simp [put_at, put_none, fr0_at, q6]; done) | rfl), by (first | (simp [put_at, put_none, fr0_at, q7]; done) | rfl), by (first | (simp [put_at, put_none, fr0_at, q8]; done) | rfl), rfl⟩
  have h0b : ((i : Int) == 0) = false := by rw [beq_eq_false_iff_ne]; omega
  have h0i : ¬ (i : Int) = 0 := by omega
  have hi1 : i - 1 < ids.length := by omega
  obtain ⟨p', y', s1, s2, s3, s4, s5⟩ := hacc.at_ (i - 1) hi1
  have s5 := s5 G2 lw3
  subst s4
  obtain ⟨z', hz'⟩ : ∃ z', z' = ids.getD (i - 1) [] := ⟨_, rfl⟩
  have hzi' : ids[i - 1]? = some z' := by rw [hz', List.getD_eq_getElem?_getD, List.getElem?_eq_getElem hi1]; rfl
  rw [← hz'] at s5
  have hne : z ≠ z' := fun e => by
   have := (List.getElem?_inj hi hnd (j := i - 1)).1 (by rw [hzi, hzi', e])
   omega
  have hneb : (z == z') = false := by simpa using hne
  have hsub : (i : Int) - 1 = ((i - 1 : Nat) : Int) := by omega
  have hzl' : (iv .u8 z').length = 32 := by rw [iv_length]; exact hk z' (List.mem_of_getElem? hzi')
  (refine aw_plan [] [] [0, 1, 2, 3, 4, 5, 6, 7, 8, 9, 10] 11 0 (by kernel_rfl) (by kernel_rfl) (by kernel_rfl) (fun K hK => ?_)); simp only [sel, List.getElem?_cons_succ, List.getElem?_cons_zero, List.drop_succ_cons, List.drop_zero]; simp (disch := first | omega | (simp only [lnS]; try omega)) [-getElem?_pos, -getElem?_neg, q0, h0b, h0i, hsub, -notTuple, n1, n2, nt_intG, nt_ptrG, nt_aggG, s1, -xindexAddr, s2, -xload, xl5, s5, hneb, hzl, hzl', PL_nil, plainB_lit, PL_cons, PLc_val, PLc_new, stepP_t, stepP_f, stepPC_n, stepPC_s, stepPX_s, stepPX_n, stepPV_n, stepPV_s, stepPA_t, stepPA_c, stepPA_l, stepPN_s, allocOp, reloc_sl, reloc_ptr, List.map_cons, List.map_nil, List.nil_append, List.append_assoc, List.cons_append, Nat.add_assoc]
  refine hK _ _ ?_; clear hK K
  exact ⟨by (first | (simp [put_at, put_none, fr0_at]; done) | rfl), by (first | (simp [put_at, put_none, fr0_at, q0]; done) | rfl), by (first | (simp [put_at, put_none, fr0_at, q3]; done) | rfl), by (first | (simp [put_at, put_none, fr0_at]; done) | rfl), by (first | (simp [put_at, put_none, fr0_at, q6]; done) | rfl), by (first | (simp [put_at, put_none, fr0_at, q7]; done) | rfl), by (first | (simp [put_at, put_none, fr0_at, q8]; done) | rfl), rfl⟩
 clear q0 q3 q6 q7 q8
 rintro α G3 ⟨q23, q0, q3, q5, q6, q7, q8, rfl⟩
 refine aw_t (by (first | (simp [eval_tmp, put_at, q23]; done) | (simp [eval_tmp, put_at, q23]; omega))) (by kernel_rfl) ?_
 have hle3 := lw3.2
 have hkt : K32 (ids.take i) := fun k hk' => hk k (List.mem_of_mem_take hk')
 have hkl := kr_len hkt
 have htl : (ids.take i).length = i := by rw [List.length_take]; omega
 rw [htl] at hkl
 have hxc : xcells 32 (.slice (some ⟨G3.length, 0, none⟩) 1 1) (G3 ++ [some ⟨iv .u8 z, 38, some 32⟩]) = some (iv .u8 z) := by simp [xcells, hget_app0, hzl, htz]
 obtain ⟨v', G6, hap, ho3, hl3, hk3⟩ := ownF_append (P := Try.prog) (nro := nro) (t := 36) (e := 38) (H := G3 ++ [some ⟨iv .u8 z, 38, some 32⟩]) (v := x) (x := .slice (some ⟨G3.length, 0, none⟩) 1 1) (sz := 32) (cells := kr (ids.take i)) (news := iv .u8 z) (F := F) (by simp) (by simp) (by omega) (by simp) (hF2.low (fun j hj => hget_left (hF2.lt j hj)))
  (fun j hj => by have := hFl j hj; omega) (fun s e => by cases e) hxc (fun e => by rw [e] at hzl; simp at hzl) (by rw [hzl]) (by rw [hkl, hzl]; simp; omega) (by rw [hkl, hzl]; simp only [maxLen]; omega)
 have fk := fill_keyG (k := .u8) (x := z) (n := 32) (zl 32) hzl
 have hno : nro ≤ G3.length := by omega
 (refine aw_ops (by kernel_rfl) (fun K hK => ?_); simp (disch := first | omega | (simp only [lnS]; try omega)) [-getElem?_pos, -getElem?_neg, q3, q5, -xload, xl5, -notTuple, x1, x2, nt_intG, nt_slG, nt_aggG, all_zl, hzl, -xfill, fk, hno, -xappend, hap]; refine hK _ _ ?_; clear hK K)
 (refine aw_ops (by kernel_rfl) (fun K hK => ?_); simp (disch := first | omega | (simp only [lnS]; try omega)) [-getElem?_pos, -getElem?_neg, q8]; refine hK _ _ ?_; clear hK K)
 have hsu : ids.take (i + 1) = ids.take i ++ [z] := by rw [List.take_add_one, hzi]; rfl
 refine ⟨c - 1, by omega, i + 1, v', _, by omega, ⟨fun j hj => (hk3 j (by simp; omega) (fun h => by have := hFl _ h; omega)).trans ((hget_left (by omega)).trans (lw3.1 j hj)), by rw [hl3]; simp; omega⟩, by (first | (simp [put_at, put_none, fr0_at, q0]; done) | rfl), by (first | (simp [put_at, put_none, fr0_at]; done) | rfl), by (first | (simp [put_at, put_none, fr0_at, q6]; done) | rfl), by (first | (simp [put_at, put_none, fr0_at, q7]; done) | rfl), by (first | (simp [put_at, put_none, fr0_at]; done) | rfl), by rw [hsu, kr_app, kr_one]; exact ho3, fun j hj => ?_⟩
 rw [List.mem_singleton] at hj
 rw [hj]
 simp
 omega
end
section
def wantK (l : List NodeD) (q : List HeldD) (k : List Int) : Bool := decide (findI l l.length k < 0) && decide (findIH q q.length k < 0)
def wantsL (l : List NodeD) (q : List HeldD) : Nat → List (List Int)
 | 0 => []
 | i + 1 => wantsL l q i ++ (hn q i).op.parents.filter (wantK l q)
theorem rightQ_op {q : List HeldD} (h : rightQ q = true) {i : Nat} (hi : i < q.length) : rightO (hn q i).op = true := by
 unfold rightQ at h
 rw [Bool.and_eq_true, List.all_eq_true] at h
 have h1 := h.2 i (List.mem_range.2 hi)
 unfold oneQ at h1
 rw [Bool.and_eq_true] at h1
 exact h1.2
theorem wants_len {l : List NodeD} {q : List HeldD} (h : rightQ q = true) : ∀ i, i ≤ q.length → (wantsL l q i).length ≤ 8 * i
 | 0, _ => Nat.le_refl _
 | i + 1, hi => by
  have h1 := wants_len (l := l) h i (by omega)
  have h2 := (rightO_sm (rightQ_op h (show i < q.length by omega))).1
  have h3 := List.length_filter_le (wantK l q) (hn q i).op.parents
  unfold wantsL
  rw [List.length_append]
  omega
theorem wants_k {l : List NodeD} {q : List HeldD} (hw : ∀ x ∈ q, x.Wf) : ∀ i, i ≤ q.length → ∀ k ∈ wantsL l q i, Key32 k
 | 0, _ => fun k hk => by cases hk
 | i + 1, hi => fun k hk => by
  unfold wantsL at hk
  rcases List.mem_append.1 hk with hk | hk
  ·exact wants_k hw i (by omega) k hk
  ·exact (hw _ (List.mem_of_getElem? (hn_get (show i < q.length by omega)))).op.parents k (List.mem_filter.1 hk).1
attribute [local simp] wb_bool wb_undef with_lit XL_nil XL_cons XLc_val XLc_call step1_eq stepW_t stepW_f stepC_n stepC_s stepX_s stepX_n stepN_s calleeX xrecv oneV xop_eq xopR_s xopR_n wantedA_eq wantedG_n wantedG_s plain1_int plain1_bool plain1_string bits_i64 bits_u64 bits_u32 bits_u16 bits_u8 xeqA xagg xcmp xarr allK_iv num_iv calleeOf xread xeff xbin xint xnil xun xstr xload xconv xpart xfield xfieldAddr xindexAddr xindex bnd asInt? xslice xlen xmin xmax xbuild xfill xappend xapp2 xappstr xappmk xcap xcopy xcells eval_tmp eval_const put_at put_none fr0_at cells_agg cells_int cells_bool cells_string cells_ptr cells_slice notTuple tab iv_all hget_app hget_app0 hget_cons0 hget_cons set_app set_app0 setR setR_one QL_nil QL_cons QLc_val stepQ_t stepQ_f stepQC_n stepQC_s stepQX_s SL_nil SL_cons SLc_val stepS_t stepS_f ltT ltF leT leF eqT eqF ltTn ltFn leTn leFn eqTn eqFn beqT beqF bneT bneF wi64 wu64 wu32 wu16 wu8 tmodP tdivP hgetL hgetNe hgetEq setL nums_def nums_len Nat.succ_le_of_lt List.getElem?_cons_zero List.getElem?_cons_succ Option.getD_some Int.toNat_add Int.toNat_mul agM okM agB agI agS agP agL agA okB okI okS okP okSl okA
theorem wanted_ac {nro : Nat} {γ : Nat → Option Nat} {H : AH} {nv qv : Value} {l : List NodeD} {q : List HeldD} (hN : NdA H nv l) (hl : l.length ≤ maxLen) (hQ : HdA H qv q) (hq : q.length ≤ maxLen) (hnd : (wantsL l q q.length).Nodup) (h12 : (wantsL l q q.length).length ≤ 12) (hnro : nro ≤ H.length) :
  AC Try.prog nro γ 48 #[nv, qv] H (fun v' H' => Low H.length H H' ∧ ∃ F, OwnF H' v' 38 32 (kr (if rightG l && rightQ q then sortK (wantsL l q q.length) else [])) F ∧ ∀ j ∈ F, H.length ≤ j) := by
 have n1 := hN.nt
 have n2 := hN.cs
 have q1 := hQ.nt
 have q2 := hQ.cs
 have hxl := hQ.len
 have hp0 : plain1 (.slice none 0 0) = true := rfl
 have gr := graph_right_rc (γ := γ) hN
 have qr := qRight_rc (γ := γ) hQ hq
 refine ac_of_aw Try.func48 rfl Try.ntmps48 Try.results48 (by simp) ?_
 refine aw_seq ?_
 (refine aw_ops (by kernel_rfl) (fun K hK => ?_); simp (disch := first | omega | (simp only [lnS]; try omega)) [-getElem?_pos, -getElem?_neg]; refine hK _ _ ?_; clear hK K)
 refine aw_seq ?_
 refine aw_seq ?_
 refine aw_cut (fun α G3 => α 17 = .bool (!(rightG l && rightQ q)) ∧ α 0 = nv ∧ α 1 = qv ∧ H = G3) ?_ ?_
 ·refine aw_ops (by kernel_rfl) (fun K hK => ?_)
  simp (disch := first | omega | (simp only [lnS]; try omega)) [-getElem?_pos, -getElem?_neg, -notTuple, n1, n2, nt_intG]
  refine ⟨by kernel_rfl, ac_of_rc gr (by simp [pv_iv, pv_int, pv_bool, pv_string, pv_tup2, pv_tup3, iv_plain, p2_int, p2_bool, p2_string]) ?_⟩
  cases h3 : rightG l with
  | false =>
   try simp (disch := first | omega | (simp only [lnS]; try omega)) [-getElem?_pos, -getElem?_neg]
   refine hK _ _ ?_; clear hK K
   exact ⟨by rw [h3]; (first | (simp [put_at, put_none, fr0_at]; done) | rfl), by (first | (simp [put_at, put_none, fr0_at]; done) | rfl), by (first | (simp [put_at, put_none, fr0_at]; done) | rfl), rfl⟩
  | true =>
   simp (disch := first | omega | (simp only [lnS]; try omega)) [-getElem?_pos, -getElem?_neg, -notTuple, q1, q2, nt_intG]
   refine ⟨by kernel_rfl, ac_of_rc qr (by simp [pv_iv, pv_int, pv_bool, pv_string, pv_tup2, pv_tup3, iv_plain, p2_int, p2_bool, p2_string]) ?_⟩
   try simp (disch := first | omega | (simp only [lnS]; try omega)) [-getElem?_pos, -getElem?_neg]
   refine hK _ _ ?_; clear hK K
   exact ⟨by rw [h3]; (first | (simp [put_at, put_none, fr0_at]; done) | rfl), by (first | (simp [put_at, put_none, fr0_at]; done) | rfl), by (first | (simp [put_at, put_none, fr0_at]; done) | rfl), rfl⟩
 rintro α _ ⟨q17, q0, q1', rfl⟩
 cases hb : (rightG l && rightQ q) with
 | false =>
  rw [hb] at q17
  refine aw_t (by (first | (simp [eval_tmp, put_at, q17]; done) | (simp [eval_tmp, put_at, q17]; omega))) (by kernel_rfl) ?_
  refine aw_seq ?_
  (refine aw_ops (by kernel_rfl) (fun K hK => ?_); simp (disch := first | omega | (simp only [lnS]; try omega)) [-getElem?_pos, -getElem?_neg]; refine hK _ _ ?_; clear hK K)
  (refine aw_ret ?_; simp (disch := first | omega | (simp only [lnS]; try omega)) [-getElem?_pos, -getElem?_neg, thenQ_ret, scopeQ_ret, inBlockQ_ret, RQ, resL, resV])
  exact ⟨Low.refl (Nat.le_refl _), [], .inl ⟨rfl, by simp [kr], rfl⟩, fun j hj => by cases hj⟩
 | true =>
 rw [hb] at q17
 rw [if_pos rfl]
 refine aw_f (by (first | (simp [eval_tmp, put_at, q17]; done) | (simp [eval_tmp, put_at, q17]; omega))) (by kernel_rfl) ?_
 refine aw_skip ?_
 obtain ⟨h3, hrq⟩ := Bool.and_eq_true_iff.1 hb
 have hq24 := rightQ_len hrq
 refine aw_seq ?_
 (refine aw_ops (by kernel_rfl) (fun K hK => ?_); simp (disch := first | omega | (simp only [lnS]; try omega)) [-getElem?_pos, -getElem?_neg]; refine hK _ _ ?_; clear hK K)
 refine aw_seq ?_
 refine aw_seq ?_
 (refine aw_ops (by kernel_rfl) (fun K hK => ?_); simp (disch := first | omega | (simp only [lnS]; try omega)) [-getElem?_pos, -getElem?_neg, q1', -notTuple, q1, q2, nt_intG, -xlen, hxl]; refine hK _ _ ?_; clear hK K)
 refine aw_block ?_
 refine aw_loop (fun c α G => ∃ (i : Nat) (x : Value) (F : List Nat), i + c = q.length ∧ Low H.length H G ∧ α 0 = nv ∧ α 1 = qv ∧ α 5 = x ∧ α 18 = qv ∧ α 19 = .int .i64 (q.length : Nat) ∧ α 20 = .int .i64 (i : Nat) ∧ OwnF G x 38 32 (kr (wantsL l q i)) F ∧ ∀ j ∈ F, H.length ≤ j) q.length ?_ ?_
 ·exact ⟨0, .slice none 0 0, [], by omega, Low.refl (Nat.le_refl _), by (first | (simp [put_at, put_none, fr0_at, q0]; done) | rfl), by (first | (simp [put_at, put_none, fr0_at, q1']; done) | rfl), by (first | (simp [put_at, put_none, fr0_at]; done) | rfl), by (first | (simp [put_at, put_none, fr0_at]; done) | rfl), by (first | (simp [put_at, put_none, fr0_at]; done) | rfl), by (first | (simp [put_at, put_none, fr0_at]; done) | rfl), .inl ⟨rfl, by simp [kr, wantsL], rfl⟩, fun j hj => by cases hj⟩
 clear q0 q1' q17
 rintro c α G ⟨i, x, F, hic, lw, q0, q1', q5, q18, q19, q20, hF, hFl⟩
 obtain ⟨x1, x2⟩ := own_nt hF
 have hle1 := lw.2
 refine aw_seq ?_
 by_cases hi : i < q.length
 case neg =>
  obtain rfl : i = q.length := by omega
  (refine aw_ops (by kernel_rfl) (fun K hK => ?_); simp (disch := first | omega | (simp only [lnS]; try omega)) [-getElem?_pos, -getElem?_neg, q19, q20]; refine hK _ _ ?_; clear hK K)
  refine aw_seq ?_
  refine aw_f (by (first | (simp [eval_tmp, put_at]; done) | (simp [eval_tmp, put_at]; omega))) (by kernel_rfl) ?_
  refine aw_exit ?_
  have hkk := wants_k (l := l) hQ.wf q.length (Nat.le_refl _)
  have hk32 : K32 (wantsL l q q.length) := fun k hk => (hkk k hk).1
  have hKs := kr_ksv hF hk32
  have hfn : notTuple (.func (.func 100) #[] #[]) = true := rfl
  have hfc : (Value.func (.func 100) #[] #[]).cells = #[.func (.func 100) #[] #[]] := rfl
  refine aw_seq ?_
  refine aw_ops (by kernel_rfl) (fun K hK => ?_)
  simp (disch := first | omega | (simp only [lnS]; try omega)) [-getElem?_pos, -getElem?_neg, q5, -notTuple, x1, x2, hfn, hfc, eval_fnG]
  refine ⟨by kernel_rfl, (ordered_ac (nro := nro) (γ := γ) hKs hk32 (fun k hk => (hkk k hk).2) hnd h12 (by omega)).mono ?_⟩
  rintro w G2 ⟨lw2, F2, hF2, hF2l⟩
  obtain ⟨w1, w2⟩ := own_nt hF2
  have hle2 := lw2.2
  have hs32 := K32.sortK hk32
  have hsl : (sortK (wantsL l q q.length)).length ≤ 100 := by rw [(sortK_perm _).length_eq]; omega
  try simp (disch := first | omega | (simp only [lnS]; try omega)) [-getElem?_pos, -getElem?_neg, -notTuple, w1, w2]
  refine ⟨by kernel_rfl, (once_ac (nro := nro) (γ := γ) (kr_ksv hF2 hs32) hs32 ((sortK_perm _).nodup_iff.2 hnd) hsl (by omega)).mono ?_⟩
  rintro u G3 ⟨lw3, F3, hF3, hF3l⟩
  obtain ⟨u1, u2⟩ := own_nt hF3
  try simp (disch := first | omega | (simp only [lnS]; try omega)) [-getElem?_pos, -getElem?_neg, -notTuple, u1, u2]
  refine hK _ _ ?_; clear hK K
  (refine aw_ret ?_; simp (disch := first | omega | (simp only [lnS]; try omega)) [-getElem?_pos, -getElem?_neg, thenQ_ret, scopeQ_ret, inBlockQ_ret, RQ, resL, resV])
  have hle3 := lw3.2
  exact ⟨⟨fun j hj => (lw3.1 j (by omega)).trans ((lw2.1 j (by omega)).trans (lw.1 j hj)), by omega⟩, F3, hF3, fun j hj => by have := hF3l j hj; omega⟩
 obtain ⟨j, a, bb, us, pv, wv, bv, kv, hx, hbb, ha, hcell, hus, hC⟩ := hQ.at_ i _ (hn_get hi)
 have hw := hQ.wf _ (List.mem_of_getElem? (hn_get hi))
 have hbG : hget G j = some bb := (lw.1 j (hget_lt hbb)).trans hbb
 have hul := hC.len
 have hus' := hus.symm
 clear hus
 have hset : ∀ Z : List Value, Z.length = 104 → setR Z 0 us = us := fun Z hZ => setR_all _ _ (by omega)
 have c34 : us[34]? = some pv := by
  have := hC.op.c2
  rwa [List.getElem?_take_of_lt (by omega), List.getElem?_drop] at this
 have hwl := wants_len (l := l) hrq i (by omega)
 have hps := (rightO_sm (rightQ_op hrq hi)).1
 have hk32 : ∀ k ∈ (hn q i).op.parents, k.length = 32 := fun k hk => (hw.op.parents k hk).1
 have hacc0 := hC.op.parents.acc hk32
 have p1 := hacc0.nt
 have p2 := hacc0.cs
 have pxl := hacc0.len
 have hwi : wantsL l q (i + 1) = wantsL l q i ++ (hn q i).op.parents.filter (wantK l q) := rfl
 have hkw : ∀ k ∈ wantsL l q i, k.length = 32 := fun k hk => (wants_k (l := l) hQ.wf i (by omega) k hk).1
 (refine aw_ops (by kernel_rfl) (fun K hK => ?_); simp (disch := first | omega | (simp only [lnS]; try omega)) [-getElem?_pos, -getElem?_neg, q19, q20, hi]; refine hK _ _ ?_; clear hK K)
 refine aw_seq ?_
 refine aw_t (by (first | (simp [eval_tmp, put_at, hi]; done) | (simp [eval_tmp, put_at, hi]; omega))) (by kernel_rfl) ?_
 refine aw_skip ?_
 refine aw_seq ?_
 refine aw_block ?_
 refine aw_seq ?_
 (refine aw_ops (by kernel_rfl) (fun K hK => ?_); simp (disch := first | omega | (simp only [lnS]; try omega)) [-getElem?_pos, -getElem?_neg, q18, q20, -notTuple, q1, q2, nt_intG, nt_aggG, -xindexAddr, hx, hbG, hus', hul, ha, hp0, all_zl, hset, hle1]; refine hK _ _ ?_; clear hK K)
 obtain ⟨lw2, b7⟩ := boxed (H := G) us 60
 have hF := hF.low (H' := G ++ ([some ⟨us, 60, none⟩] : AH)) (fun j hj => hget_left (hF.lt j hj))
 have lw := lw.both lw2
 generalize G ++ [some ⟨us, 60, none⟩] = G2 at *
 generalize wantsL l q i = W0 at *
 generalize (hn q i).op.parents = ps at *
 refine aw_seq ?_
 (refine aw_ops (by kernel_rfl) (fun K hK => ?_); simp (disch := first | omega | (simp only [lnS]; try omega)) [-getElem?_pos, -getElem?_neg, b7, c34, hul, -notTuple, p1, p2, nt_intG, -xlen, pxl]; refine hK _ _ ?_; clear hK K)
 refine aw_block ?_
 refine aw_loop (fun c2 α G => ∃ (k : Nat) (x : Value) (F : List Nat), k + c2 = ps.length ∧ Low H.length H G ∧ α 0 = nv ∧ α 1 = qv ∧ α 5 = x ∧ α 18 = qv ∧ α 19 = .int .i64 (q.length : Nat) ∧ α 20 = .int .i64 (i : Nat) ∧ α 26 = pv ∧ α 27 = .int .i64 (ps.length : Nat) ∧ α 28 = .int .i64 (k : Nat) ∧ OwnF G x 38 32 (kr (W0 ++ (ps.take k).filter (wantK l q))) F ∧ ∀ j ∈ F, H.length ≤ j) ps.length ?_ ?_
 ·exact ⟨0, x, F, by omega, lw, by (first | (simp [put_at, put_none, fr0_at, q0]; done) | rfl), by (first | (simp [put_at, put_none, fr0_at, q1']; done) | rfl), by (first | (simp [put_at, put_none, fr0_at, q5]; done) | rfl), by (first | (simp [put_at, put_none, fr0_at, q18]; done) | rfl), by (first | (simp [put_at, put_none, fr0_at, q19]; done) | rfl), by (first | (simp [put_at, put_none, fr0_at, q20]; done) | rfl), by (first | (simp [put_at, put_none, fr0_at]; done) | rfl), by (first | (simp [put_at, put_none, fr0_at]; done) | rfl), by (first | (simp [put_at, put_none, fr0_at]; done) | rfl), by simpa using hF, hFl⟩
 clear q0 q1' q5 q18 q19 q20 hF hFl x1 x2 lw hle1
 rintro c2 α G3 ⟨k, x, F, hkc, lw, q0, q1', q5, q18, q19, q20, q26, q27, q28, hF, hFl⟩
 obtain ⟨x1, x2⟩ := own_nt hF
 have hle1 := lw.2
 refine aw_seq ?_
 by_cases hk : k < ps.length
 case neg =>
  obtain rfl : k = ps.length := by omega
  rw [List.take_length] at hF
  (refine aw_ops (by kernel_rfl) (fun K hK => ?_); simp (disch := first | omega | (simp only [lnS]; try omega)) [-getElem?_pos, -getElem?_neg, q27, q28]; refine hK _ _ ?_; clear hK K)
  refine aw_seq ?_
  refine aw_f (by (first | (simp [eval_tmp, put_at]; done) | (simp [eval_tmp, put_at]; omega))) (by kernel_rfl) ?_
  refine aw_exit ?_
  (refine aw_ops (by kernel_rfl) (fun K hK => ?_); simp (disch := first | omega | (simp only [lnS]; try omega)) [-getElem?_pos, -getElem?_neg, q20]; refine hK _ _ ?_; clear hK K)
  exact ⟨c - 1, by omega, i + 1, x, F, by omega, lw, by (first | (simp [put_at, put_none, fr0_at, q0]; done) | rfl), by (first | (simp [put_at, put_none, fr0_at, q1']; done) | rfl), by (first | (simp [put_at, put_none, fr0_at, q5]; done) | rfl), by (first | (simp [put_at, put_none, fr0_at, q18]; done) | rfl), by (first | (simp [put_at, put_none, fr0_at, q19]; done) | rfl), by (first | (simp [put_at, put_none, fr0_at]; done) | rfl), by rw [hwi]; exact hF, hFl⟩
 obtain ⟨p, y, r1, r2, r3, r4, r5⟩ := hacc0.at_ k hk
 have r5 := r5 G3 lw
 subst r4
 obtain ⟨z, hz⟩ : ∃ z, z = ps.getD k [] := ⟨_, rfl⟩
 have hzi : ps[k]? = some z := by rw [hz, List.getD_eq_getElem?_getD, List.getElem?_eq_getElem hk]; rfl
 have hz32 : z.length = 32 := hk32 z (List.mem_of_getElem? hzi)
 have hzl : (iv .u8 z).length = 32 := by rw [iv_length, hz32]
 have htz : (iv .u8 z).take 32 = iv .u8 z := List.take_of_length_le (by omega)
 rw [← hz] at r5
 have hset2 : ∀ Z : List Value, Z.length = 32 → setR Z 0 (iv .u8 z) = iv .u8 z := fun Z hZ => setR_all _ _ (by omega)
 have hnx : (ps.take (k + 1)).filter (wantK l q) = (ps.take k).filter (wantK l q) ++ if wantK l q z then [z] else [] := by
  rw [List.take_add_one, hzi, List.filter_append]
  congr 1
  cases h : wantK l q z <;> simp [h]
 (refine aw_ops (by kernel_rfl) (fun K hK => ?_); simp (disch := first | omega | (simp only [lnS]; try omega)) [-getElem?_pos, -getElem?_neg, q27, q28, hk]; refine hK _ _ ?_; clear hK K)
 refine aw_seq ?_
 refine aw_t (by (first | (simp [eval_tmp, put_at, hk]; done) | (simp [eval_tmp, put_at, hk]; omega))) (by kernel_rfl) ?_
 refine aw_skip ?_
 refine aw_seq ?_
 refine aw_block ?_
 refine aw_seq ?_
 (refine aw_ops (by kernel_rfl) (fun K hK => ?_); simp (disch := first | omega | (simp only [lnS]; try omega)) [-getElem?_pos, -getElem?_neg, q26, q28, -notTuple, p1, p2, nt_intG, nt_aggG, r1, -xindexAddr, r2, -xload, r5, hzl, all_zl, hset2, hle1]; refine hK _ _ ?_; clear hK K)
 obtain ⟨lw5, b9⟩ := boxed (H := G3) (iv .u8 z) 38
 obtain ⟨g, hg⟩ : ∃ g, g = G3.length := ⟨_, rfl⟩
 have lw6 := lw.both lw5
 have hF2 := hF.low (H' := G3 ++ ([some ⟨iv .u8 z, 38, none⟩] : AH)) (fun j hj => hget_left (hF.lt j hj))
 rw [← hg] at b9 ⊢
 generalize G3 ++ [some ⟨iv .u8 z, 38, none⟩] = G4 at *
 have xl9 : xload Try.prog 38 (.pointer (some ⟨g, 0, none⟩)) G4 = some (.agg (iv .u8 z).toArray) := by simp [xload, b9, hzl, htz]
 have f1 := find_rc (γ := γ) (hN.lowG lw6) hl hz32
 have f2 := qfind_rc (γ := γ) (hQ.lowG lw6) hq hz32
 have hwz : wantK l q z = (decide (findI l l.length z < 0) && decide (findIH q q.length z < 0)) := rfl
 generalize findI l l.length z = e1 at *
 generalize findIH q q.length z = e2 at *
 refine aw_seq ?_
 refine aw_cut (fun α G5 => α 41 = .bool (wantK l q z) ∧ α 0 = nv ∧ α 1 = qv ∧ α 5 = x ∧ α 9 = .pointer (some ⟨g, 0, none⟩) ∧ α 18 = qv ∧ α 19 = .int .i64 (q.length : Nat) ∧ α 20 = .int .i64 (i : Nat) ∧ α 26 = pv ∧ α 27 = .int .i64 (ps.length : Nat) ∧ α 28 = .int .i64 (k : Nat) ∧ G5 = G4) ?_ ?_
 ·refine aw_ops (by kernel_rfl) (fun K hK => ?_)
  simp (disch := first | omega | (simp only [lnS]; try omega)) [-getElem?_pos, -getElem?_neg, q0, -xload, xl9, -notTuple, n1, n2, nt_intG, nt_aggG, hzl]
  refine ⟨by kernel_rfl, ac_of_rc f1 (by simp [pv_iv, pv_int, pv_bool, pv_string, pv_tup2, pv_tup3, iv_plain, p2_int, p2_bool, p2_string]) ?_⟩
  by_cases h1 : e1 < 0
  ·rw [decide_eq_true h1, Bool.true_and] at hwz
   simp (disch := first | omega | (simp only [lnS]; try omega)) [-getElem?_pos, -getElem?_neg, h1, q1', -xload, xl9, -notTuple, q1, q2, nt_intG, nt_aggG, hzl]
   refine ⟨by kernel_rfl, ac_of_rc f2 (by simp [pv_iv, pv_int, pv_bool, pv_string, pv_tup2, pv_tup3, iv_plain, p2_int, p2_bool, p2_string]) ?_⟩
   by_cases h2 : e2 < 0
   ·rw [decide_eq_true h2] at hwz
    try simp (disch := first | omega | (simp only [lnS]; try omega)) [-getElem?_pos, -getElem?_neg, h2]
    refine hK _ _ ?_; clear hK K
    exact ⟨by rw [hwz]; (first | (simp [put_at, put_none, fr0_at]; done) | rfl), by (first | (simp [put_at, put_none, fr0_at, q0]; done) | rfl), by (first | (simp [put_at, put_none, fr0_at, q1']; done) | rfl), by (first | (simp [put_at, put_none, fr0_at, q5]; done) | rfl), by (first | (simp [put_at, put_none, fr0_at]; done) | rfl), by (first | (simp [put_at, put_none, fr0_at, q18]; done) | rfl), by (first | (simp [put_at, put_none, fr0_at, q19]; done) | rfl), by (first | (simp [put_at, put_none, fr0_at, q20]; done) | rfl), by (first | (simp [put_at, put_none, fr0_at, q26]; done) | rfl), by (first | (simp [put_at, put_none, fr0_at, q27]; done) | rfl), by (first | (simp [put_at, put_none, fr0_at, q28]; done) | rfl), rfl⟩
   ·rw [decide_eq_false h2] at hwz
    try simp (disch := first | omega | (simp only [lnS]; try omega)) [-getElem?_pos, -getElem?_neg, h2]
    refine hK _ _ ?_; clear hK K
    exact ⟨by rw [hwz]; (first | (simp [put_at, put_none, fr0_at]; done) | rfl), by (first | (simp [put_at, put_none, fr0_at, q0]; done) | rfl), by (first | (simp [put_at, put_none, fr0_at, q1']; done) | rfl), by (first | (simp [put_at, put_none, fr0_at, q5]; done) | rfl), by (first | (simp [put_at, put_none, fr0_at]; done) | rfl), by (first | (simp [put_at, put_none, fr0_at, q18]; done) | rfl), by (first | (simp [put_at, put_none, fr0_at, q19]; done) | rfl), by (first | (simp [put_at, put_none, fr0_at, q20]; done) | rfl), by (first | (simp [put_at, put_none, fr0_at, q26]; done) | rfl), by (first | (simp [put_at, put_none, fr0_at, q27]; done) | rfl), by (first | (simp [put_at, put_none, fr0_at, q28]; done) | rfl), rfl⟩
  ·rw [decide_eq_false h1, Bool.false_and] at hwz
   try simp (disch := first | omega | (simp only [lnS]; try omega)) [-getElem?_pos, -getElem?_neg, h1]
   refine hK _ _ ?_; clear hK K
   exact ⟨by rw [hwz]; (first | (simp [put_at, put_none, fr0_at]; done) | rfl), by (first | (simp [put_at, put_none, fr0_at, q0]; done) | rfl), by (first | (simp [put_at, put_none, fr0_at, q1']; done) | rfl), by (first | (simp [put_at, put_none, fr0_at, q5]; done) | rfl), by (first | (simp [put_at, put_none, fr0_at]; done) | rfl), by (first | (simp [put_at, put_none, fr0_at, q18]; done) | rfl), by (first | (simp [put_at, put_none, fr0_at, q19]; done) | rfl), by (first | (simp [put_at, put_none, fr0_at, q20]; done) | rfl), by (first | (simp [put_at, put_none, fr0_at, q26]; done) | rfl), by (first | (simp [put_at, put_none, fr0_at, q27]; done) | rfl), by (first | (simp [put_at, put_none, fr0_at, q28]; done) | rfl), rfl⟩
 clear q0 q1' q5 q18 q19 q20 q26 q27 q28
 rintro α G5 ⟨q41, q0, q1', q5, q9, q18, q19, q20, q26, q27, q28, rfl⟩
 cases hwk : wantK l q z with
 | false =>
  rw [hwk] at q41 hnx
  refine aw_f (by (first | (simp [eval_tmp, put_at, q41]; done) | (simp [eval_tmp, put_at, q41]; omega))) (by kernel_rfl) ?_
  refine aw_skip ?_
  (refine aw_ops (by kernel_rfl) (fun K hK => ?_); simp (disch := first | omega | (simp only [lnS]; try omega)) [-getElem?_pos, -getElem?_neg, q28]; refine hK _ _ ?_; clear hK K)
  exact ⟨c2 - 1, by omega, k + 1, x, F, by omega, lw6, by (first | (simp [put_at, put_none, fr0_at, q0]; done) | rfl), by (first | (simp [put_at, put_none, fr0_at, q1']; done) | rfl), by (first | (simp [put_at, put_none, fr0_at, q5]; done) | rfl), by (first | (simp [put_at, put_none, fr0_at, q18]; done) | rfl), by (first | (simp [put_at, put_none, fr0_at, q19]; done) | rfl), by (first | (simp [put_at, put_none, fr0_at, q20]; done) | rfl), by (first | (simp [put_at, put_none, fr0_at, q26]; done) | rfl), by (first | (simp [put_at, put_none, fr0_at, q27]; done) | rfl), by (first | (simp [put_at, put_none, fr0_at]; done) | rfl), by rw [hnx]; simpa using hF2, hFl⟩
 | true =>
 rw [hwk, if_pos rfl] at hnx
 rw [hwk] at q41
 refine aw_t (by (first | (simp [eval_tmp, put_at, q41]; done) | (simp [eval_tmp, put_at, q41]; omega))) (by kernel_rfl) ?_
 have hle3 := lw6.2
 have hfl := List.length_filter_le (wantK l q) (ps.take k)
 rw [List.length_take] at hfl
 have hk32' : K32 (W0 ++ (ps.take k).filter (wantK l q)) := fun y hy => by
  rcases List.mem_append.1 hy with hy | hy
  ·exact hkw y hy
  ·exact hk32 y (List.mem_of_mem_take (List.mem_filter.1 hy).1)
 have hkl := kr_len hk32'
 rw [List.length_append] at hkl
 obtain ⟨O, hO⟩ : ∃ O, O = W0 ++ (ps.take k).filter (wantK l q) := ⟨_, rfl⟩
 have hOn : W0 ++ (ps.take (k + 1)).filter (wantK l q) = O ++ [z] := by rw [hnx, hO, List.append_assoc]
 rw [← hO] at hkl hF2
 have hxc : xcells 32 (.slice (some ⟨G5.length, 0, none⟩) 1 1) (G5 ++ [some ⟨iv .u8 z, 38, some 32⟩]) = some (iv .u8 z) := by simp [xcells, hget_app0, hzl, htz]
 obtain ⟨v', G6, hap, ho3, hl3, hk3⟩ := ownF_append (P := Try.prog) (nro := nro) (t := 36) (e := 38) (H := G5 ++ [some ⟨iv .u8 z, 38, some 32⟩]) (v := x) (x := .slice (some ⟨G5.length, 0, none⟩) 1 1) (sz := 32) (cells := kr O) (news := iv .u8 z) (F := F) (by simp) (by simp) (by omega) (by simp) (hF2.low (fun j hj => hget_left (hF2.lt j hj)))
  (fun j hj => by have := hFl j hj; omega) (fun s e => by cases e) hxc (fun e => by rw [e] at hzl; simp at hzl) (by rw [hzl]) (by rw [hkl, hzl]; simp; omega) (by rw [hkl, hzl]; simp only [maxLen]; omega)
 have fk := fill_keyG (k := .u8) (x := z) (n := 32) (zl 32) hzl
 have hno : nro ≤ G5.length := by omega
 (refine aw_ops (by kernel_rfl) (fun K hK => ?_); simp (disch := first | omega | (simp only [lnS]; try omega)) [-getElem?_pos, -getElem?_neg, q5, q9, -xload, xl9, -notTuple, x1, x2, nt_intG, nt_slG, nt_aggG, all_zl, hzl, -xfill, fk, hno, -xappend, hap]; refine hK _ _ ?_; clear hK K)
 (refine aw_ops (by kernel_rfl) (fun K hK => ?_); simp (disch := first | omega | (simp only [lnS]; try omega)) [-getElem?_pos, -getElem?_neg, q28]; refine hK _ _ ?_; clear hK K)
 refine ⟨c2 - 1, by omega, k + 1, v', _, by omega, ⟨fun j hj => (hk3 j (by simp; omega) (fun h => by have := hFl _ h; omega)).trans ((hget_left (by omega)).trans (lw6.1 j hj)), by rw [hl3]; simp; omega⟩, by (first | (simp [put_at, put_none, fr0_at, q0]; done) | rfl), by (first | (simp [put_at, put_none, fr0_at, q1']; done) | rfl), by (first | (simp [put_at, put_none, fr0_at]; done) | rfl), by (first | (simp [put_at, put_none, fr0_at, q18]; done) | rfl), by (first | (simp [put_at, put_none, fr0_at, q19]; done) | rfl), by (first | (simp [put_at, put_none, fr0_at, q20]; done) | rfl), by (first | (simp [put_at, put_none, fr0_at, q26]; done) | rfl), by (first | (simp [put_at, put_none, fr0_at, q27]; done) | rfl), by (first | (simp [put_at, put_none, fr0_at]; done) | rfl), by rw [hOn, kr_app, kr_one]; exact ho3, fun j hj => ?_⟩
 rw [List.mem_singleton] at hj
 rw [hj]
 simp
 omega
end
section
def witE (l : List HeldD) (z : Int) : Int := if rightQ l = false then 1 else if z < 0 ∨ (l.length : Int) ≤ z then 22 else 0
def withoutL (l : List HeldD) (a : Nat) : List HeldD := l.take a ++ l.drop (a + 1)
def RWithQ (l : List HeldD) (z : Int) (H0 H : AH) (v' : Value) (H' : AH) : Prop :=
 Low H.length H H' ∧ ∃ sv, v' = .tuple #[sv, .int .i64 (witE l z)] ∧ notTuple sv = true ∧ sv.cells = #[sv] ∧ ((witE l z = 0 ∧ ∀ G, Low H0.length H0 G → KeepN H.length H' G → HdV G sv (withoutL l z.toNat)) ∨ (witE l z ≠ 0 ∧ sv = .slice none 0 0))
theorem RWithQ.bad {l : List HeldD} {y : Int} {H0 H H' : AH} {z : Int} (hl : Low H.length H H') (h : witE l y = z) (hz : z ≠ 0) : RWithQ l y H0 H (.tuple #[.slice none 0 0, .int .i64 z]) H' :=
 ⟨hl, _, by rw [h], rfl, rfl, .inr ⟨by rw [h]; exact hz, rfl⟩⟩
theorem fl_cut {R : List (List Value)} (h : ∀ r ∈ R, r.length = 104) {a : Nat} (ha : a ≤ R.length) : R.flatten.take (a * 104) = (R.take a).flatten ∧ R.flatten.drop (a * 104) = (R.drop a).flatten := by
 have h1 : R.flatten = (R.take a).flatten ++ (R.drop a).flatten := by rw [← List.flatten_append, List.take_append_drop]
 have h2 := fl_len (L := R.take a) (n := 104) (fun r hr => h r (List.mem_of_mem_take hr))
 rw [List.length_take, Nat.min_eq_left ha] at h2
 rw [h1]
 exact ⟨by rw [← h2, List.take_left], by rw [← h2, List.drop_left]⟩
end
section
theorem build_updq (d : Addr) (n : Nat) : xbuild Try.prog 41 [(0, .int .i64 1), (1, .int .u32 1), (3, .int .i64 4), (2, .slice (some d) n n), (6, .agg (iv .u8 (key1 1)).toArray)] = some (.agg (opRow (opC1 1 1 4 [] []) (.slice (some d) n n) (.slice none 0 0) (.slice none 0 0)).toArray) := by kernel_rfl
attribute [local simp] wb_bool wb_undef with_lit XL_nil XL_cons XLc_val XLc_call step1_eq stepW_t stepW_f stepC_n stepC_s stepX_s stepX_n stepN_s calleeX xrecv oneV xop_eq xopR_s xopR_n wantedA_eq wantedG_n wantedG_s plain1_int plain1_bool plain1_string bits_i64 bits_u64 bits_u32 bits_u16 bits_u8 xeqA xagg xcmp xarr allK_iv num_iv calleeOf xread xeff xbin xint xnil xun xstr xload xconv xpart xfield xfieldAddr xindexAddr xindex bnd asInt? xslice xlen xmin xmax xbuild xfill xappend xapp2 xappstr xappmk xcap xcopy xcells eval_tmp eval_const put_at put_none fr0_at cells_agg cells_int cells_bool cells_string cells_ptr cells_slice notTuple tab iv_all hget_app hget_app0 hget_cons0 hget_cons set_app set_app0 setR setR_one QL_nil QL_cons QLc_val stepQ_t stepQ_f stepQC_n stepQC_s stepQX_s SL_nil SL_cons SLc_val stepS_t stepS_f ltT ltF leT leF eqT eqF ltTn ltFn leTn leFn eqTn eqFn beqT beqF bneT bneF wi64 wu64 wu32 wu16 wu8 tmodP tdivP hgetL hgetNe hgetEq setL nums_def nums_len Nat.succ_le_of_lt List.getElem?_cons_zero List.getElem?_cons_succ Option.getD_some Int.toNat_add Int.toNat_mul agM okM agB agI agS agP agL agA okB okI okS okP okSl okA
theorem updateQ_ac {nro : Nat} {γ : Nat → Option Nat} {H : AH} {k : List Int} (hk32 : k.length = 32) (hnro : nro ≤ H.length) : AC Try.prog nro γ 85 #[.agg (iv .u8 k).toArray] H (fun v' H' => Low H.length H H' ∧ v' = .agg (opRow (opC1 1 1 4 [k] []) (.slice (some ⟨H.length + 2, 0, none⟩) 1 1) (.slice none 0 0) (.slice none 0 0)).toArray ∧ hget H' (H.length + 2) = some ⟨iv .u8 k, 38, some 32⟩) := by
 have hb := build_updq ⟨H.length + 2, 0, none⟩ 1
 have hkk := build_key 1
 rw [opRow_c1 1 1 4 [k] []] at hb
 have hrl : (opRow (opC1 1 1 4 [k] []) (.slice (some ⟨H.length + 2, 0, none⟩) 1 1) (.slice none 0 0) (.slice none 0 0)).length = 71 := rfl
 generalize iv .u8 (key1 1) = kk at *
 generalize opRow (opC1 1 1 4 [k] []) (.slice (some ⟨H.length + 2, 0, none⟩) 1 1) (.slice none 0 0) (.slice none 0 0) = R at *
 have hset : ∀ Z : List Value, Z.length = 71 → setR Z 0 R = R := fun Z hZ => setR_all _ _ (by omega)
 have htk : R.take 71 = R := List.take_of_length_le (by omega)
 have hkl : (iv .u8 k).length = 32 := by rw [iv_length, hk32]
 have htz : (iv .u8 k).take 32 = iv .u8 k := List.take_of_length_le (by omega)
 have fk := fill_keyG (k := .u8) (x := k) (n := 32) (zl 32) hkl
 generalize iv .u8 k = kc at *
 refine ac_of_aw Try.func85 rfl Try.ntmps85 Try.results85 (by simp) ?_
 refine aw_seq ?_
 (refine aw_ops (by kernel_rfl) (fun K hK => ?_); simp (disch := first | omega | (simp only [lnS]; try omega)) [-getElem?_pos, -getElem?_neg, all_zl, hkl, nt_aggG]; refine hK _ _ ?_; clear hK K)
 obtain ⟨ZZ, hZZ, hZl⟩ : ∃ ZZ : List Value, (Value.int .i64 0 :: .int .u32 0 :: .slice none 0 0 :: .int .i64 0 :: .slice none 0 0 :: (iv .u8 (zl 64) ++ [.string ByteArray.empty, .slice none 0 0])) = ZZ ∧ ZZ.length = 71 := ⟨_, rfl, by simp⟩
 rw [hZZ]
 have hset := hset ZZ hZl
 obtain ⟨n, hn⟩ : ∃ n, n = H.length := ⟨_, rfl⟩
 obtain ⟨G, hG⟩ : ∃ G : AH, G = H ++ [some ⟨kc, 38, none⟩, some ⟨ZZ, 41, none⟩] := ⟨_, rfl⟩
 have b1 : hget G n = some ⟨kc, 38, none⟩ := by rw [hG, hn, hget_app0]; rfl
 have b2 : hget G (n + 1) = some ⟨ZZ, 41, none⟩ := by rw [hG, hn, hget_app]; rfl
 have lw : Low n H G := by rw [hG, hn]; exact Low.push (Nat.le_refl _) _
 have gl : G.length = n + 2 := by rw [hG, hn]; simp
 rw [← hG, ← hn]
 rw [← hn] at hb hnro
 clear hG
 rw [← gl] at hb
 have hn2 : nro ≤ n + 1 := by omega
 refine aw_seq ?_
 refine aw_cut (fun α G2 => α 2 = .pointer (some ⟨n + 1, 0, none⟩) ∧ hget G2 (n + 1) = some ⟨R, 41, none⟩ ∧ Low n H G2 ∧ hget G2 (n + 2) = some ⟨kc, 38, some 32⟩) ?_ ?_
 ·obtain ⟨lw3, b3⟩ := boxed2 (H := G) kc 38 32
  rw [gl] at b3
  have c2 := (lw3.1 _ (hget_lt b2)).trans b2
  (refine aw_ops (by kernel_rfl) (fun K hK => ?_); simp (disch := first | omega | (simp only [lnS]; try omega)) [-getElem?_pos, -getElem?_neg, b1, hkl, htz, -xbuild, hkk, -xfill, fk, nt_aggG, nt_slG, all_zl, hb, b2, c2, hrl, hZl, hset, hn2]; refine hK _ _ ?_; clear hK K)
  exact ⟨by (first | (simp [put_at, put_none, fr0_at]; done) | rfl), by rw [hget_left (by rw [List.length_set]; omega), hget_set_eq (hget_lt b2)], ⟨fun j hj => (hget_left (by rw [List.length_set]; omega)).trans ((hget_set_ne (by omega)).trans (lw.1 j hj)), by simp; omega⟩, by rw [show n + 2 = (G.set (n + 1) (some ⟨R, 41, none⟩)).length by rw [List.length_set]; omega, hget_app0]; rfl⟩
 rintro α G2 ⟨q2, b2', lw2, b3⟩
 (refine aw_ret ?_; simp (disch := first | omega | (simp only [lnS]; try omega)) [-getElem?_pos, -getElem?_neg, thenQ_ret, scopeQ_ret, inBlockQ_ret, RQ, resL, resV, q2, b2', hrl, htk])
 exact ⟨lw2, b3⟩
end
section
def hO1 : OpD := opC1 1 1 4 [key1 2] []
def hO2 : OpD := opC1 0 1 1 [] [0]
def hD1 : HeldD := ⟨key1 3, hO1, []⟩
def hD2 : HeldD := ⟨key1 2, hO2, []⟩
theorem hO1_wf : hO1.Wf := opC1_wf (by unfold I64; omega) (by unfold U32; omega) (by unfold I64; omega) (fun p hp => by simp at hp; subst hp; exact key1_ok (by omega)) (by simp) (by simp) (Nat.zero_le _)
theorem hO2_wf : hO2.Wf := opC1_wf (by unfold I64; omega) (by unfold U32; omega) (by unfold I64; omega) (by simp) (Nat.zero_le _) (by unfold I64; simp) (by simp)
theorem hD1_wf : hD1.Wf := ⟨key1_ok (by omega), hO1_wf, fun k hk => (by cases hk), Nat.zero_le _⟩
theorem hD2_wf : hD2.Wf := ⟨key1_ok (by omega), hO2_wf, fun k hk => (by cases hk), Nat.zero_le _⟩
theorem qdat1 : putE [] hD1 = 0 ∧ putE [hD1] hD2 = 0 := by decide +kernel
theorem qdat2 : wantsL [] [hD1] 1 = [key1 2] := by decide +kernel
theorem qdat3 : readyI [] [hD1] = -1 ∧ readyI [] [hD1, hD2] = 1 ∧ rightQ [hD1] = true ∧ rightQ [hD1, hD2] = true ∧ findIH [hD1, hD2] 2 (key1 2) = 1 := by decide +kernel
theorem sortK_one (k : List Int) : sortK [k] = [k] := List.perm_singleton.1 (sortK_perm [k])
theorem build_h1 (d : Addr) : xbuild Try.prog 60 [(0, .agg (iv .u8 (key1 3)).toArray), (1, .agg (opRow hO1 (.slice (some d) 1 1) (.slice none 0 0) (.slice none 0 0)).toArray)] = some (.agg (heldRow hD1 (.slice (some d) 1 1) (.slice none 0 0) (.slice none 0 0) (.slice none 0 0)).toArray) := by kernel_rfl
theorem build_h2 (d : Addr) : xbuild Try.prog 60 [(0, .agg (iv .u8 (key1 2)).toArray), (1, .agg (opRow hO2 (.slice none 0 0) (.slice (some d) 1 1) (.slice none 0 0)).toArray)] = some (.agg (heldRow hD2 (.slice none 0 0) (.slice (some d) 1 1) (.slice none 0 0) (.slice none 0 0)).toArray) := by kernel_rfl
theorem held_hc {G : AH} {x : HeldD} {pv wv bv kv : Value} (hw : x.Wf) (h1 : KsV G pv x.op.parents) (h2 : InV G wv x.op.who) (h3 : BxV G bv x.op.boxes) (h4 : KsV G kv x.got) : ∃ pv' wv' bv' kv', HdC G (heldRow x pv wv bv kv) x pv' wv' bv' kv' := held_c hw (held_val h1 h2 h3 h4)
end
section
def WithoutOK : Prop := ∀ (γ : Nat → Option Nat) (nro : Nat) (H : AH) (qv : Value) (l : List HeldD) (z : Int), HdA H qv l → l.length ≤ maxLen → (∀ y ∈ l, y.got.length ≤ 1000) → nro ≤ H.length →
 AC Try.prog nro γ 39 #[qv, .int .i64 z] H (fun v' H' => Low H.length H H' ∧ ∃ sv, v' = .tuple #[sv, .int .i64 (witE l z)] ∧ ((witE l z = 0 ∧ NewGH H.length H' sv (withoutL l z.toNat)) ∨ (witE l z ≠ 0 ∧ sv = .slice none 0 0)))
theorem nil_hda (H : AH) : HdA H (.slice none 0 0) [] := HdV.hda (CD.Val.nil (fun x e => by cases e)) (fun x hx => by cases hx)
theorem NewGH.hda {n : Nat} {H G : AH} {v : Value} {l : List HeldD} (h : NewGH n H v l) (hw : ∀ x ∈ l, x.Wf) (hk : KeepN n H G) : HdA G v l := (h G hk).hda hw
theorem wit0 : witE [hD1, hD2] 0 = 0 ∧ withoutL [hD1, hD2] 0 = [hD2] := ⟨by decide +kernel, rfl⟩
theorem q1_wf : ∀ x ∈ [hD1], x.Wf := fun x hx => by rw [List.mem_singleton] at hx; subst hx; exact hD1_wf
theorem q2_wf : ∀ x ∈ [hD1, hD2], x.Wf := fun x hx => by
 simp at hx
 rcases hx with rfl | rfl
 ·exact hD1_wf
 ·exact hD2_wf
end
section
theorem cut_rows {R : List (List Value)} {Z : List Value} {a : Nat} (hR : ∀ r ∈ R, r.length = 104) (ha : a < R.length) (hZ : Z.length = 104) :
  setR (setR R.flatten (a * 104) (R.drop (a + 1)).flatten) ((R.length - 1) * 104) Z = (R.take a ++ R.drop (a + 1)).flatten ++ Z := by
 obtain ⟨x, hx⟩ : ∃ x, R[a]? = some x := ⟨_, List.getElem?_eq_getElem ha⟩
 have hxl := hR x (List.mem_of_getElem? hx)
 have hsplit : R = R.take a ++ x :: R.drop (a + 1) := by
  have h1 : R.drop a = x :: R.drop (a + 1) := by
   obtain ⟨h, e⟩ := List.getElem?_eq_some_iff.1 hx
   rw [List.drop_eq_getElem_cons h, e]
  rw [← h1, List.take_append_drop]
 have hA : (R.take a).flatten.length = a * 104 := by
  rw [fl_len (n := 104) (fun r hr => hR r (List.mem_of_mem_take hr)), List.length_take, Nat.min_eq_left (by omega)]
 have hB : (R.drop (a + 1)).flatten.length = (R.length - (a + 1)) * 104 := by
  rw [fl_len (n := 104) (fun r hr => hR r (List.mem_of_mem_drop hr)), List.length_drop]
 have hflat : R.flatten = (R.take a).flatten ++ (x ++ (R.drop (a + 1)).flatten) := by
  have := congrArg List.flatten hsplit
  rw [List.flatten_append, List.flatten_cons] at this
  exact this
 rw [hflat, List.flatten_append]
 generalize (R.take a).flatten = A at *
 generalize (R.drop (a + 1)).flatten = B at *
 have e1 : setR (A ++ (x ++ B)) (a * 104) B = A ++ (B ++ (x ++ B).drop B.length) := by
  rw [← hA, ← Nat.add_zero A.length, setR_right _ _ _ _ (by simp), setR_frontF _ _ (by simp)]
 rw [e1, ← List.append_assoc]
 have hD : ((x ++ B).drop B.length).length = 104 := by simp [hxl]
 generalize (x ++ B).drop B.length = D at *
 have hAB : (A ++ B).length = (R.length - 1) * 104 := by
  rw [List.length_append, hA, hB, ← Nat.add_mul]
  congr 1
  omega
 rw [← hAB, ← Nat.add_zero (A ++ B).length, setR_right _ _ _ _ (by omega), setR_all _ _ (by omega)]
attribute [local simp] wb_bool wb_undef with_lit XL_nil XL_cons XLc_val XLc_call step1_eq stepW_t stepW_f stepC_n stepC_s stepX_s stepX_n stepN_s calleeX xrecv oneV xop_eq xopR_s xopR_n wantedA_eq wantedG_n wantedG_s plain1_int plain1_bool plain1_string bits_i64 bits_u64 bits_u32 bits_u16 bits_u8 xeqA xagg xcmp xarr allK_iv num_iv calleeOf xread xeff xbin xint xnil xun xstr xload xconv xpart xfield xfieldAddr xindexAddr xindex bnd asInt? xslice xlen xmin xmax xbuild xfill xappend xapp2 xappstr xappmk xcap xcopy xcells eval_tmp eval_const put_at put_none fr0_at cells_agg cells_int cells_bool cells_string cells_ptr cells_slice notTuple tab iv_all hget_app hget_app0 hget_cons0 hget_cons set_app set_app0 setR setR_one QL_nil QL_cons QLc_val stepQ_t stepQ_f stepQC_n stepQC_s stepQX_s SL_nil SL_cons SLc_val stepS_t stepS_f ltT ltF leT leF eqT eqF ltTn ltFn leTn leFn eqTn eqFn beqT beqF bneT bneF wi64 wu64 wu32 wu16 wu8 tmodP tdivP hgetL hgetNe hgetEq setL nums_def nums_len Nat.succ_le_of_lt List.getElem?_cons_zero List.getElem?_cons_succ Option.getD_some Int.toNat_add Int.toNat_mul agM okM agB agI agS agP agL agA okB okI okS okP okSl okA
theorem deleteH_ac {nro : Nat} {γ : Nat → Option Nat} {H : AH} {b a : Nat} {R : List (List Value)} (hb : hget H b = some ⟨R.flatten, 60, some 104⟩) (hnro : nro ≤ b) (hR : ∀ r ∈ R, r.length = 104) (ha : a < R.length) (hl : R.length ≤ 1000) :
  AC Try.prog nro γ 87 #[.slice (some ⟨b, 0, none⟩) R.length R.length, .int .i64 (a : Nat), .int .i64 ((a + 1 : Nat) : Int)] H (fun v' H' => v' = .slice (some ⟨b, 0, none⟩) (R.length - 1) (R.length - 1) ∧ ∃ Z, H' = H.set b (some ⟨(R.take a ++ R.drop (a + 1)).flatten ++ Z, 60, some 104⟩)) := by
 have ht : und Try.prog 58 = .slice 60 := by kernel_rfl
 have hs : szt Try.prog 60 = 104 := by kernel_rfl
 have hbl := hget_lt hb
 have hfl := fl_len hR
 obtain ⟨z, hz⟩ : ∃ z, zer Try.prog 60 = some z := by
  have : (zer Try.prog 60).isSome = true := by kernel_rfl
  exact Option.isSome_iff_exists.1 this
 have hzl : z.cells.size = 104 := by
  have : (zer Try.prog 60).map (fun z => z.cells.size) = some 104 := by kernel_rfl
  rw [hz] at this
  simpa using this
 have hzp : z.cells.toList.all plain1 = true := by
  have : (zer Try.prog 60).map (fun z => z.cells.toList.all plain1) = some true := by kernel_rfl
  rw [hz] at this
  simpa using this
 obtain ⟨x2, hx2⟩ : ∃ x2, x2 = if a + 1 = R.length then Value.slice (some ⟨b, 0, some 0⟩) 0 0 else .slice (some ⟨b, (a + 1) * 104, none⟩) (R.length - (a + 1)) (R.length - (a + 1)) := ⟨_, rfl⟩
 have f1 : xslice Try.prog 58 (.slice (some ⟨b, 0, none⟩) R.length R.length) none (some (.int .i64 (a : Nat))) H = some (.slice (some ⟨b, 0, none⟩) a a) := by
  unfold xslice
  simp only [ht, bnd, asInt?, hs]
  rw [if_pos ⟨by omega, by omega, by omega, by omega⟩]
  simp
 have f2 : xslice Try.prog 58 (.slice (some ⟨b, 0, none⟩) R.length R.length) (some (.int .i64 ((a + 1 : Nat) : Int))) none H = some x2 := by
  unfold xslice
  simp only [ht, bnd, asInt?, hs]
  rw [if_pos ⟨by omega, by omega, by omega, by omega⟩, hx2]
  by_cases e : a + 1 = R.length
  ·rw [if_pos ⟨by omega, by omega⟩, if_pos e]
  ·rw [if_neg (by omega), if_neg e]
   simp
 obtain ⟨_, c2⟩ := fl_cut hR (show a + 1 ≤ R.length by omega)
 have f3 : xcells 104 x2 H = some (R.drop (a + 1)).flatten := by
  rw [hx2]
  by_cases e : a + 1 = R.length
  ·rw [if_pos e, List.drop_of_length_le (by omega)]
   rfl
  ·rw [if_neg e]
   unfold xcells
   simp only [hb]
   rw [if_pos (by omega), ← c2, List.take_of_length_le (by rw [List.length_drop]; omega)]
 have f4 : ∀ s, x2 ≠ .string s := fun s e => by rw [hx2] at e; split at e <;> cases e
 have f5 : notTuple x2 = true ∧ x2.cells = #[x2] := by rw [hx2]; split <;> exact ⟨rfl, rfl⟩
 have hBl : (R.drop (a + 1)).flatten.length = (R.length - (a + 1)) * 104 := by
  rw [fl_len (n := 104) (fun r hr => hR r (List.mem_of_mem_drop hr)), List.length_drop]
 have hcut := fun Z hZ => cut_rows (Z := Z) hR ha hZ
 clear hx2
 have ha1 : ((a + 1 : Nat) : Int) = (a : Int) + 1 := by omega
 obtain ⟨n, hn⟩ : ∃ n, R.length = n := ⟨_, rfl⟩
 rw [hn] at ha hl hfl f1 f2 hBl hcut ⊢
 obtain ⟨a', ha'⟩ : ∃ a', a + 1 = a' := ⟨_, rfl⟩
 rw [ha'] at f2 f3 hBl hcut ⊢
 have hne : ((a : Int) == (a' : Int)) = false := by simp; omega
 refine ac_of_aw Try.func87 rfl Try.ntmps87 Try.results87 (by simp) ?_
 refine aw_seq ?_
 (refine aw_ops (by kernel_rfl) (fun K hK => ?_); simp (disch := first | omega | (simp only [lnS]; try omega)) [-getElem?_pos, -getElem?_neg]; refine hK _ _ ?_; clear hK K)
 refine aw_seq ?_
 refine aw_opsA 5 (by kernel_rfl) ?_
 simp only [List.take_succ_cons, List.take_zero, List.drop_succ_cons, List.drop_zero]
 simp (disch := first | omega | (simp only [lnS]; try omega)) [-getElem?_pos, -getElem?_neg, nt_slG]
 refine al_step (v := ?v1) (H' := ?hh1) (by kernel_rfl) ?a1 (al_nil ?b1)
 case a1 =>
  refine av_slice3 (x := .tmp 8) (lo := .tmp 9) (hi := .tmp 10) (mx := .tmp 12) (l := (a : Int)) (h := ((a' : Nat) : Int)) (mm := (n : Int)) (off := 0) (i := b) (len := n) (c := n) (k1 := .i64) (k2 := .i64) (k3 := .i64) ?_ ?_ ht ?_ ?_ ?_ ?_ ?_ ?_ ?_ ?_ ?_
  ·rfl
  ·kernel_rfl
  ·(first | (simp [put_at, put_none, fr0_at]; done) | rfl)
  ·(first | (simp [put_at, put_none, fr0_at]; done) | rfl)
  ·(first | (simp [put_at, put_none, fr0_at]; done) | rfl)
  ·(first | (simp [put_at, put_none, fr0_at]; done) | rfl)
  ·simp [hs]
  ·omega
  ·omega
  ·omega
  ·omega
 refine aw_seq ?_
 refine aw_seq ?_
 (refine aw_ops (by kernel_rfl) (fun K hK => ?_); simp (disch := first | omega | (simp only [lnS]; try omega)) [-getElem?_pos, -getElem?_neg, hne]; refine hK _ _ ?_; clear hK K)
 refine aw_f (by (first | (simp [eval_tmp, put_at, hne]; done) | (simp [eval_tmp, put_at, hne]; omega))) (by kernel_rfl) ?_
 refine aw_skip ?_
 refine aw_seq ?_
 (refine aw_ops (by kernel_rfl) (fun K hK => ?_); simp (disch := first | omega | (simp only [lnS]; try omega)) [-getElem?_pos, -getElem?_neg]; refine hK _ _ ?_; clear hK K)
 refine aw_seq ?_
 refine aw_tailA 6 (by kernel_rfl) (by kernel_rfl) (by kernel_rfl) ?_
 simp only [List.take_succ_cons, List.take_zero, List.drop_succ_cons, List.drop_zero]
 simp (disch := first | omega | (simp only [lnS]; try omega)) [-getElem?_pos, -getElem?_neg, nt_slG, -xslice, f1, f2]
 have hdv : (R.drop a').flatten.length / 104 = n - a' := by rw [hBl]; exact Nat.mul_div_cancel _ (by omega)
 refine al_step (v := ?v2) (H' := ?hh2) (by kernel_rfl) ?a2 ?b2
 case a2 =>
  refine av_append_in (s := .tmp 22) (x := .tmp 25) (i := b) (len := a) (k := ⟨R.flatten, 60, some 104⟩) (news := (R.drop a').flatten) ?_ ?_ ht ?_ ?_ ?_ hb hnro ?_ ?_ ?_ ?_
  ·rfl
  ·kernel_rfl
  ·simp [eval_tmp, put_at]
  ·simp [eval_tmp, put_at, hs, -xcells, f3]
  ·simpa [eval_tmp, put_at] using f4
  ·rw [hs]
  ·rfl
  ·rw [hs]; omega
  ·rw [hs, hBl]; show _ ≤ R.flatten.length; rw [hfl, ← Nat.add_mul]; exact Nat.mul_le_mul_right _ (by omega)
 refine al_xl (by kernel_rfl) (fun K hK => ?_)
 simp only [hs, hdv, show a + (n - a') = n - 1 by omega]
 simp (disch := first | omega | (simp only [lnS]; try omega)) [-getElem?_pos, -getElem?_neg, nt_slG]
 refine hK _ _ ?_; clear hK K
 have hc1 : (setR R.flatten (a * 104) (R.drop a').flatten).length = n * 104 := by rw [setR_length, hfl]
 obtain ⟨C1, hC1⟩ : ∃ C1, C1 = setR R.flatten (a * 104) (R.drop a').flatten := ⟨_, rfl⟩
 rw [← hC1] at hc1 hcut ⊢
 have hb1 : hget (H.set b (some ⟨C1, 60, some 104⟩)) b = some ⟨C1, 60, some 104⟩ := hget_set_eq hbl
 refine aw_seq ?_
 refine aw_opsA 4 (by kernel_rfl) ?_
 simp only [List.take_succ_cons, List.take_zero, List.drop_succ_cons, List.drop_zero]
 simp (disch := first | omega | (simp only [lnS]; try omega)) [-getElem?_pos, -getElem?_neg, nt_slG]
 refine al_step (v := ?v3) (H' := ?hh3) (by kernel_rfl) ?a3 ?b3
 case a3 =>
  refine av_slice_room (x := .tmp 27) (lo := some (.tmp 29)) (hi := some (.tmp 30)) (i := b) (len := n - 1) (l := ((n - 1 : Nat) : Int)) (h := ((n : Nat) : Int)) (k := ⟨C1, 60, some 104⟩) ?_ ?_ ht ?_ ?_ ?_ hb1 hnro ?_ ?_ ?_ ?_ ?_
  ·rfl
  ·kernel_rfl
  ·simp [eval_tmp, put_at]
  ·simp [bnd, asInt?, eval_tmp, put_at]
  ·simp [bnd, asInt?, eval_tmp, put_at]
  ·rw [hs]
  ·rw [hs]; omega
  ·omega
  ·omega
  ·rw [hs]; show _ ≤ C1.length; rw [hc1]; simp
 rw [if_neg (by omega), hs, Int.toNat_natCast, Int.toNat_natCast, show n - (n - 1) = 1 by omega]
 refine al_step (v := ?v4) (H' := ?hh4) (by kernel_rfl) ?a4 (al_nil ?b4)
 case a4 =>
  refine av_clear (x := .tmp 31) (i := b) (off := (n - 1) * 104) (len := 1) (c := 2) (k := ⟨C1, 60, some 104⟩) (z := z) ?_ ?_ ht ?_ hb1 hnro ?_ ?_ hz ?_ hzp ?_
  ·rfl
  ·kernel_rfl
  ·simp [eval_tmp, put_at]
  ·rfl
  ·rw [hs]; omega
  ·rw [hs, hzl]
  ·rw [hs]; show _ ≤ C1.length; rw [hc1, ← Nat.add_mul]; exact Nat.mul_le_mul_right _ (by omega)
 simp only [hs]
 rw [hcut _ (by simp), List.set_set]
 refine aw_seq ?_
 (refine aw_ops (by kernel_rfl) (fun K hK => ?_); simp (disch := first | omega | (simp only [lnS]; try omega)) [-getElem?_pos, -getElem?_neg, nt_slG]; refine hK _ _ ?_; clear hK K)
 (refine aw_ret ?_; simp (disch := first | omega | (simp only [lnS]; try omega)) [-getElem?_pos, -getElem?_neg, thenQ_ret, scopeQ_ret, inBlockQ_ret, RQ, resL, resV])
 exact ⟨_, rfl⟩
end
section
theorem rows_valHt {D : AH} {b : Nat} {T : TypeId} {es : Option Nat} {R : List (List Value)} {Z : List Value} {L : List HeldD} (hb : hget D b = some ⟨R.flatten ++ Z, T, es⟩) (hl : R.length = L.length) (hw : ∀ x ∈ L, x.Wf) (h : ∀ (k : Nat) (us : List Value) (x : HeldD), R[k]? = some us → L[k]? = some x → us.length = 104 ∧ ValL D x.row us) : HdV D (.slice (some ⟨b, 0, none⟩) L.length L.length) L := by
 have hR : ∀ r ∈ R, r.length = 104 := fun r hr => by
  obtain ⟨k, hk⟩ := List.getElem?_of_mem hr
  have hkl := (List.getElem?_eq_some_iff.1 hk).1
  exact (h k r _ hk (List.getElem?_eq_getElem (show k < L.length by omega))).1
 have := CD.Val.sl (H := D) (sz := 104) (rows := L.map HeldD.row) hb (by rw [List.length_map]; show _ ≤ (R.flatten ++ Z).length; rw [List.length_append, fl_len hR, hl]; omega) (fun row hr => by
  obtain ⟨x, hx, rfl⟩ := List.mem_map.1 hr
  exact held_row_len (hw x hx)) (fun i row c d v hi hc hv => by
  rw [List.getElem?_map] at hi
  cases hx : L[i]? with
  | none => rw [hx] at hi; cases hi
  | some x =>
   rw [hx] at hi
   cases hi
   have hil := (List.getElem?_eq_some_iff.1 hx).1
   obtain ⟨us, hus⟩ : ∃ us, R[i]? = some us := ⟨_, List.getElem?_eq_getElem (by omega)⟩
   obtain ⟨h1, h2⟩ := h i us x hus hx
   have hcl := (List.getElem?_eq_some_iff.1 hc).1
   have h2l := h2.1
   obtain ⟨u, hu⟩ : ∃ u, us[c]? = some u := ⟨_, List.getElem?_eq_getElem (by omega)⟩
   have hat := fl_at hR hus hu
   have hv' : (R.flatten ++ Z)[i * 104 + c]? = some v := hv
   rw [List.getElem?_append_left (List.getElem?_eq_some_iff.1 hat).1, hat] at hv'
   cases hv'
   exact h2.2 c d _ hc hu)
 rw [List.length_map] at this
 exact this
def WithR (l : List HeldD) (z : Int) (H : AH) (v' : Value) (H' : AH) : Prop :=
 Low H.length H H' ∧ ∃ sv, v' = .tuple #[sv, .int .i64 (witE l z)] ∧ ((witE l z = 0 ∧ NewGH H.length H' sv (withoutL l z.toNat)) ∨ (witE l z ≠ 0 ∧ sv = .slice none 0 0))
theorem WithR.bad {l : List HeldD} {y : Int} {H H' : AH} {z : Int} (hl : Low H.length H H') (h : witE l y = z) (hz : z ≠ 0) : WithR l y H (.tuple #[.slice none 0 0, .int .i64 z]) H' :=
 ⟨hl, _, by rw [h], .inr ⟨by rw [h]; exact hz, rfl⟩⟩
attribute [local simp] wb_bool wb_undef with_lit XL_nil XL_cons XLc_val XLc_call step1_eq stepW_t stepW_f stepC_n stepC_s stepX_s stepX_n stepN_s calleeX xrecv oneV xop_eq xopR_s xopR_n wantedA_eq wantedG_n wantedG_s plain1_int plain1_bool plain1_string bits_i64 bits_u64 bits_u32 bits_u16 bits_u8 xeqA xagg xcmp xarr allK_iv num_iv calleeOf xread xeff xbin xint xnil xun xstr xload xconv xpart xfield xfieldAddr xindexAddr xindex bnd asInt? xslice xlen xmin xmax xbuild xfill xappend xapp2 xappstr xappmk xcap xcopy xcells eval_tmp eval_const put_at put_none fr0_at cells_agg cells_int cells_bool cells_string cells_ptr cells_slice notTuple tab iv_all hget_app hget_app0 hget_cons0 hget_cons set_app set_app0 setR setR_one QL_nil QL_cons QLc_val stepQ_t stepQ_f stepQC_n stepQC_s stepQX_s SL_nil SL_cons SLc_val stepS_t stepS_f ltT ltF leT leF eqT eqF ltTn ltFn leTn leFn eqTn eqFn beqT beqF bneT bneF wi64 wu64 wu32 wu16 wu8 tmodP tdivP hgetL hgetNe hgetEq setL nums_def nums_len Nat.succ_le_of_lt List.getElem?_cons_zero List.getElem?_cons_succ Option.getD_some Int.toNat_add Int.toNat_mul agM okM agB agI agS agP agL agA okB okI okS okP okSl okA
theorem without_ac {γ : Nat → Option Nat} {nro : Nat} {H : AH} {qv : Value} {l : List HeldD} {z : Int} (hQ : HdA H qv l) (hl : l.length ≤ maxLen) (hg : ∀ y ∈ l, y.got.length ≤ 1000) (hnro : nro ≤ H.length) : AC Try.prog nro γ 39 #[qv, .int .i64 z] H (WithR l z H) := by
 have q1 := hQ.nt
 have q2 := hQ.cs
 have hxl := hQ.len
 have qr := qRight_rc (γ := γ) hQ hl
 have k0 : witE l z = if rightQ l = false then 1 else if z < 0 ∨ (l.length : Int) ≤ z then 22 else 0 := rfl
 refine ac_of_aw Try.func39 rfl Try.ntmps39 Try.results39 (by simp) ?_
 refine aw_seq ?_
 (refine aw_ops (by kernel_rfl) (fun K hK => ?_); simp (disch := first | omega | (simp only [lnS]; try omega)) [-getElem?_pos, -getElem?_neg]; refine hK _ _ ?_; clear hK K)
 refine aw_seq ?_
 refine aw_seq ?_
 refine aw_ops (by kernel_rfl) (fun K hK => ?_)
 simp (disch := first | omega | (simp only [lnS]; try omega)) [-getElem?_pos, -getElem?_neg, -notTuple, q1, q2, nt_intG]
 refine ⟨by kernel_rfl, ac_of_rc qr (by simp [pv_iv, pv_int, pv_bool, pv_string, pv_tup2, pv_tup3, iv_plain, p2_int, p2_bool, p2_string]) ?_⟩
 cases hq : rightQ l with
 | false =>
  try simp (disch := first | omega | (simp only [lnS]; try omega)) [-getElem?_pos, -getElem?_neg]
  refine hK _ _ ?_; clear hK K
  refine aw_t (by (first | (simp [eval_tmp, put_at]; done) | (simp [eval_tmp, put_at]; omega))) (by kernel_rfl) ?_
  refine aw_seq ?_
  (refine aw_ops (by kernel_rfl) (fun K hK => ?_); simp (disch := first | omega | (simp only [lnS]; try omega)) [-getElem?_pos, -getElem?_neg, nt_slG, nt_intG]; refine hK _ _ ?_; clear hK K)
  (refine aw_ret ?_; simp (disch := first | omega | (simp only [lnS]; try omega)) [-getElem?_pos, -getElem?_neg, thenQ_ret, scopeQ_ret, inBlockQ_ret, RQ, resL, resV])
  exact WithR.bad (Low.refl (Nat.le_refl _)) (by rw [k0, if_pos hq]) (by decide)
 | true =>
 rw [hq, if_neg (by simp)] at k0
 try simp (disch := first | omega | (simp only [lnS]; try omega)) [-getElem?_pos, -getElem?_neg]
 refine hK _ _ ?_; clear hK K
 refine aw_f (by (first | (simp [eval_tmp, put_at]; done) | (simp [eval_tmp, put_at]; omega))) (by kernel_rfl) ?_
 refine aw_skip ?_
 refine aw_seq ?_
 refine aw_seq ?_
 refine aw_cut (fun α G => α 16 = .bool (decide (z < 0 ∨ (l.length : Int) ≤ z)) ∧ α 0 = qv ∧ α 1 = .int .i64 z ∧ H = G) ?_ ?_
 ·by_cases h0 : z < 0
  ·(refine aw_ops (by kernel_rfl) (fun K hK => ?_); simp (disch := first | omega | (simp only [lnS]; try omega)) [-getElem?_pos, -getElem?_neg, h0, nt_intG]; refine hK _ _ ?_; clear hK K)
   exact ⟨by rw [decide_eq_true (.inl h0)]; (first | (simp [put_at, put_none, fr0_at]; done) | rfl), by (first | (simp [put_at, put_none, fr0_at]; done) | rfl), by (first | (simp [put_at, put_none, fr0_at]; done) | rfl), rfl⟩
  ·by_cases h1 : (l.length : Int) ≤ z
   ·(refine aw_ops (by kernel_rfl) (fun K hK => ?_); simp (disch := first | omega | (simp only [lnS]; try omega)) [-getElem?_pos, -getElem?_neg, h0, h1, -notTuple, q1, q2, nt_intG, -xlen, hxl]; refine hK _ _ ?_; clear hK K)
    exact ⟨by rw [decide_eq_true (.inr h1)]; (first | (simp [put_at, put_none, fr0_at]; done) | rfl), by (first | (simp [put_at, put_none, fr0_at]; done) | rfl), by (first | (simp [put_at, put_none, fr0_at]; done) | rfl), rfl⟩
   ·(refine aw_ops (by kernel_rfl) (fun K hK => ?_); simp (disch := first | omega | (simp only [lnS]; try omega)) [-getElem?_pos, -getElem?_neg, h0, h1, -notTuple, q1, q2, nt_intG, -xlen, hxl]; refine hK _ _ ?_; clear hK K)
    exact ⟨by rw [decide_eq_false (fun h => h.elim h0 h1)]; (first | (simp [put_at, put_none, fr0_at]; done) | rfl), by (first | (simp [put_at, put_none, fr0_at]; done) | rfl), by (first | (simp [put_at, put_none, fr0_at]; done) | rfl), rfl⟩
 rintro α _ ⟨q17, q0, q1', rfl⟩
 by_cases hz : z < 0 ∨ (l.length : Int) ≤ z
 ·rw [decide_eq_true hz] at q17
  rw [if_pos hz] at k0
  refine aw_t (by (first | (simp [eval_tmp, put_at, q17]; done) | (simp [eval_tmp, put_at, q17]; omega))) (by kernel_rfl) ?_
  refine aw_seq ?_
  (refine aw_ops (by kernel_rfl) (fun K hK => ?_); simp (disch := first | omega | (simp only [lnS]; try omega)) [-getElem?_pos, -getElem?_neg, nt_slG, nt_intG]; refine hK _ _ ?_; clear hK K)
  (refine aw_ret ?_; simp (disch := first | omega | (simp only [lnS]; try omega)) [-getElem?_pos, -getElem?_neg, thenQ_ret, scopeQ_ret, inBlockQ_ret, RQ, resL, resV])
  exact WithR.bad (Low.refl (Nat.le_refl _)) k0 (by decide)
 rw [decide_eq_false hz] at q17
 rw [if_neg hz] at k0
 refine aw_f (by (first | (simp [eval_tmp, put_at, q17]; done) | (simp [eval_tmp, put_at, q17]; omega))) (by kernel_rfl) ?_
 refine aw_skip ?_
 obtain ⟨a, rfl⟩ : ∃ a : Nat, z = (a : Int) := ⟨z.toNat, by omega⟩
 have ha : a < l.length := by omega
 have hl24 := rightQ_len hq
 obtain ⟨N, hc1⟩ := deepHeld_ac (nro := nro) (γ := γ) hQ (by omega) (rightQ_smH hq hg) hnro
 obtain ⟨n, hn0⟩ : ∃ n, n = H.length := ⟨_, rfl⟩
 refine aw_seq ?_
 refine aw_ops (by kernel_rfl) (fun K hK => ?_)
 simp (disch := first | omega | (simp only [lnS]; try omega)) [-getElem?_pos, -getElem?_neg, q0, -notTuple, q1, q2, nt_intG]
 refine ⟨by kernel_rfl, hc1.mono ?_⟩
 rintro v G1 ⟨rfl, hN, lw1, R, hR, bR⟩
 have hRl := hR.1
 have hle1 := lw1.2
 have hdel := deleteH_ac (nro := nro) (γ := γ) (H := G1) (b := H.length) (a := a) bR hnro hR.len (by omega) (by omega)
 rw [hRl] at hdel
 have hai : (a : Int) + 1 = ((a + 1 : Nat) : Int) := by omega
 obtain ⟨a', ha'⟩ : ∃ a' : Nat, a' = a + 1 := ⟨_, rfl⟩
 rw [← ha'] at hdel hai
 have hai2 : IntKind.i64.wrap (a' : Int) = (a' : Int) := wi64 (by omega)
 try simp (disch := first | omega | (simp only [lnS]; try omega)) [-getElem?_pos, -getElem?_neg, q1', hai, hai2, nt_slG, nt_intG]
 refine ⟨by kernel_rfl, hdel.mono ?_⟩
 rintro v G2 ⟨rfl, Z, rfl⟩
 try simp (disch := first | omega | (simp only [lnS]; try omega)) [-getElem?_pos, -getElem?_neg, nt_slG, nt_intG]
 refine hK _ _ ?_; clear hK K
 (refine aw_ret ?_; simp (disch := first | omega | (simp only [lnS]; try omega)) [-getElem?_pos, -getElem?_neg, thenQ_ret, scopeQ_ret, inBlockQ_ret, RQ, resL, resV, nt_slG, nt_intG])
 refine ⟨⟨fun j hj => (hget_set_ne (by omega)).trans (lw1.1 j hj), by rw [List.length_set]; omega⟩, _, by rw [k0], .inl ⟨k0, fun D hD => ?_⟩⟩
 rw [Int.toNat_natCast]
 unfold withoutL
 have hL : (l.take a ++ l.drop (a + 1)).length = l.length - 1 := by
  rw [List.length_append, List.length_take, List.length_drop]; omega
 have hRL : (R.take a ++ R.drop (a + 1)).length = l.length - 1 := by
  rw [List.length_append, List.length_take, List.length_drop]; omega
 have hbD : hget D H.length = some ⟨(R.take a ++ R.drop (a + 1)).flatten ++ Z, 60, some 104⟩ := by
  rw [hD _ (Nat.le_refl _) (by rw [List.length_set]; exact hget_lt bR), hget_set_eq (hget_lt bR), ha', List.flatten_append, List.append_assoc]
 rw [← hL]
 refine rows_valHt hbD (by rw [hRL, hL]) (fun y hy => ?_) (fun k us y hk hy => ?_)
 ·rcases List.mem_append.1 hy with hy | hy
  ·exact hQ.wf y (List.mem_of_mem_take hy)
  ·exact hQ.wf y (List.mem_of_mem_drop hy)
 ·have hrow : ∀ (k : Nat) (us : List Value) (y : HeldD), R[k]? = some us → l[k]? = some y → us.length = 104 ∧ ValL D y.row us := fun k us y hk hy => by
   have := hR.2 k us y hk hy
   refine ⟨this.1, this.2 D (fun j h1 h2 => (hD j (by omega) (by rw [List.length_set]; exact h2)).trans (hget_set_ne (by omega)))⟩
  have h1 : (R.take a).length = a := by rw [List.length_take]; omega
  have h2 : (l.take a).length = a := by rw [List.length_take]; omega
  rcases Nat.lt_or_ge k a with hka | hka
  ·rw [List.getElem?_append_left (by omega), List.getElem?_take_of_lt hka] at hk hy
   exact hrow k us y hk hy
  ·rw [List.getElem?_append_right (by omega), List.getElem?_drop] at hk hy
   rw [h1] at hk
   rw [h2] at hy
   exact hrow _ us y hk hy
theorem withoutOK : WithoutOK := fun γ nro H qv l z hQ hl hg hnro => without_ac hQ hl hg hnro
end
section
attribute [local simp] wb_bool wb_undef with_lit XL_nil XL_cons XLc_val XLc_call step1_eq stepW_t stepW_f stepC_n stepC_s stepX_s stepX_n stepN_s calleeX xrecv oneV xop_eq xopR_s xopR_n wantedA_eq wantedG_n wantedG_s plain1_int plain1_bool plain1_string bits_i64 bits_u64 bits_u32 bits_u16 bits_u8 xeqA xagg xcmp xarr allK_iv num_iv calleeOf xread xeff xbin xint xnil xun xstr xload xconv xpart xfield xfieldAddr xindexAddr xindex bnd asInt? xslice xlen xmin xmax xbuild xfill xappend xapp2 xappstr xappmk xcap xcopy xcells eval_tmp eval_const put_at put_none fr0_at cells_agg cells_int cells_bool cells_string cells_ptr cells_slice notTuple tab iv_all hget_app hget_app0 hget_cons0 hget_cons set_app set_app0 setR setR_one QL_nil QL_cons QLc_val stepQ_t stepQ_f stepQC_n stepQC_s stepQX_s SL_nil SL_cons SLc_val stepS_t stepS_f ltT ltF leT leF eqT eqF ltTn ltFn leTn leFn eqTn eqFn beqT beqF bneT bneF wi64 wu64 wu32 wu16 wu8 tmodP tdivP hgetL hgetNe hgetEq setL nums_def nums_len Nat.succ_le_of_lt List.getElem?_cons_zero List.getElem?_cons_succ Option.getD_some Int.toNat_add Int.toNat_mul agM okM agB agI agS agP agL agA okB okI okS okP okSl okA
theorem qalive_rc {γ : Nat → Option Nat} {H : AH} : AC Try.prog H.length γ 35 #[] H (fun v' _ => v' = .bool true) := by
 have k1 := build_key 1
 have k2 := build_key 2
 have k3 := build_key 3
 have p2 : (iv .u8 (key1 2)).length = 32 := by rw [iv_length, key1_32]
 have t2 : (iv .u8 (key1 2)).take 32 = iv .u8 (key1 2) := List.take_of_length_le (by omega)
 have x0 : notTuple (.slice none 0 0) = true := rfl
 have x1 : (Value.slice none 0 0).cells = #[.slice none 0 0] := rfl
 obtain ⟨n, hn⟩ : ∃ n, n = H.length := ⟨_, rfl⟩
 rw [← hn]
 refine ac_of_aw Try.func35 rfl Try.ntmps35 Try.results35 (by simp) ?_
 refine aw_seq ?_
 (refine aw_ops (by kernel_rfl) (fun K hK => ?_); simp (disch := first | omega | (simp only [lnS]; try omega)) [-getElem?_pos, -getElem?_neg]; refine hK _ _ ?_; clear hK K)
 refine aw_seq ?_
 refine aw_ops (by kernel_rfl) (fun K hK => ?_)
 simp (disch := first | omega | (simp only [lnS]; try omega)) [-getElem?_pos, -getElem?_neg, -xbuild, k2, k3, nt_aggG]
 refine ⟨by kernel_rfl, (updateQ_ac (nro := n) (γ := γ) (H := H) (k := key1 2) (key1_32 2) (by omega)).mono ?_⟩
 rintro v G1 ⟨lw1, rfl, b1⟩
 have hle1 := lw1.2
 have hb := build_h1 ⟨H.length + 2, 0, none⟩
 have hO1e : opRow (opC1 1 1 4 [key1 2] []) (.slice (some ⟨H.length + 2, 0, none⟩) 1 1) (.slice none 0 0) (.slice none 0 0) = opRow hO1 (.slice (some ⟨H.length + 2, 0, none⟩) 1 1) (.slice none 0 0) (.slice none 0 0) := rfl
 rw [hO1e]
 obtain ⟨pv, wv, bv, kv, hC1⟩ := held_hc (G := G1) (x := hD1) (pv := .slice (some ⟨H.length + 2, 0, none⟩) 1 1) (wv := .slice none 0 0) (bv := .slice none 0 0) (kv := .slice none 0 0) hD1_wf (key1_ksv b1) (nil3 G1).2.1 (nil3 G1).2.2 (nil3 G1).1
 have hr1 := heldRow_len hD1_wf (.slice (some ⟨H.length + 2, 0, none⟩) 1 1) (.slice none 0 0) (.slice none 0 0) (.slice none 0 0)
 have hpt := (put_rc (γ := γ) (nil_hda G1) hC1 hD1_wf (Nat.zero_le _) (fun y hy => by cases hy) (Nat.zero_le _)).thaw (nro := n) (fun v G' h => ⟨h.1.2, h.1.1⟩)
 generalize heldRow hD1 (.slice (some ⟨H.length + 2, 0, none⟩) 1 1) (.slice none 0 0) (.slice none 0 0) (.slice none 0 0) = R1 at *
 generalize opRow hO1 (.slice (some ⟨H.length + 2, 0, none⟩) 1 1) (.slice none 0 0) (.slice none 0 0) = RO at *
 simp (disch := first | omega | (simp only [lnS]; try omega)) [-getElem?_pos, -getElem?_neg, -xbuild, hb, nt_aggG]
 refine ⟨by kernel_rfl, hpt.mono ?_⟩
 rintro v G2 ⟨lw2, sv, rfl, ⟨_, hnew⟩ | ⟨hbad, _⟩⟩
 case inr => exact absurd qdat1.1 hbad
 obtain ⟨v1, v2⟩ := hnew.sh
 have N1 : HdA G2 sv [hD1] := hnew.hda q1_wf (fun _ _ _ => rfl)
 have low2 : Low n H G2 := ⟨fun j hj => (lw2.1 j (by omega)).trans (lw1.1 j (by omega)), by have := lw2.2; omega⟩
 rw [qdat1.1]
 clear hnew lw2 hpt hC1 b1 lw1 hb
 simp (disch := first | omega | (simp only [lnS]; try omega)) [-getElem?_pos, -getElem?_neg, -notTuple, v1, v2, nt_intG]
 refine hK _ _ ?_; clear hK K
 have hle2 := low2.2
 have wa := wanted_ac (γ := γ) (nro := n) (nil_nda G2) (Nat.zero_le _) N1 (by simp [maxLen]) (by rw [show ([hD1] : List HeldD).length = 1 from rfl, qdat2]; simp) (by rw [show ([hD1] : List HeldD).length = 1 from rfl, qdat2]; simp) (by omega)
 refine aw_seq ?_
 refine aw_ops (by kernel_rfl) (fun K hK => ?_)
 simp (disch := first | omega | (simp only [lnS]; try omega)) [-getElem?_pos, -getElem?_neg, -notTuple, v1, v2, x0, x1]
 refine ⟨by kernel_rfl, wa.mono ?_⟩
 rintro w G3 ⟨lw3, F, hF, hFl⟩
 rw [show (rightG [] && rightQ [hD1]) = true by rw [qdat3.2.2.1]; rfl, if_pos rfl, show ([hD1] : List HeldD).length = 1 from rfl, qdat2, sortK_one, kr_one] at hF
 obtain ⟨w1, w2⟩ := own_nt hF
 try simp (disch := first | omega | (simp only [lnS]; try omega)) [-getElem?_pos, -getElem?_neg, -notTuple, w1, w2]
 refine hK _ _ ?_; clear hK K
 have hle3 := lw3.2
 have N1 := N1.lowG lw3
 have low3 : Low n H G3 := ⟨fun j hj => (lw3.1 j (by omega)).trans (low2.1 j hj), by omega⟩
 have hKw : KsV G3 w [key1 2] := kr_ksv (by rw [kr_one]; exact hF) (fun k hk => by rw [List.mem_singleton] at hk; subst hk; exact key1_32 2)
 have r1 : List.range 1 = [0] := rfl
 have bo := build_opc ⟨G3.length, 0, none⟩ 1
 rw [opRow_c1 0 1 1 [] [0]] at bo
 have hO2e : opRow (opC1 0 1 1 [] [0]) (.slice none 0 0) (.slice (some ⟨G3.length, 0, none⟩) 1 1) (.slice none 0 0) = opRow hO2 (.slice none 0 0) (.slice (some ⟨G3.length, 0, none⟩) 1 1) (.slice none 0 0) := rfl
 rw [hO2e] at bo
 have hb := build_h2 ⟨G3.length, 0, none⟩
 obtain ⟨RO2, hRO2⟩ : ∃ r, r = opRow hO2 (.slice none 0 0) (.slice (some ⟨G3.length, 0, none⟩) 1 1) (.slice none 0 0) := ⟨_, rfl⟩
 rw [← hRO2] at bo hb
 obtain ⟨lw4, b4⟩ := boxed2 (H := G3) (iv .i64 [0]) 3 1
 have hle4 := lw4.2
 have hGe : G3 ++ [some ⟨[.int .i64 0], 3, some 1⟩] = G3 ++ [some ⟨iv .i64 [0], 3, some 1⟩] := rfl
 obtain ⟨R2, hR2⟩ : ∃ R2, R2 = heldRow hD2 (.slice none 0 0) (.slice (some ⟨G3.length, 0, none⟩) 1 1) (.slice none 0 0) (.slice none 0 0) := ⟨_, rfl⟩
 rw [← hR2] at hb
 refine aw_seq ?_
 refine aw_ops (by kernel_rfl) (fun K hK => ?_)
 simp (disch := first | omega | (simp only [lnS]; try omega)) [-getElem?_pos, -getElem?_neg, -xbuild, k1, k2, bo, hb, -notTuple, v1, v2, nt_intG, nt_slG, nt_aggG, r1]
 try rw [hGe]
 generalize G3 ++ [some ⟨iv .i64 [0], 3, some 1⟩] = G4 at *
 obtain ⟨pv, wv, bv, kv, hC2⟩ := held_hc (G := G4) (x := hD2) (pv := .slice none 0 0) (wv := .slice (some ⟨G3.length, 0, none⟩) 1 1) (bv := .slice none 0 0) (kv := .slice none 0 0) hD2_wf (nil3 G4).1 (ints_inv (n := 1) b4 rfl) (nil3 G4).2.2 (nil3 G4).1
 rw [← hR2] at hC2
 have hpt := (put_rc (γ := γ) (N1.lowG lw4) hC2 hD2_wf (by simp [maxLen]) (fun y hy => by rw [List.mem_singleton] at hy; subst hy; exact Nat.zero_le _) (Nat.zero_le _)).thaw (nro := n) (fun v G' h => ⟨h.1.2, h.1.1⟩)
 refine ⟨by kernel_rfl, hpt.mono ?_⟩
 rintro v G5 ⟨lw5, su, rfl, ⟨_, hnew⟩ | ⟨hbad, _⟩⟩
 case inr => exact absurd qdat1.2 hbad
 obtain ⟨u1, u2⟩ := hnew.sh
 have N2 : HdA G5 su [hD1, hD2] := hnew.hda q2_wf (fun _ _ _ => rfl)
 have lw35 := lw4.both lw5
 have low5 : Low n H G5 := ⟨fun j hj => (lw35.1 j (by omega)).trans (low3.1 j hj), by have := lw35.2; omega⟩
 have N1 := N1.lowG lw35
 have hKw := hKw.low lw35.1
 rw [qdat1.2]
 clear hnew lw5 hpt hC2 b4 lw4 hb bo
 simp (disch := first | omega | (simp only [lnS]; try omega)) [-getElem?_pos, -getElem?_neg, -notTuple, u1, u2, nt_intG]
 refine hK _ _ ?_; clear hK K
 have hle5 := low5.2
 refine aw_seq ?_
 refine aw_ops (by kernel_rfl) (fun K hK => ?_)
 simp (disch := first | omega | (simp only [lnS]; try omega)) [-getElem?_pos, -getElem?_neg, -notTuple, u1, u2, nt_intG]
 refine ⟨by kernel_rfl, (withoutOK γ n G5 su [hD1, hD2] 0 N2 (by simp [maxLen]) (fun y hy => by simp at hy; rcases hy with rfl | rfl <;> exact Nat.zero_le _) (by omega)).mono ?_⟩
 rintro v G6 ⟨lw6, st, rfl, ⟨_, hnew⟩ | ⟨hbad, _⟩⟩
 case inr => exact absurd wit0.1 hbad
 obtain ⟨t1, t2'⟩ := hnew.sh
 rw [show withoutL [hD1, hD2] (0 : Int).toNat = [hD2] from wit0.2] at hnew
 have N3 : HdA G6 st [hD2] := hnew.hda (fun x hx => by rw [List.mem_singleton] at hx; subst hx; exact hD2_wf) (fun _ _ _ => rfl)
 rw [wit0.1]
 have low6 : Low n H G6 := ⟨fun j hj => (lw6.1 j (by omega)).trans (low5.1 j hj), by have := lw6.2; omega⟩
 have N1 := N1.lowG lw6
 have N2 := N2.lowG lw6
 have hKw := hKw.low lw6.1
 clear hnew
 simp (disch := first | omega | (simp only [lnS]; try omega)) [-getElem?_pos, -getElem?_neg, -notTuple, t1, t2', nt_intG]
 refine hK _ _ ?_; clear hK K
 have hle6 := low6.2
 have aW := KsV.acc hKw (fun k hk => by rw [List.mem_singleton] at hk; subst hk; exact key1_32 2)
 obtain ⟨aw1, aw2, awl, awa⟩ := aW
 obtain ⟨wp, wx, wpn, wi, wxn, we, wl⟩ := awa 0 (by simp)
 have wl := wl G6 (Low.refl (Nat.le_refl _))
 obtain rfl : wx = .agg (iv .u8 (key1 2)).toArray := we
 have rd1 := ready_rc (γ := γ) (nil_nda G6) (Nat.zero_le _) N1 (by simp [maxLen])
 have rd2 := ready_rc (γ := γ) (nil_nda G6) (Nat.zero_le _) N2 (by simp [maxLen])
 have fi := qfind_rc (γ := γ) N2 (by simp [maxLen]) (key1_32 2)
 have ri := qRight_rc (γ := γ) N2 (by simp [maxLen])
 have xl3 := N3.len
 rw [show ([hD1, hD2] : List HeldD).length = 2 from rfl, qdat3.2.2.2.2] at fi
 rw [qdat3.2.2.2.1] at ri
 rw [show (rightG [] && rightQ [hD1]) = true by rw [qdat3.2.2.1]; rfl, if_pos rfl, qdat3.1] at rd1
 rw [show (rightG [] && rightQ [hD1, hD2]) = true by rw [qdat3.2.2.2.1]; rfl, if_pos rfl, qdat3.2.1] at rd2
 have wi : xindexAddr Try.prog 36 w (.int .i64 0) = some wp := wi
 have awl : xlen Try.prog 36 w = some (.int .i64 1) := awl
 have xl3 : xlen Try.prog 58 st = some (.int .i64 1) := xl3
 refine aw_seq ?_
 refine aw_ops (by kernel_rfl) (fun K hK => ?_)
 simp (disch := first | omega | (simp only [lnS]; try omega)) [-getElem?_pos, -getElem?_neg, -notTuple, nt_intG, nt_aggG, v1, v2, u1, u2, t1, t2', aw1, aw2, wpn, wxn, -xlen, awl, xl3, -xindexAddr, wi, -xload, wl, k2, -xbuild, x0, x1, p2, key1_32]
 refine ⟨by kernel_rfl, ac_of_rc rd1 (by simp [pv_iv, pv_int, pv_bool, pv_string, pv_tup2, pv_tup3, iv_plain, p2_int, p2_bool, p2_string]) ?_⟩
 simp (disch := first | omega | (simp only [lnS]; try omega)) [-getElem?_pos, -getElem?_neg, -notTuple, nt_intG, u1, u2, x0, x1]
 refine ⟨by kernel_rfl, ac_of_rc rd2 (by simp [pv_iv, pv_int, pv_bool, pv_string, pv_tup2, pv_tup3, iv_plain, p2_int, p2_bool, p2_string]) ?_⟩
 simp (disch := first | omega | (simp only [lnS]; try omega)) [-getElem?_pos, -getElem?_neg, -notTuple, nt_intG, nt_aggG, u1, u2, t1, t2', -xlen, xl3, k2, -xbuild]
 refine ⟨by kernel_rfl, ac_of_rc fi (by simp [pv_iv, pv_int, pv_bool, pv_string, pv_tup2, pv_tup3, iv_plain, p2_int, p2_bool, p2_string]) ?_⟩
 simp (disch := first | omega | (simp only [lnS]; try omega)) [-getElem?_pos, -getElem?_neg, -notTuple, nt_intG, u1, u2]
 refine ⟨by kernel_rfl, ac_of_rc ri (by simp [pv_iv, pv_int, pv_bool, pv_string, pv_tup2, pv_tup3, iv_plain, p2_int, p2_bool, p2_string]) ?_⟩
 try simp (disch := first | omega | (simp only [lnS]; try omega)) [-getElem?_pos, -getElem?_neg]
 refine hK _ _ ?_; clear hK K
 (refine aw_ret ?_; simp (disch := first | omega | (simp only [lnS]; try omega)) [-getElem?_pos, -getElem?_neg, thenQ_ret, scopeQ_ret, inBlockQ_ret, RQ, resL, resV])
end
section
def putL (l : List HeldD) (x : HeldD) : List HeldD := if putE l x = 0 then l ++ [x] else []
def witL (l : List HeldD) (z : Int) : List HeldD := if witE l z = 0 then withoutL l z.toNat else []
theorem putL_all {l : List HeldD} {x : HeldD} {R : HeldD → Prop} (h : ∀ y ∈ l, R y) (hx : R x) : ∀ y ∈ putL l x, R y := fun y hy => by
 unfold putL at hy
 split at hy
 ·rcases List.mem_append.1 hy with hy | hy
  ·exact h y hy
  ·rw [List.mem_singleton] at hy; subst hy; exact hx
 ·cases hy
theorem putL_len {l : List HeldD} {x : HeldD} : (putL l x).length ≤ l.length + 1 := by
 unfold putL
 split <;> simp
theorem greatO_le {o : OpD} (h : greatO o = false) : o.parents.length ≤ 30 ∧ o.who.length ≤ 30 ∧ o.boxes.length ≤ 30 := by
 unfold greatO at h
 simp only [Bool.or_eq_false_iff, decide_eq_false_iff_not] at h
 omega
theorem greatQ_le {l : List HeldD} (h : greatQ l = false) : l.length ≤ 40 ∧ (∀ y ∈ l, greatO y.op = false ∧ y.got.length ≤ 20) := by
 unfold greatQ at h
 rw [Bool.or_eq_false_iff, decide_eq_false_iff_not] at h
 refine ⟨by omega, fun y hy => ?_⟩
 obtain ⟨k, hk, rfl⟩ := List.mem_iff_getElem.1 hy
 have h2 := h.2
 rw [List.any_eq_false] at h2
 have := h2 k (List.mem_range.2 hk)
 have e : hn l k = l[k] := hn_eq (List.getElem?_eq_getElem hk)
 rw [e] at this
 simp only [Bool.or_eq_true, decide_eq_true_eq, not_or, Bool.not_eq_true] at this
 exact ⟨this.1, by omega⟩
theorem sm6_of {l : List HeldD} (h : ∀ y ∈ l, greatO y.op = false) : Sm6H l := fun x hx => by
 have := greatO_le (h x hx)
 omega
structure Ansd (H' : AH) (v' : Value) (e : Int) (L : List HeldD) : Prop where
 is : ∃ sv, v' = .tuple #[sv, .int .i64 e] ∧ notTuple sv = true ∧ sv.cells = #[sv] ∧ ∀ G, Low H'.length H' G → HdA G sv L
theorem PutR.ans {l : List HeldD} {x : HeldD} {H : AH} {v' : Value} {H' : AH} (h : PutR l x H v' H') (hwf : ∀ y ∈ putL l x, y.Wf) : Ansd H' v' (putE l x) (putL l x) := by
 obtain ⟨h1, sv, h2, h3⟩ := h
 refine ⟨sv, h2, ?_⟩
 rcases h3 with ⟨h0, h3⟩ | ⟨h0, rfl⟩
 ·have e : putL l x = l ++ [x] := if_pos h0
  rw [e] at hwf ⊢
  have hs := h3.sh
  exact ⟨hs.1, hs.2, fun G hG => h3.hda hwf (fun j _ hj => hG.1 j hj)⟩
 ·have e : putL l x = [] := if_neg h0
  rw [e]
  exact ⟨rfl, rfl, fun G _ => nil_hda G⟩
theorem WithR.ans {l : List HeldD} {z : Int} {H : AH} {v' : Value} {H' : AH} (h : WithR l z H v' H') (hwf : ∀ y ∈ witL l z, y.Wf) : Ansd H' v' (witE l z) (witL l z) := by
 obtain ⟨h1, sv, h2, h3⟩ := h
 refine ⟨sv, h2, ?_⟩
 rcases h3 with ⟨h0, h3⟩ | ⟨h0, rfl⟩
 ·have e : witL l z = withoutL l z.toNat := if_pos h0
  rw [e] at hwf ⊢
  have hs := h3.sh
  exact ⟨hs.1, hs.2, fun G hG => h3.hda hwf (fun j _ hj => hG.1 j hj)⟩
 ·have e : witL l z = [] := if_neg h0
  rw [e]
  exact ⟨rfl, rfl, fun G _ => nil_hda G⟩
theorem RPutQ.ans {l : List HeldD} {x : HeldD} {H0 H : AH} {v' : Value} {H' : AH} (h : RPutQ l x H0 H v' H') (hwf : ∀ y ∈ putL l x, y.Wf) (hlow : Low H0.length H0 H') : Ansd H' v' (putE l x) (putL l x) := by
 obtain ⟨h1, sv, h2, n1, n2, h3⟩ := h
 refine ⟨sv, h2, n1, n2, ?_⟩
 rcases h3 with ⟨h0, h3⟩ | ⟨h0, rfl⟩
 ·have e : putL l x = l ++ [x] := if_pos h0
  rw [e] at hwf ⊢
  refine fun G hG => (h3 G ⟨fun j hj => (hG.1 j (by have := hlow.2; omega)).trans (hlow.1 j hj), by have := hlow.2; have := hG.2; omega⟩ (fun j _ hj => hG.1 j hj)).hda hwf
 ·have e : putL l x = [] := if_neg h0
  rw [e]
  exact fun G _ => nil_hda G
theorem RWithQ.ans {l : List HeldD} {z : Int} {H0 H : AH} {v' : Value} {H' : AH} (h : RWithQ l z H0 H v' H') (hwf : ∀ y ∈ witL l z, y.Wf) (hlow : Low H0.length H0 H') : Ansd H' v' (witE l z) (witL l z) := by
 obtain ⟨h1, sv, h2, n1, n2, h3⟩ := h
 refine ⟨sv, h2, n1, n2, ?_⟩
 rcases h3 with ⟨h0, h3⟩ | ⟨h0, rfl⟩
 ·have e : witL l z = withoutL l z.toNat := if_pos h0
  rw [e] at hwf ⊢
  refine fun G hG => (h3 G ⟨fun j hj => (hG.1 j (by have := hlow.2; omega)).trans (hlow.1 j hj), by have := hlow.2; have := hG.2; omega⟩ (fun j _ hj => hG.1 j hj)).hda hwf
 ·have e : witL l z = [] := if_neg h0
  rw [e]
  exact fun G _ => nil_hda G
end
section
def zO : OpD := ⟨0, 0, [], 0, [], List.replicate 32 0, List.replicate 32 0, ByteArray.empty, []⟩
theorem z32 : Key32 (List.replicate 32 0) := ⟨rfl, fun z hz => by rw [List.eq_of_mem_replicate hz]; omega⟩
theorem zO_wf : zO.Wf := ⟨by show I64 0; unfold I64; omega, by show U32 0; unfold U32; omega, fun k hk => (by cases hk), by show 0 ≤ _; omega, by show I64 0; unfold I64; omega, fun k hk => (by cases hk), by show 0 ≤ _; omega, z32, z32, by show 0 ≤ _; omega, fun k hk => (by cases hk), by show 0 ≤ _; omega⟩
theorem zeros_rows {z : List Value} (hz : z.length = 104) (c : Nat) : ((List.range (c * 104)).map fun j => z[j % 104]?.getD undef) = (List.replicate c z).flatten := by
 induction c with
 | zero => rfl
 | succ c ih =>
  rw [show (c + 1) * 104 = c * 104 + 104 by omega, List.range_add, List.map_append, ih, List.replicate_succ', List.flatten_append]
  congr 1
  rw [List.map_map, List.flatten_cons, List.flatten_nil, List.append_nil]
  apply List.ext_getElem?
  intro i
  rcases Nat.lt_or_ge i 104 with hi | hi
  ·rw [List.getElem?_map, List.getElem?_range hi, List.getElem?_eq_getElem (show i < z.length by omega)]
   show some (z[(c * 104 + i) % 104]?.getD undef) = _
   rw [show (c * 104 + i) % 104 = i by omega, List.getElem?_eq_getElem (show i < z.length by omega)]
   rfl
  ·rw [List.getElem?_eq_none (by simp; omega), List.getElem?_eq_none (by omega)]
theorem repl_len {z : List Value} (hz : z.length = 104) (c : Nat) : (List.replicate c z).flatten.length = c * 104 := by
 have h : ∀ r ∈ List.replicate c z, r.length = 104 := fun r hr => by rw [List.eq_of_mem_replicate hr, hz]
 rw [fl_len h, List.length_replicate]
theorem room_copy {z : List Value} (hz : z.length = 104) {C : List Value} {k : Nat} (hC : C.length = k * 104) : setR (List.replicate (k + 2) z).flatten 0 C = C ++ (List.replicate 2 z).flatten := by
 rw [setR_frontF _ _ (by rw [repl_len hz]; omega), ← List.replicate_append_replicate, List.flatten_append, List.drop_append_of_le_length (by rw [repl_len hz]; omega), List.drop_of_length_le (by rw [repl_len hz]; omega), List.nil_append]
theorem app_new {P : Program} {nro : Nat} {t e : TypeId} {sz n : Nat} {cells : List Value} {H : AH} {v : Value} (hv : (v = .slice none 0 0 ∧ n = 0) ∨ ∃ a, v = .slice (some a) n n) (hu : und P t = .slice e) (hs : szt P e = sz) (h0 : 0 < sz) (hz : (zer P e).map (·.cells.size) = some sz) (hnro : nro ≤ H.length)
  (hx : xcells sz v (H ++ [some ⟨[], e, some sz⟩]) = some cells) (hl : cells.length = n * sz) (hb : cells.length * byt P e ≤ 140737488355328) (hm : cells.length ≤ maxLen) :
  xappend P nro t (.slice (some ⟨H.length, 0, none⟩) 0 0) v (H ++ [some ⟨[], e, some sz⟩]) = some (.slice (some ⟨H.length + 1, 0, none⟩) n n, H ++ [none, some ⟨cells, e, some sz⟩]) := by
 rcases hv with ⟨rfl, rfl⟩ | ⟨a, rfl⟩
 ·subst hs
  have hg : hget (H ++ [some ⟨[], e, some (szt P e)⟩]) H.length = some ⟨[], e, some (szt P e)⟩ := by rw [hget_app0]; rfl
  unfold xappend
  simp only [hu, hx, hg]
  rw [if_pos ⟨trivial, h0, hz, hnro, trivial, trivial, by simp, by simpa using hb, by simpa using hm⟩, hl, Nat.mul_div_cancel _ h0]
  simp
 ·exact clone_app hu hs h0 hz hnro hx hl hb hm
theorem app_pack {G : AH} {k : Nat} {B : Blk} {X : Option Blk} (hk : k < G.length) :
  hget (G.set k X ++ [none, some B]) k = X ∧ hget (G.set k X ++ [none, some B]) (G.length + 1) = some B ∧ (G.set k X ++ [none, some B]).length = G.length + 2 ∧ ∀ j, j < G.length → j ≠ k → hget (G.set k X ++ [none, some B]) j = hget G j := by
 have e : (G.set k X).length = G.length := List.length_set
 refine ⟨by rw [hget_left (by omega)]; exact hget_set_eq hk, by rw [← e, hget_app]; rfl, by simp, fun j hj hne => ?_⟩
 rw [hget_left (by omega)]
 exact hget_set_ne (fun e => hne e.symm)
def Wr (b : Nat) (T : TypeId) (sz len : Nat) (Z : List Value) (A G : AH) : Prop :=
 G.length = A.length ∧ (∀ j, j ≠ b → hget G j = hget A j) ∧ ∃ C, hget G b = some ⟨C ++ Z, T, some sz⟩ ∧ C.length = len * sz
theorem Wr.refl {b : Nat} {T : TypeId} {sz len : Nat} {C Z : List Value} {A : AH} (h : hget A b = some ⟨C ++ Z, T, some sz⟩) (hl : C.length = len * sz) : Wr b T sz len Z A A := ⟨rfl, fun _ _ => rfl, C, h, hl⟩
theorem Wr.store {b : Nat} {T : TypeId} {sz len i : Nat} {C Z row : List Value} {A G : AH} (h : Wr b T sz len Z A G) (hb : hget G b = some ⟨C ++ Z, T, some sz⟩) (hl : C.length = len * sz) (hi : i < len) (hr : row.length = sz) : Wr b T sz len Z A (G.set b (some ⟨setR (C ++ Z) (i * sz) row, T, some sz⟩)) := by
 have h1 : i * sz + sz ≤ len * sz := by
  have := Nat.mul_le_mul_right sz (show i + 1 ≤ len by omega)
  rw [Nat.add_mul] at this
  omega
 refine ⟨by rw [List.length_set]; exact h.1, fun j hj => by rw [hget_set_ne (fun e => hj e.symm)]; exact h.2.1 j hj, setR C (i * sz) row, ?_, by rw [setR_length]; exact hl⟩
 rw [hget_set_eq (hget_lt hb), setR_left _ _ _ _ (by omega)]
theorem Wr.other {b : Nat} {T : TypeId} {sz len : Nat} {Z : List Value} {A G : AH} {j : Nat} {k : Blk} (h : Wr b T sz len Z A G) (hj : j ≠ b) (hk : hget A j = some k) : hget G j = some k := by rw [h.2.1 j hj]; exact hk
end
section
theorem rows_hda {D : AH} {b c : Nat} {T : TypeId} {es : Option Nat} {A Z : List Value} {R : List (List Value)} {L : List HeldD} (hb : hget D b = some ⟨A ++ (R.flatten ++ Z), T, es⟩) (hl : R.length = L.length) (hw : ∀ x ∈ L, x.Wf) (h : ∀ (k : Nat) (us : List Value) (x : HeldD), R[k]? = some us → L[k]? = some x → us.length = 104 ∧ ValL D x.row us) : HdA D (.slice (some ⟨b, A.length, none⟩) L.length c) L := by
 have hu : und Try.prog 58 = .slice 60 := by kernel_rfl
 have hs : szt Try.prog 60 = 104 := by kernel_rfl
 have hR : ∀ r ∈ R, r.length = 104 := fun r hr => by
  obtain ⟨k, hk⟩ := List.getElem?_of_mem hr
  have hkl := (List.getElem?_eq_some_iff.1 hk).1
  exact (h k r _ hk (List.getElem?_eq_getElem (show k < L.length by omega))).1
 refine ⟨rfl, rfl, by unfold xlen; rw [hu], hw, fun i x hx => ?_⟩
 have hil := (List.getElem?_eq_some_iff.1 hx).1
 obtain ⟨us, hus⟩ : ∃ us, R[i]? = some us := ⟨_, List.getElem?_eq_getElem (by omega)⟩
 obtain ⟨h1, h2⟩ := h i us x hus hx
 obtain ⟨pv, wv, bv, qv, hC⟩ := held_c (hw x (List.mem_of_getElem? hx)) h2
 have hfl := fl_get hR hus
 have hfe : R.flatten.length = R.length * 104 := fl_len hR
 have hlt : i * 104 + 104 ≤ R.flatten.length := by rw [hfe]; omega
 have hall : ((A ++ (R.flatten ++ Z)).drop (A.length + i * 104)).take 104 = us := by
  rw [← hfl, ← List.drop_drop, List.drop_left, List.drop_append_of_le_length (by omega), List.take_append_of_le_length (by rw [List.length_drop]; omega)]
 refine ⟨b, A.length + i * 104, ⟨A ++ (R.flatten ++ Z), T, es⟩, us, pv, wv, bv, qv, ?_, hb, ?_, fun c hc => ?_, hall.symm, hC⟩
 ·unfold xindexAddr
  rw [hu]
  simp only [hs]
  rw [if_pos ⟨by omega, by omega, by omega⟩]
  simp
 ·show _ ≤ (A ++ (R.flatten ++ Z)).length
  rw [List.length_append, List.length_append]
  omega
 ·have := congrArg (·[c]?) hall
  simp only [List.getElem?_take_of_lt hc, List.getElem?_drop] at this
  exact this
theorem room_hda {D : AH} {b k c c' c2 : Nat} {l : List HeldD} (h : HdA D (.slice (some ⟨b, 0, none⟩) k c) l) : HdA D (.slice (some ⟨b, 0, some (c' + 1)⟩) k c2) l := by
 have hu : und Try.prog 58 = .slice 60 := by kernel_rfl
 have e : ∀ z : Int, xindexAddr Try.prog 58 (.slice (some ⟨b, 0, some (c' + 1)⟩) k c2) (.int .i64 z) = xindexAddr Try.prog 58 (.slice (some ⟨b, 0, none⟩) k c) (.int .i64 z) := fun z => by
  unfold xindexAddr
  rw [hu]
  simp only [Nat.zero_add]
 refine ⟨rfl, rfl, ?_, h.wf, fun i x hx => ?_⟩
 ·have := h.len
  unfold xlen at this ⊢
  rw [hu] at this ⊢
  exact this
 ·obtain ⟨j, q, bb, us, pv, wv, bv, qv, h1, h2⟩ := h.at_ i x hx
  exact ⟨j, q, bb, us, pv, wv, bv, qv, by rw [e]; exact h1, h2⟩
def zH : HeldD := ⟨List.replicate 32 0, zO, []⟩
def zHRow : List Value := heldRow zH (.slice none 0 0) (.slice none 0 0) (.slice none 0 0) (.slice none 0 0)
theorem zH_wf : zH.Wf := ⟨z32, zO_wf, fun k hk => (by cases hk), by show 0 ≤ _; omega⟩
theorem zHRow_len : zHRow.length = 104 := by kernel_rfl
theorem zHRow_val (G : AH) : ValL G zH.row zHRow := held_val (.nil fun x e => by cases e) (.nil fun x e => by cases e) (.nil fun x e => by cases e) (.nil fun x e => by cases e)
theorem heldRow_103 {x : HeldD} (hw : x.Wf) (pv wv bv qv : Value) : (heldRow x pv wv bv qv)[103]? = some qv := (opRow_offH hw pv wv bv qv).2.2
theorem heldRow_s103 {x : HeldD} (hw : x.Wf) (pv wv bv qv q' : Value) : setR (heldRow x pv wv bv qv) 103 [q'] = heldRow x pv wv bv q' := by
 have hA : (iv .u8 x.id).length = 32 := by rw [iv_length]; exact hw.id.1
 have hB := opRow_len hw.op pv wv bv
 unfold heldRow
 rw [setR_one, List.set_append_right _ _ (by omega), List.set_append_right _ _ (by omega), hA, hB]
 rfl
theorem heldRow_34 {x : HeldD} (hw : x.Wf) (pv wv bv qv : Value) : (heldRow x pv wv bv qv)[34]? = some pv := by
 have hA : (iv .u8 x.id).length = 32 := by rw [iv_length]; exact hw.id.1
 have hB := opRow_len hw.op pv wv bv
 unfold heldRow
 rw [List.getElem?_append_right (by omega), List.getElem?_append_left (by omega), hA]
 exact opRow_2 x.op pv wv bv
theorem heldRow_s34 {x : HeldD} (hw : x.Wf) (pv wv bv qv p' : Value) : setR (heldRow x pv wv bv qv) 34 [p'] = heldRow x p' wv bv qv := by
 have hA : (iv .u8 x.id).length = 32 := by rw [iv_length]; exact hw.id.1
 have hB := opRow_len hw.op pv wv bv
 have h2 := opRow_s2 x.op pv wv bv p'
 rw [setR_one] at h2
 unfold heldRow
 rw [setR_one, List.set_append_right _ _ (by omega), List.set_append_left _ _ (by omega), hA, h2]
end
end Go.Proofs.Ytdeccbjdhcifiaa
