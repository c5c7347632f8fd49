/-
  QueueKeeps: the law, walked.
-/
import Derived.Test.YtdeccbjdhcifiaaKG
namespace Go.Proofs.Ytdeccbjdhcifiaa
open Go Go.RowKit
set_option linter.unusedSimpArgs false
set_option linter.unusedVariables false
set_option maxRecDepth 100000
set_option maxHeartbeats 4000000
section
attribute [local simp] wb_bool wb_undef with_lit XL_nil XL_cons XLc_val XLc_call step1_eq stepW_t stepW_f stepC_n stepC_s stepX_s stepX_n stepN_s calleeX xrecv oneV xop_eq xopR_s xopR_n wantedA_eq wantedG_n wantedG_s plain1_int plain1_bool plain1_string bits_i64 bits_u64 bits_u32 bits_u16 bits_u8 xeqA xagg xcmp xarr allK_iv num_iv calleeOf xread xeff xbin xint xnil xun xstr xload xconv xpart xfield xfieldAddr xindexAddr xindex bnd asInt? xslice xlen xmin xmax xbuild xfill xappend xapp2 xappstr xappmk xcap xcopy xcells eval_tmp eval_const put_at put_none fr0_at cells_agg cells_int cells_bool cells_string cells_ptr cells_slice notTuple tab iv_all hget_app hget_app0 hget_cons0 hget_cons set_app set_app0 setR setR_one QL_nil QL_cons QLc_val stepQ_t stepQ_f stepQC_n stepQC_s stepQX_s SL_nil SL_cons SLc_val stepS_t stepS_f ltT ltF leT leF eqT eqF ltTn ltFn leTn leFn eqTn eqFn beqT beqF bneT bneF wi64 wu64 wu32 wu16 wu8 tmodP tdivP hgetL hgetNe hgetEq setL nums_def nums_len Nat.succ_le_of_lt List.getElem?_cons_zero List.getElem?_cons_succ Option.getD_some Int.toNat_add Int.toNat_mul agM okM agB agI agS agP agL agA okB okI okS okP okSl okA
theorem qkeeps_law {γ : Nat → Option Nat} {H : AH} {dq dh : List CD} {u : Value} {us : List Value} (oq : OkL [.sl heldK] dq) (vq : ValL H dq [u]) (oh : OkL heldK dh) (vh : ValL H dh us) : AC Try.prog H.length γ 12 #[u, .agg us.toArray] H (fun v' _ => v' = .bool true) := by
 obtain ⟨l, hV, hwl, hml⟩ := helds_in oq vq
 obtain ⟨x, pv, wv, bv, kv, hC, hwx⟩ := held_in oh vh
 have hN := hV.hda hwl
 obtain ⟨v1, v2⟩ := val_nt hV
 have hul := hC.len
 have hrow := hC.row hwx
 have htu : us.take 104 = us := List.take_of_length_le (by omega)
 have c103 := hC.c103
 have c34 : us[34]? = some pv := by rw [hrow]; exact heldRow_34 hwx _ _ _ _
 have hcop := hC.op.len
 have gk := val_nt hC.got
 have gp := val_nt hC.op.parents
 have gkl := val_len (P := Try.prog) (t := 36) (e := 38) hC.got (by kernel_rfl)
 rw [List.length_map] at gkl
 refine ac_of_aw Try.func12 rfl Try.ntmps12 Try.results12 (by simp) ?_
 refine aw_seq ?_
 (refine aw_ops (by kernel_rfl) (fun K hK => ?_); simp (disch := first | omega | (simp only [lnS]; try omega)) [-getElem?_pos, -getElem?_neg, hul, nt_aggG]; refine hK _ _ ?_; clear hK K)
 obtain ⟨lw, b3⟩ := boxed (H := H) us 60
 obtain ⟨n, hn⟩ : ∃ n, n = H.length := ⟨_, rfl⟩
 rw [← hn] at b3 lw ⊢
 have gl : (H ++ ([some ⟨us, 60, none⟩] : AH)).length = n + 1 := by simp [hn]
 generalize H ++ [some ⟨us, 60, none⟩] = G at *
 have lwH : Low H.length H G := hn ▸ lw
 have hNG := hN.lowG lwH
 have hCG := hC.low lwH.1
 have al := qalive_rc (γ := γ) (H := G)
 have g1 := greatQ_rc (γ := γ) hNG
 have g3 := greatO_rc (γ := γ) hCG.op hwx.op
 refine aw_seq ?_
 refine aw_seq ?_
 refine aw_ops (by kernel_rfl) (fun K hK => ?_)
 simp (disch := first | omega | (simp only [lnS]; try omega)) [-getElem?_pos, -getElem?_neg]
 refine ⟨by kernel_rfl, ac_of_rc al (by simp [pv_iv, pv_int, pv_bool, pv_string, pv_tup2, pv_tup3, iv_plain, p2_int, p2_bool, p2_string]) ?_⟩
 try simp (disch := first | omega | (simp only [lnS]; try omega)) [-getElem?_pos, -getElem?_neg]
 refine hK _ _ ?_; clear hK K
 refine aw_f (by (first | (simp [eval_tmp, put_at]; done) | (simp [eval_tmp, put_at]; omega))) (by kernel_rfl) ?_
 refine aw_skip ?_
 refine aw_seq ?_
 refine aw_seq ?_
 refine aw_cut (fun α G2 => α 29 = .bool (greatQ l || greatO x.op || decide (20 < x.got.length)) ∧ α 0 = u ∧ α 3 = .pointer (some ⟨n, 0, none⟩) ∧ G2 = G) ?_ ?_
 ·refine aw_ops (by kernel_rfl) (fun K hK => ?_)
  simp (disch := first | omega | (simp only [lnS]; try omega)) [-getElem?_pos, -getElem?_neg, -notTuple, v1, v2, nt_intG]
  refine ⟨by kernel_rfl, ac_of_rc g1 (by simp [pv_iv, pv_int, pv_bool, pv_string, pv_tup2, pv_tup3, iv_plain, p2_int, p2_bool, p2_string]) ?_⟩
  cases hg : greatQ l with
  | true =>
   try simp (disch := first | omega | (simp only [lnS]; try omega)) [-getElem?_pos, -getElem?_neg]
   refine hK _ _ ?_; clear hK K
   exact ⟨by (first | (simp [put_at, put_none, fr0_at, hg]; done) | rfl), by (first | (simp [put_at, put_none, fr0_at]; done) | rfl), by (first | (simp [put_at, put_none, fr0_at]; done) | rfl), rfl⟩
  | false =>
  simp (disch := first | omega | (simp only [lnS]; try omega)) [-getElem?_pos, -getElem?_neg, b3, hul, hcop, nt_intG, nt_aggG]
  refine ⟨by kernel_rfl, ac_of_rc g3 (by simp [pv_iv, pv_int, pv_bool, pv_string, pv_tup2, pv_tup3, iv_plain, p2_int, p2_bool, p2_string]) ?_⟩
  cases hg3 : greatO x.op with
  | true =>
   try simp (disch := first | omega | (simp only [lnS]; try omega)) [-getElem?_pos, -getElem?_neg]
   refine hK _ _ ?_; clear hK K
   exact ⟨by (first | (simp [put_at, put_none, fr0_at, hg, hg3]; done) | rfl), by (first | (simp [put_at, put_none, fr0_at]; done) | rfl), by (first | (simp [put_at, put_none, fr0_at]; done) | rfl), rfl⟩
  | false =>
  by_cases h20 : 20 < x.got.length
  ·have h20i : (20 : Int) < x.got.length := by omega
   try simp (disch := first | omega | (simp only [lnS]; try omega)) [-getElem?_pos, -getElem?_neg, b3, c103, -notTuple, gk.1, gk.2, -xlen, gkl, nt_intG, h20i]
   refine hK _ _ ?_; clear hK K
   exact ⟨by (first | (simp [put_at, put_none, fr0_at, hg, hg3, h20]; done) | rfl), by (first | (simp [put_at, put_none, fr0_at]; done) | rfl), by (first | (simp [put_at, put_none, fr0_at]; done) | rfl), rfl⟩
  ·have h20i : ¬ (20 : Int) < x.got.length := by omega
   try simp (disch := first | omega | (simp only [lnS]; try omega)) [-getElem?_pos, -getElem?_neg, b3, c103, -notTuple, gk.1, gk.2, -xlen, gkl, nt_intG, h20i]
   refine hK _ _ ?_; clear hK K
   exact ⟨by (first | (simp [put_at, put_none, fr0_at, hg, hg3, h20]; done) | rfl), by (first | (simp [put_at, put_none, fr0_at]; done) | rfl), by (first | (simp [put_at, put_none, fr0_at]; done) | rfl), rfl⟩
 rintro α G2 ⟨q29, q0, q3, rfl⟩
 cases hb : (greatQ l || greatO x.op || decide (20 < x.got.length)) with
 | true =>
  rw [hb] at q29
  refine aw_t (by (first | (simp [eval_tmp, put_at, q29]; done) | (simp [eval_tmp, put_at, q29]; omega))) (by kernel_rfl) ?_
  refine aw_seq ?_
  refine aw_ops (by kernel_rfl) (fun K hK => ?_)
  simp (disch := first | omega | (simp only [lnS]; try omega)) [-getElem?_pos, -getElem?_neg]
  refine ⟨by kernel_rfl, ac_of_rc al (by simp [pv_iv, pv_int, pv_bool, pv_string, pv_tup2, pv_tup3, iv_plain, p2_int, p2_bool, p2_string]) ?_⟩
  try simp (disch := first | omega | (simp only [lnS]; try omega)) [-getElem?_pos, -getElem?_neg]
  refine hK _ _ ?_; clear hK K
  (refine aw_ret ?_; simp (disch := first | omega | (simp only [lnS]; try omega)) [-getElem?_pos, -getElem?_neg, thenQ_ret, scopeQ_ret, inBlockQ_ret, RQ, resL, resV])
 | false =>
 rw [hb] at q29
 refine aw_f (by (first | (simp [eval_tmp, put_at, q29]; done) | (simp [eval_tmp, put_at, q29]; omega))) (by kernel_rfl) ?_
 refine aw_skip ?_
 simp only [Bool.or_eq_false_iff, decide_eq_false_iff_not] at hb
 obtain ⟨⟨hg1, hg3⟩, hg4⟩ := hb
 obtain ⟨l40, ly⟩ := greatQ_le hg1
 obtain ⟨hp30, hw30, hb30⟩ := greatO_le hg3
 have hlm : l.length ≤ maxLen := by simp only [maxLen]; omega
 have gy : ∀ y ∈ l, y.got.length ≤ 1000 := fun y hy => by have := (ly y hy).2; omega
 have hkg : ∀ k ∈ x.got, k.length = 32 := fun k hk => (hwx.got k hk).1
 have hkk : ∀ k ∈ x.op.parents, k.length = 32 := fun k hk => (hwx.op.parents k hk).1
 have hp0 : plain1 (.slice none 0 0) = true := rfl
 have u3 := hNG.len
 have hlm2 : l.length + 2 ≤ maxLen := by simp only [maxLen]; omega
 obtain ⟨R, hRl, hR, hRx⟩ := helds_cells hV hwl
 have hR104 : ∀ r ∈ R, r.length = 104 := fun r hr => by
  obtain ⟨k, hk⟩ := List.getElem?_of_mem hr
  have hkl := (List.getElem?_eq_some_iff.1 hk).1
  exact (hR k r _ hk (List.getElem?_eq_getElem (show k < l.length by omega))).1
 have hRf : R.flatten.length = l.length * 104 := by rw [fl_len hR104, hRl]
 have hlt2 : (l.length : Int) < (l.length : Int) + 2 := by omega
 refine aw_seq ?_
 refine aw_ops (by kernel_rfl) (fun K hK => ?_)
 simp (disch := first | omega | (simp only [lnS]; try omega)) [-getElem?_pos, -getElem?_neg, q0, -notTuple, v1, v2, nt_intG, nt_slG, -xlen, u3, hlm2, hlt2, hp0, all_zl]
 refine hK _ _ ?_; clear hK K
 have hzr : (iv .u8 (zl 32) ++ Value.int .i64 0 :: .int .u32 0 :: .slice none 0 0 :: .int .i64 0 :: .slice none 0 0 :: (iv .u8 (zl 64) ++ [.string ByteArray.empty, .slice none 0 0, .slice none 0 0])) = zHRow := by kernel_rfl
 rw [hzr, zeros_rows zHRow_len, gl]
 obtain ⟨G3, hG3⟩ : ∃ G : AH, G = G2 ++ [some ⟨(List.replicate (l.length + 2) zHRow).flatten, 60, some 104⟩] := ⟨_, rfl⟩
 have k1 : hget G3 (n + 1) = some ⟨(List.replicate (l.length + 2) zHRow).flatten, 60, some 104⟩ := by rw [hG3, ← gl, hget_app0]; rfl
 have gl3 : G3.length = n + 2 := by rw [hG3]; simp; omega
 have b3 := hget_left' (L := [some ⟨(List.replicate (l.length + 2) zHRow).flatten, 60, some 104⟩]) b3
 rw [← hG3] at b3
 have lw3 : Low n H G3 := ⟨fun j hj => by rw [hG3, hget_left (by omega)]; exact lw.1 j hj, by omega⟩
 rw [← hG3]
 clear hG3
 obtain ⟨Z2, hZ2⟩ : ∃ Z, Z = (List.replicate 2 zHRow).flatten := ⟨_, rfl⟩
 have hcp : xcopy Try.prog n 58 (.slice (some ⟨n + 1, 0, some (l.length + 2 + 1)⟩) l.length l.length) u G3 = some (.int .i64 (l.length : Nat), G3.set (n + 1) (some ⟨R.flatten ++ Z2, 60, some 104⟩)) := by
  have hu : und Try.prog 58 = .slice 60 := by kernel_rfl
  have hs : szt Try.prog 60 = 104 := by kernel_rfl
  unfold xcopy
  simp only [hu, hs, hRx G3 (hn ▸ lw3), k1]
  rw [if_pos ⟨by omega, by omega, by rw [repl_len zHRow_len]; omega⟩, hRf, Nat.mul_div_cancel _ (by omega), Nat.min_self, List.take_of_length_le (by omega), with_lit, room_copy zHRow_len hRf, hZ2]
 refine aw_seq ?_
 (refine aw_ops (by kernel_rfl) (fun K hK => ?_); simp (disch := first | omega | (simp only [lnS]; try omega)) [-getElem?_pos, -getElem?_neg, q0, -notTuple, v1, v2, nt_slG, nt_intG, -xcopy, hcp]; refine hK _ _ ?_; clear hK K)
 obtain ⟨G4, hG4⟩ : ∃ G : AH, G = G3.set (n + 1) (some ⟨R.flatten ++ Z2, 60, some 104⟩) := ⟨_, rfl⟩
 have hh : ∀ j, j ≠ n + 1 → hget G4 j = hget G3 j := fun j hj => by rw [hG4]; exact hget_set_ne (fun e => hj e.symm)
 have k1 : hget G4 (n + 1) = some ⟨R.flatten ++ Z2, 60, some 104⟩ := by rw [hG4]; exact hget_set_eq (by omega)
 have gl4 : G4.length = n + 2 := by rw [hG4, List.length_set, gl3]
 rw [← hG4]
 clear hG4 hcp
 have b3 : hget G4 n = _ := (hh n (by omega)).trans b3
 have lw4 : Low n H G4 := ⟨fun j hj => (hh j (by omega)).trans (lw3.1 j hj), by omega⟩
 have hset : ∀ Z : List Value, Z.length = 104 → setR Z 0 us = us := fun Z hZ => setR_all _ _ (by omega)
 have hle : n ≤ G4.length := by omega
 refine aw_seq ?_
 (refine aw_ops (by kernel_rfl) (fun K hK => ?_); simp (disch := first | omega | (simp only [lnS]; try omega)) [-getElem?_pos, -getElem?_neg, q3, b3, hul, htu, hle, hp0, nt_aggG, all_zl, hset]; refine hK _ _ ?_; clear hK K)
 obtain ⟨hlow1, hb6⟩ := boxed (H := G4) us 60
 have hb3 := hget_left' (L := [some ⟨us, 60, none⟩]) b3
 have hk1 := hget_left' (L := [some ⟨us, 60, none⟩]) k1
 have gl5 : (G4 ++ ([some ⟨us, 60, none⟩] : AH)).length = n + 3 := by simp; omega
 rw [gl4] at hb6 hlow1 ⊢
 have lw5 : Low n H (G4 ++ ([some ⟨us, 60, none⟩] : AH)) := ⟨fun j hj => (hlow1.1 j (by omega)).trans (lw4.1 j hj), by omega⟩
 clear hlow1
 generalize G4 ++ [some ⟨us, 60, none⟩] = G5 at *
 have hC5 := hC.low (H' := G5) (fun j hj => lw5.1 j (by omega))
 have hle : n ≤ G5.length := by omega
 have hsh := val_shape hC5.got
 rw [List.length_map, List.map_eq_nil_iff] at hsh
 have hsh : (kv = .slice none 0 0 ∧ x.got.length = 0) ∨ ∃ a, kv = .slice (some a) x.got.length x.got.length := hsh.imp (fun h => ⟨h.1, by rw [h.2]; rfl⟩) (fun h => h)
 have hxc : xcells 32 kv (G5 ++ [some ⟨[], 38, some 32⟩]) = some (ksC x.got) := val_cells (by omega) (CD.Val.low (fun j hj => hget_left hj) hC5.got) (kd_len hkg) (kd_flat _)
 have hkl := ksC_len hkg
 have hap := app_new (P := Try.prog) (nro := n) (t := 36) (e := 38) (sz := 32) hsh (by simp) (by simp) (by omega) (by simp) hle hxc hkl (by rw [hkl]; simp; omega) (by rw [hkl]; simp only [maxLen]; omega)
 obtain ⟨x1, x2, x3, x4⟩ := app_pack (G := G5) (k := n + 2) (B := ⟨ksC x.got, 38, some 32⟩) (X := some ⟨heldRow x pv wv bv (.slice (some ⟨G5.length + 1, 0, none⟩) x.got.length x.got.length), 60, none⟩) (by omega)
 have f3 := hget_left' (L := [some ⟨[], 38, some 32⟩]) hb3
 have f6 : hget (G5 ++ [none, some ⟨ksC x.got, 38, some 32⟩]) (n + 2) = some ⟨us, 60, none⟩ := hget_left' hb6
 have t1 : setR us 103 [.slice (some ⟨G5.length + 1, 0, none⟩) x.got.length x.got.length] = heldRow x pv wv bv (.slice (some ⟨G5.length + 1, 0, none⟩) x.got.length x.got.length) := by rw [hrow]; exact heldRow_s103 hwx _ _ _ _ _
 refine aw_seq ?_
 refine aw_ops (by kernel_rfl) (fun K hK => ?_)
 simp (disch := first | omega | (simp only [lnS]; try omega)) [-getElem?_pos, -getElem?_neg, q3, f3, f6, hul, c103, -notTuple, gk.1, gk.2, nt_slG, -xappend, hap, t1, List.range_zero, List.map_nil]
 refine hK _ _ ?_; clear hK K
 rw [gl5] at x1 x2 x3 x4 ⊢
 clear hap t1 f3 f6 hxc
 generalize G5.set (n + 2) _ ++ _ = G6 at *
 have hb3 : hget G6 n = some ⟨us, 60, none⟩ := (x4 n (by omega) (by omega)).trans hb3
 have hk1 : hget G6 (n + 1) = some ⟨R.flatten ++ Z2, 60, some 104⟩ := (x4 (n + 1) (by omega) (by omega)).trans hk1
 have hb6 := x1
 have gl6 : G6.length = n + 5 := by omega
 have lw6 : Low n H G6 := ⟨fun j hj => (x4 j (by omega) (by omega)).trans (lw5.1 j hj), by omega⟩
 have kg : hget G6 (n + 4) = some ⟨ksC x.got, 38, some 32⟩ := x2
 clear x1 x2 x3 x4 hsh hkl
 have hC6 := hC.low (H' := G6) (fun j hj => lw6.1 j (by omega))
 have hle : n ≤ G6.length := by omega
 have hsh := val_shape hC6.op.parents
 rw [List.length_map, List.map_eq_nil_iff] at hsh
 have hsh : (pv = .slice none 0 0 ∧ x.op.parents.length = 0) ∨ ∃ a, pv = .slice (some a) x.op.parents.length x.op.parents.length := hsh.imp (fun h => ⟨h.1, by rw [h.2]; rfl⟩) (fun h => h)
 have hxc : xcells 32 pv (G6 ++ [some ⟨[], 38, some 32⟩]) = some (ksC x.op.parents) := val_cells (by omega) (CD.Val.low (fun j hj => hget_left hj) hC6.op.parents) (kd_len hkk) (kd_flat _)
 have hkl := ksC_len hkk
 have hap := app_new (P := Try.prog) (nro := n) (t := 36) (e := 38) (sz := 32) hsh (by simp) (by simp) (by omega) (by simp) hle hxc hkl (by rw [hkl]; simp; omega) (by rw [hkl]; simp only [maxLen]; omega)
 obtain ⟨x1, x2, x3, x4⟩ := app_pack (G := G6) (k := n + 2) (B := ⟨ksC x.op.parents, 38, some 32⟩) (X := some ⟨heldRow x (.slice (some ⟨G6.length + 1, 0, none⟩) x.op.parents.length x.op.parents.length) wv bv (.slice (some ⟨n + 4, 0, none⟩) x.got.length x.got.length), 60, none⟩) (by omega)
 have f3 := hget_left' (L := [some ⟨[], 38, some 32⟩]) hb3
 have f6 : hget (G6 ++ [none, some ⟨ksC x.op.parents, 38, some 32⟩]) (n + 2) = some ⟨heldRow x pv wv bv (.slice (some ⟨n + 4, 0, none⟩) x.got.length x.got.length), 60, none⟩ := hget_left' hb6
 have hrl := heldRow_len hwx pv wv bv (.slice (some ⟨n + 4, 0, none⟩) x.got.length x.got.length)
 have t1 := heldRow_s34 hwx pv wv bv (.slice (some ⟨n + 4, 0, none⟩) x.got.length x.got.length) (.slice (some ⟨G6.length + 1, 0, none⟩) x.op.parents.length x.op.parents.length)
 refine aw_seq ?_
 refine aw_ops (by kernel_rfl) (fun K hK => ?_)
 simp (disch := first | omega | (simp only [lnS]; try omega)) [-getElem?_pos, -getElem?_neg, q3, f3, f6, hul, hrl, c34, -notTuple, gp.1, gp.2, nt_slG, -xappend, hap, t1, List.range_zero, List.map_nil]
 refine hK _ _ ?_; clear hK K
 rw [gl6] at x1 x2 x3 x4 ⊢
 clear hap t1 f3 f6 hxc hrl
 generalize G6.set (n + 2) _ ++ _ = G7 at *
 have hb3 : hget G7 n = some ⟨us, 60, none⟩ := (x4 n (by omega) (by omega)).trans hb3
 have hk1 : hget G7 (n + 1) = some ⟨R.flatten ++ Z2, 60, some 104⟩ := (x4 (n + 1) (by omega) (by omega)).trans hk1
 have hb6 := x1
 have gl7 : G7.length = n + 7 := by omega
 have lw7 : Low n H G7 := ⟨fun j hj => (x4 j (by omega) (by omega)).trans (lw6.1 j hj), by omega⟩
 have kg : hget G7 (n + 4) = some ⟨ksC x.got, 38, some 32⟩ := (x4 (n + 4) (by omega) (by omega)).trans kg
 have kp : hget G7 (n + 6) = some ⟨ksC x.op.parents, 38, some 32⟩ := x2
 clear x1 x2 x3 x4 hsh hkl
 have hC7 := hC.low (H' := G7) (fun j hj => lw7.1 j (by omega))
 have i1 : KsV G7 (.slice (some ⟨n + 6, 0, none⟩) x.op.parents.length x.op.parents.length) x.op.parents := own_val (F := [n + 6]) (by omega) (.inr ⟨n + 6, _, rfl, kp, ksC_len hkk, rfl⟩) (kd_len hkk) (kd_flat _)
 have i4 : KsV G7 (.slice (some ⟨n + 4, 0, none⟩) x.got.length x.got.length) x.got := own_val (F := [n + 4]) (by omega) (.inr ⟨n + 4, _, rfl, kg, ksC_len hkg, rfl⟩) (kd_len hkg) (kd_flat _)
 obtain ⟨p9, w9, b9, k9, hCr⟩ := held_c hwx (held_val i1 hC7.op.who hC7.op.boxes i4)
 have hNr : HdA G7 (.slice (some ⟨n + 1, 0, some (l.length + 2 + 1)⟩) l.length l.length) l := room_hda (c := l.length) (rows_hda (A := []) (by simpa using hk1) hRl hwl (fun k us x hk hx => ⟨(hR k us x hk hx).1, (hR k us x hk hx).2 G7 (hn ▸ lw7)⟩))
 have g34 := heldRow_34 hwx (.slice (some ⟨n + 6, 0, none⟩) x.op.parents.length x.op.parents.length) wv bv (.slice (some ⟨n + 4, 0, none⟩) x.got.length x.got.length)
 have g103 := heldRow_103 hwx (.slice (some ⟨n + 6, 0, none⟩) x.op.parents.length x.op.parents.length) wv bv (.slice (some ⟨n + 4, 0, none⟩) x.got.length x.got.length)
 have hrl := heldRow_len hwx (.slice (some ⟨n + 6, 0, none⟩) x.op.parents.length x.op.parents.length) wv bv (.slice (some ⟨n + 4, 0, none⟩) x.got.length x.got.length)
 generalize heldRow x (.slice (some ⟨n + 6, 0, none⟩) x.op.parents.length x.op.parents.length) wv bv (.slice (some ⟨n + 4, 0, none⟩) x.got.length x.got.length) = OR at *
 have htR : OR.take 104 = OR := List.take_of_length_le (by omega)
 have hwP := putL_all (l := l) (x := x) hwl hwx
 refine aw_seq ?_
 refine aw_ops (by kernel_rfl) (fun K hK => ?_)
 simp (disch := first | omega | (simp only [lnS]; try omega)) [-getElem?_pos, -getElem?_neg, hb6, hrl, htR, nt_slG, nt_intG, nt_aggG]
 refine ⟨by kernel_rfl, ((put_rc (γ := γ) hNr hCr hwx hlm gy (by omega)).thaw (nro := n) (fun v G' h => ⟨h.1.2, h.1.1⟩)).mono ?_⟩
 intro va G8 hqa
 have low8 := hqa.1
 obtain ⟨⟨a, rfl, a1, a2, aA⟩⟩ := hqa.ans hwP
 simp (disch := first | omega | (simp only [lnS]; try omega)) [-getElem?_pos, -getElem?_neg, -notTuple, a1, a2, nt_intG]
 refine hK _ _ ?_; clear hK K
 have le8 := low8.2
 have lw8 : Low n H G8 := ⟨fun j hj => (low8.1 j (by omega)).trans (lw7.1 j hj), by omega⟩
 have hb3 : hget G8 n = _ := (low8.1 n (by omega)).trans hb3
 refine aw_seq ?_
 refine aw_ops (by kernel_rfl) (fun K hK => ?_)
 simp (disch := first | omega | (simp only [lnS]; try omega)) [-getElem?_pos, -getElem?_neg, q0, q3, hb3, hul, htu, -notTuple, v1, v2, nt_intG, nt_aggG]
 refine ⟨by kernel_rfl, ((qrPut_rc (γ := γ) hV hwl hC hwx hlm (hn ▸ lw8)).thaw (nro := n) (fun v G' h => ⟨h.1.2, h.1.1⟩)).mono ?_⟩
 intro vb G9 hqb
 have low9 := hqb.1
 have le9 := low9.2
 have lw9 : Low n H G9 := ⟨fun j hj => (low9.1 j (by omega)).trans (lw8.1 j hj), by omega⟩
 obtain ⟨⟨b, rfl, b1, b2, bA⟩⟩ := hqb.ans hwP (hn ▸ lw9)
 simp (disch := first | omega | (simp only [lnS]; try omega)) [-getElem?_pos, -getElem?_neg, -notTuple, b1, b2, nt_intG]
 refine hK _ _ ?_; clear hK K
 have low89 : Low G7.length G7 G9 := ⟨fun j hj => (low9.1 j (by omega)).trans (low8.1 j hj), by omega⟩
 have hk1 : hget G9 (n + 1) = _ := (low89.1 _ (by omega)).trans hk1
 have hb6 : hget G9 (n + 2) = _ := (low89.1 _ (by omega)).trans hb6
 have kg : hget G9 (n + 4) = _ := (low89.1 _ (by omega)).trans kg
 have kp : hget G9 (n + 6) = _ := (low89.1 _ (by omega)).trans kp
 have hNr9 := hNr.lowG low89
 have hN9 := hN.lowG (hn ▸ lw9)
 have smL : Sm6H l := sm6_of fun y hy => (ly y hy).1
 refine aw_seq ?_
 refine aw_ops (by kernel_rfl) (fun K hK => ?_)
 simp (disch := first | omega | (simp only [lnS]; try omega)) [-getElem?_pos, -getElem?_neg, nt_slG, nt_intG]
 refine hK _ _ ?_; clear hK K
 have u39 := hN9.len
 have hlt2b : ¬ ((l.length : Int) + 2 = (l.length : Int)) := by omega
 have zall : zHRow.all plain1 = true := by kernel_rfl
 have z208 : (List.map (fun j => zHRow[j % 104]?.getD undef) (List.range 208)) = Z2 := by rw [hZ2]; exact zeros_rows zHRow_len 2
 have n3 : ∀ A : AH, Low G9.length G9 A → HdA A (.slice (some ⟨n + 1, R.flatten.length, none⟩) 2 3) [zH, zH] := fun A hA => rows_hda (A := R.flatten) (Z := []) (R := List.replicate 2 zHRow) (L := [zH, zH]) (by rw [List.append_nil, ← hZ2]; exact (hA.1 _ (by omega)).trans hk1) rfl (fun x hx => by
  have : x = zH := by simpa using hx
  rw [this]; exact zH_wf) (fun k us x hk hx => by
  have e1 : us = zHRow := List.eq_of_mem_replicate (List.mem_of_getElem? hk)
  have e2 : x = zH := by have := List.mem_of_getElem? hx; simpa using this
  rw [e1, e2]
  exact ⟨zHRow_len, zHRow_val _⟩)
 rw [hRf] at n3
 have szz : Sm6H [zH, zH] := fun x hx => by
  have : x = zH := by simpa using hx
  rw [this]
  exact ⟨Nat.zero_le _, Nat.zero_le _, Nat.zero_le _⟩
 refine aw_seq ?_
 refine aw_seq ?_
 refine aw_cut (fun α' G' => α' 81 = .bool false ∧ α' 0 = u ∧ α' 5 = (.slice (some ⟨n + 1, 0, some (l.length + 2 + 1)⟩) l.length l.length) ∧ α' 6 = .pointer (some ⟨n + 2, 0, none⟩) ∧ α' 7 = a ∧ α' 8 = .int .i64 (putE l x) ∧ α' 9 = b ∧ ∃ L, G' = G9 ++ L) ?_ ?_
 ·(refine aw_plan [] [] [0, 1, 2, 3, 4, 5, 6, 7, 8, 9, 10, 11, 12] 13 0 (by kernel_rfl) (by kernel_rfl) (by kernel_rfl) (fun K hK => ?_)); simp only [sel, List.getElem?_cons_succ, List.getElem?_cons_zero, List.drop_succ_cons, List.drop_zero]; simp (disch := first | omega | (simp only [lnS]; try omega)) [-getElem?_pos, -getElem?_neg, q0, -notTuple, v1, v2, nt_slG, nt_intG, -xlen, u39, hlt2b, hp0, all_zl, PL_nil, plainB_lit, PL_cons, PLc_val, PLc_new, stepP_t, stepP_f, stepPC_n, stepPC_s, stepPX_s, stepPX_n, stepPV_n, stepPV_s, stepPA_t, stepPA_c, stepPA_l, stepPN_s, allocOp, reloc_sl, reloc_ptr, List.map_cons, List.map_nil, List.nil_append, List.append_assoc, List.cons_append, Nat.add_assoc]
  refine PLc_call (v := .bool true) (by kernel_rfl) (fun L hL => by
   have h := qrSame_rc (γ := γ) (hNr9.lowG (Low.push (Nat.le_refl _) L)) (hN9.lowG (Low.push (Nat.le_refl _) L)) smL smL hlm
   rwa [decide_eq_true rfl] at h) (by simp [pv_iv, pv_int, pv_bool, pv_string, pv_tup2, pv_tup3, iv_plain, p2_int, p2_bool, p2_string]) ?_
  simp (disch := first | omega | (simp only [lnS]; try omega)) [-getElem?_pos, -getElem?_neg, q0, -notTuple, v1, v2, nt_slG, nt_intG, -xlen, u39, hlt2b, hp0, all_zl, PL_nil, plainB_lit, PL_cons, PLc_val, PLc_new, stepP_t, stepP_f, stepPC_n, stepPC_s, stepPX_s, stepPX_n, stepPV_n, stepPV_s, stepPA_t, stepPA_c, stepPA_l, stepPN_s, allocOp, reloc_sl, reloc_ptr, List.map_cons, List.map_nil, List.nil_append, List.append_assoc, List.cons_append, Nat.add_assoc]
  rw [hzr]
  refine ⟨fun x hx => ?_, ?_⟩
  ·have hm := Nat.mod_lt x (show 0 < 104 by omega)
   rw [List.getElem?_eq_getElem (by rw [zHRow_len]; exact hm)]
   exact List.all_eq_true.1 zall _ (List.getElem_mem _)
  rw [z208]
  refine PLc_call (v := .bool true) (by kernel_rfl) (fun L hL => ?_) (by simp [pv_iv, pv_int, pv_bool, pv_string, pv_tup2, pv_tup3, iv_plain, p2_int, p2_bool, p2_string]) ?_
  ·have hs : hget L 0 = some ⟨Z2, 60, some 104⟩ := hL (.slice (some ⟨G9.length, 0, none⟩) 2 2) (by simp) 0 _ (by simp) rfl
   have hsG : hget (G9 ++ L) G9.length = some ⟨Z2, 60, some 104⟩ := by rw [hget_app0]; exact hs
   have n4 : HdA (G9 ++ L) (.slice (some ⟨G9.length, 0, none⟩) 2 2) [zH, zH] := rows_hda (A := []) (Z := []) (R := List.replicate 2 zHRow) (L := [zH, zH]) (by rw [List.append_nil, List.nil_append, ← hZ2]; exact hsG) rfl (fun x hx => by
    have : x = zH := by simpa using hx
    rw [this]; exact zH_wf) (fun k us x hk hx => by
    have e1 : us = zHRow := List.eq_of_mem_replicate (List.mem_of_getElem? hk)
    have e2 : x = zH := by have := List.mem_of_getElem? hx; simpa using this
    rw [e1, e2]
    exact ⟨zHRow_len, zHRow_val _⟩)
   have h := qrSame_rc (γ := γ) (n3 (G9 ++ L) (Low.push (Nat.le_refl _) L)) n4 szz szz (by simp [maxLen])
   rwa [decide_eq_true rfl] at h
  try simp (disch := first | omega | (simp only [lnS]; try omega)) [-getElem?_pos, -getElem?_neg, q0, -notTuple, v1, v2, nt_slG, nt_intG, -xlen, u39, hlt2b, hp0, all_zl, PL_nil, plainB_lit, PL_cons, PLc_val, PLc_new, stepP_t, stepP_f, stepPC_n, stepPC_s, stepPX_s, stepPX_n, stepPV_n, stepPV_s, stepPA_t, stepPA_c, stepPA_l, stepPN_s, allocOp, reloc_sl, reloc_ptr, List.map_cons, List.map_nil, List.nil_append, List.append_assoc, List.cons_append, Nat.add_assoc]
  refine hK _ _ ?_; clear hK K
  exact ⟨by (first | (simp [put_at, put_none, fr0_at]; done) | rfl), by (first | (simp [put_at, put_none, fr0_at, q0]; done) | rfl), by (first | (simp [put_at, put_none, fr0_at]; done) | rfl), by (first | (simp [put_at, put_none, fr0_at]; done) | rfl), by (first | (simp [put_at, put_none, fr0_at]; done) | rfl), by (first | (simp [put_at, put_none, fr0_at]; done) | rfl), by (first | (simp [put_at, put_none, fr0_at]; done) | rfl), _, rfl⟩
 clear q0 q3 q29
 rintro α GA ⟨q81, q0, q5, q6, q7, q8, q9, L, rfl⟩
 refine aw_f (by (first | (simp [eval_tmp, put_at, q81]; done) | (simp [eval_tmp, put_at, q81]; omega))) (by kernel_rfl) ?_
 refine aw_skip ?_
 have hk1 := hget_left' (L := L) hk1
 have hb6 := hget_left' (L := L) hb6
 have kg := hget_left' (L := L) kg
 have kp := hget_left' (L := L) kp
 have lwA : Low G9.length G9 (G9 ++ L) := Low.push (Nat.le_refl _) L
 have leA := lwA.2
 generalize G9 ++ L = GA at *
 refine aw_seq ?_
 refine aw_seq ?_
 (refine aw_ops (by kernel_rfl) (fun K hK => ?_); simp (disch := first | omega | (simp only [lnS]; try omega)) [-getElem?_pos, -getElem?_neg]; refine hK _ _ ?_; clear hK K)
 refine aw_block ?_
 refine aw_loop (fun c α G => ∃ i : Nat, i + c = x.got.length ∧ α 5 = (.slice (some ⟨n + 1, 0, some (l.length + 2 + 1)⟩) l.length l.length) ∧ α 6 = .pointer (some ⟨n + 2, 0, none⟩) ∧ α 7 = a ∧ α 8 = .int .i64 (putE l x) ∧ α 9 = b ∧ α 12 = .int .i64 (i : Nat) ∧ Wr (n + 4) 38 32 x.got.length [] GA G) x.got.length ?_ ?_
 ·exact ⟨0, by omega, by (first | (simp [put_at, put_none, fr0_at, q5]; done) | rfl), by (first | (simp [put_at, put_none, fr0_at, q6]; done) | rfl), by (first | (simp [put_at, put_none, fr0_at, q7]; done) | rfl), by (first | (simp [put_at, put_none, fr0_at, q8]; done) | rfl), by (first | (simp [put_at, put_none, fr0_at, q9]; done) | rfl), by (first | (simp [put_at, put_none, fr0_at]; done) | rfl), Wr.refl (by simpa using kg) (ksC_len hkg)⟩
 clear q0 q5 q6 q7 q8 q9 q81
 rintro c α GB ⟨i, hic, q5, q6, q7, q8, q9, qi, hWr⟩
 have e6 := hWr.other (j := n + 2) (by omega) hb6
 refine aw_seq ?_
 refine aw_seq ?_
 by_cases hi : i < x.got.length
 case pos =>
  have hWr' := hWr
  obtain ⟨hwl, _, C, hC, hCl⟩ := hWr
  obtain ⟨row, hrow⟩ : ∃ row : List Value, row = (iv .u8 (77 :: List.replicate 31 0)) := ⟨_, rfl⟩
  have hrowl : row.length = 32 := by rw [hrow]; kernel_rfl
  have hW2 := hWr'.store (row := row) hC hCl hi hrowl
  have hbn : i * 32 + 32 ≤ (C ++ []).length := by rw [List.length_append, hCl]; omega
  generalize C ++ [] = CZ at *
  have hbl : xbuild Try.prog 38 [(0, .int .u8 77)] = some (.agg row.toArray) := by rw [hrow]; kernel_rfl
  clear hrow
  (refine aw_ops (by kernel_rfl) (fun K hK => ?_); simp (disch := first | omega | (simp only [lnS]; try omega)) [-getElem?_pos, -getElem?_neg, q6, qi, e6, hrl, g103, nt_slG, nt_ptrG, nt_intG, hi]; refine hK _ _ ?_; clear hK K)
  refine aw_t (by (first | (simp [eval_tmp, put_at, hi]; done) | (simp [eval_tmp, put_at, hi]; omega))) (by kernel_rfl) ?_
  refine aw_skip ?_
  refine aw_seq ?_
  refine aw_block ?_
  have hle : n ≤ n + 4 := by omega
  (refine aw_ops (by kernel_rfl) (fun K hK => ?_); simp (disch := first | omega | (simp only [lnS]; try omega)) [-getElem?_pos, -getElem?_neg, q6, qi, e6, hrl, g103, nt_slG, nt_ptrG, nt_intG, nt_aggG, hi, hC, hle, hbn, hrowl, -xbuild, hbl]; refine hK _ _ ?_; clear hK K)
  (refine aw_ops (by kernel_rfl) (fun K hK => ?_); simp (disch := first | omega | (simp only [lnS]; try omega)) [-getElem?_pos, -getElem?_neg, qi]; refine hK _ _ ?_; clear hK K)
  exact ⟨c - 1, by omega, i + 1, by omega, by (first | (simp [put_at, put_none, fr0_at, q5]; done) | rfl), by (first | (simp [put_at, put_none, fr0_at, q6]; done) | rfl), by (first | (simp [put_at, put_none, fr0_at, q7]; done) | rfl), by (first | (simp [put_at, put_none, fr0_at, q8]; done) | rfl), by (first | (simp [put_at, put_none, fr0_at, q9]; done) | rfl), by (first | (simp [put_at, put_none, fr0_at]; done) | rfl), hW2⟩
 (refine aw_ops (by kernel_rfl) (fun K hK => ?_); simp (disch := first | omega | (simp only [lnS]; try omega)) [-getElem?_pos, -getElem?_neg, q6, qi, e6, hrl, g103, nt_slG, nt_ptrG, nt_intG, hi]; refine hK _ _ ?_; clear hK K)
 refine aw_f (by (first | (simp [eval_tmp, put_at, hi]; done) | (simp [eval_tmp, put_at, hi]; omega))) (by kernel_rfl) ?_
 refine aw_exit ?_
 have hb6 := hWr.other (j := n + 2) (by omega) hb6
 have kp := hWr.other (j := n + 6) (by omega) kp
 have hk1 := hWr.other (j := n + 1) (by omega) hk1
 have hkA := hWr
 clear hWr
 refine aw_seq ?_
 refine aw_seq ?_
 (refine aw_ops (by kernel_rfl) (fun K hK => ?_); simp (disch := first | omega | (simp only [lnS]; try omega)) [-getElem?_pos, -getElem?_neg]; refine hK _ _ ?_; clear hK K)
 refine aw_block ?_
 refine aw_loop (fun c α G => ∃ i : Nat, i + c = x.op.parents.length ∧ α 5 = (.slice (some ⟨n + 1, 0, some (l.length + 2 + 1)⟩) l.length l.length) ∧ α 6 = .pointer (some ⟨n + 2, 0, none⟩) ∧ α 7 = a ∧ α 8 = .int .i64 (putE l x) ∧ α 9 = b ∧ α 13 = .int .i64 (i : Nat) ∧ Wr (n + 6) 38 32 x.op.parents.length [] GB G) x.op.parents.length ?_ ?_
 ·exact ⟨0, by omega, by (first | (simp [put_at, put_none, fr0_at, q5]; done) | rfl), by (first | (simp [put_at, put_none, fr0_at, q6]; done) | rfl), by (first | (simp [put_at, put_none, fr0_at, q7]; done) | rfl), by (first | (simp [put_at, put_none, fr0_at, q8]; done) | rfl), by (first | (simp [put_at, put_none, fr0_at, q9]; done) | rfl), by (first | (simp [put_at, put_none, fr0_at]; done) | rfl), Wr.refl (by simpa using kp) (ksC_len hkk)⟩
 clear q5 q6 q7 q8 q9 qi
 rintro c α GC ⟨i, hic, q5, q6, q7, q8, q9, qi, hWr⟩
 have e6 := hWr.other (j := n + 2) (by omega) hb6
 refine aw_seq ?_
 refine aw_seq ?_
 by_cases hi : i < x.op.parents.length
 case pos =>
  have hWr' := hWr
  obtain ⟨hwl, _, C, hC, hCl⟩ := hWr
  obtain ⟨row, hrow⟩ : ∃ row : List Value, row = (iv .u8 (77 :: List.replicate 31 0)) := ⟨_, rfl⟩
  have hrowl : row.length = 32 := by rw [hrow]; kernel_rfl
  have hW2 := hWr'.store (row := row) hC hCl hi hrowl
  have hbn : i * 32 + 32 ≤ (C ++ []).length := by rw [List.length_append, hCl]; omega
  generalize C ++ [] = CZ at *
  have hbl : xbuild Try.prog 38 [(0, .int .u8 77)] = some (.agg row.toArray) := by rw [hrow]; kernel_rfl
  clear hrow
  (refine aw_ops (by kernel_rfl) (fun K hK => ?_); simp (disch := first | omega | (simp only [lnS]; try omega)) [-getElem?_pos, -getElem?_neg, q6, qi, e6, hrl, g34, nt_slG, nt_ptrG, nt_intG, hi]; refine hK _ _ ?_; clear hK K)
  refine aw_t (by (first | (simp [eval_tmp, put_at, hi]; done) | (simp [eval_tmp, put_at, hi]; omega))) (by kernel_rfl) ?_
  refine aw_skip ?_
  refine aw_seq ?_
  refine aw_block ?_
  have hle : n ≤ n + 6 := by omega
  (refine aw_ops (by kernel_rfl) (fun K hK => ?_); simp (disch := first | omega | (simp only [lnS]; try omega)) [-getElem?_pos, -getElem?_neg, q6, qi, e6, hrl, g34, nt_slG, nt_ptrG, nt_intG, nt_aggG, hi, hC, hle, hbn, hrowl, -xbuild, hbl]; refine hK _ _ ?_; clear hK K)
  (refine aw_ops (by kernel_rfl) (fun K hK => ?_); simp (disch := first | omega | (simp only [lnS]; try omega)) [-getElem?_pos, -getElem?_neg, qi]; refine hK _ _ ?_; clear hK K)
  exact ⟨c - 1, by omega, i + 1, by omega, by (first | (simp [put_at, put_none, fr0_at, q5]; done) | rfl), by (first | (simp [put_at, put_none, fr0_at, q6]; done) | rfl), by (first | (simp [put_at, put_none, fr0_at, q7]; done) | rfl), by (first | (simp [put_at, put_none, fr0_at, q8]; done) | rfl), by (first | (simp [put_at, put_none, fr0_at, q9]; done) | rfl), by (first | (simp [put_at, put_none, fr0_at]; done) | rfl), hW2⟩
 (refine aw_ops (by kernel_rfl) (fun K hK => ?_); simp (disch := first | omega | (simp only [lnS]; try omega)) [-getElem?_pos, -getElem?_neg, q6, qi, e6, hrl, g34, nt_slG, nt_ptrG, nt_intG, hi]; refine hK _ _ ?_; clear hK K)
 refine aw_f (by (first | (simp [eval_tmp, put_at, hi]; done) | (simp [eval_tmp, put_at, hi]; omega))) (by kernel_rfl) ?_
 refine aw_exit ?_
 have hk1 := hWr.other (j := n + 1) (by omega) hk1
 have hkB := hWr
 clear hWr
 refine aw_seq ?_
 refine aw_seq ?_
 (refine aw_ops (by kernel_rfl) (fun K hK => ?_); simp (disch := first | omega | (simp only [lnS]; try omega)) [-getElem?_pos, -getElem?_neg]; refine hK _ _ ?_; clear hK K)
 refine aw_block ?_
 refine aw_loop (fun c α G => ∃ i : Nat, i + c = l.length ∧ α 5 = (.slice (some ⟨n + 1, 0, some (l.length + 2 + 1)⟩) l.length l.length) ∧ α 7 = a ∧ α 8 = .int .i64 (putE l x) ∧ α 9 = b ∧ α 14 = .int .i64 (i : Nat) ∧ Wr (n + 1) 60 104 l.length Z2 GC G) l.length ?_ ?_
 ·exact ⟨0, by omega, by (first | (simp [put_at, put_none, fr0_at, q5]; done) | rfl), by (first | (simp [put_at, put_none, fr0_at, q7]; done) | rfl), by (first | (simp [put_at, put_none, fr0_at, q8]; done) | rfl), by (first | (simp [put_at, put_none, fr0_at, q9]; done) | rfl), by (first | (simp [put_at, put_none, fr0_at]; done) | rfl), Wr.refl hk1 hRf⟩
 clear q5 q6 q7 q8 q9 qi
 rintro c α GD ⟨i, hic, q5, q7, q8, q9, qi, hWr⟩
 refine aw_seq ?_
 refine aw_seq ?_
 by_cases hi : i < l.length
 case pos =>
  have hWr' := hWr
  obtain ⟨hwl, _, C, hC, hCl⟩ := hWr
  obtain ⟨row, hrow⟩ : ∃ row : List Value, row = zHRow := ⟨_, rfl⟩
  have hrowl : row.length = 104 := by rw [hrow]; kernel_rfl
  have hW2 := hWr'.store (row := row) hC hCl hi hrowl
  have hbn : i * 104 + 104 ≤ (C ++ Z2).length := by rw [List.length_append, hCl]; omega
  generalize C ++ Z2 = CZ at *
  have hbl : xbuild Try.prog 60 [] = some (.agg row.toArray) := by rw [hrow]; kernel_rfl
  clear hrow
  (refine aw_ops (by kernel_rfl) (fun K hK => ?_); simp (disch := first | omega | (simp only [lnS]; try omega)) [-getElem?_pos, -getElem?_neg, q5, qi, nt_slG, nt_ptrG, nt_intG, hi]; refine hK _ _ ?_; clear hK K)
  refine aw_t (by (first | (simp [eval_tmp, put_at, hi]; done) | (simp [eval_tmp, put_at, hi]; omega))) (by kernel_rfl) ?_
  refine aw_skip ?_
  refine aw_seq ?_
  refine aw_block ?_
  have hle : n ≤ n + 1 := by omega
  (refine aw_ops (by kernel_rfl) (fun K hK => ?_); simp (disch := first | omega | (simp only [lnS]; try omega)) [-getElem?_pos, -getElem?_neg, q5, qi, nt_slG, nt_ptrG, nt_intG, nt_aggG, hi, hC, hle, hbn, hrowl, -xbuild, hbl]; refine hK _ _ ?_; clear hK K)
  (refine aw_ops (by kernel_rfl) (fun K hK => ?_); simp (disch := first | omega | (simp only [lnS]; try omega)) [-getElem?_pos, -getElem?_neg, qi]; refine hK _ _ ?_; clear hK K)
  exact ⟨c - 1, by omega, i + 1, by omega, by (first | (simp [put_at, put_none, fr0_at, q5]; done) | rfl), by (first | (simp [put_at, put_none, fr0_at, q7]; done) | rfl), by (first | (simp [put_at, put_none, fr0_at, q8]; done) | rfl), by (first | (simp [put_at, put_none, fr0_at, q9]; done) | rfl), by (first | (simp [put_at, put_none, fr0_at]; done) | rfl), hW2⟩
 (refine aw_ops (by kernel_rfl) (fun K hK => ?_); simp (disch := first | omega | (simp only [lnS]; try omega)) [-getElem?_pos, -getElem?_neg, q5, qi, nt_slG, nt_ptrG, nt_intG, hi]; refine hK _ _ ?_; clear hK K)
 refine aw_f (by (first | (simp [eval_tmp, put_at, hi]; done) | (simp [eval_tmp, put_at, hi]; omega))) (by kernel_rfl) ?_
 refine aw_exit ?_
 have hkD := hWr
 clear hWr
 have hkeep : ∀ j, j ≠ n + 1 → j ≠ n + 4 → j ≠ n + 6 → hget GD j = hget GA j := fun j h1 h2 h3 => (hkD.2.1 j h1).trans ((hkB.2.1 j h3).trans (hkA.2.1 j h2))
 have glD : GD.length = GA.length := hkD.1.trans (hkB.1.trans hkA.1)
 have hpl := putL_len (l := l) (x := x)
 have hlP : (putL l x).length ≤ maxLen := by simp only [maxLen]; omega
 have smP : Sm6H (putL l x) := sm6_of (putL_all (fun y hy => (ly y hy).1) hg3)
 have alD := qalive_rc (γ := γ) (H := GD)
 by_cases he : putE l x = 0
 ·have heb : (putE l x != 0) = false := by rw [he]; rfl
  have eP : putL l x = l ++ [x] := if_pos he
  have lwD : Low H.length H GD := ⟨fun j hj => (hkeep j (by omega) (by omega) (by omega)).trans ((lwA.1 j (by omega)).trans (lw9.1 j (by omega))), by omega⟩
  have nA : HdA GD a (putL l x) := by
   obtain ⟨_, sv, e, h3⟩ := hqa
   have e : a = sv := by
    have h := congrArg (fun v => match v with | Value.tuple vs => vs[0]? | _ => none) e
    exact Option.some.inj h
   subst e
   rcases h3 with ⟨_, h3⟩ | ⟨h0, _⟩
   ·rw [eP] at hwP ⊢
    exact h3.hda hwP (fun j h1 h2 => (hkeep j (by omega) (by omega) (by omega)).trans ((lwA.1 j (by omega)).trans (low9.1 j h2)))
   ·exact absurd he h0
  have nB : HdA GD b (putL l x) := by
   obtain ⟨_, sv, e, _, _, h3⟩ := hqb
   have e : b = sv := by
    have h := congrArg (fun v => match v with | Value.tuple vs => vs[0]? | _ => none) e
    exact Option.some.inj h
   subst e
   rcases h3 with ⟨_, h3⟩ | ⟨h0, _⟩
   ·rw [eP] at hwP ⊢
    exact (h3 GD lwD (fun j h1 h2 => (hkeep j (by omega) (by omega) (by omega)).trans (lwA.1 j h2))).hda hwP
   ·exact absurd he h0
  have hsa := qrSame_rc (γ := γ) nA nB smP smP hlP
  rw [decide_eq_true rfl] at hsa
  rw [he] at q8
  refine aw_seq ?_
  refine aw_ops (by kernel_rfl) (fun K hK => ?_)
  simp (disch := first | omega | (simp only [lnS]; try omega)) [-getElem?_pos, -getElem?_neg, q8]
  refine ⟨by kernel_rfl, ac_of_rc alD (by simp [pv_iv, pv_int, pv_bool, pv_string, pv_tup2, pv_tup3, iv_plain, p2_int, p2_bool, p2_string]) ?_⟩
  try simp (disch := first | omega | (simp only [lnS]; try omega)) [-getElem?_pos, -getElem?_neg, q8, q7, q9, -notTuple, a1, a2, b1, b2, nt_intG]
  refine ⟨by kernel_rfl, ac_of_rc hsa (by simp [pv_iv, pv_int, pv_bool, pv_string, pv_tup2, pv_tup3, iv_plain, p2_int, p2_bool, p2_string]) ?_⟩
  try simp (disch := first | omega | (simp only [lnS]; try omega)) [-getElem?_pos, -getElem?_neg]
  refine hK _ _ ?_; clear hK K
  (refine aw_ret ?_; simp (disch := first | omega | (simp only [lnS]; try omega)) [-getElem?_pos, -getElem?_neg, thenQ_ret, scopeQ_ret, inBlockQ_ret, RQ, resL, resV])
 ·have heb : (putE l x != 0) = true := by simpa using he
  refine aw_seq ?_
  refine aw_ops (by kernel_rfl) (fun K hK => ?_)
  simp (disch := first | omega | (simp only [lnS]; try omega)) [-getElem?_pos, -getElem?_neg, q8, heb]
  refine ⟨by kernel_rfl, ac_of_rc alD (by simp [pv_iv, pv_int, pv_bool, pv_string, pv_tup2, pv_tup3, iv_plain, p2_int, p2_bool, p2_string]) ?_⟩
  try simp (disch := first | omega | (simp only [lnS]; try omega)) [-getElem?_pos, -getElem?_neg, q8, he, heb]
  refine hK _ _ ?_; clear hK K
  (refine aw_ret ?_; simp (disch := first | omega | (simp only [lnS]; try omega)) [-getElem?_pos, -getElem?_neg, thenQ_ret, scopeQ_ret, inBlockQ_ret, RQ, resL, resV])
end
end Go.Proofs.Ytdeccbjdhcifiaa
