/-
  A code for two, by the program and by the reference; CodeWrites and CodeBoth, walked.
-/
import Derived.Test.YtmnkbdclnaekkaaDoorCq
import Derived.Test.YtmnkbdclnaekkaaDoorDc
import Derived.Test.YtmnkbdclnaekkaaDoorLaws
import Derived.Test.YtmnkbdclnaekkaaDoorRefs
namespace Go.Proofs.YtmnkbdclnaekkaaDoor
open Go Go.RowKit
set_option linter.unusedVariables false
set_option linter.unusedSimpArgs false
set_option maxRecDepth 100000
set_option maxHeartbeats 4000000
theorem dig_by (s : HS) : By (dig s) := outL_by _
attribute [local irreducible] outD tx checkedF digitsF cmpL dig takeB readV writeF
theorem byte_by {l : List Int} (h : Byte l) : By l := fun x hx => by
  obtain ⟨i, hi, rfl⟩ := List.mem_iff_getElem.1 hx
  have := h i
  rwa [List.getD_eq_getElem?_getD, List.getElem?_eq_getElem hi] at this
theorem SlS.mk2 {H : AH} {b j : Nat} {k : Blk} {p q : ByteArray} (hj : hget H j = some k) (hb : j ≠ b) (h : k.cells[0]? = some (.string p)) (h' : k.cells[1]? = some (.string q)) : SlS H b (.slice (some ⟨j, 0, none⟩) 2 2) [p, q] :=
  .inr ⟨j, 0, k, rfl, hb, hj, fun i x hq => by
    match i, hq with
    | 0, hq => simp at hq; subst hq; exact h
    | 1, hq => simp at hq; subst hq; exact h'
    | i + 2, hq => simp at hq⟩
theorem shown_get (l : Nat) {H L : AH} {N : List Blk} {i j : Nat} {b : Blk} (h : Shown H.length N L (.slice (some ⟨i, 0, none⟩) l l)) (hi : i = H.length + j) (hb : N[j]? = some b) : hget (H ++ L) i = some b := by
  have := h j b hi hb
  rw [hi, hget_app]
  exact this
def sumL (l : List Int) : List Int := dig (takeB hs0 l)
def ordL (a b : List Int) : List Int := if 0 < cmpL a b then b ++ a else a ++ b
def bothF (a b : List Int) : ByteArray := writeF (sumL (ordL a b))
attribute [local simp] wb_bool wb_undef XL_nil XL_cons XLc_val XLc_call step1_eq stepW_t stepW_f stepC_n stepC_s stepX_s stepX_n stepN_s calleeX oneV xop_eq xopR_s xopR_n wantedA_eq wantedG_n wantedG_s plain1_int plain1_bool plain1_string bits_i64 bits_u64 bits_u32 bits_u16 bits_u8 xeqA xagg xcmp xarr allK_iv num_iv calleeOf xread xeff xbin xint xnil xun xstr xload xconv xpart xfield xfieldAddr xindexAddr xindex bnd asInt? xslice xlen xmin xmax xbuild xfill xappend xapp2 xappstr xappmk xcap xcopy xcells eval_tmp eval_const put_at put_none fr0_at cells_agg cells_int cells_bool cells_string cells_ptr cells_slice notTuple tab iv_all hget_app hget_app0 hget_cons0 hget_cons set_app set_app0 setR setR_one QL_nil QL_cons QLc_val stepQ_t stepQ_f stepQC_n stepQC_s stepQX_s SL_nil SL_cons SLc_val stepS_t stepS_f ltT ltF leT leF eqT eqF ltTn ltFn leTn leFn eqTn eqFn beqT beqF bneT bneF wi64 wu64 wu32 wu16 wu8 tmodP tdivP hgetL hgetNe hgetEq setL nums_def nums_len Nat.succ_le_of_lt List.getElem?_cons_zero List.getElem?_cons_succ Option.getD_some Int.toNat_add Int.toNat_mul agB agI agS agP agL agA okB okI okS okP okSl okA
theorem compare_ac {H : AH} {γ : Nat → Option Nat} {nro i j n : Nat} {a b : List Int} {t1 t2 : TypeId} {e1 e2 : Option Nat} (ha : hget H i = some ⟨iv .u8 a, t1, e1⟩) (hb : hget H j = some ⟨iv .u8 b, t2, e2⟩) (hal : a.length = n) (hbl : b.length = n) :
    AC Tryd.prog nro γ 16 #[.slice (some ⟨i, 0, none⟩) n n, .slice (some ⟨j, 0, none⟩) n n] H (fun v' H' => v' = .int .i64 (cmpL a b) ∧ H' = H) := by
  refine ac_of_aw Tryd.func16 rfl Tryd.ntmps16 Tryd.results16 (by simp) ?_
  refine aw_seq ?_
  (refine aw_ops (by kernel_rfl) (fun K hK => ?_); simp (disch := first | omega | (simp only [List.length_set, List.length_append, List.length_cons, List.length_nil, iv_length, zl_length]; try omega; done)) [-getElem?_pos, -getElem?_neg]; refine hK _ _ ?_; clear hK K)
  refine aw_seq ?_
  refine aw_ops (by kernel_rfl) (fun K hK => ?_)
  simp (disch := first | omega | (simp only [List.length_set, List.length_append, List.length_cons, List.length_nil, iv_length, zl_length]; try omega; done)) [-getElem?_pos, -getElem?_neg]
  refine ⟨by kernel_rfl, (cmp0_ac ha hb hal hbl).mono ?_⟩
  rintro v1 G1 ⟨rfl, rfl⟩
  try simp (disch := first | omega | (simp only [List.length_set, List.length_append, List.length_cons, List.length_nil, iv_length, zl_length]; try omega; done)) [-getElem?_pos, -getElem?_neg]
  refine hK _ _ ?_; clear hK K
  (refine aw_ret ?_; simp (disch := first | omega | (simp only [List.length_set, List.length_append, List.length_cons, List.length_nil, iv_length, zl_length]; try omega; done)) [-getElem?_pos, -getElem?_neg, thenQ_ret, scopeQ_ret, inBlockQ_ret, RQ, resL, resV])
theorem less_vc (a b : List Int) (ha : a.length = 32) (hb : b.length = 32) (hab : By a) (hbb : By b) : VC Tryd.prog 18 #[.agg (iv .u8 a).toArray, .agg (iv .u8 b).toArray] (.bool (decide (0 < cmpL b a))) := by
  have hla : (iv .u8 a).length = 32 := by rw [iv_length, ha]
  have hlb : (iv .u8 b).length = 32 := by rw [iv_length, hb]
  refine vc_of_ac (by simp [pv_iv, pv_int, pv_bool, pv_string, pv_tup2, pv_tup3, iv_plain, p2_int, p2_bool, p2_string]) (by simp [pv_iv, pv_int, pv_bool, pv_string, pv_tup2, pv_tup3, iv_plain, p2_int, p2_bool, p2_string]) ?_
  refine ac_of_aw Tryd.func18 rfl Tryd.ntmps18 Tryd.results18 (by simp) ?_
  refine aw_seq ?_
  (refine aw_ops (by kernel_rfl) (fun K hK => ?_); simp (disch := first | omega | (simp only [List.length_set, List.length_append, List.length_cons, List.length_nil, iv_length, zl_length]; try omega; done)) [-getElem?_pos, -getElem?_neg, hla, hlb]; refine hK _ _ ?_; clear hK K)
  refine aw_seq ?_
  refine aw_seq ?_
  (refine aw_ops (by kernel_rfl) (fun K hK => ?_); simp (disch := first | omega | (simp only [List.length_set, List.length_append, List.length_cons, List.length_nil, iv_length, zl_length]; try omega; done)) [-getElem?_pos, -getElem?_neg]; refine hK _ _ ?_; clear hK K)
  refine aw_block ?_
  refine aw_loop (fun q α G => G = [some ⟨iv .u8 a, 23, none⟩, some ⟨iv .u8 b, 23, none⟩] ∧ ∃ i : Nat, i + q = 32 ∧ α 5 = .int .i64 (i : Nat) ∧ α 2 = .pointer (some ⟨0, 0, none⟩) ∧ α 3 = .pointer (some ⟨1, 0, none⟩) ∧ a.take i = b.take i) 32 ?_ ?_
  · exact ⟨by simp, 0, by omega, by (first | (simp [put_at, put_none, fr0_at]; done) | rfl), by (first | (simp [put_at, put_none, fr0_at]; done) | rfl), by (first | (simp [put_at, put_none, fr0_at]; done) | rfl), by simp⟩
  rintro q α G ⟨rfl, i, hiq, h5, h2, h3, hpre⟩
  refine aw_seq ?_
  refine aw_seq ?_
  (refine aw_ops (by kernel_rfl) (fun K hK => ?_); simp (disch := first | omega | (simp only [List.length_set, List.length_append, List.length_cons, List.length_nil, iv_length, zl_length]; try omega; done)) [-getElem?_pos, -getElem?_neg, h5]; refine hK _ _ ?_; clear hK K)
  by_cases hi : i < 32
  case neg =>
    refine aw_f (by (first | (simp [eval_tmp, put_at, hi]; done) | (simp [eval_tmp, put_at, hi]; omega))) (by kernel_rfl) ?_
    refine aw_exit ?_
    obtain rfl : i = 32 := by omega
    rw [List.take_of_length_le (by omega), List.take_of_length_le (by omega)] at hpre
    subst hpre
    have := cmpL_eq (a := a)
    refine aw_seq ?_
    (refine aw_ops (by kernel_rfl) (fun K hK => ?_); simp (disch := first | omega | (simp only [List.length_set, List.length_append, List.length_cons, List.length_nil, iv_length, zl_length]; try omega; done)) [-getElem?_pos, -getElem?_neg]; refine hK _ _ ?_; clear hK K)
    (refine aw_ret ?_; simp (disch := first | omega | (simp only [List.length_set, List.length_append, List.length_cons, List.length_nil, iv_length, zl_length]; try omega; done)) [-getElem?_pos, -getElem?_neg, thenQ_ret, scopeQ_ret, inBlockQ_ret, RQ, resL, resV, this])
  refine aw_t (by (first | (simp [eval_tmp, put_at, hi]; done) | (simp [eval_tmp, put_at, hi]; omega))) (by kernel_rfl) ?_
  refine aw_skip ?_
  refine aw_seq ?_
  refine aw_block ?_
  obtain ⟨x, hx⟩ : ∃ x, a[i]? = some x := ⟨_, List.getElem?_eq_getElem (by omega)⟩
  obtain ⟨y, hy⟩ : ∃ y, b[i]? = some y := ⟨_, List.getElem?_eq_getElem (by omega)⟩
  have hxi : (iv .u8 a)[i]? = some (.int .u8 x) := by simp [iv, hx]
  have hyi : (iv .u8 b)[i]? = some (.int .u8 y) := by simp [iv, hy]
  refine aw_seq ?_
  (refine aw_quiet (by kernel_rfl) (by kernel_rfl) (by kernel_rfl) (fun K hK => ?_); simp (disch := first | omega | (simp only [List.length_set, List.length_append, List.length_cons, List.length_nil, iv_length, zl_length]; try omega; done)) [-getElem?_pos, -getElem?_neg, h5, h2, h3, hla, hlb, hxi, hyi]; refine hK _ ?_; clear hK K)
  by_cases hxy : x = y
  case neg =>
    have hc := cmpL_at hbb hab (by omega) hy hx (fun e => hxy e.symm) hpre.symm
    refine aw_t (by (first | (simp [eval_tmp, put_at, hxy]; done) | (simp [eval_tmp, put_at, hxy]; omega))) (by kernel_rfl) ?_
    refine aw_seq ?_
    (refine aw_quiet (by kernel_rfl) (by kernel_rfl) (by kernel_rfl) (fun K hK => ?_); simp (disch := first | omega | (simp only [List.length_set, List.length_append, List.length_cons, List.length_nil, iv_length, zl_length]; try omega; done)) [-getElem?_pos, -getElem?_neg, h5, h2, h3, hla, hlb, hxi, hyi]; refine hK _ ?_; clear hK K)
    by_cases hlt : x < y
    · rw [if_neg (by omega)] at hc
      (refine aw_ret ?_; simp (disch := first | omega | (simp only [List.length_set, List.length_append, List.length_cons, List.length_nil, iv_length, zl_length]; try omega; done)) [-getElem?_pos, -getElem?_neg, thenQ_ret, scopeQ_ret, inBlockQ_ret, RQ, resL, resV, hc, hlt])
    · rw [if_pos (by omega)] at hc
      (refine aw_ret ?_; simp (disch := first | omega | (simp only [List.length_set, List.length_append, List.length_cons, List.length_nil, iv_length, zl_length]; try omega; done)) [-getElem?_pos, -getElem?_neg, thenQ_ret, scopeQ_ret, inBlockQ_ret, RQ, resL, resV, hc, hlt])
  refine aw_f (by (first | (simp [eval_tmp, put_at, hxy]; done) | (simp [eval_tmp, put_at, hxy]; omega))) (by kernel_rfl) ?_
  refine aw_skip ?_
  (refine aw_ops (by kernel_rfl) (fun K hK => ?_); simp (disch := first | omega | (simp only [List.length_set, List.length_append, List.length_cons, List.length_nil, iv_length, zl_length]; try omega; done)) [-getElem?_pos, -getElem?_neg, h5]; refine hK _ _ ?_; clear hK K)
  exact ⟨q - 1, by omega, rfl, i + 1, by omega, by (first | (simp [put_at, put_none, fr0_at]; done) | rfl), by (first | (simp [put_at, put_none, fr0_at, h2]; done) | rfl), by (first | (simp [put_at, put_none, fr0_at, h3]; done) | rfl), by rw [List.take_add_one, List.take_add_one, hpre, hx, hy, hxy]⟩
theorem both_rc {H : AH} (hG : GG H) (a b : List Int) (ha : a.length = 32) (hb : b.length = 32) (hab : By a) (hbb : By b) :
    AC Tryd.prog H.length gm 8 #[.agg (iv .u8 a).toArray, .agg (iv .u8 b).toArray] H (fun v' _ => v' = .string (bothF a b)) := by
  have hla : (iv .u8 a).length = 32 := by rw [iv_length, ha]
  have hlb : (iv .u8 b).length = 32 := by rw [iv_length, hb]
  have hta : (iv .u8 a).take 32 = iv .u8 a := List.take_of_length_le (by omega)
  have htb : (iv .u8 b).take 32 = iv .u8 b := List.take_of_length_le (by omega)
  obtain ⟨p, hp⟩ : ∃ p, p = H.length := ⟨_, rfl⟩
  refine ac_of_aw Tryd.func8 rfl Tryd.ntmps8 Tryd.results8 (by simp) ?_
  refine aw_seq ?_
  (refine aw_ops (by kernel_rfl) (fun K hK => ?_); simp (disch := first | omega | (simp only [List.length_set, List.length_append, List.length_cons, List.length_nil, iv_length, zl_length]; try omega; done)) [-getElem?_pos, -getElem?_neg, hla, hlb]; refine hK _ _ ?_; clear hK K)
  have g0 : hget (H ++ [some ⟨iv .u8 a, 23, none⟩, some ⟨iv .u8 b, 23, none⟩]) p = some ⟨iv .u8 a, 23, none⟩ := by rw [hp, hget_app0]; rfl
  have g1 : hget (H ++ [some ⟨iv .u8 a, 23, none⟩, some ⟨iv .u8 b, 23, none⟩]) (p + 1) = some ⟨iv .u8 b, 23, none⟩ := by rw [hp, hget_app]; rfl
  have gG : GG (H ++ [some ⟨iv .u8 a, 23, none⟩, some ⟨iv .u8 b, 23, none⟩]) := hG.app _
  have hH2 : 2 ≤ p := by
    obtain ⟨_, ⟨t, h⟩⟩ := hG
    have := hget_lt h; omega
  rw [← hp]
  generalize H ++ [some ⟨iv .u8 a, 23, none⟩, some ⟨iv .u8 b, 23, none⟩] = G at g0 g1 gG ⊢
  refine aw_seq ?_
  refine aw_cut (fun α G' => ∃ a' b' : List Int, a' ++ b' = ordL a b ∧ a'.length = 32 ∧ b'.length = 32 ∧ By a' ∧ By b' ∧ α 2 = .pointer (some ⟨p, 0, none⟩) ∧ α 3 = .pointer (some ⟨p + 1, 0, none⟩) ∧ hget G' p = some ⟨iv .u8 a', 23, none⟩ ∧ hget G' (p + 1) = some ⟨iv .u8 b', 23, none⟩ ∧ GG G') ?_ ?_
  · refine aw_seq ?_
    (refine aw_plan [] [] [0, 1, 2, 3] 4 0 (by kernel_rfl) (by kernel_rfl) (by kernel_rfl) (fun K hK => ?_)); simp only [sel, List.getElem?_cons_succ, List.getElem?_cons_zero, List.drop_succ_cons, List.drop_zero]; simp (disch := first | omega | (simp only [List.length_set, List.length_append, List.length_cons, List.length_nil, iv_length, zl_length]; try omega; done)) [-getElem?_pos, -getElem?_neg, g0, g1, hla, hlb, PL_nil, PL_cons, PLc_val, PLc_new, stepP_t, stepP_f, stepPC_n, stepPC_s, stepPX_s, stepPX_n, stepPA_t, stepPA_c, stepPA_l, stepPN_s, allocOp, reloc_sl, reloc_ptr, List.map_cons, List.map_nil, List.nil_append, List.append_assoc, List.cons_append, Nat.add_assoc]
    refine PLc_call (v := .int .i64 (cmpL a b)) (by kernel_rfl) (fun L hL => ?_) (by simp [pv_iv, pv_int, pv_bool, pv_string, pv_tup2, pv_tup3, iv_plain, p2_int, p2_bool, p2_string]) ?_
    · exact (compare_ac (hget_left' g0) (hget_left' g1) ha hb).mono fun v' H' h => h.1
    simp (disch := first | omega | (simp only [List.length_set, List.length_append, List.length_cons, List.length_nil, iv_length, zl_length]; try omega; done)) [-getElem?_pos, -getElem?_neg, PL_nil, PL_cons, PLc_val, PLc_new, stepP_t, stepP_f, stepPC_n, stepPC_s, stepPX_s, stepPX_n, stepPA_t, stepPA_c, stepPA_l, stepPN_s, allocOp, reloc_sl, reloc_ptr, List.map_cons, List.map_nil, List.nil_append, List.append_assoc, List.cons_append, Nat.add_assoc]
    refine hK _ _ ?_; clear hK K
    have hpl := hget_lt g1
    by_cases hc : 0 < cmpL a b
    · have ho : ordL a b = b ++ a := if_pos hc
      refine aw_t (by (first | (simp [eval_tmp, put_at, hc]; done) | (simp [eval_tmp, put_at, hc]; omega))) (by kernel_rfl) ?_
      have hsa : setR (iv .u8 a) 0 (iv .u8 b) = iv .u8 b := setR_all _ _ (by omega)
      have hsb : setR (iv .u8 b) 0 (iv .u8 a) = iv .u8 a := setR_all _ _ (by omega)
      (refine aw_ops (by kernel_rfl) (fun K hK => ?_); simp (disch := first | omega | (simp only [List.length_set, List.length_append, List.length_cons, List.length_nil, iv_length, zl_length]; try omega; done)) [-getElem?_pos, -getElem?_neg, g0, g1, hla, hlb, hta, htb, hsa, hsb]; refine hK _ _ ?_; clear hK K)
      refine ⟨b, a, ho.symm, hb, ha, hbb, hab, by (first | (simp [put_at, put_none, fr0_at]; done) | rfl), by (first | (simp [put_at, put_none, fr0_at]; done) | rfl), ?_, ?_, ?_⟩
      · rw [hget_set_ne (by omega), hget_set_eq (by omega)]
      · rw [hget_set_eq (by rw [List.length_set]; omega)]
      · obtain ⟨⟨t0, e0⟩, ⟨t1, e1⟩⟩ := gG
        exact ⟨⟨t0, by rw [hget_set_ne (by omega), hget_set_ne (by omega)]; exact e0⟩, ⟨t1, by rw [hget_set_ne (by omega), hget_set_ne (by omega)]; exact e1⟩⟩
    · have ho : ordL a b = a ++ b := if_neg hc
      refine aw_f (by (first | (simp [eval_tmp, put_at, hc]; done) | (simp [eval_tmp, put_at, hc]; omega))) (by kernel_rfl) ?_
      refine aw_skip ?_
      exact ⟨a, b, ho.symm, ha, hb, hab, hbb, by (first | (simp [put_at, put_none, fr0_at]; done) | rfl), by (first | (simp [put_at, put_none, fr0_at]; done) | rfl), g0, g1, gG⟩
  clear g0 g1 gG
  rintro α G' ⟨a', b', hor, ha', hb', hab', hbb', h2, h3, g0, g1, gG⟩
  have hla' : (iv .u8 a').length = 32 := by rw [iv_length, ha']
  have hlb' : (iv .u8 b').length = 32 := by rw [iv_length, hb']
  have hta' : (iv .u8 a').take 32 = iv .u8 a' := List.take_of_length_le (by omega)
  have htb' : (iv .u8 b').take 32 = iv .u8 b' := List.take_of_length_le (by omega)
  have hba := byteList_iv a'
  have hbb2 := byteList_iv b'
  have hcat : cat [strOfNums a', strOfNums b'] = ordL a b := by
    rw [← hor]
    simp [cat, nums_of a' hab', nums_of b' hbb']
  have hwf := takeB_wf (ordL a b) hs0 hs0_wf (by rw [← hcat]; exact cat_bd _)
  have hsl := dig_len _ hwf
  have hsb : Byte (dig (takeB hs0 (ordL a b))) := fun i => (dig_by _).get i
  have hwr := write_vc (dig (takeB hs0 (ordL a b))) hsl hsb
  have hbo : bothF a b = writeF (dig (takeB hs0 (ordL a b))) := rfl
  rw [hbo]
  have fill2 : ∀ u v : Value, ((List.map (fun j => [Value.string ByteArray.empty][j % 1]?.getD undef) (List.range 2)).set 0 u).set 1 v = [u, v] := fun _ _ => rfl
  refine aw_seq ?_
  (refine aw_plan [] [] [0, 1, 2, 3, 4, 5, 6, 7] 8 0 (by kernel_rfl) (by kernel_rfl) (by kernel_rfl) (fun K hK => ?_)); simp only [sel, List.getElem?_cons_succ, List.getElem?_cons_zero, List.drop_succ_cons, List.drop_zero]; simp (disch := first | omega | (simp only [List.length_set, List.length_append, List.length_cons, List.length_nil, iv_length, zl_length]; try omega; done)) [-getElem?_pos, -getElem?_neg, h2, h3, g0, g1, hla', hlb', hta', htb', hba, hbb2, fill2, PL_nil, PL_cons, PLc_val, PLc_new, stepP_t, stepP_f, stepPC_n, stepPC_s, stepPX_s, stepPX_n, stepPA_t, stepPA_c, stepPA_l, stepPN_s, allocOp, reloc_sl, reloc_ptr, List.map_cons, List.map_nil, List.nil_append, List.append_assoc, List.cons_append, Nat.add_assoc]
  refine PLc_call (v := .agg (iv .u8 (dig (takeB hs0 (ordL a b)))).toArray) (by kernel_rfl) (fun L hL => ?_) (by simp [pv_iv, pv_int, pv_bool, pv_string, pv_tup2, pv_tup3, iv_plain, p2_int, p2_bool, p2_string]) ?_
  · have h1 : Shown G'.length _ L (.slice (some ⟨G'.length, 0, none⟩) 2 2) := hL _ (by simp)
    have hnew := shown_get 2 (H := G') (i := G'.length) (j := 0) h1 (by simp) rfl
    have hL1 : 1 ≤ L.length := by
      have := hget_lt hnew
      rw [List.length_append] at this; omega
    have := digest_ac (nro := (G' ++ L).length) (Nat.le_refl _) (gG.app L) _ [strOfNums a', strOfNums b'] (SlS.mk2 hnew (by rw [List.length_append]; omega) rfl rfl) (by simp)
    rw [hcat] at this
    exact this.mono fun v' H' h => h.1
  simp (disch := first | omega | (simp only [List.length_set, List.length_append, List.length_cons, List.length_nil, iv_length, zl_length]; try omega; done)) [-getElem?_pos, -getElem?_neg, hsl, PL_nil, PL_cons, PLc_val, PLc_new, stepP_t, stepP_f, stepPC_n, stepPC_s, stepPX_s, stepPX_n, stepPA_t, stepPA_c, stepPA_l, stepPN_s, allocOp, reloc_sl, reloc_ptr, List.map_cons, List.map_nil, List.nil_append, List.append_assoc, List.cons_append, Nat.add_assoc]
  refine PLc_call (v := .string (writeF (dig (takeB hs0 (ordL a b))))) (by kernel_rfl) (fun L hL => ac_of_vc (by simp [pv_iv, pv_int, pv_bool, pv_string, pv_tup2, pv_tup3, iv_plain, p2_int, p2_bool, p2_string]) hwr rfl) (by simp [pv_iv, pv_int, pv_bool, pv_string, pv_tup2, pv_tup3, iv_plain, p2_int, p2_bool, p2_string]) ?_
  simp (disch := first | omega | (simp only [List.length_set, List.length_append, List.length_cons, List.length_nil, iv_length, zl_length]; try omega; done)) [-getElem?_pos, -getElem?_neg, PL_nil, PL_cons, PLc_val, PLc_new, stepP_t, stepP_f, stepPC_n, stepPC_s, stepPX_s, stepPX_n, stepPA_t, stepPA_c, stepPA_l, stepPN_s, allocOp, reloc_sl, reloc_ptr, List.map_cons, List.map_nil, List.nil_append, List.append_assoc, List.cons_append, Nat.add_assoc]
  refine hK _ _ ?_; clear hK K
  (refine aw_ret ?_; simp (disch := first | omega | (simp only [List.length_set, List.length_append, List.length_cons, List.length_nil, iv_length, zl_length]; try omega; done)) [-getElem?_pos, -getElem?_neg, thenQ_ret, scopeQ_ret, inBlockQ_ret, RQ, resL, resV])
theorem refboth_ac {H : AH} {γ : Nat → Option Nat} {nro : Nat} (hnl : nro ≤ H.length) (a b : List Int) (ha : a.length = 32) (hb : b.length = 32) (hab : By a) (hbb : By b) (hB1 : Byte a) (hB2 : Byte b) :
    AC Tryd.prog nro γ 9 #[.agg (iv .u8 a).toArray, .agg (iv .u8 b).toArray] H (fun v' _ => v' = .string (bothF a b)) := by
  have hla : (iv .u8 a).length = 32 := by rw [iv_length, ha]
  have hlb : (iv .u8 b).length = 32 := by rw [iv_length, hb]
  have hta : (iv .u8 a).take 32 = iv .u8 a := List.take_of_length_le (by omega)
  have htb : (iv .u8 b).take 32 = iv .u8 b := List.take_of_length_le (by omega)
  obtain ⟨p, hp⟩ : ∃ p, p = H.length := ⟨_, rfl⟩
  refine ac_of_aw Tryd.func9 rfl Tryd.ntmps9 Tryd.results9 (by simp) ?_
  refine aw_seq ?_
  (refine aw_ops (by kernel_rfl) (fun K hK => ?_); simp (disch := first | omega | (simp only [List.length_set, List.length_append, List.length_cons, List.length_nil, iv_length, zl_length]; try omega; done)) [-getElem?_pos, -getElem?_neg, hla, hlb]; refine hK _ _ ?_; clear hK K)
  have g0 : hget (H ++ [some ⟨iv .u8 a, 23, none⟩, some ⟨iv .u8 b, 23, none⟩]) p = some ⟨iv .u8 a, 23, none⟩ := by rw [hp, hget_app0]; rfl
  have g1 : hget (H ++ [some ⟨iv .u8 a, 23, none⟩, some ⟨iv .u8 b, 23, none⟩]) (p + 1) = some ⟨iv .u8 b, 23, none⟩ := by rw [hp, hget_app]; rfl
  rw [← hp] at hnl ⊢
  generalize H ++ [some ⟨iv .u8 a, 23, none⟩, some ⟨iv .u8 b, 23, none⟩] = G at g0 g1 ⊢
  have hpl := hget_lt g1
  refine aw_seq ?_
  refine aw_cut (fun α G' => ∃ a' b' : List Int, a' ++ b' = ordL a b ∧ a'.length = 32 ∧ b'.length = 32 ∧ By a' ∧ By b' ∧ α 2 = .pointer (some ⟨p, 0, none⟩) ∧ α 3 = .pointer (some ⟨p + 1, 0, none⟩) ∧ hget G' p = some ⟨iv .u8 a', 23, none⟩ ∧ hget G' (p + 1) = some ⟨iv .u8 b', 23, none⟩) ?_ ?_
  · refine aw_seq ?_
    refine aw_ops (by kernel_rfl) (fun K hK => ?_)
    simp (disch := first | omega | (simp only [List.length_set, List.length_append, List.length_cons, List.length_nil, iv_length, zl_length]; try omega; done)) [-getElem?_pos, -getElem?_neg, g0, g1, hla, hlb, hta, htb]
    refine ⟨by kernel_rfl, ac_of_vc (by simp [pv_iv, pv_int, pv_bool, pv_string, pv_tup2, pv_tup3, iv_plain, p2_int, p2_bool, p2_string]) (less_vc b a hb ha hbb hab) ?_⟩
    try simp (disch := first | omega | (simp only [List.length_set, List.length_append, List.length_cons, List.length_nil, iv_length, zl_length]; try omega; done)) [-getElem?_pos, -getElem?_neg]
    refine hK _ _ ?_; clear hK K
    by_cases hc : 0 < cmpL a b
    · have ho : ordL a b = b ++ a := if_pos hc
      have hsa : setR (iv .u8 a) 0 (iv .u8 b) = iv .u8 b := setR_all _ _ (by omega)
      have hsb : setR (iv .u8 b) 0 (iv .u8 a) = iv .u8 a := setR_all _ _ (by omega)
      refine aw_t (by (first | (simp [eval_tmp, put_at, hc]; done) | (simp [eval_tmp, put_at, hc]; omega))) (by kernel_rfl) ?_
      (refine aw_ops (by kernel_rfl) (fun K hK => ?_); simp (disch := first | omega | (simp only [List.length_set, List.length_append, List.length_cons, List.length_nil, iv_length, zl_length]; try omega; done)) [-getElem?_pos, -getElem?_neg, g0, g1, hla, hlb, hta, htb, hsa, hsb]; refine hK _ _ ?_; clear hK K)
      refine ⟨b, a, ho.symm, hb, ha, hbb, hab, by (first | (simp [put_at, put_none, fr0_at]; done) | rfl), by (first | (simp [put_at, put_none, fr0_at]; done) | rfl), ?_, ?_⟩
      · rw [hget_set_ne (by omega), hget_set_eq (by omega)]
      · rw [hget_set_eq (by rw [List.length_set]; omega)]
    · have ho : ordL a b = a ++ b := if_neg hc
      refine aw_f (by (first | (simp [eval_tmp, put_at, hc]; done) | (simp [eval_tmp, put_at, hc]; omega))) (by kernel_rfl) ?_
      refine aw_skip ?_
      exact ⟨a, b, ho.symm, ha, hb, hab, hbb, by (first | (simp [put_at, put_none, fr0_at]; done) | rfl), by (first | (simp [put_at, put_none, fr0_at]; done) | rfl), g0, g1⟩
  clear g0 g1 hpl
  rintro α G' ⟨a', b', hor, ha', hb', hab', hbb', h2, h3, g0, g1⟩
  have hla' : (iv .u8 a').length = 32 := by rw [iv_length, ha']
  have hlb' : (iv .u8 b').length = 32 := by rw [iv_length, hb']
  have hta' : (iv .u8 a').take 32 = iv .u8 a' := List.take_of_length_le (by omega)
  have htb' : (iv .u8 b').take 32 = iv .u8 b' := List.take_of_length_le (by omega)
  have hba := byteList_iv a'
  have hbb2 := byteList_iv b'
  have hob : By (ordL a b) := by rw [← hor]; exact hab'.app hbb'
  have hwf := takeB_wf (ordL a b) hs0 hs0_wf hob
  have hsl := dig_len _ hwf
  have hsb : Byte (dig (takeB hs0 (ordL a b))) := fun i => (dig_by _).get i
  have hwr := refwrite_vc (dig (takeB hs0 (ordL a b))) hsl hsb
  have hbo : bothF a b = writeF (dig (takeB hs0 (ordL a b))) := rfl
  rw [hbo]
  have hs1 : (strOfNums a').size = 32 := by rw [sn_size, ha']
  have hs2 : (strOfNums b').size = 32 := by rw [sn_size, hb']
  have happ : strOfNums a' ++ strOfNums b' = strOfNums (ordL a b) := by rw [sn_app, hor]
  have hso : (strOfNums (ordL a b)).size = 64 := by rw [sn_size, ← hor, List.length_append, ha', hb']
  have hno := nums_of (ordL a b) hob
  refine aw_seq ?_
  (refine aw_plan [] [] [0, 1, 2, 3, 4, 5, 6, 7] 8 0 (by kernel_rfl) (by kernel_rfl) (by kernel_rfl) (fun K hK => ?_)); simp only [sel, List.getElem?_cons_succ, List.getElem?_cons_zero, List.drop_succ_cons, List.drop_zero]; simp (disch := first | omega | (simp only [List.length_set, List.length_append, List.length_cons, List.length_nil, iv_length, zl_length]; try omega; done)) [-getElem?_pos, -getElem?_neg, h2, h3, g0, g1, hla', hlb', hta', htb', hba, hbb2, hs1, hs2, happ, PL_nil, PL_cons, PLc_val, PLc_new, stepP_t, stepP_f, stepPC_n, stepPC_s, stepPX_s, stepPX_n, stepPA_t, stepPA_c, stepPA_l, stepPN_s, allocOp, reloc_sl, reloc_ptr, List.map_cons, List.map_nil, List.nil_append, List.append_assoc, List.cons_append, Nat.add_assoc]
  refine PLc_call (v := .agg (iv .u8 (dig (takeB hs0 (ordL a b)))).toArray) (by kernel_rfl) (fun L hL => ?_) (by simp [pv_iv, pv_int, pv_bool, pv_string, pv_tup2, pv_tup3, iv_plain, p2_int, p2_bool, p2_string]) ?_
  · have := refsum (H := G' ++ L) (γ := γ) (strOfNums (ordL a b)) (by omega)
    rw [hno] at this
    exact this
  simp (disch := first | omega | (simp only [List.length_set, List.length_append, List.length_cons, List.length_nil, iv_length, zl_length]; try omega; done)) [-getElem?_pos, -getElem?_neg, hsl, PL_nil, PL_cons, PLc_val, PLc_new, stepP_t, stepP_f, stepPC_n, stepPC_s, stepPX_s, stepPX_n, stepPA_t, stepPA_c, stepPA_l, stepPN_s, allocOp, reloc_sl, reloc_ptr, List.map_cons, List.map_nil, List.nil_append, List.append_assoc, List.cons_append, Nat.add_assoc]
  refine PLc_call (v := .string (writeF (dig (takeB hs0 (ordL a b))))) (by kernel_rfl) (fun L hL => ac_of_vc (by simp [pv_iv, pv_int, pv_bool, pv_string, pv_tup2, pv_tup3, iv_plain, p2_int, p2_bool, p2_string]) hwr rfl) (by simp [pv_iv, pv_int, pv_bool, pv_string, pv_tup2, pv_tup3, iv_plain, p2_int, p2_bool, p2_string]) ?_
  simp (disch := first | omega | (simp only [List.length_set, List.length_append, List.length_cons, List.length_nil, iv_length, zl_length]; try omega; done)) [-getElem?_pos, -getElem?_neg, PL_nil, PL_cons, PLc_val, PLc_new, stepP_t, stepP_f, stepPC_n, stepPC_s, stepPX_s, stepPX_n, stepPA_t, stepPA_c, stepPA_l, stepPN_s, allocOp, reloc_sl, reloc_ptr, List.map_cons, List.map_nil, List.nil_append, List.append_assoc, List.cons_append, Nat.add_assoc]
  refine hK _ _ ?_; clear hK K
  (refine aw_ret ?_; simp (disch := first | omega | (simp only [List.length_set, List.length_append, List.length_cons, List.length_nil, iv_length, zl_length]; try omega; done)) [-getElem?_pos, -getElem?_neg, thenQ_ret, scopeQ_ret, inBlockQ_ret, RQ, resL, resV])
theorem writes_law {H : AH} (hG : GG H) (a b : List Int) (ha : a.length = 32) (hb : b.length = 32) (hab : Byte a) (hbb : Byte b) :
    AC Tryd.prog H.length gm 3 #[.agg (iv .u8 a).toArray, .agg (iv .u8 b).toArray] H (fun v' _ => v' = .bool true) := by
  have hla : (iv .u8 a).length = 32 := by rw [iv_length, ha]
  have hlb : (iv .u8 b).length = 32 := by rw [iv_length, hb]
  have hta : (iv .u8 a).take 32 = iv .u8 a := List.take_of_length_le (by omega)
  have htb : (iv .u8 b).take 32 = iv .u8 b := List.take_of_length_le (by omega)
  obtain ⟨p, hp⟩ : ∃ p, p = H.length := ⟨_, rfl⟩
  refine ac_of_aw Tryd.func3 rfl Tryd.ntmps3 Tryd.results3 (by simp) ?_
  refine aw_seq ?_
  (refine aw_ops (by kernel_rfl) (fun K hK => ?_); simp (disch := first | omega | (simp only [List.length_set, List.length_append, List.length_cons, List.length_nil, iv_length, zl_length]; try omega; done)) [-getElem?_pos, -getElem?_neg, hla, hlb]; refine hK _ _ ?_; clear hK K)
  have g0 : hget (H ++ [some ⟨iv .u8 a, 23, none⟩, some ⟨iv .u8 b, 23, none⟩]) p = some ⟨iv .u8 a, 23, none⟩ := by rw [hp, hget_app0]; rfl
  have g1 : hget (H ++ [some ⟨iv .u8 a, 23, none⟩, some ⟨iv .u8 b, 23, none⟩]) (p + 1) = some ⟨iv .u8 b, 23, none⟩ := by rw [hp, hget_app]; rfl
  have gG : GG (H ++ [some ⟨iv .u8 a, 23, none⟩, some ⟨iv .u8 b, 23, none⟩]) := hG.app _
  rw [← hp]
  generalize H ++ [some ⟨iv .u8 a, 23, none⟩, some ⟨iv .u8 b, 23, none⟩] = G at g0 g1 gG ⊢
  refine aw_seq ?_
  refine aw_seq ?_
  refine aw_ops (by kernel_rfl) (fun K hK => ?_)
  simp (disch := first | omega | (simp only [List.length_set, List.length_append, List.length_cons, List.length_nil, iv_length, zl_length]; try omega; done)) [-getElem?_pos, -getElem?_neg]
  refine ⟨by kernel_rfl, ac_of_vc (by simp [pv_iv, pv_int, pv_bool, pv_string, pv_tup2, pv_tup3, iv_plain, p2_int, p2_bool, p2_string]) alive_vc ?_⟩
  try simp (disch := first | omega | (simp only [List.length_set, List.length_append, List.length_cons, List.length_nil, iv_length, zl_length]; try omega; done)) [-getElem?_pos, -getElem?_neg]
  refine hK _ _ ?_; clear hK K
  refine aw_f (by (first | (simp [eval_tmp, put_at]; done) | (simp [eval_tmp, put_at]; omega))) (by kernel_rfl) ?_
  refine aw_skip ?_
  refine aw_seq ?_
  (refine aw_plan [] [] [0, 1, 2, 3, 4, 5, 6, 7, 8, 9, 10, 11, 12, 13, 14, 15, 16, 17] 18 0 (by kernel_rfl) (by kernel_rfl) (by kernel_rfl) (fun K hK => ?_)); simp only [sel, List.getElem?_cons_succ, List.getElem?_cons_zero, List.drop_succ_cons, List.drop_zero]; simp (disch := first | omega | (simp only [List.length_set, List.length_append, List.length_cons, List.length_nil, iv_length, zl_length]; try omega; done)) [-getElem?_pos, -getElem?_neg, g0, g1, hla, hlb, hta, htb, PL_nil, PL_cons, PLc_val, PLc_new, stepP_t, stepP_f, stepPC_n, stepPC_s, stepPX_s, stepPX_n, stepPA_t, stepPA_c, stepPA_l, stepPN_s, allocOp, reloc_sl, reloc_ptr, List.map_cons, List.map_nil, List.nil_append, List.append_assoc, List.cons_append, Nat.add_assoc]
  refine PLc_call (v := .bool true) (by kernel_rfl) (fun L hL => ac_of_vc (by simp [pv_iv, pv_int, pv_bool, pv_string, pv_tup2, pv_tup3, iv_plain, p2_int, p2_bool, p2_string]) alive_vc rfl) (by simp [pv_iv, pv_int, pv_bool, pv_string, pv_tup2, pv_tup3, iv_plain, p2_int, p2_bool, p2_string]) ?_
  simp (disch := first | omega | (simp only [List.length_set, List.length_append, List.length_cons, List.length_nil, iv_length, zl_length]; try omega; done)) [-getElem?_pos, -getElem?_neg, g0, g1, hla, hlb, hta, htb, PL_nil, PL_cons, PLc_val, PLc_new, stepP_t, stepP_f, stepPC_n, stepPC_s, stepPX_s, stepPX_n, stepPA_t, stepPA_c, stepPA_l, stepPN_s, allocOp, reloc_sl, reloc_ptr, List.map_cons, List.map_nil, List.nil_append, List.append_assoc, List.cons_append, Nat.add_assoc]
  refine PLc_call (v := .string (writeF a)) (by kernel_rfl) (fun L hL => ac_of_vc (by simp [pv_iv, pv_int, pv_bool, pv_string, pv_tup2, pv_tup3, iv_plain, p2_int, p2_bool, p2_string]) (write_vc a ha hab) rfl) (by simp [pv_iv, pv_int, pv_bool, pv_string, pv_tup2, pv_tup3, iv_plain, p2_int, p2_bool, p2_string]) ?_
  simp (disch := first | omega | (simp only [List.length_set, List.length_append, List.length_cons, List.length_nil, iv_length, zl_length]; try omega; done)) [-getElem?_pos, -getElem?_neg, g0, g1, hla, hlb, hta, htb, PL_nil, PL_cons, PLc_val, PLc_new, stepP_t, stepP_f, stepPC_n, stepPC_s, stepPX_s, stepPX_n, stepPA_t, stepPA_c, stepPA_l, stepPN_s, allocOp, reloc_sl, reloc_ptr, List.map_cons, List.map_nil, List.nil_append, List.append_assoc, List.cons_append, Nat.add_assoc]
  refine PLc_call (v := .string (writeF a)) (by kernel_rfl) (fun L hL => ac_of_vc (by simp [pv_iv, pv_int, pv_bool, pv_string, pv_tup2, pv_tup3, iv_plain, p2_int, p2_bool, p2_string]) (refwrite_vc a ha hab) rfl) (by simp [pv_iv, pv_int, pv_bool, pv_string, pv_tup2, pv_tup3, iv_plain, p2_int, p2_bool, p2_string]) ?_
  simp (disch := first | omega | (simp only [List.length_set, List.length_append, List.length_cons, List.length_nil, iv_length, zl_length]; try omega; done)) [-getElem?_pos, -getElem?_neg, g0, g1, hla, hlb, hta, htb, beq_self_eq_true, PL_nil, PL_cons, PLc_val, PLc_new, stepP_t, stepP_f, stepPC_n, stepPC_s, stepPX_s, stepPX_n, stepPA_t, stepPA_c, stepPA_l, stepPN_s, allocOp, reloc_sl, reloc_ptr, List.map_cons, List.map_nil, List.nil_append, List.append_assoc, List.cons_append, Nat.add_assoc]
  refine PLc_call (v := .string (bothF a b)) (by kernel_rfl) (fun L hL => both_rc (gG.app L) a b ha hb (byte_by hab) (byte_by hbb)) (by simp [pv_iv, pv_int, pv_bool, pv_string, pv_tup2, pv_tup3, iv_plain, p2_int, p2_bool, p2_string]) ?_
  simp (disch := first | omega | (simp only [List.length_set, List.length_append, List.length_cons, List.length_nil, iv_length, zl_length]; try omega; done)) [-getElem?_pos, -getElem?_neg, g0, g1, hla, hlb, hta, htb, PL_nil, PL_cons, PLc_val, PLc_new, stepP_t, stepP_f, stepPC_n, stepPC_s, stepPX_s, stepPX_n, stepPA_t, stepPA_c, stepPA_l, stepPN_s, allocOp, reloc_sl, reloc_ptr, List.map_cons, List.map_nil, List.nil_append, List.append_assoc, List.cons_append, Nat.add_assoc]
  refine PLc_call (v := .string (bothF a b)) (by kernel_rfl) (fun L hL => refboth_ac (Nat.le_refl _) a b ha hb (byte_by hab) (byte_by hbb) hab hbb) (by simp [pv_iv, pv_int, pv_bool, pv_string, pv_tup2, pv_tup3, iv_plain, p2_int, p2_bool, p2_string]) ?_
  simp (disch := first | omega | (simp only [List.length_set, List.length_append, List.length_cons, List.length_nil, iv_length, zl_length]; try omega; done)) [-getElem?_pos, -getElem?_neg, beq_self_eq_true, PL_nil, PL_cons, PLc_val, PLc_new, stepP_t, stepP_f, stepPC_n, stepPC_s, stepPX_s, stepPX_n, stepPA_t, stepPA_c, stepPA_l, stepPN_s, allocOp, reloc_sl, reloc_ptr, List.map_cons, List.map_nil, List.nil_append, List.append_assoc, List.cons_append, Nat.add_assoc]
  refine hK _ _ ?_; clear hK K
  (refine aw_ret ?_; simp (disch := first | omega | (simp only [List.length_set, List.length_append, List.length_cons, List.length_nil, iv_length, zl_length]; try omega; done)) [-getElem?_pos, -getElem?_neg, thenQ_ret, scopeQ_ret, inBlockQ_ret, RQ, resL, resV])
theorem cmpL_flip (a b : List Int) (ha : a.length = 32) (hb : b.length = 32) (hab : By a) (hbb : By b) : bothF a b = bothF b a := by
  have key : ordL a b = ordL b a := by
    by_cases he : a = b
    · rw [he]
    · obtain ⟨i, hi, hne, hpre⟩ : ∃ i, i < 32 ∧ a[i]? ≠ b[i]? ∧ a.take i = b.take i := by
        have : ∀ n, n ≤ 32 → a.take n = b.take n ∨ ∃ i, i < n ∧ a[i]? ≠ b[i]? ∧ a.take i = b.take i := by
          intro n
          induction n with
          | zero => intro _; left; simp
          | succ n ih =>
            intro hn
            rcases ih (by omega) with h | ⟨i, h1, h2, h3⟩
            · by_cases h4 : a[n]? = b[n]?
              · left; rw [List.take_add_one, List.take_add_one, h, h4]
              · right; exact ⟨n, by omega, h4, h⟩
            · right; exact ⟨i, by omega, h2, h3⟩
        rcases this 32 (Nat.le_refl _) with h | h
        · rw [List.take_of_length_le (by omega), List.take_of_length_le (by omega)] at h
          exact absurd h he
        · exact h
      obtain ⟨x, hx⟩ : ∃ x, a[i]? = some x := ⟨_, List.getElem?_eq_getElem (by omega)⟩
      obtain ⟨y, hy⟩ : ∃ y, b[i]? = some y := ⟨_, List.getElem?_eq_getElem (by omega)⟩
      have hxy : x ≠ y := fun e => hne (by rw [hx, hy, e])
      have h1 := cmpL_at hab hbb (by omega) hx hy hxy hpre
      have h2 := cmpL_at hbb hab (by omega) hy hx (fun e => hxy e.symm) hpre.symm
      unfold ordL
      rw [h1, h2]
      by_cases hlt : x < y
      · rw [if_pos hlt, if_neg (by omega : ¬ y < x), if_neg (by omega), if_pos (by omega)]
      · rw [if_neg hlt, if_pos (by omega : y < x), if_pos (by omega), if_neg (by omega)]
  unfold bothF
  rw [key]
theorem both_law {H : AH} (hG : GG H) (a b : List Int) (ha : a.length = 32) (hb : b.length = 32) (hab : Byte a) (hbb : Byte b) :
    AC Tryd.prog H.length gm 4 #[.agg (iv .u8 a).toArray, .agg (iv .u8 b).toArray] H (fun v' _ => v' = .bool true) := by
  have hla : (iv .u8 a).length = 32 := by rw [iv_length, ha]
  have hlb : (iv .u8 b).length = 32 := by rw [iv_length, hb]
  have hta : (iv .u8 a).take 32 = iv .u8 a := List.take_of_length_le (by omega)
  have htb : (iv .u8 b).take 32 = iv .u8 b := List.take_of_length_le (by omega)
  have hob : By (ordL a b) := by unfold ordL; split <;> exact By.app (byte_by (by assumption)) (byte_by (by assumption))
  have hwf := takeB_wf (ordL a b) hs0 hs0_wf hob
  have hsl := dig_len _ hwf
  have hsb : Byte (dig (takeB hs0 (ordL a b))) := fun i => (dig_by _).get i
  have hrd := read_vc (bothF a b)
  have hrv : readV (bothF a b) = .tuple #[.agg (iv .u8 (sumL (ordL a b))).toArray, .int .i64 0] := read_write _ hsl hsb
  have hfl := cmpL_flip a b ha hb (byte_by hab) (byte_by hbb)
  have hsul : (iv .u8 (sumL (ordL a b))).length = 32 := by rw [iv_length]; exact hsl
  rw [hrv] at hrd
  generalize sumL (ordL a b) = S at hrd hsul
  have hset : setR (iv .u8 (zl 32)) 0 (iv .u8 S) = iv .u8 S := setR_all _ _ (by rw [hsul, iv_length]; rfl)
  obtain ⟨p, hp⟩ : ∃ p, p = H.length := ⟨_, rfl⟩
  refine ac_of_aw Tryd.func4 rfl Tryd.ntmps4 Tryd.results4 (by simp) ?_
  refine aw_seq ?_
  (refine aw_ops (by kernel_rfl) (fun K hK => ?_); simp (disch := first | omega | (simp only [List.length_set, List.length_append, List.length_cons, List.length_nil, iv_length, zl_length]; try omega; done)) [-getElem?_pos, -getElem?_neg, hla, hlb]; refine hK _ _ ?_; clear hK K)
  have g0 : hget (H ++ [some ⟨iv .u8 a, 23, none⟩, some ⟨iv .u8 b, 23, none⟩]) p = some ⟨iv .u8 a, 23, none⟩ := by rw [hp, hget_app0]; rfl
  have g1 : hget (H ++ [some ⟨iv .u8 a, 23, none⟩, some ⟨iv .u8 b, 23, none⟩]) (p + 1) = some ⟨iv .u8 b, 23, none⟩ := by rw [hp, hget_app]; rfl
  have gG : GG (H ++ [some ⟨iv .u8 a, 23, none⟩, some ⟨iv .u8 b, 23, none⟩]) := hG.app _
  rw [← hp]
  have hpG : p ≤ (H ++ [some ⟨iv .u8 a, 23, none⟩, some ⟨iv .u8 b, 23, none⟩] : AH).length := by rw [List.length_append]; omega
  generalize H ++ [some ⟨iv .u8 a, 23, none⟩, some ⟨iv .u8 b, 23, none⟩] = G at g0 g1 gG hpG ⊢
  refine aw_seq ?_
  refine aw_seq ?_
  refine aw_ops (by kernel_rfl) (fun K hK => ?_)
  simp (disch := first | omega | (simp only [List.length_set, List.length_append, List.length_cons, List.length_nil, iv_length, zl_length]; try omega; done)) [-getElem?_pos, -getElem?_neg]
  refine ⟨by kernel_rfl, ac_of_vc (by simp [pv_iv, pv_int, pv_bool, pv_string, pv_tup2, pv_tup3, iv_plain, p2_int, p2_bool, p2_string]) alive_vc ?_⟩
  try simp (disch := first | omega | (simp only [List.length_set, List.length_append, List.length_cons, List.length_nil, iv_length, zl_length]; try omega; done)) [-getElem?_pos, -getElem?_neg]
  refine hK _ _ ?_; clear hK K
  refine aw_f (by (first | (simp [eval_tmp, put_at]; done) | (simp [eval_tmp, put_at]; omega))) (by kernel_rfl) ?_
  refine aw_skip ?_
  refine aw_seq ?_
  refine aw_ops (by kernel_rfl) (fun K hK => ?_)
  simp (disch := first | omega | (simp only [List.length_set, List.length_append, List.length_cons, List.length_nil, iv_length, zl_length]; try omega; done)) [-getElem?_pos, -getElem?_neg, g0, g1, hla, hlb, hta, htb]
  refine ⟨by kernel_rfl, ac_of_rc (both_rc gG a b ha hb (byte_by hab) (byte_by hbb)) (by simp [pv_iv, pv_int, pv_bool, pv_string, pv_tup2, pv_tup3, iv_plain, p2_int, p2_bool, p2_string]) ?_⟩
  try simp (disch := first | omega | (simp only [List.length_set, List.length_append, List.length_cons, List.length_nil, iv_length, zl_length]; try omega; done)) [-getElem?_pos, -getElem?_neg]
  refine ⟨by kernel_rfl, ac_of_vc (by simp [pv_iv, pv_int, pv_bool, pv_string, pv_tup2, pv_tup3, iv_plain, p2_int, p2_bool, p2_string]) hrd ?_⟩
  try simp (disch := first | omega | (simp only [List.length_set, List.length_append, List.length_cons, List.length_nil, iv_length, zl_length]; try omega; done)) [-getElem?_pos, -getElem?_neg, hsul, hset, hpG]
  refine hK _ _ ?_; clear hK K
  have g0' := hget_left' (L := [some ⟨iv .u8 S, 23, none⟩]) g0
  have g1' := hget_left' (L := [some ⟨iv .u8 S, 23, none⟩]) g1
  have gG' := gG.app [some ⟨iv .u8 S, 23, none⟩]
  generalize G ++ [some ⟨iv .u8 S, 23, none⟩] = G2 at g0' g1' gG' ⊢
  refine aw_seq ?_
  (refine aw_plan [] [] [0, 1, 2, 3, 4, 5, 6, 7, 8, 9, 10, 11, 12, 13, 14] 15 0 (by kernel_rfl) (by kernel_rfl) (by kernel_rfl) (fun K hK => ?_)); simp only [sel, List.getElem?_cons_succ, List.getElem?_cons_zero, List.drop_succ_cons, List.drop_zero]; simp (disch := first | omega | (simp only [List.length_set, List.length_append, List.length_cons, List.length_nil, iv_length, zl_length]; try omega; done)) [-getElem?_pos, -getElem?_neg, g0', g1', hla, hlb, hta, htb, PL_nil, PL_cons, PLc_val, PLc_new, stepP_t, stepP_f, stepPC_n, stepPC_s, stepPX_s, stepPX_n, stepPA_t, stepPA_c, stepPA_l, stepPN_s, allocOp, reloc_sl, reloc_ptr, List.map_cons, List.map_nil, List.nil_append, List.append_assoc, List.cons_append, Nat.add_assoc]
  refine PLc_call (v := .bool true) (by kernel_rfl) (fun L hL => ac_of_vc (by simp [pv_iv, pv_int, pv_bool, pv_string, pv_tup2, pv_tup3, iv_plain, p2_int, p2_bool, p2_string]) alive_vc rfl) (by simp [pv_iv, pv_int, pv_bool, pv_string, pv_tup2, pv_tup3, iv_plain, p2_int, p2_bool, p2_string]) ?_
  simp (disch := first | omega | (simp only [List.length_set, List.length_append, List.length_cons, List.length_nil, iv_length, zl_length]; try omega; done)) [-getElem?_pos, -getElem?_neg, g0', g1', hla, hlb, hta, htb, PL_nil, PL_cons, PLc_val, PLc_new, stepP_t, stepP_f, stepPC_n, stepPC_s, stepPX_s, stepPX_n, stepPA_t, stepPA_c, stepPA_l, stepPN_s, allocOp, reloc_sl, reloc_ptr, List.map_cons, List.map_nil, List.nil_append, List.append_assoc, List.cons_append, Nat.add_assoc]
  refine PLc_call (v := .string (bothF a b)) (by kernel_rfl) (fun L hL => both_rc (gG'.app L) a b ha hb (byte_by hab) (byte_by hbb)) (by simp [pv_iv, pv_int, pv_bool, pv_string, pv_tup2, pv_tup3, iv_plain, p2_int, p2_bool, p2_string]) ?_
  simp (disch := first | omega | (simp only [List.length_set, List.length_append, List.length_cons, List.length_nil, iv_length, zl_length]; try omega; done)) [-getElem?_pos, -getElem?_neg, g0', g1', hla, hlb, hta, htb, PL_nil, PL_cons, PLc_val, PLc_new, stepP_t, stepP_f, stepPC_n, stepPC_s, stepPX_s, stepPX_n, stepPA_t, stepPA_c, stepPA_l, stepPN_s, allocOp, reloc_sl, reloc_ptr, List.map_cons, List.map_nil, List.nil_append, List.append_assoc, List.cons_append, Nat.add_assoc]
  refine PLc_call (v := .string (bothF a b)) (by kernel_rfl) (fun L hL => by
    have := both_rc (gG'.app L) b a hb ha (byte_by hbb) (byte_by hab)
    rw [← hfl] at this
    exact this) (by simp [pv_iv, pv_int, pv_bool, pv_string, pv_tup2, pv_tup3, iv_plain, p2_int, p2_bool, p2_string]) ?_
  simp (disch := first | omega | (simp only [List.length_set, List.length_append, List.length_cons, List.length_nil, iv_length, zl_length]; try omega; done)) [-getElem?_pos, -getElem?_neg, beq_self_eq_true, PL_nil, PL_cons, PLc_val, PLc_new, stepP_t, stepP_f, stepPC_n, stepPC_s, stepPX_s, stepPX_n, stepPA_t, stepPA_c, stepPA_l, stepPN_s, allocOp, reloc_sl, reloc_ptr, List.map_cons, List.map_nil, List.nil_append, List.append_assoc, List.cons_append, Nat.add_assoc]
  refine hK _ _ ?_; clear hK K
  (refine aw_ret ?_; simp (disch := first | omega | (simp only [List.length_set, List.length_append, List.length_cons, List.length_nil, iv_length, zl_length]; try omega; done)) [-getElem?_pos, -getElem?_neg, thenQ_ret, scopeQ_ret, inBlockQ_ret, RQ, resL, resV])
end Go.Proofs.YtmnkbdclnaekkaaDoor
