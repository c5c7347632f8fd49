/-
  A key read.
-/
import Derived.Test.YtpdijcaikjobiaaRdB
namespace Go.Proofs.Ytpdijcaikjobiaa
section
open Go Go.RowKit
set_option linter.unusedVariables false
set_option linter.unusedSimpArgs false
set_option maxRecDepth 100000
set_option maxHeartbeats 4000000
def rdKey (l : List Int) : List Int × List Int × Int := if l.length < 32 then (zl 32, l, 3) else (l.take 32, l.drop 32, 0)
attribute [local simp] wb_bool wb_undef XL_nil XL_cons XLc_val XLc_call step1_eq stepW_t stepW_f stepC_n stepC_s stepX_s stepX_n stepN_s calleeX oneV xop_eq xopR_s xopR_n wantedA_eq wantedG_n wantedG_s plain1_int plain1_bool plain1_string bits_i64 bits_u64 bits_u32 bits_u16 bits_u8 xeqA xarr allK_iv num_iv calleeOf xread xeff xbin xint xnil xun xstr xload xconv xpart xfield xfieldAddr xindexAddr xindex bnd asInt? xslice xlen xmin xmax xbuild xfill xappend xapp2 xappstr xappmk xcap xcopy xcells eval_tmp eval_const put_at put_none fr0_at cells_agg cells_int cells_bool cells_string cells_ptr cells_slice notTuple tab iv_all hget_app hget_app0 hget_cons0 hget_cons set_app set_app0 setR setR_one QL_nil QL_cons QLc_val stepQ_t stepQ_f stepQC_n stepQC_s stepQX_s SL_nil SL_cons SLc_val stepS_t stepS_f ltT ltF leT leF eqT eqF ltTn ltFn leTn leFn eqTn eqFn beqT beqF bneT bneF wi64 wu64 wu32 wu16 wu8 tmodP tdivP hgetL hgetNe hgetEq setL nums_def nums_len Nat.succ_le_of_lt List.getElem?_cons_zero List.getElem?_cons_succ Option.getD_some Int.toNat_add Int.toNat_mul agB agI agS agP agL agA okB okI okS okP okSl okA
theorem key_ac {H : AH} {γ : Nat → Option Nat} {nro p : Nat} {l : List Int} (hnl : nro ≤ H.length) (hp : nro ≤ p) (h : hget H p = some (rdC l 0)) (hb : By l) (hl : l.length ≤ 1000000) :
    AC Try.prog nro γ 14 #[.pointer (some ⟨p, 0, none⟩)] H (fun v' H' => v' = .agg (iv .u8 (rdKey l).1).toArray ∧ hget H' p = some (rdC (rdKey l).2.1 (rdKey l).2.2) ∧ Fr H H' [p] [p]) := by
  have hpl := hget_lt h
  have hsz := sn_size l
  unfold rdC at h ⊢
  have hzl : (iv .u8 (zl 32)).length = 32 := by rw [iv_length]; rfl
  obtain ⟨zz, hzz⟩ : ∃ zz, zz = iv .u8 (zl 32) := ⟨_, rfl⟩
  refine ac_of_aw Try.func14 rfl Try.ntmps14 Try.results14 (by simp) ?_
  refine aw_seq ?_
  (refine aw_ops (by kernel_rfl) (fun K hK => ?_); simp (disch := first | omega | (simp only [List.length_set, List.length_append, List.length_cons, List.length_nil, iv_length, zl_length]; try omega; done)) [-getElem?_pos, -getElem?_neg]; refine hK _ _ ?_; clear hK K)
  refine aw_seq ?_
  (refine aw_ops (by kernel_rfl) (fun K hK => ?_); simp (disch := first | omega | (simp only [List.length_set, List.length_append, List.length_cons, List.length_nil, iv_length, zl_length]; try omega; done)) [-getElem?_pos, -getElem?_neg]; refine hK _ _ ?_; clear hK K)
  obtain ⟨G, hG⟩ : ∃ G, G = H ++ [some ⟨iv .u8 (zl 32), 41, none⟩, some ⟨iv .u8 (zl 32), 41, none⟩] := ⟨_, rfl⟩
  rw [← hG]
  obtain ⟨a, ha⟩ : ∃ a, a = H.length := ⟨_, rfl⟩
  have hGa : hget G a = some ⟨iv .u8 (zl 32), 41, none⟩ := by rw [hG, ha, hget_app0]; rfl
  have hGb : hget G (a + 1) = some ⟨iv .u8 (zl 32), 41, none⟩ := by rw [hG, ha, hget_app]; rfl
  have hGp : hget G p = some ⟨[.string (strOfNums l), .int .i64 0], 63, none⟩ := by rw [hG]; exact (hget_left hpl).trans h
  have hGl : G.length = a + 2 := by rw [hG, ha]; simp
  have hfr : Fr H G [p] [p] := by rw [hG]; exact Fr.mk (by simp) (fun j hj _ => hget_left hj) (fun j hj => .inl hj)
  rw [← ha]
  have hpa : p < a := by omega
  rw [← hzz] at hGa hGb hzl
  clear hG h
  refine aw_seq ?_
  refine aw_seq ?_
  (refine aw_ops (by kernel_rfl) (fun K hK => ?_); simp (disch := first | omega | (simp only [List.length_set, List.length_append, List.length_cons, List.length_nil, iv_length, zl_length]; try omega; done)) [-getElem?_pos, -getElem?_neg, hGp]; refine hK _ _ ?_; clear hK K)
  refine aw_f (by (first | (simp [eval_tmp, put_at]; done) | (simp [eval_tmp, put_at]; omega))) (by kernel_rfl) ?_
  refine aw_skip ?_
  refine aw_seq ?_
  refine aw_seq ?_
  (refine aw_ops (by kernel_rfl) (fun K hK => ?_); simp (disch := first | omega | (simp only [List.length_set, List.length_append, List.length_cons, List.length_nil, iv_length, zl_length]; try omega; done)) [-getElem?_pos, -getElem?_neg, hGp, hsz]; refine hK _ _ ?_; clear hK K)
  by_cases hc : l.length < 32
  · have hr : rdKey l = (zl 32, l, 3) := if_pos hc
    rw [hr]
    refine aw_t (by (first | (simp [eval_tmp, put_at, hc]; done) | (simp [eval_tmp, put_at, hc]; omega))) (by kernel_rfl) ?_
    refine aw_seq ?_
    (refine aw_ops (by kernel_rfl) (fun K hK => ?_); simp (disch := first | omega | (simp only [List.length_set, List.length_append, List.length_cons, List.length_nil, iv_length, zl_length]; try omega; done)) [-getElem?_pos, -getElem?_neg, hGp]; refine hK _ _ ?_; clear hK K)
    refine aw_seq ?_
    have h1 : hget (G.set p (some ⟨[.string (strOfNums l), .int .i64 3], 63, none⟩)) (a + 1) = some ⟨zz, 41, none⟩ := by rw [hget_set_ne (by omega)]; exact hGb
    have h2 : hget (G.set p (some ⟨[.string (strOfNums l), .int .i64 3], 63, none⟩)) a = some ⟨zz, 41, none⟩ := by rw [hget_set_ne (by omega)]; exact hGa
    have h3 : hget (G.set p (some ⟨[.string (strOfNums l), .int .i64 3], 63, none⟩)) p = some ⟨[.string (strOfNums l), .int .i64 3], 63, none⟩ := hget_set_eq (by omega)
    have hfr2 : Fr H (G.set p (some ⟨[.string (strOfNums l), .int .i64 3], 63, none⟩)) [p] [p] := hfr.trans (Fr.mk (by simp) (fun j hj hn => hget_set_ne (by simp at hn; omega)) (fun j hj => .inl hj))
    have hl2 : (G.set p (some ⟨[.string (strOfNums l), .int .i64 3], 63, none⟩)).length = a + 2 := by simpa using hGl
    have ht : List.take 32 zz = zz := List.take_of_length_le (by omega)
    have hst : setR zz 0 zz = zz := setR_all _ _ rfl
    generalize G.set p (some ⟨[.string (strOfNums l), .int .i64 3], 63, none⟩) = G2 at *
    (refine aw_ops (by kernel_rfl) (fun K hK => ?_); simp (disch := first | omega | (simp only [List.length_set, List.length_append, List.length_cons, List.length_nil, iv_length, zl_length]; try omega; done)) [-getElem?_pos, -getElem?_neg, h1, h2, hzl, ht, hst]; refine hK _ _ ?_; clear hK K)
    have h4 : hget (G2.set a (some ⟨zz, 41, none⟩)) a = some ⟨zz, 41, none⟩ := hget_set_eq (by omega)
    have h5 : hget (G2.set a (some ⟨zz, 41, none⟩)) p = some ⟨[.string (strOfNums l), .int .i64 3], 63, none⟩ := (hget_set_ne (by omega)).trans h3
    (refine aw_ret ?_; simp (disch := first | omega | (simp only [List.length_set, List.length_append, List.length_cons, List.length_nil, iv_length, zl_length]; try omega; done)) [-getElem?_pos, -getElem?_neg, thenQ_ret, scopeQ_ret, inBlockQ_ret, RQ, resL, resV, h4, hzl, ht])
    exact ⟨by rw [hzz], h3, Fr.mk (by simp; omega) (fun j hj hn => by rw [hget_set_ne (by omega)]; exact hfr2.out j hj hn) (fun j hj => .inl hj)⟩
  · have hr : rdKey l = (l.take 32, l.drop 32, 0) := if_neg hc
    rw [hr]
    refine aw_f (by (first | (simp [eval_tmp, put_at, hc]; done) | (simp [eval_tmp, put_at, hc]; omega))) (by kernel_rfl) ?_
    refine aw_skip ?_
    have hkl : (iv .u8 (l.take 32)).length = 32 := by rw [iv_length, List.length_take]; omega
    have hex := ex_drop l 32
    have hxc : xcopy Try.prog nro 25 (.slice (some ⟨a + 1, 0, none⟩) 32 32) (.string (strOfNums l)) G = some (.int .i64 32, G.set (a + 1) (some ⟨iv .u8 (l.take 32), 41, none⟩)) := by
      have e1 : nums (strOfNums l) = l := nums_of l hb
      have e2 : xcells 1 (.string (strOfNums l)) G = some (iv .u8 l) := by simp only [xcells, if_true, nums_def, e1]
      have e3 : (iv .u8 l).length = l.length := iv_length _ _
      have e4 : (iv .u8 l).take 32 = iv .u8 (l.take 32) := by simp [iv, List.map_take]
      have e5 : setR zz 0 (iv .u8 (l.take 32)) = iv .u8 (l.take 32) := setR_all _ _ (by omega)
      have e6 : min l.length 32 = 32 := by omega
      simp [xcopy, e2, hGb, e3, e4, e5, e6, hzl, hsz]
      rw [e1, e4, e5]
      exact ⟨by omega, rfl⟩
    obtain ⟨kb, hkb⟩ : ∃ kb, kb = iv .u8 (l.take 32) := ⟨_, rfl⟩
    rw [← hkb] at hkl hxc ⊢
    have g1 : hget (G.set (a + 1) (some ⟨kb, 41, none⟩)) p = some ⟨[.string (strOfNums l), .int .i64 0], 63, none⟩ := (hget_set_ne (by omega)).trans hGp
    refine aw_seq ?_
    obtain ⟨G2, hG2⟩ : ∃ G2, G2 = (G.set (a + 1) (some ⟨kb, 41, none⟩)).set p (some ⟨[.string (strOfNums (l.drop 32)), .int .i64 0], 63, none⟩) := ⟨_, rfl⟩
    refine aw_cut (fun α G' => G' = G2 ∧ α 2 = .pointer (some ⟨a, 0, none⟩) ∧ α 3 = .pointer (some ⟨a + 1, 0, none⟩)) ?_ ?_
    · (refine aw_planL [] [0, 1, 2, 3, 4, 5, 6, 7, 8, 9] [0, 1, 2, 3, 4] 5 [([], [], [[10, 11, 12, 13, 14]]), ([0], [20], [[0, 10, 11, 12, 13, 14], [10, 0, 11, 12, 13, 14], [10, 11, 0, 12, 13, 14]]), ([4], [24], [[4, 10, 11, 12, 13, 14], [10, 4, 11, 12, 13, 14]]), ([0, 4], [20, 24], [[0, 4, 10, 11, 12, 13, 14], [0, 10, 4, 11, 12, 13, 14], [4, 0, 10, 11, 12, 13, 14], [4, 10, 0, 11, 12, 13, 14], [4, 10, 11, 0, 12, 13, 14], [10, 0, 4, 11, 12, 13, 14], [10, 4, 0, 11, 12, 13, 14], [10, 4, 11, 0, 12, 13, 14]]), ([3, 4], [23, 24], [[3, 4, 10, 11, 12, 13, 14], [3, 10, 4, 11, 12, 13, 14], [10, 3, 4, 11, 12, 13, 14]]), ([0, 3, 4], [20, 23, 24], [[0, 3, 4, 10, 11, 12, 13, 14], [0, 3, 10, 4, 11, 12, 13, 14], [0, 10, 3, 4, 11, 12, 13, 14], [3, 0, 4, 10, 11, 12, 13, 14], [3, 0, 10, 4, 11, 12, 13, 14], [3, 4, 0, 10, 11, 12, 13, 14], [3, 4, 10, 0, 11, 12, 13, 14], [3, 4, 10, 11, 0, 12, 13, 14], [3, 10, 0, 4, 11, 12, 13, 14], [3, 10, 4, 0, 11, 12, 13, 14], [3, 10, 4, 11, 0, 12, 13, 14], [10, 0, 3, 4, 11, 12, 13, 14], [10, 3, 0, 4, 11, 12, 13, 14], [10, 3, 4, 0, 11, 12, 13, 14], [10, 3, 4, 11, 0, 12, 13, 14]]), ([2, 3, 4], [22, 23, 24], [[2, 3, 4, 10, 11, 12, 13, 14], [2, 3, 10, 4, 11, 12, 13, 14], [2, 10, 3, 4, 11, 12, 13, 14], [10, 2, 3, 4, 11, 12, 13, 14]]), ([0, 2, 3, 4], [20, 22, 23, 24], [[0, 2, 3, 4, 10, 11, 12, 13, 14], [0, 2, 3, 10, 4, 11, 12, 13, 14], [0, 2, 10, 3, 4, 11, 12, 13, 14], [0, 10, 2, 3, 4, 11, 12, 13, 14], [2, 0, 3, 4, 10, 11, 12, 13, 14], [2, 0, 3, 10, 4, 11, 12, 13, 14], [2, 0, 10, 3, 4, 11, 12, 13, 14], [2, 3, 0, 4, 10, 11, 12, 13, 14], [2, 3, 0, 10, 4, 11, 12, 13, 14], [2, 3, 4, 0, 10, 11, 12, 13, 14], [2, 3, 4, 10, 0, 11, 12, 13, 14], [2, 3, 4, 10, 11, 0, 12, 13, 14], [2, 3, 10, 0, 4, 11, 12, 13, 14], [2, 3, 10, 4, 0, 11, 12, 13, 14], [2, 3, 10, 4, 11, 0, 12, 13, 14], [2, 10, 0, 3, 4, 11, 12, 13, 14], [2, 10, 3, 0, 4, 11, 12, 13, 14], [2, 10, 3, 4, 0, 11, 12, 13, 14], [2, 10, 3, 4, 11, 0, 12, 13, 14], [10, 0, 2, 3, 4, 11, 12, 13, 14], [10, 2, 0, 3, 4, 11, 12, 13, 14], [10, 2, 3, 0, 4, 11, 12, 13, 14], [10, 2, 3, 4, 0, 11, 12, 13, 14], [10, 2, 3, 4, 11, 0, 12, 13, 14]]), ([1, 2, 3, 4], [21, 22, 23, 24], [[1, 2, 3, 4, 10, 11, 12, 13, 14], [1, 2, 3, 10, 4, 11, 12, 13, 14], [1, 2, 10, 3, 4, 11, 12, 13, 14], [1, 10, 2, 3, 4, 11, 12, 13, 14], [10, 1, 2, 3, 4, 11, 12, 13, 14]]), ([0, 1, 2, 3, 4], [20, 21, 22, 23, 24], [[0, 1, 2, 3, 4, 10, 11, 12, 13, 14], [0, 1, 2, 3, 10, 4, 11, 12, 13, 14], [0, 1, 2, 10, 3, 4, 11, 12, 13, 14], [0, 1, 10, 2, 3, 4, 11, 12, 13, 14], [0, 10, 1, 2, 3, 4, 11, 12, 13, 14], [1, 0, 2, 3, 4, 10, 11, 12, 13, 14], [1, 0, 2, 3, 10, 4, 11, 12, 13, 14], [1, 0, 2, 10, 3, 4, 11, 12, 13, 14], [1, 0, 10, 2, 3, 4, 11, 12, 13, 14], [1, 2, 0, 3, 4, 10, 11, 12, 13, 14], [1, 2, 0, 3, 10, 4, 11, 12, 13, 14], [1, 2, 0, 10, 3, 4, 11, 12, 13, 14], [1, 2, 3, 0, 4, 10, 11, 12, 13, 14], [1, 2, 3, 0, 10, 4, 11, 12, 13, 14], [1, 2, 3, 4, 0, 10, 11, 12, 13, 14], [1, 2, 3, 4, 10, 0, 11, 12, 13, 14], [1, 2, 3, 4, 10, 11, 0, 12, 13, 14], [1, 2, 3, 10, 0, 4, 11, 12, 13, 14], [1, 2, 3, 10, 4, 0, 11, 12, 13, 14], [1, 2, 3, 10, 4, 11, 0, 12, 13, 14], [1, 2, 10, 0, 3, 4, 11, 12, 13, 14], [1, 2, 10, 3, 0, 4, 11, 12, 13, 14], [1, 2, 10, 3, 4, 0, 11, 12, 13, 14], [1, 2, 10, 3, 4, 11, 0, 12, 13, 14], [1, 10, 0, 2, 3, 4, 11, 12, 13, 14], [1, 10, 2, 0, 3, 4, 11, 12, 13, 14], [1, 10, 2, 3, 0, 4, 11, 12, 13, 14], [1, 10, 2, 3, 4, 0, 11, 12, 13, 14], [1, 10, 2, 3, 4, 11, 0, 12, 13, 14], [10, 0, 1, 2, 3, 4, 11, 12, 13, 14], [10, 1, 0, 2, 3, 4, 11, 12, 13, 14], [10, 1, 2, 0, 3, 4, 11, 12, 13, 14], [10, 1, 2, 3, 0, 4, 11, 12, 13, 14], [10, 1, 2, 3, 4, 0, 11, 12, 13, 14], [10, 1, 2, 3, 4, 11, 0, 12, 13, 14]])] (by kernel_rfl) (by kernel_rfl) (by kernel_rfl) (fun K hK => ?_)); simp only [sel, List.getElem?_cons_succ, List.getElem?_cons_zero]; simp (disch := first | omega | (simp only [List.length_set, List.length_append, List.length_cons, List.length_nil, iv_length, zl_length]; try omega; done)) [-getElem?_pos, -getElem?_neg, hGp, g1, hGb, hzl, hsz, hex, -xcopy, hxc, PL_nil, PL_cons, PLc_val, PLc_new, stepP_t, stepP_f, stepPC_n, stepPC_s, stepPX_s, stepPX_n, stepPA_t, stepPA_c, stepPA_l, stepPN_s, allocOp, reloc_sl, reloc_ptr, List.map_cons, List.map_nil, List.nil_append, List.append_assoc, List.cons_append, Nat.add_assoc]
      simp only [List.mem_cons, List.not_mem_nil, or_false, forall_eq_or_imp, forall_eq, sel, List.getElem?_cons_succ, List.getElem?_cons_zero]; simp (disch := first | omega | (simp only [List.length_set, List.length_append, List.length_cons, List.length_nil, iv_length, zl_length]; try omega; done)) [-getElem?_pos, -getElem?_neg, hGp, g1, hGb, hzl, hsz, hex, -xcopy, hxc, ← hG2, mixF_at, mixF_nil, List.contains_cons, List.contains_nil]
      repeat' (first | apply And.intro | refine hK _ _ ?_)
      all_goals clear hK K
      all_goals (first | (simp [put_at, put_none, fr0_at]; done) | rfl)
    rintro α G' ⟨rfl, h2, h3⟩
    have q1 : hget G' (a + 1) = some ⟨kb, 41, none⟩ := by rw [hG2, hget_set_ne (by omega)]; exact hget_set_eq (by omega)
    have q2 : hget G' a = some ⟨zz, 41, none⟩ := by rw [hG2, hget_set_ne (by omega), hget_set_ne (by omega)]; exact hGa
    have q3 : hget G' p = some ⟨[.string (strOfNums (l.drop 32)), .int .i64 0], 63, none⟩ := by rw [hG2]; exact hget_set_eq (by simp; omega)
    have q4 : G'.length = a + 2 := by rw [hG2]; simpa using hGl
    have hfr2 : Fr H G' [p] [p] := by
      exact Fr.mk (by omega) (fun j hj hn => by rw [hG2, hget_set_ne (fun e => hn (by simp [e])), hget_set_ne (by omega)]; exact hfr.out j hj hn) (fun j hj => .inl hj)
    have ht : List.take 32 kb = kb := List.take_of_length_le (by omega)
    have hst : setR zz 0 kb = kb := setR_all _ _ (by omega)
    clear hG2
    refine aw_seq ?_
    (refine aw_ops (by kernel_rfl) (fun K hK => ?_); simp (disch := first | omega | (simp only [List.length_set, List.length_append, List.length_cons, List.length_nil, iv_length, zl_length]; try omega; done)) [-getElem?_pos, -getElem?_neg, h2, h3, q1, q2, hkl, ht, hst, hzl]; refine hK _ _ ?_; clear hK K)
    have h4 : hget (G'.set a (some ⟨kb, 41, none⟩)) a = some ⟨kb, 41, none⟩ := hget_set_eq (by omega)
    (refine aw_ret ?_; simp (disch := first | omega | (simp only [List.length_set, List.length_append, List.length_cons, List.length_nil, iv_length, zl_length]; try omega; done)) [-getElem?_pos, -getElem?_neg, thenQ_ret, scopeQ_ret, inBlockQ_ret, RQ, resL, resV, h2, h4, hkl, ht])
    exact ⟨q3, Fr.mk (by simp; omega) (fun j hj hn => by rw [hget_set_ne (by omega)]; exact hfr2.out j hj hn) (fun j hj => .inl hj)⟩
end
end Go.Proofs.Ytpdijcaikjobiaa
