/-
  The reference's step.
-/
import Derived.Test.YtlaglpnbmkoakaaDoorFmG
namespace Go.Proofs.YtlaglpnbmkoakaaDoor
open Go Go.RowKit
set_option linter.unusedSimpArgs false
set_option linter.unusedVariables false
set_option maxRecDepth 100000
set_option maxHeartbeats 8000000
section
attribute [local simp] wb_bool wb_undef with_lit XL_nil XL_cons XLc_val XLc_call step1_eq stepW_t stepW_f stepC_n stepC_s stepX_s stepX_n stepN_s calleeX xrecv oneV xop_eq xopR_s xopR_n wantedA_eq wantedG_n wantedG_s plain1_int plain1_bool plain1_string bits_i64 bits_u64 bits_u32 bits_u16 bits_u8 xeqA xagg xcmp xarr allK_iv num_iv calleeOf xread xeff xbin xint xnil xun xstr xload xconv xpart xfield xfieldAddr xindexAddr xindex bnd asInt? xslice xlen xmin xmax xbuild xfill xappend xapp2 xappstr xappmk xcap xcopy xcells eval_tmp eval_const put_at put_none fr0_at cells_agg cells_int cells_bool cells_string cells_ptr cells_slice notTuple tab iv_all hget_app hget_app0 hget_cons0 hget_cons set_app set_app0 setR setR_one QL_nil QL_cons QLc_val stepQ_t stepQ_f stepQC_n stepQC_s stepQX_s SL_nil SL_cons SLc_val stepS_t stepS_f ltT ltF leT leF eqT eqF ltTn ltFn leTn leFn eqTn eqFn beqT beqF bneT bneF wi64 wu64 wu32 wu16 wu8 tmodP tdivP hgetL hgetNe hgetEq setL nums_def nums_len Nat.succ_le_of_lt List.getElem?_cons_zero List.getElem?_cons_succ Option.getD_some Int.toNat_add Int.toNat_mul agM okM agB agI agS agP agL agA okB okI okS okP okSl okA nt_strG nt_boolG nt_aggG nt_intG nt_ptrG nt_slG XO_s XO_z XLk_val XLk_call headsO behind List.length_cons List.length_nil List.mem_cons List.not_mem_nil or_false forall_eq_or_imp forall_eq List.contains_cons List.contains_nil XOm
section
theorem rcook_ac {γ : Nat → Option Nat} {H0 H : AH} (lw0 : Low H0.length H0 H) {b : Nat} {F : List Nat} {T : List TermD} (h : RTbl H b F T) (hnro : ∀ j ∈ F, H0.length ≤ j) {sv mv : Value} {seen made : List (List Int)} (hsv : KsP H F sv seen) (hs32 : ∀ k ∈ seen, k.length = 32) (hmv : KsP H F mv made) (hk32m : ∀ k ∈ made, k.length = 32 ∧ By k) (hmm : made.length ≤ 100000)
  {C : List Value} {x : CookD} {xv : Value} (hc0 : CkC H C x xv) (hx : x.Wf) (hxt : x.text.size ≤ 1000) (hxm : x.keys.length ≤ 1000) (hT : T.length ≤ 900000) :
  AC Tryd.prog H0.length γ 30 #[.pointer (some ⟨b, 0, none⟩), sv, mv, .agg C.toArray] H (RStQ H b F (stepR T seen made x).1 (stepR T seen made x).2) := by
 have cl := hc0.len
 have hFl := h.bound
 have hpl : plain1 (.slice none 0 0) = true := rfl
 obtain ⟨snt0, scs0⟩ := hsv.nt
 obtain ⟨mnt0, mcs0⟩ := hmv.nt
 obtain ⟨n, hn⟩ : ∃ n, n = H.length := ⟨_, rfl⟩
 obtain ⟨B0, hB0⟩ : ∃ B0 : AH, B0 = H ++ [some ⟨C, 43, none⟩] := ⟨_, rfl⟩
 have gC0 : hget B0 n = some ⟨C, 43, none⟩ := by rw [hB0, hn, hget_app0]; rfl
 have hBl0 : B0.length = n + 1 := by rw [hB0, hn]; simp
 have lwB0 : Low H.length H B0 := by rw [hB0]; exact Low.push (Nat.le_refl _) _
 have f00 : Fr H B0 F F := low_fr F lwB0
 have tB0 : RTbl B0 b F T := h.low (fun j hj => lwB0.1 j (hFl j hj)) lwB0.2
 have nC : n ∉ F := fun e => by have := hFl _ e; omega
 have hcB := hc0.low lwB0
 obtain ⟨hnt, hvc, hxl, hat2⟩ := hcB.kv.acc
 obtain ⟨mnt, mvc, mxl, mat2⟩ := (hmv.at_ f00).acc (fun k hk => (hk32m k hk).1)
 have hk := fun k hk => (hk32m k hk).1
 have hkm : x.keys.length ≤ 9223372036854775807 := by omega
 unfold stepR
 refine ac_of_aw Tryd.func30 rfl Tryd.ntmps30 Tryd.results30 (by simp) ?_
 (refine aw_seq (aoo fun K hK => ?_); simp (disch := first | omega | (simp only [lnS]; try omega)) [-getElem?_pos, -getElem?_neg, cl]; refine hK _ _ ?_; clear hK K)
 rw [← hn, ← hB0]
 clear hB0
 (refine aw_seq (aoo fun K hK => ?_); simp (disch := first | omega | (simp only [lnS]; try omega)) [-getElem?_pos, -getElem?_neg]; refine hK _ _ ?_; clear hK K)
 refine aw_seq (aw_seq ?_)
 (refine aoo fun K hK => ?_; simp (disch := first | omega | (simp only [lnS]; try omega)) [-getElem?_pos, -getElem?_neg]; refine hK _ _ ?_; clear hK K)
 refine aw_block ?_
 refine aw_loop (fun q α G => ∃ (i : Nat) (kv : Value) (Fo : List Nat), i + q = x.keys.length ∧ α 0 = .pointer (some ⟨b, 0, none⟩) ∧ α 1 = sv ∧ α 2 = mv ∧ α 7 = .pointer (some ⟨n, 0, none⟩) ∧ α 9 = kv ∧ α 10 = .int .i64 (i : Nat) ∧ inR made.length (x.keys.take i) = true ∧ Low B0.length B0 G ∧ OwnF G kv 41 32 (kr (pickL made (x.keys.take i))) Fo ∧ ∀ j ∈ Fo, B0.length ≤ j) x.keys.length ?_ ?_
 ·exact ⟨0, .slice none 0 0, [], by omega, by (first | (simp; done) | rfl), by (first | (simp; done) | rfl), by (first | (simp; done) | rfl), by (first | (simp; done) | rfl), by (first | (simp; done) | rfl), by (first | (simp; done) | rfl), rfl, Low.refl (Nat.le_refl _), .inl ⟨rfl, rfl, rfl⟩, fun j hj => by cases hj⟩
 rintro q α G ⟨i, kv, Fo, hiq, e0, e1, e2, e7, e9, e10, hin, lwG, ho, hFo⟩
 have hGl := lwG.2
 have gG := (lwG.1 _ (hget_lt gC0)).trans gC0
 have hnG : H0.length ≤ G.length := by have := lw0.2; have := lwB0.2; omega
 obtain ⟨_, _, _, ld3, _, _⟩ := (hcB.low lwG).loads hx gG
 have hto := ownF_nt ho
 refine aw_seq (aw_seq ?_)
 by_cases hi : i < x.keys.length
 ·have hi' : (i : Int) < x.keys.length := by omega
  obtain ⟨qa, y, q1, q2, q3, rfl, q4⟩ := hat2 i hi
  have q5 := q4 G lwG
  have hgz : x.keys[i]? = some (x.keys.getD i 0) := by rw [List.getD_eq_getElem?_getD, List.getElem?_eq_getElem hi]; rfl
  have hzI := hx.keys _ (List.mem_of_getElem? hgz)
  have htk := inR_take (m := made.length) hgz
  have hno := inR_no (m := made.length) hgz
  have hpk : pickL made (x.keys.take (i + 1)) = pickL made (x.keys.take i) ++ [made.getD (x.keys.getD i 0).toNat []] := by
   unfold pickL
   rw [List.take_add_one, hgz, List.map_append]; rfl
  generalize x.keys.getD i 0 = z at *
  (refine aoo fun K hK => ?_; simp (disch := first | omega | (simp only [lnS]; try omega)) [-getElem?_pos, -getElem?_neg, e7, e10, -xload, ld3, -notTuple, hnt, -xlen, hxl, hi']; refine hK _ _ ?_; clear hK K)
  refine aw_t (by (first | (simp; done) | (simp; omega))) (by kernel_rfl) ?_
  refine aw_skip (aw_seq ?_)
  refine aw_block ?_
  (refine aw_seq (aoo fun K hK => ?_); simp (disch := first | omega | (simp only [lnS]; try omega)) [-getElem?_pos, -getElem?_neg, e7, e10, -xload, ld3, q5, -notTuple, hnt, q1, q3, -xindexAddr, q2]; refine hK _ _ ?_; clear hK K)
  refine aw_seq (aw_seq ?_)
  by_cases hz0 : z < 0
  ·have hf := hno (by omega)
   rw [if_neg (fun e => by rw [hf] at e; cases e.1)]
   (refine aoo fun K hK => ?_; simp (disch := first | omega | (simp only [lnS]; try omega)) [-getElem?_pos, -getElem?_neg, hz0]; refine hK _ _ ?_; clear hK K)
   refine aw_t (by (first | (simp; done) | (simp; omega))) (by kernel_rfl) ?_
   (refine aw_seq (aoo fun K hK => ?_); simp (disch := first | omega | (simp only [lnS]; try omega)) [-getElem?_pos, -getElem?_neg]; refine hK _ _ ?_; clear hK K)
   (refine aw_ret ?_; simp (disch := first | omega | (simp only [lnS]; try omega)) [-getElem?_pos, -getElem?_neg, thenQ_ret, scopeQ_ret, inBlockQ_ret, RQ, resL, resV])
   exact rst_nil (f00.trans (low_fr F lwG)) (tB0.low (fun j hj => lwG.1 j (tB0.bound j hj)) lwG.2)
  ·by_cases hzm : z < made.length
   ·have hz1 : 0 ≤ z ∧ z < made.length := by omega
    obtain ⟨w, rfl⟩ := Int.eq_ofNat_of_zero_le hz1.1
    have hw : w < made.length := by omega
    obtain ⟨qm, ym, m1, m2, m3, rfl, m4⟩ := mat2 w hw
    have m5 := m4 G lwG
    have hY32 : (made.getD w []).length = 32 := hk _ (by rw [List.getD_eq_getElem?_getD, List.getElem?_eq_getElem hw]; exact List.getElem_mem _)
    rw [show ((w : Nat) : Int).toNat = w from rfl] at hpk
    generalize made.getD w [] = Y at *
    have hK32 : K32 (pickL made (x.keys.take i)) := fun k hk2 => hk k (pickL_mem hin k hk2)
    have hkl : (pickL made (x.keys.take i)).length = i := by rw [pickL_len, List.length_take]; omega
    have hkr := kr_len hK32
    rw [hkl] at hkr
    have hrow1 : setR (List.map (fun j => (iv .u8 (zl 32))[j % 32]?.getD undef) (List.range 32)) 0 (iv .u8 Y) = iv .u8 Y := setR_all _ _ (by simp [hY32])
    have htY : (iv .u8 Y).take 32 = iv .u8 Y := List.take_of_length_le (by simp [hY32])
    have hxc : xcells 32 (.slice (some ⟨G.length, 0, none⟩) 1 1) (G ++ [some ⟨iv .u8 Y, 41, some 32⟩]) = some (iv .u8 Y) := by
     simp [xcells, hget_app0, hY32, htY]
    obtain ⟨v1, G1, F1, hap, ho1, hl1, hk1, hF1⟩ := ownF_appQ (P := Tryd.prog) (nro := H0.length) (t := 34) (e := 41) (H := G ++ [some ⟨iv .u8 Y, 41, some 32⟩]) (v := kv) (x := .slice (some ⟨G.length, 0, none⟩) 1 1) (sz := 32) (cells := kr (pickL made (x.keys.take i))) (news := iv .u8 Y) (F := Fo) (by kernel_rfl) (by kernel_rfl) (by omega) (by kernel_rfl)
     (ho.low (fun j hj => hget_left (ho.lt j hj))) (fun j hj => by have := hFo j hj; have := lw0.2; have := lwB0.2; omega) (fun s e => by cases e) hxc (by simp [hY32]) (by rw [hkr, show byt Tryd.prog 41 = 32 by kernel_rfl]; simp [hY32]; omega) (by rw [hkr]; simp [hY32, maxLen]; omega)
    have n1 := ownF_nt ho1
    have hl1' : G.length + 1 ≤ G1.length := by simpa using hl1
    have hz0' : ¬ (w : Int) < 0 := hz0
    have hzg : ¬ (made.length : Int) ≤ w := by omega
    (refine aoo fun K hK => ?_; simp (disch := first | omega | (simp only [lnS]; try omega)) [-getElem?_pos, -getElem?_neg, e2, hz0', hzm, hzg, -notTuple, mnt, -xlen, mxl]; refine hK _ _ ?_; clear hK K)
    refine aw_f (by (first | (simp; done) | (simp; omega))) (by kernel_rfl) ?_
    refine aw_skip ?_
    (refine aoo fun K hK => ?_; simp (disch := first | omega | (simp only [lnS]; try omega)) [-getElem?_pos, -getElem?_neg, e2, e9, -xload, m5, -notTuple, mnt, m1, m3, hto.1, -xindexAddr, m2, hrow1, hY32, htY, n1.1, n1.2, -xappend, hap]; refine hK _ _ ?_; clear hK K)
    (refine aoo fun K hK => ?_; simp (disch := first | omega | (simp only [lnS]; try omega)) [-getElem?_pos, -getElem?_neg, e10]; refine hK _ _ ?_; clear hK K)
    refine ⟨q - 1, by omega, i + 1, v1, F1, by omega, by (first | (simp [e0]; done) | rfl), by (first | (simp [e1]; done) | rfl), by (first | (simp [e2]; done) | rfl), by (first | (simp [e7]; done) | rfl), by (first | (simp; done) | rfl), by (first | (simp; done) | rfl), by rw [htk, hin]; exact decide_eq_true hz1, ⟨fun j hj => ?_, by omega⟩, ?_, fun j hj => ?_⟩
    ·rw [hk1 j (by simp; omega) (fun e => by have := hFo j e; omega), hget_left (by omega)]
     exact lwG.1 j hj
    ·rw [hpk, kr_app, kr_one]
     exact ho1
    ·have := hF1 j hj
     simp at this
     omega
   ·have hf := hno (by omega)
    have hzg : (made.length : Int) ≤ z := by omega
    rw [if_neg (fun e => by rw [hf] at e; cases e.1)]
    (refine aoo fun K hK => ?_; simp (disch := first | omega | (simp only [lnS]; try omega)) [-getElem?_pos, -getElem?_neg, e2, hz0, hzm, hzg, -notTuple, mnt, -xlen, mxl]; refine hK _ _ ?_; clear hK K)
    refine aw_t (by (first | (simp; done) | (simp; omega))) (by kernel_rfl) ?_
    (refine aw_seq (aoo fun K hK => ?_); simp (disch := first | omega | (simp only [lnS]; try omega)) [-getElem?_pos, -getElem?_neg]; refine hK _ _ ?_; clear hK K)
    (refine aw_ret ?_; simp (disch := first | omega | (simp only [lnS]; try omega)) [-getElem?_pos, -getElem?_neg, thenQ_ret, scopeQ_ret, inBlockQ_ret, RQ, resL, resV])
    exact rst_nil (f00.trans (low_fr F lwG)) (tB0.low (fun j hj => lwG.1 j (tB0.bound j hj)) lwG.2)
 ·obtain rfl : i = x.keys.length := by omega
  rw [List.take_of_length_le (Nat.le_refl _)] at ho hin
  have hkl := pickL_len made x.keys
  have hxo := ho.len (P := Tryd.prog) (t := 34) (n := x.keys.length) (by kernel_rfl) (by rw [kr_len (fun k hk2 => hk k (pickL_mem hin k hk2)), hkl]) (by decide)
  have ld0 := ((hcB.low lwG).loads hx gG).1
  (refine aoo fun K hK => ?_; simp (disch := first | omega | (simp only [lnS]; try omega)) [-getElem?_pos, -getElem?_neg, e7, e10, -xload, ld3, -notTuple, hnt, -xlen, hxl, hi]; refine hK _ _ ?_; clear hK K)
  refine aw_f (by (first | (simp; done) | (simp; omega))) (by kernel_rfl) ?_
  refine aw_exit ?_
  refine aw_seq (aw_seq ?_)
  refine aw_cut (fun α' G' => α' 0 = .pointer (some ⟨b, 0, none⟩) ∧ α' 1 = sv ∧ α' 7 = .pointer (some ⟨n, 0, none⟩) ∧ α' 9 = kv ∧ α' 76 = .bool (decide (x.keys.length < needN x.kind)) ∧ G' = G) ?_ ?_
  ·have fin : ∀ (k d : Nat), needN x.kind = d → (x.keys.length < d ∨ ¬ x.keys.length < d) := fun k d _ => by omega
   by_cases h4 : x.kind = 4
   ·have hd : needN x.kind = 1 := by rw [h4]; rfl
    rw [hd]
    rw [h4] at ld0
    by_cases hl : x.keys.length < 1
    ·have hl' : (x.keys.length : Int) < 1 := by omega
     (refine aoo fun K hK => ?_; simp (disch := first | omega | (simp only [lnS]; try omega)) [-getElem?_pos, -getElem?_neg, e7, e9, -xload, ld0, -notTuple, hto.1, -xlen, hxo, hl', hl]; refine hK _ _ ?_; clear hK K)
     exact ⟨by (first | (simp [e0]; done) | rfl), by (first | (simp [e1]; done) | rfl), by (first | (simp [e7]; done) | rfl), by (first | (simp [e9]; done) | rfl), by (first | (simp [hl]; done) | rfl), rfl⟩
    ·have hl' : ¬ (x.keys.length : Int) < 1 := by omega
     (refine aoo fun K hK => ?_; simp (disch := first | omega | (simp only [lnS]; try omega)) [-getElem?_pos, -getElem?_neg, e7, e9, -xload, ld0, -notTuple, hto.1, -xlen, hxo, hl', hl]; refine hK _ _ ?_; clear hK K)
     exact ⟨by (first | (simp [e0]; done) | rfl), by (first | (simp [e1]; done) | rfl), by (first | (simp [e7]; done) | rfl), by (first | (simp [e9]; done) | rfl), by (first | (simp [hl]; done) | rfl), rfl⟩
   by_cases h5 : x.kind = 5
   ·have hd : needN x.kind = 2 := by rw [h5]; rfl
    rw [hd]
    rw [h5] at ld0
    by_cases hl : x.keys.length < 2
    ·have hl' : (x.keys.length : Int) < 2 := by omega
     (refine aoo fun K hK => ?_; simp (disch := first | omega | (simp only [lnS]; try omega)) [-getElem?_pos, -getElem?_neg, e7, e9, -xload, ld0, -notTuple, hto.1, -xlen, hxo, hl', hl]; refine hK _ _ ?_; clear hK K)
     exact ⟨by (first | (simp [e0]; done) | rfl), by (first | (simp [e1]; done) | rfl), by (first | (simp [e7]; done) | rfl), by (first | (simp [e9]; done) | rfl), by (first | (simp [hl]; done) | rfl), rfl⟩
    ·have hl' : ¬ (x.keys.length : Int) < 2 := by omega
     (refine aoo fun K hK => ?_; simp (disch := first | omega | (simp only [lnS]; try omega)) [-getElem?_pos, -getElem?_neg, e7, e9, -xload, ld0, -notTuple, hto.1, -xlen, hxo, hl', hl]; refine hK _ _ ?_; clear hK K)
     exact ⟨by (first | (simp [e0]; done) | rfl), by (first | (simp [e1]; done) | rfl), by (first | (simp [e7]; done) | rfl), by (first | (simp [e9]; done) | rfl), by (first | (simp [hl]; done) | rfl), rfl⟩
   by_cases h6 : x.kind = 6
   ·have hd : needN x.kind = 2 := by rw [h6]; rfl
    rw [hd]
    rw [h6] at ld0
    by_cases hl : x.keys.length < 2
    ·have hl' : (x.keys.length : Int) < 2 := by omega
     (refine aoo fun K hK => ?_; simp (disch := first | omega | (simp only [lnS]; try omega)) [-getElem?_pos, -getElem?_neg, e7, e9, -xload, ld0, -notTuple, hto.1, -xlen, hxo, hl', hl]; refine hK _ _ ?_; clear hK K)
     exact ⟨by (first | (simp [e0]; done) | rfl), by (first | (simp [e1]; done) | rfl), by (first | (simp [e7]; done) | rfl), by (first | (simp [e9]; done) | rfl), by (first | (simp [hl]; done) | rfl), rfl⟩
    ·have hl' : ¬ (x.keys.length : Int) < 2 := by omega
     (refine aoo fun K hK => ?_; simp (disch := first | omega | (simp only [lnS]; try omega)) [-getElem?_pos, -getElem?_neg, e7, e9, -xload, ld0, -notTuple, hto.1, -xlen, hxo, hl', hl]; refine hK _ _ ?_; clear hK K)
     exact ⟨by (first | (simp [e0]; done) | rfl), by (first | (simp [e1]; done) | rfl), by (first | (simp [e7]; done) | rfl), by (first | (simp [e9]; done) | rfl), by (first | (simp [hl]; done) | rfl), rfl⟩
   by_cases h7 : x.kind = 7
   ·have hd : needN x.kind = 3 := by rw [h7]; rfl
    rw [hd]
    rw [h7] at ld0
    by_cases hl : x.keys.length < 3
    ·have hl' : (x.keys.length : Int) < 3 := by omega
     (refine aoo fun K hK => ?_; simp (disch := first | omega | (simp only [lnS]; try omega)) [-getElem?_pos, -getElem?_neg, e7, e9, -xload, ld0, -notTuple, hto.1, -xlen, hxo, hl', hl]; refine hK _ _ ?_; clear hK K)
     exact ⟨by (first | (simp [e0]; done) | rfl), by (first | (simp [e1]; done) | rfl), by (first | (simp [e7]; done) | rfl), by (first | (simp [e9]; done) | rfl), by (first | (simp [hl]; done) | rfl), rfl⟩
    ·have hl' : ¬ (x.keys.length : Int) < 3 := by omega
     (refine aoo fun K hK => ?_; simp (disch := first | omega | (simp only [lnS]; try omega)) [-getElem?_pos, -getElem?_neg, e7, e9, -xload, ld0, -notTuple, hto.1, -xlen, hxo, hl', hl]; refine hK _ _ ?_; clear hK K)
     exact ⟨by (first | (simp [e0]; done) | rfl), by (first | (simp [e1]; done) | rfl), by (first | (simp [e7]; done) | rfl), by (first | (simp [e9]; done) | rfl), by (first | (simp [hl]; done) | rfl), rfl⟩
   have hd : needN x.kind = 0 := by unfold needN; rw [if_neg h4, if_neg (by omega), if_neg h7]
   rw [hd]
   (refine aoo fun K hK => ?_; simp (disch := first | omega | (simp only [lnS]; try omega)) [-getElem?_pos, -getElem?_neg, e7, e9, -xload, ld0, -notTuple, hto.1, -xlen, hxo, h4, h5, h6, h7]; refine hK _ _ ?_; clear hK K)
   exact ⟨by (first | (simp [e0]; done) | rfl), by (first | (simp [e1]; done) | rfl), by (first | (simp [e7]; done) | rfl), by (first | (simp [e9]; done) | rfl), by (first | (simp; done) | rfl), rfl⟩
  rintro α' G' ⟨a0, a1, a7, a9, a76, rfl⟩
  clear e0 e1 e2 e7 e9 e10
  obtain ⟨ks, hks⟩ : ∃ ks, ks = pickL made x.keys := ⟨_, rfl⟩
  have hk32 : ∀ k ∈ ks, k.length = 32 ∧ By k := fun k hk2 => by rw [hks] at hk2; exact hk32m k (pickL_mem hin k hk2)
  have k32 : K32 ks := fun k hk2 => (hk32 k hk2).1
  have hkl : ks.length = x.keys.length := by rw [hks]; exact hkl
  rw [← hks] at ho ⊢
  have f0 : Fr H G' F F := f00.trans (low_fr F lwG)
  have tB : RTbl G' b F T := tB0.low (fun j hj => lwG.1 j (tB0.bound j hj)) lwG.2
  have svB := hsv.fr f0
  have hFk : ∀ j ∈ Fo, j ∉ F := fun j hj e => by have := hFo j hj; have := hFl j e; omega
  have hc := hcB.low lwG
  by_cases hlt : x.keys.length < needN x.kind
  ·rw [if_neg (by omega)]
   rw [decide_eq_true hlt] at a76
   refine aw_t (by (first | (simp [a76]; done) | (simp [a76]; omega))) (by kernel_rfl) ?_
   (refine aw_seq (aoo fun K hK => ?_); simp (disch := first | omega | (simp only [lnS]; try omega)) [-getElem?_pos, -getElem?_neg]; refine hK _ _ ?_; clear hK K)
   (refine aw_ret ?_; simp (disch := first | omega | (simp only [lnS]; try omega)) [-getElem?_pos, -getElem?_neg, thenQ_ret, scopeQ_ret, inBlockQ_ret, RQ, resL, resV])
   exact rst_nil f0 tB
  rw [decide_eq_false hlt] at a76
  rw [if_pos ⟨hin, by omega⟩]
  have hneed : needN x.kind ≤ ks.length := by omega
  have hkm : ks.length ≤ 1000 := by omega
  refine aw_f (by (first | (simp [a76]; done) | (simp [a76]; omega))) (by kernel_rfl) ?_
  refine aw_skip ?_
  refine aw_seq (aw_seq ?_)
  obtain ⟨B, hBB⟩ : ∃ B, B = G' := ⟨_, rfl⟩
  rw [← hBB] at tB f0 svB hc gG ho lwG ⊢
  have hnB : H0.length ≤ B.length := by rw [hBB]; exact hnG
  clear hBB hxo hcB lwB0 lwG tB0 gC0 hat2 mat2 hvc hnt hxl mnt mvc mxl mnt0 mcs0 f00 hks
  have gC := gG
  obtain ⟨ld0, ld1, ld2, _, ld4, _⟩ := hc.loads hx gC
  have hkacc := (kr_ksv ho k32).acc k32
  obtain ⟨knt, kcs, kxl, kat⟩ := hkacc
  have hsacc := svB.now.acc hs32
  obtain ⟨snt, scs, sxl, sat⟩ := hsacc
  have okv := ho
  have ksB : KsV B kv ks := kr_ksv ho k32
  have g0 : 0 < ks.length → (ks.getD 0 []).length = 32 ∧ By (ks.getD 0 []) := fun h0 => by
   rw [List.getD_eq_getElem?_getD, List.getElem?_eq_getElem h0]
   exact hk32 _ (List.getElem_mem _)
  have g1 : 1 < ks.length → (ks.getD 1 []).length = 32 ∧ By (ks.getD 1 []) := fun h0 => by
   rw [List.getD_eq_getElem?_getD, List.getElem?_eq_getElem h0]
   exact hk32 _ (List.getElem_mem _)
  have g2 : 2 < ks.length → (ks.getD 2 []).length = 32 ∧ By (ks.getD 2 []) := fun h0 => by
   rw [List.getD_eq_getElem?_getD, List.getElem?_eq_getElem h0]
   exact hk32 _ (List.getElem_mem _)
  unfold cookM
  (refine aoo fun K hK => ?_; simp (disch := first | omega | (simp only [lnS]; try omega)) [-getElem?_pos, -getElem?_neg, a7, -xload, ld0, -notTuple]; refine hK _ _ ?_; clear hK K)
  refine aw_block ?_
  refine aw_seq ?_
  by_cases h1 : x.kind = 1
  ·rw [h1]
   (refine aoo fun K hK => ?_; simp (disch := first | omega | (simp only [lnS]; try omega)) [-getElem?_pos, -getElem?_neg]; refine hK _ _ ?_; clear hK K)
   refine aw_t (by (first | (simp; done) | (simp; omega))) (by kernel_rfl) ?_
   refine aw_seq (aw_seq ?_)
   rw [if_pos rfl]
   by_cases hn0 : 0 ≤ x.n
   ·have hn0' : ¬ x.n < 0 := by omega
    by_cases hn1 : x.n < seen.length
    ·rw [if_pos ⟨hn0, hn1⟩]
     obtain ⟨w, hw⟩ := Int.eq_ofNat_of_zero_le hn0
     rw [hw] at ld1 hn1 hn0' ⊢
     have hn1' : ¬ (seen.length : Int) ≤ w := by omega
     have hw2 : w < seen.length := by omega
     obtain ⟨qa, y, q1, q2, q3, rfl, q4⟩ := sat w hw2
     have q5 := q4 B (Low.refl (Nat.le_refl _))
     have hY : (seen.getD w []).length = 32 := hs32 _ (by rw [List.getD_eq_getElem?_getD, List.getElem?_eq_getElem hw2]; exact List.getElem_mem _)
     rw [show ((w : Nat) : Int).toNat = w from rfl]
     generalize seen.getD w [] = Y at *
     have htY : (iv .u8 Y).take 32 = iv .u8 Y := List.take_of_length_le (by simp [hY])
     have hrow1 : setR (List.map (fun j => (iv .u8 (zl 32))[j % 32]?.getD undef) (List.range 32)) 0 (iv .u8 Y) = iv .u8 Y := setR_all _ _ (by simp [hY])
     (refine aoo fun K hK => ?_; simp (disch := first | omega | (simp only [lnS]; try omega)) [-getElem?_pos, -getElem?_neg, a1, a7, -xload, ld1, -notTuple, snt, -xlen, sxl, hn0', hn1']; refine hK _ _ ?_; clear hK K)
     refine aw_f (by (first | (simp; done) | (simp; omega))) (by kernel_rfl) ?_
     refine aw_skip (aw_seq ?_)
     (refine aoo fun K hK => ?_; simp (disch := first | omega | (simp only [lnS]; try omega)) [-getElem?_pos, -getElem?_neg, a1, a7, -xload, ld1, q5, -notTuple, snt, q1, q3, -xindexAddr, q2, hY, htY, hrow1, hpl]; refine hK _ _ ?_; clear hK K)
     (refine aw_ret ?_; simp (disch := first | omega | (simp only [lnS]; try omega)) [-getElem?_pos, -getElem?_neg, thenQ_ret, scopeQ_ret, inBlockQ_ret, RQ, resL, resV, -notTuple])
     exact rst_one f0 tB hY
    ·rw [if_neg (fun e => hn1 e.2)]
     have hn1' : (seen.length : Int) ≤ x.n := by omega
     (refine aoo fun K hK => ?_; simp (disch := first | omega | (simp only [lnS]; try omega)) [-getElem?_pos, -getElem?_neg, a1, a7, -xload, ld1, -notTuple, snt, -xlen, sxl, hn0', hn1']; refine hK _ _ ?_; clear hK K)
     refine aw_t (by (first | (simp; done) | (simp; omega))) (by kernel_rfl) ?_
     (refine aw_seq (aoo fun K hK => ?_); simp (disch := first | omega | (simp only [lnS]; try omega)) [-getElem?_pos, -getElem?_neg]; refine hK _ _ ?_; clear hK K)
     (refine aw_ret ?_; simp (disch := first | omega | (simp only [lnS]; try omega)) [-getElem?_pos, -getElem?_neg, thenQ_ret, scopeQ_ret, inBlockQ_ret, RQ, resL, resV])
     exact rst_nil f0 tB
   ·rw [if_neg (fun e => hn0 e.1)]
    have hn0' : x.n < 0 := by omega
    (refine aoo fun K hK => ?_; simp (disch := first | omega | (simp only [lnS]; try omega)) [-getElem?_pos, -getElem?_neg, a1, a7, -xload, ld1, -notTuple, snt, -xlen, sxl, hn0']; refine hK _ _ ?_; clear hK K)
    refine aw_t (by (first | (simp; done) | (simp; omega))) (by kernel_rfl) ?_
    (refine aw_seq (aoo fun K hK => ?_); simp (disch := first | omega | (simp only [lnS]; try omega)) [-getElem?_pos, -getElem?_neg]; refine hK _ _ ?_; clear hK K)
    (refine aw_ret ?_; simp (disch := first | omega | (simp only [lnS]; try omega)) [-getElem?_pos, -getElem?_neg, thenQ_ret, scopeQ_ret, inBlockQ_ret, RQ, resL, resV])
    exact rst_nil f0 tB
  rw [if_neg h1]
  (refine aoo fun K hK => ?_; simp (disch := first | omega | (simp only [lnS]; try omega)) [-getElem?_pos, -getElem?_neg, h1]; refine hK _ _ ?_; clear hK K)
  refine aw_f (by (first | (simp; done) | (simp; omega))) (by kernel_rfl) ?_
  refine aw_seq ?_
  by_cases h2 : x.kind = 2
  ·rw [if_pos (.inl h2)]
   have ht : ckT T ks x = ⟨1, foeS ++ x.text, []⟩ := by unfold ckT; rw [if_pos h2]
   rw [ht]
   have hdr := rmakeT (nro := H0.length) (γ := γ) tB hnro hnB (x := ⟨1, foeS ++ x.text, []⟩) (wf_atom (by rw [ByteArray.size_append]; show 4 + _ ≤ _; omega)) (v := .slice none 0 0) (ks_nil _) hT
   have hfs : (⟨#[102, 111, 101, 32]⟩ : ByteArray) ++ x.text = foeS ++ x.text := rfl
   have hba : (⟨#[102, 111, 101, 32]⟩ : ByteArray).size + x.text.size ≤ 9223372036854775807 := by show 4 + x.text.size ≤ _; omega
   rw [h2]
   (refine aoo fun K hK => ?_; simp (disch := first | omega | (simp only [lnS]; try omega)) [-getElem?_pos, -getElem?_neg]; refine hK _ _ ?_; clear hK K)
   refine aw_t (by (first | (simp; done) | (simp; omega))) (by kernel_rfl) ?_
   refine aw_seq (aoo fun K hK => ?_)
   simp (disch := first | omega | (simp only [lnS]; try omega)) [-getElem?_pos, -getElem?_neg, a0, a7, -xload, ld2, -notTuple, hba, hfs]
   refine ⟨by kernel_rfl, AC.mono hdr ?_⟩
   rintro v1 G1 ⟨rfl, F1, f1, t1⟩
   unfold nmV
   have lN : (nmL (nameT ⟨1, foeS ++ x.text, []⟩ T)).length = 32 := rfl
   generalize nmL (nameT ⟨1, foeS ++ x.text, []⟩ T) = N at *
   have htN : (iv .u8 N).take 32 = iv .u8 N := List.take_of_length_le (by simp [lN])
   have hrow1 : setR (List.map (fun j => (iv .u8 (zl 32))[j % 32]?.getD undef) (List.range 32)) 0 (iv .u8 N) = iv .u8 N := setR_all _ _ (by simp [lN])
   try simp (disch := first | omega | (simp only [lnS]; try omega)) [-getElem?_pos, -getElem?_neg, lN, htN, hrow1, hpl, -notTuple]
   refine hK _ _ ?_; clear hK K
   (refine aw_ret ?_; simp (disch := first | omega | (simp only [lnS]; try omega)) [-getElem?_pos, -getElem?_neg, thenQ_ret, scopeQ_ret, inBlockQ_ret, RQ, resL, resV, -notTuple])
   exact rst_one (f0.trans f1) t1 lN
  (refine aoo fun K hK => ?_; simp (disch := first | omega | (simp only [lnS]; try omega)) [-getElem?_pos, -getElem?_neg, h2]; refine hK _ _ ?_; clear hK K)
  refine aw_f (by (first | (simp; done) | (simp; omega))) (by kernel_rfl) ?_
  refine aw_seq ?_
  by_cases h3 : x.kind = 3
  ·rw [if_pos (.inr (.inl h3))]
   have ht : ckT T ks x = ⟨2, x.text, ks⟩ := by unfold ckT; rw [if_neg h2, if_pos h3]
   rw [ht]
   have hw : TermD.Wf ⟨2, x.text, ks⟩ := ⟨by show 2 ≤ 6; omega, by show x.text.size ≤ _; omega, k32, fun k hk => (hk32 k hk).2, by show ks.length ≤ _; omega, fun e => (by cases e), fun e => (by cases e), fun e => (by cases e)⟩
   have hh := rmakeT (nro := H0.length) (γ := γ) tB hnro hnB hw ksB hT
   rw [h3]
   (refine aoo fun K hK => ?_; simp (disch := first | omega | (simp only [lnS]; try omega)) [-getElem?_pos, -getElem?_neg]; refine hK _ _ ?_; clear hK K)
   refine aw_t (by (first | (simp; done) | (simp; omega))) (by kernel_rfl) ?_
   refine aw_seq (aoo fun K hK => ?_)
   simp (disch := first | omega | (simp only [lnS]; try omega)) [-getElem?_pos, -getElem?_neg, a0, a7, a9, -xload, ld2, -notTuple, knt]
   refine ⟨by kernel_rfl, AC.mono hh ?_⟩
   rintro v1 G1 ⟨rfl, F1, f1, t1⟩
   unfold nmV
   have lN : (nmL (nameT ⟨2, x.text, ks⟩ T)).length = 32 := rfl
   generalize nmL (nameT ⟨2, x.text, ks⟩ T) = N at *
   have htN : (iv .u8 N).take 32 = iv .u8 N := List.take_of_length_le (by simp [lN])
   have hrow1 : setR (List.map (fun j => (iv .u8 (zl 32))[j % 32]?.getD undef) (List.range 32)) 0 (iv .u8 N) = iv .u8 N := setR_all _ _ (by simp [lN])
   try simp (disch := first | omega | (simp only [lnS]; try omega)) [-getElem?_pos, -getElem?_neg, lN, htN, hrow1, hpl, -notTuple]
   refine hK _ _ ?_; clear hK K
   (refine aw_ret ?_; simp (disch := first | omega | (simp only [lnS]; try omega)) [-getElem?_pos, -getElem?_neg, thenQ_ret, scopeQ_ret, inBlockQ_ret, RQ, resL, resV, -notTuple])
   exact rst_one (f0.trans f1) t1 lN
  (refine aoo fun K hK => ?_; simp (disch := first | omega | (simp only [lnS]; try omega)) [-getElem?_pos, -getElem?_neg, h3]; refine hK _ _ ?_; clear hK K)
  refine aw_f (by (first | (simp; done) | (simp; omega))) (by kernel_rfl) ?_
  refine aw_seq ?_
  by_cases h4 : x.kind = 4
  ·rw [if_pos (.inr (.inr (.inl h4)))]
   have ht : ckT T ks x = ⟨3, ⟨#[]⟩, [ks.getD 0 []]⟩ := by unfold ckT; rw [if_neg h2, if_neg h3, if_pos h4]
   rw [ht]
   have hl0 : 0 < ks.length := by rw [h4] at hneed; exact hneed
   obtain ⟨l0, b0⟩ := g0 hl0
   obtain ⟨jk, hkvd, gk, hjk⟩ := own_at okv k32 hl0
   have hpre : kr [ks.getD 0 []] <+: kr ks := by
    refine ⟨kr (ks.drop 1), ?_⟩
    rw [← kr_app]
    congr 1
    cases ks with
    | nil => cases hl0
    | cons a l => rfl
   have hs1 : KsV B (.slice (some ⟨jk, 0, none⟩) 1 1) [ks.getD 0 []] := own_ksv (lo := 0) (.inr ⟨jk, kr ks, Nat.zero_le _, rfl, gk, hpre⟩) (fun k hk => by rw [List.mem_singleton.1 hk]; exact l0)
   have hsl : xslice Tryd.prog 34 kv none (some (.int .i64 1)) B = some (.slice (some ⟨jk, 0, none⟩) 1 1) := by
    have hu : und Tryd.prog 34 = .slice 41 := by kernel_rfl
    have hs : szt Tryd.prog 41 = 32 := by kernel_rfl
    rw [hkvd]
    unfold xslice
    simp only [hu, bnd, hs]
    rw [show asInt? (Value.int .i64 1) = some 1 from rfl]
    dsimp only
    rw [if_pos ⟨by omega, by omega, by omega, by omega⟩, if_neg (by omega), if_pos trivial]
    rfl
   generalize ks.getD 0 [] = Y at *
   have hh := rmakeT (nro := H0.length) (γ := γ) tB hnro hnB (x := ⟨3, ⟨#[]⟩, [Y]⟩) (wf_pub l0 b0) hs1 hT
   rw [h4]
   (refine aoo fun K hK => ?_; simp (disch := first | omega | (simp only [lnS]; try omega)) [-getElem?_pos, -getElem?_neg]; refine hK _ _ ?_; clear hK K)
   refine aw_t (by (first | (simp; done) | (simp; omega))) (by kernel_rfl) ?_
   refine aw_seq (aoo fun K hK => ?_)
   simp (disch := first | omega | (simp only [lnS]; try omega)) [-getElem?_pos, -getElem?_neg, a0, a9, -xslice, hsl, -notTuple, knt]
   refine ⟨by kernel_rfl, AC.mono hh ?_⟩
   rintro v1 G1 ⟨rfl, F1, f1, t1⟩
   unfold nmV
   have lN : (nmL (nameT ⟨3, ⟨#[]⟩, [Y]⟩ T)).length = 32 := rfl
   generalize nmL (nameT ⟨3, ⟨#[]⟩, [Y]⟩ T) = N at *
   have htN : (iv .u8 N).take 32 = iv .u8 N := List.take_of_length_le (by simp [lN])
   have hrow1 : setR (List.map (fun j => (iv .u8 (zl 32))[j % 32]?.getD undef) (List.range 32)) 0 (iv .u8 N) = iv .u8 N := setR_all _ _ (by simp [lN])
   try simp (disch := first | omega | (simp only [lnS]; try omega)) [-getElem?_pos, -getElem?_neg, lN, htN, hrow1, hpl, -notTuple]
   refine hK _ _ ?_; clear hK K
   (refine aw_ret ?_; simp (disch := first | omega | (simp only [lnS]; try omega)) [-getElem?_pos, -getElem?_neg, thenQ_ret, scopeQ_ret, inBlockQ_ret, RQ, resL, resV, -notTuple])
   exact rst_one (f0.trans f1) t1 lN
  (refine aoo fun K hK => ?_; simp (disch := first | omega | (simp only [lnS]; try omega)) [-getElem?_pos, -getElem?_neg, h4]; refine hK _ _ ?_; clear hK K)
  refine aw_f (by (first | (simp; done) | (simp; omega))) (by kernel_rfl) ?_
  refine aw_seq ?_
  by_cases h5 : x.kind = 5
  ·rw [if_neg (by simp [h2, h3, h4, h5]), if_pos h5]
   have ht : ckT T ks x = agreeT T (ks.getD 0 []) (ks.getD 1 []) := by unfold ckT; rw [if_neg h2, if_neg h3, if_neg h4, if_pos h5]
   rw [ht]
   have hl1 : 1 < ks.length := by rw [h5] at hneed; first | exact hneed | exact Nat.lt_of_succ_lt hneed
   obtain ⟨lX, bX⟩ := g0 (by omega)
   obtain ⟨lY, bY⟩ := g1 hl1
   have hX : ks[0]? = some (ks.getD 0 []) := by rw [List.getD_eq_getElem?_getD, List.getElem?_eq_getElem (by omega : 0 < ks.length)]; rfl
   have hY : ks[1]? = some (ks.getD 1 []) := by rw [List.getD_eq_getElem?_getD, List.getElem?_eq_getElem hl1]; rfl
   obtain ⟨jk, hkvd, gk, hjk⟩ := own_at okv k32 (by omega)
   have nk : jk ∉ F := hFk jk hjk
   have ax : xindexAddr Tryd.prog 34 kv (.int .i64 0) = some (.pointer (some ⟨jk, 0, none⟩)) := by rw [hkvd]; exact kr_addr (n := ks.length) (b := jk) (j := 0) (by omega)
   have ay : xindexAddr Tryd.prog 34 kv (.int .i64 1) = some (.pointer (some ⟨jk, 32, none⟩)) := by rw [hkvd]; exact kr_addr (n := ks.length) (b := jk) (j := 1) (by omega)
   generalize ks.getD 0 [] = X at *
   generalize ks.getD 1 [] = Y at *
   have lN : (agrK T X Y).length = 32 := by unfold agrK; split <;> rfl
   have hN : agrB Y = true → agrK T X Y = nmL (nameT (agreeT T X Y) T : Nat) ∧ agrT2 T X Y = addT (agreeT T X Y) T := fun e => by
    have : Y ≠ zl 32 := by simpa [agrB] using e
    unfold agrK agrT2
    rw [if_neg this, if_neg this]; exact ⟨rfl, rfl⟩
   have hN0 : agrB Y = false → Y = zl 32 ∧ agrT2 T X Y = T := fun e => by
    have : Y = zl 32 := by simpa [agrB] using e
    unfold agrT2
    rw [if_pos this]; exact ⟨this, rfl⟩
   have hN1 : agrB Y = true → Y ≠ zl 32 := fun e => by simpa [agrB] using e
   rw [h5]
   generalize hNd : agrK T X Y = N at *
   generalize hOk : agrB Y = ok at *
   generalize hTd : agrT2 T X Y = T1 at *
   have sN : setR (iv .u8 (zl 32)) 0 (iv .u8 N) = iv .u8 N := setR_all _ _ (by simp [lN])
   have tN : (iv .u8 N).take 32 = iv .u8 N := List.take_of_length_le (by simp [lN])
   have rN : setR (List.map (fun j => (iv .u8 (zl 32))[j % 32]?.getD undef) (List.range 32)) 0 (iv .u8 N) = iv .u8 N := setR_all _ _ (by simp [lN])
   (refine aoo fun K hK => ?_; simp (disch := first | omega | (simp only [lnS]; try omega)) [-getElem?_pos, -getElem?_neg]; refine hK _ _ ?_; clear hK K)
   refine aw_t (by (first | (simp; done) | (simp; omega))) (by kernel_rfl) ?_
   refine aw_seq ?_
   refine name_aw (fun β hβ => ?_)
   have e0 : β 0 = .pointer (some ⟨b, 0, none⟩) := by rw [hβ]; (first | (simp [a0]; done) | rfl)
   have e9 : β 9 = kv := by rw [hβ]; (first | (simp [a9]; done) | rfl)
   have e7 : β 7 = .pointer (some ⟨n, 0, none⟩) := by rw [hβ]; (first | (simp [a7]; done) | rfl)
   clear hβ
   refine aw_inv rkAP (JT rkAD (rkAV b jk kv X Y N ok) β (RPA B b F T T1 N)) (by kernel_rfl) (by kernel_rfl) (by kernel_rfl) ?_ ?_ ?_
   ·exact ⟨by simp; rfl, fun _ _ => rfl, fun i t' hi h => (by rw [gs_0] at h; cases h), F, Fr.refl _ _, (by rw [gs_0]; exact tB), fun h => (by rw [gs_0] at h; cases h)⟩
   ·intro i s α G k hJ hi0 hsi hd hcc hcont
    obtain ⟨Fc, jf, jt, ja⟩ := hJ.hp
    have j0 := (hJ.lo 0 (by decide)).trans e0
    have j9 := (hJ.lo 9 (by decide)).trans e9
    have gk := (jf.out _ (hget_lt gk) nk).trans gk
    have ldX := kr_load k32 hX gk
    have ldY := kr_load k32 hY gk
    have jl := jf.len
    have hi : i = 0 ∨ i = 1 ∨ i = 2 ∨ i = 3 ∨ i = 4 ∨ i = 5 ∨ i = 6 ∨ i = 7 ∨ i = 8 ∨ i = 9 ∨ i = 10 ∨ i = 11 ∨ i = 12 ∨ i = 13 := by have hi0 : i < 14 := hi0; omega
    rcases hi with rfl | rfl | rfl | rfl | rfl | rfl | rfl | rfl | rfl | rfl | rfl | rfl | rfl | rfl
    ·simp (disch := first | omega | (simp only [lnS]; try omega)) [-getElem?_pos, -getElem?_neg, -notTuple, knt, j0]
     exact hcont _ _ (hJ.put rkA_nd (t := 123) rfl rfl (hJ.hp.keep (by decide) (by decide)))
    ·simp (disch := first | omega | (simp only [lnS]; try omega)) [-getElem?_pos, -getElem?_neg, -notTuple, knt, j9]
     exact hcont _ _ (hJ.put rkA_nd (t := 124) rfl rfl (hJ.hp.keep (by decide) (by decide)))
    ·have f1 : α 124 = kv := hJ.val 1 124 rfl (hd 1 (by decide))
     simp (disch := first | omega | (simp only [lnS]; try omega)) [-getElem?_pos, -getElem?_neg, -notTuple, knt, -xindexAddr, ax, f1]
     exact hcont _ _ (hJ.put rkA_nd (t := 125) rfl rfl (hJ.hp.keep (by decide) (by decide)))
    ·have f2 : α 125 = .pointer (some ⟨jk, 0, none⟩) := hJ.val 2 125 rfl (hd 2 (by decide))
     simp (disch := first | omega | (simp only [lnS]; try omega)) [-getElem?_pos, -getElem?_neg, -notTuple, knt, -xload, ldX, f2]
     exact hcont _ _ (hJ.put rkA_nd (t := 126) rfl rfl (hJ.hp.keep (by decide) (by decide)))
    ·simp (disch := first | omega | (simp only [lnS]; try omega)) [-getElem?_pos, -getElem?_neg, -notTuple, knt, j9]
     exact hcont _ _ (hJ.put rkA_nd (t := 127) rfl rfl (hJ.hp.keep (by decide) (by decide)))
    ·have f4 : α 127 = kv := hJ.val 4 127 rfl (hd 4 (by decide))
     simp (disch := first | omega | (simp only [lnS]; try omega)) [-getElem?_pos, -getElem?_neg, -notTuple, knt, -xindexAddr, ay, f4]
     exact hcont _ _ (hJ.put rkA_nd (t := 128) rfl rfl (hJ.hp.keep (by decide) (by decide)))
    ·have f5 : α 128 = .pointer (some ⟨jk, 32, none⟩) := hJ.val 5 128 rfl (hd 5 (by decide))
     simp (disch := first | omega | (simp only [lnS]; try omega)) [-getElem?_pos, -getElem?_neg, -notTuple, knt, -xload, ldY, f5]
     exact hcont _ _ (hJ.put rkA_nd (t := 129) rfl rfl (hJ.hp.keep (by decide) (by decide)))
    ·have f0 : α 123 = .pointer (some ⟨b, 0, none⟩) := hJ.val 0 123 rfl (hd 0 (by decide))
     have f3 : α 126 = .agg (iv .u8 X).toArray := hJ.val 3 126 rfl (hd 3 (by decide))
     have f6 : α 129 = .agg (iv .u8 Y).toArray := hJ.val 6 129 rfl (hd 6 (by decide))
     simp (disch := first | omega | (simp only [lnS]; try omega)) [-getElem?_pos, -getElem?_neg, f0, f3, f6]
     have jt : RTbl G b Fc T := by rw [hsi] at jt; exact jt
     refine ⟨by kernel_rfl, AC.mono (ragreeT (nro := H0.length) (γ := γ) jt (jf.lo hnro hnB) (by omega) lX bX lY bY (by omega)) ?_⟩
     rintro v' G' ⟨hv, F1, f1, t1⟩
     rw [hNd, hOk] at hv
     rw [hTd] at t1
     subst hv
     exact hcont _ _ (hJ.put rkA_nd (t := 130) rfl rfl ⟨F1, jf.trans f1, by rw [gs_eq (by rw [hJ.sz]; decide)]; exact t1, fun a => by
      rw [gs_ne (by decide)] at a
      obtain ⟨r, w1, w2, w3, w4⟩ := ja a
      refine ⟨r, by (first | (simp [w1]; done) | rfl), w2, fun e => ?_, by rw [gs_ne (by decide), f1.out r (hget_lt w4) w3]; exact w4⟩
      rcases f1.new r e with e1 | e1
      ·exact w3 e1
      ·have := hget_lt w4; omega⟩)
    ·have f7 : α 130 = .tuple #[.agg (iv .u8 N).toArray, .bool ok] := hJ.val 7 130 rfl (hd 7 (by decide))
     simp (disch := first | omega | (simp only [lnS]; try omega)) [-getElem?_pos, -getElem?_neg, -notTuple, knt, f7]
     exact hcont _ _ (hJ.put rkA_nd (t := 122) rfl rfl (hJ.hp.keep (by decide) (by decide)))
    ·have f8 : α 122 = .tuple #[.agg (iv .u8 N).toArray, .bool ok] := hJ.val 8 122 rfl (hd 8 (by decide))
     simp (disch := first | omega | (simp only [lnS]; try omega)) [-getElem?_pos, -getElem?_neg, -notTuple, knt, f8]
     exact hcont _ _ (hJ.put rkA_nd (t := 131) rfl rfl (hJ.hp.keep (by decide) (by decide)))
    ·have f8 : α 122 = .tuple #[.agg (iv .u8 N).toArray, .bool ok] := hJ.val 8 122 rfl (hd 8 (by decide))
     simp (disch := first | omega | (simp only [lnS]; try omega)) [-getElem?_pos, -getElem?_neg, -notTuple, knt, f8]
     exact hcont _ _ (hJ.put rkA_nd (t := 132) rfl rfl (hJ.hp.keep (by decide) (by decide)))
    ·simp (disch := first | omega | (simp only [lnS]; try omega)) [-getElem?_pos, -getElem?_neg]
     exact hcont _ _ (hJ.put rkA_nd (t := 12) rfl trivial ⟨Fc, jf.push _, by rw [gs_ne (by decide)]; exact jt.push _, fun _ => ⟨G.length, by (first | (simp; done) | rfl), jl, fun e => by have := jt.bound _ e; omega, by rw [gs_ne (by decide), hcc 12 (by decide), hget_app0]; rfl⟩⟩)
    ·have f9 : α 131 = .agg (iv .u8 N).toArray := hJ.val 9 131 rfl (hd 9 (by decide))
     obtain ⟨r, w1, w2, w3, w4⟩ := ja (hd 11 (by decide))
     rw [hsi] at w4
     have w4 : hget G r = some ⟨iv .u8 (zl 32), 41, none⟩ := w4
     have wl := hget_lt w4
     have wn : H0.length ≤ r := by omega
     simp (disch := first | omega | (simp only [lnS]; try omega)) [-getElem?_pos, -getElem?_neg, w1, w4, wl, wn, f9, lN, sN]
     exact hcont _ _ (hJ.put0 rfl ⟨Fc, ⟨by simp; omega, fun j hj hn => (hget_set_ne (by omega)).trans (jf.out j hj hn), jf.new⟩, by rw [gs_ne (by decide)]; exact jt.low (fun j hj => hget_set_ne (fun e => w3 (e ▸ hj))) (by simp), fun _ => ⟨r, w1, w2, w3, by rw [gs_eq (by rw [hJ.sz]; decide)]; exact hget_set_eq wl⟩⟩)
    ·have f10 : α 132 = .bool ok := hJ.val 10 132 rfl (hd 10 (by decide))
     simp (disch := first | omega | (simp only [lnS]; try omega)) [-getElem?_pos, -getElem?_neg, -notTuple, knt, f10]
     exact hcont _ _ (hJ.put rkA_nd (t := 13) rfl rfl (hJ.hp.keep (by decide) (by decide)))
   rintro s α G hJ hall
   have hsz : s.size = 14 := hJ.sz
   have hg : ∀ i, i < 14 → s.getD i false = true := fun i hi => by
    rw [Array.getD_eq_getD_getElem?, Array.getElem?_eq_getElem (by omega)]
    exact Array.all_eq_true.1 hall i (by omega)
   obtain ⟨Fc, jf, jt, ja⟩ := hJ.hp
   rw [hg 7 (by omega)] at jt
   obtain ⟨r, w1, w2, w3, w4⟩ := ja (hg 11 (by omega))
   rw [hg 12 (by omega)] at w4
   have w4 : hget G r = some ⟨iv .u8 N, 41, none⟩ := w4
   have jt : RTbl G b Fc T1 := jt
   have a10 : α 13 = .bool ok := hJ.val 13 13 rfl (hg 13 (by omega))
   have wl := hget_lt w4
   clear hall hsz hg hJ
   refine aw_seq (aw_seq ?_)
   (refine aoo fun K hK => ?_; simp (disch := first | omega | (simp only [lnS]; try omega)) [-getElem?_pos, -getElem?_neg, a10]; refine hK _ _ ?_; clear hK K)
   cases ok with
   | true =>
    rw [if_neg (hN1 rfl)]
    obtain ⟨rfl, rfl⟩ := hN rfl
    refine aw_f (by (first | (simp; done) | (simp; omega))) (by kernel_rfl) ?_
    refine aw_skip (aw_seq ?_)
    (refine aoo fun K hK => ?_; simp (disch := first | omega | (simp only [lnS]; try omega)) [-getElem?_pos, -getElem?_neg, w1, w4, wl, lN, tN, rN, hpl]; refine hK _ _ ?_; clear hK K)
    (refine aw_ret ?_; simp (disch := first | omega | (simp only [lnS]; try omega)) [-getElem?_pos, -getElem?_neg, thenQ_ret, scopeQ_ret, inBlockQ_ret, RQ, resL, resV, -notTuple])
    exact rst_one (f0.trans jf) jt lN
   | false =>
    obtain ⟨hy, rfl⟩ := hN0 rfl
    rw [if_pos hy]
    refine aw_t (by (first | (simp; done) | (simp; omega))) (by kernel_rfl) ?_
    (refine aw_seq (aoo fun K hK => ?_); simp (disch := first | omega | (simp only [lnS]; try omega)) [-getElem?_pos, -getElem?_neg]; refine hK _ _ ?_; clear hK K)
    (refine aw_ret ?_; simp (disch := first | omega | (simp only [lnS]; try omega)) [-getElem?_pos, -getElem?_neg, thenQ_ret, scopeQ_ret, inBlockQ_ret, RQ, resL, resV])
    exact rst_nil (f0.trans jf) jt
  (refine aoo fun K hK => ?_; simp (disch := first | omega | (simp only [lnS]; try omega)) [-getElem?_pos, -getElem?_neg, h5]; refine hK _ _ ?_; clear hK K)
  refine aw_f (by (first | (simp; done) | (simp; omega))) (by kernel_rfl) ?_
  refine aw_seq ?_
  by_cases h6 : x.kind = 6
  ·rw [if_pos (.inr (.inr (.inr h6)))]
   have ht : ckT T ks x = ⟨6, x.text, ks.getD 0 [] :: ks.getD 1 [] :: ks.drop 2⟩ := by unfold ckT; rw [if_neg h2, if_neg h3, if_neg h4, if_neg h5]
   rw [ht]
   have hl1 : 1 < ks.length := by rw [h6] at hneed; first | exact hneed | exact Nat.lt_of_succ_lt hneed
   obtain ⟨lX, bX⟩ := g0 (by omega)
   obtain ⟨lY, bY⟩ := g1 hl1
   have hX : ks[0]? = some (ks.getD 0 []) := by rw [List.getD_eq_getElem?_getD, List.getElem?_eq_getElem (by omega : 0 < ks.length)]; rfl
   have hY : ks[1]? = some (ks.getD 1 []) := by rw [List.getD_eq_getElem?_getD, List.getElem?_eq_getElem hl1]; rfl
   obtain ⟨zv, z1, z2, z3, _, z5, _⟩ := suf_keys okv k32 hl1
   obtain ⟨jk, hkvd, gk, hjk⟩ := own_at okv k32 (by omega)
   have nk : jk ∉ F := hFk jk hjk
   have ax : xindexAddr Tryd.prog 34 kv (.int .i64 0) = some (.pointer (some ⟨jk, 0, none⟩)) := by rw [hkvd]; exact kr_addr (n := ks.length) (b := jk) (j := 0) (by omega)
   have ay : xindexAddr Tryd.prog 34 kv (.int .i64 1) = some (.pointer (some ⟨jk, 32, none⟩)) := by rw [hkvd]; exact kr_addr (n := ks.length) (b := jk) (j := 1) (by omega)
   generalize ks.getD 0 [] = X at *
   generalize ks.getD 1 [] = Y at *
   have hw : TermD.Wf ⟨6, x.text, X :: Y :: ks.drop 2⟩ := wf_seal (by omega) lX bX lY bY (fun z hz => hk32 z (List.mem_of_mem_drop hz)) (by rw [List.length_drop]; omega)
   have lN : (nmL (nameT ⟨6, x.text, X :: Y :: ks.drop 2⟩ T)).length = 32 := rfl
   have bN : By (nmL (nameT ⟨6, x.text, X :: Y :: ks.drop 2⟩ T)) := nmL_by _
   rw [h6]
   generalize htx : x.text = tx at *
   generalize hNd : nmL (nameT ⟨6, tx, X :: Y :: ks.drop 2⟩ T) = N at *
   generalize hTd : addT ⟨6, tx, X :: Y :: ks.drop 2⟩ T = T1 at *
   have tN : (iv .u8 N).take 32 = iv .u8 N := List.take_of_length_le (by simp [lN])
   have rN : setR (List.map (fun j => (iv .u8 (zl 32))[j % 32]?.getD undef) (List.range 32)) 0 (iv .u8 N) = iv .u8 N := setR_all _ _ (by simp [lN])
   (refine aoo fun K hK => ?_; simp (disch := first | omega | (simp only [lnS]; try omega)) [-getElem?_pos, -getElem?_neg]; refine hK _ _ ?_; clear hK K)
   refine aw_t (by (first | (simp; done) | (simp; omega))) (by kernel_rfl) ?_
   refine aw_seq ?_
   refine name_aw (fun β hβ => ?_)
   have e0 : β 0 = .pointer (some ⟨b, 0, none⟩) := by rw [hβ]; (first | (simp [a0]; done) | rfl)
   have e9 : β 9 = kv := by rw [hβ]; (first | (simp [a9]; done) | rfl)
   have e7 : β 7 = .pointer (some ⟨n, 0, none⟩) := by rw [hβ]; (first | (simp [a7]; done) | rfl)
   clear hβ
   refine aw_inv rkBP (JT rkBD (rkBV n b jk kv zv tx X Y N) β (RPB B b F T T1 N)) (by kernel_rfl) (by kernel_rfl) (by kernel_rfl) ?_ ?_ ?_
   ·exact ⟨by simp; rfl, fun _ _ => rfl, fun i t' hi h => (by rw [gs_0] at h; cases h), F, Fr.refl _ _, (by rw [gs_0]; exact tB), fun _ => Low.refl (Nat.le_refl _), fun h => (by rw [gs_0] at h; cases h)⟩
   ·intro i s α G k hJ hi0 hsi hd hcc hcont
    obtain ⟨Fc, jf, jt, jlw, ja⟩ := hJ.hp
    have j0 := (hJ.lo 0 (by decide)).trans e0
    have j9 := (hJ.lo 9 (by decide)).trans e9
    have j7 := (hJ.lo 7 (by decide)).trans e7
    have gC := (jf.out _ (hget_lt gC) nC).trans gC
    have gk := (jf.out _ (hget_lt gk) nk).trans gk
    have ldX := kr_load k32 hX gk
    have ldY := kr_load k32 hY gk
    have jl := jf.len
    have ldS := ld_tx hc hx gC
    rw [htx] at ldS
    have hi : i = 0 ∨ i = 1 ∨ i = 2 ∨ i = 3 ∨ i = 4 ∨ i = 5 ∨ i = 6 ∨ i = 7 ∨ i = 8 ∨ i = 9 ∨ i = 10 ∨ i = 11 ∨ i = 12 ∨ i = 13 ∨ i = 14 ∨ i = 15 := by have hi0 : i < 16 := hi0; omega
    rcases hi with rfl | rfl | rfl | rfl | rfl | rfl | rfl | rfl | rfl | rfl | rfl | rfl | rfl | rfl | rfl | rfl
    ·simp (disch := first | omega | (simp only [lnS]; try omega)) [-getElem?_pos, -getElem?_neg, -notTuple, knt, j0]
     exact hcont _ _ (hJ.put rkB_nd (t := 139) rfl rfl (hJ.hp.keep (by decide) (by decide)))
    ·simp (disch := first | omega | (simp only [lnS]; try omega)) [-getElem?_pos, -getElem?_neg, -notTuple, knt, j0]
     exact hcont _ _ (hJ.put rkB_nd (t := 140) rfl rfl (hJ.hp.keep (by decide) (by decide)))
    ·simp (disch := first | omega | (simp only [lnS]; try omega)) [-getElem?_pos, -getElem?_neg, -notTuple, knt, j9]
     exact hcont _ _ (hJ.put rkB_nd (t := 141) rfl rfl (hJ.hp.keep (by decide) (by decide)))
    ·have f2 : α 141 = kv := hJ.val 2 141 rfl (hd 2 (by decide))
     simp (disch := first | omega | (simp only [lnS]; try omega)) [-getElem?_pos, -getElem?_neg, -notTuple, knt, -xindexAddr, ax, f2]
     exact hcont _ _ (hJ.put rkB_nd (t := 142) rfl rfl (hJ.hp.keep (by decide) (by decide)))
    ·have f3 : α 142 = .pointer (some ⟨jk, 0, none⟩) := hJ.val 3 142 rfl (hd 3 (by decide))
     simp (disch := first | omega | (simp only [lnS]; try omega)) [-getElem?_pos, -getElem?_neg, -notTuple, knt, -xload, ldX, f3]
     exact hcont _ _ (hJ.put rkB_nd (t := 143) rfl rfl (hJ.hp.keep (by decide) (by decide)))
    ·simp (disch := first | omega | (simp only [lnS]; try omega)) [-getElem?_pos, -getElem?_neg, -notTuple, knt, j9]
     exact hcont _ _ (hJ.put rkB_nd (t := 144) rfl rfl (hJ.hp.keep (by decide) (by decide)))
    ·have f5 : α 144 = kv := hJ.val 5 144 rfl (hd 5 (by decide))
     simp (disch := first | omega | (simp only [lnS]; try omega)) [-getElem?_pos, -getElem?_neg, -notTuple, knt, -xindexAddr, ay, f5]
     exact hcont _ _ (hJ.put rkB_nd (t := 145) rfl rfl (hJ.hp.keep (by decide) (by decide)))
    ·have f6 : α 145 = .pointer (some ⟨jk, 32, none⟩) := hJ.val 6 145 rfl (hd 6 (by decide))
     simp (disch := first | omega | (simp only [lnS]; try omega)) [-getElem?_pos, -getElem?_neg, -notTuple, knt, -xload, ldY, f6]
     exact hcont _ _ (hJ.put rkB_nd (t := 146) rfl rfl (hJ.hp.keep (by decide) (by decide)))
    ·simp (disch := first | omega | (simp only [lnS]; try omega)) [-getElem?_pos, -getElem?_neg, -notTuple, knt, j7]
     exact hcont _ _ (hJ.put rkB_nd (t := 147) rfl rfl (hJ.hp.keep (by decide) (by decide)))
    ·have f8 : α 147 = .pointer (some ⟨n, 2, none⟩) := hJ.val 8 147 rfl (hd 8 (by decide))
     simp (disch := first | omega | (simp only [lnS]; try omega)) [-getElem?_pos, -getElem?_neg, -notTuple, knt, -xload, ldS, f8]
     exact hcont _ _ (hJ.put rkB_nd (t := 148) rfl rfl (hJ.hp.keep (by decide) (by decide)))
    ·simp (disch := first | omega | (simp only [lnS]; try omega)) [-getElem?_pos, -getElem?_neg, -notTuple, knt, j9]
     exact hcont _ _ (hJ.put rkB_nd (t := 149) rfl rfl (hJ.hp.keep (by decide) (by decide)))
    ·have f10 : α 149 = kv := hJ.val 10 149 rfl (hd 10 (by decide))
     simp (disch := first | omega | (simp only [lnS]; try omega)) [-getElem?_pos, -getElem?_neg, -notTuple, knt, -xslice, z1, z2, z3, f10]
     exact hcont _ _ (hJ.put rkB_nd (t := 150) rfl rfl (hJ.hp.keep (by decide) (by decide)))
    ·have f1 : α 140 = .pointer (some ⟨b, 0, none⟩) := hJ.val 1 140 rfl (hd 1 (by decide))
     have f4 : α 143 = .agg (iv .u8 X).toArray := hJ.val 4 143 rfl (hd 4 (by decide))
     have f7 : α 146 = .agg (iv .u8 Y).toArray := hJ.val 7 146 rfl (hd 7 (by decide))
     have f9 : α 148 = .string tx := hJ.val 9 148 rfl (hd 9 (by decide))
     have f11 : α 150 = zv := hJ.val 11 150 rfl (hd 11 (by decide))
     simp (disch := first | omega | (simp only [lnS]; try omega)) [-getElem?_pos, -getElem?_neg, f1, f4, f7, f9, f11]
     have jt : RTbl G b Fc T := by rw [hsi] at jt; exact jt
     have lwG := jlw hsi
     refine ⟨by kernel_rfl, AC.mono (rsealT (nro := H0.length) (γ := γ) jt (jf.lo hnro hnB) (by omega) lX lY hw (z5.keep (by omega) (fun j hj => lwG.1 j hj)) (by omega)) ?_⟩
     rintro v' G' ⟨hv, F1, f1, t1⟩
     rw [hNd] at hv
     rw [hTd] at t1
     subst hv
     exact hcont _ _ (hJ.put rkB_nd (t := 151) rfl rfl ⟨F1, jf.trans f1, by rw [gs_eq (by rw [hJ.sz]; decide)]; exact t1, fun a => (by rw [gs_eq (by rw [hJ.sz]; decide)] at a; cases a), fun a => (by rw [gs_ne (by decide)] at a; have := (ja a).1; rw [hcc 13 (by decide)] at this; cases this)⟩)
    ·have f0 : α 139 = .pointer (some ⟨b, 0, none⟩) := hJ.val 0 139 rfl (hd 0 (by decide))
     have f12 : α 151 = .string (strOfNums N) := hJ.val 12 151 rfl (hd 12 (by decide))
     simp (disch := first | omega | (simp only [lnS]; try omega)) [-getElem?_pos, -getElem?_neg, f0, f12]
     have d14 := hd 12 (by decide)
     have jt : RTbl G b Fc T1 := by rw [d14] at jt; exact jt
     refine ⟨by kernel_rfl, AC.mono (rmarkT (nro := H0.length) (γ := γ) (s := strOfNums N) jt (by omega) (by rw [sn_size, lN])) ?_⟩
     rintro v' G' ⟨hv, F1, f1, t1⟩
     rw [nums_of _ bN] at hv
     subst hv
     exact hcont _ _ (hJ.put rkB_nd (t := 152) rfl rfl ⟨F1, jf.trans f1, by rw [gs_ne (by decide), d14]; exact t1, fun a => (by rw [gs_ne (by decide), d14] at a; cases a), fun a => (by rw [gs_ne (by decide), hcc 14 (by decide)] at a; cases a)⟩)
    ·have f13 : α 152 = .agg (iv .u8 N).toArray := hJ.val 13 152 rfl (hd 13 (by decide))
     simp (disch := first | omega | (simp only [lnS]; try omega)) [-getElem?_pos, -getElem?_neg, f13, lN, tN, rN, hpl]
     exact hcont _ _ (hJ.put rkB_nd (t := 153) rfl trivial ⟨Fc, jf.push _, by rw [gs_ne (by decide)]; exact jt.push _, fun a => (by rw [gs_ne (by decide)] at a; exact (jlw a).trans (Low.push (by have := (jlw a).2; omega) _)), fun _ => ⟨by rw [gs_ne (by decide)]; exact hd 13 (by decide), G.length, jl, by (first | (simp; done) | rfl), fun a => (by rw [gs_ne (by decide), hcc 15 (by decide)] at a; cases a), fun e => by have := jt.bound _ e; omega, by rw [hget_app0]; rfl⟩⟩)
    ·obtain ⟨wv, r, w0, w1, w2, w3, w4⟩ := ja (hd 14 (by decide))
     simp (disch := first | omega | (simp only [lnS]; try omega)) [-getElem?_pos, -getElem?_neg, w1]
     exact hcont _ _ (hJ.put rkB_nd (t := 8) rfl trivial ⟨Fc, jf, by rw [gs_ne (by decide)]; exact jt, fun a => (by rw [gs_ne (by decide)] at a; exact jlw a), fun _ => ⟨by rw [gs_ne (by decide)]; exact wv, r, w0, by (first | (simp [w1]; done) | rfl), fun _ => by (first | (simp; done) | rfl), w3, w4⟩⟩)
   rintro s α G hJ hall
   have hsz : s.size = 16 := hJ.sz
   have hg : ∀ i, i < 16 → s.getD i false = true := fun i hi => by
    rw [Array.getD_eq_getD_getElem?, Array.getElem?_eq_getElem (by omega)]
    exact Array.all_eq_true.1 hall i (by omega)
   obtain ⟨Fc, jf, jt, _, ja⟩ := hJ.hp
   rw [hg 12 (by omega)] at jt
   have jt : RTbl G b Fc T1 := jt
   obtain ⟨_, r, w0, _, w2, w3, w4⟩ := ja (hg 14 (by omega))
   have a8 := w2 (hg 15 (by omega))
   clear hall hsz hg hJ
   (refine aw_ret ?_; simp (disch := first | omega | (simp only [lnS]; try omega)) [-getElem?_pos, -getElem?_neg, thenQ_ret, scopeQ_ret, inBlockQ_ret, RQ, resL, resV, a8, -notTuple])
   exact ⟨rfl, rfl, fun s e => (by cases e), ksv_cells (keys1 lN w4) (fun k hk => by rw [List.mem_singleton.1 hk]; exact lN), Fc, f0.trans jf, jt⟩
  (refine aoo fun K hK => ?_; simp (disch := first | omega | (simp only [lnS]; try omega)) [-getElem?_pos, -getElem?_neg, h6]; refine hK _ _ ?_; clear hK K)
  refine aw_f (by (first | (simp; done) | (simp; omega))) (by kernel_rfl) ?_
  refine aw_seq ?_
  rw [if_neg (by simp [h2, h3, h4, h6]), if_neg h5]
  by_cases h7 : x.kind = 7
  ·rw [if_pos h7]
   have hl2 : 2 < ks.length := by rw [h7] at hneed; exact hneed
   have hl1 : 1 < ks.length := by omega
   obtain ⟨lX, bX⟩ := g0 (by omega)
   obtain ⟨lY, bY⟩ := g1 hl1
   have hX : ks[0]? = some (ks.getD 0 []) := by rw [List.getD_eq_getElem?_getD, List.getElem?_eq_getElem (by omega : 0 < ks.length)]; rfl
   have hY : ks[1]? = some (ks.getD 1 []) := by rw [List.getD_eq_getElem?_getD, List.getElem?_eq_getElem hl1]; rfl
   obtain ⟨lZ, bZ⟩ := g2 hl2
   have hZ : ks[2]? = some (ks.getD 2 []) := by rw [List.getD_eq_getElem?_getD, List.getElem?_eq_getElem hl2]; rfl
   obtain ⟨jk, hkvd, gk, hjk⟩ := own_at okv k32 (by omega)
   have nk : jk ∉ F := hFk jk hjk
   have ax : xindexAddr Tryd.prog 34 kv (.int .i64 0) = some (.pointer (some ⟨jk, 0, none⟩)) := by rw [hkvd]; exact kr_addr (n := ks.length) (b := jk) (j := 0) (by omega)
   have ay : xindexAddr Tryd.prog 34 kv (.int .i64 1) = some (.pointer (some ⟨jk, 32, none⟩)) := by rw [hkvd]; exact kr_addr (n := ks.length) (b := jk) (j := 1) (by omega)
   have az : xindexAddr Tryd.prog 34 kv (.int .i64 2) = some (.pointer (some ⟨jk, 64, none⟩)) := by rw [hkvd]; exact kr_addr (n := ks.length) (b := jk) (j := 2) hl2
   generalize ks.getD 0 [] = X at *
   generalize ks.getD 1 [] = Y at *
   generalize ks.getD 2 [] = Z at *
   obtain ⟨u, nk, ok, ho2⟩ := opR_ex T X Y (strOfNums Z)
   have hnk : openK (openT T X Y (strOfNums Z)) = nk := by
    rcases ho2 with ⟨e, _, e2, _⟩ | ⟨e, _⟩
    ·rw [e, e2]; rfl
    ·rw [e]; rfl
   have ho := ho2
   rw [hnk, h7]
   (refine aoo fun K hK => ?_; simp (disch := first | omega | (simp only [lnS]; try omega)) [-getElem?_pos, -getElem?_neg]; refine hK _ _ ?_; clear hK K)
   refine aw_t (by (first | (simp; done) | (simp; omega))) (by kernel_rfl) ?_
   refine aw_seq ?_
   refine name_aw (fun β hβ => ?_)
   have e0 : β 0 = .pointer (some ⟨b, 0, none⟩) := by rw [hβ]; (first | (simp [a0]; done) | rfl)
   have e9 : β 9 = kv := by rw [hβ]; (first | (simp [a9]; done) | rfl)
   have e7 : β 7 = .pointer (some ⟨n, 0, none⟩) := by rw [hβ]; (first | (simp [a7]; done) | rfl)
   clear hβ
   have hND : rkCD.Nodup := by decide
   have hST := @rkC_st' B F b jk kv X Y Z u nk ok
   refine aw_inv rkCP (IJ rkCD (rkCV B F b jk kv X Y Z u nk ok) β B) (by kernel_rfl) (by kernel_rfl) (by kernel_rfl) (IJ.start rfl) ?_ ?_
   ·intro i s α G k hJ hi0 hsi hd hcc hcont
    have lwG : Low B.length B G := ⟨hJ.lw.2, hJ.lw.1⟩
    have j0 := (hJ.lo 0 (by decide)).trans e0
    have j9 := (hJ.lo 9 (by decide)).trans e9
    have gk := (lwG.1 _ (hget_lt gk)).trans gk
    have ldX := kr_load k32 hX gk
    have ldY := kr_load k32 hY gk
    obtain ⟨szl, szc⟩ := key_str k32 hZ gk
    have jl := lwG.2
    have hi : i = 0 ∨ i = 1 ∨ i = 2 ∨ i = 3 ∨ i = 4 ∨ i = 5 ∨ i = 6 ∨ i = 7 ∨ i = 8 ∨ i = 9 ∨ i = 10 ∨ i = 11 ∨ i = 12 ∨ i = 13 ∨ i = 14 ∨ i = 15 ∨ i = 16 ∨ i = 17 ∨ i = 18 := by have hi0 : i < 19 := hi0; omega
    rcases hi with rfl | rfl | rfl | rfl | rfl | rfl | rfl | rfl | rfl | rfl | rfl | rfl | rfl | rfl | rfl | rfl | rfl | rfl | rfl
    ·simp (disch := first | omega | (simp only [lnS]; try omega)) [-getElem?_pos, -getElem?_neg, -notTuple, knt, j0]
     exact hcont _ _ (hJ.put hND hST rfl (Nat.le_refl _) (fun _ _ => rfl) rfl)
    ·simp (disch := first | omega | (simp only [lnS]; try omega)) [-getElem?_pos, -getElem?_neg, -notTuple, knt, j9]
     exact hcont _ _ (hJ.put hND hST rfl (Nat.le_refl _) (fun _ _ => rfl) rfl)
    ·have f1 : α 158 = kv := hJ.val 1 158 rfl (hd 1 (by decide))
     simp (disch := first | omega | (simp only [lnS]; try omega)) [-getElem?_pos, -getElem?_neg, -notTuple, knt, -xindexAddr, ax, f1]
     exact hcont _ _ (hJ.put hND hST rfl (Nat.le_refl _) (fun _ _ => rfl) rfl)
    ·have f2 : α 159 = .pointer (some ⟨jk, 0, none⟩) := hJ.val 2 159 rfl (hd 2 (by decide))
     simp (disch := first | omega | (simp only [lnS]; try omega)) [-getElem?_pos, -getElem?_neg, -notTuple, knt, -xload, ldX, f2]
     exact hcont _ _ (hJ.put hND hST rfl (Nat.le_refl _) (fun _ _ => rfl) rfl)
    ·simp (disch := first | omega | (simp only [lnS]; try omega)) [-getElem?_pos, -getElem?_neg, -notTuple, knt, j9]
     exact hcont _ _ (hJ.put hND hST rfl (Nat.le_refl _) (fun _ _ => rfl) rfl)
    ·have f4 : α 161 = kv := hJ.val 4 161 rfl (hd 4 (by decide))
     simp (disch := first | omega | (simp only [lnS]; try omega)) [-getElem?_pos, -getElem?_neg, -notTuple, knt, -xindexAddr, ay, f4]
     exact hcont _ _ (hJ.put hND hST rfl (Nat.le_refl _) (fun _ _ => rfl) rfl)
    ·have f5 : α 162 = .pointer (some ⟨jk, 32, none⟩) := hJ.val 5 162 rfl (hd 5 (by decide))
     simp (disch := first | omega | (simp only [lnS]; try omega)) [-getElem?_pos, -getElem?_neg, -notTuple, knt, -xload, ldY, f5]
     exact hcont _ _ (hJ.put hND hST rfl (Nat.le_refl _) (fun _ _ => rfl) rfl)
    ·simp (disch := first | omega | (simp only [lnS]; try omega)) [-getElem?_pos, -getElem?_neg, -notTuple, knt, j9]
     exact hcont _ _ (hJ.put hND hST rfl (Nat.le_refl _) (fun _ _ => rfl) rfl)
    ·have f7 : α 164 = kv := hJ.val 7 164 rfl (hd 7 (by decide))
     simp (disch := first | omega | (simp only [lnS]; try omega)) [-getElem?_pos, -getElem?_neg, -notTuple, knt, -xindexAddr, az, f7]
     exact hcont _ _ (hJ.put hND hST rfl (Nat.le_refl _) (fun _ _ => rfl) rfl)
    ·have f8 : α 165 = .pointer (some ⟨jk, 64, none⟩) := hJ.val 8 165 rfl (hd 8 (by decide))
     simp (disch := first | omega | (simp only [lnS]; try omega)) [-getElem?_pos, -getElem?_neg, -notTuple, knt, -xslice, szl, f8]
     exact hcont _ _ (hJ.put hND hST rfl (Nat.le_refl _) (fun _ _ => rfl) rfl)
    ·have f9 : α 166 = .slice (some ⟨jk, 64, none⟩) 32 33 := hJ.val 9 166 rfl (hd 9 (by decide))
     simp (disch := first | omega | (simp only [lnS]; try omega)) [-getElem?_pos, -getElem?_neg, -notTuple, knt, -xconv, szc, f9]
     exact hcont _ _ (hJ.put hND hST rfl (Nat.le_refl _) (fun _ _ => rfl) rfl)
    ·have f0 : α 157 = .pointer (some ⟨b, 0, none⟩) := hJ.val 0 157 rfl (hd 0 (by decide))
     have f3 : α 160 = .agg (iv .u8 X).toArray := hJ.val 3 160 rfl (hd 3 (by decide))
     have f6 : α 163 = .agg (iv .u8 Y).toArray := hJ.val 6 163 rfl (hd 6 (by decide))
     have f10 : α 167 = .string (strOfNums Z) := hJ.val 10 167 rfl (hd 10 (by decide))
     simp (disch := first | omega | (simp only [lnS]; try omega)) [-getElem?_pos, -getElem?_neg, f0, f3, f6, f10]
     refine ⟨by kernel_rfl, AC.mono (ropenT (nro := H0.length) (γ := γ) (k := X) (y := Y) (s := strOfNums Z) (tB.low (fun j hj => lwG.1 j (tB.bound j hj)) lwG.2) (by omega) lX lY (by rw [sn_size, lZ]; omega) ho) ?_⟩
     rintro v' G' ⟨lwq, w, rfl, wx⟩
     exact hcont _ _ (hJ.put hND hST (t := 168) rfl lwq.2 lwq.1 ⟨w, rfl, wx.1, wx.2.1, wx.2.2.1, fun A hA => wx.2.2.2 A (fun j hj => (hA j hj).trans (lwG.1 j (tB.bound j hj)).symm)⟩)
    ·have f11 := hJ.val 11 168 rfl (hd 11 (by decide))
     obtain ⟨w, f, wo⟩ := f11
     have wn1 := wo.1
     simp (disch := first | omega | (simp only [lnS]; try omega)) [-getElem?_pos, -getElem?_neg, f, -notTuple, wn1]
     exact hcont _ _ (hJ.put hND hST (t := 156) rfl (Nat.le_refl _) (fun _ _ => rfl) ⟨w, rfl, wo⟩)
    ·have f12 := hJ.val 12 156 rfl (hd 12 (by decide))
     obtain ⟨w, f, wo⟩ := f12
     have wn1 := wo.1
     simp (disch := first | omega | (simp only [lnS]; try omega)) [-getElem?_pos, -getElem?_neg, f, -notTuple, wn1]
     exact hcont _ _ (hJ.put hND hST (t := 169) rfl (Nat.le_refl _) (fun _ _ => rfl) rfl)
    ·have f12 := hJ.val 12 156 rfl (hd 12 (by decide))
     obtain ⟨w, f, wo⟩ := f12
     have wn1 := wo.1
     simp (disch := first | omega | (simp only [lnS]; try omega)) [-getElem?_pos, -getElem?_neg, f, -notTuple, wn1]
     exact hcont _ _ (hJ.put hND hST (t := 170) rfl (Nat.le_refl _) (fun _ _ => rfl) wo)
    ·have f12 := hJ.val 12 156 rfl (hd 12 (by decide))
     obtain ⟨w, f, wo⟩ := f12
     have wn1 := wo.1
     simp (disch := first | omega | (simp only [lnS]; try omega)) [-getElem?_pos, -getElem?_neg, f, -notTuple, wn1]
     exact hcont _ _ (hJ.put hND hST (t := 171) rfl (Nat.le_refl _) (fun _ _ => rfl) rfl)
    ·have f13 : α 169 = .string u := hJ.val 13 169 rfl (hd 13 (by decide))
     simp (disch := first | omega | (simp only [lnS]; try omega)) [-getElem?_pos, -getElem?_neg, -notTuple, knt, f13]
     exact hcont _ _ (hJ.put hND hST rfl (Nat.le_refl _) (fun _ _ => rfl) rfl)
    ·have f14 := hJ.val 14 170 rfl (hd 14 (by decide))
     have wn1 := f14.1
     have wn2 := f14.2.1
     simp (disch := first | omega | (simp only [lnS]; try omega)) [-getElem?_pos, -getElem?_neg, -notTuple, wn1, wn2]
     exact hcont _ _ (hJ.put hND hST (t := 15) rfl (Nat.le_refl _) (fun _ _ => rfl) f14)
    ·have f15 : α 171 = .bool ok := hJ.val 15 171 rfl (hd 15 (by decide))
     simp (disch := first | omega | (simp only [lnS]; try omega)) [-getElem?_pos, -getElem?_neg, -notTuple, knt, f15]
     exact hcont _ _ (hJ.put hND hST rfl (Nat.le_refl _) (fun _ _ => rfl) rfl)
   rintro s α G hJ hall
   have hsz : s.size = 19 := hJ.sz
   have hg : ∀ i, i < 19 → s.getD i false = true := fun i hi => by
    rw [Array.getD_eq_getD_getElem?, Array.getElem?_eq_getElem (by omega)]
    exact Array.all_eq_true.1 hall i (by omega)
   have lw8 : Low B.length B G := ⟨hJ.lw.2, hJ.lw.1⟩
   have a15 : FrX B F (α 15) nk := hJ.val 17 15 rfl (hg 17 (by omega))
   obtain ⟨w1, hw1⟩ : ∃ w1, w1 = α 15 := ⟨_, rfl⟩
   rw [← hw1] at a15
   have wn1 := a15.1
   have wn2 := a15.2.1
   clear hall hsz hg hJ
   (refine aw_seq (aoo fun K hK => ?_); simp (disch := first | omega | (simp only [lnS]; try omega)) [-getElem?_pos, -getElem?_neg, ← hw1, -notTuple, wn1, wn2]; refine hK _ _ ?_; clear hK K)
   (refine aw_ret ?_; simp (disch := first | omega | (simp only [lnS]; try omega)) [-getElem?_pos, -getElem?_neg, thenQ_ret, scopeQ_ret, inBlockQ_ret, RQ, resL, resV, -notTuple, wn1, wn2])
   exact ⟨wn1, wn2, a15.2.2.1, a15.2.2.2 G (fun j hj => lw8.1 j (tB.bound j hj)), F, f0.trans (low_fr F lw8), tB.low (fun j hj => lw8.1 j (tB.bound j hj)) lw8.2⟩
  rw [if_neg h7]
  (refine aoo fun K hK => ?_; simp (disch := first | omega | (simp only [lnS]; try omega)) [-getElem?_pos, -getElem?_neg, h7]; refine hK _ _ ?_; clear hK K)
  refine aw_f (by (first | (simp; done) | (simp; omega))) (by kernel_rfl) ?_
  refine aw_seq ?_
  by_cases h8 : x.kind = 8
  ·rw [if_pos h8]
   have hmb := shaped_rc (γ := γ) (H := B) hx.raw.1 hx.raw.2
   have lR := hx.raw.1
   rw [h8]
   (refine aoo fun K hK => ?_; simp (disch := first | omega | (simp only [lnS]; try omega)) [-getElem?_pos, -getElem?_neg]; refine hK _ _ ?_; clear hK K)
   refine aw_t (by (first | (simp; done) | (simp; omega))) (by kernel_rfl) ?_
   refine aw_seq (aw_seq ?_)
   refine aoo fun K hK => ?_
   simp (disch := first | omega | (simp only [lnS]; try omega)) [-getElem?_pos, -getElem?_neg, a7, -xload, ld4, -notTuple]
   refine ⟨by kernel_rfl, ac_of_rc hmb (by simp [pv_iv, pv_int, pv_bool, pv_string, pv_tup2, pv_tup3, iv_plain, p2_int, p2_bool, p2_string]) ?_⟩
   try simp (disch := first | omega | (simp only [lnS]; try omega)) [-getElem?_pos, -getElem?_neg, -notTuple]
   refine hK _ _ ?_; clear hK K
   generalize x.raw = R at *
   have htR : (iv .u8 R).take 32 = iv .u8 R := List.take_of_length_le (by simp [lR])
   have hrow1 : setR (List.map (fun j => (iv .u8 (zl 32))[j % 32]?.getD undef) (List.range 32)) 0 (iv .u8 R) = iv .u8 R := setR_all _ _ (by simp [lR])
   by_cases hr : nmL (plN R) = R
   ·rw [if_pos hr, decide_eq_true hr]
    refine aw_t (by (first | (simp; done) | (simp; omega))) (by kernel_rfl) ?_
    (refine aw_seq (aoo fun K hK => ?_); simp (disch := first | omega | (simp only [lnS]; try omega)) [-getElem?_pos, -getElem?_neg]; refine hK _ _ ?_; clear hK K)
    (refine aw_ret ?_; simp (disch := first | omega | (simp only [lnS]; try omega)) [-getElem?_pos, -getElem?_neg, thenQ_ret, scopeQ_ret, inBlockQ_ret, RQ, resL, resV])
    exact rst_nil f0 tB
   ·rw [if_neg hr, decide_eq_false hr]
    refine aw_f (by (first | (simp; done) | (simp; omega))) (by kernel_rfl) ?_
    refine aw_skip (aw_seq ?_)
    (refine aoo fun K hK => ?_; simp (disch := first | omega | (simp only [lnS]; try omega)) [-getElem?_pos, -getElem?_neg, a7, -xload, ld4, lR, htR, hrow1, hpl, -notTuple]; refine hK _ _ ?_; clear hK K)
    (refine aw_ret ?_; simp (disch := first | omega | (simp only [lnS]; try omega)) [-getElem?_pos, -getElem?_neg, thenQ_ret, scopeQ_ret, inBlockQ_ret, RQ, resL, resV, -notTuple])
    exact rst_one f0 tB lR
  ·rw [if_neg h8]
   (refine aoo fun K hK => ?_; simp (disch := first | omega | (simp only [lnS]; try omega)) [-getElem?_pos, -getElem?_neg, h8]; refine hK _ _ ?_; clear hK K)
   refine aw_f (by (first | (simp; done) | (simp; omega))) (by kernel_rfl) ?_
   refine aw_skip (aw_seq ?_)
   (refine aoo fun K hK => ?_; simp (disch := first | omega | (simp only [lnS]; try omega)) [-getElem?_pos, -getElem?_neg]; refine hK _ _ ?_; clear hK K)
   (refine aw_ret ?_; simp (disch := first | omega | (simp only [lnS]; try omega)) [-getElem?_pos, -getElem?_neg, thenQ_ret, scopeQ_ret, inBlockQ_ret, RQ, resL, resV])
   exact rst_nil f0 tB
end
section
theorem KsP.less {H : AH} {F F' : List Nat} {v : Value} {ks : List (List Int)} (h : KsP H F v ks) (hF : ∀ j ∈ F', j ∈ F) : KsP H F' v ks := fun G hl hg => h G hl (fun j hj hn => hg j hj (fun e => hn (hF j e)))
theorem CkP.less {H : AH} {F F' : List Nat} {v : Value} {L : List CookD} (h : CkP H F v L) (hF : ∀ j ∈ F', j ∈ F) : CkP H F' v L := ⟨h.nt, h.cs, h.len, fun i x hi => by
 obtain ⟨p, C, kv, h1, h2, h3⟩ := h.at_ i x hi
 exact ⟨p, C, kv, h1, h2, fun G hl hg => h3 G hl (fun j hj hn => hg j hj (fun e => hn (hF j e)))⟩⟩
theorem stepR_more (T : List TermD) (seen made : List (List Int)) (c : CookD) : moreM T seen made c = ((stepR T seen made c).1, made ++ (stepR T seen made c).2) := by
 unfold moreM stepR
 split
 ·rfl
 ·simp
def RMaQ (H : AH) (b : Nat) (F : List Nat) (T' : List TermD) (made : List (List Int)) (v' : Value) (H' : AH) : Prop := ∃ F' Fo, Fr H H' F (F' ++ Fo) ∧ RTbl H' b F' T' ∧ OwnF H' v' 41 32 (kr made) Fo ∧ ∀ j ∈ Fo, j ∉ F'
theorem rmakeAll_ac {γ : Nat → Option Nat} {H0 H : AH} (lw0 : Low H0.length H0 H) {b : Nat} {F : List Nat} {T : List TermD} (h : RTbl H b F T) (hnro : ∀ j ∈ F, H0.length ≤ j) {sv lv : Value} {seen : List (List Int)} (hsv : KsP H F sv seen) (hs32 : ∀ k ∈ seen, k.length = 32 ∧ By k)
  {L : List CookD} (hlv : CkP H F lv L) (hL : ∀ x ∈ L, x.Ok) (hm : L.length ≤ 60) (hT : T.length ≤ 10) (hfew : ∀ y ∈ T, y.keys.length ≤ 1000) :
  AC Tryd.prog H0.length γ 11 #[.pointer (some ⟨b, 0, none⟩), sv, lv] H (RMaQ H b F (makeM seen L (T, [])).1 (makeM seen L (T, [])).2) := by
 have hpl : plain1 (.slice none 0 0) = true := rfl
 have hFl := h.bound
 have snt := hsv.nt
 have lnt := hlv.nt
 have lcs := hlv.cs
 have lln := hlv.len
 have mk0 : MkOk T [] 0 := ⟨fun k hk => (by cases hk), Nat.zero_le _, by omega, hfew⟩
 refine ac_of_aw Tryd.func11 rfl Tryd.ntmps11 Tryd.results11 (by simp) ?_
 (refine aw_seq (aoo fun K hK => ?_); simp (disch := first | omega | (simp only [lnS]; try omega)) [-getElem?_pos, -getElem?_neg]; refine hK _ _ ?_; clear hK K)
 (refine aw_seq (aoo fun K hK => ?_); simp (disch := first | omega | (simp only [lnS]; try omega)) [-getElem?_pos, -getElem?_neg]; refine hK _ _ ?_; clear hK K)
 refine aw_seq (aw_seq ?_)
 (refine aoo fun K hK => ?_; simp (disch := first | omega | (simp only [lnS]; try omega)) [-getElem?_pos, -getElem?_neg]; refine hK _ _ ?_; clear hK K)
 refine aw_block ?_
 refine aw_loop (fun q α G => ∃ (i : Nat) (F1 Fo : List Nat) (ov : Value), i + q = L.length ∧ α 0 = .pointer (some ⟨b, 0, none⟩) ∧ α 1 = sv ∧ α 2 = lv ∧ α 7 = ov ∧ α 8 = .int .i64 (i : Nat) ∧ Fr H G F (F1 ++ Fo) ∧ RTbl G b F1 (makeM seen (L.take i) (T, [])).1 ∧ OwnF G ov 41 32 (kr (makeM seen (L.take i) (T, [])).2) Fo ∧ (∀ j ∈ Fo, j ∉ F1) ∧ MkOk (makeM seen (L.take i) (T, [])).1 (makeM seen (L.take i) (T, [])).2 i) L.length ?_ ?_
 ·exact ⟨0, F, [], .slice none 0 0, by omega, by (first | (simp; done) | rfl), by (first | (simp; done) | rfl), by (first | (simp; done) | rfl), by (first | (simp; done) | rfl), by (first | (simp; done) | rfl), by rw [List.append_nil]; exact Fr.refl _ _, h, .inl ⟨rfl, rfl, rfl⟩, fun j hj => (by cases hj), mk0⟩
 rintro q α G ⟨i, F1, Fo, ov, hiq, e0, e1, e2, e7, e8, f1, t1, o1, d1, mk1⟩
 have ont := ownF_nt o1
 refine aw_seq (aw_seq ?_)
 by_cases hi : i < L.length
 ·have hi' : (i : Int) < L.length := by omega
  obtain ⟨x, hx⟩ : ∃ x, L[i]? = some x := ⟨_, List.getElem?_eq_getElem hi⟩
  have hxo := hL x (List.mem_of_getElem? hx)
  obtain ⟨p, C, kv, p1, p2, p3⟩ := (hlv.fr f1).at_ i x hx
  obtain ⟨p4, p5⟩ := p3 G (Nat.le_refl _) (fun _ _ _ => rfl)
  have cl := p5.len
  have htk := makeM_take (seen := seen) hx (T, [])
  rw [stepR_more] at htk
  have hmt := mk1.m
  have htt := mk1.t
  have mk2 := mk1.more t1.wf hxo hs32
  rw [stepR_more] at mk2
  have hlo := f1.lo hnro lw0.2
  have lw1 : Low H0.length H0 G := lowFr lw0 hnro f1
  have hst := rcook_ac (γ := γ) lw1 t1 (fun j hj => hlo j (by simp [hj])) ((hsv.fr f1).less (fun j hj => by simp [hj])) (fun k hk => (hs32 k hk).1) (ownF_ksp o1 (fun k hk => (mk1.k k hk).1) d1) mk1.k (by omega) p5 hxo.wf hxo.text (by have := hxo.keys; omega) (by omega)
  generalize makeM seen (L.take i) (T, []) = M at *
  obtain ⟨T1, made⟩ := M
  simp only at t1 o1 mk1 hmt htt hst mk2 htk
  generalize hR : stepR T1 seen made x = R at *
  obtain ⟨T2, new⟩ := R
  simp only at hst mk2 htk
  (refine aoo fun K hK => ?_; simp (disch := first | omega | (simp only [lnS]; try omega)) [-getElem?_pos, -getElem?_neg, e2, e8, -notTuple, lnt, lcs, -xlen, lln, hi']; refine hK _ _ ?_; clear hK K)
  refine aw_t (by (first | (simp; done) | (simp; omega))) (by kernel_rfl) ?_
  refine aw_skip (aw_seq ?_)
  refine aw_block ?_
  refine aw_seq (aoo fun K hK => ?_)
  simp (disch := first | omega | (simp only [lnS]; try omega)) [-getElem?_pos, -getElem?_neg, e0, e1, e2, e7, e8, -xload, p4, -xindexAddr, p2, p1, -notTuple, lnt, snt.1, ont.1]
  refine ⟨by kernel_rfl, AC.mono hst ?_⟩
  rintro wv G2 ⟨w1, w2, w3, w4, F2, f2, t2⟩
  try simp (disch := first | omega | (simp only [lnS]; try omega)) [-getElem?_pos, -getElem?_neg, -notTuple, w1, w2]
  refine hK _ _ ?_; clear hK K
  have hoF : ∀ j ∈ Fo, j < G.length := o1.lt
  have o2 : OwnF G2 ov 41 32 (kr made) Fo := o1.low (fun j hj => f2.out j (hoF j hj) (d1 j hj))
  have l1 := kr_len (l := made) (fun k hk => (mk1.k k hk).1)
  have l2 : (kr new).length = new.length * 32 := kr_len (fun k hk => (mk2.k k (List.mem_append.2 (.inr hk))).1)
  have hnm := mk2.m
  rw [List.length_append] at hnm
  obtain ⟨v1, G3, F3, hap, o3, hl3, hk3, hF3⟩ := ownF_appQ (P := Tryd.prog) (nro := H0.length) (t := 34) (e := 41) (H := G2) (v := ov) (x := wv) (sz := 32) (cells := kr made) (news := kr new) (F := Fo) (by kernel_rfl) (by kernel_rfl) (by omega) (by kernel_rfl) o2 (fun j hj => hlo j (by simp [hj])) w3 w4 (by omega) (by rw [l1, l2, show byt Tryd.prog 41 = 32 by kernel_rfl]; omega) (by rw [l1, l2]; simp only [maxLen]; omega)
  have n3 := ownF_nt o3
  (refine aoo fun K hK => ?_; simp (disch := first | omega | (simp only [lnS]; try omega)) [-getElem?_pos, -getElem?_neg, e7, -notTuple, ont.1, w1, n3.1, n3.2, -xappend, hap]; refine hK _ _ ?_; clear hK K)
  (refine aoo fun K hK => ?_; simp (disch := first | omega | (simp only [lnS]; try omega)) [-getElem?_pos, -getElem?_neg, e8]; refine hK _ _ ?_; clear hK K)
  have d2 : ∀ j ∈ Fo, j ∉ F2 := fun j hj e => by
   rcases f2.new j e with e2 | e2
   ·exact d1 j hj e2
   ·have := hoF j hj; omega
  refine ⟨q - 1, by omega, i + 1, F2, F3, v1, by omega, by (first | (simp [e0]; done) | rfl), by (first | (simp [e1]; done) | rfl), by (first | (simp [e2]; done) | rfl), by (first | (simp; done) | rfl), by (first | (simp; done) | rfl), ⟨by have := f1.len; have := f2.len; omega, fun j hj hn => ?_, fun j hj => ?_⟩, ?_, ?_, fun j hj e => ?_, ?_⟩
  ·have hj5 : j ∉ F1 ++ Fo := fun e => by
    rcases f1.new j e with e2 | e2
    ·exact hn e2
    ·omega
   have a1 : j ∉ F1 := fun e => hj5 (by simp [e])
   have a2 : j ∉ Fo := fun e => hj5 (by simp [e])
   rw [hk3 j (by have := f1.len; have := f2.len; omega) a2, f2.out j (by have := f1.len; omega) a1]
   exact f1.out j hj hn
  ·rcases List.mem_append.1 hj with e | e
   ·rcases f2.new j e with e2 | e2
    ·exact f1.new j (by simp [e2])
    ·have := f1.len; exact .inr (by omega)
   ·have := hF3 j e
    have := f1.len; have := f2.len
    exact .inr (by omega)
  ·rw [htk]
   exact t2.low (fun j hj => hk3 j (t2.bound j hj) (fun e => d2 j e hj)) hl3
  ·rw [htk]
   show OwnF G3 v1 _ 32 (kr (made ++ new)) F3
   rw [kr_app]
   exact o3
  ·have := hF3 j hj
   have := t2.bound j e
   omega
  ·rw [htk]
   exact mk2
 ·obtain rfl : i = L.length := by omega
  rw [List.take_of_length_le (Nat.le_refl _)] at t1 o1 mk1
  (refine aoo fun K hK => ?_; simp (disch := first | omega | (simp only [lnS]; try omega)) [-getElem?_pos, -getElem?_neg, e2, e8, -notTuple, lnt, lcs, -xlen, lln]; refine hK _ _ ?_; clear hK K)
  refine aw_f (by (first | (simp; done) | (simp; omega))) (by kernel_rfl) ?_
  refine aw_exit (aw_seq ?_)
  (refine aoo fun K hK => ?_; simp (disch := first | omega | (simp only [lnS]; try omega)) [-getElem?_pos, -getElem?_neg, e7, -notTuple, ont.1, ont.2]; refine hK _ _ ?_; clear hK K)
  have fin : RMaQ H b F (makeM seen L (T, [])).1 (makeM seen L (T, [])).2 ov G := ⟨F1, Fo, f1, t1, o1, d1⟩
  (refine aw_ret ?_; simp (disch := first | omega | (simp only [lnS]; try omega)) [-getElem?_pos, -getElem?_neg, thenQ_ret, scopeQ_ret, inBlockQ_ret, RQ, resL, resV, -notTuple, ont.1, ont.2])
  exact fin
theorem findT_up {T U : List TermD} (h : ∃ r, U = T ++ r) {k : List Int} (hk : ∀ p, pk k = some p → p < T.length) : findT U k = findT T k := by
 obtain ⟨r, rfl⟩ := h
 unfold findT
 by_cases e : nmL (plN k) = k
 ·have hp : pk k = some (plN k).toNat := by unfold pk; rw [if_pos e]
  have hl := hk _ hp
  have h0 : 0 ≤ plN k := by rw [← e]; exact pl_nm0 _
  rw [decide_eq_true e, Bool.true_and, Bool.true_and]
  rw [if_pos (decide_eq_true (by rw [List.length_append]; omega)), if_pos (decide_eq_true (by omega)), List.getElem?_append_left hl]
 ·rw [decide_eq_false e, Bool.false_and, Bool.false_and]
  rfl
theorem cook_again {T U : List TermD} {seen ks : List (List Int)} {c : CookD} (hT : FT T) (hm : T.length < 4294967294) (hc : c.Ok) (hks : ∀ k ∈ ks, KO T.length k) (hk32 : ∀ k ∈ ks, k.length = 32 ∧ By k) (hkl : ks.length ≤ 998) (hneed : needN c.kind ≤ ks.length) (hseen : ∀ k ∈ seen, KO T.length k)
  (hU : ∀ x ∈ U, x.Wf) (hn : U.Nodup) (hu : ∃ r, U = (cookM T seen ks c).1 ++ r) : cookM U seen ks c = (U, (cookM T seen ks c).2) := by
 obtain ⟨s, _⟩ := cook_step (seen := seen) (ks := ks) (c := c) hT hm hc hks hk32 hkl hneed hseen
 have hTU : ∃ r, U = T ++ r := by
  obtain ⟨r, e⟩ := s.up
  obtain ⟨r2, e2⟩ := hu
  exact ⟨r ++ r2, by rw [e2, e, List.append_assoc]⟩
 have g0 : 0 < ks.length → ks.getD 0 [] ∈ ks := fun h => by
  rw [List.getD_eq_getElem?_getD, List.getElem?_eq_getElem h]; exact List.getElem_mem _
 have g1 : 1 < ks.length → ks.getD 1 [] ∈ ks := fun h => by
  rw [List.getD_eq_getElem?_getD, List.getElem?_eq_getElem h]; exact List.getElem_mem _
 have g2 : 2 < ks.length → ks.getD 2 [] ∈ ks := fun h => by
  rw [List.getD_eq_getElem?_getD, List.getElem?_eq_getElem h]; exact List.getElem_mem _
 have again : ∀ x : TermD, x.Wf → (∃ r, U = addT x T ++ r) → addT x U = U ∧ nameT x U = nameT x T := fun x hx hr => by
  obtain ⟨h1, _⟩ := at_name hx hT.wf
  exact add_old hx hU hn (preT_get hr h1)
 have put : ∀ x : TermD, (cookM T seen ks c) = (addT x T, [nmL (nameT x T : Nat)]) → (cookM U seen ks c) = (addT x U, [nmL (nameT x U : Nat)]) → x.Wf → cookM U seen ks c = (U, (cookM T seen ks c).2) := fun x e1 e2 hx => by
  rw [e1] at hu
  obtain ⟨a1, a2⟩ := again x hx hu
  rw [e2, e1, a1, a2]
 have htx := hc.text
 by_cases h1 : c.kind = 1
 ·unfold cookM
  rw [if_pos h1, if_pos h1]
 by_cases h2 : c.kind = 2
 ·have e : ∀ X : List TermD, cookM X seen ks c = (addT (dT c) X, [nmL (nameT (dT c) X : Nat)]) := fun X => by
   unfold cookM ckT
   rw [if_neg h1, if_pos (.inl h2), if_pos h2]
  exact put _ (e T) (e U) (dT_xo (T := T) hc).wf
 by_cases h3 : c.kind = 3
 ·have e : ∀ X : List TermD, cookM X seen ks c = (addT ⟨2, c.text, ks⟩ X, [nmL (nameT ⟨2, c.text, ks⟩ X : Nat)]) := fun X => by
   unfold cookM ckT
   rw [if_neg h1, if_pos (.inr (.inl h3)), if_neg h2, if_pos h3]
  exact put _ (e T) (e U) ⟨by show 2 ≤ 6; omega, by show c.text.size ≤ _; omega, fun k hk => (hk32 k hk).1, fun k hk => (hk32 k hk).2, by show ks.length ≤ _; omega, fun e => (by cases e), fun e => (by cases e), fun e => (by cases e)⟩
 by_cases h4 : c.kind = 4
 ·have hl : 0 < ks.length := by rw [h4] at hneed; exact hneed
  have m0 := g0 hl
  have e : ∀ X : List TermD, cookM X seen ks c = (addT ⟨3, ⟨#[]⟩, [ks.getD 0 []]⟩ X, [nmL (nameT ⟨3, ⟨#[]⟩, [ks.getD 0 []]⟩ X : Nat)]) := fun X => by
   unfold cookM ckT
   rw [if_neg h1, if_pos (.inr (.inr (.inl h4))), if_neg h2, if_neg h3, if_pos h4]
  exact put _ (e T) (e U) (wf_pub (hk32 _ m0).1 (hk32 _ m0).2)
 by_cases h6 : c.kind = 6
 ·have hl : 1 < ks.length := by rw [h6] at hneed; exact hneed
  have m0 := g0 (by omega)
  have m1 := g1 hl
  have e : ∀ X : List TermD, cookM X seen ks c = (addT ⟨6, c.text, ks.getD 0 [] :: ks.getD 1 [] :: ks.drop 2⟩ X, [nmL (nameT ⟨6, c.text, ks.getD 0 [] :: ks.getD 1 [] :: ks.drop 2⟩ X : Nat)]) := fun X => by
   unfold cookM ckT
   rw [if_neg h1, if_pos (.inr (.inr (.inr h6))), if_neg h2, if_neg h3, if_neg h4, if_neg (by omega)]
  exact put _ (e T) (e U) (wf_seal (by omega) (hk32 _ m0).1 (hk32 _ m0).2 (hk32 _ m1).1 (hk32 _ m1).2 (fun z hz => hk32 z (List.mem_of_mem_drop hz)) (by rw [List.length_drop]; omega))
 by_cases h5 : c.kind = 5
 ·have hl : 1 < ks.length := by rw [h5] at hneed; exact hneed
  have m0 := g0 (by omega)
  have m1 := g1 hl
  by_cases hz : ks.getD 1 [] = zl 32
  ·unfold cookM
   rw [if_neg h1, if_neg (by simp [h2, h3, h4, h6]), if_pos h5, if_pos hz, if_neg h1, if_neg (by simp [h2, h3, h4, h6]), if_pos h5, if_pos hz]
  ·have ea : agreeT U (ks.getD 0 []) (ks.getD 1 []) = agreeT T (ks.getD 0 []) (ks.getD 1 []) := by
    unfold agreeT
    rw [findT_up hTU (hks _ m1).s]
   have e : ∀ X : List TermD, agreeT X (ks.getD 0 []) (ks.getD 1 []) = agreeT T (ks.getD 0 []) (ks.getD 1 []) → cookM X seen ks c = (addT (agreeT T (ks.getD 0 []) (ks.getD 1 [])) X, [nmL (nameT (agreeT T (ks.getD 0 []) (ks.getD 1 [])) X : Nat)]) := fun X hX => by
    unfold cookM ckT
    rw [if_neg h1, if_neg (by simp [h2, h3, h4, h6]), if_pos h5, if_neg hz, if_neg h2, if_neg h3, if_neg h4, if_pos h5, hX]
   refine put _ (e T rfl) (e U ea) ?_
   rcases agree_cases T (ks.getD 0 []) (ks.getD 1 []) with ⟨y, hf, y3, hy⟩ | e
   ·obtain ⟨q, q1, q2⟩ := findT_pk hf
    have ym := List.mem_of_getElem? q2
    have yo := one_key (hT.wf y ym) y3 (hT.pub y ym y3)
    have yw := hT.wf y ym
    rw [yo] at yw
    have z32 := yw.k32 (k0 y) (by simp)
    have zb := yw.by_ (k0 y) (by simp)
    rcases hy with e | e
    ·rw [e]; exact wf_two (.inl rfl) z32 zb (hk32 _ m0).1 (hk32 _ m0).2
    ·rw [e]; exact wf_two (.inl rfl) (hk32 _ m0).1 (hk32 _ m0).2 z32 zb
   ·rw [e]
    exact wf_two (.inr rfl) (hk32 _ m0).1 (hk32 _ m0).2 (hk32 _ m1).1 (hk32 _ m1).2
 have hno : ¬ (c.kind = 2 ∨ c.kind = 3 ∨ c.kind = 4 ∨ c.kind = 6) := by simp [h2, h3, h4, h6]
 by_cases h7 : c.kind = 7
 ·have hl : 2 < ks.length := by rw [h7] at hneed; exact hneed
  have m2 := g2 hl
  have eo : openT U (ks.getD 0 []) (ks.getD 1 []) (strOfNums (ks.getD 2 [])) = openT T (ks.getD 0 []) (ks.getD 1 []) (strOfNums (ks.getD 2 [])) := by
   unfold openT
   rw [nums_of _ (hk32 _ m2).2, findT_up hTU (hks _ m2).s]
  unfold cookM
  rw [if_neg h1, if_neg hno, if_neg h5, if_pos h7, eo, if_neg h1, if_neg hno, if_neg h5, if_pos h7]
 unfold cookM
 rw [if_neg h1, if_neg hno, if_neg h5, if_neg h7, if_neg h1, if_neg hno, if_neg h5, if_neg h7]
 by_cases h8 : c.kind = 8
 ·rw [if_pos h8, if_pos h8]
 ·rw [if_neg h8, if_neg h8]
theorem more_again {done : List CookD} {T : List TermD} {made : List (List Int)} {n : Nat} (h : MS done T made) (hn : n ≤ 60) (ho : MkOk T made n) {x : CookD} (hx : x.Ok) :
  (∃ r, (moreM T sSeen made x).1 = T ++ r) ∧ ∀ U : List TermD, (∀ y ∈ U, y.Wf) → U.Nodup → (∃ r, U = (moreM T sSeen made x).1 ++ r) → moreM U sSeen made x = (U, (moreM T sSeen made x).2) := by
 have ht := ho.t
 unfold moreM
 by_cases hgo : inR made.length x.keys = true ∧ needN x.kind ≤ x.keys.length
 ·rw [if_pos hgo]
  have a1 : ∀ k ∈ pickL made x.keys, KO T.length k := fun k hk => h.k k (pickL_mem hgo.1 k hk)
  have a2 : ∀ k ∈ pickL made x.keys, k.length = 32 ∧ By k := fun k hk => ho.k k (pickL_mem hgo.1 k hk)
  have a3 : (pickL made x.keys).length ≤ 998 := by rw [pickL_len]; exact hx.keys
  have a4 : needN x.kind ≤ (pickL made x.keys).length := by rw [pickL_len]; exact hgo.2
  have a5 := sSeen_ko h.t.len (by omega)
  obtain ⟨s, _⟩ := cook_step (ks := pickL made x.keys) (c := x) (seen := sSeen) h.t (by omega) hx a1 a2 a3 a4 a5
  refine ⟨s.up, fun U hU hn hu => ?_⟩
  rw [if_pos hgo, cook_again h.t (by omega) hx a1 a2 a3 a4 a5 hU hn hu]
 ·rw [if_neg hgo]
  exact ⟨⟨[], by simp⟩, fun U _ _ _ => by rw [if_neg hgo]⟩
theorem make_again : ∀ (l done : List CookD) (T : List TermD) (made : List (List Int)) (n : Nat), MS done T made → MkOk T made n → n + l.length ≤ 60 → (∀ x ∈ l, x.Ok) →
  (∃ r, (makeM sSeen l (T, made)).1 = T ++ r) ∧ ∀ U : List TermD, (∀ y ∈ U, y.Wf) → U.Nodup → (∃ r, U = (makeM sSeen l (T, made)).1 ++ r) → ∀ i, makeM sSeen (l.take i) (U, made) = (U, (makeM sSeen (l.take i) (T, made)).2)
 | [], done, T, made, n, h, _, _, _ => ⟨⟨[], by simp [makeM]⟩, fun U _ _ _ i => by cases i <;> rfl⟩
 | x :: l, done, T, made, n, h, ho, hn, hl => by
  have hx := hl x (by simp)
  simp only [List.length_cons] at hn
  have h1 := h.more (by omega) ho hx
  have h2 := ho.more h.t.wf hx sSeen_k
  obtain ⟨⟨r1, e1⟩, m⟩ := more_again h (by omega) ho hx
  obtain ⟨⟨r2, e2⟩, g⟩ := make_again l (done ++ [x]) _ _ (n + 1) h1 h2 (by omega) (fun y hy => hl y (by simp [hy]))
  have e3 : makeM sSeen (x :: l) (T, made) = makeM sSeen l ((moreM T sSeen made x).1, (moreM T sSeen made x).2) := rfl
  refine ⟨⟨r1 ++ r2, by rw [e3, e2, e1, List.append_assoc]⟩, fun U hU hnd hu i => ?_⟩
  obtain ⟨r3, e4⟩ := hu
  rw [e3] at e4
  cases i with
  | zero => rfl
  | succ i =>
   have g1 := m U hU hnd ⟨r2 ++ r3, by rw [e4, e2, List.append_assoc]⟩
   show makeM sSeen (l.take i) (moreM U sSeen made x) = _
   rw [g1, g U hU hnd ⟨r3, e4⟩ i]
   rfl
end
section
theorem rtb_len {H : AH} {b : Nat} {F : List Nat} {T : List TermD} (h : RTbl H b F T) : ∃ tv sv, hget H b = some ⟨[tv, sv], 33, none⟩ ∧ b ∈ F ∧ notTuple tv = true ∧ tv.cells = #[tv] ∧ xlen Tryd.prog 30 tv = some (.int .i64 (T.length : Nat)) := by
 obtain ⟨tv, sv, Ft, Fs, Fk, L, rfl, h, rfl⟩ := h
 have hs := h.slen
 have ht := ownF_nt h.rows
 refine ⟨tv, sv, h.hb, by simp, ht.1, ht.2, ?_⟩
 rw [List.length_map]
 exact hs.2
theorem mk_go : ∀ (l done : List CookD) (T : List TermD) (made : List (List Int)) (n : Nat), MS done T made → MkOk T made n → n + l.length ≤ 60 → (∀ x ∈ l, x.Ok) → MkOk (makeM sSeen l (T, made)).1 (makeM sSeen l (T, made)).2 (n + l.length)
 | [], done, T, made, n, h, ho, _, _ => ho
 | x :: l, done, T, made, n, h, ho, hn, hl => by
  have hx := hl x (by simp)
  simp only [List.length_cons] at hn
  have h1 := h.more (by omega) ho hx
  have h2 := ho.more h.t.wf hx sSeen_k
  have := mk_go l (done ++ [x]) _ _ (n + 1) h1 h2 (by omega) (fun y hy => hl y (by simp [hy]))
  rw [show n + (x :: l).length = n + 1 + l.length by simp only [List.length_cons]; omega]
  exact this
theorem mk_take {L : List CookD} (hL : ∀ x ∈ L, x.Ok) (hm : L.length ≤ 60) {T : List TermD} {made : List (List Int)} (mo : MkOk T made L.length) {i : Nat} (hi : i ≤ 60) : MkOk T (makeM sSeen (L.take i) (sT5, [])).2 70 := by
 have h := mk_go (L.take i) [] sT5 [] 0 ms0 ⟨fun k hk => (by cases hk), Nat.zero_le _, by decide, sT5_few⟩ (by rw [List.length_take]; omega) (fun x hx => hL x (List.mem_of_mem_take hx))
 have hl : (L.take i).length ≤ 60 := by rw [List.length_take]; omega
 refine ⟨h.k, ?_, ?_, mo.few⟩
 ·have := h.m
  rw [Nat.zero_add] at this
  omega
 ·have := mo.t
  omega
theorem makes_law {γ : Nat → Option Nat} {H : AH} (hpw : Pw γ H) {va : Value} {L : List CookD} (hv : CkV H va L) (hL : ∀ x ∈ L, x.Wf) (hm : L.length ≤ maxLen) : AC Tryd.prog H.length γ 3 #[va] H (fun v' _ => v' = .bool true) := by
 have hal := fun (G : AH) (hP : Pw γ G) => alive_rc (γ := γ) (H := G) hP
 obtain ⟨vnt, vcs, vln, _⟩ := hv.acc hL
 have hgr := great_rc (γ := γ) hv hL hm
 have hpl : plain1 (.slice none 0 0) = true := rfl
 have hpp : plain1 (.pointer none) = true := rfl
 refine ac_of_aw Tryd.func3 rfl Tryd.ntmps3 Tryd.results3 (by simp) ?_
 (refine aw_seq (aoo fun K hK => ?_); simp (disch := first | omega | (simp only [lnS]; try omega)) [-getElem?_pos, -getElem?_neg]; refine hK _ _ ?_; clear hK K)
 refine aw_seq (aw_seq ?_)
 refine aoo fun K hK => ?_
 simp (disch := first | omega | (simp only [lnS]; try omega)) [-getElem?_pos, -getElem?_neg]
 refine ⟨by kernel_rfl, ac_of_rc (hal _ hpw) (by simp [pv_iv, pv_int, pv_bool, pv_string, pv_tup2, pv_tup3, iv_plain, p2_int, p2_bool, p2_string]) ?_⟩
 try simp (disch := first | omega | (simp only [lnS]; try omega)) [-getElem?_pos, -getElem?_neg]
 refine hK _ _ ?_; clear hK K
 refine aw_f (by (first | (simp; done) | (simp; omega))) (by kernel_rfl) ?_
 refine aw_skip ?_
 refine aw_seq (aw_seq ?_)
 refine aoo fun K hK => ?_
 simp (disch := first | omega | (simp only [lnS]; try omega)) [-getElem?_pos, -getElem?_neg, -notTuple, vnt, vcs]
 refine ⟨by kernel_rfl, ac_of_rc hgr (by simp [pv_iv, pv_int, pv_bool, pv_string, pv_tup2, pv_tup3, iv_plain, p2_int, p2_bool, p2_string]) ?_⟩
 try simp (disch := first | omega | (simp only [lnS]; try omega)) [-getElem?_pos, -getElem?_neg]
 refine hK _ _ ?_; clear hK K
 cases hgd : (decide (60 < L.length) || L.any greatC) with
 | true =>
  refine aw_t (by (first | (simp; done) | (simp; omega))) (by kernel_rfl) ?_
  refine aw_seq (aoo fun K hK => ?_)
  simp (disch := first | omega | (simp only [lnS]; try omega)) [-getElem?_pos, -getElem?_neg]
  refine ⟨by kernel_rfl, ac_of_rc (hal _ hpw) (by simp [pv_iv, pv_int, pv_bool, pv_string, pv_tup2, pv_tup3, iv_plain, p2_int, p2_bool, p2_string]) ?_⟩
  try simp (disch := first | omega | (simp only [lnS]; try omega)) [-getElem?_pos, -getElem?_neg]
  refine hK _ _ ?_; clear hK K
  (refine aw_ret ?_; simp (disch := first | omega | (simp only [lnS]; try omega)) [-getElem?_pos, -getElem?_neg, thenQ_ret, scopeQ_ret, inBlockQ_ret, RQ, resL, resV])
 | false =>
 rw [Bool.or_eq_false_iff] at hgd
 have h60 : L.length ≤ 60 := by have := of_decide_eq_false hgd.1; omega
 have hLo := ok_of hL hgd.2
 clear hgr hgd
 refine aw_f (by (first | (simp; done) | (simp; omega))) (by kernel_rfl) ?_
 refine aw_skip (aw_seq ?_)
 refine aoo fun K hK => ?_
 simp (disch := first | omega | (simp only [lnS]; try omega)) [-getElem?_pos, -getElem?_neg]
 refine ⟨by kernel_rfl, AC.mono (newfree_ac (Nat.le_refl _)) ?_⟩
 rintro v1 G ⟨tb, F, rfl, lw, t0, hF⟩
 have hnG := lw.2
 try simp (disch := first | omega | (simp only [lnS]; try omega)) [-getElem?_pos, -getElem?_neg, hpp, hnG, -notTuple]
 refine hK _ _ ?_; clear hK K
 obtain ⟨n, hn⟩ : ∃ n, n = G.length := ⟨_, rfl⟩
 obtain ⟨B, hB⟩ : ∃ B : AH, B = G ++ [some ⟨[.pointer (some ⟨tb, 0, none⟩)], 27, none⟩] := ⟨_, rfl⟩
 have gT : hget B n = some ⟨[.pointer (some ⟨tb, 0, none⟩)], 27, none⟩ := by rw [hB, hn, hget_app0]; rfl
 have lwB : Low G.length G B := by rw [hB]; exact Low.push (Nat.le_refl _) _
 have tB : Tbl B tb F [] := t0.low (fun j hj => lwB.1 j (t0.bound j hj)) lwB.2
 have lwHB : Low H.length H B := ⟨fun j hj => (lwB.1 j (by omega)).trans (lw.1 j hj), by have := lwB.2; omega⟩
 have nF : n ∉ F := fun e => by have := t0.bound _ e; omega
 have hBl : B.length = n + 1 := by rw [hB, hn]; simp
 rw [← hn, ← hB]
 clear hB t0 lwB
 obtain ⟨rb, hrb⟩ : ∃ rb, rb = B.length := ⟨_, rfl⟩
 obtain ⟨E, hE⟩ : ∃ E : AH, E = B ++ [some ⟨[.slice none 0 0, .slice none 0 0], 33, none⟩] := ⟨_, rfl⟩
 have gR : hget E rb = some ⟨[.slice none 0 0, .slice none 0 0], 33, none⟩ := by rw [hE, hrb, hget_app0]; rfl
 have lwE : Low B.length B E := by rw [hE]; exact Low.push (Nat.le_refl _) _
 have lwHE : Low H.length H E := ⟨fun j hj => (lwE.1 j (by have := lwHB.2; omega)).trans (lwHB.1 j hj), by have := lwE.2; have := lwHB.2; omega⟩
 have gT := (lwE.1 _ (hget_lt gT)).trans gT
 have tE : Tbl E tb F [] := tB.low (fun j hj => lwE.1 j (tB.bound j hj)) lwE.2
 have pE : Pl H [n] E tb rb (.slice none 0 0) [] [] [] := pl0 lwHE tE hF gR (by rw [hrb]; exact lwHB.2) (fun e => by have := tB.bound _ e; omega) (hget_lt gT) nF (by omega)
 have ldF : xload Tryd.prog 27 (.pointer (some ⟨n, 0, none⟩)) E = some (.agg #[.pointer (some ⟨tb, 0, none⟩)]) := by simp [xload, gT]
 (refine aw_seq (aoo fun K hK => ?_); simp (disch := first | omega | (simp only [lnS]; try omega)) [-getElem?_pos, -getElem?_neg, hpl, -notTuple]; refine hK _ _ ?_; clear hK K)
 rw [← hrb, ← hE]
 refine aw_seq (aoo fun K hK => ?_)
 simp (disch := first | omega | (simp only [lnS]; try omega)) [-getElem?_pos, -getElem?_neg, -xload, ldF, -notTuple]
 refine ⟨by kernel_rfl, AC.mono (secret_ac hpw pE) ?_⟩
 rintro v2 G2 ⟨r, rfl, gr, p2, s2⟩
 try simp (disch := first | omega | (simp only [lnS]; try omega)) [-getElem?_pos, -getElem?_neg, -notTuple]
 refine hK _ _ ?_; clear hK K
 have gT := (s2 n (by simp)).trans gT
 obtain ⟨F2, Ft, Fs, Fr2, Fk, tv, sv, LL, w⟩ := p2
 have t2 := w.a
 have hF2 := w.ra
 have lw2 := w.lw
 have rF2 := (w.s r (by simp)).2.1
 have nF2 := (w.s n (by simp)).2.1
 obtain ⟨FR, hFR⟩ : ∃ FR, FR = rb :: (Ft ++ Fs ++ Fr2) := ⟨_, rfl⟩
 have u2 : RTbl G2 rb FR sT5 := ⟨tv, sv, Ft, Fs, Fr2, LL, w.e.symm, w.b, hFR⟩
 have hFR2 : ∀ j ∈ FR, H.length ≤ j := by rw [hFR]; exact w.rr
 have rFR := (w.s r (by simp)).2.2.1
 have nFR := (w.s n (by simp)).2.2.1
 have dFR : ∀ j ∈ F2, j ∉ FR := by rw [hFR]; exact w.ab
 rw [← hFR] at rFR nFR
 clear w s2 pE tE tB lwE lwHE lwHB gR hE ldF hFR
 have ldF : xload Tryd.prog 27 (.pointer (some ⟨n, 0, none⟩)) G2 = some (.agg #[.pointer (some ⟨tb, 0, none⟩)]) := by simp [xload, gT]
 have hln2 := hget_lt gT
 have hlr2 := hget_lt gr
 have hsv : KsP G2 (F2 ++ FR) (.slice (some ⟨r, 0, none⟩) 3 3) sSeen := fun D hl hg => kr_ksv (F := [r]) (.inr ⟨r, 3, rfl, (hg r hlr2 (by simp [rF2, rFR])).trans gr, rfl, rfl⟩) (fun k hk => (sSeen_k k hk).1)
 have hlv : CkP G2 (F2 ++ FR) va L := hv.ckp hL lw2 (fun j hj => by
  rcases List.mem_append.1 hj with e | e
  ·exact hF2 j e
  ·exact hFR2 j e)
 have hmk := make_ac (γ := γ) hpw lw2 t2 hF2 (hsv.less (fun j hj => by simp [hj])) sSeen_k (hlv.less (fun j hj => by simp [hj])) hLo h60 (by decide) sT5_few
 have hms := ms_go L [] sT5 [] 0 ms0 ⟨fun k hk => (by cases hk), Nat.zero_le _, by decide, sT5_few⟩ (by omega) hLo
 have hag := make_again L [] sT5 [] 0 ms0 ⟨fun k hk => (by cases hk), Nat.zero_le _, by decide, sT5_few⟩ (by omega) hLo
 have hag := hag.2 _ hms.t.wf hms.t.nd ⟨[], (List.append_nil _).symm⟩
 refine aw_seq (aoo fun K hK => ?_)
 simp (disch := first | omega | (simp only [lnS]; try omega)) [-getElem?_pos, -getElem?_neg, -xload, ldF, -notTuple, vnt, vcs]
 refine ⟨by kernel_rfl, AC.mono hmk ?_⟩
 rintro mv G3 ⟨⟨F3, f3, t3, k3⟩, mo⟩
 have mnt := k3.ksp.nt
 try simp (disch := first | omega | (simp only [lnS]; try omega)) [-getElem?_pos, -getElem?_neg, -notTuple, mnt.1, mnt.2]
 refine hK _ _ ?_; clear hK K
 have lw3 : Low H.length H G3 := lowFr lw2 hF2 f3
 have hF3 : ∀ j ∈ F3, H.length ≤ j := f3.lo hF2 lw2.2
 have gT := (f3.out n hln2 nF2).trans gT
 have uR : ∀ j ∈ FR, j < G2.length := u2.bound
 have f3R : Fr G2 G3 (F2 ++ FR) (F3 ++ FR) := ⟨f3.len, fun j hj hn => f3.out j hj (fun e => hn (by simp [e])), fun j hj => by
  rcases List.mem_append.1 hj with e | e
  ·rcases f3.new j e with e2 | e2
   ·exact .inl (by simp [e2])
   ·exact .inr e2
  ·exact .inl (by simp [e])⟩
 have u3 : RTbl G3 rb FR sT5 := u2.low (fun j hj => f3.out j (uR j hj) (fun e => dFR j e hj)) f3.len
 have nF3 : n ∉ F3 := fun e => by
  rcases f3.new n e with e2 | e2
  ·exact nF2 e2
  ·omega
 have dFR3 : ∀ j ∈ F3, j ∉ FR := fun j hj e => by
  rcases f3.new j hj with e2 | e2
  ·exact dFR j e2 e
  ·have := uR j e; omega
 have hsv3 := hsv.fr f3R
 have hlv3 := hlv.fr f3R
 have hrm := rmakeAll_ac (γ := γ) lw3 u3 hFR2 (hsv3.less (fun j hj => by simp [hj])) sSeen_k (hlv3.less (fun j hj => by simp [hj])) hLo h60 (by decide) sT5_few
 generalize hM : makeM sSeen L (sT5, []) = M at *
 obtain ⟨T, made⟩ := M
 simp only at t3 k3 mo hms hrm hag
 refine aw_seq (aoo fun K hK => ?_)
 simp (disch := first | omega | (simp only [lnS]; try omega)) [-getElem?_pos, -getElem?_neg, -notTuple, vnt, vcs]
 refine ⟨by kernel_rfl, AC.mono hrm ?_⟩
 rintro rv G4 ⟨FR4, Fo, f4, u4, o4, d4⟩
 have rnt := ownF_nt o4
 try simp (disch := first | omega | (simp only [lnS]; try omega)) [-getElem?_pos, -getElem?_neg, -notTuple, rnt.1, rnt.2]
 refine hK _ _ ?_; clear hK K
 have b3 := t3.bound
 have t4 : Tbl G4 tb F3 T := t3.low (fun j hj => f4.out j (b3 j hj) (dFR3 j hj)) f4.len
 have nFR4 : n ∉ FR := nFR
 have hln3 := hget_lt gT
 have gT := (f4.out n hln3 nFR4).trans gT
 have lw4 : Low H.length H G4 := lowFr lw3 hFR2 f4
 have f4R : Fr G3 G4 (F3 ++ FR) (F3 ++ (FR4 ++ Fo)) := ⟨f4.len, fun j hj hn => f4.out j hj (fun e => hn (by simp [e])), fun j hj => by
  rcases List.mem_append.1 hj with e | e
  ·exact .inl (by simp [e])
  ·rcases f4.new j e with e2 | e2
   ·exact .inl (by simp [e2])
   ·exact .inr e2⟩
 have hsv4 : KsP G4 F3 (.slice (some ⟨r, 0, none⟩) 3 3) sSeen := (hsv3.fr f4R).less (fun j hj => by simp [hj])
 have hlv4 : CkP G4 F3 va L := (hlv3.fr f4R).less (fun j hj => by simp [hj])
 have dRo : ∀ j ∈ FR4 ++ Fo, j ∉ F3 := fun j hj e => by
  rcases f4.new j hj with e2 | e2
  ·exact dFR3 j e e2
  ·have := b3 j e; omega
 have f3len := f3.len
 have f4len := f4.len
 have k4 : ∀ G : AH, G3.length ≤ G.length → (∀ j, G2.length ≤ j → j < G3.length → j ∉ F3 → hget G j = hget G4 j) → KsV G mv made := fun G hl hg => k3 G hl (fun j h1 h2 h3 => (hg j h1 h2 h3).trans (f4.out j h2 (fun e => by have := uR j e; omega)))
 clear hrm hmk hlv hsv3 hlv3 hsv u3 u2 t3 t2 f3R f4R f3 k3
 (refine aw_seq (aoo fun K hK => ?_); simp (disch := first | omega | (simp only [lnS]; try omega)) [-getElem?_pos, -getElem?_neg]; refine hK _ _ ?_; clear hK K)
 refine aw_seq (aw_seq ?_)
 (refine aoo fun K hK => ?_; simp (disch := first | omega | (simp only [lnS]; try omega)) [-getElem?_pos, -getElem?_neg]; refine hK _ _ ?_; clear hK K)
 refine aw_block ?_
 refine aw_loop (fun q α G => ∃ (i : Nat) (F5 : List Nat) (cv : Value), i + q = L.length ∧ α 0 = va ∧ α 3 = .pointer (some ⟨n, 0, none⟩) ∧ α 4 = .pointer (some ⟨rb, 0, none⟩) ∧ α 5 = .slice (some ⟨r, 0, none⟩) 3 3 ∧ α 6 = mv ∧ α 7 = rv ∧ α 8 = cv ∧ α 9 = .int .i64 (i : Nat) ∧ Fr G4 G F3 F5 ∧ Tbl G tb F5 T ∧ KsP G F5 cv (makeM sSeen (L.take i) (T, [])).2 ∧ MkOk T (makeM sSeen (L.take i) (T, [])).2 70) L.length ?_ ?_
 ·exact ⟨0, F3, .slice none 0 0, by omega, by (first | (simp; done) | rfl), by (first | (simp; done) | rfl), by (first | (simp; done) | rfl), by (first | (simp; done) | rfl), by (first | (simp; done) | rfl), by (first | (simp; done) | rfl), by (first | (simp; done) | rfl), by (first | (simp; done) | rfl), Fr.refl _ _, t4, KsP.nil _ _, ⟨fun k hk => (by cases hk), Nat.zero_le _, by have := mo.t; omega, mo.few⟩⟩
 rintro q α G ⟨i, F5, cv, hiq, a0, a3, a4, a5, a6, a7, a8, a9, f5, t5, k5, mo5⟩
 have cnt := k5.nt
 have gT5 := (f5.out n (hget_lt gT) nF3).trans gT
 have lw5 : Low H.length H G := lowFr lw4 hF3 f5
 have hF5 : ∀ j ∈ F5, H.length ≤ j := f5.lo hF3 lw4.2
 refine aw_seq (aw_seq ?_)
 by_cases hi : i < L.length
 ·have hi' : (i : Int) < L.length := by omega
  obtain ⟨x, hx⟩ : ∃ x, L[i]? = some x := ⟨_, List.getElem?_eq_getElem hi⟩
  have hxo := hLo x (List.mem_of_getElem? hx)
  obtain ⟨p, C, kv, p1, p2, p3⟩ := (hlv4.fr f5).at_ i x hx
  obtain ⟨p4, p5⟩ := p3 G (Nat.le_refl _) (fun _ _ _ => rfl)
  have htk := makeM_take (seen := sSeen) hx (T, [])
  have e1 := hag i
  have e2 := hag (i + 1)
  rw [e1] at htk k5 mo5
  rw [e2] at htk
  have hmt := mo5.m
  have htt := mo5.t
  have hmo := more_ac hpw lw5 t5 hF5 (hsv4.fr f5) sSeen_k k5 mo5.k (by omega) p5 hxo.wf hxo.text (by have := hxo.keys; omega) (by omega) mo5.few
  generalize (makeM sSeen (L.take i) (sT5, [])).2 = mi at *
  rw [← htk] at hmo
  have ldF : xload Tryd.prog 27 (.pointer (some ⟨n, 0, none⟩)) G = some (.agg #[.pointer (some ⟨tb, 0, none⟩)]) := by simp [xload, gT5]
  (refine aoo fun K hK => ?_; simp (disch := first | omega | (simp only [lnS]; try omega)) [-getElem?_pos, -getElem?_neg, a0, a9, -notTuple, vnt, vcs, -xlen, vln, hi']; refine hK _ _ ?_; clear hK K)
  refine aw_t (by (first | (simp; done) | (simp; omega))) (by kernel_rfl) ?_
  refine aw_skip (aw_seq ?_)
  refine aw_block ?_
  (refine aw_plan [] [] [0, 1, 2, 3, 4, 5, 6] 7 2 (by kernel_rfl) (by kernel_rfl) (by kernel_rfl) (fun K hK => ?_)); simp only [sel, List.getElem?_cons_succ, List.getElem?_cons_zero, List.drop_succ_cons, List.drop_zero]; simp (disch := first | omega | (simp only [lnS]; try omega)) [-getElem?_pos, -getElem?_neg, a0, a3, a5, a8, a9, -xload, ldF, p4, -xindexAddr, p2, p1, -notTuple, vnt, cnt.1, PL_nil, plainB_lit, PL_cons, PLc_val, PLc_new, stepP_t, stepP_f, stepPC_n, stepPC_s, stepPX_s, stepPX_n, stepPV_n, stepPV_s, stepPA_t, stepPA_c, stepPA_l, stepPN_s, allocOp, reloc_sl, reloc_ptr, List.map_cons, List.map_nil, List.nil_append, List.append_assoc, List.cons_append, Nat.add_assoc]
  refine ⟨by kernel_rfl, AC.mono hmo ?_⟩
  rintro v6 G6 ⟨F6, f6, t6, k6⟩
  have n6 := k6.ksp.nt
  try simp (disch := first | omega | (simp only [lnS]; try omega)) [-getElem?_pos, -getElem?_neg, -notTuple, n6.1, n6.2]
  refine hK _ _ ?_; clear hK K
  (refine aoo fun K hK => ?_; simp (disch := first | omega | (simp only [lnS]; try omega)) [-getElem?_pos, -getElem?_neg, a9]; refine hK _ _ ?_; clear hK K)
  have mo6 : MkOk T (makeM sSeen (L.take (i + 1)) (T, [])).2 70 := by
   rw [e2]
   have h60' : i + 1 ≤ 60 := by omega
   exact mk_take hLo h60 mo h60'
  exact ⟨q - 1, by omega, i + 1, F6, v6, by omega, by (first | (simp [a0]; done) | rfl), by (first | (simp [a3]; done) | rfl), by (first | (simp [a4]; done) | rfl), by (first | (simp [a5]; done) | rfl), by (first | (simp [a6]; done) | rfl), by (first | (simp [a7]; done) | rfl), by (first | (simp; done) | rfl), by (first | (simp; done) | rfl), f5.trans f6, t6, by rw [e2]; exact k6.ksp, mo6⟩
 ·obtain rfl : i = L.length := by omega
  have e1 := hag L.length
  rw [e1, List.take_of_length_le (Nat.le_refl _), hM] at k5
  have k5 : KsP G F5 cv made := k5
  (refine aoo fun K hK => ?_; simp (disch := first | omega | (simp only [lnS]; try omega)) [-getElem?_pos, -getElem?_neg, a0, a9, -notTuple, vnt, vcs, -xlen, vln]; refine hK _ _ ?_; clear hK K)
  refine aw_f (by (first | (simp; done) | (simp; omega))) (by kernel_rfl) ?_
  refine aw_exit ?_
  have hk32 : ∀ k ∈ made, k.length = 32 := fun k hk => (mo.k k hk).1
  have hmm : made.length ≤ maxLen := by have := mo.m; simp only [maxLen]; omega
  have hmv : KsV G mv made := k4 G (by have := f5.len; omega) (fun j h1 h2 h3 => f5.out j (by omega) h3)
  have orv : OwnF G rv 41 32 (kr made) Fo := o4.low (fun j hj => f5.out j (o4.lt j hj) (dRo j (by simp [hj])))
  have hrv : KsV G rv made := kr_ksv orv hk32
  have hcv : KsV G cv made := k5.now
  have uG : RTbl G rb FR4 T := u4.low (fun j hj => f5.out j (u4.bound j hj) (dRo j (by simp [hj]))) f5.len
  obtain ⟨tv, sv2, gR, _, tnt, tcs, tln⟩ := rtb_len uG
  have ldT := ld_tb gT5
  have ldR : xload Tryd.prog 30 (.pointer (some ⟨rb, 0, none⟩)) G = some tv := by simp [xload, gR]
  have gT6 := fun (L : AH) => (hget_left (L := L) (hget_lt gT5)).trans gT5
  have gR6 := fun (L : AH) => (hget_left (L := L) (hget_lt gR)).trans gR
  have ldT6 := fun (L : AH) => ld_tb (gT6 L)
  have ldR6 : ∀ L : AH, xload Tryd.prog 30 (.pointer (some ⟨rb, 0, none⟩)) (G ++ L) = some tv := fun L => by have := gR6 L; simp [xload, this]
  have hpG := hpw.low lw5
  have hd : decide (made = made) = true := by simp
  refine aw_seq ?_
  (refine aw_plan [] [] [0, 1, 2, 3, 4, 5, 6, 7, 8, 9, 10, 11, 12, 13, 14, 15, 16, 17, 18, 19, 20, 21, 22] 23 0 (by kernel_rfl) (by kernel_rfl) (by kernel_rfl) (fun K hK => ?_)); simp only [sel, List.getElem?_cons_succ, List.getElem?_cons_zero, List.drop_succ_cons, List.drop_zero]; simp (disch := first | omega | (simp only [lnS]; try omega)) [-getElem?_pos, -getElem?_neg, a3, a4, a6, a7, a8, -xload, ldT, ldR, ldT6, ldR6, -notTuple, mnt.1, rnt.1, cnt.1, -xlen, tln, tnt, PL_nil, plainB_lit, PL_cons, PLc_val, PLc_new, stepP_t, stepP_f, stepPC_n, stepPC_s, stepPX_s, stepPX_n, stepPV_n, stepPV_s, stepPA_t, stepPA_c, stepPA_l, stepPN_s, allocOp, reloc_sl, reloc_ptr, List.map_cons, List.map_nil, List.nil_append, List.append_assoc, List.cons_append, Nat.add_assoc]
  refine PLc_call (by kernel_rfl) (fun L' hL' => alive_rc (H := G ++ L') (hpG.push L')) (by simp [pv_iv, pv_int, pv_bool, pv_string, pv_tup2, pv_tup3, iv_plain, p2_int, p2_bool, p2_string]) ?_
  try simp (disch := first | omega | (simp only [lnS]; try omega)) [-getElem?_pos, -getElem?_neg, a3, a4, a6, a7, a8, -xload, ldT, ldR, ldT6, ldR6, -notTuple, mnt.1, rnt.1, cnt.1, -xlen, tln, tnt, hd, PL_nil, plainB_lit, PL_cons, PLc_val, PLc_new, stepP_t, stepP_f, stepPC_n, stepPC_s, stepPX_s, stepPX_n, stepPV_n, stepPV_s, stepPA_t, stepPA_c, stepPA_l, stepPN_s, allocOp, reloc_sl, reloc_ptr, List.map_cons, List.map_nil, List.nil_append, List.append_assoc, List.cons_append, Nat.add_assoc]
  refine PLc_call (by kernel_rfl) (fun L' hL' => sameKeys_rc (H := G ++ L') (CD.Val.low (fun j hj => hget_left hj) hmv) (CD.Val.low (fun j hj => hget_left hj) hrv) hk32 hk32 hmm) (by simp [pv_iv, pv_int, pv_bool, pv_string, pv_tup2, pv_tup3, iv_plain, p2_int, p2_bool, p2_string]) ?_
  try simp (disch := first | omega | (simp only [lnS]; try omega)) [-getElem?_pos, -getElem?_neg, a3, a4, a6, a7, a8, -xload, ldT, ldR, ldT6, ldR6, -notTuple, mnt.1, rnt.1, cnt.1, -xlen, tln, tnt, hd, PL_nil, plainB_lit, PL_cons, PLc_val, PLc_new, stepP_t, stepP_f, stepPC_n, stepPC_s, stepPX_s, stepPX_n, stepPV_n, stepPV_s, stepPA_t, stepPA_c, stepPA_l, stepPN_s, allocOp, reloc_sl, reloc_ptr, List.map_cons, List.map_nil, List.nil_append, List.append_assoc, List.cons_append, Nat.add_assoc]
  refine PLc_call (by kernel_rfl) (fun L' hL' => sameKeys_rc (H := G ++ L') (CD.Val.low (fun j hj => hget_left hj) hcv) (CD.Val.low (fun j hj => hget_left hj) hrv) hk32 hk32 hmm) (by simp [pv_iv, pv_int, pv_bool, pv_string, pv_tup2, pv_tup3, iv_plain, p2_int, p2_bool, p2_string]) ?_
  try simp (disch := first | omega | (simp only [lnS]; try omega)) [-getElem?_pos, -getElem?_neg, a3, a4, a6, a7, a8, -xload, ldT, ldR, ldT6, ldR6, -notTuple, mnt.1, rnt.1, cnt.1, -xlen, tln, tnt, hd, PL_nil, plainB_lit, PL_cons, PLc_val, PLc_new, stepP_t, stepP_f, stepPC_n, stepPC_s, stepPX_s, stepPX_n, stepPV_n, stepPV_s, stepPA_t, stepPA_c, stepPA_l, stepPN_s, allocOp, reloc_sl, reloc_ptr, List.map_cons, List.map_nil, List.nil_append, List.append_assoc, List.cons_append, Nat.add_assoc]
  refine PLc_call (by kernel_rfl) (fun L' hL' => tlenT_rc (H := G ++ L') (t5.push L')) (by simp [pv_iv, pv_int, pv_bool, pv_string, pv_tup2, pv_tup3, iv_plain, p2_int, p2_bool, p2_string]) ?_
  try simp (disch := first | omega | (simp only [lnS]; try omega)) [-getElem?_pos, -getElem?_neg, a3, a4, a6, a7, a8, -xload, ldT, ldR, ldT6, ldR6, -notTuple, mnt.1, rnt.1, cnt.1, -xlen, tln, tnt, hd, PL_nil, plainB_lit, PL_cons, PLc_val, PLc_new, stepP_t, stepP_f, stepPC_n, stepPC_s, stepPX_s, stepPX_n, stepPV_n, stepPV_s, stepPA_t, stepPA_c, stepPA_l, stepPN_s, allocOp, reloc_sl, reloc_ptr, List.map_cons, List.map_nil, List.nil_append, List.append_assoc, List.cons_append, Nat.add_assoc]
  refine hK _ _ ?_; clear hK K
  (refine aw_ret ?_; simp (disch := first | omega | (simp only [lnS]; try omega)) [-getElem?_pos, -getElem?_neg, thenQ_ret, scopeQ_ret, inBlockQ_ret, RQ, resL, resV])
theorem makes_in {γ : Nat → Option Nat} {H : AH} (hpw : Pw γ H) {ds : List CD} {u : Value} (ok : OkL [CK.sl cookK] ds) (vl : ValL H ds [u]) : AC Tryd.prog H.length γ 3 #[u] H (fun v' _ => v' = .bool true) := by
 obtain ⟨d, r, rfl, o1, o2⟩ := ok.cons
 obtain rfl := o2.nil
 obtain ⟨L, rfl, hL, hm⟩ := cooks_of o1
 obtain ⟨u0, r0, e, v0, n0'⟩ := vl.cons
 obtain rfl := n0'.nil
 cases e
 exact makes_law hpw v0 hL hm
end
end
end Go.Proofs.YtlaglpnbmkoakaaDoor
