/-
  What a stranger makes: which keys a step takes.
-/
import Derived.Test.YtlaglpnbmkoakaaDoorFfF
import Derived.Test.YtlaglpnbmkoakaaDoorFfE
namespace Go.Proofs.YtlaglpnbmkoakaaDoor
open Go Go.RowKit
set_option linter.unusedSimpArgs false
set_option linter.unusedVariables false
set_option maxRecDepth 100000
set_option maxHeartbeats 8000000
section
attribute [local simp] wb_bool wb_undef with_lit XL_nil XL_cons XLc_val XLc_call step1_eq stepW_t stepW_f stepC_n stepC_s stepX_s stepX_n stepN_s calleeX xrecv oneV xop_eq xopR_s xopR_n wantedA_eq wantedG_n wantedG_s plain1_int plain1_bool plain1_string bits_i64 bits_u64 bits_u32 bits_u16 bits_u8 xeqA xagg xcmp xarr allK_iv num_iv calleeOf xread xeff xbin xint xnil xun xstr xload xconv xpart xfield xfieldAddr xindexAddr xindex bnd asInt? xslice xlen xmin xmax xbuild xfill xappend xapp2 xappstr xappmk xcap xcopy xcells eval_tmp eval_const put_at put_none fr0_at cells_agg cells_int cells_bool cells_string cells_ptr cells_slice notTuple tab iv_all hget_app hget_app0 hget_cons0 hget_cons set_app set_app0 setR setR_one QL_nil QL_cons QLc_val stepQ_t stepQ_f stepQC_n stepQC_s stepQX_s SL_nil SL_cons SLc_val stepS_t stepS_f ltT ltF leT leF eqT eqF ltTn ltFn leTn leFn eqTn eqFn beqT beqF bneT bneF wi64 wu64 wu32 wu16 wu8 tmodP tdivP hgetL hgetNe hgetEq setL nums_def nums_len Nat.succ_le_of_lt List.getElem?_cons_zero List.getElem?_cons_succ Option.getD_some Int.toNat_add Int.toNat_mul agM okM agB agI agS agP agL agA okB okI okS okP okSl okA nt_strG nt_boolG nt_aggG nt_intG nt_ptrG nt_slG
section
def PickQ (H : AH) (made : List (List Int)) (c : CookD) (v' : Value) (H' : AH) : Prop :=
 Low H.length H H' ∧ ∃ kv, v' = .tuple #[kv, .bool (inR made.length c.keys && decide (needN c.kind ≤ c.keys.length))] ∧ notTuple kv = true ∧ kv.cells = #[kv] ∧ (inR made.length c.keys = true → ∃ Fk, OwnF H' kv 41 32 (kr (pickL made c.keys)) Fk ∧ ∀ j ∈ Fk, H.length ≤ j)
theorem inR_take {m : Nat} {l : List Int} {i : Nat} {z : Int} (h : l[i]? = some z) : inR m (l.take (i + 1)) = (inR m (l.take i) && decide (0 ≤ z ∧ z < m)) := by
 unfold inR
 rw [List.take_add_one, h, List.all_append]
 simp
theorem inR_no {m : Nat} {l : List Int} {i : Nat} {z : Int} (h : l[i]? = some z) (hz : ¬ (0 ≤ z ∧ z < m)) : inR m l = false := by
 rw [Bool.eq_false_iff]
 intro e
 exact hz (of_decide_eq_true (List.all_eq_true.1 e z (List.mem_of_getElem? h)))
theorem needs_vc {k : Int} (hk : I64 k) : VC Tryd.prog 52 #[.int .i64 k] (.int .i64 (needN k : Nat)) := by
 refine vc_of_ac (by simp [pv_iv, pv_int, pv_bool, pv_string, pv_tup2, pv_tup3, iv_plain, p2_int, p2_bool, p2_string]) (by simp [pv_iv, pv_int, pv_bool, pv_string, pv_tup2, pv_tup3, iv_plain, p2_int, p2_bool, p2_string]) ?_
 unfold needN
 refine ac_of_aw Tryd.func52 rfl Tryd.ntmps52 Tryd.results52 (by simp) ?_
 (refine aw_seq (aoo fun K hK => ?_); simp (disch := first | omega | (simp only [lnS]; try omega)) [-getElem?_pos, -getElem?_neg]; refine hK _ _ ?_; clear hK K)
 refine aw_seq (aw_seq ?_)
 (refine aoo fun K hK => ?_; simp (disch := first | omega | (simp only [lnS]; try omega)) [-getElem?_pos, -getElem?_neg]; refine hK _ _ ?_; clear hK K)
 refine aw_block ?_
 refine aw_seq ?_
 by_cases h4 : k = 4
 ·subst h4
  (refine aoo fun K hK => ?_; simp (disch := first | omega | (simp only [lnS]; try omega)) [-getElem?_pos, -getElem?_neg]; refine hK _ _ ?_; clear hK K)
  refine aw_t (by (first | (simp; done) | (simp; omega))) (by kernel_rfl) ?_
  (refine aw_seq (aoo fun K hK => ?_); simp (disch := first | omega | (simp only [lnS]; try omega)) [-getElem?_pos, -getElem?_neg]; refine hK _ _ ?_; clear hK K)
  (refine aw_ret ?_; simp (disch := first | omega | (simp only [lnS]; try omega)) [-getElem?_pos, -getElem?_neg, thenQ_ret, scopeQ_ret, inBlockQ_ret, RQ, resL, resV])
 (refine aoo fun K hK => ?_; simp (disch := first | omega | (simp only [lnS]; try omega)) [-getElem?_pos, -getElem?_neg, h4]; refine hK _ _ ?_; clear hK K)
 refine aw_f (by (first | (simp; done) | (simp; omega))) (by kernel_rfl) ?_
 refine aw_seq (aw_seq ?_)
 by_cases h5 : k = 5
 ·subst h5
  (refine aoo fun K hK => ?_; simp (disch := first | omega | (simp only [lnS]; try omega)) [-getElem?_pos, -getElem?_neg]; refine hK _ _ ?_; clear hK K)
  refine aw_t (by (first | (simp; done) | (simp; omega))) (by kernel_rfl) ?_
  refine aw_skip ?_
  refine aw_t (by (first | (simp; done) | (simp; omega))) (by kernel_rfl) ?_
  (refine aw_seq (aoo fun K hK => ?_); simp (disch := first | omega | (simp only [lnS]; try omega)) [-getElem?_pos, -getElem?_neg]; refine hK _ _ ?_; clear hK K)
  (refine aw_ret ?_; simp (disch := first | omega | (simp only [lnS]; try omega)) [-getElem?_pos, -getElem?_neg, thenQ_ret, scopeQ_ret, inBlockQ_ret, RQ, resL, resV])
 (refine aoo fun K hK => ?_; simp (disch := first | omega | (simp only [lnS]; try omega)) [-getElem?_pos, -getElem?_neg, h5]; refine hK _ _ ?_; clear hK K)
 refine aw_f (by (first | (simp; done) | (simp; omega))) (by kernel_rfl) ?_
 by_cases h6 : k = 6
 ·subst h6
  (refine aoo fun K hK => ?_; simp (disch := first | omega | (simp only [lnS]; try omega)) [-getElem?_pos, -getElem?_neg]; refine hK _ _ ?_; clear hK K)
  refine aw_t (by (first | (simp; done) | (simp; omega))) (by kernel_rfl) ?_
  (refine aw_seq (aoo fun K hK => ?_); simp (disch := first | omega | (simp only [lnS]; try omega)) [-getElem?_pos, -getElem?_neg]; refine hK _ _ ?_; clear hK K)
  (refine aw_ret ?_; simp (disch := first | omega | (simp only [lnS]; try omega)) [-getElem?_pos, -getElem?_neg, thenQ_ret, scopeQ_ret, inBlockQ_ret, RQ, resL, resV])
 (refine aoo fun K hK => ?_; simp (disch := first | omega | (simp only [lnS]; try omega)) [-getElem?_pos, -getElem?_neg, h6]; refine hK _ _ ?_; clear hK K)
 refine aw_f (by (first | (simp; done) | (simp; omega))) (by kernel_rfl) ?_
 refine aw_seq ?_
 by_cases h7 : k = 7
 ·subst h7
  (refine aoo fun K hK => ?_; simp (disch := first | omega | (simp only [lnS]; try omega)) [-getElem?_pos, -getElem?_neg]; refine hK _ _ ?_; clear hK K)
  refine aw_t (by (first | (simp; done) | (simp; omega))) (by kernel_rfl) ?_
  (refine aw_seq (aoo fun K hK => ?_); simp (disch := first | omega | (simp only [lnS]; try omega)) [-getElem?_pos, -getElem?_neg]; refine hK _ _ ?_; clear hK K)
  (refine aw_ret ?_; simp (disch := first | omega | (simp only [lnS]; try omega)) [-getElem?_pos, -getElem?_neg, thenQ_ret, scopeQ_ret, inBlockQ_ret, RQ, resL, resV])
 (refine aoo fun K hK => ?_; simp (disch := first | omega | (simp only [lnS]; try omega)) [-getElem?_pos, -getElem?_neg, h7]; refine hK _ _ ?_; clear hK K)
 refine aw_f (by (first | (simp; done) | (simp; omega))) (by kernel_rfl) ?_
 refine aw_skip (aw_seq ?_)
 (refine aoo fun K hK => ?_; simp (disch := first | omega | (simp only [lnS]; try omega)) [-getElem?_pos, -getElem?_neg]; refine hK _ _ ?_; clear hK K)
 (refine aw_ret ?_; simp (disch := first | omega | (simp only [lnS]; try omega)) [-getElem?_pos, -getElem?_neg, thenQ_ret, scopeQ_ret, inBlockQ_ret, RQ, resL, resV, h4, h5, h6, h7])
theorem picked_ac {nro : Nat} {γ : Nat → Option Nat} {H : AH} (hnH : nro ≤ H.length) {mv : Value} {made : List (List Int)} (hmv : KsV H mv made) (hk : ∀ k ∈ made, k.length = 32) (hm : made.length ≤ 1000000) {C : List Value} {x : CookD} {sv : Value} (hc : CkC H C x sv) (hx : x.Wf) (hxm : x.keys.length ≤ 1000) :
  AC Tryd.prog nro γ 31 #[mv, .agg C.toArray] H (PickQ H made x) := by
 have cl := hc.len
 have hacc := hc.kv.acc
 obtain ⟨hnt, hvc, hxl, hat2⟩ := hacc
 have hmac := hmv.acc hk
 obtain ⟨mnt, mvc, mxl, mat2⟩ := hmac
 have hkm : x.keys.length ≤ 9223372036854775807 := by have := hx.klen; simp only [maxLen] at this; omega
 have hnd := needs_vc hx.kind
 obtain ⟨B, hB⟩ : ∃ B : AH, B = H ++ [some ⟨C, 43, none⟩] := ⟨_, rfl⟩
 have gC : hget B H.length = some ⟨C, 43, none⟩ := by rw [hB, hget_app0]; rfl
 have hBl : B.length = H.length + 1 := by rw [hB]; simp
 have lwB : Low H.length H B := by rw [hB]; exact Low.push (Nat.le_refl _) _
 obtain ⟨_, _, _, ldk, _, _⟩ := hc.loads hx gC
 refine ac_of_aw Tryd.func31 rfl Tryd.ntmps31 Tryd.results31 (by simp) ?_
 (refine aw_seq (aoo fun K hK => ?_); simp (disch := first | omega | (simp only [lnS]; try omega)) [-getElem?_pos, -getElem?_neg, cl]; refine hK _ _ ?_; clear hK K)
 rw [← hB]
 clear hB
 (refine aw_seq (aoo fun K hK => ?_); simp (disch := first | omega | (simp only [lnS]; try omega)) [-getElem?_pos, -getElem?_neg]; refine hK _ _ ?_; clear hK K)
 refine aw_seq (aw_seq ?_)
 (refine aoo fun K hK => ?_; simp (disch := first | omega | (simp only [lnS]; try omega)) [-getElem?_pos, -getElem?_neg, -xload, ldk, -notTuple, hnt, -xlen, hxl]; refine hK _ _ ?_; clear hK K)
 refine aw_block ?_
 refine aw_loop (fun q α G => ∃ (i : Nat) (out : Value) (Fo : List Nat), i + q = x.keys.length ∧ α 0 = mv ∧ α 3 = .pointer (some ⟨H.length, 0, none⟩) ∧ α 6 = out ∧ α 10 = sv ∧ α 11 = .int .i64 (x.keys.length : Nat) ∧ α 12 = .int .i64 (i : Nat) ∧ inR made.length (x.keys.take i) = true ∧ Low B.length B G ∧ OwnF G out 41 32 (kr (pickL made (x.keys.take i))) Fo ∧ ∀ j ∈ Fo, B.length ≤ j) x.keys.length ?_ ?_
 ·exact ⟨0, .slice none 0 0, [], by omega, by (first | (simp; done) | rfl), by (first | (simp; done) | rfl), by (first | (simp; done) | rfl), by (first | (simp; done) | rfl), by (first | (simp; done) | rfl), by (first | (simp; done) | rfl), rfl, Low.refl (Nat.le_refl _), .inl ⟨rfl, rfl, rfl⟩, fun j hj => by cases hj⟩
 rintro q α G ⟨i, out, Fo, hiq, e0, e3, e6, e10, e11, e12, hin, lwG, ho, hFo⟩
 have hGl := lwG.2
 have lwH : Low H.length H G := ⟨fun j hj => (lwG.1 j (by omega)).trans (lwB.1 j hj), by omega⟩
 have gG := (lwG.1 _ (hget_lt gC)).trans gC
 obtain ⟨ld0, _, _, _, _, _⟩ := hc.loads hx gG
 have hto := ownF_nt ho
 refine aw_seq ?_
 by_cases hi : i < x.keys.length
 ·have hi' : (i : Int) < x.keys.length := by omega
  obtain ⟨qa, y, q1, q2, q3, rfl, q4⟩ := hat2 i hi
  have q5 := q4 G lwH
  have hgz : x.keys[i]? = some (x.keys.getD i 0) := by rw [List.getD_eq_getElem?_getD, List.getElem?_eq_getElem hi]; rfl
  have hzI := hx.keys _ (List.mem_of_getElem? hgz)
  have htk := inR_take (m := made.length) hgz
  have hno := inR_no (m := made.length) hgz
  have hpk : pickL made (x.keys.take (i + 1)) = pickL made (x.keys.take i) ++ [made.getD (x.keys.getD i 0).toNat []] := by
   unfold pickL
   rw [List.take_add_one, hgz, List.map_append]; rfl
  generalize x.keys.getD i 0 = z at *
  (refine aoo fun K hK => ?_; simp (disch := first | omega | (simp only [lnS]; try omega)) [-getElem?_pos, -getElem?_neg, e11, e12, hi']; refine hK _ _ ?_; clear hK K)
  refine aw_seq ?_
  refine aw_t (by (first | (simp; done) | (simp; omega))) (by kernel_rfl) ?_
  refine aw_skip (aw_seq ?_)
  refine aw_block ?_
  (refine aw_seq (aoo fun K hK => ?_); simp (disch := first | omega | (simp only [lnS]; try omega)) [-getElem?_pos, -getElem?_neg, e10, e12, -xload, q5, -notTuple, hnt, q1, q3, -xindexAddr, q2]; refine hK _ _ ?_; clear hK K)
  refine aw_seq (aw_seq ?_)
  by_cases hz0 : z < 0
  ·have hf := hno (by omega)
   (refine aoo fun K hK => ?_; simp (disch := first | omega | (simp only [lnS]; try omega)) [-getElem?_pos, -getElem?_neg, hz0]; refine hK _ _ ?_; clear hK K)
   refine aw_t (by (first | (simp; done) | (simp; omega))) (by kernel_rfl) ?_
   (refine aw_seq (aoo fun K hK => ?_); simp (disch := first | omega | (simp only [lnS]; try omega)) [-getElem?_pos, -getElem?_neg]; refine hK _ _ ?_; clear hK K)
   (refine aw_ret ?_; simp (disch := first | omega | (simp only [lnS]; try omega)) [-getElem?_pos, -getElem?_neg, thenQ_ret, scopeQ_ret, inBlockQ_ret, RQ, resL, resV])
   exact ⟨lwH, .slice none 0 0, by rw [hf]; rfl, rfl, rfl, fun e => by rw [hf] at e; cases e⟩
  ·by_cases hzm : z < made.length
   ·have hz1 : 0 ≤ z ∧ z < made.length := by omega
    obtain ⟨w, rfl⟩ := Int.eq_ofNat_of_zero_le hz1.1
    have hw : w < made.length := by omega
    obtain ⟨qm, ym, m1, m2, m3, rfl, m4⟩ := mat2 w hw
    have m5 := m4 G lwH
    have hY32 : (made.getD w []).length = 32 := hk _ (by rw [List.getD_eq_getElem?_getD, List.getElem?_eq_getElem hw]; exact List.getElem_mem _)
    rw [show ((w : Nat) : Int).toNat = w from rfl] at hpk
    generalize made.getD w [] = Y at *
    have hK32 : K32 (pickL made (x.keys.take i)) := fun k hk2 => hk k (pickL_mem hin k hk2)
    have hkl : (pickL made (x.keys.take i)).length = i := by rw [pickL_len, List.length_take]; omega
    have hkr := kr_len hK32
    rw [hkl] at hkr
    have hrow1 : setR (List.map (fun j => (iv .u8 (zl 32))[j % 32]?.getD undef) (List.range 32)) 0 (iv .u8 Y) = iv .u8 Y := setR_all _ _ (by simp [hY32])
    have htY : (iv .u8 Y).take 32 = iv .u8 Y := List.take_of_length_le (by simp [hY32])
    have hxc : xcells 32 (.slice (some ⟨G.length, 0, none⟩) 1 1) (G ++ [some ⟨iv .u8 Y, 41, some 32⟩]) = some (iv .u8 Y) := by
     simp [xcells, hget_app0, hY32, htY]
    obtain ⟨v1, G1, F1, hap, ho1, hl1, hk1, hF1⟩ := ownF_appQ (P := Tryd.prog) (nro := nro) (t := 34) (e := 41) (H := G ++ [some ⟨iv .u8 Y, 41, some 32⟩]) (v := out) (x := .slice (some ⟨G.length, 0, none⟩) 1 1) (sz := 32) (cells := kr (pickL made (x.keys.take i))) (news := iv .u8 Y) (F := Fo) (by kernel_rfl) (by kernel_rfl) (by omega) (by kernel_rfl)
     (ho.low (fun j hj => hget_left (ho.lt j hj))) (fun j hj => by have := hFo j hj; omega) (fun s e => by cases e) hxc (by simp [hY32]) (by rw [hkr, show byt Tryd.prog 41 = 32 by kernel_rfl]; simp [hY32]; omega) (by rw [hkr]; simp [hY32, maxLen]; omega)
    have n1 := ownF_nt ho1
    have hl1' : G.length + 1 ≤ G1.length := by simpa using hl1
    have hz0' : ¬ (w : Int) < 0 := hz0
    have hzg : ¬ (made.length : Int) ≤ w := by omega
    (refine aoo fun K hK => ?_; simp (disch := first | omega | (simp only [lnS]; try omega)) [-getElem?_pos, -getElem?_neg, e0, hz0', hzm, hzg, -notTuple, mnt, -xlen, mxl]; refine hK _ _ ?_; clear hK K)
    refine aw_f (by (first | (simp; done) | (simp; omega))) (by kernel_rfl) ?_
    refine aw_skip ?_
    (refine aoo fun K hK => ?_; simp (disch := first | omega | (simp only [lnS]; try omega)) [-getElem?_pos, -getElem?_neg, e0, e6, -xload, m5, -notTuple, mnt, m1, m3, hto.1, -xindexAddr, m2, hrow1, hY32, htY, n1.1, n1.2, -xappend, hap]; refine hK _ _ ?_; clear hK K)
    (refine aoo fun K hK => ?_; simp (disch := first | omega | (simp only [lnS]; try omega)) [-getElem?_pos, -getElem?_neg, e12]; refine hK _ _ ?_; clear hK K)
    refine ⟨q - 1, by omega, i + 1, v1, F1, by omega, by (first | (simp [e0]; done) | rfl), by (first | (simp [e3]; done) | rfl), by (first | (simp; done) | rfl), by (first | (simp [e10]; done) | rfl), by (first | (simp [e11]; done) | rfl), by (first | (simp; done) | rfl), by rw [htk, hin]; exact decide_eq_true hz1, ⟨fun j hj => ?_, by omega⟩, ?_, fun j hj => ?_⟩
    ·rw [hk1 j (by simp; omega) (fun e => by have := hFo j e; omega), hget_left (by omega)]
     exact lwG.1 j hj
    ·rw [hpk, kr_app, kr_one]
     exact ho1
    ·have := hF1 j hj
     simp at this
     omega
   ·have hf := hno (by omega)
    have hzg : (made.length : Int) ≤ z := by omega
    (refine aoo fun K hK => ?_; simp (disch := first | omega | (simp only [lnS]; try omega)) [-getElem?_pos, -getElem?_neg, e0, hz0, hzm, hzg, -notTuple, mnt, -xlen, mxl]; refine hK _ _ ?_; clear hK K)
    refine aw_t (by (first | (simp; done) | (simp; omega))) (by kernel_rfl) ?_
    (refine aw_seq (aoo fun K hK => ?_); simp (disch := first | omega | (simp only [lnS]; try omega)) [-getElem?_pos, -getElem?_neg]; refine hK _ _ ?_; clear hK K)
    (refine aw_ret ?_; simp (disch := first | omega | (simp only [lnS]; try omega)) [-getElem?_pos, -getElem?_neg, thenQ_ret, scopeQ_ret, inBlockQ_ret, RQ, resL, resV])
    exact ⟨lwH, .slice none 0 0, by rw [hf]; rfl, rfl, rfl, fun e => by rw [hf] at e; cases e⟩
 ·obtain rfl : i = x.keys.length := by omega
  rw [List.take_of_length_le (Nat.le_refl _)] at ho hin
  have hkl := pickL_len made x.keys
  have hxo := ho.len (P := Tryd.prog) (t := 34) (n := x.keys.length) (by kernel_rfl) (by rw [kr_len (fun k hk2 => hk k (pickL_mem hin k hk2)), hkl]) (by decide)
  (refine aoo fun K hK => ?_; simp (disch := first | omega | (simp only [lnS]; try omega)) [-getElem?_pos, -getElem?_neg, e11, e12]; refine hK _ _ ?_; clear hK K)
  refine aw_seq ?_
  refine aw_f (by (first | (simp; done) | (simp; omega))) (by kernel_rfl) ?_
  refine aw_exit (aw_seq ?_)
  refine aoo fun K hK => ?_
  simp (disch := first | omega | (simp only [lnS]; try omega)) [-getElem?_pos, -getElem?_neg, e6, e3, -xload, ld0, -notTuple, hto.1, -xlen, hxo]
  refine ⟨by kernel_rfl, ac_of_vc (by simp [pv_iv, pv_int, pv_bool, pv_string, pv_tup2, pv_tup3, iv_plain, p2_int, p2_bool, p2_string]) hnd ?_⟩
  try simp (disch := first | omega | (simp only [lnS]; try omega)) [-getElem?_pos, -getElem?_neg, e6, -notTuple, hto.1, hto.2]
  refine hK _ _ ?_; clear hK K
  have hdb : decide ((needN x.kind : Int) ≤ x.keys.length) = decide (needN x.kind ≤ x.keys.length) := by
   rw [Bool.eq_iff_iff]; simp
  have fin : PickQ H made x (.tuple #[out, .bool (decide (needN x.kind ≤ x.keys.length))]) G := ⟨lwH, out, by rw [hin, Bool.true_and], hto.1, hto.2, fun _ => ⟨Fo, ho, fun j hj => by have := hFo j hj; omega⟩⟩
  (refine aw_ret ?_; simp (disch := first | omega | (simp only [lnS]; try omega)) [-getElem?_pos, -getElem?_neg, thenQ_ret, scopeQ_ret, inBlockQ_ret, RQ, resL, resV, hto.1, hto.2, -notTuple, hdb])
  exact fin
end
end
section
def KsP (H : AH) (F : List Nat) (v : Value) (ks : List (List Int)) : Prop := ∀ G : AH, H.length ≤ G.length → (∀ j, j < H.length → j ∉ F → hget G j = hget H j) → KsV G v ks
theorem KsP.now {H : AH} {F : List Nat} {v : Value} {ks : List (List Int)} (h : KsP H F v ks) : KsV H v ks := h H (Nat.le_refl _) (fun _ _ _ => rfl)
theorem KsP.fr {H H' : AH} {F F' : List Nat} {v : Value} {ks : List (List Int)} (h : KsP H F v ks) (f : Fr H H' F F') : KsP H' F' v ks := fun G hl hg => h G (Nat.le_trans f.len hl) (fun j hj hn => by
 rw [hg j (Nat.lt_of_lt_of_le hj f.len) (fun e => ?_), f.out j hj hn]
 rcases f.new j e with e1 | e1
 ·exact hn e1
 ·omega)
theorem KsP.at_ {H H' : AH} {F F' : List Nat} {v : Value} {ks : List (List Int)} (h : KsP H F v ks) (f : Fr H H' F F') : KsV H' v ks := (h.fr f).now
theorem ownF_ksp {H : AH} {F Fv : List Nat} {v : Value} {ks : List (List Int)} (h : OwnF H v 41 32 (kr ks) Fv) (hk : K32 ks) (hd : ∀ j ∈ Fv, j ∉ F) : KsP H F v ks := fun G hl hg => kr_ksv (h.low (fun j hj => hg j (h.lt j hj) (hd j hj))) hk
theorem ownK_ksp {lo : Nat} {H : AH} {F : List Nat} {v : Value} {ks : List (List Int)} (h : OwnK lo H v ks) (hk : K32 ks) (hd : ∀ j ∈ F, j < lo) : KsP H F v ks := fun G hl hg => own_ksv (h.low (fun j h1 h2 => hg j h2 (fun e => by have := hd j e; omega))) hk
theorem Fr.push {H G : AH} {F F' : List Nat} (h : Fr H G F F') (L : AH) : Fr H (G ++ L) F F' := ⟨by have := h.len; simp; omega, fun j hj hn => (hget_left (by have := h.len; omega)).trans (h.out j hj hn), h.new⟩
theorem TermQ.fr {H H' : AH} {b : Nat} {F : List Nat} {T : List TermD} {x : TermD} {v' : Value} (h : TermQ H b F T x v' H') : v' = .agg (iv .u8 (nmL (nameT x T))).toArray ∧ ∃ F', Fr H H' F F' ∧ Tbl H' b F' (addT x T) := by
 obtain ⟨h0, h1, h2, F', h3, h4⟩ := h
 exact ⟨h0, F', ⟨h1, h2, h4⟩, h3⟩
theorem low_fr {H H' : AH} (F : List Nat) (h : Low H.length H H') : Fr H H' F F := ⟨h.2, fun j hj _ => h.1 j hj, fun j hj => .inl hj⟩
def CkQ (H : AH) (b : Nat) (F : List Nat) (T' : List TermD) (new : List (List Int)) (v' : Value) (H' : AH) : Prop := ∃ F', Fr H H' F F' ∧ Tbl H' b F' T' ∧ KsP H' F' v' new
theorem KsP.nil (H : AH) (F : List Nat) : KsP H F (.slice none 0 0) [] := fun G _ _ => ks_nil G
theorem ck_one {H G : AH} {b : Nat} {F F' : List Nat} {T' : List TermD} {N : List Int} (f : Fr H G F F') (t : Tbl G b F' T') (hN : N.length = 32) : CkQ H b F T' [N] (.slice (some ⟨G.length, 0, none⟩) 1 1) (G ++ [some ⟨iv .u8 N, 41, some 32⟩]) := by
 refine ⟨F', f.push _, t.push _, fun D hl hg => ?_⟩
 refine keys1 hN ((hg G.length (by simp) (fun e => by have := t.bound _ e; omega)).trans (by rw [hget_app0]; rfl))
theorem ck_nil {H G : AH} {b : Nat} {F F' : List Nat} {T' : List TermD} (f : Fr H G F F') (t : Tbl G b F' T') : CkQ H b F T' [] (.slice none 0 0) G := ⟨F', f, t, KsP.nil _ _⟩
theorem KsP.nt {H : AH} {F : List Nat} {v : Value} {ks : List (List Int)} (h : KsP H F v ks) : notTuple v = true ∧ v.cells = #[v] := val_nt h.now
@[reducible] def CP (B : AH) (b : Nat) (F : List Nat) (T T1 : List TermD) (N : List Int) (s : Array Bool) (α : Fm) (G : AH) : Prop :=
 ∃ Fc, Fr B G F Fc ∧ Tbl G b Fc (if s.getD 8 false = true then T1 else T) ∧ (s.getD 12 false = true → ∃ r, α 9 = .pointer (some ⟨r, 0, none⟩) ∧ B.length ≤ r ∧ r ∉ Fc ∧ hget G r = some ⟨iv .u8 (if s.getD 13 false = true then N else zl 32), 41, none⟩)
theorem CP.keep {B : AH} {b : Nat} {F : List Nat} {T T1 : List TermD} {N : List Int} {s : Array Bool} {α : Fm} {G : AH} {i t : Nat} {v : Value} (hi : i ∉ [8, 12, 13]) (ht : t ≠ 9) (h : CP B b F T T1 N s α G) : CP B b F T T1 N (s.setIfInBounds i true) (α.put (some t) v) G := by
 simp only [List.mem_cons, List.not_mem_nil, or_false, not_or] at hi
 obtain ⟨Fc, w1, w2, w3⟩ := h
 refine ⟨Fc, w1, by rw [gs_ne hi.1]; exact w2, fun a => ?_⟩
 rw [gs_ne hi.2.1] at a
 rw [gs_ne hi.2.2]
 obtain ⟨r, x1, x2⟩ := w3 a
 exact ⟨r, by simpa [put_at, Ne.symm ht] using x1, x2⟩
theorem sealP_ac {nro : Nat} {γ : Nat → Option Nat} {H : AH} (hpw : Pw γ H) {b : Nat} {F : List Nat} {T : List TermD} (h : Tbl H b F T) (hnro : ∀ j ∈ F, nro ≤ j) (hnH : nro ≤ H.length) {k y : List Int} (hk : k.length = 32) (hy : y.length = 32) {s : ByteArray} {ks : List (List Int)} (hx : TermD.Wf ⟨6, s, k :: y :: ks⟩) {v : Value} (hP : PartK H H.length v ks) (hT : T.length ≤ 1000000) :
  AC Tryd.prog nro γ 27 #[.pointer (some ⟨b, 0, none⟩), .agg (iv .u8 k).toArray, .agg (iv .u8 y).toArray, .string s, v] H (SealQ H b F T ⟨6, s, k :: y :: ks⟩) := by
 unfold SealQ
 have hFl := h.bound
 have hv : notTuple v = true ∧ v.cells = #[v] := by
  obtain ⟨⟨a, c, rfl⟩, _⟩ := hP
  exact ⟨rfl, rfl⟩
 have k32 : K32 ks := fun z hz => hx.k32 z (by simp [hz])
 have hkm : ks.length ≤ 1000000 := by have := hx.many; simp at this; omega
 have htk : (iv .u8 k).take 32 = iv .u8 k := List.take_of_length_le (by simp [hk])
 have hty : (iv .u8 y).take 32 = iv .u8 y := List.take_of_length_le (by simp [hy])
 have hrow : setR (setR (List.map (fun j => (iv .u8 (zl 32))[j % 32]?.getD undef) (List.range 64)) 0 (iv .u8 k)) 32 (iv .u8 y) = iv .u8 k ++ iv .u8 y := row2 (by simp) (by simp [hk]) (by simp [hy])
 obtain ⟨N4, hN4⟩ : ∃ N4 : AH, N4 = [some ⟨iv .u8 k, 41, none⟩, some ⟨iv .u8 y, 41, none⟩, some ⟨iv .u8 k ++ iv .u8 y, 41, some 32⟩, some ⟨[.slice (some ⟨H.length + 2, 0, none⟩) 2 2, v], 34, some 1⟩] := ⟨_, rfl⟩
 have g2 : hget (H ++ N4) (H.length + 2) = some ⟨iv .u8 k ++ iv .u8 y, 41, some 32⟩ := by rw [hget_app, hN4]; rfl
 have g3 : hget (H ++ N4) (H.length + 3) = some ⟨[.slice (some ⟨H.length + 2, 0, none⟩) 2 2, v], 34, some 1⟩ := by rw [hget_app, hN4]; rfl
 have hlN : (H ++ N4).length = H.length + 4 := by rw [hN4]; simp
 have hcc := concatK_ac (nro := nro) (γ := γ) (H := H ++ N4) (v := undef) (j := H.length + 3) (xs := [.slice (some ⟨H.length + 2, 0, none⟩) 2 2, v]) (L := [[k, y], ks]) (fun l hl => by
   simp only [List.mem_cons, List.not_mem_nil, or_false] at hl
   rcases hl with rfl | rfl
   ·intro z hz
    simp only [List.mem_cons, List.not_mem_nil, or_false] at hz
    rcases hz with rfl | rfl
    ·exact hk
    ·exact hy
   ·exact k32) g3 rfl (fun i x c hx1 hc1 => by
   match i, hx1, hc1 with
   | 0, hx1, hc1 =>
    cases hx1
    cases hc1
    exact (keys2 hk hy g2).part (fun z hz => by
     simp only [List.mem_cons, List.not_mem_nil, or_false] at hz
     rcases hz with rfl | rfl
     ·exact hk
     ·exact hy)
   | 1, hx1, hc1 =>
    cases hx1
    cases hc1
    exact hP.keep (by simp) (fun j hj => hget_left hj)
   | i + 2, hx1, hc1 => simp at hx1) (by simp [sumK]; omega) (by simp) (by omega)
 have hfl : [[k, y], ks].flatten = k :: y :: ks := by simp
 rw [hfl] at hcc
 rw [hN4] at hcc
 have r2 : List.range 2 = [0, 1] := rfl
 have p1 : plain1 (.slice none 0 0) = true := rfl
 refine ac_of_aw Tryd.func27 rfl Tryd.ntmps27 Tryd.results27 (by simp) ?_
 (refine aw_seq (aoo fun K hK => ?_); simp (disch := first | omega | (simp only [lnS]; done) | (simp only [lnS]; omega)) [wb_bool, wb_undef, with_lit, XL_nil, XL_cons, XLc_val, XLc_call, step1_eq, stepW_t, stepW_f, stepC_n, stepC_s, stepX_s, stepX_n, stepN_s, calleeX, xrecv, oneV, xop_eq, xopR_s, xopR_n, wantedA_eq, wantedG_n, wantedG_s, plain1_int, plain1_bool, plain1_string, bits_i64, bits_u64, bits_u32, bits_u16, bits_u8, xeqA, xagg, xcmp, xarr, allK_iv, num_iv, calleeOf, xread, xeff, xbin, xint, xnil, xun, xstr, xload, xconv, xpart, xfield, xfieldAddr, xindexAddr, xindex, bnd, asInt?, xslice, xlen, xmin, xmax, xbuild, xfill, xappend, xapp2, xappstr, xappmk, xcap, xcopy, xcells, eval_tmp, eval_const, put_at, put_none, fr0_at, cells_agg, cells_int, cells_bool, cells_string, cells_ptr, cells_slice, notTuple, tab, iv_all, hget_app, hget_app0, hget_cons0, hget_cons, set_app, set_app0, setR, setR_one, QL_nil, QL_cons, QLc_val, stepQ_t, stepQ_f, stepQC_n, stepQC_s, stepQX_s, SL_nil, SL_cons, SLc_val, stepS_t, stepS_f, htk, hty, ltT, ltF, leT, leF, eqT, eqF, ltTn, ltFn, leTn, leFn, eqTn, eqFn, beqT, beqF, bneT, bneF, wi64, wu64, wu32, wu16, wu8, tmodP, tdivP, hgetL, hgetNe, hgetEq, setL, nums_def, nums_len, Nat.succ_le_of_lt, List.getElem?_cons_zero, List.getElem?_cons_succ, Option.getD_some, -getElem?_pos, -getElem?_neg, Int.toNat_add, Int.toNat_mul, agM, okM, agB, agI, agS, agP, agL, agA, okB, okI, okS, okP, okSl, okA]; refine hK _ _ ?_; clear hK K)
 refine aw_seq (aoo fun K hK => ?_)
 simp (disch := first | omega | (simp only [lnS]; done) | (simp only [lnS]; omega)) [wb_bool, wb_undef, with_lit, XL_nil, XL_cons, XLc_val, XLc_call, step1_eq, stepW_t, stepW_f, stepC_n, stepC_s, stepX_s, stepX_n, stepN_s, calleeX, xrecv, oneV, xop_eq, xopR_s, xopR_n, wantedA_eq, wantedG_n, wantedG_s, plain1_int, plain1_bool, plain1_string, bits_i64, bits_u64, bits_u32, bits_u16, bits_u8, xeqA, xagg, xcmp, xarr, allK_iv, num_iv, calleeOf, xread, xeff, xbin, xint, xnil, xun, xstr, xload, xconv, xpart, xfield, xfieldAddr, xindexAddr, xindex, bnd, asInt?, xslice, xlen, xmin, xmax, xbuild, xfill, xappend, xapp2, xappstr, xappmk, xcap, xcopy, xcells, eval_tmp, eval_const, put_at, put_none, fr0_at, cells_agg, cells_int, cells_bool, cells_string, cells_ptr, cells_slice, tab, iv_all, hget_app, hget_app0, hget_cons0, hget_cons, set_app, set_app0, setR, setR_one, QL_nil, QL_cons, QLc_val, stepQ_t, stepQ_f, stepQC_n, stepQC_s, stepQX_s, SL_nil, SL_cons, SLc_val, stepS_t, stepS_f, htk, hty, hrow, r2, p1, hv.1, hv.2, nt_aggG, nt_slG, ltT, ltF, leT, leF, eqT, eqF, ltTn, ltFn, leTn, leFn, eqTn, eqFn, beqT, beqF, bneT, bneF, wi64, wu64, wu32, wu16, wu8, tmodP, tdivP, hgetL, hgetNe, hgetEq, setL, nums_def, nums_len, Nat.succ_le_of_lt, List.getElem?_cons_zero, List.getElem?_cons_succ, Option.getD_some, -getElem?_pos, -getElem?_neg, Int.toNat_add, Int.toNat_mul, agM, okM, agB, agI, agS, agP, agL, agA, okB, okI, okS, okP, okSl, okA]
 refine ⟨by kernel_rfl, AC.mono hcc ?_⟩
 rintro v1 G ⟨ho, hlG, hkG⟩
 rw [← hN4] at ho hlG hkG
 have lwG : Low H.length H G := ⟨fun j hj => (hkG j (by omega)).trans (hget_left hj), by omega⟩
 have hvn := ho.nt
 have htm := term_ac (nro := nro) (γ := γ) (hpw.low lwG) (h.low (fun j hj => lwG.1 j (hFl j hj)) lwG.2) hnro (by omega) hx (v := v1) (fun D hD hj => by
  have : OwnK (H ++ N4).length D v1 (k :: y :: ks) := ho.low (fun j h1 h2 => hj j h2 (fun e => by have := hFl j e; omega))
  exact own_ksv this hx.k32) hT
 try simp (disch := first | omega | (simp only [lnS]; done) | (simp only [lnS]; omega)) [wb_bool, wb_undef, with_lit, XL_nil, XL_cons, XLc_val, XLc_call, step1_eq, stepW_t, stepW_f, stepC_n, stepC_s, stepX_s, stepX_n, stepN_s, calleeX, xrecv, oneV, xop_eq, xopR_s, xopR_n, wantedA_eq, wantedG_n, wantedG_s, plain1_int, plain1_bool, plain1_string, bits_i64, bits_u64, bits_u32, bits_u16, bits_u8, xeqA, xagg, xcmp, xarr, allK_iv, num_iv, calleeOf, xread, xeff, xbin, xint, xnil, xun, xstr, xload, xconv, xpart, xfield, xfieldAddr, xindexAddr, xindex, bnd, asInt?, xslice, xlen, xmin, xmax, xbuild, xfill, xappend, xapp2, xappstr, xappmk, xcap, xcopy, xcells, eval_tmp, eval_const, put_at, put_none, fr0_at, cells_agg, cells_int, cells_bool, cells_string, cells_ptr, cells_slice, tab, iv_all, hget_app, hget_app0, hget_cons0, hget_cons, set_app, set_app0, setR, setR_one, QL_nil, QL_cons, QLc_val, stepQ_t, stepQ_f, stepQC_n, stepQC_s, stepQX_s, SL_nil, SL_cons, SLc_val, stepS_t, stepS_f, hvn.1, hvn.2, ltT, ltF, leT, leF, eqT, eqF, ltTn, ltFn, leTn, leFn, eqTn, eqFn, beqT, beqF, bneT, bneF, wi64, wu64, wu32, wu16, wu8, tmodP, tdivP, hgetL, hgetNe, hgetEq, setL, nums_def, nums_len, Nat.succ_le_of_lt, List.getElem?_cons_zero, List.getElem?_cons_succ, Option.getD_some, -getElem?_pos, -getElem?_neg, Int.toNat_add, Int.toNat_mul, agM, okM, agB, agI, agS, agP, agL, agA, okB, okI, okS, okP, okSl, okA]
 refine ⟨by kernel_rfl, AC.mono htm ?_⟩
 intro v2 G3 hQ
 have hl3 : H.length ≤ G3.length := by have := hQ.2.1; omega
 have hn3 : nro ≤ G3.length := by omega
 have hdn := fun (A : AH) => hQ.down (A := A) lwG hFl rfl
 obtain rfl := hQ.1
 have lN : (nmL (nameT ⟨6, s, k :: y :: ks⟩ T)).length = 32 := rfl
 generalize nmL (nameT ⟨6, s, k :: y :: ks⟩ T) = N at *
 have ht : (iv .u8 N).take 32 = iv .u8 N := List.take_of_length_le (by simp [lN])
 have hs : setR (iv .u8 (zl 32)) 0 (iv .u8 N) = iv .u8 N := setR_all _ _ (by simp [lN])
 try simp (disch := first | omega | (simp only [lnS]; done) | (simp only [lnS]; omega)) [wb_bool, wb_undef, with_lit, XL_nil, XL_cons, XLc_val, XLc_call, step1_eq, stepW_t, stepW_f, stepC_n, stepC_s, stepX_s, stepX_n, stepN_s, calleeX, xrecv, oneV, xop_eq, xopR_s, xopR_n, wantedA_eq, wantedG_n, wantedG_s, plain1_int, plain1_bool, plain1_string, bits_i64, bits_u64, bits_u32, bits_u16, bits_u8, xeqA, xagg, xcmp, xarr, allK_iv, num_iv, calleeOf, xread, xeff, xbin, xint, xnil, xun, xstr, xload, xconv, xpart, xfield, xfieldAddr, xindexAddr, xindex, bnd, asInt?, xslice, xlen, xmin, xmax, xbuild, xfill, xappend, xapp2, xappstr, xappmk, xcap, xcopy, xcells, eval_tmp, eval_const, put_at, put_none, fr0_at, cells_agg, cells_int, cells_bool, cells_string, cells_ptr, cells_slice, notTuple, tab, iv_all, hget_app, hget_app0, hget_cons0, hget_cons, set_app, set_app0, setR, setR_one, QL_nil, QL_cons, QLc_val, stepQ_t, stepQ_f, stepQC_n, stepQC_s, stepQX_s, SL_nil, SL_cons, SLc_val, stepS_t, stepS_f, hn3, lN, ht, hs, ltT, ltF, leT, leF, eqT, eqF, ltTn, ltFn, leTn, leFn, eqTn, eqFn, beqT, beqF, bneT, bneF, wi64, wu64, wu32, wu16, wu8, tmodP, tdivP, hgetL, hgetNe, hgetEq, setL, nums_def, nums_len, Nat.succ_le_of_lt, List.getElem?_cons_zero, List.getElem?_cons_succ, Option.getD_some, -getElem?_pos, -getElem?_neg, Int.toNat_add, Int.toNat_mul, agM, okM, agB, agI, agS, agP, agL, agA, okB, okI, okS, okP, okSl, okA]
 refine hK _ _ ?_; clear hK K
 refine aw_seq ?_
 have hbl := byteList_iv N
 (refine aoo fun K hK => ?_; simp (disch := first | omega | (simp only [lnS]; done) | (simp only [lnS]; omega)) [wb_bool, wb_undef, with_lit, XL_nil, XL_cons, XLc_val, XLc_call, step1_eq, stepW_t, stepW_f, stepC_n, stepC_s, stepX_s, stepX_n, stepN_s, calleeX, xrecv, oneV, xop_eq, xopR_s, xopR_n, wantedA_eq, wantedG_n, wantedG_s, plain1_int, plain1_bool, plain1_string, bits_i64, bits_u64, bits_u32, bits_u16, bits_u8, xeqA, xagg, xcmp, xarr, allK_iv, num_iv, calleeOf, xread, xeff, xbin, xint, xnil, xun, xstr, xload, xconv, xpart, xfield, xfieldAddr, xindexAddr, xindex, bnd, asInt?, xslice, xlen, xmin, xmax, xbuild, xfill, xappend, xapp2, xappstr, xappmk, xcap, xcopy, xcells, eval_tmp, eval_const, put_at, put_none, fr0_at, cells_agg, cells_int, cells_bool, cells_string, cells_ptr, cells_slice, notTuple, tab, iv_all, hget_app, hget_app0, hget_cons0, hget_cons, set_app, set_app0, setR, setR_one, QL_nil, QL_cons, QLc_val, stepQ_t, stepQ_f, stepQC_n, stepQC_s, stepQX_s, SL_nil, SL_cons, SLc_val, stepS_t, stepS_f, lN, ht, hbl, ltT, ltF, leT, leF, eqT, eqF, ltTn, ltFn, leTn, leFn, eqTn, eqFn, beqT, beqF, bneT, bneF, wi64, wu64, wu32, wu16, wu8, tmodP, tdivP, hgetL, hgetNe, hgetEq, setL, nums_def, nums_len, Nat.succ_le_of_lt, List.getElem?_cons_zero, List.getElem?_cons_succ, Option.getD_some, -getElem?_pos, -getElem?_neg, Int.toNat_add, Int.toNat_mul, agM, okM, agB, agI, agS, agP, agL, agA, okB, okI, okS, okP, okSl, okA]; refine hK _ _ ?_; clear hK K)
 (refine aw_ret ?_; simp (disch := first | omega | (simp only [lnS]; done) | (simp only [lnS]; omega)) [wb_bool, wb_undef, with_lit, XL_nil, XL_cons, XLc_val, XLc_call, step1_eq, stepW_t, stepW_f, stepC_n, stepC_s, stepX_s, stepX_n, stepN_s, calleeX, xrecv, oneV, xop_eq, xopR_s, xopR_n, wantedA_eq, wantedG_n, wantedG_s, plain1_int, plain1_bool, plain1_string, bits_i64, bits_u64, bits_u32, bits_u16, bits_u8, xeqA, xagg, xcmp, xarr, allK_iv, num_iv, calleeOf, xread, xeff, xbin, xint, xnil, xun, xstr, xload, xconv, xpart, xfield, xfieldAddr, xindexAddr, xindex, bnd, asInt?, xslice, xlen, xmin, xmax, xbuild, xfill, xappend, xapp2, xappstr, xappmk, xcap, xcopy, xcells, eval_tmp, eval_const, put_at, put_none, fr0_at, cells_agg, cells_int, cells_bool, cells_string, cells_ptr, cells_slice, notTuple, tab, iv_all, hget_app, hget_app0, hget_cons0, hget_cons, set_app, set_app0, setR, setR_one, QL_nil, QL_cons, QLc_val, stepQ_t, stepQ_f, stepQC_n, stepQC_s, stepQX_s, SL_nil, SL_cons, SLc_val, stepS_t, stepS_f, thenQ_ret, scopeQ_ret, inBlockQ_ret, RQ, resL, resV, ltT, ltF, leT, leF, eqT, eqF, ltTn, ltFn, leTn, leFn, eqTn, eqFn, beqT, beqF, bneT, bneF, wi64, wu64, wu32, wu16, wu8, tmodP, tdivP, hgetL, hgetNe, hgetEq, setL, nums_def, nums_len, Nat.succ_le_of_lt, List.getElem?_cons_zero, List.getElem?_cons_succ, Option.getD_some, -getElem?_pos, -getElem?_neg, Int.toNat_add, Int.toNat_mul, agM, okM, agB, agI, agS, agP, agL, agA, okB, okI, okS, okP, okSl, okA])
 exact hdn _ (by simp) (fun j hj => hget_left hj)
end
section
attribute [local simp] wb_bool wb_undef with_lit XL_nil XL_cons XLc_val XLc_call step1_eq stepW_t stepW_f stepC_n stepC_s stepX_s stepX_n stepN_s calleeX xrecv oneV xop_eq xopR_s xopR_n wantedA_eq wantedG_n wantedG_s plain1_int plain1_bool plain1_string bits_i64 bits_u64 bits_u32 bits_u16 bits_u8 xeqA xagg xcmp xarr allK_iv num_iv calleeOf xread xeff xbin xint xnil xun xstr xload xconv xpart xfield xfieldAddr xindexAddr xindex bnd asInt? xslice xlen xmin xmax xbuild xfill xappend xapp2 xappstr xappmk xcap xcopy xcells eval_tmp eval_const put_at put_none fr0_at cells_agg cells_int cells_bool cells_string cells_ptr cells_slice notTuple tab iv_all hget_app hget_app0 hget_cons0 hget_cons set_app set_app0 setR setR_one QL_nil QL_cons QLc_val stepQ_t stepQ_f stepQC_n stepQC_s stepQX_s SL_nil SL_cons SLc_val stepS_t stepS_f ltT ltF leT leF eqT eqF ltTn ltFn leTn leFn eqTn eqFn beqT beqF bneT bneF wi64 wu64 wu32 wu16 wu8 tmodP tdivP hgetL hgetNe hgetEq setL nums_def nums_len Nat.succ_le_of_lt List.getElem?_cons_zero List.getElem?_cons_succ Option.getD_some Int.toNat_add Int.toNat_mul agM okM agB agI agS agP agL agA okB okI okS okP okSl okA nt_strG nt_boolG nt_aggG nt_intG nt_ptrG nt_slG XO_s XO_z XLk_val XLk_call headsO behind List.length_cons List.length_nil List.mem_cons List.not_mem_nil or_false forall_eq_or_imp forall_eq List.contains_cons List.contains_nil XOm
section
theorem maybe_vc {k : List Int} (hk : k.length = 32) (hb : By k) : VC Tryd.prog 56 #[.agg (iv .u8 k).toArray] (.bool (decide (nmL (plN k) = k))) := by
 refine vc_of_ac (by simp [pv_iv, pv_int, pv_bool, pv_string, pv_tup2, pv_tup3, iv_plain, p2_int, p2_bool, p2_string]) (by simp [pv_iv, pv_int, pv_bool, pv_string, pv_tup2, pv_tup3, iv_plain, p2_int, p2_bool, p2_string]) ?_
 have b4 := hb.get 4
 have b5 := hb.get 5
 have b6 := hb.get 6
 have b7 := hb.get 7
 have htk : (iv .u8 k).take 32 = iv .u8 k := List.take_of_length_le (by simp [hk])
 have g4 : (iv .u8 k)[4]? = some (.int .u8 (k.getD 4 0)) := iv_getN _ _ _ (by omega)
 have g5 : (iv .u8 k)[5]? = some (.int .u8 (k.getD 5 0)) := iv_getN _ _ _ (by omega)
 have g6 : (iv .u8 k)[6]? = some (.int .u8 (k.getD 6 0)) := iv_getN _ _ _ (by omega)
 have g7 : (iv .u8 k)[7]? = some (.int .u8 (k.getD 7 0)) := iv_getN _ _ _ (by omega)
 have hN : nmL (plN k) = 116 :: 101 :: 114 :: 109 :: k.getD 4 0 :: k.getD 5 0 :: k.getD 6 0 :: k.getD 7 0 :: zl 24 := by
  unfold nmL plN
  congr 8 <;> omega
 have lN : (nmL (plN k)).length = 32 := rfl
 have hkN : (k == nmL (plN k)) = decide (nmL (plN k) = k) := by rw [Bool.eq_iff_iff, beq_iff_eq, decide_eq_true_iff]; exact eq_comm
 generalize k.getD 4 0 = x4 at *
 generalize k.getD 5 0 = x5 at *
 generalize k.getD 6 0 = x6 at *
 generalize k.getD 7 0 = x7 at *
 generalize nmL (plN k) = N at *
 have e : ((((((((iv .u8 (zl 32)).set 0 (.int .u8 116)).set 1 (.int .u8 101)).set 2 (.int .u8 114)).set 3 (.int .u8 109)).set 4 (.int .u8 x4)).set 5 (.int .u8 x5)).set 6 (.int .u8 x6)).set 7 (.int .u8 x7) = iv .u8 N := by rw [hN]; rfl
 clear hN
 have htN : (iv .u8 N).take 32 = iv .u8 N := List.take_of_length_le (by simp [lN])
 have hsN : setR (iv .u8 (zl 32)) 0 (iv .u8 N) = iv .u8 N := setR_all _ _ (by simp [lN])
 refine ac_of_aw Tryd.func56 rfl Tryd.ntmps56 Tryd.results56 (by simp) ?_
 (refine aw_seq (aoo fun K hK => ?_); simp (disch := first | omega | (simp only [lnS]; try omega)) [-getElem?_pos, -getElem?_neg, htk]; refine hK _ _ ?_; clear hK K)
 (refine aw_seq (aoo fun K hK => ?_); simp (disch := first | omega | (simp only [lnS]; try omega)) [-getElem?_pos, -getElem?_neg, htk, g4, g5, g6, g7, e, lN, hsN]; refine hK _ _ ?_; clear hK K)
 (refine aw_seq (aoo fun K hK => ?_); simp (disch := first | omega | (simp only [lnS]; try omega)) [-getElem?_pos, -getElem?_neg, htk, htN, hkN]; refine hK _ _ ?_; clear hK K)
 (refine aw_ret ?_; simp (disch := first | omega | (simp only [lnS]; try omega)) [-getElem?_pos, -getElem?_neg, thenQ_ret, scopeQ_ret, inBlockQ_ret, RQ, resL, resV, hkN])
end
section
def ckAD : List (Option Nat) := [some 64, some 65, some 66, some 67, some 68, some 69, some 70, some 71, some 72, some 63, some 73, some 74, some 9, none, some 10]
def ckAP : List (List Nat) := [[], [0], [], [2], [3], [], [5], [6], [1, 4, 7], [8], [9], [9], [], [10, 12], [11]]
def ckAV (n b jk : Nat) (kv : Value) (X Y N : List Int) (ok : Bool) (i : Nat) (v : Value) : Prop := match i with
 | 0 => v = .pointer (some ⟨n, 0, none⟩)
 | 1 => v = .pointer (some ⟨b, 0, none⟩)
 | 2 => v = kv
 | 3 => v = .pointer (some ⟨jk, 0, none⟩)
 | 4 => v = .agg (iv .u8 X).toArray
 | 5 => v = kv
 | 6 => v = .pointer (some ⟨jk, 32, none⟩)
 | 7 => v = .agg (iv .u8 Y).toArray
 | 8 => v = .tuple #[.agg (iv .u8 N).toArray, .bool ok]
 | 9 => v = .tuple #[.agg (iv .u8 N).toArray, .bool ok]
 | 10 => v = .agg (iv .u8 N).toArray
 | 11 => v = .bool ok
 | 14 => v = .bool ok
 | _ => True
theorem ckA_nd : ∀ i j t : Nat, ckAD[i]? = some (some t) → ckAD[j]? = some (some t) → i = j := by
 have h : ∀ i < 15, ∀ j < 15, ∀ t : Nat, ckAD[i]? = some (some t) → ckAD[j]? = some (some t) → i = j := by
  intro i hi j hj t h1 h2
  have h3 : ckAD[i]? = ckAD[j]? := h1.trans h2.symm
  have h4 : (ckAD[i]?.bind id).isSome = true := by rw [h1]; rfl
  revert h3 h4
  clear h1 h2
  revert i j
  decide
 intro i j t hi hj
 exact h i (List.getElem?_eq_some_iff.1 hi).1 j (List.getElem?_eq_some_iff.1 hj).1 t hi hj
def ckBD : List (Option Nat) := [some 80, some 81, some 82, some 83, some 84, some 85, some 86, some 87, some 88, some 89, some 90, some 91, some 92, some 93, some 94, some 95, some 96, some 8]
def ckBP : List (List Nat) := [[], [0], [], [2], [], [4], [5], [], [7], [8], [], [10], [], [12], [3, 6, 9, 11, 13], [1, 14], [15], [16]]
def ckBV (n b jk : Nat) (kv zv : Value) (tx : ByteArray) (X Y N : List Int) (i : Nat) (v : Value) : Prop := match i with
 | 0 => v = .pointer (some ⟨n, 0, none⟩)
 | 1 => v = .pointer (some ⟨b, 0, none⟩)
 | 2 => v = .pointer (some ⟨n, 0, none⟩)
 | 3 => v = .pointer (some ⟨b, 0, none⟩)
 | 4 => v = kv
 | 5 => v = .pointer (some ⟨jk, 0, none⟩)
 | 6 => v = .agg (iv .u8 X).toArray
 | 7 => v = kv
 | 8 => v = .pointer (some ⟨jk, 32, none⟩)
 | 9 => v = .agg (iv .u8 Y).toArray
 | 10 => v = .pointer (some ⟨n + 1, 2, none⟩)
 | 11 => v = .string tx
 | 12 => v = kv
 | 13 => v = zv
 | 14 => v = .string (strOfNums N)
 | 15 => v = .agg (iv .u8 N).toArray
 | _ => True
theorem ckB_nd : ∀ i j t : Nat, ckBD[i]? = some (some t) → ckBD[j]? = some (some t) → i = j := by
 have h : ∀ i < 18, ∀ j < 18, ∀ t : Nat, ckBD[i]? = some (some t) → ckBD[j]? = some (some t) → i = j := by
  intro i hi j hj t h1 h2
  have h3 : ckBD[i]? = ckBD[j]? := h1.trans h2.symm
  have h4 : (ckBD[i]?.bind id).isSome = true := by rw [h1]; rfl
  revert h3 h4
  clear h1 h2
  revert i j
  decide
 intro i j t hi hj
 exact h i (List.getElem?_eq_some_iff.1 hi).1 j (List.getElem?_eq_some_iff.1 hj).1 t hi hj
def ckCD : List Nat := [100, 101, 102, 103, 104, 105, 106, 107, 108, 109, 110, 111, 112, 99, 113, 114, 115, 11, 12, 13]
def ckCP : List (List Nat) := [[], [0], [], [2], [3], [], [5], [6], [], [8], [9], [10], [1, 4, 7, 11], [12], [13], [13], [13], [14], [15], [16]]
def ckCV (lo n b jk : Nat) (kv : Value) (X Y Z : List Int) (u : ByteArray) (nk : List (List Int)) (ok : Bool) (G : AH) (i : Nat) (v : Value) : Prop := match i with
 | 0 => v = .pointer (some ⟨n, 0, none⟩)
 | 1 => v = .pointer (some ⟨b, 0, none⟩)
 | 2 => v = kv
 | 3 => v = .pointer (some ⟨jk, 0, none⟩)
 | 4 => v = .agg (iv .u8 X).toArray
 | 5 => v = kv
 | 6 => v = .pointer (some ⟨jk, 32, none⟩)
 | 7 => v = .agg (iv .u8 Y).toArray
 | 8 => v = kv
 | 9 => v = .pointer (some ⟨jk, 64, none⟩)
 | 10 => v = .slice (some ⟨jk, 64, none⟩) 32 33
 | 11 => v = .string (strOfNums Z)
 | 12 => ∃ w, v = .tuple #[.string u, w, .bool ok] ∧ OwnK lo G w nk
 | 13 => ∃ w, v = .tuple #[.string u, w, .bool ok] ∧ OwnK lo G w nk
 | 14 => v = .string u
 | 15 => OwnK lo G v nk
 | 16 => v = .bool ok
 | 17 => v = .string u
 | 18 => OwnK lo G v nk
 | 19 => v = .bool ok
 | _ => True
theorem lowFr {H0 B G : AH} {F Fc : List Nat} (h : Low H0.length H0 B) (hn : ∀ j ∈ F, H0.length ≤ j) (f : Fr B G F Fc) : Low H0.length H0 G := ⟨fun j hj => (f.out j (by have := h.2; omega) (fun e => by have := hn j e; omega)).trans (h.1 j hj), by have := h.2; have := f.len; omega⟩
theorem Fr.lo {B G : AH} {F Fc : List Nat} (f : Fr B G F Fc) {n : Nat} (hn : ∀ j ∈ F, n ≤ j) (hb : n ≤ B.length) : ∀ j ∈ Fc, n ≤ j := fun j hj => by
 rcases f.new j hj with e | e
 ·exact hn j e
 ·omega
theorem ld_tb {G : AH} {n b : Nat} (h : hget G n = some ⟨[.pointer (some ⟨b, 0, none⟩)], 27, none⟩) : xload Tryd.prog 25 (.pointer (some ⟨n, 0, none⟩)) G = some (.pointer (some ⟨b, 0, none⟩)) := by simp [xload, h]
theorem ld_tx {H G : AH} {C : List Value} {x : CookD} {kv : Value} (h : CkC H C x kv) (hx : x.Wf) {n : Nat} (hn : hget G n = some ⟨C, 43, none⟩) : xload Tryd.prog 9 (.pointer (some ⟨n, 2, none⟩)) G = some (.string x.text) := (h.loads hx hn).2.2.1
theorem key_str {G : AH} {j i : Nat} {ks : List (List Int)} {Z : List Int} (hk : K32 ks) (hZ : ks[i]? = some Z) (hb : hget G j = some ⟨kr ks, 41, some 32⟩) :
  xslice Tryd.prog 41 (.pointer (some ⟨j, i * 32, none⟩)) none none G = some (.slice (some ⟨j, i * 32, none⟩) 32 33) ∧ xconv Tryd.prog 96 9 (.slice (some ⟨j, i * 32, none⟩) 32 33) G = some (.string (strOfNums Z)) := by
 have lZ : Z.length = 32 := hk Z (List.mem_of_getElem? hZ)
 have h1 : und Tryd.prog 41 = .array 32 5 := by kernel_rfl
 have h2 : und Tryd.prog 96 = .slice 5 := by kernel_rfl
 have h3 : und Tryd.prog 5 = .int .u8 := by kernel_rfl
 have h4 : und Tryd.prog 9 = .string := by kernel_rfl
 have h5 : szt Tryd.prog 5 = 1 := by kernel_rfl
 refine ⟨?_, ?_⟩
 ·unfold xslice
  simp only [h1, bnd, h5, hb]
  simp
 ·unfold xconv
  simp only [h2, h3, h4, hb, kr_get hk hZ, byteList_iv, lZ, if_true]
theorem own_at {B : AH} {kv : Value} {ks : List (List Int)} {Fk : List Nat} (h : OwnF B kv 41 32 (kr ks) Fk) (hk : K32 ks) (h0 : 0 < ks.length) : ∃ jk, kv = .slice (some ⟨jk, 0, none⟩) ks.length ks.length ∧ hget B jk = some ⟨kr ks, 41, some 32⟩ ∧ jk ∈ Fk := by
 have hl := kr_len hk
 rcases h with ⟨_, h2, _⟩ | ⟨j, len, rfl, h3, h4, rfl⟩
 ·rw [h2] at hl
  simp at hl
  omega
 ·obtain rfl : len = ks.length := by omega
  exact ⟨j, rfl, h3, by simp⟩
theorem Tbl.wf {H : AH} {b : Nat} {F : List Nat} {T : List TermD} (h : Tbl H b F T) : ∀ x ∈ T, x.Wf := by
 obtain ⟨mb, tv, Ft, Fk, L, rfl, hL, _, _⟩ := h
 intro x hx
 obtain ⟨p, hp, rfl⟩ := List.mem_map.1 hx
 exact hL.wf p hp
theorem AgreeQ.fr {H H' : AH} {b : Nat} {F : List Nat} {T : List TermD} {s p : List Int} {v' : Value} (hq : AgreeQ H b F T s p v' H') (ht : Tbl H b F T) : v' = .tuple #[.agg (iv .u8 (agrK T s p)).toArray, .bool (agrB p)] ∧ ∃ F', Fr H H' F F' ∧ Tbl H' b F' (agrT2 T s p) := by
 unfold agrT2 agrK agrB
 rcases hq with ⟨h1, h2, h3⟩ | ⟨h1, v1, h2, h3⟩
 ·rw [if_pos h1, if_pos h1, decide_eq_true h1]
  exact ⟨h2, F, low_fr F h3, ht.low (fun j hj => h3.1 j (ht.bound j hj)) h3.2⟩
 ·rw [if_neg h1, if_neg h1, decide_eq_false h1]
  obtain ⟨e, F', f, t⟩ := h3.fr
  exact ⟨by rw [h2, e]; rfl, F', f, t⟩
@[reducible] def CB (B : AH) (b : Nat) (F : List Nat) (T T1 : List TermD) (N : List Int) (s : Array Bool) (α : Fm) (G : AH) : Prop :=
 ∃ Fc, Fr B G F Fc ∧ Tbl G b Fc (if s.getD 14 false = true then T1 else T) ∧ (s.getD 14 false = false → Low B.length B G) ∧ (s.getD 16 false = true → s.getD 15 false = true ∧ ∃ r, B.length ≤ r ∧ α 96 = .slice (some ⟨r, 0, none⟩) 1 1 ∧ (s.getD 17 false = true → α 8 = .slice (some ⟨r, 0, none⟩) 1 1) ∧ r ∉ Fc ∧ hget G r = some ⟨iv .u8 N, 41, some 32⟩)
theorem CB.keep {B : AH} {b : Nat} {F : List Nat} {T T1 : List TermD} {N : List Int} {s : Array Bool} {α : Fm} {G : AH} {i t : Nat} {v : Value} (hi : i ∉ [14, 15, 16, 17]) (ht : t ∉ [96, 8]) (h : CB B b F T T1 N s α G) : CB B b F T T1 N (s.setIfInBounds i true) (α.put (some t) v) G := by
 simp only [List.mem_cons, List.not_mem_nil, or_false, not_or] at hi ht
 obtain ⟨Fc, w1, w2, w3, w4⟩ := h
 refine ⟨Fc, w1, by rw [gs_ne hi.1]; exact w2, fun a => ?_, fun a => ?_⟩
 ·rw [gs_ne hi.1] at a
  exact w3 a
 ·rw [gs_ne hi.2.2.1] at a
  rw [gs_ne hi.2.2.2, gs_ne hi.2.1]
  obtain ⟨x4, r, x0, x1, x2, x3⟩ := w4 a
  exact ⟨x4, r, x0, by simpa [put_at, Ne.symm ht.1] using x1, fun b => by simpa [put_at, Ne.symm ht.2] using x2 b, x3⟩
theorem ckC_st' {lo n b jk : Nat} {kv : Value} {X Y Z : List Int} {u : ByteArray} {nk : List (List Int)} {ok : Bool} : ∀ (G1 G2 : AH) (i : Nat) (v : Value), G1.length ≤ G2.length → (∀ j, j < G1.length → hget G2 j = hget G1 j) → ckCV lo n b jk kv X Y Z u nk ok G1 i v → ckCV lo n b jk kv X Y Z u nk ok G2 i v := fun G1 G2 i v h1 h2 h => by
 have up : ∀ w, OwnK lo G1 w nk → OwnK lo G2 w nk := fun w hw => hw.low (fun j _ hj => h2 j hj)
 unfold ckCV at h ⊢
 split at h
 all_goals first | exact h | exact up _ h | (obtain ⟨w, w1, w2⟩ := h; exact ⟨w, w1, up _ w2⟩)
end
section
theorem cooked_ac {γ : Nat → Option Nat} {H0 H : AH} (hpw : Pw γ H0) (lw0 : Low H0.length H0 H) {b : Nat} {F : List Nat} {T : List TermD} (h : Tbl H b F T) (hnro : ∀ j ∈ F, H0.length ≤ j) {sv kv : Value} {seen ks : List (List Int)} (hsv : KsP H F sv seen) (hs32 : ∀ k ∈ seen, k.length = 32) {Fk : List Nat} (hkv : OwnF H kv 41 32 (kr ks) Fk) (hFk : ∀ j ∈ Fk, j ∉ F) (hk32 : ∀ k ∈ ks, k.length = 32 ∧ By k) (hkm : ks.length ≤ 1000)
  {C : List Value} {x : CookD} {xv : Value} (hc : CkC H C x xv) (hx : x.Wf) (hxt : x.text.size ≤ 1000) (hneed : needN x.kind ≤ ks.length) (hT : T.length ≤ 900000) :
  AC Tryd.prog H0.length γ 34 #[.agg #[.pointer (some ⟨b, 0, none⟩)], sv, kv, .agg C.toArray] H (CkQ H b F (cookM T seen ks x).1 (cookM T seen ks x).2) := by
 have cl := hc.len
 have hFl := h.bound
 have k32 : K32 ks := fun k hk => (hk32 k hk).1
 have kby : ∀ k ∈ ks, By k := fun k hk => (hk32 k hk).2
 obtain ⟨B, hB⟩ : ∃ B : AH, B = H ++ [some ⟨[.pointer (some ⟨b, 0, none⟩)], 27, none⟩, some ⟨C, 43, none⟩] := ⟨_, rfl⟩
 have gT : hget B H.length = some ⟨[.pointer (some ⟨b, 0, none⟩)], 27, none⟩ := by rw [hB, hget_app0]; rfl
 have gC : hget B (H.length + 1) = some ⟨C, 43, none⟩ := by rw [hB, hget_app]; rfl
 have hBl : B.length = H.length + 2 := by rw [hB]; simp
 have lwB : Low H.length H B := by rw [hB]; exact Low.push (Nat.le_refl _) _
 have f0 : Fr H B F F := low_fr F lwB
 have tB : Tbl B b F T := h.low (fun j hj => lwB.1 j (hFl j hj)) lwB.2
 have lwB0 : Low H0.length H0 B := lowFr lw0 hnro f0
 have pB : Pw γ B := hpw.low lwB0
 have ksB : KsP B F kv ks := (ownF_ksp hkv k32 hFk).fr f0
 have svB : KsP B F sv seen := hsv.fr f0
 have okv : OwnF B kv 41 32 (kr ks) Fk := hkv.low (fun j hj => lwB.1 j (hkv.lt j hj))
 have hnH := lw0.2
 have hnB : H0.length ≤ B.length := by omega
 have ldT : xload Tryd.prog 25 (.pointer (some ⟨H.length, 0, none⟩)) B = some (.pointer (some ⟨b, 0, none⟩)) := by simp [xload, gT]
 obtain ⟨ld0, ld1, ld2, _, ld4, _⟩ := hc.loads hx gC
 have hkacc := ksB.now.acc k32
 obtain ⟨knt, kcs, kxl, kat⟩ := hkacc
 have hsacc := svB.now.acc hs32
 obtain ⟨snt, scs, sxl, sat⟩ := hsacc
 have g0 : 0 < ks.length → (ks.getD 0 []).length = 32 ∧ By (ks.getD 0 []) := fun h0 => by
  rw [List.getD_eq_getElem?_getD, List.getElem?_eq_getElem h0]
  exact hk32 _ (List.getElem_mem _)
 have g1 : 1 < ks.length → (ks.getD 1 []).length = 32 ∧ By (ks.getD 1 []) := fun h0 => by
  rw [List.getD_eq_getElem?_getD, List.getElem?_eq_getElem h0]
  exact hk32 _ (List.getElem_mem _)
 have g2 : 2 < ks.length → (ks.getD 2 []).length = 32 ∧ By (ks.getD 2 []) := fun h0 => by
  rw [List.getD_eq_getElem?_getD, List.getElem?_eq_getElem h0]
  exact hk32 _ (List.getElem_mem _)
 have hpl : plain1 (.slice none 0 0) = true := rfl
 unfold cookM
 refine ac_of_aw Tryd.func34 rfl Tryd.ntmps34 Tryd.results34 (by simp) ?_
 (refine aw_seq (aoo fun K hK => ?_); simp (disch := first | omega | (simp only [lnS]; try omega)) [-getElem?_pos, -getElem?_neg, cl]; refine hK _ _ ?_; clear hK K)
 rw [← hB]
 clear hB
 refine aw_seq (aw_seq ?_)
 (refine aoo fun K hK => ?_; simp (disch := first | omega | (simp only [lnS]; try omega)) [-getElem?_pos, -getElem?_neg, -xload, ld0, -notTuple]; refine hK _ _ ?_; clear hK K)
 refine aw_block ?_
 refine aw_seq ?_
 by_cases h1 : x.kind = 1
 ·rw [h1]
  (refine aoo fun K hK => ?_; simp (disch := first | omega | (simp only [lnS]; try omega)) [-getElem?_pos, -getElem?_neg]; refine hK _ _ ?_; clear hK K)
  refine aw_t (by (first | (simp; done) | (simp; omega))) (by kernel_rfl) ?_
  refine aw_seq ?_
  rw [if_pos rfl]
  by_cases hn0 : 0 ≤ x.n
  ·by_cases hn1 : x.n < seen.length
   ·rw [if_pos ⟨hn0, hn1⟩]
    obtain ⟨w, hw⟩ := Int.eq_ofNat_of_zero_le hn0
    rw [hw] at ld1 hn1 ⊢
    have hw2 : w < seen.length := by omega
    obtain ⟨qa, y, q1, q2, q3, rfl, q4⟩ := sat w hw2
    have q5 := q4 B (Low.refl (Nat.le_refl _))
    have hY : (seen.getD w []).length = 32 := hs32 _ (by rw [List.getD_eq_getElem?_getD, List.getElem?_eq_getElem hw2]; exact List.getElem_mem _)
    rw [show ((w : Nat) : Int).toNat = w from rfl]
    generalize seen.getD w [] = Y at *
    have htY : (iv .u8 Y).take 32 = iv .u8 Y := List.take_of_length_le (by simp [hY])
    have hrow1 : setR (List.map (fun j => (iv .u8 (zl 32))[j % 32]?.getD undef) (List.range 32)) 0 (iv .u8 Y) = iv .u8 Y := setR_all _ _ (by simp [hY])
    (refine aoo fun K hK => ?_; simp (disch := first | omega | (simp only [lnS]; try omega)) [-getElem?_pos, -getElem?_neg, -xload, ld1, -notTuple, snt, -xlen, sxl, hn1]; refine hK _ _ ?_; clear hK K)
    refine aw_t (by (first | (simp; done) | (simp; omega))) (by kernel_rfl) ?_
    (refine aw_seq (aoo fun K hK => ?_); simp (disch := first | omega | (simp only [lnS]; try omega)) [-getElem?_pos, -getElem?_neg, -xload, ld1, q5, -notTuple, snt, q1, q3, -xindexAddr, q2, hY, htY, hrow1, hpl]; refine hK _ _ ?_; clear hK K)
    (refine aw_ret ?_; simp (disch := first | omega | (simp only [lnS]; try omega)) [-getElem?_pos, -getElem?_neg, thenQ_ret, scopeQ_ret, inBlockQ_ret, RQ, resL, resV, -notTuple])
    exact ck_one f0 tB hY
   ·rw [if_neg (fun e => hn1 e.2)]
    (refine aoo fun K hK => ?_; simp (disch := first | omega | (simp only [lnS]; try omega)) [-getElem?_pos, -getElem?_neg, -xload, ld1, -notTuple, snt, -xlen, sxl, hn0, hn1]; refine hK _ _ ?_; clear hK K)
    refine aw_f (by (first | (simp; done) | (simp; omega))) (by kernel_rfl) ?_
    refine aw_skip (aw_seq ?_)
    (refine aoo fun K hK => ?_; simp (disch := first | omega | (simp only [lnS]; try omega)) [-getElem?_pos, -getElem?_neg]; refine hK _ _ ?_; clear hK K)
    (refine aw_ret ?_; simp (disch := first | omega | (simp only [lnS]; try omega)) [-getElem?_pos, -getElem?_neg, thenQ_ret, scopeQ_ret, inBlockQ_ret, RQ, resL, resV])
    exact ck_nil f0 tB
  ·rw [if_neg (fun e => hn0 e.1)]
   (refine aoo fun K hK => ?_; simp (disch := first | omega | (simp only [lnS]; try omega)) [-getElem?_pos, -getElem?_neg, -xload, ld1, -notTuple, snt, -xlen, sxl, hn0]; refine hK _ _ ?_; clear hK K)
   refine aw_f (by (first | (simp; done) | (simp; omega))) (by kernel_rfl) ?_
   refine aw_skip (aw_seq ?_)
   (refine aoo fun K hK => ?_; simp (disch := first | omega | (simp only [lnS]; try omega)) [-getElem?_pos, -getElem?_neg]; refine hK _ _ ?_; clear hK K)
   (refine aw_ret ?_; simp (disch := first | omega | (simp only [lnS]; try omega)) [-getElem?_pos, -getElem?_neg, thenQ_ret, scopeQ_ret, inBlockQ_ret, RQ, resL, resV])
   exact ck_nil f0 tB
 rw [if_neg h1]
 (refine aoo fun K hK => ?_; simp (disch := first | omega | (simp only [lnS]; try omega)) [-getElem?_pos, -getElem?_neg, h1]; refine hK _ _ ?_; clear hK K)
 refine aw_f (by (first | (simp; done) | (simp; omega))) (by kernel_rfl) ?_
 refine aw_seq ?_
 by_cases h2 : x.kind = 2
 ·rw [if_pos (.inl h2)]
  have ht : ckT T ks x = ⟨1, foeS ++ x.text, []⟩ := by unfold ckT; rw [if_pos h2]
  rw [ht]
  have hdr := draw_ac (nro := H0.length) (γ := γ) (s := foeS ++ x.text) pB tB hnro hnB (by rw [ByteArray.size_append]; show 4 + _ ≤ _; omega) (by omega)
  have hfs : (⟨#[102, 111, 101, 32]⟩ : ByteArray) ++ x.text = foeS ++ x.text := rfl
  have hba : (⟨#[102, 111, 101, 32]⟩ : ByteArray).size + x.text.size ≤ 9223372036854775807 := by show 4 + x.text.size ≤ _; omega
  rw [h2]
  (refine aoo fun K hK => ?_; simp (disch := first | omega | (simp only [lnS]; try omega)) [-getElem?_pos, -getElem?_neg]; refine hK _ _ ?_; clear hK K)
  refine aw_t (by (first | (simp; done) | (simp; omega))) (by kernel_rfl) ?_
  refine aw_seq (aoo fun K hK => ?_)
  simp (disch := first | omega | (simp only [lnS]; try omega)) [-getElem?_pos, -getElem?_neg, -xload, ldT, ld2, -notTuple, hba, hfs]
  refine ⟨by kernel_rfl, AC.mono hdr ?_⟩
  intro v1 G hQ
  obtain ⟨rfl, F1, f1, t1⟩ := hQ.fr
  have lN : (nmL (nameT ⟨1, foeS ++ x.text, []⟩ T)).length = 32 := rfl
  generalize nmL (nameT ⟨1, foeS ++ x.text, []⟩ T) = N at *
  have htN : (iv .u8 N).take 32 = iv .u8 N := List.take_of_length_le (by simp [lN])
  have hrow1 : setR (List.map (fun j => (iv .u8 (zl 32))[j % 32]?.getD undef) (List.range 32)) 0 (iv .u8 N) = iv .u8 N := setR_all _ _ (by simp [lN])
  try simp (disch := first | omega | (simp only [lnS]; try omega)) [-getElem?_pos, -getElem?_neg, lN, htN, hrow1, hpl, -notTuple]
  refine hK _ _ ?_; clear hK K
  (refine aw_ret ?_; simp (disch := first | omega | (simp only [lnS]; try omega)) [-getElem?_pos, -getElem?_neg, thenQ_ret, scopeQ_ret, inBlockQ_ret, RQ, resL, resV, -notTuple])
  exact ck_one (f0.trans f1) t1 lN
 (refine aoo fun K hK => ?_; simp (disch := first | omega | (simp only [lnS]; try omega)) [-getElem?_pos, -getElem?_neg, h2]; refine hK _ _ ?_; clear hK K)
 refine aw_f (by (first | (simp; done) | (simp; omega))) (by kernel_rfl) ?_
 refine aw_seq ?_
 by_cases h3 : x.kind = 3
 ·rw [if_pos (.inr (.inl h3))]
  have ht : ckT T ks x = ⟨2, x.text, ks⟩ := by unfold ckT; rw [if_neg h2, if_pos h3]
  rw [ht]
  have hw : TermD.Wf ⟨2, x.text, ks⟩ := ⟨by show 2 ≤ 6; omega, by show x.text.size ≤ _; omega, k32, kby, by show ks.length ≤ _; omega, fun e => (by cases e), fun e => (by cases e), fun e => (by cases e)⟩
  have hh := hash_ac (nro := H0.length) (γ := γ) pB tB hnro hnB hw ksB (by omega)
  rw [h3]
  (refine aoo fun K hK => ?_; simp (disch := first | omega | (simp only [lnS]; try omega)) [-getElem?_pos, -getElem?_neg]; refine hK _ _ ?_; clear hK K)
  refine aw_t (by (first | (simp; done) | (simp; omega))) (by kernel_rfl) ?_
  refine aw_seq (aoo fun K hK => ?_)
  simp (disch := first | omega | (simp only [lnS]; try omega)) [-getElem?_pos, -getElem?_neg, -xload, ldT, ld2, -notTuple, knt]
  refine ⟨by kernel_rfl, AC.mono hh ?_⟩
  intro v1 G hQ
  obtain ⟨rfl, F1, f1, t1⟩ := hQ.fr
  have lN : (nmL (nameT ⟨2, x.text, ks⟩ T)).length = 32 := rfl
  generalize nmL (nameT ⟨2, x.text, ks⟩ T) = N at *
  have htN : (iv .u8 N).take 32 = iv .u8 N := List.take_of_length_le (by simp [lN])
  have hrow1 : setR (List.map (fun j => (iv .u8 (zl 32))[j % 32]?.getD undef) (List.range 32)) 0 (iv .u8 N) = iv .u8 N := setR_all _ _ (by simp [lN])
  try simp (disch := first | omega | (simp only [lnS]; try omega)) [-getElem?_pos, -getElem?_neg, lN, htN, hrow1, hpl, -notTuple]
  refine hK _ _ ?_; clear hK K
  (refine aw_ret ?_; simp (disch := first | omega | (simp only [lnS]; try omega)) [-getElem?_pos, -getElem?_neg, thenQ_ret, scopeQ_ret, inBlockQ_ret, RQ, resL, resV, -notTuple])
  exact ck_one (f0.trans f1) t1 lN
 (refine aoo fun K hK => ?_; simp (disch := first | omega | (simp only [lnS]; try omega)) [-getElem?_pos, -getElem?_neg, h3]; refine hK _ _ ?_; clear hK K)
 refine aw_f (by (first | (simp; done) | (simp; omega))) (by kernel_rfl) ?_
 refine aw_seq ?_
 by_cases h4 : x.kind = 4
 ·rw [if_pos (.inr (.inr (.inl h4)))]
  have ht : ckT T ks x = ⟨3, ⟨#[]⟩, [ks.getD 0 []]⟩ := by unfold ckT; rw [if_neg h2, if_neg h3, if_pos h4]
  rw [ht]
  have hl0 : 0 < ks.length := by rw [h4] at hneed; exact hneed
  obtain ⟨l0, b0⟩ := g0 hl0
  obtain ⟨qa, y, q1, q2, q3, rfl, q4⟩ := kat 0 hl0
  have q5 := q4 B (Low.refl (Nat.le_refl _))
  have q2 : xindexAddr Tryd.prog 34 kv (.int .i64 0) = some qa := q2
  generalize ks.getD 0 [] = Y at *
  have hh := pubT_ac (nro := H0.length) (γ := γ) pB tB hnro hnB l0 b0 (by omega)
  rw [h4]
  (refine aoo fun K hK => ?_; simp (disch := first | omega | (simp only [lnS]; try omega)) [-getElem?_pos, -getElem?_neg]; refine hK _ _ ?_; clear hK K)
  refine aw_t (by (first | (simp; done) | (simp; omega))) (by kernel_rfl) ?_
  refine aw_seq ?_
  (refine aw_plan [] [] [0, 1, 2, 3, 4] 5 3 (by kernel_rfl) (by kernel_rfl) (by kernel_rfl) (fun K hK => ?_)); simp only [sel, List.getElem?_cons_succ, List.getElem?_cons_zero, List.drop_succ_cons, List.drop_zero]; simp (disch := first | omega | (simp only [lnS]; try omega)) [-getElem?_pos, -getElem?_neg, -xload, ldT, q5, -notTuple, knt, q1, -xindexAddr, q2, hpl, PL_nil, plainB_lit, PL_cons, PLc_val, PLc_new, stepP_t, stepP_f, stepPC_n, stepPC_s, stepPX_s, stepPX_n, stepPV_n, stepPV_s, stepPA_t, stepPA_c, stepPA_l, stepPN_s, allocOp, reloc_sl, reloc_ptr, List.map_cons, List.map_nil, List.nil_append, List.append_assoc, List.cons_append, Nat.add_assoc]
  refine ⟨by kernel_rfl, AC.mono hh ?_⟩
  intro v1 G hQ
  obtain ⟨rfl, F1, f1, t1⟩ := hQ.fr
  have lN : (nmL (nameT ⟨3, ⟨#[]⟩, [Y]⟩ T)).length = 32 := rfl
  generalize nmL (nameT ⟨3, ⟨#[]⟩, [Y]⟩ T) = N at *
  have htN : (iv .u8 N).take 32 = iv .u8 N := List.take_of_length_le (by simp [lN])
  have hrow1 : setR (List.map (fun j => (iv .u8 (zl 32))[j % 32]?.getD undef) (List.range 32)) 0 (iv .u8 N) = iv .u8 N := setR_all _ _ (by simp [lN])
  try simp (disch := first | omega | (simp only [lnS]; try omega)) [-getElem?_pos, -getElem?_neg, lN, htN, hrow1, hpl, -notTuple]
  refine hK _ _ ?_; clear hK K
  (refine aw_ret ?_; simp (disch := first | omega | (simp only [lnS]; try omega)) [-getElem?_pos, -getElem?_neg, thenQ_ret, scopeQ_ret, inBlockQ_ret, RQ, resL, resV, -notTuple])
  exact ck_one (f0.trans f1) t1 lN
 (refine aoo fun K hK => ?_; simp (disch := first | omega | (simp only [lnS]; try omega)) [-getElem?_pos, -getElem?_neg, h4]; refine hK _ _ ?_; clear hK K)
 refine aw_f (by (first | (simp; done) | (simp; omega))) (by kernel_rfl) ?_
 refine aw_seq ?_
 by_cases h5 : x.kind = 5
 ·rw [if_neg (by simp [h2, h3, h4, h5]), if_pos h5]
  have ht : ckT T ks x = agreeT T (ks.getD 0 []) (ks.getD 1 []) := by unfold ckT; rw [if_neg h2, if_neg h3, if_neg h4, if_pos h5]
  rw [ht]
  have hl1 : 1 < ks.length := by rw [h5] at hneed; exact hneed
  obtain ⟨lX, bX⟩ := g0 (by omega)
  obtain ⟨lY, bY⟩ := g1 hl1
  have hX : ks[0]? = some (ks.getD 0 []) := by rw [List.getD_eq_getElem?_getD, List.getElem?_eq_getElem (by omega : 0 < ks.length)]; rfl
  have hY : ks[1]? = some (ks.getD 1 []) := by rw [List.getD_eq_getElem?_getD, List.getElem?_eq_getElem hl1]; rfl
  obtain ⟨jk, hkvd, gk, hjk⟩ := own_at okv k32 (by omega)
  have nk : jk ∉ F := hFk jk hjk
  have ax : xindexAddr Tryd.prog 34 kv (.int .i64 0) = some (.pointer (some ⟨jk, 0, none⟩)) := by rw [hkvd]; exact kr_addr (n := ks.length) (b := jk) (j := 0) (by omega)
  have ay : xindexAddr Tryd.prog 34 kv (.int .i64 1) = some (.pointer (some ⟨jk, 32, none⟩)) := by rw [hkvd]; exact kr_addr (n := ks.length) (b := jk) (j := 1) (by omega)
  obtain ⟨n, hn⟩ : ∃ n, n = H.length := ⟨_, rfl⟩
  rw [← hn] at gT gC
  have nT : n ∉ F := fun e => by have := hFl _ e; omega
  generalize ks.getD 0 [] = X at *
  generalize ks.getD 1 [] = Y at *
  have lN : (agrK T X Y).length = 32 := by unfold agrK; split <;> rfl
  have hN : agrB Y = true → agrK T X Y = nmL (nameT (agreeT T X Y) T : Nat) ∧ agrT2 T X Y = addT (agreeT T X Y) T := fun e => by
   have : Y ≠ zl 32 := by simpa [agrB] using e
   unfold agrK agrT2
   rw [if_neg this, if_neg this]; exact ⟨rfl, rfl⟩
  have hN0 : agrB Y = false → Y = zl 32 ∧ agrT2 T X Y = T := fun e => by
   have : Y = zl 32 := by simpa [agrB] using e
   unfold agrT2
   rw [if_pos this]; exact ⟨this, rfl⟩
  have hN1 : agrB Y = true → Y ≠ zl 32 := fun e => by simpa [agrB] using e
  rw [h5]
  generalize hNd : agrK T X Y = N at *
  generalize hOk : agrB Y = ok at *
  generalize hTd : agrT2 T X Y = T1 at *
  have sN : setR (iv .u8 (zl 32)) 0 (iv .u8 N) = iv .u8 N := setR_all _ _ (by simp [lN])
  have tN : (iv .u8 N).take 32 = iv .u8 N := List.take_of_length_le (by simp [lN])
  have rN : setR (List.map (fun j => (iv .u8 (zl 32))[j % 32]?.getD undef) (List.range 32)) 0 (iv .u8 N) = iv .u8 N := setR_all _ _ (by simp [lN])
  (refine aoo fun K hK => ?_; simp (disch := first | omega | (simp only [lnS]; try omega)) [-getElem?_pos, -getElem?_neg]; refine hK _ _ ?_; clear hK K)
  refine aw_t (by (first | (simp; done) | (simp; omega))) (by kernel_rfl) ?_
  refine aw_seq ?_
  refine name_aw (fun β hβ => ?_)
  have e4 : β 4 = .pointer (some ⟨n, 0, none⟩) := by rw [hβ, hn]; (first | (simp; done) | rfl)
  have e7 : β 7 = .pointer (some ⟨n + 1, 0, none⟩) := by rw [hβ, hn]; (first | (simp; done) | rfl)
  have e2 : β 2 = kv := by rw [hβ]; (first | (simp; done) | rfl)
  clear hβ
  refine aw_inv ckAP (JT ckAD (ckAV n b jk kv X Y N ok) β (CP B b F T T1 N)) (by kernel_rfl) (by kernel_rfl) (by kernel_rfl) ?_ ?_ ?_
  ·exact ⟨by simp; rfl, fun _ _ => rfl, fun i t' hi h => (by rw [gs_0] at h; cases h), F, Fr.refl _ _, (by rw [gs_0]; exact tB), fun h => (by rw [gs_0] at h; cases h)⟩
  ·intro i s α G k hJ hi0 hsi hd hcc hcont
   obtain ⟨Fc, jf, jt, ja⟩ := hJ.hp
   have j4 := (hJ.lo 4 (by decide)).trans e4
   have j2 := (hJ.lo 2 (by decide)).trans e2
   have gT := (jf.out _ (hget_lt gT) nT).trans gT
   have gk := (jf.out _ (hget_lt gk) nk).trans gk
   have ldT := ld_tb gT
   have ldX := kr_load k32 hX gk
   have ldY := kr_load k32 hY gk
   have jl := jf.len
   have hi : i = 0 ∨ i = 1 ∨ i = 2 ∨ i = 3 ∨ i = 4 ∨ i = 5 ∨ i = 6 ∨ i = 7 ∨ i = 8 ∨ i = 9 ∨ i = 10 ∨ i = 11 ∨ i = 12 ∨ i = 13 ∨ i = 14 := by have hi0 : i < 15 := hi0; omega
   rcases hi with rfl | rfl | rfl | rfl | rfl | rfl | rfl | rfl | rfl | rfl | rfl | rfl | rfl | rfl | rfl
   ·simp (disch := first | omega | (simp only [lnS]; try omega)) [-getElem?_pos, -getElem?_neg, -notTuple, knt, j4]
    exact hcont _ _ (hJ.put ckA_nd (t := 64) rfl rfl (hJ.hp.keep (by decide) (by decide)))
   ·have f0 : α 64 = .pointer (some ⟨n, 0, none⟩) := hJ.val 0 64 rfl (hd 0 (by decide))
    simp (disch := first | omega | (simp only [lnS]; try omega)) [-getElem?_pos, -getElem?_neg, -notTuple, knt, -xload, ldT, f0]
    exact hcont _ _ (hJ.put ckA_nd (t := 65) rfl rfl (hJ.hp.keep (by decide) (by decide)))
   ·simp (disch := first | omega | (simp only [lnS]; try omega)) [-getElem?_pos, -getElem?_neg, -notTuple, knt, j2]
    exact hcont _ _ (hJ.put ckA_nd (t := 66) rfl rfl (hJ.hp.keep (by decide) (by decide)))
   ·have f2 : α 66 = kv := hJ.val 2 66 rfl (hd 2 (by decide))
    simp (disch := first | omega | (simp only [lnS]; try omega)) [-getElem?_pos, -getElem?_neg, -notTuple, knt, -xindexAddr, ax, f2]
    exact hcont _ _ (hJ.put ckA_nd (t := 67) rfl rfl (hJ.hp.keep (by decide) (by decide)))
   ·have f3 : α 67 = .pointer (some ⟨jk, 0, none⟩) := hJ.val 3 67 rfl (hd 3 (by decide))
    simp (disch := first | omega | (simp only [lnS]; try omega)) [-getElem?_pos, -getElem?_neg, -notTuple, knt, -xload, ldX, f3]
    exact hcont _ _ (hJ.put ckA_nd (t := 68) rfl rfl (hJ.hp.keep (by decide) (by decide)))
   ·simp (disch := first | omega | (simp only [lnS]; try omega)) [-getElem?_pos, -getElem?_neg, -notTuple, knt, j2]
    exact hcont _ _ (hJ.put ckA_nd (t := 69) rfl rfl (hJ.hp.keep (by decide) (by decide)))
   ·have f5 : α 69 = kv := hJ.val 5 69 rfl (hd 5 (by decide))
    simp (disch := first | omega | (simp only [lnS]; try omega)) [-getElem?_pos, -getElem?_neg, -notTuple, knt, -xindexAddr, ay, f5]
    exact hcont _ _ (hJ.put ckA_nd (t := 70) rfl rfl (hJ.hp.keep (by decide) (by decide)))
   ·have f6 : α 70 = .pointer (some ⟨jk, 32, none⟩) := hJ.val 6 70 rfl (hd 6 (by decide))
    simp (disch := first | omega | (simp only [lnS]; try omega)) [-getElem?_pos, -getElem?_neg, -notTuple, knt, -xload, ldY, f6]
    exact hcont _ _ (hJ.put ckA_nd (t := 71) rfl rfl (hJ.hp.keep (by decide) (by decide)))
   ·have f1 : α 65 = .pointer (some ⟨b, 0, none⟩) := hJ.val 1 65 rfl (hd 1 (by decide))
    have f4 : α 68 = .agg (iv .u8 X).toArray := hJ.val 4 68 rfl (hd 4 (by decide))
    have f7 : α 71 = .agg (iv .u8 Y).toArray := hJ.val 7 71 rfl (hd 7 (by decide))
    simp (disch := first | omega | (simp only [lnS]; try omega)) [-getElem?_pos, -getElem?_neg, f1, f4, f7]
    have jt : Tbl G b Fc T := by rw [hsi] at jt; exact jt
    refine ⟨by kernel_rfl, AC.mono (agree_ac (nro := H0.length) (γ := γ) (hpw.low (lowFr lwB0 hnro jf)) jt (fun j hj => jf.lo hnro hnB j hj) (by omega) lX bX lY bY (by omega)) ?_⟩
    intro v' G' hq
    obtain ⟨hv, F1, f1, t1⟩ := hq.fr jt
    rw [hNd, hOk] at hv
    rw [hTd] at t1
    subst hv
    exact hcont _ _ (hJ.put ckA_nd (t := 72) rfl rfl ⟨F1, jf.trans f1, by rw [gs_eq (by rw [hJ.sz]; decide)]; exact t1, fun a => by
     rw [gs_ne (by decide)] at a
     obtain ⟨r, w1, w2, w3, w4⟩ := ja a
     refine ⟨r, by (first | (simp [w1]; done) | rfl), w2, fun e => ?_, by rw [gs_ne (by decide), f1.out r (hget_lt w4) w3]; exact w4⟩
     rcases f1.new r e with e1 | e1
     ·exact w3 e1
     ·have := hget_lt w4; omega⟩)
   ·have f8 : α 72 = .tuple #[.agg (iv .u8 N).toArray, .bool ok] := hJ.val 8 72 rfl (hd 8 (by decide))
    simp (disch := first | omega | (simp only [lnS]; try omega)) [-getElem?_pos, -getElem?_neg, -notTuple, knt, f8]
    exact hcont _ _ (hJ.put ckA_nd (t := 63) rfl rfl (hJ.hp.keep (by decide) (by decide)))
   ·have f9 : α 63 = .tuple #[.agg (iv .u8 N).toArray, .bool ok] := hJ.val 9 63 rfl (hd 9 (by decide))
    simp (disch := first | omega | (simp only [lnS]; try omega)) [-getElem?_pos, -getElem?_neg, -notTuple, knt, f9]
    exact hcont _ _ (hJ.put ckA_nd (t := 73) rfl rfl (hJ.hp.keep (by decide) (by decide)))
   ·have f9 : α 63 = .tuple #[.agg (iv .u8 N).toArray, .bool ok] := hJ.val 9 63 rfl (hd 9 (by decide))
    simp (disch := first | omega | (simp only [lnS]; try omega)) [-getElem?_pos, -getElem?_neg, -notTuple, knt, f9]
    exact hcont _ _ (hJ.put ckA_nd (t := 74) rfl rfl (hJ.hp.keep (by decide) (by decide)))
   ·simp (disch := first | omega | (simp only [lnS]; try omega)) [-getElem?_pos, -getElem?_neg]
    exact hcont _ _ (hJ.put ckA_nd (t := 9) rfl trivial ⟨Fc, jf.push _, by rw [gs_ne (by decide)]; exact jt.push _, fun _ => ⟨G.length, by (first | (simp; done) | rfl), jl, fun e => by have := jt.bound _ e; omega, by rw [gs_ne (by decide), hcc 13 (by decide), hget_app0]; rfl⟩⟩)
   ·have f10 : α 73 = .agg (iv .u8 N).toArray := hJ.val 10 73 rfl (hd 10 (by decide))
    obtain ⟨r, w1, w2, w3, w4⟩ := ja (hd 12 (by decide))
    rw [hsi] at w4
    have w4 : hget G r = some ⟨iv .u8 (zl 32), 41, none⟩ := w4
    have wl := hget_lt w4
    have wn : H0.length ≤ r := by omega
    simp (disch := first | omega | (simp only [lnS]; try omega)) [-getElem?_pos, -getElem?_neg, w1, w4, wl, wn, f10, lN, sN]
    exact hcont _ _ (hJ.put0 rfl ⟨Fc, ⟨by simp; omega, fun j hj hn => (hget_set_ne (by omega)).trans (jf.out j hj hn), jf.new⟩, by rw [gs_ne (by decide)]; exact jt.low (fun j hj => hget_set_ne (fun e => w3 (e ▸ hj))) (by simp), fun _ => ⟨r, w1, w2, w3, by rw [gs_eq (by rw [hJ.sz]; decide)]; exact hget_set_eq wl⟩⟩)
   ·have f11 : α 74 = .bool ok := hJ.val 11 74 rfl (hd 11 (by decide))
    simp (disch := first | omega | (simp only [lnS]; try omega)) [-getElem?_pos, -getElem?_neg, -notTuple, knt, f11]
    exact hcont _ _ (hJ.put ckA_nd (t := 10) rfl rfl (hJ.hp.keep (by decide) (by decide)))
  rintro s α G hJ hall
  have hsz : s.size = 15 := hJ.sz
  have hg : ∀ i, i < 15 → s.getD i false = true := fun i hi => by
   rw [Array.getD_eq_getD_getElem?, Array.getElem?_eq_getElem (by omega)]
   exact Array.all_eq_true.1 hall i (by omega)
  obtain ⟨Fc, jf, jt, ja⟩ := hJ.hp
  rw [hg 8 (by omega)] at jt
  obtain ⟨r, w1, w2, w3, w4⟩ := ja (hg 12 (by omega))
  rw [hg 13 (by omega)] at w4
  have w4 : hget G r = some ⟨iv .u8 N, 41, none⟩ := w4
  have jt : Tbl G b Fc T1 := jt
  have a10 : α 10 = .bool ok := hJ.val 14 10 rfl (hg 14 (by omega))
  have wl := hget_lt w4
  clear hall hsz hg hJ
  (refine aw_seq (aoo fun K hK => ?_); simp (disch := first | omega | (simp only [lnS]; try omega)) [-getElem?_pos, -getElem?_neg, a10]; refine hK _ _ ?_; clear hK K)
  cases ok with
  | true =>
   rw [if_neg (hN1 rfl)]
   obtain ⟨rfl, rfl⟩ := hN rfl
   refine aw_t (by (first | (simp; done) | (simp; omega))) (by kernel_rfl) ?_
   (refine aw_seq (aoo fun K hK => ?_); simp (disch := first | omega | (simp only [lnS]; try omega)) [-getElem?_pos, -getElem?_neg, w1, w4, wl, lN, tN, rN, hpl]; refine hK _ _ ?_; clear hK K)
   (refine aw_ret ?_; simp (disch := first | omega | (simp only [lnS]; try omega)) [-getElem?_pos, -getElem?_neg, thenQ_ret, scopeQ_ret, inBlockQ_ret, RQ, resL, resV, -notTuple])
   exact ck_one (f0.trans jf) jt lN
  | false =>
   obtain ⟨hy, rfl⟩ := hN0 rfl
   rw [if_pos hy]
   refine aw_f (by (first | (simp; done) | (simp; omega))) (by kernel_rfl) ?_
   refine aw_skip (aw_seq ?_)
   (refine aoo fun K hK => ?_; simp (disch := first | omega | (simp only [lnS]; try omega)) [-getElem?_pos, -getElem?_neg]; refine hK _ _ ?_; clear hK K)
   (refine aw_ret ?_; simp (disch := first | omega | (simp only [lnS]; try omega)) [-getElem?_pos, -getElem?_neg, thenQ_ret, scopeQ_ret, inBlockQ_ret, RQ, resL, resV])
   exact ck_nil (f0.trans jf) jt
 (refine aoo fun K hK => ?_; simp (disch := first | omega | (simp only [lnS]; try omega)) [-getElem?_pos, -getElem?_neg, h5]; refine hK _ _ ?_; clear hK K)
 refine aw_f (by (first | (simp; done) | (simp; omega))) (by kernel_rfl) ?_
 refine aw_seq ?_
 by_cases h6 : x.kind = 6
 ·rw [if_pos (.inr (.inr (.inr h6)))]
  have ht : ckT T ks x = ⟨6, x.text, ks.getD 0 [] :: ks.getD 1 [] :: ks.drop 2⟩ := by unfold ckT; rw [if_neg h2, if_neg h3, if_neg h4, if_neg h5]
  rw [ht]
  have hl1 : 1 < ks.length := by rw [h6] at hneed; exact hneed
  obtain ⟨lX, bX⟩ := g0 (by omega)
  obtain ⟨lY, bY⟩ := g1 hl1
  have hX : ks[0]? = some (ks.getD 0 []) := by rw [List.getD_eq_getElem?_getD, List.getElem?_eq_getElem (by omega : 0 < ks.length)]; rfl
  have hY : ks[1]? = some (ks.getD 1 []) := by rw [List.getD_eq_getElem?_getD, List.getElem?_eq_getElem hl1]; rfl
  obtain ⟨zv, z1, z2, z3, _, z5, _⟩ := suf_keys okv k32 hl1
  obtain ⟨jk, hkvd, gk, hjk⟩ := own_at okv k32 (by omega)
  have nk : jk ∉ F := hFk jk hjk
  have ax : xindexAddr Tryd.prog 34 kv (.int .i64 0) = some (.pointer (some ⟨jk, 0, none⟩)) := by rw [hkvd]; exact kr_addr (n := ks.length) (b := jk) (j := 0) (by omega)
  have ay : xindexAddr Tryd.prog 34 kv (.int .i64 1) = some (.pointer (some ⟨jk, 32, none⟩)) := by rw [hkvd]; exact kr_addr (n := ks.length) (b := jk) (j := 1) (by omega)
  obtain ⟨n, hn⟩ : ∃ n, n = H.length := ⟨_, rfl⟩
  rw [← hn] at gT gC
  have nT : n ∉ F := fun e => by have := hFl _ e; omega
  have nC : n + 1 ∉ F := fun e => by have := hFl _ e; omega
  generalize ks.getD 0 [] = X at *
  generalize ks.getD 1 [] = Y at *
  have hw : TermD.Wf ⟨6, x.text, X :: Y :: ks.drop 2⟩ := wf_seal (by omega) lX bX lY bY (fun z hz => hk32 z (List.mem_of_mem_drop hz)) (by rw [List.length_drop]; omega)
  have hT1 := addT_le ⟨6, x.text, X :: Y :: ks.drop 2⟩ T
  have lN : (nmL (nameT ⟨6, x.text, X :: Y :: ks.drop 2⟩ T)).length = 32 := rfl
  have bN : By (nmL (nameT ⟨6, x.text, X :: Y :: ks.drop 2⟩ T)) := nmL_by _
  rw [h6]
  generalize htx : x.text = tx at *
  generalize hNd : nmL (nameT ⟨6, tx, X :: Y :: ks.drop 2⟩ T) = N at *
  generalize hTd : addT ⟨6, tx, X :: Y :: ks.drop 2⟩ T = T1 at *
  have tN : (iv .u8 N).take 32 = iv .u8 N := List.take_of_length_le (by simp [lN])
  have rN : setR (List.map (fun j => (iv .u8 (zl 32))[j % 32]?.getD undef) (List.range 32)) 0 (iv .u8 N) = iv .u8 N := setR_all _ _ (by simp [lN])
  (refine aoo fun K hK => ?_; simp (disch := first | omega | (simp only [lnS]; try omega)) [-getElem?_pos, -getElem?_neg]; refine hK _ _ ?_; clear hK K)
  refine aw_t (by (first | (simp; done) | (simp; omega))) (by kernel_rfl) ?_
  refine aw_seq ?_
  refine name_aw (fun β hβ => ?_)
  have e4 : β 4 = .pointer (some ⟨n, 0, none⟩) := by rw [hβ, hn]; (first | (simp; done) | rfl)
  have e7 : β 7 = .pointer (some ⟨n + 1, 0, none⟩) := by rw [hβ, hn]; (first | (simp; done) | rfl)
  have e2 : β 2 = kv := by rw [hβ]; (first | (simp; done) | rfl)
  clear hβ
  refine aw_inv ckBP (JT ckBD (ckBV n b jk kv zv tx X Y N) β (CB B b F T T1 N)) (by kernel_rfl) (by kernel_rfl) (by kernel_rfl) ?_ ?_ ?_
  ·exact ⟨by simp; rfl, fun _ _ => rfl, fun i t' hi h => (by rw [gs_0] at h; cases h), F, Fr.refl _ _, (by rw [gs_0]; exact tB), fun _ => Low.refl (Nat.le_refl _), fun h => (by rw [gs_0] at h; cases h)⟩
  ·intro i s α G k hJ hi0 hsi hd hcc hcont
   obtain ⟨Fc, jf, jt, jlw, ja⟩ := hJ.hp
   have j4 := (hJ.lo 4 (by decide)).trans e4
   have j2 := (hJ.lo 2 (by decide)).trans e2
   have j7 := (hJ.lo 7 (by decide)).trans e7
   have gT := (jf.out _ (hget_lt gT) nT).trans gT
   have gC := (jf.out _ (hget_lt gC) nC).trans gC
   have gk := (jf.out _ (hget_lt gk) nk).trans gk
   have ldT := ld_tb gT
   have ldX := kr_load k32 hX gk
   have ldY := kr_load k32 hY gk
   have jl := jf.len
   have ldS := ld_tx hc hx gC
   rw [htx] at ldS
   have hi : i = 0 ∨ i = 1 ∨ i = 2 ∨ i = 3 ∨ i = 4 ∨ i = 5 ∨ i = 6 ∨ i = 7 ∨ i = 8 ∨ i = 9 ∨ i = 10 ∨ i = 11 ∨ i = 12 ∨ i = 13 ∨ i = 14 ∨ i = 15 ∨ i = 16 ∨ i = 17 := by have hi0 : i < 18 := hi0; omega
   rcases hi with rfl | rfl | rfl | rfl | rfl | rfl | rfl | rfl | rfl | rfl | rfl | rfl | rfl | rfl | rfl | rfl | rfl | rfl
   ·simp (disch := first | omega | (simp only [lnS]; try omega)) [-getElem?_pos, -getElem?_neg, -notTuple, knt, j4]
    exact hcont _ _ (hJ.put ckB_nd (t := 80) rfl rfl (hJ.hp.keep (by decide) (by decide)))
   ·have f0 : α 80 = .pointer (some ⟨n, 0, none⟩) := hJ.val 0 80 rfl (hd 0 (by decide))
    simp (disch := first | omega | (simp only [lnS]; try omega)) [-getElem?_pos, -getElem?_neg, -notTuple, knt, -xload, ldT, f0]
    exact hcont _ _ (hJ.put ckB_nd (t := 81) rfl rfl (hJ.hp.keep (by decide) (by decide)))
   ·simp (disch := first | omega | (simp only [lnS]; try omega)) [-getElem?_pos, -getElem?_neg, -notTuple, knt, j4]
    exact hcont _ _ (hJ.put ckB_nd (t := 82) rfl rfl (hJ.hp.keep (by decide) (by decide)))
   ·have f2 : α 82 = .pointer (some ⟨n, 0, none⟩) := hJ.val 2 82 rfl (hd 2 (by decide))
    simp (disch := first | omega | (simp only [lnS]; try omega)) [-getElem?_pos, -getElem?_neg, -notTuple, knt, -xload, ldT, f2]
    exact hcont _ _ (hJ.put ckB_nd (t := 83) rfl rfl (hJ.hp.keep (by decide) (by decide)))
   ·simp (disch := first | omega | (simp only [lnS]; try omega)) [-getElem?_pos, -getElem?_neg, -notTuple, knt, j2]
    exact hcont _ _ (hJ.put ckB_nd (t := 84) rfl rfl (hJ.hp.keep (by decide) (by decide)))
   ·have f4 : α 84 = kv := hJ.val 4 84 rfl (hd 4 (by decide))
    simp (disch := first | omega | (simp only [lnS]; try omega)) [-getElem?_pos, -getElem?_neg, -notTuple, knt, -xindexAddr, ax, f4]
    exact hcont _ _ (hJ.put ckB_nd (t := 85) rfl rfl (hJ.hp.keep (by decide) (by decide)))
   ·have f5 : α 85 = .pointer (some ⟨jk, 0, none⟩) := hJ.val 5 85 rfl (hd 5 (by decide))
    simp (disch := first | omega | (simp only [lnS]; try omega)) [-getElem?_pos, -getElem?_neg, -notTuple, knt, -xload, ldX, f5]
    exact hcont _ _ (hJ.put ckB_nd (t := 86) rfl rfl (hJ.hp.keep (by decide) (by decide)))
   ·simp (disch := first | omega | (simp only [lnS]; try omega)) [-getElem?_pos, -getElem?_neg, -notTuple, knt, j2]
    exact hcont _ _ (hJ.put ckB_nd (t := 87) rfl rfl (hJ.hp.keep (by decide) (by decide)))
   ·have f7 : α 87 = kv := hJ.val 7 87 rfl (hd 7 (by decide))
    simp (disch := first | omega | (simp only [lnS]; try omega)) [-getElem?_pos, -getElem?_neg, -notTuple, knt, -xindexAddr, ay, f7]
    exact hcont _ _ (hJ.put ckB_nd (t := 88) rfl rfl (hJ.hp.keep (by decide) (by decide)))
   ·have f8 : α 88 = .pointer (some ⟨jk, 32, none⟩) := hJ.val 8 88 rfl (hd 8 (by decide))
    simp (disch := first | omega | (simp only [lnS]; try omega)) [-getElem?_pos, -getElem?_neg, -notTuple, knt, -xload, ldY, f8]
    exact hcont _ _ (hJ.put ckB_nd (t := 89) rfl rfl (hJ.hp.keep (by decide) (by decide)))
   ·simp (disch := first | omega | (simp only [lnS]; try omega)) [-getElem?_pos, -getElem?_neg, -notTuple, knt, j7]
    exact hcont _ _ (hJ.put ckB_nd (t := 90) rfl rfl (hJ.hp.keep (by decide) (by decide)))
   ·have f10 : α 90 = .pointer (some ⟨n + 1, 2, none⟩) := hJ.val 10 90 rfl (hd 10 (by decide))
    simp (disch := first | omega | (simp only [lnS]; try omega)) [-getElem?_pos, -getElem?_neg, -notTuple, knt, -xload, ldS, f10]
    exact hcont _ _ (hJ.put ckB_nd (t := 91) rfl rfl (hJ.hp.keep (by decide) (by decide)))
   ·simp (disch := first | omega | (simp only [lnS]; try omega)) [-getElem?_pos, -getElem?_neg, -notTuple, knt, j2]
    exact hcont _ _ (hJ.put ckB_nd (t := 92) rfl rfl (hJ.hp.keep (by decide) (by decide)))
   ·have f12 : α 92 = kv := hJ.val 12 92 rfl (hd 12 (by decide))
    simp (disch := first | omega | (simp only [lnS]; try omega)) [-getElem?_pos, -getElem?_neg, -notTuple, knt, -xslice, z1, z2, z3, f12]
    exact hcont _ _ (hJ.put ckB_nd (t := 93) rfl rfl (hJ.hp.keep (by decide) (by decide)))
   ·have f3 : α 83 = .pointer (some ⟨b, 0, none⟩) := hJ.val 3 83 rfl (hd 3 (by decide))
    have f6 : α 86 = .agg (iv .u8 X).toArray := hJ.val 6 86 rfl (hd 6 (by decide))
    have f9 : α 89 = .agg (iv .u8 Y).toArray := hJ.val 9 89 rfl (hd 9 (by decide))
    have f11 : α 91 = .string tx := hJ.val 11 91 rfl (hd 11 (by decide))
    have f13 : α 93 = zv := hJ.val 13 93 rfl (hd 13 (by decide))
    simp (disch := first | omega | (simp only [lnS]; try omega)) [-getElem?_pos, -getElem?_neg, f3, f6, f9, f11, f13]
    have jt : Tbl G b Fc T := by rw [hsi] at jt; exact jt
    have lwG := jlw hsi
    refine ⟨by kernel_rfl, AC.mono (sealP_ac (nro := H0.length) (γ := γ) (hpw.low (lowFr lwB0 hnro jf)) jt (fun j hj => jf.lo hnro hnB j hj) (by omega) lX lY hw (z5.keep (by omega) (fun j hj => lwG.1 j hj)) (by omega)) ?_⟩
    rintro v' G' ⟨hv, hq⟩
    obtain ⟨_, F1, f1, t1⟩ := hq.fr
    rw [hNd] at hv
    rw [hTd] at t1
    subst hv
    exact hcont _ _ (hJ.put ckB_nd (t := 94) rfl rfl ⟨F1, jf.trans f1, by rw [gs_eq (by rw [hJ.sz]; decide)]; exact t1, fun a => (by rw [gs_eq (by rw [hJ.sz]; decide)] at a; cases a), fun a => (by rw [gs_ne (by decide)] at a; have := (ja a).1; rw [hcc 15 (by decide)] at this; cases this)⟩)
   ·have f1 : α 81 = .pointer (some ⟨b, 0, none⟩) := hJ.val 1 81 rfl (hd 1 (by decide))
    have f14 : α 94 = .string (strOfNums N) := hJ.val 14 94 rfl (hd 14 (by decide))
    simp (disch := first | omega | (simp only [lnS]; try omega)) [-getElem?_pos, -getElem?_neg, f1, f14]
    have d14 := hd 14 (by decide)
    have jt : Tbl G b Fc T1 := by rw [d14] at jt; exact jt
    refine ⟨by kernel_rfl, AC.mono (mark_ac (nro := H0.length) (γ := γ) (s := strOfNums N) (hpw.low (lowFr lwB0 hnro jf)) jt (fun j hj => jf.lo hnro hnB j hj) (by omega) (by rw [sn_size, lN]; omega) (by omega)) ?_⟩
    intro v' G' hq
    unfold MarkQ at hq
    rw [if_pos (by rw [sn_size, lN]), nums_of _ bN] at hq
    obtain ⟨rfl, lw2⟩ := hq
    exact hcont _ _ (hJ.put ckB_nd (t := 95) rfl rfl ⟨Fc, jf.trans (low_fr Fc lw2), by rw [gs_ne (by decide), d14]; exact jt.low (fun j hj => lw2.1 j (jt.bound j hj)) lw2.2, fun a => (by rw [gs_ne (by decide), d14] at a; cases a), fun a => (by rw [gs_ne (by decide), hcc 16 (by decide)] at a; cases a)⟩)
   ·have f15 : α 95 = .agg (iv .u8 N).toArray := hJ.val 15 95 rfl (hd 15 (by decide))
    simp (disch := first | omega | (simp only [lnS]; try omega)) [-getElem?_pos, -getElem?_neg, f15, lN, tN, rN, hpl]
    exact hcont _ _ (hJ.put ckB_nd (t := 96) rfl trivial ⟨Fc, jf.push _, by rw [gs_ne (by decide)]; exact jt.push _, fun a => (by rw [gs_ne (by decide)] at a; exact (jlw a).trans (Low.push (by have := (jlw a).2; omega) _)), fun _ => ⟨by rw [gs_ne (by decide)]; exact hd 15 (by decide), G.length, jl, by (first | (simp; done) | rfl), fun a => (by rw [gs_ne (by decide), hcc 17 (by decide)] at a; cases a), fun e => by have := jt.bound _ e; omega, by rw [hget_app0]; rfl⟩⟩)
   ·obtain ⟨wv, r, w0, w1, w2, w3, w4⟩ := ja (hd 16 (by decide))
    simp (disch := first | omega | (simp only [lnS]; try omega)) [-getElem?_pos, -getElem?_neg, w1]
    exact hcont _ _ (hJ.put ckB_nd (t := 8) rfl trivial ⟨Fc, jf, by rw [gs_ne (by decide)]; exact jt, fun a => (by rw [gs_ne (by decide)] at a; exact jlw a), fun _ => ⟨by rw [gs_ne (by decide)]; exact wv, r, w0, by (first | (simp [w1]; done) | rfl), fun _ => by (first | (simp; done) | rfl), w3, w4⟩⟩)
  rintro s α G hJ hall
  have hsz : s.size = 18 := hJ.sz
  have hg : ∀ i, i < 18 → s.getD i false = true := fun i hi => by
   rw [Array.getD_eq_getD_getElem?, Array.getElem?_eq_getElem (by omega)]
   exact Array.all_eq_true.1 hall i (by omega)
  obtain ⟨Fc, jf, jt, _, ja⟩ := hJ.hp
  rw [hg 14 (by omega)] at jt
  have jt : Tbl G b Fc T1 := jt
  obtain ⟨_, r, w0, _, w2, w3, w4⟩ := ja (hg 16 (by omega))
  have a8 := w2 (hg 17 (by omega))
  clear hall hsz hg hJ
  (refine aw_ret ?_; simp (disch := first | omega | (simp only [lnS]; try omega)) [-getElem?_pos, -getElem?_neg, thenQ_ret, scopeQ_ret, inBlockQ_ret, RQ, resL, resV, a8, -notTuple])
  exact ⟨Fc, f0.trans jf, jt, fun D hl hgg => keys1 lN ((hgg r (hget_lt w4) w3).trans w4)⟩
 (refine aoo fun K hK => ?_; simp (disch := first | omega | (simp only [lnS]; try omega)) [-getElem?_pos, -getElem?_neg, h6]; refine hK _ _ ?_; clear hK K)
 refine aw_f (by (first | (simp; done) | (simp; omega))) (by kernel_rfl) ?_
 refine aw_seq ?_
 rw [if_neg (by simp [h2, h3, h4, h6]), if_neg h5]
 by_cases h7 : x.kind = 7
 ·rw [if_pos h7]
  have hl2 : 2 < ks.length := by rw [h7] at hneed; exact hneed
  obtain ⟨lX, bX⟩ := g0 (by omega)
  obtain ⟨lY, bY⟩ := g1 (by omega)
  obtain ⟨lZ, bZ⟩ := g2 hl2
  have hX : ks[0]? = some (ks.getD 0 []) := by rw [List.getD_eq_getElem?_getD, List.getElem?_eq_getElem (by omega : 0 < ks.length)]; rfl
  have hY : ks[1]? = some (ks.getD 1 []) := by rw [List.getD_eq_getElem?_getD, List.getElem?_eq_getElem (by omega : 1 < ks.length)]; rfl
  have hZ : ks[2]? = some (ks.getD 2 []) := by rw [List.getD_eq_getElem?_getD, List.getElem?_eq_getElem hl2]; rfl
  obtain ⟨jk, hkvd, gk, hjk⟩ := own_at okv k32 (by omega)
  have ax : xindexAddr Tryd.prog 34 kv (.int .i64 0) = some (.pointer (some ⟨jk, 0, none⟩)) := by rw [hkvd]; exact kr_addr (n := ks.length) (b := jk) (j := 0) (by omega)
  have ay : xindexAddr Tryd.prog 34 kv (.int .i64 1) = some (.pointer (some ⟨jk, 32, none⟩)) := by rw [hkvd]; exact kr_addr (n := ks.length) (b := jk) (j := 1) (by omega)
  have az : xindexAddr Tryd.prog 34 kv (.int .i64 2) = some (.pointer (some ⟨jk, 64, none⟩)) := by rw [hkvd]; exact kr_addr (n := ks.length) (b := jk) (j := 2) (by omega)
  generalize ks.getD 0 [] = X at *
  generalize ks.getD 1 [] = Y at *
  generalize ks.getD 2 [] = Z at *
  obtain ⟨n, hn⟩ : ∃ n, n = H.length := ⟨_, rfl⟩
  rw [← hn] at gT gC
  obtain ⟨u, nk, ok, ho⟩ := opR_ex T X Y (strOfNums Z)
  have hnk : openK (openT T X Y (strOfNums Z)) = nk := by
   rcases ho with ⟨e, _, e2, _⟩ | ⟨e, _⟩
   ·rw [e, e2]; rfl
   ·rw [e]; rfl
  have hnkk : K32 nk := by
   rcases ho with ⟨_, _, rfl, _⟩ | ⟨e, _⟩
   ·exact fun z hz => by cases hz
   ·obtain ⟨y, hy, rfl⟩ := openT_keys e
    exact fun z hz => (h.wf y hy).k32 z (List.mem_of_mem_drop hz)
  rw [hnk, h7]
  (refine aoo fun K hK => ?_; simp (disch := first | omega | (simp only [lnS]; try omega)) [-getElem?_pos, -getElem?_neg]; refine hK _ _ ?_; clear hK K)
  refine aw_t (by (first | (simp; done) | (simp; omega))) (by kernel_rfl) ?_
  refine aw_seq ?_
  refine name_aw (fun β hβ => ?_)
  have e4 : β 4 = .pointer (some ⟨n, 0, none⟩) := by rw [hβ, hn]; (first | (simp; done) | rfl)
  have e2 : β 2 = kv := by rw [hβ]; (first | (simp; done) | rfl)
  clear hβ
  have hND : ckCD.Nodup := by decide
  have hST := @ckC_st' B.length n b jk kv X Y Z u nk ok
  refine aw_inv ckCP (IJ ckCD (ckCV B.length n b jk kv X Y Z u nk ok) β B) (by kernel_rfl) (by kernel_rfl) (by kernel_rfl) (IJ.start rfl) ?_ ?_
  ·intro i s α G k hJ hi0 hsi hd hcc hcont
   have lwG : Low B.length B G := ⟨hJ.lw.2, hJ.lw.1⟩
   have j4 := (hJ.lo 4 (by decide)).trans e4
   have j2 := (hJ.lo 2 (by decide)).trans e2
   have gT := (lwG.1 _ (hget_lt gT)).trans gT
   have gk := (lwG.1 _ (hget_lt gk)).trans gk
   have ldT := ld_tb gT
   have ldX := kr_load k32 hX gk
   have ldY := kr_load k32 hY gk
   obtain ⟨szl, szc⟩ := key_str k32 hZ gk
   have jl := lwG.2
   have hi : i = 0 ∨ i = 1 ∨ i = 2 ∨ i = 3 ∨ i = 4 ∨ i = 5 ∨ i = 6 ∨ i = 7 ∨ i = 8 ∨ i = 9 ∨ i = 10 ∨ i = 11 ∨ i = 12 ∨ i = 13 ∨ i = 14 ∨ i = 15 ∨ i = 16 ∨ i = 17 ∨ i = 18 ∨ i = 19 := by have hi0 : i < 20 := hi0; omega
   rcases hi with rfl | rfl | rfl | rfl | rfl | rfl | rfl | rfl | rfl | rfl | rfl | rfl | rfl | rfl | rfl | rfl | rfl | rfl | rfl | rfl
   ·simp (disch := first | omega | (simp only [lnS]; try omega)) [-getElem?_pos, -getElem?_neg, -notTuple, knt, j4]
    exact hcont _ _ (hJ.put hND hST rfl (Nat.le_refl _) (fun _ _ => rfl) rfl)
   ·have f0 : α 100 = .pointer (some ⟨n, 0, none⟩) := hJ.val 0 100 rfl (hd 0 (by decide))
    simp (disch := first | omega | (simp only [lnS]; try omega)) [-getElem?_pos, -getElem?_neg, -notTuple, knt, -xload, ldT, f0]
    exact hcont _ _ (hJ.put hND hST rfl (Nat.le_refl _) (fun _ _ => rfl) rfl)
   ·simp (disch := first | omega | (simp only [lnS]; try omega)) [-getElem?_pos, -getElem?_neg, -notTuple, knt, j2]
    exact hcont _ _ (hJ.put hND hST rfl (Nat.le_refl _) (fun _ _ => rfl) rfl)
   ·have f2 : α 102 = kv := hJ.val 2 102 rfl (hd 2 (by decide))
    simp (disch := first | omega | (simp only [lnS]; try omega)) [-getElem?_pos, -getElem?_neg, -notTuple, knt, -xindexAddr, ax, f2]
    exact hcont _ _ (hJ.put hND hST rfl (Nat.le_refl _) (fun _ _ => rfl) rfl)
   ·have f3 : α 103 = .pointer (some ⟨jk, 0, none⟩) := hJ.val 3 103 rfl (hd 3 (by decide))
    simp (disch := first | omega | (simp only [lnS]; try omega)) [-getElem?_pos, -getElem?_neg, -notTuple, knt, -xload, ldX, f3]
    exact hcont _ _ (hJ.put hND hST rfl (Nat.le_refl _) (fun _ _ => rfl) rfl)
   ·simp (disch := first | omega | (simp only [lnS]; try omega)) [-getElem?_pos, -getElem?_neg, -notTuple, knt, j2]
    exact hcont _ _ (hJ.put hND hST rfl (Nat.le_refl _) (fun _ _ => rfl) rfl)
   ·have f5 : α 105 = kv := hJ.val 5 105 rfl (hd 5 (by decide))
    simp (disch := first | omega | (simp only [lnS]; try omega)) [-getElem?_pos, -getElem?_neg, -notTuple, knt, -xindexAddr, ay, f5]
    exact hcont _ _ (hJ.put hND hST rfl (Nat.le_refl _) (fun _ _ => rfl) rfl)
   ·have f6 : α 106 = .pointer (some ⟨jk, 32, none⟩) := hJ.val 6 106 rfl (hd 6 (by decide))
    simp (disch := first | omega | (simp only [lnS]; try omega)) [-getElem?_pos, -getElem?_neg, -notTuple, knt, -xload, ldY, f6]
    exact hcont _ _ (hJ.put hND hST rfl (Nat.le_refl _) (fun _ _ => rfl) rfl)
   ·simp (disch := first | omega | (simp only [lnS]; try omega)) [-getElem?_pos, -getElem?_neg, -notTuple, knt, j2]
    exact hcont _ _ (hJ.put hND hST rfl (Nat.le_refl _) (fun _ _ => rfl) rfl)
   ·have f8 : α 108 = kv := hJ.val 8 108 rfl (hd 8 (by decide))
    simp (disch := first | omega | (simp only [lnS]; try omega)) [-getElem?_pos, -getElem?_neg, -notTuple, knt, -xindexAddr, az, f8]
    exact hcont _ _ (hJ.put hND hST rfl (Nat.le_refl _) (fun _ _ => rfl) rfl)
   ·have f9 : α 109 = .pointer (some ⟨jk, 64, none⟩) := hJ.val 9 109 rfl (hd 9 (by decide))
    simp (disch := first | omega | (simp only [lnS]; try omega)) [-getElem?_pos, -getElem?_neg, -notTuple, knt, -xslice, szl, f9]
    exact hcont _ _ (hJ.put hND hST rfl (Nat.le_refl _) (fun _ _ => rfl) rfl)
   ·have f10 : α 110 = .slice (some ⟨jk, 64, none⟩) 32 33 := hJ.val 10 110 rfl (hd 10 (by decide))
    simp (disch := first | omega | (simp only [lnS]; try omega)) [-getElem?_pos, -getElem?_neg, -notTuple, knt, -xconv, szc, f10]
    exact hcont _ _ (hJ.put hND hST rfl (Nat.le_refl _) (fun _ _ => rfl) rfl)
   ·have f1 : α 101 = .pointer (some ⟨b, 0, none⟩) := hJ.val 1 101 rfl (hd 1 (by decide))
    have f4 : α 104 = .agg (iv .u8 X).toArray := hJ.val 4 104 rfl (hd 4 (by decide))
    have f7 : α 107 = .agg (iv .u8 Y).toArray := hJ.val 7 107 rfl (hd 7 (by decide))
    have f11 : α 111 = .string (strOfNums Z) := hJ.val 11 111 rfl (hd 11 (by decide))
    simp (disch := first | omega | (simp only [lnS]; try omega)) [-getElem?_pos, -getElem?_neg, f1, f4, f7, f11]
    refine ⟨by kernel_rfl, AC.mono (open_ac (nro := H0.length) (γ := γ) (k := X) (y := Y) (s := strOfNums Z) (tB.low (fun j hj => lwG.1 j (tB.bound j hj)) lwG.2) (by omega) lX lY (by rw [sn_size, lZ]; omega)) ?_⟩
    rintro v' G' hq
    have lwq := hq.1
    exact hcont _ _ (hJ.put hND hST (t := 112) rfl lwq.2 lwq.1 (openQ_w hq lwG.2 ho))
   ·have f12 := hJ.val 12 112 rfl (hd 12 (by decide))
    obtain ⟨w, f, wo⟩ := f12
    have wn := wo.nt
    simp (disch := first | omega | (simp only [lnS]; try omega)) [-getElem?_pos, -getElem?_neg, f, -notTuple, wn.1]
    exact hcont _ _ (hJ.put hND hST (t := 99) rfl (Nat.le_refl _) (fun _ _ => rfl) ⟨w, rfl, wo⟩)
   ·have f13 := hJ.val 13 99 rfl (hd 13 (by decide))
    obtain ⟨w, f, wo⟩ := f13
    have wn := wo.nt
    simp (disch := first | omega | (simp only [lnS]; try omega)) [-getElem?_pos, -getElem?_neg, f, -notTuple, wn.1]
    exact hcont _ _ (hJ.put hND hST (t := 113) rfl (Nat.le_refl _) (fun _ _ => rfl) rfl)
   ·have f13 := hJ.val 13 99 rfl (hd 13 (by decide))
    obtain ⟨w, f, wo⟩ := f13
    have wn := wo.nt
    simp (disch := first | omega | (simp only [lnS]; try omega)) [-getElem?_pos, -getElem?_neg, f, -notTuple, wn.1]
    exact hcont _ _ (hJ.put hND hST (t := 114) rfl (Nat.le_refl _) (fun _ _ => rfl) wo)
   ·have f13 := hJ.val 13 99 rfl (hd 13 (by decide))
    obtain ⟨w, f, wo⟩ := f13
    have wn := wo.nt
    simp (disch := first | omega | (simp only [lnS]; try omega)) [-getElem?_pos, -getElem?_neg, f, -notTuple, wn.1]
    exact hcont _ _ (hJ.put hND hST (t := 115) rfl (Nat.le_refl _) (fun _ _ => rfl) rfl)
   ·have f14 : α 113 = .string u := hJ.val 14 113 rfl (hd 14 (by decide))
    simp (disch := first | omega | (simp only [lnS]; try omega)) [-getElem?_pos, -getElem?_neg, -notTuple, knt, f14]
    exact hcont _ _ (hJ.put hND hST rfl (Nat.le_refl _) (fun _ _ => rfl) rfl)
   ·have f15 := hJ.val 15 114 rfl (hd 15 (by decide))
    have wn := f15.nt
    simp (disch := first | omega | (simp only [lnS]; try omega)) [-getElem?_pos, -getElem?_neg, -notTuple, wn.1, wn.2]
    exact hcont _ _ (hJ.put hND hST (t := 12) rfl (Nat.le_refl _) (fun _ _ => rfl) f15)
   ·have f16 : α 115 = .bool ok := hJ.val 16 115 rfl (hd 16 (by decide))
    simp (disch := first | omega | (simp only [lnS]; try omega)) [-getElem?_pos, -getElem?_neg, -notTuple, knt, f16]
    exact hcont _ _ (hJ.put hND hST rfl (Nat.le_refl _) (fun _ _ => rfl) rfl)
  rintro s α G hJ hall
  have hsz : s.size = 20 := hJ.sz
  have hg : ∀ i, i < 20 → s.getD i false = true := fun i hi => by
   rw [Array.getD_eq_getD_getElem?, Array.getElem?_eq_getElem (by omega)]
   exact Array.all_eq_true.1 hall i (by omega)
  have lw8 : Low B.length B G := ⟨hJ.lw.2, hJ.lw.1⟩
  have a12 : OwnK B.length G (α 12) nk := hJ.val 18 12 rfl (hg 18 (by omega))
  obtain ⟨w1, hw1⟩ : ∃ w1, w1 = α 12 := ⟨_, rfl⟩
  rw [← hw1] at a12
  have wn := a12.nt
  clear hall hsz hg hJ
  (refine aw_seq (aoo fun K hK => ?_); simp (disch := first | omega | (simp only [lnS]; try omega)) [-getElem?_pos, -getElem?_neg, ← hw1, -notTuple, wn.1, wn.2]; refine hK _ _ ?_; clear hK K)
  (refine aw_ret ?_; simp (disch := first | omega | (simp only [lnS]; try omega)) [-getElem?_pos, -getElem?_neg, thenQ_ret, scopeQ_ret, inBlockQ_ret, RQ, resL, resV, -notTuple, wn.1, wn.2])
  exact ⟨F, f0.trans (low_fr F lw8), tB.low (fun j hj => lw8.1 j (tB.bound j hj)) lw8.2, ownK_ksp a12 hnkk (fun j hj => by have := hFl j hj; omega)⟩
 rw [if_neg h7]
 (refine aoo fun K hK => ?_; simp (disch := first | omega | (simp only [lnS]; try omega)) [-getElem?_pos, -getElem?_neg, h7]; refine hK _ _ ?_; clear hK K)
 refine aw_f (by (first | (simp; done) | (simp; omega))) (by kernel_rfl) ?_
 refine aw_seq ?_
 by_cases h8 : x.kind = 8
 ·rw [if_pos h8]
  have hmb := maybe_vc hx.raw.1 hx.raw.2
  rw [h8]
  (refine aoo fun K hK => ?_; simp (disch := first | omega | (simp only [lnS]; try omega)) [-getElem?_pos, -getElem?_neg]; refine hK _ _ ?_; clear hK K)
  refine aw_t (by (first | (simp; done) | (simp; omega))) (by kernel_rfl) ?_
  refine aw_seq (aoo fun K hK => ?_)
  simp (disch := first | omega | (simp only [lnS]; try omega)) [-getElem?_pos, -getElem?_neg, -xload, ld4, -notTuple]
  refine ⟨by kernel_rfl, ac_of_vc (by simp [pv_iv, pv_int, pv_bool, pv_string, pv_tup2, pv_tup3, iv_plain, p2_int, p2_bool, p2_string]) hmb ?_⟩
  try simp (disch := first | omega | (simp only [lnS]; try omega)) [-getElem?_pos, -getElem?_neg, -notTuple]
  refine hK _ _ ?_; clear hK K
  have lR := hx.raw.1
  generalize x.raw = R at *
  have htR : (iv .u8 R).take 32 = iv .u8 R := List.take_of_length_le (by simp [lR])
  have hrow1 : setR (List.map (fun j => (iv .u8 (zl 32))[j % 32]?.getD undef) (List.range 32)) 0 (iv .u8 R) = iv .u8 R := setR_all _ _ (by simp [lR])
  by_cases hr : nmL (plN R) = R
  ·rw [if_pos hr, decide_eq_true hr]
   refine aw_f (by (first | (simp; done) | (simp; omega))) (by kernel_rfl) ?_
   refine aw_skip (aw_seq ?_)
   (refine aoo fun K hK => ?_; simp (disch := first | omega | (simp only [lnS]; try omega)) [-getElem?_pos, -getElem?_neg]; refine hK _ _ ?_; clear hK K)
   (refine aw_ret ?_; simp (disch := first | omega | (simp only [lnS]; try omega)) [-getElem?_pos, -getElem?_neg, thenQ_ret, scopeQ_ret, inBlockQ_ret, RQ, resL, resV])
   exact ck_nil f0 tB
  ·rw [if_neg hr, decide_eq_false hr]
   refine aw_t (by (first | (simp; done) | (simp; omega))) (by kernel_rfl) ?_
   (refine aw_seq (aoo fun K hK => ?_); simp (disch := first | omega | (simp only [lnS]; try omega)) [-getElem?_pos, -getElem?_neg, -xload, ld4, lR, htR, hrow1, hpl, -notTuple]; refine hK _ _ ?_; clear hK K)
   (refine aw_ret ?_; simp (disch := first | omega | (simp only [lnS]; try omega)) [-getElem?_pos, -getElem?_neg, thenQ_ret, scopeQ_ret, inBlockQ_ret, RQ, resL, resV, -notTuple])
   exact ck_one f0 tB lR
 ·rw [if_neg h8]
  (refine aoo fun K hK => ?_; simp (disch := first | omega | (simp only [lnS]; try omega)) [-getElem?_pos, -getElem?_neg, h8]; refine hK _ _ ?_; clear hK K)
  refine aw_f (by (first | (simp; done) | (simp; omega))) (by kernel_rfl) ?_
  refine aw_skip (aw_seq ?_)
  (refine aoo fun K hK => ?_; simp (disch := first | omega | (simp only [lnS]; try omega)) [-getElem?_pos, -getElem?_neg]; refine hK _ _ ?_; clear hK K)
  (refine aw_ret ?_; simp (disch := first | omega | (simp only [lnS]; try omega)) [-getElem?_pos, -getElem?_neg, thenQ_ret, scopeQ_ret, inBlockQ_ret, RQ, resL, resV])
  exact ck_nil f0 tB
end
section
theorem KsP.part {H : AH} {F : List Nat} {v : Value} {ks : List (List Int)} (h : KsP H F v ks) (hk : ∀ k ∈ ks, k.length = 32) : PartK H H.length v ks := h.now.part hk
theorem cookM_k {T : List TermD} {seen ks : List (List Int)} {c : CookD} (hw : ∀ x ∈ T, x.Wf) (hs : ∀ k ∈ seen, k.length = 32 ∧ By k) (hr : Key32 c.raw) : ∀ k ∈ (cookM T seen ks c).2, k.length = 32 ∧ By k := fun k hk => by
 have hnm : ∀ n : Int, ∀ k ∈ [nmL n], k.length = 32 ∧ By k := fun n k hk => by
  rw [List.mem_singleton.1 hk]
  exact ⟨rfl, nmL_by _⟩
 unfold cookM at hk
 split at hk
 ·simp only at hk
  split at hk
  ·rename_i h
   rw [List.mem_singleton.1 hk]
   refine hs _ ?_
   rw [List.getD_eq_getElem?_getD, List.getElem?_eq_getElem (by omega : c.n.toNat < seen.length)]
   exact List.getElem_mem _
  ·cases hk
 split at hk
 ·exact hnm _ k hk
 split at hk
 ·split at hk
  ·cases hk
  ·exact hnm _ k hk
 split at hk
 ·simp only at hk
  cases ho : openT T (ks.getD 0 []) (ks.getD 1 []) (strOfNums (ks.getD 2 [])) with
  | none => rw [ho] at hk; cases hk
  | some p =>
   rw [ho] at hk
   obtain ⟨x, hx, e⟩ := openT_keys (u := p.1) (ks := p.2) ho
   have hk2 : k ∈ p.2 := hk
   rw [e] at hk2
   have hk3 := List.mem_of_mem_drop hk2
   exact ⟨(hw x hx).k32 k hk3, (hw x hx).by_ k hk3⟩
 split at hk
 ·simp only at hk
  split at hk
  ·cases hk
  ·rw [List.mem_singleton.1 hk]; exact hr
 ·cases hk
theorem cookM_few {T : List TermD} {seen ks : List (List Int)} {c : CookD} {m : Nat} (hm : 1 ≤ m) (hw : ∀ x ∈ T, x.keys.length ≤ m) : (cookM T seen ks c).2.length ≤ m := by
 unfold cookM
 split
 ·simp only
  split
  ·exact hm
  ·exact Nat.zero_le _
 split
 ·exact hm
 split
 ·split
  ·exact Nat.zero_le _
  ·exact hm
 split
 ·simp only
  cases ho : openT T (ks.getD 0 []) (ks.getD 1 []) (strOfNums (ks.getD 2 [])) with
  | none => exact Nat.zero_le _
  | some p =>
   obtain ⟨x, hx, e⟩ := openT_keys (u := p.1) (ks := p.2) ho
   show p.2.length ≤ m
   rw [e, List.length_drop]
   have := hw x hx
   omega
 split
 ·simp only
  split
  ·exact Nat.zero_le _
  ·exact hm
 ·exact Nat.zero_le _
theorem cookM_len {T : List TermD} {seen ks : List (List Int)} {c : CookD} : (cookM T seen ks c).1.length ≤ T.length + 1 := by
 have h := addT_le (ckT T ks c) T
 unfold cookM
 split
 ·simp
 split
 ·exact h
 split
 ·split
  ·simp
  ·exact h
 split
 ·simp
 split <;> simp
theorem more_ac {γ : Nat → Option Nat} {H0 H : AH} (hpw : Pw γ H0) (lw0 : Low H0.length H0 H) {b : Nat} {F : List Nat} {T : List TermD} (h : Tbl H b F T) (hnro : ∀ j ∈ F, H0.length ≤ j) {sv mv : Value} {seen made : List (List Int)} (hsv : KsP H F sv seen) (hs32 : ∀ k ∈ seen, k.length = 32 ∧ By k) (hmv : KsP H F mv made) (hk32 : ∀ k ∈ made, k.length = 32 ∧ By k) (hmm : made.length ≤ 100000)
  {C : List Value} {x : CookD} {xv : Value} (hc : CkC H C x xv) (hx : x.Wf) (hxt : x.text.size ≤ 1000) (hxm : x.keys.length ≤ 1000) (hT : T.length ≤ 900000) (hfew : ∀ y ∈ T, y.keys.length ≤ 1000) :
  AC Tryd.prog H0.length γ 12 #[.agg #[.pointer (some ⟨b, 0, none⟩)], sv, mv, .agg C.toArray] H (CkQ H b F (moreM T seen made x).1 (moreM T seen made x).2) := by
 have cl := hc.len
 have tC : C.take 36 = C := List.take_of_length_le (by omega)
 have hFl := h.bound
 have mk32 : ∀ k ∈ made, k.length = 32 := fun k hk => (hk32 k hk).1
 have sk32 : ∀ k ∈ seen, k.length = 32 := fun k hk => (hs32 k hk).1
 have mnt := hmv.nt
 have snt := hsv.nt
 obtain ⟨B, hB⟩ : ∃ B : AH, B = H ++ [some ⟨[.pointer (some ⟨b, 0, none⟩)], 27, none⟩, some ⟨C, 43, none⟩] := ⟨_, rfl⟩
 have gT : hget B H.length = some ⟨[.pointer (some ⟨b, 0, none⟩)], 27, none⟩ := by rw [hB, hget_app0]; rfl
 have gC : hget B (H.length + 1) = some ⟨C, 43, none⟩ := by rw [hB, hget_app]; rfl
 have hBl : B.length = H.length + 2 := by rw [hB]; simp
 have lwB : Low H.length H B := by rw [hB]; exact Low.push (Nat.le_refl _) _
 have f0 : Fr H B F F := low_fr F lwB
 have tB : Tbl B b F T := h.low (fun j hj => lwB.1 j (hFl j hj)) lwB.2
 have lwB0 : Low H0.length H0 B := lowFr lw0 hnro f0
 have mvB := hmv.fr f0
 have svB := hsv.fr f0
 have hcB := hc.low lwB
 have ldC := (hcB.loads hx gC).2.2.2.2.2
 have hnB : H0.length ≤ B.length := lwB0.2
 have hpk := picked_ac (nro := H0.length) (γ := γ) hnB mvB.now mk32 (by omega) hcB hx hxm
 have hpl : plain1 (.slice none 0 0) = true := rfl
 unfold moreM
 refine ac_of_aw Tryd.func12 rfl Tryd.ntmps12 Tryd.results12 (by simp) ?_
 (refine aw_seq (aoo fun K hK => ?_); simp (disch := first | omega | (simp only [lnS]; try omega)) [-getElem?_pos, -getElem?_neg, cl]; refine hK _ _ ?_; clear hK K)
 rw [← hB]
 clear hB
 refine aw_seq (aoo fun K hK => ?_)
 simp (disch := first | omega | (simp only [lnS]; try omega)) [-getElem?_pos, -getElem?_neg, -xload, ldC, -notTuple, mnt.1, mnt.2]
 refine ⟨by kernel_rfl, AC.mono hpk ?_⟩
 rintro v1 B2 ⟨lw2, kv, rfl, knt, kcs, hok⟩
 try simp (disch := first | omega | (simp only [lnS]; try omega)) [-getElem?_pos, -getElem?_neg, -notTuple, knt, kcs]
 refine hK _ _ ?_; clear hK K
 have f2 : Fr B B2 F F := low_fr F lw2
 have tB2 : Tbl B2 b F T := tB.low (fun j hj => lw2.1 j (tB.bound j hj)) lw2.2
 have lwB2 : Low H0.length H0 B2 := lowFr lwB0 hnro f2
 have mvB2 := mvB.fr f2
 have svB2 := svB.fr f2
 have hcB2 := hcB.low lw2
 have gT2 := (lw2.1 _ (hget_lt gT)).trans gT
 have gC2 := (lw2.1 _ (hget_lt gC)).trans gC
 have ldC2 := (hcB2.loads hx gC2).2.2.2.2.2
 have ldF2 : xload Tryd.prog 27 (.pointer (some ⟨H.length, 0, none⟩)) B2 = some (.agg #[.pointer (some ⟨b, 0, none⟩)]) := by simp [xload, gT2]
 refine aw_seq (aw_seq ?_)
 by_cases hgo : inR made.length x.keys = true ∧ needN x.kind ≤ x.keys.length
 ·rw [if_pos hgo]
  obtain ⟨Fk, hok, hFk⟩ := hok hgo.1
  have hd : (inR made.length x.keys && decide (needN x.kind ≤ x.keys.length)) = true := by rw [hgo.1, decide_eq_true hgo.2]; rfl
  rw [hd]
  have hck := cooked_ac hpw lwB2 tB2 hnro svB2 sk32 hok (fun j hj e => by have := hFk j hj; have := hFl j e; omega) (fun k hk => hk32 k (pickL_mem hgo.1 k hk)) (by rw [pickL_len]; exact hxm) hcB2 hx hxt (by rw [pickL_len]; exact hgo.2) hT
  have hnk := cookM_k (ks := pickL made x.keys) (c := x) tB2.wf hs32 hx.raw
  have hnf := cookM_few (ks := pickL made x.keys) (seen := seen) (c := x) (m := 1000) (by omega) hfew
  generalize cookM T seen (pickL made x.keys) x = R at *
  obtain ⟨T1, new⟩ := R
  simp only at hck hnk hnf ⊢
  (refine aoo fun K hK => ?_; simp (disch := first | omega | (simp only [lnS]; try omega)) [-getElem?_pos, -getElem?_neg]; refine hK _ _ ?_; clear hK K)
  refine aw_f (by (first | (simp; done) | (simp; omega))) (by kernel_rfl) ?_
  refine aw_skip (aw_seq ?_)
  refine aoo fun K hK => ?_
  simp (disch := first | omega | (simp only [lnS]; try omega)) [-getElem?_pos, -getElem?_neg, -xload, ldC2, ldF2, -notTuple, mnt.1, snt.1, knt]
  refine ⟨by kernel_rfl, AC.mono hck ?_⟩
  rintro v2 G ⟨F1, f1, t1, kn⟩
  have knn := kn.nt
  have nk32 : K32 new := fun k hk => (hnk k hk).1
  obtain ⟨R, hR⟩ : ∃ R : Option Blk, R = some ⟨[mv, v2], 34, some 1⟩ := ⟨_, rfl⟩
  have gR : hget (G ++ [R]) G.length = some ⟨[mv, v2], 34, some 1⟩ := by rw [hget_app0]; exact hR
  have mvG := (mvB2.fr f1).fr ((Fr.refl G F1).push [R])
  have kvG := kn.fr ((Fr.refl G F1).push [R])
  have hcc := concatK_ac (nro := H0.length) (γ := γ) (H := G ++ [R]) (v := undef) (j := G.length) (xs := [mv, v2]) (L := [made, new]) (fun l hl => by
   simp only [List.mem_cons, List.not_mem_nil, or_false] at hl
   rcases hl with rfl | rfl
   ·exact mk32
   ·exact nk32) gR rfl (fun i x c hx1 hc1 => by
   match i, hx1, hc1 with
   | 0, hx1, hc1 =>
    cases hx1
    cases hc1
    exact mvG.part mk32
   | 1, hx1, hc1 =>
    cases hx1
    cases hc1
    exact kvG.part nk32
   | i + 2, hx1, hc1 => simp at hx1) (by simp [sumK]; omega) (by simp) (by have := lwB2.2; have := f1.len; simp; omega)
  have hfl : [made, new].flatten = made ++ new := by simp
  rw [hfl] at hcc
  have r2 : List.range 2 = [0, 1] := rfl
  try simp (disch := first | omega | (simp only [lnS]; try omega)) [-getElem?_pos, -getElem?_neg, hpl, r2, -notTuple, knn.1, knn.2, mnt.1, mnt.2, ← hR]
  refine ⟨by kernel_rfl, AC.mono hcc ?_⟩
  rintro v3 G3 ⟨ho, hlG, hkG⟩
  have hvn := ho.nt
  try simp (disch := first | omega | (simp only [lnS]; try omega)) [-getElem?_pos, -getElem?_neg, -notTuple, hvn.1, hvn.2]
  refine hK _ _ ?_; clear hK K
  have hlG' : G.length + 1 ≤ G3.length := by simpa using hlG
  have lw3 : Low G.length G G3 := ⟨fun j hj => (hkG j (by simp; omega)).trans (hget_left hj), by omega⟩
  have fin : CkQ H b F T1 (made ++ new) v3 G3 := ⟨F1, (f0.trans f2).trans (f1.trans (low_fr F1 lw3)), t1.low (fun j hj => lw3.1 j (t1.bound j hj)) lw3.2, ownK_ksp ho (fun k hk => by
   rcases List.mem_append.1 hk with e | e
   ·exact mk32 k e
   ·exact nk32 k e) (fun j hj => by have := t1.bound j hj; simp; omega)⟩
  (refine aw_ret ?_; simp (disch := first | omega | (simp only [lnS]; try omega)) [-getElem?_pos, -getElem?_neg, thenQ_ret, scopeQ_ret, inBlockQ_ret, RQ, resL, resV, -notTuple, hvn.1, hvn.2])
  exact fin
 ·rw [if_neg hgo]
  have hd : (inR made.length x.keys && decide (needN x.kind ≤ x.keys.length)) = false := by
   rw [Bool.eq_false_iff]
   intro e
   rw [Bool.and_eq_true] at e
   exact hgo ⟨e.1, of_decide_eq_true e.2⟩
  rw [hd]
  have hcl := cloneP_ac (nro := H0.length) (γ := γ) (mvB2.part mk32) mk32 (by omega) lwB2.2
  (refine aoo fun K hK => ?_; simp (disch := first | omega | (simp only [lnS]; try omega)) [-getElem?_pos, -getElem?_neg]; refine hK _ _ ?_; clear hK K)
  refine aw_t (by (first | (simp; done) | (simp; omega))) (by kernel_rfl) ?_
  refine aw_seq (aoo fun K hK => ?_)
  simp (disch := first | omega | (simp only [lnS]; try omega)) [-getElem?_pos, -getElem?_neg, -notTuple, mnt.1]
  refine ⟨by kernel_rfl, AC.mono hcl ?_⟩
  rintro v2 G ⟨ho, lwG⟩
  have hvn := ho.nt
  try simp (disch := first | omega | (simp only [lnS]; try omega)) [-getElem?_pos, -getElem?_neg, -notTuple, hvn.1, hvn.2]
  refine hK _ _ ?_; clear hK K
  have fin : CkQ H b F T made v2 G := ⟨F, (f0.trans f2).trans (low_fr F lwG), tB2.low (fun j hj => lwG.1 j (tB2.bound j hj)) lwG.2, ownK_ksp ho mk32 (fun j hj => tB2.bound j hj)⟩
  (refine aw_ret ?_; simp (disch := first | omega | (simp only [lnS]; try omega)) [-getElem?_pos, -getElem?_neg, thenQ_ret, scopeQ_ret, inBlockQ_ret, RQ, resL, resV, -notTuple, hvn.1, hvn.2])
  exact fin
end
section
structure CkP (H : AH) (F : List Nat) (v : Value) (L : List CookD) : Prop where
 nt : notTuple v = true
 cs : v.cells = #[v]
 len : xlen Tryd.prog 22 v = some (.int .i64 (L.length : Nat))
 at_ : ∀ (i : Nat) (x : CookD), L[i]? = some x → ∃ p C kv, notTuple p = true ∧ xindexAddr Tryd.prog 22 v (.int .i64 (i : Nat)) = some p ∧ ∀ G : AH, H.length ≤ G.length → (∀ j, j < H.length → j ∉ F → hget G j = hget H j) → xload Tryd.prog 43 p G = some (.agg C.toArray) ∧ CkC G C x kv
theorem CkP.fr {H H' : AH} {F F' : List Nat} {v : Value} {L : List CookD} (h : CkP H F v L) (f : Fr H H' F F') : CkP H' F' v L := ⟨h.nt, h.cs, h.len, fun i x hi => by
 obtain ⟨p, C, kv, h1, h2, h3⟩ := h.at_ i x hi
 refine ⟨p, C, kv, h1, h2, fun G hl hg => h3 G (Nat.le_trans f.len hl) (fun j hj hn => ?_)⟩
 rw [hg j (Nat.lt_of_lt_of_le hj f.len) (fun e => ?_), f.out j hj hn]
 rcases f.new j e with e1 | e1
 ·exact hn e1
 ·omega⟩
theorem CkV.ckp {H0 H : AH} {F : List Nat} {v : Value} {L : List CookD} (h : CkV H0 v L) (hL : ∀ x ∈ L, x.Wf) (lw : Low H0.length H0 H) (hF : ∀ j ∈ F, H0.length ≤ j) : CkP H F v L := by
 have ha := h.acc hL
 refine ⟨ha.nt, ha.cs, ha.len, fun i x hi => ?_⟩
 have hlt := (List.getElem?_eq_some_iff.1 hi).1
 obtain ⟨p, y, h1, h2, _, ⟨us, z, kv, rfl, hz, hc⟩, h3⟩ := ha.at_ i hlt
 rw [hi] at hz
 cases hz
 have up : ∀ G : AH, H.length ≤ G.length → (∀ j, j < H.length → j ∉ F → hget G j = hget H j) → Low H0.length H0 G := fun G hl hg => ⟨fun j hj => (hg j (by have := lw.2; omega) (fun e => by have := hF j e; omega)).trans (lw.1 j hj), by have := lw.2; omega⟩
 exact ⟨p, us, kv, h1, h2, fun G hl hg => ⟨h3 G (up G hl hg), hc.low (up G hl hg)⟩⟩
structure CookD.Ok (x : CookD) : Prop where
 wf : x.Wf
 text : x.text.size ≤ 1000
 keys : x.keys.length ≤ 998
structure MkOk (T : List TermD) (made : List (List Int)) (n : Nat) : Prop where
 k : ∀ k ∈ made, k.length = 32 ∧ By k
 m : made.length ≤ n * 1000
 t : T.length ≤ n + 10
 few : ∀ y ∈ T, y.keys.length ≤ 1000
theorem ckT_few {T : List TermD} {ks : List (List Int)} {c : CookD} (hk : ks.length ≤ 998) (hc : c.kind ≠ 5) : (ckT T ks c).keys.length ≤ 1000 := by
 unfold ckT
 split
 ·exact Nat.zero_le _
 split
 ·show ks.length ≤ _
  omega
 split
 ·show 1 ≤ 1000
  omega
 show (ks.drop 2).length + 1 + 1 ≤ 1000
 rw [List.length_drop]
 omega
theorem agree_few (T : List TermD) (s p : List Int) : (agreeT T s p).keys.length ≤ 1000 := by
 unfold agreeT
 split
 ·split
  ·split
   ·show 2 ≤ 1000
    omega
   ·show 2 ≤ 1000
    omega
  ·show 2 ≤ 1000
   omega
 ·show 2 ≤ 1000
  omega
theorem cookM_fewT {T : List TermD} {seen ks : List (List Int)} {c : CookD} (hk : ks.length ≤ 998) (h : ∀ y ∈ T, y.keys.length ≤ 1000) : ∀ y ∈ (cookM T seen ks c).1, y.keys.length ≤ 1000 := fun y hy => by
 have hadd : (ckT T ks c).keys.length ≤ 1000 := by
  by_cases h5 : c.kind = 5
  ·unfold ckT
   rw [if_neg (by omega), if_neg (by omega), if_neg (by omega), if_pos h5]
   exact agree_few _ _ _
  ·exact ckT_few hk h5
 have hm : ∀ y ∈ addT (ckT T ks c) T, y.keys.length ≤ 1000 := fun y hy => by
  rcases addT_mem hy with e | rfl
  ·exact h y e
  ·exact hadd
 unfold cookM at hy
 split at hy
 ·exact h y hy
 split at hy
 ·exact hm y hy
 split at hy
 ·split at hy
  ·exact h y hy
  ·exact hm y hy
 split at hy
 ·exact h y hy
 split at hy
 ·exact h y hy
 ·exact h y hy
theorem MkOk.more {T : List TermD} {seen made : List (List Int)} {n : Nat} {x : CookD} (h : MkOk T made n) (hT : ∀ y ∈ T, y.Wf) (hx : x.Ok) (hs : ∀ k ∈ seen, k.length = 32 ∧ By k) : MkOk (moreM T seen made x).1 (moreM T seen made x).2 (n + 1) := by
 unfold moreM
 by_cases hgo : inR made.length x.keys = true ∧ needN x.kind ≤ x.keys.length
 ·rw [if_pos hgo]
  have hk := cookM_k (ks := pickL made x.keys) (c := x) hT hs hx.wf.raw
  have hf := cookM_few (ks := pickL made x.keys) (seen := seen) (c := x) (m := 1000) (by omega) h.few
  have hl := cookM_len (T := T) (ks := pickL made x.keys) (seen := seen) (c := x)
  have hfT := cookM_fewT (seen := seen) (c := x) (ks := pickL made x.keys) (by rw [pickL_len]; exact hx.keys) h.few
  refine ⟨fun k hk2 => ?_, ?_, ?_, hfT⟩
  ·rcases List.mem_append.1 hk2 with e | e
   ·exact h.k k e
   ·exact hk k e
  ·have := h.m
   rw [List.length_append]
   omega
  ·have := h.t
   show (cookM T seen (pickL made x.keys) x).1.length ≤ _
   omega
 ·rw [if_neg hgo]
  exact ⟨h.k, by have := h.m; show made.length ≤ _; omega, by have := h.t; show T.length ≤ _; omega, h.few⟩
theorem make_ac {γ : Nat → Option Nat} {H0 H : AH} (hpw : Pw γ H0) (lw0 : Low H0.length H0 H) {b : Nat} {F : List Nat} {T : List TermD} (h : Tbl H b F T) (hnro : ∀ j ∈ F, H0.length ≤ j) {sv lv : Value} {seen : List (List Int)} (hsv : KsP H F sv seen) (hs32 : ∀ k ∈ seen, k.length = 32 ∧ By k)
  {L : List CookD} (hlv : CkP H F lv L) (hL : ∀ x ∈ L, x.Ok) (hm : L.length ≤ 60) (hT : T.length ≤ 10) (hfew : ∀ y ∈ T, y.keys.length ≤ 1000) :
  AC Tryd.prog H0.length γ 10 #[.agg #[.pointer (some ⟨b, 0, none⟩)], sv, lv] H (fun v' H' => CkQ H b F (makeM seen L (T, [])).1 (makeM seen L (T, [])).2 v' H' ∧ MkOk (makeM seen L (T, [])).1 (makeM seen L (T, [])).2 L.length) := by
 have hpl : plain1 (.slice none 0 0) = true := rfl
 have hFl := h.bound
 have snt := hsv.nt
 have lnt := hlv.nt
 have lcs := hlv.cs
 have lln := hlv.len
 obtain ⟨n, hn⟩ : ∃ n, n = H.length := ⟨_, rfl⟩
 obtain ⟨B, hB⟩ : ∃ B : AH, B = H ++ [some ⟨[.pointer (some ⟨b, 0, none⟩)], 27, none⟩] := ⟨_, rfl⟩
 have gT : hget B n = some ⟨[.pointer (some ⟨b, 0, none⟩)], 27, none⟩ := by rw [hB, hn, hget_app0]; rfl
 have lwB : Low H.length H B := by rw [hB]; exact Low.push (Nat.le_refl _) _
 have f0 : Fr H B F F := low_fr F lwB
 have tB : Tbl B b F T := h.low (fun j hj => lwB.1 j (hFl j hj)) lwB.2
 have nF : n ∉ F := fun e => by have := hFl _ e; omega
 have mk0 : MkOk T [] 0 := ⟨fun k hk => (by cases hk), Nat.zero_le _, by omega, hfew⟩
 refine ac_of_aw Tryd.func10 rfl Tryd.ntmps10 Tryd.results10 (by simp) ?_
 (refine aw_seq (aoo fun K hK => ?_); simp (disch := first | omega | (simp only [lnS]; try omega)) [-getElem?_pos, -getElem?_neg]; refine hK _ _ ?_; clear hK K)
 rw [← hn, ← hB]
 clear hB
 (refine aw_seq (aoo fun K hK => ?_); simp (disch := first | omega | (simp only [lnS]; try omega)) [-getElem?_pos, -getElem?_neg]; refine hK _ _ ?_; clear hK K)
 refine aw_seq (aw_seq ?_)
 (refine aoo fun K hK => ?_; simp (disch := first | omega | (simp only [lnS]; try omega)) [-getElem?_pos, -getElem?_neg, -notTuple, lnt, lcs, -xlen, lln]; refine hK _ _ ?_; clear hK K)
 refine aw_block ?_
 refine aw_loop (fun q α G => ∃ (i : Nat) (F1 : List Nat) (out : Value), i + q = L.length ∧ α 1 = sv ∧ α 3 = .pointer (some ⟨n, 0, none⟩) ∧ α 7 = out ∧ α 10 = lv ∧ α 11 = .int .i64 (L.length : Nat) ∧ α 12 = .int .i64 (i : Nat) ∧ n ∉ F1 ∧ n < G.length ∧ hget G n = hget B n ∧ Fr B G F F1 ∧ Tbl G b F1 (makeM seen (L.take i) (T, [])).1 ∧ KsP G F1 out (makeM seen (L.take i) (T, [])).2 ∧ MkOk (makeM seen (L.take i) (T, [])).1 (makeM seen (L.take i) (T, [])).2 i) L.length ?_ ?_
 ·exact ⟨0, F, .slice none 0 0, by omega, by (first | (simp; done) | rfl), by (first | (simp; done) | rfl), by (first | (simp; done) | rfl), by (first | (simp; done) | rfl), by (first | (simp; done) | rfl), by (first | (simp; done) | rfl), nF, hget_lt gT, rfl, Fr.refl _ _, tB, KsP.nil _ _, mk0⟩
 rintro q α G ⟨i, F1, out, hiq, e1, e3, e7, e10, e11, e12, hnF, hnG, hgn, f1, t1, k1, mk1⟩
 have gT1 := hgn.trans gT
 have ont := k1.nt
 refine aw_seq ?_
 by_cases hi : i < L.length
 ·have hi' : (i : Int) < L.length := by omega
  obtain ⟨x, hx⟩ : ∃ x, L[i]? = some x := ⟨_, List.getElem?_eq_getElem hi⟩
  have hxo := hL x (List.mem_of_getElem? hx)
  have f01 := f0.trans f1
  obtain ⟨p, C, kv, p1, p2, p3⟩ := (hlv.fr f01).at_ i x hx
  obtain ⟨p4, p5⟩ := p3 G (Nat.le_refl _) (fun _ _ _ => rfl)
  have cl := p5.len
  have tC : C.take 36 = C := List.take_of_length_le (by omega)
  have sC : ∀ Z : List Value, Z.length = 36 → setR Z 0 C = C := fun Z hZ => setR_all _ _ (by omega)
  have hnG0 : H0.length ≤ G.length := (lowFr lw0 hnro f01).2
  have htk := makeM_take (seen := seen) hx (T, [])
  have hmt := mk1.m
  have htt := mk1.t
  have mk2 := mk1.more t1.wf hxo hs32
  obtain ⟨G2, hG2⟩ : ∃ G2 : AH, G2 = G ++ [some ⟨C, 43, none⟩] := ⟨_, rfl⟩
  have lw2 : Low G.length G G2 := by rw [hG2]; exact Low.push (Nat.le_refl _) _
  have f2 : Fr G G2 F1 F1 := low_fr F1 lw2
  have gC : hget G2 G.length = some ⟨C, 43, none⟩ := by rw [hG2, hget_app0]; rfl
  have lG2 := hget_lt gC
  have lw02 : Low H0.length H0 G2 := lowFr lw0 hnro (f01.trans f2)
  have hn1 : ∀ j ∈ F1, H0.length ≤ j := f01.lo hnro lw0.2
  have tG2 : Tbl G2 b F1 (makeM seen (L.take i) (T, [])).1 := t1.low (fun j hj => lw2.1 j (t1.bound j hj)) lw2.2
  have hmo := more_ac hpw lw02 tG2 hn1 (hsv.fr (f01.trans f2)) hs32 (k1.fr f2) mk1.k (by omega) (p5.low lw2) hxo.wf hxo.text (by have := hxo.keys; omega) (by omega) mk1.few
  have gT2 := (lw2.1 _ hnG).trans gT1
  have ldF : xload Tryd.prog 27 (.pointer (some ⟨n, 0, none⟩)) G2 = some (.agg #[.pointer (some ⟨b, 0, none⟩)]) := by simp [xload, gT2]
  have ldC : xload Tryd.prog 43 (.pointer (some ⟨G.length, 0, none⟩)) G2 = some (.agg C.toArray) := ((p5.low lw2).loads hxo.wf gC).2.2.2.2.2
  rw [← htk] at hmo mk2
  (refine aoo fun K hK => ?_; simp (disch := first | omega | (simp only [lnS]; try omega)) [-getElem?_pos, -getElem?_neg, e11, e12, hi']; refine hK _ _ ?_; clear hK K)
  refine aw_seq ?_
  refine aw_t (by (first | (simp; done) | (simp; omega))) (by kernel_rfl) ?_
  refine aw_skip (aw_seq ?_)
  refine aw_block ?_
  (refine aw_seq (aoo fun K hK => ?_); simp (disch := first | omega | (simp only [lnS]; try omega)) [-getElem?_pos, -getElem?_neg, e10, e12, -xload, p4, -xindexAddr, p2, p1, -notTuple, lnt, cl, tC, sC, hpl, hnG0]; refine hK _ _ ?_; clear hK K)
  rw [← hG2]
  refine aoo fun K hK => ?_
  simp (disch := first | omega | (simp only [lnS]; try omega)) [-getElem?_pos, -getElem?_neg, e1, e3, e7, -xload, ldF, ldC, -notTuple, snt.1, ont.1]
  refine ⟨by kernel_rfl, AC.mono hmo ?_⟩
  rintro v2 G3 ⟨F3, f3, t3, k3⟩
  have nt3 := k3.nt
  try simp (disch := first | omega | (simp only [lnS]; try omega)) [-getElem?_pos, -getElem?_neg, -notTuple, nt3.1, nt3.2]
  refine hK _ _ ?_; clear hK K
  (refine aoo fun K hK => ?_; simp (disch := first | omega | (simp only [lnS]; try omega)) [-getElem?_pos, -getElem?_neg, e12]; refine hK _ _ ?_; clear hK K)
  have hnF2 : n ∉ F3 := fun e => by
   rcases f3.new n e with e' | e'
   ·exact hnF e'
   ·have := lw2.2; omega
  exact ⟨q - 1, by omega, i + 1, F3, v2, by omega, by (first | (simp [e1]; done) | rfl), by (first | (simp [e3]; done) | rfl), by (first | (simp; done) | rfl), by (first | (simp [e10]; done) | rfl), by (first | (simp [e11]; done) | rfl), by (first | (simp; done) | rfl), hnF2, by have := f3.len; have := lw2.2; omega, ((f3.out n (by have := lw2.2; omega) hnF).trans (lw2.1 n hnG)).trans hgn, (f1.trans f2).trans f3, t3, k3, mk2⟩
 ·obtain rfl : i = L.length := by omega
  rw [List.take_of_length_le (Nat.le_refl _)] at t1 k1 mk1
  (refine aoo fun K hK => ?_; simp (disch := first | omega | (simp only [lnS]; try omega)) [-getElem?_pos, -getElem?_neg, e11, e12]; refine hK _ _ ?_; clear hK K)
  refine aw_seq ?_
  refine aw_f (by (first | (simp; done) | (simp; omega))) (by kernel_rfl) ?_
  refine aw_exit (aw_seq ?_)
  (refine aoo fun K hK => ?_; simp (disch := first | omega | (simp only [lnS]; try omega)) [-getElem?_pos, -getElem?_neg, e7, -notTuple, ont.1, ont.2]; refine hK _ _ ?_; clear hK K)
  have fin : CkQ H b F (makeM seen L (T, [])).1 (makeM seen L (T, [])).2 out G ∧ MkOk (makeM seen L (T, [])).1 (makeM seen L (T, [])).2 L.length := ⟨⟨F1, f0.trans f1, t1, k1⟩, mk1⟩
  (refine aw_ret ?_; simp (disch := first | omega | (simp only [lnS]; try omega)) [-getElem?_pos, -getElem?_neg, thenQ_ret, scopeQ_ret, inBlockQ_ret, RQ, resL, resV, -notTuple, ont.1, ont.2])
  exact fin
end
section
def greatC (x : CookD) : Bool := decide (200 < x.text.size) || decide (10 < x.keys.length)
theorem CkV.fld {H : AH} {v : Value} {L : List CookD} (h : CkV H v L) (hL : ∀ x ∈ L, x.Wf) {i : Nat} {x : CookD} (hi : L[i]? = some x) :
  ∃ j kv, xindexAddr Tryd.prog 22 v (.int .i64 (i : Nat)) = some (.pointer (some ⟨j, i * 36, none⟩)) ∧ InV H kv x.keys ∧ ∀ G : AH, Low H.length H G → xload Tryd.prog 3 (.pointer (some ⟨j, i * 36, none⟩)) G = some (.int .i64 x.kind) ∧ xload Tryd.prog 9 (.pointer (some ⟨j, i * 36 + 2, none⟩)) G = some (.string x.text) ∧ xload Tryd.prog 39 (.pointer (some ⟨j, i * 36 + 3, none⟩)) G = some kv := by
 have hzw := hL x (List.mem_of_getElem? hi)
 obtain ⟨j, b, us, hv, hb, hle, hx, hus, hul, hle2, hc, hval⟩ := val_at (P := Tryd.prog) (t := 22) (e := 43) (sz := 36) h (by kernel_rfl) (by kernel_rfl) (by omega) (fun row hr => by
  obtain ⟨y, hy, rfl⟩ := List.mem_map.1 hr
  have h1 := (hL y hy).raw.1
  simp [CookD.row, kd, h1]) (i := i) (row := x.row) (by rw [List.getElem?_map, hi]; rfl)
 obtain ⟨kv, hcc⟩ := cook_c hzw hval
 have c0 := (hc 0 (by omega)).trans hcc.c0
 have c2 := (hc 2 (by omega)).trans hcc.c2
 have c3 := (hc 3 (by omega)).trans hcc.c3
 rw [Nat.add_zero] at c0
 refine ⟨j, kv, hx, hcc.kv, fun G hg => ?_⟩
 have hbG : hget G j = some b := (hg.1 j (hget_lt hb)).trans hb
 exact ⟨by simp [xload, hbG, c0], by simp [xload, hbG, c2], by simp [xload, hbG, c3]⟩
theorem great_rc {γ : Nat → Option Nat} {H : AH} {v : Value} {L : List CookD} (h : CkV H v L) (hL : ∀ x ∈ L, x.Wf) (hm : L.length ≤ maxLen) : AC Tryd.prog H.length γ 7 #[v] H (fun v' _ => v' = .bool (decide (60 < L.length) || L.any greatC)) := by
 obtain ⟨D, hD⟩ : ∃ D : Bool, D = (decide (60 < L.length) || L.any greatC) := ⟨_, rfl⟩
 rw [← hD]
 obtain ⟨hnt, hcs, hln, _⟩ := h.acc hL
 have hm9 : L.length ≤ 9223372036854775807 := by simp only [maxLen] at hm; omega
 by_cases h60 : 60 < L.length
 ·have h60' : (60 : Int) < L.length := by omega
  have hy : D = true := by rw [hD, decide_eq_true h60]; rfl
  refine ac_of_aw Tryd.func7 rfl Tryd.ntmps7 Tryd.results7 (by simp) ?_
  (refine aw_seq (aoo fun K hK => ?_); simp (disch := first | omega | (simp only [lnS]; try omega)) [-getElem?_pos, -getElem?_neg]; refine hK _ _ ?_; clear hK K)
  refine aw_seq (aw_seq ?_)
  (refine aoo fun K hK => ?_; simp (disch := first | omega | (simp only [lnS]; try omega)) [-getElem?_pos, -getElem?_neg, -notTuple, hnt, hcs, -xlen, hln, h60']; refine hK _ _ ?_; clear hK K)
  refine aw_t (by (first | (simp; done) | (simp; omega))) (by kernel_rfl) ?_
  (refine aw_seq (aoo fun K hK => ?_); simp (disch := first | omega | (simp only [lnS]; try omega)) [-getElem?_pos, -getElem?_neg]; refine hK _ _ ?_; clear hK K)
  (refine aw_ret ?_; simp (disch := first | omega | (simp only [lnS]; try omega)) [-getElem?_pos, -getElem?_neg, thenQ_ret, scopeQ_ret, inBlockQ_ret, RQ, resL, resV, hy])
 ·have h60' : ¬ (60 : Int) < L.length := by omega
  refine ac_of_aw Tryd.func7 rfl Tryd.ntmps7 Tryd.results7 (by simp) ?_
  (refine aw_seq (aoo fun K hK => ?_); simp (disch := first | omega | (simp only [lnS]; try omega)) [-getElem?_pos, -getElem?_neg]; refine hK _ _ ?_; clear hK K)
  refine aw_seq (aw_seq ?_)
  (refine aoo fun K hK => ?_; simp (disch := first | omega | (simp only [lnS]; try omega)) [-getElem?_pos, -getElem?_neg, -notTuple, hnt, hcs, -xlen, hln, h60']; refine hK _ _ ?_; clear hK K)
  refine aw_f (by (first | (simp; done) | (simp; omega))) (by kernel_rfl) ?_
  refine aw_skip ?_
  refine aw_seq (aw_seq ?_)
  (refine aoo fun K hK => ?_; simp (disch := first | omega | (simp only [lnS]; try omega)) [-getElem?_pos, -getElem?_neg]; refine hK _ _ ?_; clear hK K)
  refine aw_block ?_
  refine aw_loop (fun q α G => ∃ i : Nat, i + q = L.length ∧ α 0 = v ∧ α 3 = .int .i64 (i : Nat) ∧ (L.take i).any greatC = false ∧ G = H) L.length ?_ ?_
  ·exact ⟨0, by omega, by (first | (simp; done) | rfl), by (first | (simp; done) | rfl), rfl, rfl⟩
  rintro q α G ⟨i, hiq, e0, e3, hno, rfl⟩
  refine aw_seq (aw_seq ?_)
  by_cases hi : i < L.length
  ·have hi' : (i : Int) < L.length := by omega
   obtain ⟨x, hx⟩ : ∃ x, L[i]? = some x := ⟨_, List.getElem?_eq_getElem hi⟩
   have hxw := hL x (List.mem_of_getElem? hx)
   obtain ⟨j, kv, p1, hkv, p2⟩ := h.fld hL hx
   obtain ⟨_, p4, p5⟩ := p2 G (Low.refl (Nat.le_refl _))
   obtain ⟨knt, kcs, kln, _⟩ := hkv.acc
   have hkm : x.keys.length ≤ 9223372036854775807 := by have := hxw.klen; simp only [maxLen] at this; omega
   have htm : x.text.size ≤ 9223372036854775807 := by have := hxw.text; simp only [maxLen] at this; omega
   have xst : xlen Tryd.prog 9 (.string x.text) = some (.int .i64 (x.text.size : Nat)) := by
    have hu : und Tryd.prog 9 = .string := by kernel_rfl
    simp [xlen, hu]
   have htk : (L.take (i + 1)).any greatC = greatC x := by rw [List.take_add_one, hx, List.any_append, hno]; simp
   (refine aoo fun K hK => ?_; simp (disch := first | omega | (simp only [lnS]; try omega)) [-getElem?_pos, -getElem?_neg, e0, e3, -notTuple, hnt, hcs, -xlen, hln, hi']; refine hK _ _ ?_; clear hK K)
   refine aw_t (by (first | (simp; done) | (simp; omega))) (by kernel_rfl) ?_
   refine aw_skip (aw_seq ?_)
   refine aw_block ?_
   refine aw_seq ?_
   have hyes : greatC x = true → D = true := fun e => by
    rw [hD, Bool.or_eq_true]
    exact .inr (List.any_eq_true.2 ⟨x, List.mem_of_getElem? hx, e⟩)
   by_cases ht : 200 < x.text.size
   ·have ht' : (200 : Int) < x.text.size := by omega
    have hy := hyes (by unfold greatC; rw [decide_eq_true ht]; rfl)
    (refine aoo fun K hK => ?_; simp (disch := first | omega | (simp only [lnS]; try omega)) [-getElem?_pos, -getElem?_neg, e0, e3, -xload, p4, -notTuple, hnt, -xindexAddr, p1, htm, ht']; refine hK _ _ ?_; clear hK K)
    refine aw_t (by (first | (simp; done) | (simp; omega))) (by kernel_rfl) ?_
    (refine aw_seq (aoo fun K hK => ?_); simp (disch := first | omega | (simp only [lnS]; try omega)) [-getElem?_pos, -getElem?_neg]; refine hK _ _ ?_; clear hK K)
    (refine aw_ret ?_; simp (disch := first | omega | (simp only [lnS]; try omega)) [-getElem?_pos, -getElem?_neg, thenQ_ret, scopeQ_ret, inBlockQ_ret, RQ, resL, resV, hy])
   ·have ht' : ¬ (200 : Int) < x.text.size := by omega
    by_cases hk : 10 < x.keys.length
    ·have hk' : (10 : Int) < x.keys.length := by omega
     have hy := hyes (by unfold greatC; rw [decide_eq_true hk, Bool.or_true])
     (refine aoo fun K hK => ?_; simp (disch := first | omega | (simp only [lnS]; try omega)) [-getElem?_pos, -getElem?_neg, e0, e3, -xload, p4, p5, -notTuple, hnt, -xindexAddr, p1, htm, ht', knt, -xlen, kln, xst, hk']; refine hK _ _ ?_; clear hK K)
     refine aw_t (by (first | (simp; done) | (simp; omega))) (by kernel_rfl) ?_
     (refine aw_seq (aoo fun K hK => ?_); simp (disch := first | omega | (simp only [lnS]; try omega)) [-getElem?_pos, -getElem?_neg]; refine hK _ _ ?_; clear hK K)
     (refine aw_ret ?_; simp (disch := first | omega | (simp only [lnS]; try omega)) [-getElem?_pos, -getElem?_neg, thenQ_ret, scopeQ_ret, inBlockQ_ret, RQ, resL, resV, hy])
    ·have hk' : ¬ (10 : Int) < x.keys.length := by omega
     (refine aoo fun K hK => ?_; simp (disch := first | omega | (simp only [lnS]; try omega)) [-getElem?_pos, -getElem?_neg, e0, e3, -xload, p4, p5, -notTuple, hnt, -xindexAddr, p1, htm, ht', knt, -xlen, kln, xst, hk']; refine hK _ _ ?_; clear hK K)
     refine aw_f (by (first | (simp; done) | (simp; omega))) (by kernel_rfl) ?_
     refine aw_skip ?_
     (refine aoo fun K hK => ?_; simp (disch := first | omega | (simp only [lnS]; try omega)) [-getElem?_pos, -getElem?_neg, e3]; refine hK _ _ ?_; clear hK K)
     exact ⟨q - 1, by omega, i + 1, by omega, by (first | (simp [e0]; done) | rfl), by (first | (simp; done) | rfl), by rw [htk]; unfold greatC; rw [decide_eq_false ht, decide_eq_false hk]; rfl, rfl⟩
  ·obtain rfl : i = L.length := by omega
   rw [List.take_of_length_le (Nat.le_refl _)] at hno
   (refine aoo fun K hK => ?_; simp (disch := first | omega | (simp only [lnS]; try omega)) [-getElem?_pos, -getElem?_neg, e0, e3, -notTuple, hnt, hcs, -xlen, hln]; refine hK _ _ ?_; clear hK K)
   refine aw_f (by (first | (simp; done) | (simp; omega))) (by kernel_rfl) ?_
   refine aw_exit (aw_seq ?_)
   (refine aoo fun K hK => ?_; simp (disch := first | omega | (simp only [lnS]; try omega)) [-getElem?_pos, -getElem?_neg]; refine hK _ _ ?_; clear hK K)
   have hn : D = false := by rw [hD, hno, decide_eq_false h60]; rfl
   (refine aw_ret ?_; simp (disch := first | omega | (simp only [lnS]; try omega)) [-getElem?_pos, -getElem?_neg, thenQ_ret, scopeQ_ret, inBlockQ_ret, RQ, resL, resV, hn])
theorem tbl_new {H : AH} {b mb : Nat} (h : TblF H b mb (.slice none 0 0) [] [] []) : Tbl H b [b, mb] [] := ⟨mb, _, [], [], [], rfl, h, rfl, fun j hj => by
 simp only [List.mem_cons, List.not_mem_nil, or_false] at hj
 rcases hj with rfl | rfl
 ·exact hget_lt h.hb
 ·exact hget_lt h.hm⟩
theorem newfree_ac {γ : Nat → Option Nat} {nro : Nat} {H : AH} (hn : nro ≤ H.length) : AC Tryd.prog nro γ 8 #[] H (fun v' H' => ∃ b F, v' = .agg #[.pointer (some ⟨b, 0, none⟩)] ∧ Low H.length H H' ∧ Tbl H' b F [] ∧ ∀ j ∈ F, H.length ≤ j) := by
 have hne := tnew_ac (nro := nro) (γ := γ) (H := H ++ [some ⟨[.pointer none], 27, none⟩]) (by simp; omega)
 refine ac_of_aw Tryd.func8 rfl Tryd.ntmps8 Tryd.results8 (by simp) ?_
 (refine aw_seq (aoo fun K hK => ?_); simp (disch := first | omega | (simp only [lnS]; try omega)) [-getElem?_pos, -getElem?_neg]; refine hK _ _ ?_; clear hK K)
 refine aw_seq (aoo fun K hK => ?_)
 simp (disch := first | omega | (simp only [lnS]; try omega)) [-getElem?_pos, -getElem?_neg]
 refine ⟨by kernel_rfl, AC.mono hne ?_⟩
 rintro v1 G ⟨rfl, lw, ht⟩
 have lw' : Low H.length H G := ⟨fun j hj => (lw.1 j (by simp; omega)).trans (hget_left hj), by have := lw.2; simp at this; omega⟩
 have g0 : hget G H.length = some ⟨[.pointer none], 27, none⟩ := (lw.1 _ (by simp)).trans (by rw [hget_app0]; rfl)
 have l0 := hget_lt g0
 have hpp : plain1 (.pointer none) = true := rfl
 have hnG : nro ≤ H.length := hn
 try simp (disch := first | omega | (simp only [lnS]; try omega)) [-getElem?_pos, -getElem?_neg, g0, l0, hnG, hpp, -notTuple]
 refine hK _ _ ?_; clear hK K
 (refine aw_ret ?_; simp (disch := first | omega | (simp only [lnS]; try omega)) [-getElem?_pos, -getElem?_neg, thenQ_ret, scopeQ_ret, inBlockQ_ret, RQ, resL, resV, l0, -notTuple])
 have w1 := tbl_new ht
 simp only [List.length_append, List.length_cons, List.length_nil, Nat.zero_add] at w1
 refine ⟨⟨fun j hj => (hget_set_ne (by omega)).trans (lw'.1 j hj), by have := lw'.2; simpa using this⟩, [H.length + 1 + 1, H.length + 1], ?_, fun j hj => ?_⟩
 ·refine w1.low (fun j hj => hget_set_ne ?_) (by simp)
  simp only [List.mem_cons, List.not_mem_nil, or_false] at hj
  omega
 ·simp only [List.mem_cons, List.not_mem_nil, or_false] at hj
  omega
end
end
section
def sA : TermD := ⟨1, ⟨#[97]⟩, []⟩
def sB : TermD := ⟨1, ⟨#[98]⟩, []⟩
def sX : TermD := ⟨6, ⟨#[116, 101, 120, 116]⟩, [n0, zl 32, n1]⟩
def sP : TermD := ⟨3, ⟨#[]⟩, [n1]⟩
def sH : TermD := ⟨2, ⟨#[104]⟩, [n0]⟩
def sT1 : List TermD := [sA]
def sT2 : List TermD := [sA, sB]
def sT3 : List TermD := [sA, sB, sX]
def sT4 : List TermD := [sA, sB, sX, sP]
def sT5 : List TermD := [sA, sB, sX, sP, sH]
theorem sA_wf : sA.Wf := wf_atom (by decide)
theorem sB'_wf : sB.Wf := wf_atom (by decide)
theorem sB_wf : TermD.Wf ⟨6, ⟨#[116, 101, 120, 116]⟩, n0 :: zl 32 :: [n1]⟩ := wf_seal (by decide) rfl n0_by rfl zl_by32 (fun z hz => by rw [List.mem_singleton.1 hz]; exact ⟨rfl, n1_by⟩) (by decide)
theorem sP_wf : sP.Wf := wf_pub rfl n1_by
theorem sH_wf : sH.Wf := ⟨by decide, by decide, fun k hk => (by rw [List.mem_singleton.1 hk]; rfl), fun k hk => (by rw [List.mem_singleton.1 hk]; exact n0_by), by decide, fun e => (by cases e), fun e => (by cases e), fun e => (by cases e)⟩
theorem sT5_wf : ∀ x ∈ sT5, x.Wf := fun x hx => by
 simp only [sT5, List.mem_cons, List.not_mem_nil, or_false] at hx
 rcases hx with rfl | rfl | rfl | rfl | rfl
 ·exact sA_wf
 ·exact sB'_wf
 ·exact sB_wf
 ·exact sP_wf
 ·exact sH_wf
theorem kne {x y : TermD} (h : x.kind ≠ y.kind) : x ≠ y := fun e => h (congrArg TermD.kind e)
theorem sT5_nd : sT5.Nodup := by
 have h1 : sA ≠ sB := fun e => absurd (congrArg TermD.text e) (by decide)
 have h2 : sA ≠ sX := kne (by decide)
 have h3 : sA ≠ sP := kne (by decide)
 have h4 : sA ≠ sH := kne (by decide)
 have h5 : sB ≠ sX := kne (by decide)
 have h6 : sB ≠ sP := kne (by decide)
 have h7 : sB ≠ sH := kne (by decide)
 have h8 : sX ≠ sP := kne (by decide)
 have h9 : sX ≠ sH := kne (by decide)
 have hA : sP ≠ sH := kne (by decide)
 simp [sT5, h1, h2, h3, h4, h5, h6, h7, h8, h9, hA]
theorem s_add {x : TermD} {l : List TermD} {r : List TermD} (h : l ++ (x :: r) = sT5) : addT x l = l ++ [x] ∧ nameT x l = l.length := by
 have hw := sT5_wf
 have hn := sT5_nd
 rw [← h] at hw hn
 exact add_new (hw x (by simp)) (fun y hy => hw y (by simp [hy])) (fun hm => (List.nodup_append.1 hn).2.2 x hm x (by simp) rfl)
theorem sD1 : addT sA [] = sT1 := (s_add (l := []) (r := [sB, sX, sP, sH]) rfl).1
theorem sD2 : addT sB sT1 = sT2 := (s_add (l := sT1) (r := [sX, sP, sH]) rfl).1
theorem sD3 : addT sX sT2 = sT3 := (s_add (l := sT2) (r := [sP, sH]) rfl).1
theorem sD4 : addT sP sT3 = sT4 := (s_add (l := sT3) (r := [sH]) rfl).1
theorem sD5 : addT sH sT4 = sT5 := (s_add (l := sT4) (r := []) rfl).1
theorem sV1 : nmV sA [] = .agg (iv .u8 n0).toArray := by unfold nmV; rw [(s_add (x := sA) (l := []) (r := [sB, sX, sP, sH]) rfl).2]; rfl
theorem sV2 : nmV sB sT1 = .agg (iv .u8 n1).toArray := by unfold nmV; rw [(s_add (x := sB) (l := sT1) (r := [sX, sP, sH]) rfl).2]; rfl
theorem sV3 : nmL (nameT sX sT2 : Nat) = n2 := by rw [(s_add (x := sX) (l := sT2) (r := [sP, sH]) rfl).2]; rfl
theorem sV4 : nmV sP sT3 = .agg (iv .u8 n3).toArray := by unfold nmV; rw [(s_add (x := sP) (l := sT3) (r := [sH]) rfl).2]; rfl
theorem sV5 : nmV sH sT4 = .agg (iv .u8 n4).toArray := by unfold nmV; rw [(s_add (x := sH) (l := sT4) (r := []) rfl).2]; rfl
@[reducible] def SP1 (H0 B : AH) (S : List Nat) (tb rb : Nat) (s : Array Bool) (α : Fm) (G : AH) : Prop :=
 ∃ r5 r6 S2, Pl H0 S2 G tb rb (.slice none 0 0) (if s.getD 5 false = true then sT2 else if s.getD 2 false = true then sT1 else []) [] [] ∧ (∀ j ∈ S, j ∈ S2 ∧ hget G j = hget B j ∧ j < B.length) ∧ r5 ≠ r6 ∧
  (s.getD 6 false = true → α 5 = .pointer (some ⟨r5, 0, none⟩) ∧ r5 ∈ S2 ∧ B.length ≤ r5 ∧ hget G r5 = some ⟨iv .u8 (if s.getD 8 false = true then n0 else zl 32), 41, none⟩) ∧
  (s.getD 7 false = true → α 6 = .pointer (some ⟨r6, 0, none⟩) ∧ r6 ∈ S2 ∧ B.length ≤ r6 ∧ hget G r6 = some ⟨iv .u8 (if s.getD 9 false = true then n1 else zl 32), 41, none⟩)
theorem SP1.keep {H0 B : AH} {S : List Nat} {tb rb : Nat} {s : Array Bool} {α : Fm} {G : AH} {i t : Nat} {v : Value} (hi : i ∉ [2, 5, 6, 7, 8, 9]) (ht : t ∉ [5, 6]) (h : SP1 H0 B S tb rb s α G) : SP1 H0 B S tb rb (s.setIfInBounds i true) (α.put (some t) v) G := by
 simp only [List.mem_cons, List.not_mem_nil, or_false, not_or] at hi ht
 obtain ⟨h1, h2, h3, h4, h5, h6⟩ := hi
 obtain ⟨r5, r6, S2, w1, w2, w3, w4, w5⟩ := h
 refine ⟨r5, r6, S2, by rw [gs_ne h2, gs_ne h1]; exact w1, w2, w3, fun a => ?_, fun a => ?_⟩
 ·rw [gs_ne h3] at a
  rw [gs_ne h5]
  obtain ⟨x1, x2⟩ := w4 a
  exact ⟨by simpa [put_at, Ne.symm ht.1] using x1, x2⟩
 ·rw [gs_ne h4] at a
  rw [gs_ne h6]
  obtain ⟨x1, x2⟩ := w5 a
  exact ⟨by simpa [put_at, Ne.symm ht.2] using x1, x2⟩
@[reducible] def SP2 (H0 B : AH) (S : List Nat) (tb rb : Nat) (s : Array Bool) (α : Fm) (G : AH) : Prop :=
 ∃ r7 rA S2, Pl H0 S2 G tb rb (.slice none 0 0) (if s.getD 8 false = true then sT3 else sT2) sT2 [] ∧ (∀ j ∈ S, j ∈ S2 ∧ hget G j = hget B j ∧ j < B.length) ∧
  (s.getD 7 false = true → s.getD 8 false = false → α 27 = .slice (some ⟨r7, 0, none⟩) 1 1 ∧ r7 ∈ S2 ∧ hget G r7 = some ⟨iv .u8 n1, 41, some 32⟩) ∧
  (s.getD 10 false = true → α 7 = .pointer (some ⟨rA, 0, none⟩) ∧ rA ∈ S2 ∧ (H0.length ≤ rA ∧ rA ∉ S) ∧ hget G rA = some ⟨iv .u8 (if s.getD 11 false = true then n2 else zl 32), 41, none⟩)
theorem SP2.keep {H0 B : AH} {S : List Nat} {tb rb : Nat} {s : Array Bool} {α : Fm} {G : AH} {i t : Nat} {v : Value} (hi : i ∉ [7, 8, 10, 11]) (ht : t ∉ [27, 7]) (h : SP2 H0 B S tb rb s α G) : SP2 H0 B S tb rb (s.setIfInBounds i true) (α.put (some t) v) G := by
 simp only [List.mem_cons, List.not_mem_nil, or_false, not_or] at hi ht
 obtain ⟨h1, h2, h3, h4⟩ := hi
 obtain ⟨r7, rA, S2, w1, w2, w3, w4⟩ := h
 refine ⟨r7, rA, S2, by rw [gs_ne h2]; exact w1, w2, fun a b => ?_, fun a => ?_⟩
 ·rw [gs_ne h1] at a
  rw [gs_ne h2] at b
  obtain ⟨x1, x2⟩ := w3 a b
  exact ⟨by simpa [put_at, Ne.symm ht.1] using x1, x2⟩
 ·rw [gs_ne h3] at a
  rw [gs_ne h4]
  obtain ⟨x1, x2⟩ := w4 a
  exact ⟨by simpa [put_at, Ne.symm ht.2] using x1, x2⟩
def scAD : List (Option Nat) := [some 10, some 11, some 12, some 13, some 14, some 15, some 5, some 6, none, none]
def scAP : List (List Nat) := [[], [0], [1], [], [3], [2, 4], [], [], [0, 1, 2, 5, 6, 7], [0, 1, 2, 3, 4, 5, 6, 7, 8]]
def scAV (n tb : Nat) (i : Nat) (v : Value) : Prop := match i with
 | 0 => v = .pointer (some ⟨n, 0, none⟩)
 | 1 => v = .pointer (some ⟨tb, 0, none⟩)
 | 2 => v = .agg (iv .u8 n0).toArray
 | 3 => v = .pointer (some ⟨n, 0, none⟩)
 | 4 => v = .pointer (some ⟨tb, 0, none⟩)
 | 5 => v = .agg (iv .u8 n1).toArray
 | _ => True
theorem scA_nd : ∀ i j t : Nat, scAD[i]? = some (some t) → scAD[j]? = some (some t) → i = j := by
 have h : ∀ i < 10, ∀ j < 10, ∀ t : Nat, scAD[i]? = some (some t) → scAD[j]? = some (some t) → i = j := by
  intro i hi j hj t h1 h2
  have h3 : scAD[i]? = scAD[j]? := h1.trans h2.symm
  have h4 : (scAD[i]?.bind id).isSome = true := by rw [h1]; rfl
  revert h3 h4
  clear h1 h2
  revert i j
  decide
 intro i j t hi hj
 exact h i (List.getElem?_eq_some_iff.1 hi).1 j (List.getElem?_eq_some_iff.1 hj).1 t hi hj
def scBD : List (Option Nat) := [some 20, some 21, some 22, some 23, some 24, some 25, some 26, some 27, some 28, some 29, some 7, none]
def scBP : List (List Nat) := [[], [0], [], [2], [], [], [], [6], [3, 4, 5, 7], [1, 8], [], [0, 1, 2, 3, 4, 5, 6, 7, 8, 9, 10]]
def scBV (n tb b5 b6 : Nat) (i : Nat) (v : Value) : Prop := match i with
 | 0 => v = .pointer (some ⟨n, 0, none⟩)
 | 1 => v = .pointer (some ⟨tb, 0, none⟩)
 | 2 => v = .pointer (some ⟨n, 0, none⟩)
 | 3 => v = .pointer (some ⟨tb, 0, none⟩)
 | 4 => v = .agg (iv .u8 n0).toArray
 | 5 => v = .agg (iv .u8 (zl 32)).toArray
 | 6 => v = .agg (iv .u8 n1).toArray
 | 8 => v = .string (strOfNums n2)
 | 9 => v = .agg (iv .u8 n2).toArray
 | _ => True
theorem scB_nd : ∀ i j t : Nat, scBD[i]? = some (some t) → scBD[j]? = some (some t) → i = j := by
 have h : ∀ i < 12, ∀ j < 12, ∀ t : Nat, scBD[i]? = some (some t) → scBD[j]? = some (some t) → i = j := by
  intro i hi j hj t h1 h2
  have h3 : scBD[i]? = scBD[j]? := h1.trans h2.symm
  have h4 : (scBD[i]?.bind id).isSome = true := by rw [h1]; rfl
  revert h3 h4
  clear h1 h2
  revert i j
  decide
 intro i j t hi hj
 exact h i (List.getElem?_eq_some_iff.1 hi).1 j (List.getElem?_eq_some_iff.1 hj).1 t hi hj
end
section
attribute [local simp] wb_bool wb_undef with_lit XL_nil XL_cons XLc_val XLc_call step1_eq stepW_t stepW_f stepC_n stepC_s stepX_s stepX_n stepN_s calleeX xrecv oneV xop_eq xopR_s xopR_n wantedA_eq wantedG_n wantedG_s plain1_int plain1_bool plain1_string bits_i64 bits_u64 bits_u32 bits_u16 bits_u8 xeqA xagg xcmp xarr allK_iv num_iv calleeOf xread xeff xbin xint xnil xun xstr xload xconv xpart xfield xfieldAddr xindexAddr xindex bnd asInt? xslice xlen xmin xmax xbuild xfill xappend xapp2 xappstr xappmk xcap xcopy xcells eval_tmp eval_const put_at put_none fr0_at cells_agg cells_int cells_bool cells_string cells_ptr cells_slice notTuple tab iv_all hget_app hget_app0 hget_cons0 hget_cons set_app set_app0 setR setR_one QL_nil QL_cons QLc_val stepQ_t stepQ_f stepQC_n stepQC_s stepQX_s SL_nil SL_cons SLc_val stepS_t stepS_f ltT ltF leT leF eqT eqF ltTn ltFn leTn leFn eqTn eqFn beqT beqF bneT bneF wi64 wu64 wu32 wu16 wu8 tmodP tdivP hgetL hgetNe hgetEq setL nums_def nums_len Nat.succ_le_of_lt List.getElem?_cons_zero List.getElem?_cons_succ Option.getD_some Int.toNat_add Int.toNat_mul agM okM agB agI agS agP agL agA okB okI okS okP okSl okA nt_strG nt_boolG nt_aggG nt_intG nt_ptrG nt_slG XO_s XO_z XLk_val XLk_call headsO behind List.length_cons List.length_nil List.mem_cons List.not_mem_nil or_false forall_eq_or_imp forall_eq List.contains_cons List.contains_nil XOm
section
def SecQ (H0 : AH) (S : List Nat) (H : AH) (tb rb : Nat) (v' : Value) (H' : AH) : Prop := ∃ r, v' = .slice (some ⟨r, 0, none⟩) 3 3 ∧ hget H' r = some ⟨kr [n2, n3, n4], 41, some 32⟩ ∧ Pl H0 (r :: S) H' tb rb (.slice none 0 0) sT5 sT5 [] ∧ ∀ j ∈ S, hget H' j = hget H j
theorem secret_ac {γ : Nat → Option Nat} {H0 H : AH} {S : List Nat} (hpw : Pw γ H0) {tb rb : Nat} (h : Pl H0 S H tb rb (.slice none 0 0) [] [] []) :
  AC Tryd.prog H0.length γ 9 #[.agg #[.pointer (some ⟨tb, 0, none⟩)], .pointer (some ⟨rb, 0, none⟩)] H (SecQ H0 S H tb rb) := by
 have l0 : n0.length = 32 := rfl
 have l1 : n1.length = 32 := rfl
 have l2 : n2.length = 32 := rfl
 have l3 : n3.length = 32 := rfl
 have l4 : n4.length = 32 := rfl
 have tN0 : (iv .u8 n0).take 32 = iv .u8 n0 := rfl
 have tN1 : (iv .u8 n1).take 32 = iv .u8 n1 := rfl
 have tN2 : (iv .u8 n2).take 32 = iv .u8 n2 := rfl
 have tN3 : (iv .u8 n3).take 32 = iv .u8 n3 := rfl
 have tN4 : (iv .u8 n4).take 32 = iv .u8 n4 := rfl
 have sN0 : setR (iv .u8 (zl 32)) 0 (iv .u8 n0) = iv .u8 n0 := setR_all _ _ (by simp [l0])
 have sN1 : setR (iv .u8 (zl 32)) 0 (iv .u8 n1) = iv .u8 n1 := setR_all _ _ (by simp [l1])
 have sN2 : setR (iv .u8 (zl 32)) 0 (iv .u8 n2) = iv .u8 n2 := setR_all _ _ (by simp [l2])
 have sN3 : setR (iv .u8 (zl 32)) 0 (iv .u8 n3) = iv .u8 n3 := setR_all _ _ (by simp [l3])
 have sN4 : setR (iv .u8 (zl 32)) 0 (iv .u8 n4) = iv .u8 n4 := setR_all _ _ (by simp [l4])
 have rN0 : setR (List.map (fun j => (iv .u8 (zl 32))[j % 32]?.getD undef) (List.range 32)) 0 (iv .u8 n0) = iv .u8 n0 := setR_all _ _ (by simp [l0])
 have rN1 : setR (List.map (fun j => (iv .u8 (zl 32))[j % 32]?.getD undef) (List.range 32)) 0 (iv .u8 n1) = iv .u8 n1 := setR_all _ _ (by simp [l1])
 have hpl : plain1 (.slice none 0 0) = true := rfl
 obtain ⟨n, hn⟩ : ∃ n, n = H.length := ⟨_, rfl⟩
 obtain ⟨B, hB⟩ : ∃ B : AH, B = H ++ [some ⟨[.pointer (some ⟨tb, 0, none⟩)], 27, none⟩] := ⟨_, rfl⟩
 have gT : hget B n = some ⟨[.pointer (some ⟨tb, 0, none⟩)], 27, none⟩ := by rw [hB, hn, hget_app0]; rfl
 have lwB : Low H.length H B := by rw [hB]; exact Low.push (Nat.le_refl _) _
 have hBl : B.length = n + 1 := by rw [hB, hn]; simp
 obtain ⟨SB, hSB⟩ : ∃ SB : List Nat, SB = [n] ++ S := ⟨_, rfl⟩
 have pB : Pl H0 SB B tb rb (.slice none 0 0) [] [] [] := by rw [hSB]; exact h.push lwB (fun j hj => by rw [List.mem_singleton.1 hj]; omega)
 have hnS : n ∈ SB := by rw [hSB]; simp
 have hS0 : ∀ j ∈ S, j ∈ SB ∧ hget B j = hget H j := fun j hj => ⟨by rw [hSB]; simp [hj], lwB.1 j (h.sl hj)⟩
 clear hSB
 have hnB : H0.length ≤ B.length := pB.lw.2
 refine ac_of_aw Tryd.func9 rfl Tryd.ntmps9 Tryd.results9 (by simp) ?_
 (refine aw_seq (aoo fun K hK => ?_); simp (disch := first | omega | (simp only [lnS]; try omega)) [-getElem?_pos, -getElem?_neg]; refine hK _ _ ?_; clear hK K)
 rw [← hn, ← hB]
 clear hB
 refine aw_seq ?_
 refine name_aw (fun β hβ => ?_)
 have e1 : β 1 = .pointer (some ⟨rb, 0, none⟩) := by rw [hβ]; (first | (simp; done) | rfl)
 have e2 : β 2 = .pointer (some ⟨n, 0, none⟩) := by rw [hβ]; (first | (simp; done) | rfl)
 clear hβ
 refine aw_inv scAP (JT scAD (scAV n tb) β (SP1 H0 B SB tb rb)) (by kernel_rfl) (by kernel_rfl) (by kernel_rfl) ?_ ?_ ?_
 ·exact ⟨by simp; rfl, fun _ _ => rfl, fun i t' hi h => (by rw [gs_0] at h; cases h), 0, 1, SB, (by rw [gs_0, gs_0]; exact pB), fun j hj => ⟨hj, rfl, pB.sl hj⟩, by decide, fun h => (by rw [gs_0] at h; cases h), fun h => (by rw [gs_0] at h; cases h)⟩
 ·intro i s α G k hJ hi0 hsi hd hcc hcont
  obtain ⟨r5, r6, S2, jp, js, jne, ja, jb⟩ := hJ.hp
  have j2 := (hJ.lo 2 (by decide)).trans e2
  have gT := (js n hnS).2.1.trans gT
  have ldT := ld_tb gT
  have hnG : H0.length ≤ G.length := jp.lw.2
  have hi : i = 0 ∨ i = 1 ∨ i = 2 ∨ i = 3 ∨ i = 4 ∨ i = 5 ∨ i = 6 ∨ i = 7 ∨ i = 8 ∨ i = 9 := by have hi0 : i < 10 := hi0; omega
  rcases hi with rfl | rfl | rfl | rfl | rfl | rfl | rfl | rfl | rfl | rfl
  ·simp (disch := first | omega | (simp only [lnS]; try omega)) [-getElem?_pos, -getElem?_neg, -notTuple, j2]
   exact hcont _ _ (hJ.put scA_nd (t := 10) rfl rfl (hJ.hp.keep (by decide) (by decide)))
  ·have f0 : α 10 = .pointer (some ⟨n, 0, none⟩) := hJ.val 0 10 rfl (hd 0 (by decide))
   simp (disch := first | omega | (simp only [lnS]; try omega)) [-getElem?_pos, -getElem?_neg, -notTuple, -xload, ldT, f0]
   exact hcont _ _ (hJ.put scA_nd (t := 11) rfl rfl (hJ.hp.keep (by decide) (by decide)))
  ·have f1 : α 11 = .pointer (some ⟨tb, 0, none⟩) := hJ.val 1 11 rfl (hd 1 (by decide))
   simp (disch := first | omega | (simp only [lnS]; try omega)) [-getElem?_pos, -getElem?_neg, f1]
   have jp : Pl H0 S2 G tb rb (.slice none 0 0) [] [] [] := by rw [hsi, hcc 5 (by decide)] at jp; exact jp
   refine ⟨by kernel_rfl, AC.mono (pl_draw hpw jp (s := ⟨#[97]⟩) (by decide) (by decide)) ?_⟩
   rintro v' G' ⟨hv, pp, ss⟩
   rw [show nmV ⟨1, ⟨#[97]⟩, []⟩ [] = _ from sV1] at hv
   rw [show addT ⟨1, ⟨#[97]⟩, []⟩ [] = _ from sD1] at pp
   subst hv
   exact hcont _ _ (hJ.put scA_nd (t := 12) rfl rfl ⟨r5, r6, S2, by rw [gs_ne (by decide), hcc 5 (by decide), gs_eq (by rw [hJ.sz]; decide)]; exact pp, fun j hj => ⟨(js j hj).1, (ss j (js j hj).1).trans (js j hj).2.1, (js j hj).2.2⟩, jne, fun a => by
    rw [gs_ne (by decide)] at a
    obtain ⟨w1, w2, w3, w4⟩ := ja a
    exact ⟨by (first | (simp [w1]; done) | rfl), w2, w3, by rw [gs_ne (by decide), ss _ w2]; exact w4⟩, fun a => by
    rw [gs_ne (by decide)] at a
    obtain ⟨w1, w2, w3, w4⟩ := jb a
    exact ⟨by (first | (simp [w1]; done) | rfl), w2, w3, by rw [gs_ne (by decide), ss _ w2]; exact w4⟩⟩)
  ·simp (disch := first | omega | (simp only [lnS]; try omega)) [-getElem?_pos, -getElem?_neg, -notTuple, j2]
   exact hcont _ _ (hJ.put scA_nd (t := 13) rfl rfl (hJ.hp.keep (by decide) (by decide)))
  ·have f3 : α 13 = .pointer (some ⟨n, 0, none⟩) := hJ.val 3 13 rfl (hd 3 (by decide))
   simp (disch := first | omega | (simp only [lnS]; try omega)) [-getElem?_pos, -getElem?_neg, -notTuple, -xload, ldT, f3]
   exact hcont _ _ (hJ.put scA_nd (t := 14) rfl rfl (hJ.hp.keep (by decide) (by decide)))
  ·have f2 : α 12 = .agg (iv .u8 n0).toArray := hJ.val 2 12 rfl (hd 2 (by decide))
   have f4 : α 14 = .pointer (some ⟨tb, 0, none⟩) := hJ.val 4 14 rfl (hd 4 (by decide))
   simp (disch := first | omega | (simp only [lnS]; try omega)) [-getElem?_pos, -getElem?_neg, f2, f4]
   have jp : Pl H0 S2 G tb rb (.slice none 0 0) sT1 [] [] := by rw [hsi, hd 2 (by decide)] at jp; exact jp
   refine ⟨by kernel_rfl, AC.mono (pl_draw hpw jp (s := ⟨#[98]⟩) (by decide) (by decide)) ?_⟩
   rintro v' G' ⟨hv, pp, ss⟩
   rw [show nmV ⟨1, ⟨#[98]⟩, []⟩ sT1 = _ from sV2] at hv
   rw [show addT ⟨1, ⟨#[98]⟩, []⟩ sT1 = _ from sD2] at pp
   subst hv
   exact hcont _ _ (hJ.put scA_nd (t := 15) rfl rfl ⟨r5, r6, S2, by rw [gs_eq (by rw [hJ.sz]; decide)]; exact pp, fun j hj => ⟨(js j hj).1, (ss j (js j hj).1).trans (js j hj).2.1, (js j hj).2.2⟩, jne, fun a => by
    rw [gs_ne (by decide)] at a
    obtain ⟨w1, w2, w3, w4⟩ := ja a
    exact ⟨by (first | (simp [w1]; done) | rfl), w2, w3, by rw [gs_ne (by decide), ss _ w2]; exact w4⟩, fun a => by
    rw [gs_ne (by decide)] at a
    obtain ⟨w1, w2, w3, w4⟩ := jb a
    exact ⟨by (first | (simp [w1]; done) | rfl), w2, w3, by rw [gs_ne (by decide), ss _ w2]; exact w4⟩⟩)
  ·simp (disch := first | omega | (simp only [lnS]; try omega)) [-getElem?_pos, -getElem?_neg, hnG]
   obtain ⟨m6, hm6⟩ : ∃ m6, m6 = if s.getD 7 false = true then r6 else G.length + 1 := ⟨_, rfl⟩
   have hlt : s.getD 7 false = true → r6 < G.length := fun a => hget_lt (jb a).2.2.2
   exact hcont _ _ (hJ.put scA_nd (t := 5) rfl trivial ⟨G.length, m6, [G.length] ++ S2, by rw [gs_ne (by decide), gs_ne (by decide)]; exact jp.push (Low.push (Nat.le_refl _) _) (fun j hj => by rw [List.mem_singleton.1 hj]; simp), fun j hj => ⟨by simp [(js j hj).1], (hget_left (jp.sl (js j hj).1)).trans (js j hj).2.1, (js j hj).2.2⟩, by
    rw [hm6]
    split
    ·rename_i a; have := hlt a; omega
    ·omega, fun _ => ⟨by (first | (simp; done) | rfl), by simp, (by have := jp.sl (js n hnS).1; omega), by rw [gs_ne (by decide), hcc 8 (by decide), hget_app0]; rfl⟩, fun a => by
    rw [gs_ne (by decide)] at a
    rw [hm6, if_pos a, gs_ne (by decide)]
    obtain ⟨w1, w2, w3, w4⟩ := jb a
    exact ⟨by (first | (simp [w1]; done) | rfl), by simp [w2], w3, (hget_left (hget_lt w4)).trans w4⟩⟩)
  ·simp (disch := first | omega | (simp only [lnS]; try omega)) [-getElem?_pos, -getElem?_neg, hnG]
   obtain ⟨m5, hm5⟩ : ∃ m5, m5 = if s.getD 6 false = true then r5 else G.length + 1 := ⟨_, rfl⟩
   have hlt : s.getD 6 false = true → r5 < G.length := fun a => hget_lt (ja a).2.2.2
   exact hcont _ _ (hJ.put scA_nd (t := 6) rfl trivial ⟨m5, G.length, [G.length] ++ S2, by rw [gs_ne (by decide), gs_ne (by decide)]; exact jp.push (Low.push (Nat.le_refl _) _) (fun j hj => by rw [List.mem_singleton.1 hj]; simp), fun j hj => ⟨by simp [(js j hj).1], (hget_left (jp.sl (js j hj).1)).trans (js j hj).2.1, (js j hj).2.2⟩, by
    rw [hm5]
    split
    ·rename_i a; have := hlt a; omega
    ·omega, fun a => by
    rw [gs_ne (by decide)] at a
    rw [hm5, if_pos a, gs_ne (by decide)]
    obtain ⟨w1, w2, w3, w4⟩ := ja a
    exact ⟨by (first | (simp [w1]; done) | rfl), by simp [w2], w3, (hget_left (hget_lt w4)).trans w4⟩, fun _ => ⟨by (first | (simp; done) | rfl), by simp, (by have := jp.sl (js n hnS).1; omega), by rw [gs_ne (by decide), hcc 9 (by decide), hget_app0]; rfl⟩⟩)
  ·have f0 : α 10 = .pointer (some ⟨n, 0, none⟩) := hJ.val 0 10 rfl (hd 0 (by decide))
   have f1 : α 11 = .pointer (some ⟨tb, 0, none⟩) := hJ.val 1 11 rfl (hd 1 (by decide))
   have f2 : α 12 = .agg (iv .u8 n0).toArray := hJ.val 2 12 rfl (hd 2 (by decide))
   have f5 : α 15 = .agg (iv .u8 n1).toArray := hJ.val 5 15 rfl (hd 5 (by decide))
   obtain ⟨w1, w2, w3, w4⟩ := ja (hd 6 (by decide))
   rw [hsi] at w4
   have w4 : hget G r5 = some ⟨iv .u8 (zl 32), 41, none⟩ := w4
   have wl := hget_lt w4
   have wn : H0.length ≤ r5 := by omega
   simp (disch := first | omega | (simp only [lnS]; try omega)) [-getElem?_pos, -getElem?_neg, w1, w4, wl, wn, f2, l0, sN0]
   exact hcont _ _ (hJ.put0 rfl ⟨r5, r6, S2, by rw [gs_ne (by decide), gs_ne (by decide)]; exact jp.set w2 wn _, fun j hj => ⟨(js j hj).1, (hget_set_ne (by have := (js j hj).2.2; omega)).trans (js j hj).2.1, (js j hj).2.2⟩, jne, fun _ => ⟨w1, w2, w3, by rw [gs_eq (by rw [hJ.sz]; decide)]; exact hget_set_eq wl⟩, fun a => by
    rw [gs_ne (by decide)] at a
    obtain ⟨x1, x2, x3, x4⟩ := jb a
    exact ⟨x1, x2, x3, by rw [gs_ne (by decide), hget_set_ne jne]; exact x4⟩⟩)
  ·have f0 : α 10 = .pointer (some ⟨n, 0, none⟩) := hJ.val 0 10 rfl (hd 0 (by decide))
   have f1 : α 11 = .pointer (some ⟨tb, 0, none⟩) := hJ.val 1 11 rfl (hd 1 (by decide))
   have f2 : α 12 = .agg (iv .u8 n0).toArray := hJ.val 2 12 rfl (hd 2 (by decide))
   have f3 : α 13 = .pointer (some ⟨n, 0, none⟩) := hJ.val 3 13 rfl (hd 3 (by decide))
   have f4 : α 14 = .pointer (some ⟨tb, 0, none⟩) := hJ.val 4 14 rfl (hd 4 (by decide))
   have f5 : α 15 = .agg (iv .u8 n1).toArray := hJ.val 5 15 rfl (hd 5 (by decide))
   obtain ⟨w1, w2, w3, w4⟩ := jb (hd 7 (by decide))
   rw [hsi] at w4
   have w4 : hget G r6 = some ⟨iv .u8 (zl 32), 41, none⟩ := w4
   have wl := hget_lt w4
   have wn : H0.length ≤ r6 := by omega
   simp (disch := first | omega | (simp only [lnS]; try omega)) [-getElem?_pos, -getElem?_neg, w1, w4, wl, wn, f5, l1, sN1]
   exact hcont _ _ (hJ.put0 rfl ⟨r5, r6, S2, by rw [gs_ne (by decide), gs_ne (by decide)]; exact jp.set w2 wn _, fun j hj => ⟨(js j hj).1, (hget_set_ne (by have := (js j hj).2.2; omega)).trans (js j hj).2.1, (js j hj).2.2⟩, jne, fun a => by
    rw [gs_ne (by decide)] at a
    obtain ⟨x1, x2, x3, x4⟩ := ja a
    exact ⟨x1, x2, x3, by rw [gs_ne (by decide), hget_set_ne (Ne.symm jne)]; exact x4⟩, fun _ => ⟨w1, w2, w3, by rw [gs_eq (by rw [hJ.sz]; decide)]; exact hget_set_eq wl⟩⟩)
 rintro s α1 G1 hJ hall
 have hsz : s.size = 10 := hJ.sz
 have hg : ∀ i, i < 10 → s.getD i false = true := fun i hi => by
  rw [Array.getD_eq_getD_getElem?, Array.getElem?_eq_getElem (by omega)]
  exact Array.all_eq_true.1 hall i (by omega)
 obtain ⟨b5, b6, S1, p1, js, _, ja, jb⟩ := hJ.hp
 rw [hg 5 (by omega)] at p1
 obtain ⟨a5, h5S, _, g5⟩ := ja (hg 6 (by omega))
 obtain ⟨a6, h6S, _, g6⟩ := jb (hg 7 (by omega))
 rw [hg 8 (by omega)] at g5
 rw [hg 9 (by omega)] at g6
 have g5 : hget G1 b5 = some ⟨iv .u8 n0, 41, none⟩ := g5
 have g6 : hget G1 b6 = some ⟨iv .u8 n1, 41, none⟩ := g6
 have p1 : Pl H0 S1 G1 tb rb (.slice none 0 0) sT2 [] [] := p1
 have a1 := (hJ.lo 1 (by decide)).trans e1
 have a2 := (hJ.lo 2 (by decide)).trans e2
 have gT := (js n hnS).2.1.trans gT
 have hS1 : ∀ j ∈ S, j ∈ S1 ∧ hget G1 j = hget H j := fun j hj => ⟨(js j (hS0 j hj).1).1, (js j (hS0 j hj).1).2.1.trans (hS0 j hj).2⟩
 have hnS1 := (js n hnS).1
 have hS1l : ∀ j ∈ S, j < H.length := fun j hj => h.sl hj
 clear hall hsz hg hJ e1 e2 ja jb js pB lwB hS0 hnS hBl hnB
 refine aw_seq (aoo fun K hK => ?_)
 simp (disch := first | omega | (simp only [lnS]; try omega)) [-getElem?_pos, -getElem?_neg, a1]
 refine ⟨by kernel_rfl, AC.mono (pl_make p1 (x := sA) sA_wf (v := .slice none 0 0) (ks_nil _) (by decide)) ?_⟩
 rintro v1 G2 ⟨_, p2, s2⟩
 rw [sD1] at p2
 try simp (disch := first | omega | (simp only [lnS]; try omega)) [-getElem?_pos, -getElem?_neg]
 refine hK _ _ ?_; clear hK K
 refine aw_seq (aoo fun K hK => ?_)
 simp (disch := first | omega | (simp only [lnS]; try omega)) [-getElem?_pos, -getElem?_neg, a1]
 refine ⟨by kernel_rfl, AC.mono (pl_make p2 (x := sB) sB'_wf (v := .slice none 0 0) (ks_nil _) (by decide)) ?_⟩
 rintro v2 G3 ⟨_, p3, s3⟩
 rw [sD2] at p3
 try simp (disch := first | omega | (simp only [lnS]; try omega)) [-getElem?_pos, -getElem?_neg]
 refine hK _ _ ?_; clear hK K
 have s23 : ∀ j ∈ S1, hget G3 j = hget G1 j := fun j hj => (s3 j hj).trans (s2 j hj)
 have gT := (s23 n hnS1).trans gT
 have g5 := (s23 b5 h5S).trans g5
 have g6 := (s23 b6 h6S).trans g6
 obtain ⟨B, hBB⟩ : ∃ B, B = G3 := ⟨_, rfl⟩
 rw [← hBB] at p3 gT g5 g6 s23 ⊢
 clear hBB p2 p1 s2 s3
 have hnB : H0.length ≤ B.length := p3.lw.2
 refine aw_seq ?_
 refine name_aw (fun β hβ => ?_)
 have e1 : β 1 = .pointer (some ⟨rb, 0, none⟩) := by rw [hβ]; (first | (simp [a1]; done) | rfl)
 have e2 : β 2 = .pointer (some ⟨n, 0, none⟩) := by rw [hβ]; (first | (simp [a2]; done) | rfl)
 have e5 : β 5 = .pointer (some ⟨b5, 0, none⟩) := by rw [hβ]; (first | (simp [a5]; done) | rfl)
 have e6 : β 6 = .pointer (some ⟨b6, 0, none⟩) := by rw [hβ]; (first | (simp [a6]; done) | rfl)
 clear hβ a1 a2 a5 a6
 have zk32 : iv .u8 (zl 32) = iv .u8 (zl 32) := rfl
 obtain ⟨hnS, hnS'⟩ : n ∈ S1 ∧ True := ⟨hnS1, trivial⟩
 refine aw_inv scBP (JT scBD (scBV n tb b5 b6) β (SP2 H0 B S1 tb rb)) (by kernel_rfl) (by kernel_rfl) (by kernel_rfl) ?_ ?_ ?_
 ·exact ⟨by simp; rfl, fun _ _ => rfl, fun i t' hi h => (by rw [gs_0] at h; cases h), 0, 1, S1, (by rw [gs_0]; exact p3), fun j hj => ⟨hj, rfl, p3.sl hj⟩, fun h => (by rw [gs_0] at h; cases h), fun h => (by rw [gs_0] at h; cases h)⟩
 ·intro i s α G k hJ hi0 hsi hd hcc hcont
  obtain ⟨r7, rA, S2, jp, js, ja, jb⟩ := hJ.hp
  have j2 := (hJ.lo 2 (by decide)).trans e2
  have j5 := (hJ.lo 5 (by decide)).trans e5
  have j6 := (hJ.lo 6 (by decide)).trans e6
  have gT := (js n hnS).2.1.trans gT
  have g5 := (js b5 h5S).2.1.trans g5
  have g6 := (js b6 h6S).2.1.trans g6
  have ldT := ld_tb gT
  have ld5 := key_load l0 g5
  have ld6 := key_load l1 g6
  have hnG : H0.length ≤ G.length := jp.lw.2
  have hi : i = 0 ∨ i = 1 ∨ i = 2 ∨ i = 3 ∨ i = 4 ∨ i = 5 ∨ i = 6 ∨ i = 7 ∨ i = 8 ∨ i = 9 ∨ i = 10 ∨ i = 11 := by have hi0 : i < 12 := hi0; omega
  rcases hi with rfl | rfl | rfl | rfl | rfl | rfl | rfl | rfl | rfl | rfl | rfl | rfl
  ·simp (disch := first | omega | (simp only [lnS]; try omega)) [-getElem?_pos, -getElem?_neg, -notTuple, j2]
   exact hcont _ _ (hJ.put scB_nd (t := 20) rfl rfl (hJ.hp.keep (by decide) (by decide)))
  ·have f0 : α 20 = .pointer (some ⟨n, 0, none⟩) := hJ.val 0 20 rfl (hd 0 (by decide))
   simp (disch := first | omega | (simp only [lnS]; try omega)) [-getElem?_pos, -getElem?_neg, -notTuple, -xload, ldT, f0]
   exact hcont _ _ (hJ.put scB_nd (t := 21) rfl rfl (hJ.hp.keep (by decide) (by decide)))
  ·simp (disch := first | omega | (simp only [lnS]; try omega)) [-getElem?_pos, -getElem?_neg, -notTuple, j2]
   exact hcont _ _ (hJ.put scB_nd (t := 22) rfl rfl (hJ.hp.keep (by decide) (by decide)))
  ·have f2 : α 22 = .pointer (some ⟨n, 0, none⟩) := hJ.val 2 22 rfl (hd 2 (by decide))
   simp (disch := first | omega | (simp only [lnS]; try omega)) [-getElem?_pos, -getElem?_neg, -notTuple, -xload, ldT, f2]
   exact hcont _ _ (hJ.put scB_nd (t := 23) rfl rfl (hJ.hp.keep (by decide) (by decide)))
  ·simp (disch := first | omega | (simp only [lnS]; try omega)) [-getElem?_pos, -getElem?_neg, -notTuple, j5, -xload, ld5]
   exact hcont _ _ (hJ.put scB_nd (t := 24) rfl rfl (hJ.hp.keep (by decide) (by decide)))
  ·simp (disch := first | omega | (simp only [lnS]; try omega)) [-getElem?_pos, -getElem?_neg, -notTuple]
   exact hcont _ _ (hJ.put scB_nd (t := 25) rfl rfl (hJ.hp.keep (by decide) (by decide)))
  ·simp (disch := first | omega | (simp only [lnS]; try omega)) [-getElem?_pos, -getElem?_neg, -notTuple, j6, -xload, ld6]
   exact hcont _ _ (hJ.put scB_nd (t := 26) rfl rfl (hJ.hp.keep (by decide) (by decide)))
  ·have f6 : α 26 = .agg (iv .u8 n1).toArray := hJ.val 6 26 rfl (hd 6 (by decide))
   simp (disch := first | omega | (simp only [lnS]; try omega)) [-getElem?_pos, -getElem?_neg, f6, l1, tN1, rN1]
   exact hcont _ _ (hJ.put scB_nd (t := 27) rfl trivial ⟨G.length, rA, [G.length] ++ S2, by rw [gs_ne (by decide)]; exact jp.push (Low.push (Nat.le_refl _) _) (fun j hj => by rw [List.mem_singleton.1 hj]; simp), fun j hj => ⟨by simp [(js j hj).1], (hget_left (jp.sl (js j hj).1)).trans (js j hj).2.1, (js j hj).2.2⟩, fun _ _ => ⟨by (first | (simp; done) | rfl), by simp, by rw [hget_app0]; rfl⟩, fun a => by
    rw [gs_ne (by decide)] at a
    obtain ⟨w1, w2, w3, w4⟩ := jb a
    exact ⟨by (first | (simp [w1]; done) | rfl), by simp [w2], w3, by rw [gs_ne (by decide), hget_left (hget_lt w4)]; exact w4⟩⟩)
  ·have f3 : α 23 = .pointer (some ⟨tb, 0, none⟩) := hJ.val 3 23 rfl (hd 3 (by decide))
   have f4 : α 24 = .agg (iv .u8 n0).toArray := hJ.val 4 24 rfl (hd 4 (by decide))
   have f5 : α 25 = .agg (iv .u8 (zl 32)).toArray := hJ.val 5 25 rfl (hd 5 (by decide))
   obtain ⟨w1, w2, w3⟩ := ja (hd 7 (by decide)) hsi
   simp (disch := first | omega | (simp only [lnS]; try omega)) [-getElem?_pos, -getElem?_neg, f3, f4, f5, w1]
   have jp : Pl H0 S2 G tb rb (.slice none 0 0) sT2 sT2 [] := by rw [hsi] at jp; exact jp
   refine ⟨by kernel_rfl, AC.mono (pl_seal hpw jp (k := n0) (y := zl 32) (s := ⟨#[116, 101, 120, 116]⟩) (ks := [n1]) l0 (by decide) sB_wf (keys1 l1 w3) (by decide)) ?_⟩
   rintro v' G' ⟨hv, pp, ss⟩
   rw [show (nmL (nameT ⟨6, ⟨#[116, 101, 120, 116]⟩, [n0, zl 32, n1]⟩ sT2 : Nat)) = n2 from sV3] at hv
   rw [show addT ⟨6, ⟨#[116, 101, 120, 116]⟩, [n0, zl 32, n1]⟩ sT2 = sT3 from sD3] at pp
   subst hv
   exact hcont _ _ (hJ.put scB_nd (t := 28) rfl rfl ⟨r7, rA, S2, by rw [gs_eq (by rw [hJ.sz]; decide)]; exact pp, fun j hj => ⟨(js j hj).1, (ss j (js j hj).1).trans (js j hj).2.1, (js j hj).2.2⟩, fun a b => (by rw [gs_eq (by rw [hJ.sz]; decide)] at b; cases b), fun a => by
    rw [gs_ne (by decide)] at a
    obtain ⟨w1, w2, w3, w4⟩ := jb a
    exact ⟨by (first | (simp [w1]; done) | rfl), w2, w3, by rw [gs_ne (by decide), ss _ w2]; exact w4⟩⟩)
  ·have f1 : α 21 = .pointer (some ⟨tb, 0, none⟩) := hJ.val 1 21 rfl (hd 1 (by decide))
   have f8 : α 28 = .string (strOfNums n2) := hJ.val 8 28 rfl (hd 8 (by decide))
   simp (disch := first | omega | (simp only [lnS]; try omega)) [-getElem?_pos, -getElem?_neg, f1, f8]
   have jp : Pl H0 S2 G tb rb (.slice none 0 0) sT3 sT2 [] := by rw [hd 8 (by decide)] at jp; exact jp
   refine ⟨by kernel_rfl, AC.mono (pl_mark hpw jp (s := strOfNums n2) (by rw [sn_size, l2]; decide) (by decide)) ?_⟩
   rintro v' G' ⟨hv, pp, ss⟩
   unfold markV at hv
   unfold markT at pp
   rw [if_pos (by rw [sn_size, l2]), nums_of _ n2_by] at hv
   rw [if_pos (by rw [sn_size, l2])] at pp
   subst hv
   exact hcont _ _ (hJ.put scB_nd (t := 29) rfl rfl ⟨r7, rA, S2, by rw [gs_ne (by decide), hd 8 (by decide)]; exact pp, fun j hj => ⟨(js j hj).1, (ss j (js j hj).1).trans (js j hj).2.1, (js j hj).2.2⟩, fun a b => (by rw [gs_ne (by decide), hd 8 (by decide)] at b; cases b), fun a => by
    rw [gs_ne (by decide)] at a
    obtain ⟨w1, w2, w3, w4⟩ := jb a
    exact ⟨by (first | (simp [w1]; done) | rfl), w2, w3, by rw [gs_ne (by decide), ss _ w2]; exact w4⟩⟩)
  ·simp (disch := first | omega | (simp only [lnS]; try omega)) [-getElem?_pos, -getElem?_neg, hnG]
   exact hcont _ _ (hJ.put scB_nd (t := 7) rfl trivial ⟨r7, G.length, [G.length] ++ S2, by rw [gs_ne (by decide)]; exact jp.push (Low.push (Nat.le_refl _) _) (fun j hj => by rw [List.mem_singleton.1 hj]; simp), fun j hj => ⟨by simp [(js j hj).1], (hget_left (jp.sl (js j hj).1)).trans (js j hj).2.1, (js j hj).2.2⟩, fun a b => by
    rw [gs_ne (by decide)] at a b
    obtain ⟨w1, w2, w3⟩ := ja a b
    exact ⟨by (first | (simp [w1]; done) | rfl), by simp [w2], (hget_left (hget_lt w3)).trans w3⟩, fun _ => ⟨by (first | (simp; done) | rfl), by simp, ⟨hnG, fun e => by have := jp.sl (js _ e).1; omega⟩, by rw [gs_ne (by decide), hcc 11 (by decide), hget_app0]; rfl⟩⟩)
  ·have f0 : α 20 = .pointer (some ⟨n, 0, none⟩) := hJ.val 0 20 rfl (hd 0 (by decide))
   have f1 : α 21 = .pointer (some ⟨tb, 0, none⟩) := hJ.val 1 21 rfl (hd 1 (by decide))
   have f2 : α 22 = .pointer (some ⟨n, 0, none⟩) := hJ.val 2 22 rfl (hd 2 (by decide))
   have f3 : α 23 = .pointer (some ⟨tb, 0, none⟩) := hJ.val 3 23 rfl (hd 3 (by decide))
   have f4 : α 24 = .agg (iv .u8 n0).toArray := hJ.val 4 24 rfl (hd 4 (by decide))
   have f5 : α 25 = .agg (iv .u8 (zl 32)).toArray := hJ.val 5 25 rfl (hd 5 (by decide))
   have f6 : α 26 = .agg (iv .u8 n1).toArray := hJ.val 6 26 rfl (hd 6 (by decide))
   have f8 : α 28 = .string (strOfNums n2) := hJ.val 8 28 rfl (hd 8 (by decide))
   have f9 : α 29 = .agg (iv .u8 n2).toArray := hJ.val 9 29 rfl (hd 9 (by decide))
   obtain ⟨w1, w2, w3, w4⟩ := jb (hd 10 (by decide))
   rw [hsi] at w4
   have w4 : hget G rA = some ⟨iv .u8 (zl 32), 41, none⟩ := w4
   have wl := hget_lt w4
   have wn : H0.length ≤ rA := w3.1
   simp (disch := first | omega | (simp only [lnS]; try omega)) [-getElem?_pos, -getElem?_neg, w1, w4, wl, wn, f9, l2, sN2]
   exact hcont _ _ (hJ.put0 rfl ⟨r7, rA, S2, by rw [gs_ne (by decide)]; exact jp.set w2 wn _, fun j hj => ⟨(js j hj).1, (hget_set_ne (fun e => w3.2 (by rw [e]; exact hj))).trans (js j hj).2.1, (js j hj).2.2⟩, fun a b => (by rw [gs_ne (by decide), hd 8 (by decide)] at b; cases b), fun _ => ⟨w1, w2, w3, by rw [gs_eq (by rw [hJ.sz]; decide)]; exact hget_set_eq wl⟩⟩)
 rintro s α2 G4 hJ hall
 have hsz : s.size = 12 := hJ.sz
 have hg : ∀ i, i < 12 → s.getD i false = true := fun i hi => by
  rw [Array.getD_eq_getD_getElem?, Array.getElem?_eq_getElem (by omega)]
  exact Array.all_eq_true.1 hall i (by omega)
 obtain ⟨_, b7, S4, p4, js, _, ja⟩ := hJ.hp
 rw [hg 8 (by omega)] at p4
 obtain ⟨a7, h7S, _, g7⟩ := ja (hg 10 (by omega))
 rw [hg 11 (by omega)] at g7
 have g7 : hget G4 b7 = some ⟨iv .u8 n2, 41, none⟩ := g7
 have p4 : Pl H0 S4 G4 tb rb (.slice none 0 0) sT3 sT2 [] := p4
 have a1 := (hJ.lo 1 (by decide)).trans e1
 have a2 := (hJ.lo 2 (by decide)).trans e2
 have a5 := (hJ.lo 5 (by decide)).trans e5
 have a6 := (hJ.lo 6 (by decide)).trans e6
 have gT := (js n hnS).2.1.trans gT
 have g5 := (js b5 h5S).2.1.trans g5
 have g6 := (js b6 h6S).2.1.trans g6
 have hS4 : ∀ j ∈ S, j ∈ S4 ∧ hget G4 j = hget H j := fun j hj => ⟨(js j (hS1 j hj).1).1, ((js j (hS1 j hj).1).2.1.trans (s23 j (hS1 j hj).1)).trans (hS1 j hj).2⟩
 have i0 := (js n hnS).1
 have i5 := (js b5 h5S).1
 have i6 := (js b6 h6S).1
 clear hall hsz hg hJ e1 e2 e5 e6 ja js p3 hS1 s23 hnB
 have l5 := hget_lt g5
 have l6 := hget_lt g6
 have p4' := p4.push (Low.push (Nat.le_refl _) [some ⟨iv .u8 n1, 41, some 32⟩]) (S2 := [G4.length]) (fun j hj => by rw [List.mem_singleton.1 hj]; simp)
 have gr4 : hget (G4 ++ [some ⟨iv .u8 n1, 41, some 32⟩]) G4.length = some ⟨iv .u8 n1, 41, some 32⟩ := by rw [hget_app0]; rfl
 have ld5 := key_load l0 g5
 have ld6 := key_load l1 g6
 refine aw_seq (aoo fun K hK => ?_)
 simp (disch := first | omega | (simp only [lnS]; try omega)) [-getElem?_pos, -getElem?_neg, a1, a5, a6, -xload, ld5, ld6, l1, tN1, rN1]
 refine ⟨by kernel_rfl, AC.mono (pl_rseal p4' (k := n0) (y := zl 32) (s := ⟨#[116, 101, 120, 116]⟩) (ks := [n1]) l0 (by decide) sB_wf (keys1 l1 gr4) (by decide)) ?_⟩
 rintro v5 G5 ⟨_, p5, s5⟩
 rw [show addT ⟨6, ⟨#[116, 101, 120, 116]⟩, [n0, zl 32, n1]⟩ sT2 = sT3 from sD3] at p5
 try simp (disch := first | omega | (simp only [lnS]; try omega)) [-getElem?_pos, -getElem?_neg]
 refine hK _ _ ?_; clear hK K
 have s5' : ∀ j ∈ S4, hget G5 j = hget G4 j := fun j hj => (s5 j (by simp [hj])).trans (hget_left (p4.sl hj))
 have p5 := p5.less (S2 := S4) (fun j hj => by simp [hj])
 have gT := (s5' n i0).trans gT
 have g5 := (s5' b5 i5).trans g5
 have g6 := (s5' b6 i6).trans g6
 have g7 := (s5' b7 h7S).trans g7
 have hS5 : ∀ j ∈ S, j ∈ S4 ∧ hget G5 j = hget H j := fun j hj => ⟨(hS4 j hj).1, (s5' j (hS4 j hj).1).trans (hS4 j hj).2⟩
 clear p4 p4' gr4 s5 s5' hS4 l5 l6 ld5 ld6
 have ldT := ld_tb gT
 have ld6 := key_load l1 g6
 have hn5 : H0.length ≤ G5.length := p5.lw.2
 refine aw_seq (aoo fun K hK => ?_)
 simp (disch := first | omega | (simp only [lnS]; try omega)) [-getElem?_pos, -getElem?_neg, a2, a6, -xload, ldT, ld6, -notTuple]
 refine ⟨by kernel_rfl, AC.mono (pl_pub hpw p5 (k := n1) l1 n1_by (by decide)) ?_⟩
 rintro v6 G6 ⟨hv6, p6, s6⟩
 rw [show nmV ⟨3, ⟨#[]⟩, [n1]⟩ sT3 = _ from sV4] at hv6
 rw [show addT ⟨3, ⟨#[]⟩, [n1]⟩ sT3 = sT4 from sD4] at p6
 subst hv6
 have hn6 : H0.length ≤ G6.length := p6.lw.2
 try simp (disch := first | omega | (simp only [lnS]; try omega)) [-getElem?_pos, -getElem?_neg, l3, tN3, sN3, hn6, -notTuple]
 refine hK _ _ ?_; clear hK K
 have p7 := p6.push (Low.push (Nat.le_refl _) [some ⟨iv .u8 n3, 41, none⟩]) (S2 := [G6.length]) (fun j hj => by rw [List.mem_singleton.1 hj]; simp)
 have g8 : hget (G6 ++ [some ⟨iv .u8 n3, 41, none⟩]) G6.length = some ⟨iv .u8 n3, 41, none⟩ := by rw [hget_app0]; rfl
 have s7 : ∀ j ∈ S4, j ∈ [G6.length] ++ S4 ∧ hget (G6 ++ [some ⟨iv .u8 n3, 41, none⟩]) j = hget G5 j := fun j hj => ⟨by simp [hj], (hget_left (p6.sl hj)).trans (s6 j hj)⟩
 obtain ⟨b8, hb8⟩ : ∃ b8, b8 = G6.length := ⟨_, rfl⟩
 rw [← hb8] at g8 ⊢
 have i8 : b8 ∈ [G6.length] ++ S4 := by rw [hb8]; simp
 generalize [G6.length] ++ S4 = S7 at *
 generalize G6 ++ [some ⟨iv .u8 n3, 41, none⟩] = G7 at *
 have gT := (s7 n i0).2.trans gT
 have g5 := (s7 b5 i5).2.trans g5
 have g6 := (s7 b6 i6).2.trans g6
 have g7 := (s7 b7 h7S).2.trans g7
 have i0 := (s7 n i0).1
 have i5 := (s7 b5 i5).1
 have i6 := (s7 b6 i6).1
 have i7 := (s7 b7 h7S).1
 have hS7 : ∀ j ∈ S, j ∈ S7 ∧ hget G7 j = hget H j := fun j hj => ⟨(s7 j (hS5 j hj).1).1, (s7 j (hS5 j hj).1).2.trans (hS5 j hj).2⟩
 clear p5 p6 s6 s7 hS5 hb8 hn5 hn6 ldT ld6
 have ld6 := key_load l1 g6
 have p7' := p7.push (Low.push (Nat.le_refl _) [some ⟨iv .u8 n1, 41, some 32⟩]) (S2 := [G7.length]) (fun j hj => by rw [List.mem_singleton.1 hj]; simp)
 have gr7 : hget (G7 ++ [some ⟨iv .u8 n1, 41, some 32⟩]) G7.length = some ⟨iv .u8 n1, 41, some 32⟩ := by rw [hget_app0]; rfl
 have em : (⟨#[]⟩ : ByteArray) = ByteArray.empty := rfl
 refine aw_seq (aoo fun K hK => ?_)
 simp (disch := first | omega | (simp only [lnS]; try omega)) [-getElem?_pos, -getElem?_neg, a1, a6, -xload, ld6, l1, tN1, rN1]
 refine ⟨by kernel_rfl, AC.mono (pl_make p7' (x := sP) sP_wf (keys1 l1 gr7) (by decide)) ?_⟩
 rintro v8 G8 ⟨_, p8, s8⟩
 rw [sD4] at p8
 try simp (disch := first | omega | (simp only [lnS]; try omega)) [-getElem?_pos, -getElem?_neg]
 refine hK _ _ ?_; clear hK K
 have s8' : ∀ j ∈ S7, hget G8 j = hget G7 j := fun j hj => (s8 j (by simp [hj])).trans (hget_left (p7.sl hj))
 have p8 := p8.less (S2 := S7) (fun j hj => by simp [hj])
 have gT := (s8' n i0).trans gT
 have g5 := (s8' b5 i5).trans g5
 have g6 := (s8' b6 i6).trans g6
 have g7 := (s8' b7 i7).trans g7
 have g8 := (s8' b8 i8).trans g8
 have hS8 : ∀ j ∈ S, j ∈ S7 ∧ hget G8 j = hget H j := fun j hj => ⟨(hS7 j hj).1, (s8' j (hS7 j hj).1).trans (hS7 j hj).2⟩
 clear p7 p7' gr7 s8 s8' hS7 ld6
 have ldT := ld_tb gT
 have ld5 := key_load l0 g5
 have p8' := p8.push (Low.push (Nat.le_refl _) [some ⟨iv .u8 n0, 41, some 32⟩]) (S2 := [G8.length]) (fun j hj => by rw [List.mem_singleton.1 hj]; simp)
 have gr8 : hget (G8 ++ [some ⟨iv .u8 n0, 41, some 32⟩]) G8.length = some ⟨iv .u8 n0, 41, some 32⟩ := by rw [hget_app0]; rfl
 have or8 : OwnF (G8 ++ [some ⟨iv .u8 n0, 41, some 32⟩]) (.slice (some ⟨G8.length, 0, none⟩) 1 1) 41 32 (kr [n0]) [G8.length] := .inr ⟨G8.length, 1, rfl, by rw [kr_one]; exact gr8, by rw [kr_one, iv_length]; rfl, rfl⟩
 refine aw_seq (aoo fun K hK => ?_)
 simp (disch := first | omega | (simp only [lnS]; try omega)) [-getElem?_pos, -getElem?_neg, a2, a5, -xload, ldT, ld5, l0, tN0, rN0, -notTuple]
 refine ⟨by kernel_rfl, AC.mono (pl_hash hpw p8' (s := ⟨#[104]⟩) (ks := [n0]) sH_wf or8 (fun j hj => by simp at hj; simp [hj]) (by decide)) ?_⟩
 rintro v9 G9 ⟨hv9, p9, s9⟩
 rw [show nmV ⟨2, ⟨#[104]⟩, [n0]⟩ sT4 = _ from sV5] at hv9
 rw [show addT ⟨2, ⟨#[104]⟩, [n0]⟩ sT4 = sT5 from sD5] at p9
 subst hv9
 have hn9 : H0.length ≤ G9.length := p9.lw.2
 try simp (disch := first | omega | (simp only [lnS]; try omega)) [-getElem?_pos, -getElem?_neg, l4, tN4, sN4, hn9, -notTuple]
 refine hK _ _ ?_; clear hK K
 have s9' : ∀ j ∈ S7, hget G9 j = hget G8 j := fun j hj => (s9 j (by simp [hj])).trans (hget_left (p8.sl hj))
 have p9 := p9.less (S2 := S7) (fun j hj => by simp [hj])
 have pA := p9.push (Low.push (Nat.le_refl _) [some ⟨iv .u8 n4, 41, none⟩]) (S2 := [G9.length]) (fun j hj => by rw [List.mem_singleton.1 hj]; simp)
 have gA : hget (G9 ++ [some ⟨iv .u8 n4, 41, none⟩]) G9.length = some ⟨iv .u8 n4, 41, none⟩ := by rw [hget_app0]; rfl
 have sA' : ∀ j ∈ S7, j ∈ [G9.length] ++ S7 ∧ hget (G9 ++ [some ⟨iv .u8 n4, 41, none⟩]) j = hget G8 j := fun j hj => ⟨by simp [hj], (hget_left (p9.sl hj)).trans (s9' j hj)⟩
 obtain ⟨bA, hbA⟩ : ∃ bA, bA = G9.length := ⟨_, rfl⟩
 rw [← hbA] at gA ⊢
 have iA : bA ∈ [G9.length] ++ S7 := by rw [hbA]; simp
 generalize [G9.length] ++ S7 = SA at *
 generalize G9 ++ [some ⟨iv .u8 n4, 41, none⟩] = GA at *
 have g5 := (sA' b5 i5).2.trans g5
 have g7 := (sA' b7 i7).2.trans g7
 have g8 := (sA' b8 i8).2.trans g8
 have i5 := (sA' b5 i5).1
 have i7 := (sA' b7 i7).1
 have i8 := (sA' b8 i8).1
 have hSA : ∀ j ∈ S, j ∈ SA ∧ hget GA j = hget H j := fun j hj => ⟨(sA' j (hS8 j hj).1).1, (sA' j (hS8 j hj).1).2.trans (hS8 j hj).2⟩
 clear p8 p8' p9 gr8 or8 s9 s9' sA' hS8 hbA hn9 ldT ld5 gT g6
 have ld5 := key_load l0 g5
 have pA' := pA.push (Low.push (Nat.le_refl _) [some ⟨iv .u8 n0, 41, some 32⟩]) (S2 := [GA.length]) (fun j hj => by rw [List.mem_singleton.1 hj]; simp)
 have grA : hget (GA ++ [some ⟨iv .u8 n0, 41, some 32⟩]) GA.length = some ⟨iv .u8 n0, 41, some 32⟩ := by rw [hget_app0]; rfl
 refine aw_seq (aoo fun K hK => ?_)
 simp (disch := first | omega | (simp only [lnS]; try omega)) [-getElem?_pos, -getElem?_neg, a1, a5, -xload, ld5, l0, tN0, rN0]
 refine ⟨by kernel_rfl, AC.mono (pl_make pA' (x := sH) sH_wf (keys1 l0 grA) (by decide)) ?_⟩
 rintro vB GB ⟨_, pB, sB⟩
 rw [sD5] at pB
 try simp (disch := first | omega | (simp only [lnS]; try omega)) [-getElem?_pos, -getElem?_neg]
 refine hK _ _ ?_; clear hK K
 have sB' : ∀ j ∈ SA, hget GB j = hget GA j := fun j hj => (sB j (by simp [hj])).trans (hget_left (pA.sl hj))
 have pB := pB.less (S2 := SA) (fun j hj => by simp [hj])
 have g7 := (sB' b7 i7).trans g7
 have g8 := (sB' b8 i8).trans g8
 have gA := (sB' bA iA).trans gA
 have hSB : ∀ j ∈ S, j ∈ SA ∧ hget GB j = hget H j := fun j hj => ⟨(hSA j hj).1, (sB' j (hSA j hj).1).trans (hSA j hj).2⟩
 have ld7 := key_load l2 g7
 have ld8 := key_load l3 g8
 have ldA := key_load l4 gA
 have hrow : setR (setR (setR (List.map (fun j => (iv .u8 (zl 32))[j % 32]?.getD undef) (List.range 96)) 0 (iv .u8 n2)) 32 (iv .u8 n3)) 64 (iv .u8 n4) = kr [n2, n3, n4] := rfl
 (refine aw_seq (aoo fun K hK => ?_); simp (disch := first | omega | (simp only [lnS]; try omega)) [-getElem?_pos, -getElem?_neg, a7, -xload, ld7, ld8, ldA, l2, l3, l4, tN2, tN3, tN4, hrow]; refine hK _ _ ?_; clear hK K)
 have fin : SecQ H0 S H tb rb (.slice (some ⟨GB.length, 0, none⟩) 3 3) (GB ++ [some ⟨kr [n2, n3, n4], 41, some 32⟩]) := ⟨GB.length, rfl, by rw [hget_app0]; rfl, (pB.less (S2 := S) (fun j hj => (hSB j hj).1)).push (Low.push (Nat.le_refl _) _) (S2 := [GB.length]) (fun j hj => by rw [List.mem_singleton.1 hj]; simp), fun j hj => (hget_left (pB.sl (hSB j hj).1)).trans (hSB j hj).2⟩
 (refine aw_ret ?_; simp (disch := first | omega | (simp only [lnS]; try omega)) [-getElem?_pos, -getElem?_neg, thenQ_ret, scopeQ_ret, inBlockQ_ret, RQ, resL, resV, -notTuple])
 exact fin
end
end
end Go.Proofs.YtlaglpnbmkoakaaDoor
