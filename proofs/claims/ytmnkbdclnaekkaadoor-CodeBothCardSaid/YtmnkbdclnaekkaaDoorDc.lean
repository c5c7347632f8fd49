/-
  The reference's code of a key, walked.
-/
import Derived.Test.YtmnkbdclnaekkaaDoorCoB
import Derived.Test.YtmnkbdclnaekkaaDoorXop
import Derived.Test.YtmnkbdclnaekkaaDoorXsm
import Derived.Test.YtmnkbdclnaekkaaDoorXbs
import Derived.Test.YtmnkbdclnaekkaaDoorXof
import Derived.Test.YtmnkbdclnaekkaaDoorXpl
namespace Go.Proofs.YtmnkbdclnaekkaaDoor
open Go Go.RowKit
set_option linter.unusedVariables false
set_option linter.unusedSimpArgs false
set_option maxRecDepth 100000
set_option maxHeartbeats 4000000
attribute [local irreducible] outD tx checkedF digitsF
theorem own_shape {H : AH} {v : Value} {e : TypeId} {sz : Nat} {cells : List Value} {F : List Nat} (h : OwnF H v e sz cells F) : notTuple v = true ∧ v.cells = #[v] := by
  rcases h with ⟨rfl, _⟩ | ⟨j, len, rfl, _⟩ <;> exact ⟨rfl, rfl⟩
theorem nt_int (k : IntKind) (x : Int) : notTuple (.int k x) = true := rfl
theorem nt_sl (a : Option Addr) (n c : Nat) : notTuple (.slice a n c) = true := rfl
theorem nt_str (b : ByteArray) : notTuple (.string b) = true := rfl
theorem nt_ptr (a : Option Addr) : notTuple (.pointer a) = true := rfl
theorem outD_next (k : List Int) (i : Nat) : outD k (i + 1) = (inD (outD k i) (k.getD i 0) 78).1 := by conv => lhs; unfold outD
theorem outD_0 (k : List Int) : outD k 0 = zl 80 := by unfold outD; rfl
theorem OwnF.slv {H : AH} {v : Value} {cells : List Value} {e : TypeId} {F : List Nat} (h : OwnF H v e 1 cells F) : SlV H v cells := by
  rcases h with ⟨rfl, rfl, rfl⟩ | ⟨j, len, rfl, h2, h3, rfl⟩
  · exact .inl ⟨none, rfl, rfl⟩
  · exact .inr ⟨j, 0, _, by rw [h3, Nat.mul_one], h2, fun i x hi => by simpa using hi⟩
theorem SlV.cellB {P : Program} {H : AH} {v : Value} {cells : List Value} {t e : TypeId} (h : SlV H v cells) (ht : und P t = .slice e) (hs : szt P e = 1) {i : Nat} {x : Value} (hi : cells[i]? = some x) :
    ∃ j o b, j < H.length ∧ hget H j = some b ∧ b.cells[o]? = some x ∧ xindexAddr P t v (.int .i64 (i : Nat)) = some (.pointer (some ⟨j, o, none⟩)) := by
  rcases h with ⟨a, rfl, rfl⟩ | ⟨j, off, b, rfl, hb, hc⟩
  · simp at hi
  · have hl := (List.getElem?_eq_some_iff.1 hi).1
    refine ⟨j, off + i, b, hget_lt hb, hb, hc i _ hi, ?_⟩
    unfold xindexAddr
    simp only [ht, hs]
    rw [if_pos ⟨by omega, by omega, by omega⟩]
    simp
attribute [local simp] wb_bool wb_undef XL_nil XL_cons XLc_val XLc_call step1_eq stepW_t stepW_f stepC_n stepC_s stepX_s stepX_n stepN_s calleeX oneV xop_eq xopR_s xopR_n wantedA_eq wantedG_n wantedG_s plain1_int plain1_bool plain1_string bits_i64 bits_u64 bits_u32 bits_u16 bits_u8 xeqA xagg xcmp xarr allK_iv num_iv calleeOf xread xeff xbin xint xnil xun xstr xload xconv xpart xfield xfieldAddr xindexAddr xindex bnd asInt? xslice xlen xmin xmax xbuild xfill xappend xapp2 xappstr xappmk xcap xcopy xcells eval_tmp eval_const put_at put_none fr0_at cells_agg cells_int cells_bool cells_string cells_ptr cells_slice notTuple tab iv_all hget_app hget_app0 hget_cons0 hget_cons set_app set_app0 setR setR_one QL_nil QL_cons QLc_val stepQ_t stepQ_f stepQC_n stepQC_s stepQX_s SL_nil SL_cons SLc_val stepS_t stepS_f ltT ltF leT leF eqT eqF ltTn ltFn leTn leFn eqTn eqFn beqT beqF bneT bneF wi64 wu64 wu32 wu16 wu8 tmodP tdivP hgetL hgetNe hgetEq setL nums_def nums_len Nat.succ_le_of_lt List.getElem?_cons_zero List.getElem?_cons_succ Option.getD_some Int.toNat_add Int.toNat_mul agB agI agS agP agL agA okB okI okS okP okSl okA
theorem decimal_ac {H : AH} {γ : Nat → Option Nat} {nro : Nat} (hnl : nro ≤ H.length) (k : List Int) (hk : k.length = 32) (hb : Byte k) :
    AC Tryd.prog nro γ 13 #[.agg (iv .u8 k).toArray] H (fun v' H' => OwnF H' v' 3 1 (iv .i64 ((outD k 32).take 78)) [H.length + 1] ∧ Same0 H H') := by
  have hkk : (iv .u8 k).length = 32 := by rw [iv_length, hk]
  refine ac_of_aw Tryd.func13 rfl Tryd.ntmps13 Tryd.results13 (by simp) ?_
  refine aw_seq ?_
  (refine aw_ops (by kernel_rfl) (fun K hK => ?_); simp (disch := first | omega | (simp only [List.length_set, List.length_append, List.length_cons, List.length_nil, iv_length, zl_length]; try omega; done)) [-getElem?_pos, -getElem?_neg, hkk]; refine hK _ _ ?_; clear hK K)
  refine aw_seq ?_
  (refine aw_ops (by kernel_rfl) (fun K hK => ?_); simp (disch := first | omega | (simp only [List.length_set, List.length_append, List.length_cons, List.length_nil, iv_length, zl_length]; try omega; done)) [-getElem?_pos, -getElem?_neg]; refine hK _ _ ?_; clear hK K)
  obtain ⟨b, hbe⟩ : ∃ b, b = H.length := ⟨_, rfl⟩
  refine aw_seq ?_
  refine aw_seq ?_
  (refine aw_ops (by kernel_rfl) (fun K hK => ?_); simp (disch := first | omega | (simp only [List.length_set, List.length_append, List.length_cons, List.length_nil, iv_length, zl_length]; try omega; done)) [-getElem?_pos, -getElem?_neg]; refine hK _ _ ?_; clear hK K)
  have hz : List.map (fun j => [Value.int IntKind.i64 0][j % 1]?.getD undef) (List.range 78) = iv .i64 ((outD k 0).take 78) := by rw [outD_0]; rfl
  rw [hz, ← hbe]
  have hb0 : hget (H ++ [some ⟨iv .u8 k, 23, none⟩, some ⟨iv .i64 ((outD k 0).take 78), 3, some 1⟩]) b = some ⟨iv .u8 k, 23, none⟩ := by rw [hbe, hget_app0]; rfl
  have hb1 : hget (H ++ [some ⟨iv .u8 k, 23, none⟩, some ⟨iv .i64 ((outD k 0).take 78), 3, some 1⟩]) (b + 1) = some ⟨iv .i64 ((outD k 0).take 78), 3, some 1⟩ := by rw [hbe, hget_app]; rfl
  have s0 : Same0 H (H ++ [some ⟨iv .u8 k, 23, none⟩, some ⟨iv .i64 ((outD k 0).take 78), 3, some 1⟩]) := .app _ _
  refine aw_block ?_
  refine aw_loop (fun q α G => ∃ i : Nat, i + q = 32 ∧ α 4 = .int .i64 (i : Nat) ∧ α 1 = .pointer (some ⟨b, 0, none⟩) ∧ α 3 = .slice (some ⟨b + 1, 0, none⟩) 78 78 ∧ hget G b = some ⟨iv .u8 k, 23, none⟩ ∧ hget G (b + 1) = some ⟨iv .i64 ((outD k i).take 78), 3, some 1⟩ ∧ Same0 H G) 32 ?_ ?_
  · exact ⟨0, by omega, by (first | (simp [put_at, put_none, fr0_at]; done) | rfl), by (first | (simp [put_at, put_none, fr0_at]; done) | rfl), by (first | (simp [put_at, put_none, fr0_at]; done) | rfl), hb0, hb1, s0⟩
  clear hb0 hb1 s0 hz
  rintro q α G ⟨i, hiq, h4, h1, h3, hb0, hb1, sG⟩
  obtain ⟨ho1, ho2⟩ := outD_spec k hb i
  refine aw_seq ?_
  refine aw_seq ?_
  (refine aw_ops (by kernel_rfl) (fun K hK => ?_); simp (disch := first | omega | (simp only [List.length_set, List.length_append, List.length_cons, List.length_nil, iv_length, zl_length]; try omega; done)) [-getElem?_pos, -getElem?_neg, h4]; refine hK _ _ ?_; clear hK K)
  by_cases hi : i < 32
  case neg =>
    refine aw_f (by (first | (simp [eval_tmp, put_at, hi]; done) | (simp [eval_tmp, put_at, hi]; omega))) (by kernel_rfl) ?_
    refine aw_exit ?_
    obtain rfl : i = 32 := by omega
    refine aw_seq ?_
    (refine aw_ops (by kernel_rfl) (fun K hK => ?_); simp (disch := first | omega | (simp only [List.length_set, List.length_append, List.length_cons, List.length_nil, iv_length, zl_length]; try omega; done)) [-getElem?_pos, -getElem?_neg, h3]; refine hK _ _ ?_; clear hK K)
    (refine aw_ret ?_; simp (disch := first | omega | (simp only [List.length_set, List.length_append, List.length_cons, List.length_nil, iv_length, zl_length]; try omega; done)) [-getElem?_pos, -getElem?_neg, thenQ_ret, scopeQ_ret, inBlockQ_ret, RQ, resL, resV])
    refine ⟨.inr ⟨b + 1, 78, rfl, hb1, ?_, by rw [hbe]⟩, sG⟩
    rw [iv_length, List.length_take, ho2]; rfl
  refine aw_t (by (first | (simp [eval_tmp, put_at, hi]; done) | (simp [eval_tmp, put_at, hi]; omega))) (by kernel_rfl) ?_
  refine aw_skip ?_
  refine aw_seq ?_
  refine aw_block ?_
  have hx := hb i
  have hnx := outD_next k i
  have hki : (iv .u8 k)[i]? = some (.int .u8 (k.getD i 0)) := iv_get _ _ _ (by omega)
  obtain ⟨x, hxe⟩ : ∃ x, x = k.getD i 0 := ⟨_, rfl⟩
  rw [← hxe] at hx hnx hki
  refine aw_seq ?_
  (refine aw_ops (by kernel_rfl) (fun K hK => ?_); simp (disch := first | omega | (simp only [List.length_set, List.length_append, List.length_cons, List.length_nil, iv_length, zl_length]; try omega; done)) [-getElem?_pos, -getElem?_neg, h4, h1, hb0, hkk, hki]; refine hK _ _ ?_; clear hK K)
  refine aw_seq ?_
  (refine aw_ops (by kernel_rfl) (fun K hK => ?_); simp (disch := first | omega | (simp only [List.length_set, List.length_append, List.length_cons, List.length_nil, iv_length, zl_length]; try omega; done)) [-getElem?_pos, -getElem?_neg]; refine hK _ _ ?_; clear hK K)
  obtain ⟨D, hD⟩ : ∃ D, D = outD k i := ⟨_, rfl⟩
  rw [← hD] at ho1 ho2 hnx hb1
  refine aw_block ?_
  refine aw_loop (fun q' α G' => q' ≤ 78 ∧ α 6 = .int .i64 ((q' : Int) - 1) ∧ α 5 = .int .i64 (inD D x (78 - q')).2 ∧ α 4 = .int .i64 (i : Nat) ∧ α 1 = .pointer (some ⟨b, 0, none⟩) ∧ α 3 = .slice (some ⟨b + 1, 0, none⟩) 78 78 ∧ hget G' b = some ⟨iv .u8 k, 23, none⟩ ∧ hget G' (b + 1) = some ⟨iv .i64 ((inD D x (78 - q')).1.take 78), 3, some 1⟩ ∧ Same0 H G') 78 ?_ ?_
  · exact ⟨by omega, by (first | (simp [put_at, put_none, fr0_at]; done) | rfl), by (first | (simp [put_at, put_none, fr0_at]; done) | rfl), by (first | (simp [put_at, put_none, fr0_at, h4]; done) | rfl), by (first | (simp [put_at, put_none, fr0_at, h1]; done) | rfl), by (first | (simp [put_at, put_none, fr0_at, h3]; done) | rfl), hb0, hb1, sG⟩
  clear h4 h1 h3 hb0 hb1 sG
  rintro q' α G' ⟨hq78, h6, h5, h4, h1, h3, hb0, hb1, sG⟩
  refine aw_seq ?_
  refine aw_seq ?_
  (refine aw_ops (by kernel_rfl) (fun K hK => ?_); simp (disch := first | omega | (simp only [List.length_set, List.length_append, List.length_cons, List.length_nil, iv_length, zl_length]; try omega; done)) [-getElem?_pos, -getElem?_neg, h6]; refine hK _ _ ?_; clear hK K)
  cases q' with
  | zero =>
    refine aw_f (by (first | (simp [eval_tmp, put_at]; done) | (simp [eval_tmp, put_at]; omega))) (by kernel_rfl) ?_
    refine aw_exit ?_
    (refine aw_ops (by kernel_rfl) (fun K hK => ?_); simp (disch := first | omega | (simp only [List.length_set, List.length_append, List.length_cons, List.length_nil, iv_length, zl_length]; try omega; done)) [-getElem?_pos, -getElem?_neg, h4]; refine hK _ _ ?_; clear hK K)
    rw [Nat.sub_zero, ← hnx] at hb1
    exact ⟨q - 1, by omega, i + 1, by omega, by (first | (simp [put_at, put_none, fr0_at]; done) | rfl), by (first | (simp [put_at, put_none, fr0_at, h1]; done) | rfl), by (first | (simp [put_at, put_none, fr0_at, h3]; done) | rfl), hb0, hb1, sG⟩
  | succ n =>
    have e1 : 78 - (n + 1) = 77 - n := by omega
    have e2 : 78 - n = (77 - n) + 1 := by omega
    have e3 : 77 - (77 - n) = n := by omega
    rw [e1] at h5 hb1
    obtain ⟨s1, s2, s3, s4⟩ := inD_spec D x ho1 hx (77 - n)
    have hst : inD D x (78 - n) = ((inD D x (77 - n)).1.set n (((inD D x (77 - n)).1.getD n 0 * 256 + (inD D x (77 - n)).2) % 10), ((inD D x (77 - n)).1.getD n 0 * 256 + (inD D x (77 - n)).2) / 10) := by
      rw [e2, inD, e3]
    have hs1 := s1 n
    have hget1 : (iv .i64 ((inD D x (77 - n)).1.take 78))[n]? = some (.int .i64 ((inD D x (77 - n)).1.getD n 0)) := by
      rw [iv_get _ _ _ (by rw [List.length_take, s4, ho2]; omega)]
      congr 2
      rw [List.getD_eq_getElem?_getD, List.getD_eq_getElem?_getD, List.getElem?_take_of_lt (by omega)]
    have hln : (iv .i64 ((inD D x (77 - n)).1.take 78)).length = 78 := by rw [iv_length, List.length_take, s4, ho2]; rfl
    obtain ⟨L, hL⟩ : ∃ L, L = (inD D x (77 - n)).1 := ⟨_, rfl⟩
    obtain ⟨y, hy⟩ : ∃ y, y = L.getD n 0 := ⟨_, rfl⟩
    obtain ⟨c, hc⟩ : ∃ c, c = (inD D x (77 - n)).2 := ⟨_, rfl⟩
    rw [← hL] at hget1 hln hb1 hst s4
    rw [← hL, ← hy] at hs1
    rw [← hy] at hget1
    rw [← hy, ← hc] at hst
    rw [← hc] at h5 s2 s3
    have hset : (iv .i64 (L.take 78)).set n (.int .i64 ((y * 256 + c) % 10)) = iv .i64 ((L.set n ((y * 256 + c) % 10)).take 78) := by
      unfold iv
      rw [← List.map_set, List.take_set]
    refine aw_t (by (first | (simp [eval_tmp, put_at]; done) | (simp [eval_tmp, put_at]; omega))) (by kernel_rfl) ?_
    refine aw_skip ?_
    refine aw_seq ?_
    refine aw_block ?_
    have hnl2 := sG.1
    have hbl := hget_lt hb1
    refine aw_seq ?_
    (refine aw_ops (by kernel_rfl) (fun K hK => ?_); simp (disch := first | omega | (simp only [List.length_set, List.length_append, List.length_cons, List.length_nil, iv_length, zl_length]; try omega; done)) [-getElem?_pos, -getElem?_neg, h3, h6, h5, hb1, hget1, hln]; refine hK _ _ ?_; clear hK K)
    refine aw_seq ?_
    (refine aw_ops (by kernel_rfl) (fun K hK => ?_); simp (disch := first | omega | (simp only [List.length_set, List.length_append, List.length_cons, List.length_nil, iv_length, zl_length]; try omega; done)) [-getElem?_pos, -getElem?_neg, h3, h6, hb1, hln, hset]; refine hK _ _ ?_; clear hK K)
    (refine aw_ops (by kernel_rfl) (fun K hK => ?_); simp (disch := first | omega | (simp only [List.length_set, List.length_append, List.length_cons, List.length_nil, iv_length, zl_length]; try omega; done)) [-getElem?_pos, -getElem?_neg]; refine hK _ _ ?_; clear hK K)
    (refine aw_ops (by kernel_rfl) (fun K hK => ?_); simp (disch := first | omega | (simp only [List.length_set, List.length_append, List.length_cons, List.length_nil, iv_length, zl_length]; try omega; done)) [-getElem?_pos, -getElem?_neg, h6]; refine hK _ _ ?_; clear hK K)
    refine ⟨n, by omega, by omega, by simp [put_at], by simp [put_at, hst], by (first | (simp [put_at, put_none, fr0_at, h4]; done) | rfl), by (first | (simp [put_at, put_none, fr0_at, h1]; done) | rfl), by (first | (simp [put_at, put_none, fr0_at, h3]; done) | rfl), ?_, ?_, sG.set (by omega) _⟩
    · rw [hget_set_ne (by omega)]; exact hb0
    · rw [hget_set_eq hbl, hst]
theorem check_ac {H : AH} {γ : Nat → Option Nat} {nro : Nat} {v : Value} {d : List Int} (hv : SlV H v (iv .i64 d)) (hd : d.length = 78) (hb : Dig d) :
    AC Tryd.prog nro γ 14 #[v] H (fun v' H' => v' = .int .i64 (checkF d) ∧ H' = H) := by
  have hn : notTuple v = true := by rcases hv with ⟨a, rfl, _⟩ | ⟨j, o, b, rfl, _⟩ <;> rfl
  refine ac_of_aw Tryd.func14 rfl Tryd.ntmps14 Tryd.results14 (by simp) ?_
  refine aw_seq ?_
  (refine aw_ops (by kernel_rfl) (fun K hK => ?_); simp (disch := first | omega | (simp only [List.length_set, List.length_append, List.length_cons, List.length_nil, iv_length, zl_length]; try omega; done)) [-getElem?_pos, -getElem?_neg]; refine hK _ _ ?_; clear hK K)
  refine aw_seq ?_
  (refine aw_ops (by kernel_rfl) (fun K hK => ?_); simp (disch := first | omega | (simp only [List.length_set, List.length_append, List.length_cons, List.length_nil, iv_length, zl_length]; try omega; done)) [-getElem?_pos, -getElem?_neg]; refine hK _ _ ?_; clear hK K)
  refine aw_seq ?_
  refine aw_seq ?_
  (refine aw_ops (by kernel_rfl) (fun K hK => ?_); simp (disch := first | omega | (simp only [List.length_set, List.length_append, List.length_cons, List.length_nil, iv_length, zl_length]; try omega; done)) [-getElem?_pos, -getElem?_neg]; refine hK _ _ ?_; clear hK K)
  refine aw_block ?_
  refine aw_loop (fun q α G => G = H ∧ ∃ i : Nat, i + q = 78 ∧ α 4 = .int .i64 (i : Nat) ∧ α 0 = v ∧ α 3 = .int .i64 (restF d i)) 78 ?_ ?_
  · exact ⟨rfl, 0, by omega, by (first | (simp [put_at, put_none, fr0_at]; done) | rfl), by (first | (simp [put_at, put_none, fr0_at]; done) | rfl), by (first | (simp [put_at, put_none, fr0_at]; done) | rfl)⟩
  rintro q α G ⟨rfl, i, hiq, h4, h0, h3⟩
  have hrb := restF_bd d i
  refine aw_seq ?_
  refine aw_seq ?_
  (refine aw_ops (by kernel_rfl) (fun K hK => ?_); simp (disch := first | omega | (simp only [List.length_set, List.length_append, List.length_cons, List.length_nil, iv_length, zl_length]; try omega; done)) [-getElem?_pos, -getElem?_neg, h4]; refine hK _ _ ?_; clear hK K)
  by_cases hi : i < 78
  case neg =>
    refine aw_f (by (first | (simp [eval_tmp, put_at, hi]; done) | (simp [eval_tmp, put_at, hi]; omega))) (by kernel_rfl) ?_
    refine aw_exit ?_
    obtain rfl : i = 78 := by omega
    refine aw_seq ?_
    (refine aw_ops (by kernel_rfl) (fun K hK => ?_); simp (disch := first | omega | (simp only [List.length_set, List.length_append, List.length_cons, List.length_nil, iv_length, zl_length]; try omega; done)) [-getElem?_pos, -getElem?_neg, h3]; refine hK _ _ ?_; clear hK K)
    (refine aw_ret ?_; simp (disch := first | omega | (simp only [List.length_set, List.length_append, List.length_cons, List.length_nil, iv_length, zl_length]; try omega; done)) [-getElem?_pos, -getElem?_neg, thenQ_ret, scopeQ_ret, inBlockQ_ret, RQ, resL, resV, checkF])
  refine aw_t (by (first | (simp [eval_tmp, put_at, hi]; done) | (simp [eval_tmp, put_at, hi]; omega))) (by kernel_rfl) ?_
  refine aw_skip ?_
  refine aw_seq ?_
  refine aw_block ?_
  obtain ⟨j, o, B, _, hB, hBo, hpx⟩ := hv.cellB (P := Tryd.prog) (t := 35) (e := 3) (by simp) (by simp) (i := i) (x := .int .i64 (d.getD i 0)) (iv_get _ _ _ (by omega))
  have hdi := hb i
  have hnx : restF d (i + 1) = (restF d i * 10 + d.getD i 0) % 97 := rfl
  obtain ⟨x, hx⟩ : ∃ x, x = d.getD i 0 := ⟨_, rfl⟩
  rw [← hx] at hBo hdi hnx
  (refine aw_ops (by kernel_rfl) (fun K hK => ?_); simp (disch := first | omega | (simp only [List.length_set, List.length_append, List.length_cons, List.length_nil, iv_length, zl_length]; try omega; done)) [-getElem?_pos, -getElem?_neg, h4, h0, h3, -notTuple, hn, nt_int, nt_ptr, -xindexAddr, hpx, hB, hBo]; refine hK _ _ ?_; clear hK K)
  (refine aw_ops (by kernel_rfl) (fun K hK => ?_); simp (disch := first | omega | (simp only [List.length_set, List.length_append, List.length_cons, List.length_nil, iv_length, zl_length]; try omega; done)) [-getElem?_pos, -getElem?_neg, h4]; refine hK _ _ ?_; clear hK K)
  exact ⟨q - 1, by omega, rfl, i + 1, by omega, by (first | (simp [put_at, put_none, fr0_at]; done) | rfl), by (first | (simp [put_at, put_none, fr0_at, h0]; done) | rfl), by rw [hnx]; (first | (simp [put_at, put_none, fr0_at]; done) | rfl)⟩
theorem grouped_ac {H : AH} {γ : Nat → Option Nat} {nro : Nat} {v : Value} {d : List Int} (hv : SlV H v (iv .i64 d)) (hd : d.length = 80) (hb : Dig d) :
    AC Tryd.prog nro γ 15 #[v] H (fun v' H' => v' = .string (strOfNums (tx d 80)) ∧ Same0 H H') := by
  have hn : notTuple v = true := by rcases hv with ⟨a, rfl, _⟩ | ⟨j, o, b, rfl, _⟩ <;> rfl
  have tx0 : tx d 0 = [] := by unfold tx; rfl
  have txn : ∀ i, tx d (i + 1) = mid (tx d i) i ++ [48 + d.getD i 0] := fun i => by conv => lhs; unfold tx
  refine ac_of_aw Tryd.func15 rfl Tryd.ntmps15 Tryd.results15 (by simp) ?_
  refine aw_seq ?_
  (refine aw_ops (by kernel_rfl) (fun K hK => ?_); simp (disch := first | omega | (simp only [List.length_set, List.length_append, List.length_cons, List.length_nil, iv_length, zl_length]; try omega; done)) [-getElem?_pos, -getElem?_neg]; refine hK _ _ ?_; clear hK K)
  refine aw_seq ?_
  (refine aw_ops (by kernel_rfl) (fun K hK => ?_); simp (disch := first | omega | (simp only [List.length_set, List.length_append, List.length_cons, List.length_nil, iv_length, zl_length]; try omega; done)) [-getElem?_pos, -getElem?_neg]; refine hK _ _ ?_; clear hK K)
  refine aw_seq ?_
  refine aw_seq ?_
  (refine aw_ops (by kernel_rfl) (fun K hK => ?_); simp (disch := first | omega | (simp only [List.length_set, List.length_append, List.length_cons, List.length_nil, iv_length, zl_length]; try omega; done)) [-getElem?_pos, -getElem?_neg]; refine hK _ _ ?_; clear hK K)
  refine aw_block ?_
  refine aw_loop (fun q α G => Same0 H G ∧ ∃ i : Nat, i + q = 80 ∧ α 4 = .int .i64 (i : Nat) ∧ α 0 = v ∧ α 3 = .string (strOfNums (tx d i))) 80 ?_ ?_
  · exact ⟨.refl _, 0, by omega, by (first | (simp [put_at, put_none, fr0_at]; done) | rfl), by (first | (simp [put_at, put_none, fr0_at]; done) | rfl), by rw [tx0]; (first | (simp [put_at, put_none, fr0_at]; done) | rfl)⟩
  rintro q α G ⟨sG, i, hiq, h4, h0, h3⟩
  refine aw_seq ?_
  refine aw_seq ?_
  (refine aw_ops (by kernel_rfl) (fun K hK => ?_); simp (disch := first | omega | (simp only [List.length_set, List.length_append, List.length_cons, List.length_nil, iv_length, zl_length]; try omega; done)) [-getElem?_pos, -getElem?_neg, h4]; refine hK _ _ ?_; clear hK K)
  by_cases hi : i < 80
  case neg =>
    refine aw_f (by (first | (simp [eval_tmp, put_at, hi]; done) | (simp [eval_tmp, put_at, hi]; omega))) (by kernel_rfl) ?_
    refine aw_exit ?_
    obtain rfl : i = 80 := by omega
    refine aw_seq ?_
    (refine aw_ops (by kernel_rfl) (fun K hK => ?_); simp (disch := first | omega | (simp only [List.length_set, List.length_append, List.length_cons, List.length_nil, iv_length, zl_length]; try omega; done)) [-getElem?_pos, -getElem?_neg, h3]; refine hK _ _ ?_; clear hK K)
    (refine aw_ret ?_; simp (disch := first | omega | (simp only [List.length_set, List.length_append, List.length_cons, List.length_nil, iv_length, zl_length]; try omega; done)) [-getElem?_pos, -getElem?_neg, thenQ_ret, scopeQ_ret, inBlockQ_ret, RQ, resL, resV])
    exact sG
  refine aw_t (by (first | (simp [eval_tmp, put_at, hi]; done) | (simp [eval_tmp, put_at, hi]; omega))) (by kernel_rfl) ?_
  refine aw_skip ?_
  refine aw_seq ?_
  refine aw_block ?_
  obtain ⟨j, o, B, hj, hB, hBo, hpx⟩ := hv.cellB (P := Tryd.prog) (t := 35) (e := 3) (by simp) (by simp) (i := i) (x := .int .i64 (d.getD i 0)) (iv_get _ _ _ (by omega))
  have hB : hget G j = some B := (sG.2 j hj).trans hB
  have hjl := hget_lt hB
  have hdi := hb i
  obtain ⟨x, hx⟩ : ∃ x, x = d.getD i 0 := ⟨_, rfl⟩
  have hnx := txn i
  rw [← hx] at hBo hdi hnx
  have htl := tx_len d i
  obtain ⟨T, hT⟩ : ∃ T, T = tx d i := ⟨_, rfl⟩
  rw [← hT] at h3 hnx htl
  have hsz := sn_size T
  refine aw_seq ?_
  refine aw_cut (fun α G2 => G2 = G ∧ α 4 = .int .i64 (i : Nat) ∧ α 0 = v ∧ α 3 = .string (strOfNums (mid T i))) ?_ ?_
  · refine aw_seq ?_
    refine aw_cut (fun α G2 => G2 = G ∧ α 4 = .int .i64 (i : Nat) ∧ α 0 = v ∧ α 3 = .string (strOfNums T) ∧ α 15 = .bool (decide (0 < i ∧ i % 5 = 0))) ?_ ?_
    · by_cases h : 0 < i
      · (refine aw_ops (by kernel_rfl) (fun K hK => ?_); simp (disch := first | omega | (simp only [List.length_set, List.length_append, List.length_cons, List.length_nil, iv_length, zl_length]; try omega; done)) [-getElem?_pos, -getElem?_neg, h4, h]; refine hK _ _ ?_; clear hK K)
        exact ⟨rfl, by (first | (simp [put_at, put_none, fr0_at, h4]; done) | rfl), by (first | (simp [put_at, put_none, fr0_at, h0]; done) | rfl), by (first | (simp [put_at, put_none, fr0_at, h3]; done) | rfl), by simp [put_at, h]; rw [Bool.eq_iff_iff]; simp; omega⟩
      · (refine aw_ops (by kernel_rfl) (fun K hK => ?_); simp (disch := first | omega | (simp only [List.length_set, List.length_append, List.length_cons, List.length_nil, iv_length, zl_length]; try omega; done)) [-getElem?_pos, -getElem?_neg, h4, h]; refine hK _ _ ?_; clear hK K)
        exact ⟨rfl, by (first | (simp [put_at, put_none, fr0_at, h4]; done) | rfl), by (first | (simp [put_at, put_none, fr0_at, h0]; done) | rfl), by (first | (simp [put_at, put_none, fr0_at, h3]; done) | rfl), by simp [put_at]; omega⟩
    clear h4 h0 h3
    rintro α G2 ⟨rfl, h4, h0, h3, h15⟩
    have ha : strOfNums T ++ { data := #[32] } = strOfNums (T ++ [32]) := sn_app T [32]
    have hs1 : (⟨#[32]⟩ : ByteArray).size = 1 := rfl
    by_cases h : 0 < i ∧ i % 5 = 0
    · have hm : mid T i = T ++ [32] := by unfold mid; rw [if_pos h]
      rw [hm]
      refine aw_t (by (first | (simp [eval_tmp, put_at, h15, h]; done) | (simp [eval_tmp, put_at, h15, h]; omega))) (by kernel_rfl) ?_
      (refine aw_ops (by kernel_rfl) (fun K hK => ?_); simp (disch := first | omega | (simp only [List.length_set, List.length_append, List.length_cons, List.length_nil, iv_length, zl_length]; try omega; done)) [-getElem?_pos, -getElem?_neg, h3, hsz, hs1, ha]; refine hK _ _ ?_; clear hK K)
      exact ⟨rfl, by (first | (simp [put_at, put_none, fr0_at, h4]; done) | rfl), by (first | (simp [put_at, put_none, fr0_at, h0]; done) | rfl), by (first | (simp [put_at, put_none, fr0_at]; done) | rfl)⟩
    · have hm : mid T i = T := by unfold mid; rw [if_neg h]
      rw [hm]
      refine aw_f (by (first | (simp [eval_tmp, put_at, h15, h]; done) | (simp [eval_tmp, put_at, h15, h]; omega))) (by kernel_rfl) ?_
      refine aw_skip ?_
      exact ⟨rfl, h4, h0, h3⟩
  clear h4 h0 h3
  rintro α G2 ⟨rfl, h4, h0, h3⟩
  have hml : (mid T i).length ≤ T.length + 1 := by unfold mid; split <;> simp
  have hsm := sn_size (mid T i)
  have hbl : byteList [.int .u8 (48 + x)] = some [48 + x] := byteList_iv [48 + x]
  have ha := sn_app (mid T i) [48 + x]
  have hs1 : (strOfNums [48 + x]).size = 1 := sn_size _
  rw [← hnx] at ha
  (refine aw_ops (by kernel_rfl) (fun K hK => ?_); simp (disch := first | omega | (simp only [List.length_set, List.length_append, List.length_cons, List.length_nil, iv_length, zl_length]; try omega; done)) [-getElem?_pos, -getElem?_neg, h4, h0, h3, -notTuple, hn, nt_int, nt_ptr, nt_str, nt_sl, -xindexAddr, hpx, hB, hBo, hbl, hsm, hs1, ha]; refine hK _ _ ?_; clear hK K)
  (refine aw_ops (by kernel_rfl) (fun K hK => ?_); simp (disch := first | omega | (simp only [List.length_set, List.length_append, List.length_cons, List.length_nil, iv_length, zl_length]; try omega; done)) [-getElem?_pos, -getElem?_neg, h4]; refine hK _ _ ?_; clear hK K)
  exact ⟨q - 1, by omega, sG.trans (.app _ _), i + 1, by omega, by (first | (simp [put_at, put_none, fr0_at]; done) | rfl), by (first | (simp [put_at, put_none, fr0_at, h0]; done) | rfl), by (first | (simp [put_at, put_none, fr0_at]; done) | rfl)⟩
theorem refwrite_vc (k : List Int) (hk : k.length = 32) (hb : Byte k) : VC Tryd.prog 7 #[.agg (iv .u8 k).toArray] (.string (writeF k)) := by
  have hkk : (iv .u8 k).length = 32 := by rw [iv_length, hk]
  have htk : (iv .u8 k).take 32 = iv .u8 k := List.take_of_length_le (by omega)
  obtain ⟨ho1, ho2⟩ := outD_spec k hb 32
  have hcb := checkF_bd (outD k 32)
  have htl : ((outD k 32).take 78).length = 78 := by rw [List.length_take, ho2]; rfl
  have hget78 : ∀ p, p < 78 → ((outD k 32).take 78).getD p 0 = (outD k 32).getD p 0 := fun p hp => by
    rw [List.getD_eq_getElem?_getD, List.getD_eq_getElem?_getD, List.getElem?_take_of_lt hp]
  have hchk : checkF ((outD k 32).take 78) = checkF (outD k 32) := checkF_congr hget78
  have hdt : Dig ((outD k 32).take 78) := fun p => by
    by_cases hp : p < 78
    · rw [hget78 p hp]; exact ho1 p
    · rw [List.getD_eq_getElem?_getD, List.getElem?_eq_none (by omega)]; simp
  have hdig : digitsF k = (outD k 32).take 78 ++ [checkF (outD k 32) / 10, checkF (outD k 32) % 10] := by
    have hl : (digitsF k).length = 80 := by unfold digitsF; rw [checkedF_len, ho2]
    refine list_eq (by rw [hl, List.length_append, htl]; rfl) fun p hp => ?_
    rw [hl] at hp
    have hg := checkedF_get (outD k 32) ho2 p
    have e : (digitsF k).getD p 0 = (checkedF (outD k 32)).getD p 0 := by unfold digitsF; rfl
    rw [e, hg]
    rw [List.getD_eq_getElem?_getD (l := (outD k 32).take 78 ++ _), List.getElem?_append]
    by_cases h1 : p < 78
    · rw [if_neg (by omega), if_neg (by omega), if_pos (by omega), List.getElem?_take_of_lt h1, ← List.getD_eq_getElem?_getD]
    · have h2 : p = 78 ∨ p = 79 := by omega
      rcases h2 with rfl | rfl
      · rw [if_pos rfl, if_neg (by omega), htl]; rfl
      · rw [if_neg (by omega), if_pos rfl, if_neg (by omega), htl]; rfl
  have hdl : (digitsF k).length = 80 := by rw [hdig, List.length_append, htl]; rfl
  have hdd : Dig (digitsF k) := by unfold digitsF; exact checkedF_dig ho1
  have hwr : writeF k = strOfNums (tx (digitsF k) 80) := rfl
  rw [hwr]
  obtain ⟨D, hD⟩ : ∃ D, D = (outD k 32).take 78 := ⟨_, rfl⟩
  obtain ⟨c, hc⟩ : ∃ c, c = checkF (outD k 32) := ⟨_, rfl⟩
  rw [← hD] at htl hchk hdt hdig
  rw [← hc] at hchk hcb hdig
  refine vc_of_ac (by simp [pv_iv, pv_int, pv_bool, pv_string, pv_tup2, pv_tup3, iv_plain, p2_int, p2_bool, p2_string]) rfl ?_
  refine ac_of_aw Tryd.func7 rfl Tryd.ntmps7 Tryd.results7 (by simp) ?_
  refine aw_seq ?_
  (refine aw_ops (by kernel_rfl) (fun K hK => ?_); simp (disch := first | omega | (simp only [List.length_set, List.length_append, List.length_cons, List.length_nil, iv_length, zl_length]; try omega; done)) [-getElem?_pos, -getElem?_neg, hkk]; refine hK _ _ ?_; clear hK K)
  refine aw_seq ?_
  refine aw_ops (by kernel_rfl) (fun K hK => ?_)
  simp (disch := first | omega | (simp only [List.length_set, List.length_append, List.length_cons, List.length_nil, iv_length, zl_length]; try omega; done)) [-getElem?_pos, -getElem?_neg, hkk, htk]
  refine ⟨by kernel_rfl, (decimal_ac (Nat.zero_le _) k hk hb).mono ?_⟩
  rintro v1 G1 ⟨ho, s1⟩
  rw [← hD] at ho
  have hn1 := (own_shape ho).1
  try simp (disch := first | omega | (simp only [List.length_set, List.length_append, List.length_cons, List.length_nil, iv_length, zl_length]; try omega; done)) [-getElem?_pos, -getElem?_neg, -notTuple, hn1]
  refine hK _ _ ?_; clear hK K
  refine aw_seq ?_
  refine aw_ops (by kernel_rfl) (fun K hK => ?_)
  simp (disch := first | omega | (simp only [List.length_set, List.length_append, List.length_cons, List.length_nil, iv_length, zl_length]; try omega; done)) [-getElem?_pos, -getElem?_neg, -notTuple, hn1]
  refine ⟨by kernel_rfl, (check_ac ho.slv htl hdt).mono ?_⟩
  rintro v2 G2 ⟨rfl, rfl⟩
  rw [hchk]
  try simp (disch := first | omega | (simp only [List.length_set, List.length_append, List.length_cons, List.length_nil, iv_length, zl_length]; try omega; done)) [-getElem?_pos, -getElem?_neg]
  refine hK _ _ ?_; clear hK K
  have hxc : xcells 1 (.slice (some ⟨G2.length, 0, none⟩) 2 2) (G2 ++ [some ⟨[.int .i64 (c / 10), .int .i64 (c % 10)], 3, some 1⟩]) = some (iv .i64 [c / 10, c % 10]) := by simp [xcells, iv, hget_app0]
  have hivd : (iv .i64 D).length = 78 := by rw [iv_length, htl]
  obtain ⟨v', H', hap, ho', hlen', hk'⟩ := ownF_append (P := Tryd.prog) (nro := 0) (t := 35) (e := 3) (H := G2 ++ [some ⟨[.int .i64 (c / 10), .int .i64 (c % 10)], 3, some 1⟩]) (v := v1) (x := .slice (some ⟨G2.length, 0, none⟩) 2 2) (sz := 1) (cells := iv .i64 D) (news := iv .i64 [c / 10, c % 10]) (by simp) (by simp) (by omega) (by simp) (ho.low (fun j hj => hget_left (ho.lt j hj)))
    (fun j hj => Nat.zero_le _) (fun s e => by cases e) hxc (by simp [iv]) (Nat.mod_one _) (by rw [hivd]; simp [iv]) (by rw [hivd]; simp [iv, maxLen])
  rw [← iv_append, ← hdig] at ho'
  have hn2 := (own_shape ho').1
  have fill2 : ∀ a b : Value, ((List.map (fun j => [Value.int IntKind.i64 0][j % 1]?.getD undef) (List.range 2)).set 0 a).set 1 b = [a, b] := fun _ _ => rfl
  refine aw_seq ?_
  (refine aw_ops (by kernel_rfl) (fun K hK => ?_); simp (disch := first | omega | (simp only [List.length_set, List.length_append, List.length_cons, List.length_nil, iv_length, zl_length]; try omega; done)) [-getElem?_pos, -getElem?_neg, -notTuple, hn1, nt_int, nt_sl, fill2, -xappend, hap, hn2]; refine hK _ _ ?_; clear hK K)
  refine aw_seq ?_
  refine aw_ops (by kernel_rfl) (fun K hK => ?_)
  simp (disch := first | omega | (simp only [List.length_set, List.length_append, List.length_cons, List.length_nil, iv_length, zl_length]; try omega; done)) [-getElem?_pos, -getElem?_neg, -notTuple, hn2]
  refine ⟨by kernel_rfl, (grouped_ac ho'.slv hdl hdd).mono ?_⟩
  rintro v3 G3 ⟨rfl, s3⟩
  try simp (disch := first | omega | (simp only [List.length_set, List.length_append, List.length_cons, List.length_nil, iv_length, zl_length]; try omega; done)) [-getElem?_pos, -getElem?_neg]
  refine hK _ _ ?_; clear hK K
  (refine aw_ret ?_; simp (disch := first | omega | (simp only [List.length_set, List.length_append, List.length_cons, List.length_nil, iv_length, zl_length]; try omega; done)) [-getElem?_pos, -getElem?_neg, thenQ_ret, scopeQ_ret, inBlockQ_ret, RQ, resL, resV])
end Go.Proofs.YtmnkbdclnaekkaaDoor
