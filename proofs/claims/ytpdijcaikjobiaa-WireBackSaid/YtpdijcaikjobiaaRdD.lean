/-
  Lists read.
  Lists of keys read; the other calls.
  Lists of a reader; calls that follow an error; like lists.
  Like lists.
-/
import Derived.Test.YtpdijcaikjobiaaRdC
import Derived.Test.YtpdijcaikjobiaaRdB
namespace Go.Proofs.Ytpdijcaikjobiaa
section
open Go Go.RowKit
set_option linter.unusedVariables false
set_option linter.unusedSimpArgs false
set_option maxRecDepth 100000
set_option maxHeartbeats 4000000
/-- Things read one behind the other. -/
def rdManyN {β : Type} (one : List Int → β × List Int × Int) : Nat → List Int → List β × List Int × Int
  | 0, l => ([], l, 0)
  | n + 1, l => if (one l).2.2 ≠ 0 then ([], l, (one l).2.2) else
      if (rdManyN one n (one l).2.1).2.2 ≠ 0 then ([], l, (rdManyN one n (one l).2.1).2.2) else ((one l).1 :: (rdManyN one n (one l).2.1).1, (rdManyN one n (one l).2.1).2.1, 0)
def rdMany {β : Type} (one : List Int → β × List Int × Int) (most : Int) (l : List Int) : List β × List Int × Int :=
  if (rdCount most l).2.2 ≠ 0 then ([], l, (rdCount most l).2.2) else
    if (rdManyN one (rdCount most l).1 (rdCount most l).2.1).2.2 ≠ 0 then ([], l, (rdManyN one (rdCount most l).1 (rdCount most l).2.1).2.2) else rdManyN one (rdCount most l).1 (rdCount most l).2.1
/-- So far. -/
structure Sofar {β : Type} (one : List Int → β × List Int × Int) (n : Nat) (l1 : List Int) (i : Nat) (xs : List β) (cur : List Int) : Prop where
  le : i ≤ n
  len : xs.length = i
  err : (rdManyN one n l1).2.2 = (rdManyN one (n - i) cur).2.2
  ok : (rdManyN one (n - i) cur).2.2 = 0 → rdManyN one n l1 = (xs ++ (rdManyN one (n - i) cur).1, (rdManyN one (n - i) cur).2.1, 0)
theorem rdManyN_ok {β : Type} {one : List Int → β × List Int × Int} {n : Nat} {l : List Int} (h : (rdManyN one n l).2.2 = 0) : rdManyN one n l = ((rdManyN one n l).1, (rdManyN one n l).2.1, 0) := by
  rw [← h]
theorem Sofar.zero {β : Type} (one : List Int → β × List Int × Int) (n : Nat) (l1 : List Int) : Sofar one n l1 0 [] l1 := ⟨Nat.zero_le _, rfl, rfl, fun h => by rw [Nat.sub_zero] at h ⊢; rw [List.nil_append]; exact rdManyN_ok h⟩
theorem Sofar.next {β : Type} {one : List Int → β × List Int × Int} {n : Nat} {l1 : List Int} {i : Nat} {xs : List β} {cur l2 : List Int} {x : β} (h : Sofar one n l1 i xs cur) (hi : i < n) (ho : one cur = (x, l2, 0)) : Sofar one n l1 (i + 1) (xs ++ [x]) l2 := by
  have e1 : n - i = (n - (i + 1)) + 1 := by omega
  have h1 := h.err
  have h2 := h.ok
  rw [e1] at h1 h2
  obtain ⟨m, hm⟩ : ∃ m, n - (i + 1) = m := ⟨_, rfl⟩
  rw [hm] at h1 h2
  have e2 : rdManyN one (m + 1) cur = if (rdManyN one m l2).2.2 ≠ 0 then ([], cur, (rdManyN one m l2).2.2) else (x :: (rdManyN one m l2).1, (rdManyN one m l2).2.1, 0) := by
    rw [rdManyN, ho]; simp
  by_cases he : (rdManyN one m l2).2.2 = 0
  · rw [if_neg (by simp [he])] at e2
    rw [e2] at h1 h2
    refine ⟨by omega, by simp [h.len], ?_, fun _ => ?_⟩
    · rw [hm, h1, he]
    · rw [hm, h2 rfl]; simp
  · rw [if_pos he] at e2
    rw [e2] at h1
    refine ⟨by omega, by simp [h.len], ?_, fun h => ?_⟩
    · rw [hm]; exact h1
    · rw [hm] at h; exact absurd h he
theorem Sofar.bad {β : Type} {one : List Int → β × List Int × Int} {n : Nat} {l1 : List Int} {i : Nat} {xs : List β} {cur : List Int} (h : Sofar one n l1 i xs cur) (hi : i < n) (ho : (one cur).2.2 ≠ 0) : (rdManyN one n l1).2.2 = (one cur).2.2 := by
  have e1 : n - i = (n - (i + 1)) + 1 := by omega
  have h1 := h.err
  rw [e1, rdManyN, if_pos ho] at h1
  exact h1
theorem Sofar.done {β : Type} {one : List Int → β × List Int × Int} {n : Nat} {l1 : List Int} {xs : List β} {cur : List Int} (h : Sofar one n l1 n xs cur) : rdManyN one n l1 = (xs, cur, 0) := by
  have h2 := h.ok
  rw [Nat.sub_self] at h2
  have := h2 rfl
  rw [this]
  simp [rdManyN]
theorem fr1 {H : AH} {p : Nat} {x : Option Blk} : Fr H (H.set p x) [p] [p] := Fr.mk (by simp) (fun j hj hn => hget_set_ne (by simp at hn; omega)) (fun j hj => .inl hj)
theorem OwnF.sls {H : AH} {v : Value} {cells : List Value} {e : TypeId} {F X : List Nat} (h : OwnF H v e 1 cells F) (hp : ∀ j ∈ X, j ∉ F) : SlS H X v cells := by
  intro G hg
  rcases h with ⟨rfl, rfl, rfl⟩ | ⟨j, len, rfl, h2, h3, rfl⟩
  · exact .inl ⟨_, rfl, rfl⟩
  · refine .inr ⟨j, 0, _, by rw [h3, Nat.mul_one], (hg j (hget_lt h2) (fun hm => hp j hm (by simp))).trans h2, fun i x hi => by simpa using hi⟩
attribute [local simp] wb_bool wb_undef XL_nil XL_cons XLc_val XLc_call step1_eq stepW_t stepW_f stepC_n stepC_s stepX_s stepX_n stepN_s calleeX oneV xop_eq xopR_s xopR_n wantedA_eq wantedG_n wantedG_s plain1_int plain1_bool plain1_string bits_i64 bits_u64 bits_u32 bits_u16 bits_u8 xeqA xarr allK_iv num_iv calleeOf xread xeff xbin xint xnil xun xstr xload xconv xpart xfield xfieldAddr xindexAddr xindex bnd asInt? xslice xlen xmin xmax xbuild xfill xappend xapp2 xappstr xappmk xcap xcopy xcells eval_tmp eval_const put_at put_none fr0_at cells_agg cells_int cells_bool cells_string cells_ptr cells_slice notTuple tab iv_all hget_app hget_app0 hget_cons0 hget_cons set_app set_app0 setR setR_one QL_nil QL_cons QLc_val stepQ_t stepQ_f stepQC_n stepQC_s stepQX_s SL_nil SL_cons SLc_val stepS_t stepS_f ltT ltF leT leF eqT eqF ltTn ltFn leTn leFn eqTn eqFn beqT beqF bneT bneF wi64 wu64 wu32 wu16 wu8 tmodP tdivP hgetL hgetNe hgetEq setL nums_def nums_len Nat.succ_le_of_lt List.getElem?_cons_zero List.getElem?_cons_succ Option.getD_some Int.toNat_add Int.toNat_mul agB agI agS agP agL agA okB okI okS okP okSl okA
theorem listn_ac {H : AH} {γ : Nat → Option Nat} {nro p : Nat} {l : List Int} {most : Int} (hnl : nro ≤ H.length) (hp : nro ≤ p) (h : hget H p = some (rdC l 0)) (hb : By l) (hl : l.length ≤ 1000000) (hm : most ≤ 10000) :
    AC Try.prog nro γ 33 #[.pointer (some ⟨p, 0, none⟩), .int .i64 most, .func (.func 12) #[.pointer (some ⟨p, 0, none⟩)] #[]] H
      (fun v' H' => (∀ X : List Nat, (∀ j ∈ X, j < H.length) → SlS H' X v' (iv .u32 ((rdMany rdNum most l).1.map fun n : Nat => (n : Int)))) ∧ hget H' p = some (rdC (rdMany rdNum most l).2.1 (rdMany rdNum most l).2.2) ∧ Fr H H' [p] [p]) := by
  have hnum := count_ac (γ := γ) hp h hb hl (by omega : most ≤ 9223372036854775807)
  have hpl := hget_lt h
  obtain ⟨n, l2, e, hr⟩ : ∃ n l2 e, rdCount most l = (n, l2, e) := ⟨_, _, _, rfl⟩
  have hbad := rdCount_bad (l := l) (most := most)
  have hby := rdCount_by (l := l) (most := most) hb
  have hc : rdMany rdNum most l = if e ≠ 0 then ([], l, e) else if (rdManyN rdNum n l2).2.2 ≠ 0 then ([], l, (rdManyN rdNum n l2).2.2) else rdManyN rdNum n l2 := by unfold rdMany; rw [hr]
  have hn : n ≤ 10000 := by
    have h1 : (rdCount most l).1 ≤ (max most 0).toNat := by
      unfold rdCount
      split
      · simp
      split
      · simp
      · omega
    rw [hr] at h1; simp only at h1; omega
  rw [hr] at hnum hbad hby
  simp only at hnum hbad hby
  have h' := h
  unfold rdC at h'
  refine ac_of_aw Try.func33 rfl Try.ntmps33 Try.results33 (by simp) ?_
  refine aw_seq ?_
  (refine aw_ops (by kernel_rfl) (fun K hK => ?_); simp (disch := first | omega | (simp only [List.length_set, List.length_append, List.length_cons, List.length_nil, iv_length, zl_length]; try omega; done)) [-getElem?_pos, -getElem?_neg]; refine hK _ _ ?_; clear hK K)
  refine aw_scope ?_
  refine aw_seq ?_
  (refine aw_ops (by kernel_rfl) (fun K hK => ?_); simp (disch := first | omega | (simp only [List.length_set, List.length_append, List.length_cons, List.length_nil, iv_length, zl_length]; try omega; done)) [-getElem?_pos, -getElem?_neg, h']; refine hK _ _ ?_; clear hK K)
  refine aw_seq ?_
  refine aw_ops (by kernel_rfl) (fun K hK => ?_)
  simp (disch := first | omega | (simp only [List.length_set, List.length_append, List.length_cons, List.length_nil, iv_length, zl_length]; try omega; done)) [-getElem?_pos, -getElem?_neg]
  refine ⟨by kernel_rfl, hnum.mono ?_⟩
  rintro v1 H1 ⟨rfl, rfl⟩
  try simp (disch := first | omega | (simp only [List.length_set, List.length_append, List.length_cons, List.length_nil, iv_length, zl_length]; try omega; done)) [-getElem?_pos, -getElem?_neg]
  refine hK _ _ ?_; clear hK K
  have hh : hget (H.set p (some (rdC l2 e))) p = some (rdC l2 e) := hgetEq hpl
  have hf0 : Fr H (H.set p (some (rdC l2 e))) [p] [p] := fr1
  generalize H.set p (some (rdC l2 e)) = H2 at hh hf0 ⊢
  refine aw_seq ?_
  (refine aw_ops (by kernel_rfl) (fun K hK => ?_); simp (disch := first | omega | (simp only [List.length_set, List.length_append, List.length_cons, List.length_nil, iv_length, zl_length]; try omega; done)) [-getElem?_pos, -getElem?_neg]; refine hK _ _ ?_; clear hK K)
  refine aw_seq ?_
  refine aw_label ?_
  refine aw_seq ?_
  refine aw_cut (fun α G => ∃ v F, α 9 = v ∧ OwnF G v 37 1 (iv .u32 ((rdMany rdNum most l).1.map fun n : Nat => (n : Int))) F ∧ (∀ j ∈ F, H.length ≤ j) ∧ hget G p = some (rdC (rdMany rdNum most l).2.1 (rdMany rdNum most l).2.2) ∧ Fr H G [p] [p]) ?_ ?_
  case refine_2 =>
    rintro α G ⟨v, F, h9, ho, hpF, hrd, hf⟩
    have hs := own_shape ho
    refine aw_seq ?_
    (refine aw_ops (by kernel_rfl) (fun K hK => ?_); simp (disch := first | omega | (simp only [List.length_set, List.length_append, List.length_cons, List.length_nil, iv_length, zl_length]; try omega; done)) [-getElem?_pos, -getElem?_neg, h9]; refine hK _ _ ?_; clear hK K)
    (refine aw_ret ?_; simp (disch := first | omega | (simp only [List.length_set, List.length_append, List.length_cons, List.length_nil, iv_length, zl_length]; try omega; done)) [-getElem?_pos, -getElem?_neg, thenQ_ret, scopeQ_ret, inBlockQ_ret, RQ, resL, resV])
    exact ⟨fun X hX => ho.sls (fun j hj hm => by have := hX j hj; have := hpF j hm; omega), hrd, hf⟩
  by_cases he : e = 0
  case neg =>
    rw [if_pos he] at hc
    have hb2 := hbad he
    simp only [Prod.mk.injEq] at hb2
    obtain ⟨rfl, rfl, _⟩ := hb2
    rw [hc]
    refine aw_seq ?_
    (refine aw_ops (by kernel_rfl) (fun K hK => ?_); simp (disch := first | omega | (simp only [List.length_set, List.length_append, List.length_cons, List.length_nil, iv_length, zl_length]; try omega; done)) [-getElem?_pos, -getElem?_neg]; refine hK _ _ ?_; clear hK K)
    refine aw_block ?_
    refine aw_loop (fun c α G => G = H2 ∧ α 9 = .slice none 0 0 ∧ α 8 = .int .u64 0 ∧ α 10 = .int .u64 0) 1 ?_ ?_
    · exact ⟨rfl, by (first | (simp [put_at, put_none, fr0_at]; done) | rfl), by (first | (simp [put_at, put_none, fr0_at]; done) | rfl), by (first | (simp [put_at, put_none, fr0_at]; done) | rfl)⟩
    rintro c α G ⟨rfl, h9, h8, h10⟩
    refine aw_seq ?_
    refine aw_seq ?_
    (refine aw_ops (by kernel_rfl) (fun K hK => ?_); simp (disch := first | omega | (simp only [List.length_set, List.length_append, List.length_cons, List.length_nil, iv_length, zl_length]; try omega; done)) [-getElem?_pos, -getElem?_neg, h8, h10]; refine hK _ _ ?_; clear hK K)
    refine aw_f (by (first | (simp [eval_tmp, put_at]; done) | (simp [eval_tmp, put_at]; omega))) (by kernel_rfl) ?_
    refine aw_exit ?_
    exact ⟨.slice none 0 0, [], by (first | (simp [put_at, put_none, fr0_at, h9]; done) | rfl), .inl ⟨rfl, rfl, rfl⟩, by simp, hh, hf0⟩
  subst he
  rw [if_neg (by simp)] at hc
  refine aw_seq ?_
  (refine aw_ops (by kernel_rfl) (fun K hK => ?_); simp (disch := first | omega | (simp only [List.length_set, List.length_append, List.length_cons, List.length_nil, iv_length, zl_length]; try omega; done)) [-getElem?_pos, -getElem?_neg]; refine hK _ _ ?_; clear hK K)
  refine aw_block ?_
  refine aw_loop (fun c α G => ∃ i xs cur v F, i + c = n ∧ Sofar rdNum n l2 i xs cur ∧ α 10 = .int .u64 (i : Nat) ∧ α 8 = .int .u64 (n : Nat) ∧ α 7 = .string (strOfNums l) ∧ α 2 = .func (.func 12) #[.pointer (some ⟨p, 0, none⟩)] #[] ∧ α 0 = .pointer (some ⟨p, 0, none⟩) ∧ α 9 = v ∧
    OwnF G v 37 1 (iv .u32 (xs.map fun n : Nat => (n : Int))) F ∧ (∀ j ∈ F, H.length ≤ j) ∧ hget G p = some (rdC cur 0) ∧ By cur ∧ cur.length ≤ 1000000 ∧ Fr H G [p] [p]) n ?_ ?_
  · exact ⟨0, [], l2, _, [], by omega, .zero _ _ _, by (first | (simp [put_at, put_none, fr0_at]; done) | rfl), by (first | (simp [put_at, put_none, fr0_at]; done) | rfl), by (first | (simp [put_at, put_none, fr0_at]; done) | rfl), by (first | (simp [put_at, put_none, fr0_at]; done) | rfl), by (first | (simp [put_at, put_none, fr0_at]; done) | rfl), by (first | (simp [put_at, put_none, fr0_at]; done) | rfl), .inl ⟨rfl, rfl, rfl⟩, by simp, hh, hby.1, by omega, hf0⟩
  rintro c α G ⟨i, xs, cur, v, F, hic, sf, h10, h8, h7, h2, h0, h9, ho, hF, hrd, hbc, hlc, hf⟩
  have hlen := hf.len
  refine aw_seq ?_
  refine aw_seq ?_
  (refine aw_ops (by kernel_rfl) (fun K hK => ?_); simp (disch := first | omega | (simp only [List.length_set, List.length_append, List.length_cons, List.length_nil, iv_length, zl_length]; try omega; done)) [-getElem?_pos, -getElem?_neg, h10, h8]; refine hK _ _ ?_; clear hK K)
  by_cases hi : i < n
  case neg =>
    refine aw_f (by (first | (simp [eval_tmp, put_at, hi]; done) | (simp [eval_tmp, put_at, hi]; omega))) (by kernel_rfl) ?_
    refine aw_exit ?_
    obtain rfl : i = n := by have := sf.le; omega
    have hd := sf.done
    rw [hd] at hc
    simp only [ne_eq, not_true_eq_false, if_false] at hc
    rw [hc]
    exact ⟨v, F, by (first | (simp [put_at, put_none, fr0_at, h9]; done) | rfl), ho, hF, hrd, hf⟩
  refine aw_t (by (first | (simp [eval_tmp, put_at, hi]; done) | (simp [eval_tmp, put_at, hi]; omega))) (by kernel_rfl) ?_
  refine aw_skip ?_
  refine aw_seq ?_
  refine aw_block ?_
  obtain ⟨x, l3, e3, hone⟩ : ∃ x l3 e3, rdNum cur = (x, l3, e3) := ⟨_, _, _, rfl⟩
  have hnb := rdNum_by hbc
  rw [hone] at hnb
  refine aw_seq ?_
  refine aw_ops (by kernel_rfl) (fun K hK => ?_)
  simp (disch := first | omega | (simp only [List.length_set, List.length_append, List.length_cons, List.length_nil, iv_length, zl_length]; try omega; done)) [-getElem?_pos, -getElem?_neg, h2]
  have hnac := number_ac (γ := γ) hp hrd hbc hlc
  rw [hone] at hnac
  refine ⟨by kernel_rfl, hnac.mono ?_⟩
  rintro v1 H1 ⟨rfl, rfl⟩
  try simp (disch := first | omega | (simp only [List.length_set, List.length_append, List.length_cons, List.length_nil, iv_length, zl_length]; try omega; done)) [-getElem?_pos, -getElem?_neg]
  refine hK _ _ ?_; clear hK K
  have hpg := hget_lt hrd
  have hh1 : hget (G.set p (some (rdC l3 e3))) p = some (rdC l3 e3) := hgetEq hpg
  have hf1 : Fr H (G.set p (some (rdC l3 e3))) [p] [p] := hf.trans fr1
  have ho1 : OwnF (G.set p (some (rdC l3 e3))) v 37 1 (iv .u32 (xs.map fun n : Nat => (n : Int))) F := ho.low (fun j hj => hget_set_ne (by have := hF j hj; omega))
  have hl1 : (G.set p (some (rdC l3 e3))).length = G.length := by simp
  generalize G.set p (some (rdC l3 e3)) = G1 at hh1 hf1 ho1 hl1 ⊢
  have hh1' := hh1
  unfold rdC at hh1'
  refine aw_seq ?_
  refine aw_seq ?_
  by_cases he3 : e3 = 0
  case neg =>
    (refine aw_ops (by kernel_rfl) (fun K hK => ?_); simp (disch := first | omega | (simp only [List.length_set, List.length_append, List.length_cons, List.length_nil, iv_length, zl_length]; try omega; done)) [-getElem?_pos, -getElem?_neg, h0, hh1', he3]; refine hK _ _ ?_; clear hK K)
    refine aw_t (by (first | (simp [eval_tmp, put_at, he3]; done) | (simp [eval_tmp, put_at, he3]; omega))) (by kernel_rfl) ?_
    refine aw_seq ?_
    (refine aw_ops (by kernel_rfl) (fun K hK => ?_); simp (disch := first | omega | (simp only [List.length_set, List.length_append, List.length_cons, List.length_nil, iv_length, zl_length]; try omega; done)) [-getElem?_pos, -getElem?_neg, h0, h7, hh1', hp]; refine hK _ _ ?_; clear hK K)
    refine aw_exit ?_
    have hbd := sf.bad hi (by rw [hone]; exact he3)
    rw [hone] at hbd
    simp only at hbd
    rw [hbd, if_pos he3] at hc
    rw [hc]
    refine ⟨.slice none 0 0, [], by (first | (simp [put_at, put_none, fr0_at]; done) | rfl), .inl ⟨rfl, rfl, rfl⟩, by simp, hgetEq (hget_lt hh1), hf1.trans fr1⟩
  subst he3
  (refine aw_ops (by kernel_rfl) (fun K hK => ?_); simp (disch := first | omega | (simp only [List.length_set, List.length_append, List.length_cons, List.length_nil, iv_length, zl_length]; try omega; done)) [-getElem?_pos, -getElem?_neg, h0, hh1']; refine hK _ _ ?_; clear hK K)
  refine aw_f (by (first | (simp [eval_tmp, put_at]; done) | (simp [eval_tmp, put_at]; omega))) (by kernel_rfl) ?_
  refine aw_skip ?_
  have hvx := rdNum_val (l := cur)
  rw [hone] at hvx
  have hos := own_shape ho1
  have hxn := sf.next hi hone
  have hxl := sf.len
  have hivx : (iv .u32 (xs.map fun n : Nat => (n : Int))).length = i := by rw [iv_length, List.length_map, hxl]
  have hxc : xcells 1 (.slice (some ⟨G1.length, 0, none⟩) 1 1) (G1 ++ [some ⟨[.int .u32 (x : Nat)], 37, some 1⟩]) = some (iv .u32 [(x : Int)]) := by simp [xcells, iv, hget_app0]
  obtain ⟨v', G3, hap, ho3, hl3, hk3⟩ := ownF_append (P := Try.prog) (nro := nro) (t := 30) (e := 37) (H := G1 ++ [some ⟨[.int .u32 (x : Nat)], 37, some 1⟩]) (v := v) (x := .slice (some ⟨G1.length, 0, none⟩) 1 1) (sz := 1) (cells := iv .u32 (xs.map fun n : Nat => (n : Int))) (news := iv .u32 [(x : Int)]) (F := F) (by simp) (by simp) (by omega) (by simp) (ho1.low (fun j hj => hget_left (ho1.lt j hj)))
    (fun j hj => Nat.le_trans hnl (hF j hj)) (fun s e => by cases e) hxc (by simp [iv]) (Nat.mod_one _) (by rw [hivx, iv_length]; simp; omega) (by rw [hivx, iv_length]; simp [maxLen]; omega)
  (refine aw_ops (by kernel_rfl) (fun K hK => ?_); simp (disch := first | omega | (simp only [List.length_set, List.length_append, List.length_cons, List.length_nil, iv_length, zl_length]; try omega; done)) [-getElem?_pos, -getElem?_neg, h9, -xappend, hap]; refine hK _ _ ?_; clear hK K)
  (refine aw_ops (by kernel_rfl) (fun K hK => ?_); simp (disch := first | omega | (simp only [List.length_set, List.length_append, List.length_cons, List.length_nil, iv_length, zl_length]; try omega; done)) [-getElem?_pos, -getElem?_neg, h10]; refine hK _ _ ?_; clear hK K)
  refine ⟨c - 1, by omega, i + 1, xs ++ [x], l3, v', _, by omega, hxn, by (first | (simp [put_at, put_none, fr0_at]; done) | rfl), by (first | (simp [put_at, put_none, fr0_at, h8]; done) | rfl), by (first | (simp [put_at, put_none, fr0_at, h7]; done) | rfl), by (first | (simp [put_at, put_none, fr0_at, h2]; done) | rfl), by (first | (simp [put_at, put_none, fr0_at, h0]; done) | rfl), by (first | (simp [put_at, put_none, fr0_at]; done) | rfl), by rw [List.map_append, iv_append]; exact ho3, by simp; omega, ?_, hnb.1, by have := hnb.2; simp only at this; omega, ?_⟩
  · rw [hk3 p (by simp; omega) (fun hm => by have := hF p hm; omega)]
    exact (hget_left (hget_lt hh1)).trans hh1
  · exact Fr.mk (by rw [hl3]; simp; omega) (fun j hj hn => (hk3 j (by simp; omega) (fun hm => by have := hF j hm; omega)).trans ((hget_left (by omega)).trans (hf1.out j hj hn))) (fun j hj => .inl hj)
end

section
open Go Go.RowKit
set_option linter.unusedVariables false
set_option linter.unusedSimpArgs false
set_option maxRecDepth 100000
set_option maxHeartbeats 4000000
theorem rdKey_ok {l x l3 : List Int} (hb : By l) (h : rdKey l = (x, l3, 0)) : x.length = 32 ∧ By x ∧ By l3 ∧ l3.length ≤ l.length ∧ l = x ++ l3 := by
  unfold rdKey at h
  split at h
  · cases h
  · cases h
    refine ⟨by rw [List.length_take]; omega, fun y hy => hb y (List.mem_of_mem_take hy), fun y hy => hb y (List.mem_of_mem_drop hy), by rw [List.length_drop]; omega, (List.take_append_drop 32 l).symm⟩
theorem rdKey_bad {l : List Int} (h : (rdKey l).2.2 ≠ 0) : (rdKey l).2.1 = l := by
  unfold rdKey at h ⊢
  split
  · rfl
  · rename_i e; rw [if_neg e] at h; exact absurd rfl h
theorem flat_at {ks : List (List Int)} (hk : ∀ k ∈ ks, k.length = 32) : ∀ (i : Nat) (key : List Int), ks[i]? = some key → (ks.flatten.drop (i * 32)).take 32 = key := by
  induction ks with
  | nil => intro i key h; simp at h
  | cons k l ih =>
    intro i key h
    have h32 := hk k (by simp)
    cases i with
    | zero =>
      cases h
      rw [Nat.zero_mul, List.drop_zero, List.flatten_cons, List.take_append_of_le_length (by omega), List.take_of_length_le (by omega)]
    | succ i =>
      rw [List.flatten_cons, show (i + 1) * 32 = k.length + i * 32 by omega, ← List.drop_drop, List.drop_left]
      exact ih (fun x hx => hk x (by simp [hx])) i key (by simpa using h)
theorem OwnF.kys {H : AH} {v : Value} {ks : List (List Int)} {e : TypeId} {F X : List Nat} (h : OwnF H v e 32 (iv .u8 ks.flatten) F) (hp : ∀ j ∈ X, j ∉ F) (hk : ∀ k ∈ ks, k.length = 32) : KyS H X v ks := by
  intro G hg
  have hfl := flat_len hk
  rcases h with ⟨rfl, h0, rfl⟩ | ⟨j, len, rfl, h2, h3, rfl⟩
  · have : ks.length = 0 := by
      have := congrArg List.length h0
      rw [iv_length, List.length_nil] at this; omega
    exact .inl ⟨_, rfl, List.eq_nil_of_length_eq_zero this⟩
  · rw [iv_length] at h3
    have hlen : len = ks.length := by omega
    subst hlen
    refine .inr ⟨j, _, rfl, (hg j (hget_lt h2) (fun hm => hp j hm (by simp))).trans h2, by show _ ≤ (iv .u8 ks.flatten).length; rw [iv_length]; omega, fun i key hi => ?_⟩
    have := flat_at hk i key hi
    show ((iv .u8 ks.flatten).drop (i * 32)).take 32 = _
    unfold iv
    rw [← List.map_drop, ← List.map_take, this]
/-- A slice of one row of integers, built. -/
theorem fill_key {k : IntKind} {x : List Int} {n : Nat} (z : List Int) (hx : (iv k x).length = n) : xfill (fun i => some (i * n, n)) (List.map (fun j => (iv k z)[j % n]?.getD undef) (List.range n)) [(0, .agg (iv k x).toArray)] = some (iv k x) := by
  have h1 : (Value.agg (iv k x).toArray).cells.size = n := by simpa [Value.cells] using hx
  unfold xfill
  simp only [Nat.zero_mul]
  rw [if_pos ⟨h1, by rw [h1]; simp⟩]
  unfold xfill
  rw [setR_all _ _ (by simp [Value.cells, hx])]
  rfl
attribute [local simp] wb_bool wb_undef XL_nil XL_cons XLc_val XLc_call step1_eq stepW_t stepW_f stepC_n stepC_s stepX_s stepX_n stepN_s calleeX oneV xop_eq xopR_s xopR_n wantedA_eq wantedG_n wantedG_s plain1_int plain1_bool plain1_string bits_i64 bits_u64 bits_u32 bits_u16 bits_u8 xeqA xarr allK_iv num_iv calleeOf xread xeff xbin xint xnil xun xstr xload xconv xpart xfield xfieldAddr xindexAddr xindex bnd asInt? xslice xlen xmin xmax xbuild xfill xappend xapp2 xappstr xappmk xcap xcopy xcells eval_tmp eval_const put_at put_none fr0_at cells_agg cells_int cells_bool cells_string cells_ptr cells_slice notTuple tab iv_all hget_app hget_app0 hget_cons0 hget_cons set_app set_app0 setR setR_one QL_nil QL_cons QLc_val stepQ_t stepQ_f stepQC_n stepQC_s stepQX_s SL_nil SL_cons SLc_val stepS_t stepS_f ltT ltF leT leF eqT eqF ltTn ltFn leTn leFn eqTn eqFn beqT beqF bneT bneF wi64 wu64 wu32 wu16 wu8 tmodP tdivP hgetL hgetNe hgetEq setL nums_def nums_len Nat.succ_le_of_lt List.getElem?_cons_zero List.getElem?_cons_succ Option.getD_some Int.toNat_add Int.toNat_mul agB agI agS agP agL agA okB okI okS okP okSl okA
theorem listk_ac {H : AH} {γ : Nat → Option Nat} {nro p : Nat} {l : List Int} {most : Int} (hnl : nro ≤ H.length) (hp : nro ≤ p) (h : hget H p = some (rdC l 0)) (hb : By l) (hl : l.length ≤ 1000000) (hm : most ≤ 10000) :
    AC Try.prog nro γ 32 #[.pointer (some ⟨p, 0, none⟩), .int .i64 most, .func (.func 14) #[.pointer (some ⟨p, 0, none⟩)] #[]] H
      (fun v' H' => (∀ X : List Nat, (∀ j ∈ X, j < H.length) → KyS H' X v' (rdMany rdKey most l).1) ∧ (∀ k ∈ (rdMany rdKey most l).1, k.length = 32 ∧ By k) ∧ hget H' p = some (rdC (rdMany rdKey most l).2.1 (rdMany rdKey most l).2.2) ∧ Fr H H' [p] [p]) := by
  have hnum := count_ac (γ := γ) hp h hb hl (by omega : most ≤ 9223372036854775807)
  have hpl := hget_lt h
  obtain ⟨n, l2, e, hr⟩ : ∃ n l2 e, rdCount most l = (n, l2, e) := ⟨_, _, _, rfl⟩
  have hbad := rdCount_bad (l := l) (most := most)
  have hby := rdCount_by (l := l) (most := most) hb
  have hc : rdMany rdKey most l = if e ≠ 0 then ([], l, e) else if (rdManyN rdKey n l2).2.2 ≠ 0 then ([], l, (rdManyN rdKey n l2).2.2) else rdManyN rdKey n l2 := by unfold rdMany; rw [hr]
  have hn : n ≤ 10000 := by
    have h1 : (rdCount most l).1 ≤ (max most 0).toNat := by
      unfold rdCount
      split
      · simp
      split
      · simp
      · omega
    rw [hr] at h1; simp only at h1; omega
  rw [hr] at hnum hbad hby
  simp only at hnum hbad hby
  have h' := h
  unfold rdC at h'
  refine ac_of_aw Try.func32 rfl Try.ntmps32 Try.results32 (by simp) ?_
  refine aw_seq ?_
  (refine aw_ops (by kernel_rfl) (fun K hK => ?_); simp (disch := first | omega | (simp only [List.length_set, List.length_append, List.length_cons, List.length_nil, iv_length, zl_length]; try omega; done)) [-getElem?_pos, -getElem?_neg]; refine hK _ _ ?_; clear hK K)
  refine aw_scope ?_
  refine aw_seq ?_
  (refine aw_ops (by kernel_rfl) (fun K hK => ?_); simp (disch := first | omega | (simp only [List.length_set, List.length_append, List.length_cons, List.length_nil, iv_length, zl_length]; try omega; done)) [-getElem?_pos, -getElem?_neg, h']; refine hK _ _ ?_; clear hK K)
  refine aw_seq ?_
  refine aw_ops (by kernel_rfl) (fun K hK => ?_)
  simp (disch := first | omega | (simp only [List.length_set, List.length_append, List.length_cons, List.length_nil, iv_length, zl_length]; try omega; done)) [-getElem?_pos, -getElem?_neg]
  refine ⟨by kernel_rfl, hnum.mono ?_⟩
  rintro v1 H1 ⟨rfl, rfl⟩
  try simp (disch := first | omega | (simp only [List.length_set, List.length_append, List.length_cons, List.length_nil, iv_length, zl_length]; try omega; done)) [-getElem?_pos, -getElem?_neg]
  refine hK _ _ ?_; clear hK K
  have hh : hget (H.set p (some (rdC l2 e))) p = some (rdC l2 e) := hgetEq hpl
  have hf0 : Fr H (H.set p (some (rdC l2 e))) [p] [p] := fr1
  generalize H.set p (some (rdC l2 e)) = H2 at hh hf0 ⊢
  refine aw_seq ?_
  (refine aw_ops (by kernel_rfl) (fun K hK => ?_); simp (disch := first | omega | (simp only [List.length_set, List.length_append, List.length_cons, List.length_nil, iv_length, zl_length]; try omega; done)) [-getElem?_pos, -getElem?_neg]; refine hK _ _ ?_; clear hK K)
  refine aw_seq ?_
  refine aw_label ?_
  refine aw_seq ?_
  refine aw_cut (fun α G => ∃ v F, α 9 = v ∧ OwnF G v 41 32 (iv .u8 (rdMany rdKey most l).1.flatten) F ∧ (∀ k ∈ (rdMany rdKey most l).1, k.length = 32 ∧ By k) ∧ (∀ j ∈ F, H.length ≤ j) ∧ hget G p = some (rdC (rdMany rdKey most l).2.1 (rdMany rdKey most l).2.2) ∧ Fr H G [p] [p]) ?_ ?_
  case refine_2 =>
    rintro α G ⟨v, F, h9, ho, hks, hpF, hrd, hf⟩
    have hs := own_shape ho
    refine aw_seq ?_
    (refine aw_ops (by kernel_rfl) (fun K hK => ?_); simp (disch := first | omega | (simp only [List.length_set, List.length_append, List.length_cons, List.length_nil, iv_length, zl_length]; try omega; done)) [-getElem?_pos, -getElem?_neg, h9]; refine hK _ _ ?_; clear hK K)
    (refine aw_ret ?_; simp (disch := first | omega | (simp only [List.length_set, List.length_append, List.length_cons, List.length_nil, iv_length, zl_length]; try omega; done)) [-getElem?_pos, -getElem?_neg, thenQ_ret, scopeQ_ret, inBlockQ_ret, RQ, resL, resV])
    exact ⟨fun X hX => ho.kys (fun j hj hm => by have := hX j hj; have := hpF j hm; omega) (fun k hk => (hks k hk).1), hks, hrd, hf⟩
  by_cases he : e = 0
  case neg =>
    rw [if_pos he] at hc
    have hb2 := hbad he
    simp only [Prod.mk.injEq] at hb2
    obtain ⟨rfl, rfl, _⟩ := hb2
    rw [hc]
    refine aw_seq ?_
    (refine aw_ops (by kernel_rfl) (fun K hK => ?_); simp (disch := first | omega | (simp only [List.length_set, List.length_append, List.length_cons, List.length_nil, iv_length, zl_length]; try omega; done)) [-getElem?_pos, -getElem?_neg]; refine hK _ _ ?_; clear hK K)
    refine aw_block ?_
    refine aw_loop (fun c α G => G = H2 ∧ α 9 = .slice none 0 0 ∧ α 8 = .int .u64 0 ∧ α 10 = .int .u64 0) 1 ?_ ?_
    · exact ⟨rfl, by (first | (simp [put_at, put_none, fr0_at]; done) | rfl), by (first | (simp [put_at, put_none, fr0_at]; done) | rfl), by (first | (simp [put_at, put_none, fr0_at]; done) | rfl)⟩
    rintro c α G ⟨rfl, h9, h8, h10⟩
    refine aw_seq ?_
    refine aw_seq ?_
    (refine aw_ops (by kernel_rfl) (fun K hK => ?_); simp (disch := first | omega | (simp only [List.length_set, List.length_append, List.length_cons, List.length_nil, iv_length, zl_length]; try omega; done)) [-getElem?_pos, -getElem?_neg, h8, h10]; refine hK _ _ ?_; clear hK K)
    refine aw_f (by (first | (simp [eval_tmp, put_at]; done) | (simp [eval_tmp, put_at]; omega))) (by kernel_rfl) ?_
    refine aw_exit ?_
    exact ⟨.slice none 0 0, [], by (first | (simp [put_at, put_none, fr0_at, h9]; done) | rfl), .inl ⟨rfl, rfl, rfl⟩, by simp, by simp, hh, hf0⟩
  subst he
  rw [if_neg (by simp)] at hc
  refine aw_seq ?_
  (refine aw_ops (by kernel_rfl) (fun K hK => ?_); simp (disch := first | omega | (simp only [List.length_set, List.length_append, List.length_cons, List.length_nil, iv_length, zl_length]; try omega; done)) [-getElem?_pos, -getElem?_neg]; refine hK _ _ ?_; clear hK K)
  refine aw_block ?_
  refine aw_loop (fun c α G => ∃ i xs cur v F, i + c = n ∧ Sofar rdKey n l2 i xs cur ∧ α 10 = .int .u64 (i : Nat) ∧ α 8 = .int .u64 (n : Nat) ∧ α 7 = .string (strOfNums l) ∧ α 2 = .func (.func 14) #[.pointer (some ⟨p, 0, none⟩)] #[] ∧ α 0 = .pointer (some ⟨p, 0, none⟩) ∧ α 9 = v ∧
    OwnF G v 41 32 (iv .u8 xs.flatten) F ∧ (∀ k ∈ xs, k.length = 32 ∧ By k) ∧ (∀ j ∈ F, H.length ≤ j) ∧ hget G p = some (rdC cur 0) ∧ By cur ∧ cur.length ≤ 1000000 ∧ Fr H G [p] [p]) n ?_ ?_
  · exact ⟨0, [], l2, _, [], by omega, .zero _ _ _, by (first | (simp [put_at, put_none, fr0_at]; done) | rfl), by (first | (simp [put_at, put_none, fr0_at]; done) | rfl), by (first | (simp [put_at, put_none, fr0_at]; done) | rfl), by (first | (simp [put_at, put_none, fr0_at]; done) | rfl), by (first | (simp [put_at, put_none, fr0_at]; done) | rfl), by (first | (simp [put_at, put_none, fr0_at]; done) | rfl), .inl ⟨rfl, rfl, rfl⟩, by simp, by simp, hh, hby.1, by omega, hf0⟩
  rintro c α G ⟨i, xs, cur, v, F, hic, sf, h10, h8, h7, h2, h0, h9, ho, hxk, hF, hrd, hbc, hlc, hf⟩
  have hlen := hf.len
  refine aw_seq ?_
  refine aw_seq ?_
  (refine aw_ops (by kernel_rfl) (fun K hK => ?_); simp (disch := first | omega | (simp only [List.length_set, List.length_append, List.length_cons, List.length_nil, iv_length, zl_length]; try omega; done)) [-getElem?_pos, -getElem?_neg, h10, h8]; refine hK _ _ ?_; clear hK K)
  by_cases hi : i < n
  case neg =>
    refine aw_f (by (first | (simp [eval_tmp, put_at, hi]; done) | (simp [eval_tmp, put_at, hi]; omega))) (by kernel_rfl) ?_
    refine aw_exit ?_
    obtain rfl : i = n := by have := sf.le; omega
    have hd := sf.done
    rw [hd] at hc
    simp only [ne_eq, not_true_eq_false, if_false] at hc
    rw [hc]
    exact ⟨v, F, by (first | (simp [put_at, put_none, fr0_at, h9]; done) | rfl), ho, hxk, hF, hrd, hf⟩
  refine aw_t (by (first | (simp [eval_tmp, put_at, hi]; done) | (simp [eval_tmp, put_at, hi]; omega))) (by kernel_rfl) ?_
  refine aw_skip ?_
  refine aw_seq ?_
  refine aw_block ?_
  obtain ⟨x, l3, e3, hone⟩ : ∃ x l3 e3, rdKey cur = (x, l3, e3) := ⟨_, _, _, rfl⟩
  refine aw_seq ?_
  refine aw_ops (by kernel_rfl) (fun K hK => ?_)
  simp (disch := first | omega | (simp only [List.length_set, List.length_append, List.length_cons, List.length_nil, iv_length, zl_length]; try omega; done)) [-getElem?_pos, -getElem?_neg, h2]
  have hnac := key_ac (γ := γ) (Nat.le_trans hnl hlen) hp hrd hbc hlc
  rw [hone] at hnac
  refine ⟨by kernel_rfl, hnac.mono ?_⟩
  rintro v1 G1 ⟨rfl, hh1, hf1'⟩
  simp only at hh1
  have hxz : (iv .u8 x).length = 32 := by
    rw [iv_length]
    have : (rdKey cur).1.length = 32 := by
      unfold rdKey
      split
      · rfl
      · rw [List.length_take]; omega
    rw [hone] at this
    exact this
  have hset : setR (iv .u8 (zl 32)) 0 (iv .u8 x) = iv .u8 x := setR_all _ _ (by rw [hxz, iv_length]; rfl)
  have hagg : notTuple (.agg (iv .u8 x).toArray) = true := rfl
  have hn1 : nro ≤ G1.length := by have := hf1'.len; omega
  try simp (disch := first | omega | (simp only [List.length_set, List.length_append, List.length_cons, List.length_nil, iv_length, zl_length]; try omega; done)) [-getElem?_pos, -getElem?_neg, hset, hxz, hagg, hn1]
  refine hK _ _ ?_; clear hK K
  have hf1 : Fr H (G1 ++ [some ⟨iv .u8 x, 41, none⟩]) [p] [p] := (hf.trans hf1').trans (Fr.app1 _)
  have hlg := hf1'.len
  have hFG : ∀ j ∈ F, j < G.length := ho.lt
  have ho1 : OwnF (G1 ++ [some ⟨iv .u8 x, 41, none⟩]) v 41 32 (iv .u8 xs.flatten) F := ho.low (fun j hj => (hget_left (by have := hFG j hj; omega)).trans (hf1'.out j (hFG j hj) (fun hm => by have := hF j hj; simp at hm; omega)))
  have hh1 : hget (G1 ++ [some ⟨iv .u8 x, 41, none⟩]) p = some (rdC l3 e3) := (hget_left (hget_lt hh1)).trans hh1
  have hkb : hget (G1 ++ [some ⟨iv .u8 x, 41, none⟩]) G1.length = some ⟨iv .u8 x, 41, none⟩ := by rw [hget_app0]; rfl
  have hl1 : (G1 ++ [some ⟨iv .u8 x, 41, none⟩] : AH).length = G1.length + 1 := by simp
  obtain ⟨q, hq⟩ : ∃ q, q = G1.length := ⟨_, rfl⟩
  rw [← hq] at hkb hl1 ⊢
  generalize G1 ++ [some ⟨iv .u8 x, 41, none⟩] = G2 at hf1 ho1 hh1 hkb hl1 ⊢
  have hh1' := hh1
  unfold rdC at hh1'
  refine aw_seq ?_
  refine aw_seq ?_
  by_cases he3 : e3 = 0
  case neg =>
    (refine aw_ops (by kernel_rfl) (fun K hK => ?_); simp (disch := first | omega | (simp only [List.length_set, List.length_append, List.length_cons, List.length_nil, iv_length, zl_length]; try omega; done)) [-getElem?_pos, -getElem?_neg, h0, hh1', he3]; refine hK _ _ ?_; clear hK K)
    refine aw_t (by (first | (simp [eval_tmp, put_at, he3]; done) | (simp [eval_tmp, put_at, he3]; omega))) (by kernel_rfl) ?_
    refine aw_seq ?_
    (refine aw_ops (by kernel_rfl) (fun K hK => ?_); simp (disch := first | omega | (simp only [List.length_set, List.length_append, List.length_cons, List.length_nil, iv_length, zl_length]; try omega; done)) [-getElem?_pos, -getElem?_neg, h0, h7, hh1', hp]; refine hK _ _ ?_; clear hK K)
    refine aw_exit ?_
    have hbd := sf.bad hi (by rw [hone]; exact he3)
    rw [hone] at hbd
    simp only at hbd
    rw [hbd, if_pos he3] at hc
    rw [hc]
    refine ⟨.slice none 0 0, [], by (first | (simp [put_at, put_none, fr0_at]; done) | rfl), .inl ⟨rfl, rfl, rfl⟩, by simp, by simp, hgetEq (hget_lt hh1), hf1.trans fr1⟩
  subst he3
  obtain ⟨hx32, hxb, hb3, hl3', _⟩ := rdKey_ok hbc hone
  (refine aw_ops (by kernel_rfl) (fun K hK => ?_); simp (disch := first | omega | (simp only [List.length_set, List.length_append, List.length_cons, List.length_nil, iv_length, zl_length]; try omega; done)) [-getElem?_pos, -getElem?_neg, h0, hh1']; refine hK _ _ ?_; clear hK K)
  refine aw_f (by (first | (simp [eval_tmp, put_at]; done) | (simp [eval_tmp, put_at]; omega))) (by kernel_rfl) ?_
  refine aw_skip ?_
  have hos := own_shape ho1
  have hxn := sf.next hi hone
  have hxl := sf.len
  have hivx : (iv .u8 xs.flatten).length = 32 * i := by rw [iv_length, flat_len (fun k hk => (hxk k hk).1), hxl]
  have htk : List.take 32 (iv .u8 x) = iv .u8 x := List.take_of_length_le (by omega)
  have hxc : xcells 32 (.slice (some ⟨G2.length, 0, none⟩) 1 1) (G2 ++ [some ⟨iv .u8 x, 41, some 32⟩]) = some (iv .u8 x) := by simp [xcells, hget_app0, hxz, htk]
  obtain ⟨v', G3, hap, ho3, hl3, hk3⟩ := ownF_append (P := Try.prog) (nro := nro) (t := 31) (e := 41) (H := G2 ++ [some ⟨iv .u8 x, 41, some 32⟩]) (v := v) (x := .slice (some ⟨G2.length, 0, none⟩) 1 1) (sz := 32) (cells := iv .u8 xs.flatten) (news := iv .u8 x) (F := F) (by simp) (by simp) (by omega) (by simp) (ho1.low (fun j hj => hget_left (ho1.lt j hj)))
    (fun j hj => Nat.le_trans hnl (hF j hj)) (fun s e => by cases e) hxc (fun e => by rw [e] at hxz; simp at hxz) (by rw [hxz]) (by rw [hivx, hxz]; simp; omega) (by rw [hivx, hxz]; simp [maxLen]; omega)
  have hfil := fill_key (k := .u8) (x := x) (n := 32) (zl 32) hxz
  (refine aw_ops (by kernel_rfl) (fun K hK => ?_); simp (disch := first | omega | (simp only [List.length_set, List.length_append, List.length_cons, List.length_nil, iv_length, zl_length]; try omega; done)) [-getElem?_pos, -getElem?_neg, h9, hkb, hxz, htk, hset, -xfill, hfil, -xappend, hap]; refine hK _ _ ?_; clear hK K)
  (refine aw_ops (by kernel_rfl) (fun K hK => ?_); simp (disch := first | omega | (simp only [List.length_set, List.length_append, List.length_cons, List.length_nil, iv_length, zl_length]; try omega; done)) [-getElem?_pos, -getElem?_neg, h10]; refine hK _ _ ?_; clear hK K)
  refine ⟨c - 1, by omega, i + 1, xs ++ [x], l3, v', _, by omega, hxn, by (first | (simp [put_at, put_none, fr0_at]; done) | rfl), by (first | (simp [put_at, put_none, fr0_at, h8]; done) | rfl), by (first | (simp [put_at, put_none, fr0_at, h7]; done) | rfl), by (first | (simp [put_at, put_none, fr0_at, h2]; done) | rfl), by (first | (simp [put_at, put_none, fr0_at, h0]; done) | rfl), by (first | (simp [put_at, put_none, fr0_at]; done) | rfl), by rw [List.flatten_append, List.flatten_cons, List.flatten_nil, List.append_nil, iv_append]; exact ho3, fun k hk => ?_, by simp; omega, ?_, hb3, by omega, ?_⟩
  · rcases List.mem_append.1 hk with hk | hk
    · exact hxk k hk
    · rw [List.mem_singleton] at hk; subst hk; exact ⟨hx32, hxb⟩
  · rw [hk3 p (by have := hget_lt hh1; simp; omega) (fun hm => by have := hF p hm; omega)]
    exact (hget_left (hget_lt hh1)).trans hh1
  · exact Fr.mk (by rw [hl3]; simp; omega) (fun j hj hn => (hk3 j (by simp; omega) (fun hm => by have := hF j hm; omega)).trans ((hget_left (by omega)).trans (hf1.out j hj hn))) (fun j hj => .inl hj)
end

section
open Go Go.RowKit
set_option linter.unusedVariables false
set_option linter.unusedSimpArgs false
set_option maxRecDepth 100000
set_option maxHeartbeats 4000000
attribute [local simp] wb_bool wb_undef XL_nil XL_cons XLc_val XLc_call step1_eq stepW_t stepW_f stepC_n stepC_s stepX_s stepX_n stepN_s calleeX oneV xop_eq xopR_s xopR_n wantedA_eq wantedG_n wantedG_s plain1_int plain1_bool plain1_string bits_i64 bits_u64 bits_u32 bits_u16 bits_u8 xeqA xarr allK_iv num_iv calleeOf xread xeff xbin xint xnil xun xstr xload xconv xpart xfield xfieldAddr xindexAddr xindex bnd asInt? xslice xlen xmin xmax xbuild xfill xappend xapp2 xappstr xappmk xcap xcopy xcells eval_tmp eval_const put_at put_none fr0_at cells_agg cells_int cells_bool cells_string cells_ptr cells_slice notTuple tab iv_all hget_app hget_app0 hget_cons0 hget_cons set_app set_app0 setR setR_one QL_nil QL_cons QLc_val stepQ_t stepQ_f stepQC_n stepQC_s stepQX_s SL_nil SL_cons SLc_val stepS_t stepS_f ltT ltF leT leF eqT eqF ltTn ltFn leTn leFn eqTn eqFn beqT beqF bneT bneF wi64 wu64 wu32 wu16 wu8 tmodP tdivP hgetL hgetNe hgetEq setL nums_def nums_len Nat.succ_le_of_lt List.getElem?_cons_zero List.getElem?_cons_succ Option.getD_some Int.toNat_add Int.toNat_mul agB agI agS agP agL agA okB okI okS okP okSl okA
section
variable {H : AH} {γ : Nat → Option Nat} {nro p : Nat} {l : List Int} {most e : Int}
theorem numberlist_ac (hnl : nro ≤ H.length) (hp : nro ≤ p) (h : hget H p = some (rdC l 0)) (hb : By l) (hl : l.length ≤ 1000000) (hm : most ≤ 10000) :
    AC Try.prog nro γ 18 #[.pointer (some ⟨p, 0, none⟩), .int .i64 most] H
      (fun v' H' => (∀ X : List Nat, (∀ j ∈ X, j < H.length) → SlS H' X v' (iv .u32 ((rdMany rdNum most l).1.map fun n : Nat => (n : Int)))) ∧ hget H' p = some (rdC (rdMany rdNum most l).2.1 (rdMany rdNum most l).2.2) ∧ Fr H H' [p] [p]) := by
  refine ac_of_aw Try.func18 rfl Try.ntmps18 Try.results18 (by simp) ?_
  refine aw_seq ?_
  (refine aw_ops (by kernel_rfl) (fun K hK => ?_); simp (disch := first | omega | (simp only [List.length_set, List.length_append, List.length_cons, List.length_nil, iv_length, zl_length]; try omega; done)) [-getElem?_pos, -getElem?_neg]; refine hK _ _ ?_; clear hK K)
  refine aw_seq ?_
  refine aw_ops (by kernel_rfl) (fun K hK => ?_)
  simp (disch := first | omega | (simp only [List.length_set, List.length_append, List.length_cons, List.length_nil, iv_length, zl_length]; try omega; done)) [-getElem?_pos, -getElem?_neg]
  refine ⟨by kernel_rfl, (listn_ac hnl hp h hb hl hm).mono ?_⟩
  rintro v1 H1 ⟨h1, h2, h3⟩
  try simp (disch := first | omega | (simp only [List.length_set, List.length_append, List.length_cons, List.length_nil, iv_length, zl_length]; try omega; done)) [-getElem?_pos, -getElem?_neg]
  refine hK _ _ ?_; clear hK K
  (refine aw_ret ?_; simp (disch := first | omega | (simp only [List.length_set, List.length_append, List.length_cons, List.length_nil, iv_length, zl_length]; try omega; done)) [-getElem?_pos, -getElem?_neg, thenQ_ret, scopeQ_ret, inBlockQ_ret, RQ, resL, resV])
  exact ⟨h1, h2, h3⟩
theorem rkeylist_ac (hnl : nro ≤ H.length) (hp : nro ≤ p) (h : hget H p = some (rdC l 0)) (hb : By l) (hl : l.length ≤ 1000000) (hm : most ≤ 10000) :
    AC Try.prog nro γ 16 #[.pointer (some ⟨p, 0, none⟩), .int .i64 most] H
      (fun v' H' => (∀ X : List Nat, (∀ j ∈ X, j < H.length) → KyS H' X v' (rdMany rdKey most l).1) ∧ (∀ k ∈ (rdMany rdKey most l).1, k.length = 32 ∧ By k) ∧ hget H' p = some (rdC (rdMany rdKey most l).2.1 (rdMany rdKey most l).2.2) ∧ Fr H H' [p] [p]) := by
  refine ac_of_aw Try.func16 rfl Try.ntmps16 Try.results16 (by simp) ?_
  refine aw_seq ?_
  (refine aw_ops (by kernel_rfl) (fun K hK => ?_); simp (disch := first | omega | (simp only [List.length_set, List.length_append, List.length_cons, List.length_nil, iv_length, zl_length]; try omega; done)) [-getElem?_pos, -getElem?_neg]; refine hK _ _ ?_; clear hK K)
  refine aw_seq ?_
  refine aw_ops (by kernel_rfl) (fun K hK => ?_)
  simp (disch := first | omega | (simp only [List.length_set, List.length_append, List.length_cons, List.length_nil, iv_length, zl_length]; try omega; done)) [-getElem?_pos, -getElem?_neg]
  refine ⟨by kernel_rfl, (listk_ac hnl hp h hb hl hm).mono ?_⟩
  rintro v1 H1 ⟨h1, h2, h3, h4⟩
  try simp (disch := first | omega | (simp only [List.length_set, List.length_append, List.length_cons, List.length_nil, iv_length, zl_length]; try omega; done)) [-getElem?_pos, -getElem?_neg]
  refine hK _ _ ?_; clear hK K
  (refine aw_ret ?_; simp (disch := first | omega | (simp only [List.length_set, List.length_append, List.length_cons, List.length_nil, iv_length, zl_length]; try omega; done)) [-getElem?_pos, -getElem?_neg, thenQ_ret, scopeQ_ret, inBlockQ_ret, RQ, resL, resV])
  exact ⟨h1, h2, h3, h4⟩
theorem number_err (h : hget H p = some (rdC l e)) (he : e ≠ 0) :
    AC Try.prog nro γ 12 #[.pointer (some ⟨p, 0, none⟩)] H (fun v' H' => v' = .int .u32 0 ∧ H' = H) := by
  unfold rdC at h
  refine ac_of_aw Try.func12 rfl Try.ntmps12 Try.results12 (by simp) ?_
  refine aw_seq ?_
  (refine aw_ops (by kernel_rfl) (fun K hK => ?_); simp (disch := first | omega | (simp only [List.length_set, List.length_append, List.length_cons, List.length_nil, iv_length, zl_length]; try omega; done)) [-getElem?_pos, -getElem?_neg]; refine hK _ _ ?_; clear hK K)
  refine aw_scope ?_
  refine aw_seq ?_
  refine aw_seq ?_
  (refine aw_ops (by kernel_rfl) (fun K hK => ?_); simp (disch := first | omega | (simp only [List.length_set, List.length_append, List.length_cons, List.length_nil, iv_length, zl_length]; try omega; done)) [-getElem?_pos, -getElem?_neg, h, he]; refine hK _ _ ?_; clear hK K)
  refine aw_t (by (first | (simp [eval_tmp, put_at, he]; done) | (simp [eval_tmp, put_at, he]; omega))) (by kernel_rfl) ?_
  refine aw_seq ?_
  (refine aw_ops (by kernel_rfl) (fun K hK => ?_); simp (disch := first | omega | (simp only [List.length_set, List.length_append, List.length_cons, List.length_nil, iv_length, zl_length]; try omega; done)) [-getElem?_pos, -getElem?_neg]; refine hK _ _ ?_; clear hK K)
  (refine aw_ret ?_; simp (disch := first | omega | (simp only [List.length_set, List.length_append, List.length_cons, List.length_nil, iv_length, zl_length]; try omega; done)) [-getElem?_pos, -getElem?_neg, thenQ_ret, scopeQ_ret, inBlockQ_ret, RQ, resL, resV])
theorem count_err (h : hget H p = some (rdC l e)) (he : e ≠ 0) :
    AC Try.prog nro γ 30 #[.pointer (some ⟨p, 0, none⟩), .int .i64 most] H (fun v' H' => v' = .int .u64 0 ∧ H' = H) := by
  have hn := number_err (nro := nro) (γ := γ) h he
  unfold rdC at h
  refine ac_of_aw Try.func30 rfl Try.ntmps30 Try.results30 (by simp) ?_
  refine aw_seq ?_
  (refine aw_ops (by kernel_rfl) (fun K hK => ?_); simp (disch := first | omega | (simp only [List.length_set, List.length_append, List.length_cons, List.length_nil, iv_length, zl_length]; try omega; done)) [-getElem?_pos, -getElem?_neg]; refine hK _ _ ?_; clear hK K)
  refine aw_seq ?_
  (refine aw_ops (by kernel_rfl) (fun K hK => ?_); simp (disch := first | omega | (simp only [List.length_set, List.length_append, List.length_cons, List.length_nil, iv_length, zl_length]; try omega; done)) [-getElem?_pos, -getElem?_neg, h]; refine hK _ _ ?_; clear hK K)
  refine aw_seq ?_
  refine aw_ops (by kernel_rfl) (fun K hK => ?_)
  simp (disch := first | omega | (simp only [List.length_set, List.length_append, List.length_cons, List.length_nil, iv_length, zl_length]; try omega; done)) [-getElem?_pos, -getElem?_neg]
  refine ⟨by kernel_rfl, hn.mono ?_⟩
  rintro v1 H1 ⟨rfl, rfl⟩
  try simp (disch := first | omega | (simp only [List.length_set, List.length_append, List.length_cons, List.length_nil, iv_length, zl_length]; try omega; done)) [-getElem?_pos, -getElem?_neg]
  refine hK _ _ ?_; clear hK K
  refine aw_seq ?_
  refine aw_seq ?_
  (refine aw_ops (by kernel_rfl) (fun K hK => ?_); simp (disch := first | omega | (simp only [List.length_set, List.length_append, List.length_cons, List.length_nil, iv_length, zl_length]; try omega; done)) [-getElem?_pos, -getElem?_neg, h, he]; refine hK _ _ ?_; clear hK K)
  refine aw_f (by (first | (simp [eval_tmp, put_at]; done) | (simp [eval_tmp, put_at]; omega))) (by kernel_rfl) ?_
  refine aw_skip ?_
  refine aw_seq ?_
  (refine aw_ops (by kernel_rfl) (fun K hK => ?_); simp (disch := first | omega | (simp only [List.length_set, List.length_append, List.length_cons, List.length_nil, iv_length, zl_length]; try omega; done)) [-getElem?_pos, -getElem?_neg]; refine hK _ _ ?_; clear hK K)
  (refine aw_ret ?_; simp (disch := first | omega | (simp only [List.length_set, List.length_append, List.length_cons, List.length_nil, iv_length, zl_length]; try omega; done)) [-getElem?_pos, -getElem?_neg, thenQ_ret, scopeQ_ret, inBlockQ_ret, RQ, resL, resV])
theorem text_err (h : hget H p = some (rdC l e)) (he : e ≠ 0) :
    AC Try.prog nro γ 13 #[.pointer (some ⟨p, 0, none⟩), .int .i64 most] H (fun v' H' => v' = .string (strOfNums []) ∧ H' = H) := by
  have hn := count_err (nro := nro) (γ := γ) (most := most) h he
  unfold rdC at h
  refine ac_of_aw Try.func13 rfl Try.ntmps13 Try.results13 (by simp) ?_
  refine aw_seq ?_
  (refine aw_ops (by kernel_rfl) (fun K hK => ?_); simp (disch := first | omega | (simp only [List.length_set, List.length_append, List.length_cons, List.length_nil, iv_length, zl_length]; try omega; done)) [-getElem?_pos, -getElem?_neg]; refine hK _ _ ?_; clear hK K)
  refine aw_seq ?_
  (refine aw_ops (by kernel_rfl) (fun K hK => ?_); simp (disch := first | omega | (simp only [List.length_set, List.length_append, List.length_cons, List.length_nil, iv_length, zl_length]; try omega; done)) [-getElem?_pos, -getElem?_neg, h]; refine hK _ _ ?_; clear hK K)
  refine aw_seq ?_
  refine aw_ops (by kernel_rfl) (fun K hK => ?_)
  simp (disch := first | omega | (simp only [List.length_set, List.length_append, List.length_cons, List.length_nil, iv_length, zl_length]; try omega; done)) [-getElem?_pos, -getElem?_neg]
  refine ⟨by kernel_rfl, hn.mono ?_⟩
  rintro v1 H1 ⟨rfl, rfl⟩
  try simp (disch := first | omega | (simp only [List.length_set, List.length_append, List.length_cons, List.length_nil, iv_length, zl_length]; try omega; done)) [-getElem?_pos, -getElem?_neg]
  refine hK _ _ ?_; clear hK K
  refine aw_seq ?_
  refine aw_seq ?_
  (refine aw_ops (by kernel_rfl) (fun K hK => ?_); simp (disch := first | omega | (simp only [List.length_set, List.length_append, List.length_cons, List.length_nil, iv_length, zl_length]; try omega; done)) [-getElem?_pos, -getElem?_neg, h, he]; refine hK _ _ ?_; clear hK K)
  refine aw_f (by (first | (simp [eval_tmp, put_at]; done) | (simp [eval_tmp, put_at]; omega))) (by kernel_rfl) ?_
  refine aw_skip ?_
  refine aw_seq ?_
  refine aw_seq ?_
  (refine aw_ops (by kernel_rfl) (fun K hK => ?_); simp (disch := first | omega | (simp only [List.length_set, List.length_append, List.length_cons, List.length_nil, iv_length, zl_length]; try omega; done)) [-getElem?_pos, -getElem?_neg, h, he]; refine hK _ _ ?_; clear hK K)
  refine aw_t (by (first | (simp [eval_tmp, put_at, he]; done) | (simp [eval_tmp, put_at, he]; omega))) (by kernel_rfl) ?_
  refine aw_seq ?_
  (refine aw_ops (by kernel_rfl) (fun K hK => ?_); simp (disch := first | omega | (simp only [List.length_set, List.length_append, List.length_cons, List.length_nil, iv_length, zl_length]; try omega; done)) [-getElem?_pos, -getElem?_neg]; refine hK _ _ ?_; clear hK K)
  (refine aw_ret ?_; simp (disch := first | omega | (simp only [List.length_set, List.length_append, List.length_cons, List.length_nil, iv_length, zl_length]; try omega; done)) [-getElem?_pos, -getElem?_neg, thenQ_ret, scopeQ_ret, inBlockQ_ret, RQ, resL, resV, sn_nil0])
theorem key_err (hnl : nro ≤ H.length) (h : hget H p = some (rdC l e)) (he : e ≠ 0) :
    AC Try.prog nro γ 14 #[.pointer (some ⟨p, 0, none⟩)] H (fun v' H' => v' = .agg (iv .u8 (zl 32)).toArray ∧ hget H' p = some (rdC l e) ∧ Fr H H' [p] [p]) := by
  have hpl := hget_lt h
  have h0 := h
  unfold rdC at h
  have hzl : (iv .u8 (zl 32)).length = 32 := by rw [iv_length]; rfl
  refine ac_of_aw Try.func14 rfl Try.ntmps14 Try.results14 (by simp) ?_
  refine aw_seq ?_
  (refine aw_ops (by kernel_rfl) (fun K hK => ?_); simp (disch := first | omega | (simp only [List.length_set, List.length_append, List.length_cons, List.length_nil, iv_length, zl_length]; try omega; done)) [-getElem?_pos, -getElem?_neg]; refine hK _ _ ?_; clear hK K)
  refine aw_seq ?_
  (refine aw_ops (by kernel_rfl) (fun K hK => ?_); simp (disch := first | omega | (simp only [List.length_set, List.length_append, List.length_cons, List.length_nil, iv_length, zl_length]; try omega; done)) [-getElem?_pos, -getElem?_neg]; refine hK _ _ ?_; clear hK K)
  obtain ⟨G, hG⟩ : ∃ G, G = H ++ [some ⟨iv .u8 (zl 32), 41, none⟩, some ⟨iv .u8 (zl 32), 41, none⟩] := ⟨_, rfl⟩
  rw [← hG]
  obtain ⟨a, ha⟩ : ∃ a, a = H.length := ⟨_, rfl⟩
  obtain ⟨zz, hzz⟩ : ∃ zz, zz = iv .u8 (zl 32) := ⟨_, rfl⟩
  have hGa : hget G a = some ⟨iv .u8 (zl 32), 41, none⟩ := by rw [hG, ha, hget_app0]; rfl
  have hGb : hget G (a + 1) = some ⟨iv .u8 (zl 32), 41, none⟩ := by rw [hG, ha, hget_app]; rfl
  have hGp : hget G p = some ⟨[.string (strOfNums l), .int .i64 e], 63, none⟩ := by rw [hG]; exact (hget_left hpl).trans h
  have hGl : G.length = a + 2 := by rw [hG, ha]; simp
  have hout : ∀ j, j < H.length → hget G j = hget H j := fun j hj => by rw [hG]; exact hget_left hj
  rw [← ha]
  rw [← hzz] at hGa hGb hzl ⊢
  have ht : List.take 32 zz = zz := List.take_of_length_le (by omega)
  have hst : setR zz 0 zz = zz := setR_all _ _ rfl
  clear hG
  refine aw_seq ?_
  refine aw_seq ?_
  (refine aw_ops (by kernel_rfl) (fun K hK => ?_); simp (disch := first | omega | (simp only [List.length_set, List.length_append, List.length_cons, List.length_nil, iv_length, zl_length]; try omega; done)) [-getElem?_pos, -getElem?_neg, hGp, he]; refine hK _ _ ?_; clear hK K)
  refine aw_t (by (first | (simp [eval_tmp, put_at, he]; done) | (simp [eval_tmp, put_at, he]; omega))) (by kernel_rfl) ?_
  refine aw_seq ?_
  (refine aw_ops (by kernel_rfl) (fun K hK => ?_); simp (disch := first | omega | (simp only [List.length_set, List.length_append, List.length_cons, List.length_nil, iv_length, zl_length]; try omega; done)) [-getElem?_pos, -getElem?_neg, hGa, hGb, hzl, ht, hst]; refine hK _ _ ?_; clear hK K)
  have h4 : hget (G.set a (some ⟨zz, 41, none⟩)) a = some ⟨zz, 41, none⟩ := hget_set_eq (by omega)
  (refine aw_ret ?_; simp (disch := first | omega | (simp only [List.length_set, List.length_append, List.length_cons, List.length_nil, iv_length, zl_length]; try omega; done)) [-getElem?_pos, -getElem?_neg, thenQ_ret, scopeQ_ret, inBlockQ_ret, RQ, resL, resV, h4, hzl, ht])
  exact ⟨hGp, Fr.mk (by simp; omega) (fun j hj hn => by rw [hget_set_ne (by omega)]; exact hout j hj) (fun j hj => .inl hj)⟩
end
end

section
open Go Go.RowKit
set_option linter.unusedVariables false
set_option linter.unusedSimpArgs false
set_option maxRecDepth 100000
set_option maxHeartbeats 4000000
theorem list_ne {β : Type} {xs ys : List β} (hl : xs.length = ys.length) {i : Nat} {x y : β} (hx : xs[i]? = some x) (hy : ys[i]? = some y) (h : x ≠ y) : xs ≠ ys := by
  rintro rfl; rw [hx] at hy; exact h (Option.some.inj hy)
theorem list_eq {β : Type} {xs ys : List β} (hl : xs.length = ys.length) (h : xs.take xs.length = ys.take xs.length) : xs = ys := by
  rwa [List.take_length, hl, List.take_length] at h
attribute [local simp] wb_bool wb_undef XL_nil XL_cons XLc_val XLc_call step1_eq stepW_t stepW_f stepC_n stepC_s stepX_s stepX_n stepN_s calleeX oneV xop_eq xopR_s xopR_n wantedA_eq wantedG_n wantedG_s plain1_int plain1_bool plain1_string bits_i64 bits_u64 bits_u32 bits_u16 bits_u8 xeqA xarr allK_iv num_iv calleeOf xread xeff xbin xint xnil xun xstr xload xconv xpart xfield xfieldAddr xindexAddr xindex bnd asInt? xslice xlen xmin xmax xbuild xfill xappend xapp2 xappstr xappmk xcap xcopy xcells eval_tmp eval_const put_at put_none fr0_at cells_agg cells_int cells_bool cells_string cells_ptr cells_slice notTuple tab iv_all hget_app hget_app0 hget_cons0 hget_cons set_app set_app0 setR setR_one QL_nil QL_cons QLc_val stepQ_t stepQ_f stepQC_n stepQC_s stepQX_s SL_nil SL_cons SLc_val stepS_t stepS_f ltT ltF leT leF eqT eqF ltTn ltFn leTn leFn eqTn eqFn beqT beqF bneT bneF wi64 wu64 wu32 wu16 wu8 tmodP tdivP hgetL hgetNe hgetEq setL nums_def nums_len Nat.succ_le_of_lt List.getElem?_cons_zero List.getElem?_cons_succ Option.getD_some Int.toNat_add Int.toNat_mul agB agI agS agP agL agA okB okI okS okP okSl okA
theorem samenumbers_ac {H : AH} {γ : Nat → Option Nat} {nro : Nat} {xs ys : List Int} {a b : Value} (ha : SlV H a (iv .u32 xs)) (hb : SlV H b (iv .u32 ys)) (hl : xs.length ≤ maxLen) (hl2 : ys.length ≤ maxLen) :
    AC Try.prog nro γ 17 #[a, b] H (fun v' H' => v' = .bool (decide (xs = ys)) ∧ H' = H) := by
  obtain ⟨hna, _⟩ := nt_of ha
  obtain ⟨hnb, _⟩ := nt_of hb
  have hxa := ha.len (P := Try.prog) (t := 30) (e := 37) (by simp)
  have hxb := hb.len (P := Try.prog) (t := 30) (e := 37) (by simp)
  rw [iv_length] at hxa hxb
  simp only [maxLen] at hl hl2
  refine ac_of_aw Try.func17 rfl Try.ntmps17 Try.results17 (by simp) ?_
  refine aw_seq ?_
  (refine aw_ops (by kernel_rfl) (fun K hK => ?_); simp (disch := first | omega | (simp only [List.length_set, List.length_append, List.length_cons, List.length_nil, iv_length, zl_length]; try omega; done)) [-getElem?_pos, -getElem?_neg]; refine hK _ _ ?_; clear hK K)
  refine aw_seq ?_
  refine aw_seq ?_
  (refine aw_ops (by kernel_rfl) (fun K hK => ?_); simp (disch := first | omega | (simp only [List.length_set, List.length_append, List.length_cons, List.length_nil, iv_length, zl_length]; try omega; done)) [-getElem?_pos, -getElem?_neg, -xlen, hxa, hxb]; refine hK _ _ ?_; clear hK K)
  by_cases hc : xs.length = ys.length
  case neg =>
    refine aw_t (by (first | (simp [eval_tmp, put_at, hc]; done) | (simp [eval_tmp, put_at, hc]; omega))) (by kernel_rfl) ?_
    refine aw_seq ?_
    (refine aw_ops (by kernel_rfl) (fun K hK => ?_); simp (disch := first | omega | (simp only [List.length_set, List.length_append, List.length_cons, List.length_nil, iv_length, zl_length]; try omega; done)) [-getElem?_pos, -getElem?_neg]; refine hK _ _ ?_; clear hK K)
    have : xs ≠ ys := fun h => hc (by rw [h])
    (refine aw_ret ?_; simp (disch := first | omega | (simp only [List.length_set, List.length_append, List.length_cons, List.length_nil, iv_length, zl_length]; try omega; done)) [-getElem?_pos, -getElem?_neg, thenQ_ret, scopeQ_ret, inBlockQ_ret, RQ, resL, resV, this])
  refine aw_f (by (first | (simp [eval_tmp, put_at, hc]; done) | (simp [eval_tmp, put_at, hc]; omega))) (by kernel_rfl) ?_
  refine aw_skip ?_
  refine aw_seq ?_
  refine aw_seq ?_
  (refine aw_ops (by kernel_rfl) (fun K hK => ?_); simp (disch := first | omega | (simp only [List.length_set, List.length_append, List.length_cons, List.length_nil, iv_length, zl_length]; try omega; done)) [-getElem?_pos, -getElem?_neg]; refine hK _ _ ?_; clear hK K)
  refine aw_cut (fun α G => G = H ∧ xs = ys) ?_ ?_
  case refine_2 =>
    rintro α G ⟨rfl, rfl⟩
    refine aw_seq ?_
    (refine aw_ops (by kernel_rfl) (fun K hK => ?_); simp (disch := first | omega | (simp only [List.length_set, List.length_append, List.length_cons, List.length_nil, iv_length, zl_length]; try omega; done)) [-getElem?_pos, -getElem?_neg]; refine hK _ _ ?_; clear hK K)
    (refine aw_ret ?_; simp (disch := first | omega | (simp only [List.length_set, List.length_append, List.length_cons, List.length_nil, iv_length, zl_length]; try omega; done)) [-getElem?_pos, -getElem?_neg, thenQ_ret, scopeQ_ret, inBlockQ_ret, RQ, resL, resV])
  refine aw_block ?_
  refine aw_loop (fun c α G => G = H ∧ ∃ i : Nat, i + c = xs.length ∧ α 5 = .int .i64 (i : Nat) ∧ α 0 = a ∧ α 1 = b ∧ xs.take i = ys.take i) xs.length ?_ ?_
  · exact ⟨rfl, 0, by omega, by (first | (simp [put_at, put_none, fr0_at]; done) | rfl), by (first | (simp [put_at, put_none, fr0_at]; done) | rfl), by (first | (simp [put_at, put_none, fr0_at]; done) | rfl), rfl⟩
  rintro c α G ⟨rfl, i, hic, h5, h0, h1, hq⟩
  refine aw_seq ?_
  refine aw_seq ?_
  (refine aw_ops (by kernel_rfl) (fun K hK => ?_); simp (disch := first | omega | (simp only [List.length_set, List.length_append, List.length_cons, List.length_nil, iv_length, zl_length]; try omega; done)) [-getElem?_pos, -getElem?_neg, h5, h0, -xlen, hxa]; refine hK _ _ ?_; clear hK K)
  by_cases hi : i < xs.length
  case neg =>
    refine aw_f (by (first | (simp [eval_tmp, put_at, hi]; done) | (simp [eval_tmp, put_at, hi]; omega))) (by kernel_rfl) ?_
    refine aw_exit ?_
    obtain rfl : i = xs.length := by omega
    exact ⟨rfl, list_eq hc hq⟩
  refine aw_t (by (first | (simp [eval_tmp, put_at, hi]; done) | (simp [eval_tmp, put_at, hi]; omega))) (by kernel_rfl) ?_
  refine aw_skip ?_
  refine aw_seq ?_
  refine aw_block ?_
  obtain ⟨x, hx⟩ : ∃ x, xs[i]? = some x := ⟨_, List.getElem?_eq_getElem hi⟩
  obtain ⟨y, hy⟩ : ∃ y, ys[i]? = some y := ⟨_, List.getElem?_eq_getElem (by omega)⟩
  obtain ⟨px, hpx, hlx⟩ := ha.cell (P := Try.prog) (t := 30) (e := 37) (by simp) (by simp) (by simp) (by simp) (i := i) (x := .int .u32 x) (by simp [iv, hx])
  obtain ⟨py, hpy, hly⟩ := hb.cell (P := Try.prog) (t := 30) (e := 37) (by simp) (by simp) (by simp) (by simp) (i := i) (x := .int .u32 y) (by simp [iv, hy])
  refine aw_seq ?_
  (refine aw_plan [] [] [0, 1, 2, 3, 4, 5, 6, 7, 8] 9 0 (by kernel_rfl) (by kernel_rfl) (by kernel_rfl) (fun K hK => ?_)); simp only [sel, List.getElem?_cons_succ, List.getElem?_cons_zero, List.drop_succ_cons, List.drop_zero]; simp (disch := first | omega | (simp only [List.length_set, List.length_append, List.length_cons, List.length_nil, iv_length, zl_length]; try omega; done)) [-getElem?_pos, -getElem?_neg, h0, h1, h5, -xindexAddr, hpx, hpy, -xload, hlx, hly, PL_nil, PL_cons, PLc_val, PLc_new, stepP_t, stepP_f, stepPC_n, stepPC_s, stepPX_s, stepPX_n, stepPA_t, stepPA_c, stepPA_l, stepPN_s, allocOp, reloc_sl, reloc_ptr, List.map_cons, List.map_nil, List.nil_append, List.append_assoc, List.cons_append, Nat.add_assoc]
  refine hK _ _ ?_; clear hK K
  by_cases hxy : x = y
  case neg =>
    refine aw_t (by (first | (simp [eval_tmp, put_at, hxy]; done) | (simp [eval_tmp, put_at, hxy]; omega))) (by kernel_rfl) ?_
    refine aw_seq ?_
    (refine aw_ops (by kernel_rfl) (fun K hK => ?_); simp (disch := first | omega | (simp only [List.length_set, List.length_append, List.length_cons, List.length_nil, iv_length, zl_length]; try omega; done)) [-getElem?_pos, -getElem?_neg]; refine hK _ _ ?_; clear hK K)
    have := list_ne hc hx hy hxy
    (refine aw_ret ?_; simp (disch := first | omega | (simp only [List.length_set, List.length_append, List.length_cons, List.length_nil, iv_length, zl_length]; try omega; done)) [-getElem?_pos, -getElem?_neg, thenQ_ret, scopeQ_ret, inBlockQ_ret, RQ, resL, resV, this])
  refine aw_f (by (first | (simp [eval_tmp, put_at, hxy]; done) | (simp [eval_tmp, put_at, hxy]; omega))) (by kernel_rfl) ?_
  refine aw_skip ?_
  (refine aw_ops (by kernel_rfl) (fun K hK => ?_); simp (disch := first | omega | (simp only [List.length_set, List.length_append, List.length_cons, List.length_nil, iv_length, zl_length]; try omega; done)) [-getElem?_pos, -getElem?_neg, h5]; refine hK _ _ ?_; clear hK K)
  exact ⟨c - 1, by omega, rfl, i + 1, by omega, by (first | (simp [put_at, put_none, fr0_at]; done) | rfl), by (first | (simp [put_at, put_none, fr0_at, h0]; done) | rfl), by (first | (simp [put_at, put_none, fr0_at, h1]; done) | rfl), by rw [List.take_add_one, List.take_add_one, hq, hx, hy, hxy]⟩
theorem samekeys_ac {H : AH} {γ : Nat → Option Nat} {nro : Nat} {xs ys : List (List Int)} {a b : Value} (ha : SlK 32 .u8 H a xs) (hb : SlK 32 .u8 H b ys) (hl : xs.length ≤ maxLen) (hl2 : ys.length ≤ maxLen) (hxk : ∀ k ∈ xs, k.length = 32) (hyk : ∀ k ∈ ys, k.length = 32) :
    AC Try.prog nro γ 15 #[a, b] H (fun v' H' => v' = .bool (decide (xs = ys)) ∧ H' = H) := by
  obtain ⟨hna, _⟩ := ntk_of ha
  obtain ⟨hnb, _⟩ := ntk_of hb
  have hxa := ha.len (P := Try.prog) (t := 31) (e := 41) (by simp)
  have hxb := hb.len (P := Try.prog) (t := 31) (e := 41) (by simp)
  simp only [maxLen] at hl hl2
  refine ac_of_aw Try.func15 rfl Try.ntmps15 Try.results15 (by simp) ?_
  refine aw_seq ?_
  (refine aw_ops (by kernel_rfl) (fun K hK => ?_); simp (disch := first | omega | (simp only [List.length_set, List.length_append, List.length_cons, List.length_nil, iv_length, zl_length]; try omega; done)) [-getElem?_pos, -getElem?_neg]; refine hK _ _ ?_; clear hK K)
  refine aw_seq ?_
  refine aw_seq ?_
  (refine aw_ops (by kernel_rfl) (fun K hK => ?_); simp (disch := first | omega | (simp only [List.length_set, List.length_append, List.length_cons, List.length_nil, iv_length, zl_length]; try omega; done)) [-getElem?_pos, -getElem?_neg, -xlen, hxa, hxb]; refine hK _ _ ?_; clear hK K)
  by_cases hc : xs.length = ys.length
  case neg =>
    refine aw_t (by (first | (simp [eval_tmp, put_at, hc]; done) | (simp [eval_tmp, put_at, hc]; omega))) (by kernel_rfl) ?_
    refine aw_seq ?_
    (refine aw_ops (by kernel_rfl) (fun K hK => ?_); simp (disch := first | omega | (simp only [List.length_set, List.length_append, List.length_cons, List.length_nil, iv_length, zl_length]; try omega; done)) [-getElem?_pos, -getElem?_neg]; refine hK _ _ ?_; clear hK K)
    have : xs ≠ ys := fun h => hc (by rw [h])
    (refine aw_ret ?_; simp (disch := first | omega | (simp only [List.length_set, List.length_append, List.length_cons, List.length_nil, iv_length, zl_length]; try omega; done)) [-getElem?_pos, -getElem?_neg, thenQ_ret, scopeQ_ret, inBlockQ_ret, RQ, resL, resV, this])
  refine aw_f (by (first | (simp [eval_tmp, put_at, hc]; done) | (simp [eval_tmp, put_at, hc]; omega))) (by kernel_rfl) ?_
  refine aw_skip ?_
  refine aw_seq ?_
  refine aw_seq ?_
  (refine aw_ops (by kernel_rfl) (fun K hK => ?_); simp (disch := first | omega | (simp only [List.length_set, List.length_append, List.length_cons, List.length_nil, iv_length, zl_length]; try omega; done)) [-getElem?_pos, -getElem?_neg]; refine hK _ _ ?_; clear hK K)
  refine aw_cut (fun α G => G = H ∧ xs = ys) ?_ ?_
  case refine_2 =>
    rintro α G ⟨rfl, rfl⟩
    refine aw_seq ?_
    (refine aw_ops (by kernel_rfl) (fun K hK => ?_); simp (disch := first | omega | (simp only [List.length_set, List.length_append, List.length_cons, List.length_nil, iv_length, zl_length]; try omega; done)) [-getElem?_pos, -getElem?_neg]; refine hK _ _ ?_; clear hK K)
    (refine aw_ret ?_; simp (disch := first | omega | (simp only [List.length_set, List.length_append, List.length_cons, List.length_nil, iv_length, zl_length]; try omega; done)) [-getElem?_pos, -getElem?_neg, thenQ_ret, scopeQ_ret, inBlockQ_ret, RQ, resL, resV])
  refine aw_block ?_
  refine aw_loop (fun c α G => G = H ∧ ∃ i : Nat, i + c = xs.length ∧ α 5 = .int .i64 (i : Nat) ∧ α 0 = a ∧ α 1 = b ∧ xs.take i = ys.take i) xs.length ?_ ?_
  · exact ⟨rfl, 0, by omega, by (first | (simp [put_at, put_none, fr0_at]; done) | rfl), by (first | (simp [put_at, put_none, fr0_at]; done) | rfl), by (first | (simp [put_at, put_none, fr0_at]; done) | rfl), rfl⟩
  rintro c α G ⟨rfl, i, hic, h5, h0, h1, hq⟩
  refine aw_seq ?_
  refine aw_seq ?_
  (refine aw_ops (by kernel_rfl) (fun K hK => ?_); simp (disch := first | omega | (simp only [List.length_set, List.length_append, List.length_cons, List.length_nil, iv_length, zl_length]; try omega; done)) [-getElem?_pos, -getElem?_neg, h5, h0, -xlen, hxa]; refine hK _ _ ?_; clear hK K)
  by_cases hi : i < xs.length
  case neg =>
    refine aw_f (by (first | (simp [eval_tmp, put_at, hi]; done) | (simp [eval_tmp, put_at, hi]; omega))) (by kernel_rfl) ?_
    refine aw_exit ?_
    obtain rfl : i = xs.length := by omega
    exact ⟨rfl, list_eq hc hq⟩
  refine aw_t (by (first | (simp [eval_tmp, put_at, hi]; done) | (simp [eval_tmp, put_at, hi]; omega))) (by kernel_rfl) ?_
  refine aw_skip ?_
  refine aw_seq ?_
  refine aw_block ?_
  obtain ⟨x, hx⟩ : ∃ x, xs[i]? = some x := ⟨_, List.getElem?_eq_getElem hi⟩
  obtain ⟨y, hy⟩ : ∃ y, ys[i]? = some y := ⟨_, List.getElem?_eq_getElem (by omega)⟩
  have hx32 := hxk x (List.mem_of_getElem? hx)
  have hy32 := hyk y (List.mem_of_getElem? hy)
  obtain ⟨px, hpx, hlx0⟩ := ha.at (P := Try.prog) (t := 31) (e := 41) (by simp) (by simp) (by omega) (by simp) hx
  obtain ⟨py, hpy, hly0⟩ := hb.at (P := Try.prog) (t := 31) (e := 41) (by simp) (by simp) (by omega) (by simp) hy
  have hlx := hlx0 G (fun _ _ => rfl)
  have hly := hly0 G (fun _ _ => rfl)
  refine aw_seq ?_
  (refine aw_plan [] [] [0, 1, 2, 3, 4, 5, 6, 7, 8] 9 0 (by kernel_rfl) (by kernel_rfl) (by kernel_rfl) (fun K hK => ?_)); simp only [sel, List.getElem?_cons_succ, List.getElem?_cons_zero, List.drop_succ_cons, List.drop_zero]; simp (disch := first | omega | (simp only [List.length_set, List.length_append, List.length_cons, List.length_nil, iv_length, zl_length]; try omega; done)) [-getElem?_pos, -getElem?_neg, h0, h1, h5, -xindexAddr, hpx, hpy, -xload, hlx, hly, hx32, hy32, PL_nil, PL_cons, PLc_val, PLc_new, stepP_t, stepP_f, stepPC_n, stepPC_s, stepPX_s, stepPX_n, stepPA_t, stepPA_c, stepPA_l, stepPN_s, allocOp, reloc_sl, reloc_ptr, List.map_cons, List.map_nil, List.nil_append, List.append_assoc, List.cons_append, Nat.add_assoc]
  refine hK _ _ ?_; clear hK K
  by_cases hxy : x = y
  case neg =>
    refine aw_t (by (first | (simp [eval_tmp, put_at, hxy]; done) | (simp [eval_tmp, put_at, hxy]; omega))) (by kernel_rfl) ?_
    refine aw_seq ?_
    (refine aw_ops (by kernel_rfl) (fun K hK => ?_); simp (disch := first | omega | (simp only [List.length_set, List.length_append, List.length_cons, List.length_nil, iv_length, zl_length]; try omega; done)) [-getElem?_pos, -getElem?_neg]; refine hK _ _ ?_; clear hK K)
    have := list_ne hc hx hy hxy
    (refine aw_ret ?_; simp (disch := first | omega | (simp only [List.length_set, List.length_append, List.length_cons, List.length_nil, iv_length, zl_length]; try omega; done)) [-getElem?_pos, -getElem?_neg, thenQ_ret, scopeQ_ret, inBlockQ_ret, RQ, resL, resV, this])
  refine aw_f (by (first | (simp [eval_tmp, put_at, hxy]; done) | (simp [eval_tmp, put_at, hxy]; omega))) (by kernel_rfl) ?_
  refine aw_skip ?_
  (refine aw_ops (by kernel_rfl) (fun K hK => ?_); simp (disch := first | omega | (simp only [List.length_set, List.length_append, List.length_cons, List.length_nil, iv_length, zl_length]; try omega; done)) [-getElem?_pos, -getElem?_neg, h5]; refine hK _ _ ?_; clear hK K)
  exact ⟨c - 1, by omega, rfl, i + 1, by omega, by (first | (simp [put_at, put_none, fr0_at]; done) | rfl), by (first | (simp [put_at, put_none, fr0_at, h0]; done) | rfl), by (first | (simp [put_at, put_none, fr0_at, h1]; done) | rfl), by rw [List.take_add_one, List.take_add_one, hq, hx, hy, hxy]⟩
end
end Go.Proofs.Ytpdijcaikjobiaa
