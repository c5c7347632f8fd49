/-
  cabalref15.Heads.
  cabalref15.Add.
  The reference's Put.
  queue.Wanted's sorting: up to twelve keys.
  queue.Wanted's last steps: ordered, once (keys none of which comes twice).
  queue.Wanted (where no key is wanted twice, and at most twelve).
  The reference's Without.
  The law's update: an operation behind another one.
  The law's first queues, as data.
  What is wanted of queue.Without; the first queues, well-formed.
  slices.Delete of one, at a queue of the call's own.
  queue.Without.
  The vector of layer 19.
  QueuePuts: the law, walked.
  Rows within a block; noughts; new slices by append, stored into an own operation.
  Rows within a block as a queue; nought; an own operation's slices written anew.
  Why queues move: what is ready may come behind; nothing is wanted as long as all that is named is there or held.
  GraphAdds: the law, walked.
  QueueMoves: the law, walked.
-/
import Derived.Test.YtdeccbjdhcifiaaME
import Derived.Test.YtdeccbjdhcifiaaMC
import Derived.Test.YtdeccbjdhcifiaaMF
namespace Go.Proofs.Ytdeccbjdhcifiaa
open Go Go.RowKit
set_option linter.unusedSimpArgs false
set_option linter.unusedVariables false
set_option maxRecDepth 100000
set_option maxHeartbeats 4000000
section
def RAddQ (l : List NodeD) (id : List Int) (o : OpD) (H0 H : AH) (v' : Value) (H' : AH) : Prop :=
 Low H.length H H' ∧ ∃ sv, v' = .tuple #[sv, .int .i64 (addE l id o)] ∧ ((addE l id o = 0 ∧ ∀ G, Low H0.length H0 G → KeepN H.length H' G → NdV G sv (l ++ [addD l id o])) ∨ (addE l id o ≠ 0 ∧ sv = .slice none 0 0))
theorem RAddQ.bad {l : List NodeD} {id : List Int} {o : OpD} {H0 H H' : AH} {z : Int} (hl : Low H.length H H') (h : addE l id o = z) (hz : z ≠ 0) : RAddQ l id o H0 H (.tuple #[.slice none 0 0, .int .i64 z]) H' :=
 ⟨hl, _, by rw [h], .inr ⟨by rw [h]; exact hz, rfl⟩⟩
end
section
def RPutQ (l : List HeldD) (x : HeldD) (H0 H : AH) (v' : Value) (H' : AH) : Prop :=
 Low H.length H H' ∧ ∃ sv, v' = .tuple #[sv, .int .i64 (putE l x)] ∧ notTuple sv = true ∧ sv.cells = #[sv] ∧ ((putE l x = 0 ∧ ∀ G, Low H0.length H0 G → KeepN H.length H' G → HdV G sv (l ++ [x])) ∨ (putE l x ≠ 0 ∧ sv = .slice none 0 0))
theorem RPutQ.bad {l : List HeldD} {x : HeldD} {H0 H H' : AH} {z : Int} (hl : Low H.length H H') (h : putE l x = z) (hz : z ≠ 0) : RPutQ l x H0 H (.tuple #[.slice none 0 0, .int .i64 z]) H' :=
 ⟨hl, _, by rw [h], rfl, rfl, .inr ⟨by rw [h]; exact hz, rfl⟩⟩
end
section
attribute [local simp] wb_bool wb_undef with_lit XL_nil XL_cons XLc_val XLc_call step1_eq stepW_t stepW_f stepC_n stepC_s stepX_s stepX_n stepN_s calleeX xrecv oneV xop_eq xopR_s xopR_n wantedA_eq wantedG_n wantedG_s plain1_int plain1_bool plain1_string bits_i64 bits_u64 bits_u32 bits_u16 bits_u8 xeqA xagg xcmp xarr allK_iv num_iv calleeOf xread xeff xbin xint xnil xun xstr xload xconv xpart xfield xfieldAddr xindexAddr xindex bnd asInt? xslice xlen xmin xmax xbuild xfill xappend xapp2 xappstr xappmk xcap xcopy xcells eval_tmp eval_const put_at put_none fr0_at cells_agg cells_int cells_bool cells_string cells_ptr cells_slice notTuple tab iv_all hget_app hget_app0 hget_cons0 hget_cons set_app set_app0 setR setR_one QL_nil QL_cons QLc_val stepQ_t stepQ_f stepQC_n stepQC_s stepQX_s SL_nil SL_cons SLc_val stepS_t stepS_f ltT ltF leT leF eqT eqF ltTn ltFn leTn leFn eqTn eqFn beqT beqF bneT bneF wi64 wu64 wu32 wu16 wu8 tmodP tdivP hgetL hgetNe hgetEq setL nums_def nums_len Nat.succ_le_of_lt List.getElem?_cons_zero List.getElem?_cons_succ Option.getD_some Int.toNat_add Int.toNat_mul agM okM agB agI agS agP agL agA okB okI okS okP okSl okA
theorem want1_rc {γ : Nat → Option Nat} {H : AH} {a b : List Int} (ha : a.length = 32) (hb : b.length = 32) : AC Try.prog H.length γ 100 #[.agg (iv .u8 a).toArray, .agg (iv .u8 b).toArray] H (fun v' _ => v' = .int .i64 (cmpL a b)) := by
 have hla : (iv .u8 a).length = 32 := by rw [iv_length, ha]
 have hlb : (iv .u8 b).length = 32 := by rw [iv_length, hb]
 refine ac_of_aw Try.func100 rfl Try.ntmps100 Try.results100 (by simp) ?_
 refine aw_seq ?_
 (refine aw_ops (by kernel_rfl) (fun K hK => ?_); simp (disch := first | omega | (simp only [lnS]; try omega)) [-getElem?_pos, -getElem?_neg, hla, hlb]; refine hK _ _ ?_; clear hK K)
 obtain ⟨G, hG⟩ : ∃ G : AH, G = H ++ [some ⟨iv .u8 a, 38, none⟩, some ⟨iv .u8 b, 38, none⟩] := ⟨_, rfl⟩
 have g0 : hget G H.length = some ⟨iv .u8 a, 38, none⟩ := by rw [hG, hget_app0]; rfl
 have g1 : hget G (H.length + 1) = some ⟨iv .u8 b, 38, none⟩ := by rw [hG, hget_app]; rfl
 rw [← hG]
 clear hG
 refine aw_seq ?_
 (refine aw_plan [] [] [0, 1, 2, 3] 4 0 (by kernel_rfl) (by kernel_rfl) (by kernel_rfl) (fun K hK => ?_)); simp only [sel, List.getElem?_cons_succ, List.getElem?_cons_zero, List.drop_succ_cons, List.drop_zero]; simp (disch := first | omega | (simp only [lnS]; try omega)) [-getElem?_pos, -getElem?_neg, g0, g1, hla, hlb, PL_nil, plainB_lit, PL_cons, PLc_val, PLc_new, stepP_t, stepP_f, stepPC_n, stepPC_s, stepPX_s, stepPX_n, stepPV_n, stepPV_s, stepPA_t, stepPA_c, stepPA_l, stepPN_s, allocOp, reloc_sl, reloc_ptr, List.map_cons, List.map_nil, List.nil_append, List.append_assoc, List.cons_append, Nat.add_assoc]
 refine PLc_call (v := .int .i64 (cmpL a b)) (by kernel_rfl) (fun L hL => ?_) (by simp [pv_iv, pv_int, pv_bool, pv_string, pv_tup2, pv_tup3, iv_plain, p2_int, p2_bool, p2_string]) ?_
 ·exact (compare_ac (hget_left' g0) (hget_left' g1) ha hb).mono fun v' H' h => h.1
 simp (disch := first | omega | (simp only [lnS]; try omega)) [-getElem?_pos, -getElem?_neg, PL_nil, plainB_lit, PL_cons, PLc_val, PLc_new, stepP_t, stepP_f, stepPC_n, stepPC_s, stepPX_s, stepPX_n, stepPV_n, stepPV_s, stepPA_t, stepPA_c, stepPA_l, stepPN_s, allocOp, reloc_sl, reloc_ptr, List.map_cons, List.map_nil, List.nil_append, List.append_assoc, List.cons_append, Nat.add_assoc]
 refine hK _ _ ?_; clear hK K
 (refine aw_ret ?_; simp (disch := first | omega | (simp only [lnS]; try omega)) [-getElem?_pos, -getElem?_neg, thenQ_ret, scopeQ_ret, inBlockQ_ret, RQ, resL, resV])
theorem want1_callable : callable Try.prog 100 = true := by kernel_rfl
theorem insertionW_ac {nro : Nat} {γ : Nat → Option Nat} {H : AH} {b n : Nat} {ids : List (List Int)} (hb : hget H b = some ⟨kr ids, 38, some 32⟩) (hn : ids.length = n) (hk : K32 ids) (hy : ∀ k ∈ ids, By k) (hnd : ids.Nodup) (hle : n ≤ 100) (hnro : nro ≤ b) :
  AC Try.prog nro γ 160 #[.slice (some ⟨b, 0, none⟩) n n, .int .i64 0, .int .i64 (n : Nat), .func (.func 100) #[] #[]] H (SortQ b ids H) := by
 have hbl := hget_lt hb
 refine ac_of_aw Try.func160 rfl Try.ntmps160 Try.results160 (by simp) ?_
 refine aw_seq ?_
 (refine aw_ops (by kernel_rfl) (fun K hK => ?_); simp (disch := first | omega | (simp only [lnS]; try omega)) [-getElem?_pos, -getElem?_neg]; refine hK _ _ ?_; clear hK K)
 refine aw_block ?_
 refine aw_loop (fun c α G => ∃ (i : Nat) (S : List (List Int)), 1 ≤ i ∧ i + c = n + 1 ∧ α 0 = .slice (some ⟨b, 0, none⟩) n n ∧ α 1 = .int .i64 0 ∧ α 2 = .int .i64 (n : Nat) ∧ α 3 = .func (.func 100) #[] #[] ∧ α 8 = .int .i64 (i : Nat) ∧ hget G b = some ⟨kr (S ++ ids.drop i), 38, some 32⟩ ∧ Oth b H G ∧ S.Perm (ids.take i) ∧ Rise S) n ?_ ?_
 ·refine ⟨1, ids.take 1, by omega, by omega, by (first | (simp [put_at, put_none, fr0_at]; done) | rfl), by (first | (simp [put_at, put_none, fr0_at]; done) | rfl), by (first | (simp [put_at, put_none, fr0_at]; done) | rfl), by (first | (simp [put_at, put_none, fr0_at]; done) | rfl), by (first | (simp [put_at, put_none, fr0_at]; done) | rfl), by rw [List.take_append_drop]; exact hb, ⟨Nat.le_refl _, fun _ _ _ => rfl⟩, .refl _, ?_⟩
  cases ids with
  | nil => exact List.Pairwise.nil
  | cons k l => simp
 rintro c α G ⟨i, S, hi1, hic, h0, h1, h2, h3, h8, hbG, hoth, hperm, hrise⟩
 refine aw_seq ?_
 refine aw_seq ?_
 by_cases hi : i < n
 case neg =>
  (refine aw_ops (by kernel_rfl) (fun K hK => ?_); simp (disch := first | omega | (simp only [lnS]; try omega)) [-getElem?_pos, -getElem?_neg, h8, h2, hi]; refine hK _ _ ?_; clear hK K)
  refine aw_f (by (first | (simp [eval_tmp, put_at, hi]; done) | (simp [eval_tmp, put_at, hi]; omega))) (by kernel_rfl) ?_
  refine aw_exit ?_
  have e1 : ids.take i = ids := List.take_of_length_le (by omega)
  have e2 : ids.drop i = [] := List.drop_of_length_le (by omega)
  rw [e1] at hperm
  rw [e2, List.append_nil, sortK_eq hperm hrise] at hbG
  exact ⟨[], _, rfl, rfl, hbG, hoth⟩
 (refine aw_ops (by kernel_rfl) (fun K hK => ?_); simp (disch := first | omega | (simp only [lnS]; try omega)) [-getElem?_pos, -getElem?_neg, h8, h2, hi]; refine hK _ _ ?_; clear hK K)
 refine aw_t (by (first | (simp [eval_tmp, put_at, hi]; done) | (simp [eval_tmp, put_at, hi]; omega))) (by kernel_rfl) ?_
 refine aw_skip ?_
 refine aw_seq ?_
 refine aw_block ?_
 refine aw_seq ?_
 (refine aw_ops (by kernel_rfl) (fun K hK => ?_); simp (disch := first | omega | (simp only [lnS]; try omega)) [-getElem?_pos, -getElem?_neg, h8]; refine hK _ _ ?_; clear hK K)
 obtain ⟨x, hx⟩ : ∃ x, ids[i]? = some x := ⟨_, List.getElem?_eq_getElem (by omega)⟩
 have hxm := List.mem_of_getElem? hx
 have hx32 := hk x hxm
 have hxb := hy x hxm
 have hdi : ids.drop i = x :: ids.drop (i + 1) := by
  obtain ⟨hl, e⟩ := List.getElem?_eq_some_iff.1 hx
  rw [List.drop_eq_getElem_cons hl, e]
 have htk : ids.take (i + 1) = ids.take i ++ [x] := by rw [List.take_add_one, hx]; rfl
 have hSl : S.length = i := by rw [hperm.length_eq, List.length_take]; omega
 have hSm : ∀ s ∈ S, s ∈ ids := fun s hs => List.mem_of_mem_take (hperm.mem_iff.1 hs)
 have hxS : x ∉ S := fun h => by
  have h2 := hperm.mem_iff.1 h
  have hnd2 : (ids.take i ++ [x]).Nodup := by rw [← htk]; exact hnd.sublist (List.take_sublist _ _)
  exact (List.pairwise_append.1 hnd2).2.2 x h2 x (by simp) rfl
 refine aw_block ?_
 refine aw_loop (fun c2 α G => c2 ≤ i ∧ α 0 = .slice (some ⟨b, 0, none⟩) n n ∧ α 1 = .int .i64 0 ∧ α 2 = .int .i64 (n : Nat) ∧ α 3 = .func (.func 100) #[] #[] ∧ α 8 = .int .i64 (i : Nat) ∧ α 9 = .int .i64 (c2 : Nat) ∧ hget G b = some ⟨kr (S.take c2 ++ x :: S.drop c2 ++ ids.drop (i + 1)), 38, some 32⟩ ∧ Oth b H G ∧ ∀ s ∈ S.drop c2, x < s) i ?_ ?_
 ·refine ⟨Nat.le_refl _, by (first | (simp [put_at, put_none, fr0_at, h0]; done) | rfl), by (first | (simp [put_at, put_none, fr0_at, h1]; done) | rfl), by (first | (simp [put_at, put_none, fr0_at, h2]; done) | rfl), by (first | (simp [put_at, put_none, fr0_at, h3]; done) | rfl), by (first | (simp [put_at, put_none, fr0_at, h8]; done) | rfl), by (first | (simp [put_at, put_none, fr0_at]; done) | rfl), ?_, hoth, ?_⟩
  ·rw [hbG, hdi, List.take_of_length_le (l := S) (by omega), List.drop_of_length_le (l := S) (by omega)]
   simp
  ·rw [List.drop_of_length_le (l := S) (by omega)]
   simp
 rintro j α G ⟨hji, h0, h1, h2, h3, h8, h9, hbG, hoth, hgt⟩
 have hLm : ∀ k ∈ S.take j ++ x :: S.drop j ++ ids.drop (i + 1), k ∈ ids := fun k hm => by
  simp only [List.mem_append, List.mem_cons] at hm
  rcases hm with (hm | rfl | hm) | hm
  ·exact hSm k (List.mem_of_mem_take hm)
  ·exact hxm
  ·exact hSm k (List.mem_of_mem_drop hm)
  ·exact List.mem_of_mem_drop hm
 have hLk : K32 (S.take j ++ x :: S.drop j ++ ids.drop (i + 1)) := fun k hm => hk k (hLm k hm)
 have hLn : (S.take j ++ x :: S.drop j ++ ids.drop (i + 1)).length = n := by simp; omega
 have hLj : (S.take j ++ x :: S.drop j ++ ids.drop (i + 1))[j]? = some x := by
  rw [List.append_assoc, List.getElem?_append_right (by rw [List.length_take]; omega), List.length_take]
  rw [show j - min j S.length = 0 by omega]
  rfl
 have hend : ∀ s, j ≠ 0 → S[j - 1]? = some s → ¬ x < s → True := fun _ _ _ _ => trivial
 refine aw_seq ?_
 refine aw_seq ?_
 have hexit : (∀ s, j ≠ 0 → S[j - 1]? = some s → ¬ x < s) → (S.take j ++ x :: S.drop j).Perm (ids.take (i + 1)) ∧ Rise (S.take j ++ x :: S.drop j) := fun hle => by
  refine ⟨?_, rise_put hrise (by omega) hgt hle hxS⟩
  rw [htk]
  exact (put_perm x j).trans (hperm.append_right _)
 by_cases hj0 : j = 0
 ·subst hj0
  obtain ⟨hp2, hr2⟩ := hexit (fun s h => absurd rfl h)
  (refine aw_plan [] [] [0, 1, 2, 3, 4, 5, 6, 7, 8, 9, 10, 11, 12, 13, 14, 15, 16] 17 0 (by kernel_rfl) (by kernel_rfl) (by kernel_rfl) (fun K hK => ?_)); simp only [sel, List.getElem?_cons_succ, List.getElem?_cons_zero, List.drop_succ_cons, List.drop_zero]; simp (disch := first | omega | (simp only [lnS]; try omega)) [-getElem?_pos, -getElem?_neg, h9, h1, PL_nil, plainB_lit, PL_cons, PLc_val, PLc_new, stepP_t, stepP_f, stepPC_n, stepPC_s, stepPX_s, stepPX_n, stepPV_n, stepPV_s, stepPA_t, stepPA_c, stepPA_l, stepPN_s, allocOp, reloc_sl, reloc_ptr, List.map_cons, List.map_nil, List.nil_append, List.append_assoc, List.cons_append, Nat.add_assoc]
  refine hK _ _ ?_; clear hK K
  refine aw_f (by (first | (simp [eval_tmp, put_at]; done) | (simp [eval_tmp, put_at]; omega))) (by kernel_rfl) ?_
  refine aw_exit ?_
  (refine aw_ops (by kernel_rfl) (fun K hK => ?_); simp (disch := first | omega | (simp only [lnS]; try omega)) [-getElem?_pos, -getElem?_neg, h8]; refine hK _ _ ?_; clear hK K)
  exact ⟨c - 1, by omega, i + 1, _, by omega, by omega, by (first | (simp [put_at, put_none, fr0_at, h0]; done) | rfl), by (first | (simp [put_at, put_none, fr0_at, h1]; done) | rfl), by (first | (simp [put_at, put_none, fr0_at, h2]; done) | rfl), by (first | (simp [put_at, put_none, fr0_at, h3]; done) | rfl), by (first | (simp [put_at, put_none, fr0_at]; done) | rfl), hbG, hoth, hp2, hr2⟩
 obtain ⟨s, hs⟩ : ∃ s, S[j - 1]? = some s := ⟨_, List.getElem?_eq_getElem (by omega)⟩
 have hsm := hSm s (List.mem_of_getElem? hs)
 have hs32 := hk s hsm
 have hsb := hy s hsm
 have hsub : (j : Int) - 1 = ((j - 1 : Nat) : Int) := by omega
 have hLj1 : (S.take j ++ x :: S.drop j ++ ids.drop (i + 1))[j - 1]? = some s := by
  rw [List.append_assoc, List.getElem?_append_left (by rw [List.length_take]; omega), List.getElem?_take_of_lt (by omega), hs]
 have a0 := kr_addr (b := b) (show j < n by omega)
 have a1 := kr_addr (b := b) (show j - 1 < n by omega)
 have l0 := kr_load hLk hLj hbG
 have l1 := kr_load hLk hLj1 hbG
 have hcall := want1_rc (γ := γ) (H := G) hx32 hs32
 have hlt := cmpL_lt hxb hsb (by omega)
 have hjp : 0 < j := by omega
 have hfn : notTuple (.func (.func 100) #[] #[]) = true := rfl
 have hfc : (Value.func (.func 100) #[] #[]).cells = #[.func (.func 100) #[] #[]] := rfl
 have t1 := kr_set hLk (j := j) (k := s) (by omega) hs32
 have hLk2 : K32 ((S.take j ++ x :: S.drop j ++ ids.drop (i + 1)).set j s) := fun k hm => by
  rcases List.mem_or_eq_of_mem_set hm with h | rfl
  ·exact hLk k h
  ·exact hs32
 have t2 := kr_set hLk2 (j := j - 1) (k := x) (by rw [List.length_set]; omega) hx32
 have hLs : ((S.take j ++ x :: S.drop j ++ ids.drop (i + 1)).set j s).set (j - 1) x = S.take (j - 1) ++ x :: S.drop (j - 1) ++ ids.drop (i + 1) := by
  have e1 : S.take j = S.take (j - 1) ++ [s] := by
   have := List.take_add_one (l := S) (i := j - 1)
   rwa [show j - 1 + 1 = j by omega, hs] at this
  have e2 : S.drop (j - 1) = s :: S.drop j := by
   obtain ⟨hl, e⟩ := List.getElem?_eq_some_iff.1 hs
   rw [List.drop_eq_getElem_cons hl, e, show j - 1 + 1 = j by omega]
  have e3 : (S.take (j - 1)).length = j - 1 := by rw [List.length_take]; omega
  rw [e1, e2]
  obtain ⟨A, hA⟩ : ∃ A, A = S.take (j - 1) := ⟨_, rfl⟩
  rw [← hA] at e3 ⊢
  obtain ⟨m, rfl⟩ : ∃ m, j = m + 1 := ⟨j - 1, by omega⟩
  simp only [Nat.add_sub_cancel] at e3 ⊢
  rw [List.append_assoc, List.append_assoc, List.append_assoc, List.set_append_right _ _ (by omega), List.set_append_right _ _ (by omega), e3]
  simp
 rw [hLs] at t2
 have hgl : (kr (S.take j ++ x :: S.drop j ++ ids.drop (i + 1))).length = n * 32 := by rw [kr_len hLk, hLn]
 have hgl2 : (kr ((S.take j ++ x :: S.drop j ++ ids.drop (i + 1)).set j s)).length = n * 32 := by rw [kr_len hLk2, List.length_set, hLn]
 generalize hL : S.take j ++ x :: S.drop j ++ ids.drop (i + 1) = L at t1 t2 hgl hgl2 hbG
 have hdj : S.drop (j - 1) = s :: S.drop j := by
  obtain ⟨hl, e⟩ := List.getElem?_eq_some_iff.1 hs
  rw [List.drop_eq_getElem_cons hl, e, show j - 1 + 1 = j by omega]
 generalize hL3 : S.take (j - 1) ++ x :: S.drop (j - 1) ++ ids.drop (i + 1) = L3 at t2
 (refine aw_plan [] [] [0, 1, 2, 3, 4, 5, 6, 7, 8, 9, 10, 11, 12, 13, 14, 15, 16] 17 0 (by kernel_rfl) (by kernel_rfl) (by kernel_rfl) (fun K hK => ?_)); simp only [sel, List.getElem?_cons_succ, List.getElem?_cons_zero, List.drop_succ_cons, List.drop_zero]; simp (disch := first | omega | (simp only [lnS]; try omega)) [-getElem?_pos, -getElem?_neg, h0, h1, h3, h9, hjp, hsub, hfn, hfc, nt_ptrG, nt_intG, nt_slG, -xload, l0, l1, -xindexAddr, a0, a1, PL_nil, plainB_lit, PL_cons, PLc_val, PLc_new, stepP_t, stepP_f, stepPC_n, stepPC_s, stepPX_s, stepPX_n, stepPV_n, stepPV_s, stepPA_t, stepPA_c, stepPA_l, stepPN_s, allocOp, reloc_sl, reloc_ptr, List.map_cons, List.map_nil, List.nil_append, List.append_assoc, List.cons_append, Nat.add_assoc]
 refine PLc_callV (v := .int .i64 (cmpL x s)) want1_callable (by simpa using hcall) (by simp [pv_iv, pv_int, pv_bool, pv_string, pv_tup2, pv_tup3, iv_plain, p2_int, p2_bool, p2_string]) ?_
 have hbl2 := hget_lt hbG
 by_cases hc : cmpL x s < 0
 ·have hxs : x < s := hlt.1 hc
  have hc2 : ¬ 0 ≤ cmpL x s := by omega
  simp (disch := first | omega | (simp only [lnS]; try omega)) [-getElem?_pos, -getElem?_neg, hc, hc2, PL_nil, plainB_lit, PL_cons, PLc_val, PLc_new, stepP_t, stepP_f, stepPC_n, stepPC_s, stepPX_s, stepPX_n, stepPV_n, stepPV_s, stepPA_t, stepPA_c, stepPA_l, stepPN_s, allocOp, reloc_sl, reloc_ptr, List.map_cons, List.map_nil, List.nil_append, List.append_assoc, List.cons_append, Nat.add_assoc]
  refine hK _ _ ?_; clear hK K
  refine aw_t (by (first | (simp [eval_tmp, put_at, hc]; done) | (simp [eval_tmp, put_at, hc]; omega))) (by kernel_rfl) ?_
  refine aw_skip ?_
  refine aw_seq ?_
  refine aw_block ?_
  (refine aw_plan [] [2, 3, 4] [0, 1, 5, 6, 7, 8, 9, 10, 11, 12, 13, 14] 15 3 (by kernel_rfl) (by kernel_rfl) (by kernel_rfl) (fun K hK => ?_)); simp only [sel, List.getElem?_cons_succ, List.getElem?_cons_zero, List.drop_succ_cons, List.drop_zero]; simp (disch := first | omega | (simp only [lnS]; try omega)) [-getElem?_pos, -getElem?_neg, h0, h9, hsub, nt_ptrG, nt_intG, nt_slG, nt_aggG, -xload, l0, l1, -xindexAddr, a0, a1, hbG, hgl, hgl2, hx32, hs32, iv_length, t1, t2, PL_nil, plainB_lit, PL_cons, PLc_val, PLc_new, stepP_t, stepP_f, stepPC_n, stepPC_s, stepPX_s, stepPX_n, stepPV_n, stepPV_s, stepPA_t, stepPA_c, stepPA_l, stepPN_s, allocOp, reloc_sl, reloc_ptr, List.map_cons, List.map_nil, List.nil_append, List.append_assoc, List.cons_append, Nat.add_assoc]
  refine hK _ _ ?_; clear hK K
  have hG2 : hget (G.set b (some ⟨kr L3, 38, some 32⟩)) b = some ⟨kr L3, 38, some 32⟩ := hget_set_eq hbl2
  have hoth2 : Oth b H (G.set b (some ⟨kr L3, 38, some 32⟩)) := ⟨by rw [List.length_set]; exact hoth.1, fun j hj hjb => (hget_set_ne (fun e => hjb e.symm)).trans (hoth.2 j hj hjb)⟩
  generalize G.set b (some ⟨kr L3, 38, some 32⟩) = G2 at *
  subst hL3
  (refine aw_ops (by kernel_rfl) (fun K hK => ?_); simp (disch := first | omega | (simp only [lnS]; try omega)) [-getElem?_pos, -getElem?_neg, h9, hsub]; refine hK _ _ ?_; clear hK K)
  refine ⟨j - 1, by omega, by omega, by (first | (simp [put_at, put_none, fr0_at, h0]; done) | rfl), by (first | (simp [put_at, put_none, fr0_at, h1]; done) | rfl), by (first | (simp [put_at, put_none, fr0_at, h2]; done) | rfl), by (first | (simp [put_at, put_none, fr0_at, h3]; done) | rfl), by (first | (simp [put_at, put_none, fr0_at, h8]; done) | rfl), by (first | (simp [put_at, put_none, fr0_at]; done) | rfl), hG2, hoth2, fun s' hs' => ?_⟩
  rw [hdj] at hs'
  rcases List.mem_cons.1 hs' with rfl | hs'
  ·exact hxs
  ·exact hgt s' hs'
 ·have hc2 : 0 ≤ cmpL x s := by omega
  simp (disch := first | omega | (simp only [lnS]; try omega)) [-getElem?_pos, -getElem?_neg, hc, hc2, PL_nil, plainB_lit, PL_cons, PLc_val, PLc_new, stepP_t, stepP_f, stepPC_n, stepPC_s, stepPX_s, stepPX_n, stepPV_n, stepPV_s, stepPA_t, stepPA_c, stepPA_l, stepPN_s, allocOp, reloc_sl, reloc_ptr, List.map_cons, List.map_nil, List.nil_append, List.append_assoc, List.cons_append, Nat.add_assoc]
  refine hK _ _ ?_; clear hK K
  refine aw_f (by (first | (simp [eval_tmp, put_at, hc]; done) | (simp [eval_tmp, put_at, hc]; omega))) (by kernel_rfl) ?_
  refine aw_exit ?_
  (refine aw_ops (by kernel_rfl) (fun K hK => ?_); simp (disch := first | omega | (simp only [lnS]; try omega)) [-getElem?_pos, -getElem?_neg, h8]; refine hK _ _ ?_; clear hK K)
  obtain ⟨hp2, hr2⟩ := hexit (fun s' _ h => by rw [hs] at h; cases h; exact fun h => hc (hlt.2 h))
  exact ⟨c - 1, by omega, i + 1, _, by omega, by omega, by (first | (simp [put_at, put_none, fr0_at, h0]; done) | rfl), by (first | (simp [put_at, put_none, fr0_at, h1]; done) | rfl), by (first | (simp [put_at, put_none, fr0_at, h2]; done) | rfl), by (first | (simp [put_at, put_none, fr0_at, h3]; done) | rfl), by (first | (simp [put_at, put_none, fr0_at]; done) | rfl), by rw [hL]; exact hbG, hoth, hp2, hr2⟩
theorem sortW_go {nro : Nat} {γ : Nat → Option Nat} {H : AH} {v : Value} {n : Nat} {z : Int} {Q : Value → AH → Prop} (hv : notTuple v = true ∧ v.cells = #[v]) (hle : n ≤ 12)
  (hins : AC Try.prog nro γ 160 #[v, .int .i64 0, .int .i64 (n : Nat), .func (.func 100) #[] #[]] H (fun _ G => ∀ u, Q u G)) :
  AC Try.prog nro γ 156 #[v, .int .i64 0, .int .i64 (n : Nat), .int .i64 z, .func (.func 100) #[] #[]] H (fun _ G => ∀ u, Q u G) := by
 obtain ⟨v1, v2⟩ := hv
 have hfn : notTuple (.func (.func 100) #[] #[]) = true := rfl
 have hfc : (Value.func (.func 100) #[] #[]).cells = #[.func (.func 100) #[] #[]] := rfl
 refine ac_of_aw Try.func156 rfl Try.ntmps156 Try.results156 (by simp) ?_
 refine aw_seq ?_
 (refine aw_ops (by kernel_rfl) (fun K hK => ?_); simp (disch := first | omega | (simp only [lnS]; try omega)) [-getElem?_pos, -getElem?_neg]; refine hK _ _ ?_; clear hK K)
 refine aw_seq ?_
 (refine aw_ops (by kernel_rfl) (fun K hK => ?_); simp (disch := first | omega | (simp only [lnS]; try omega)) [-getElem?_pos, -getElem?_neg]; refine hK _ _ ?_; clear hK K)
 refine aw_block ?_
 refine aw_loop (fun c α G => G = H ∧ α 0 = v ∧ α 1 = .int .i64 0 ∧ α 2 = .int .i64 (n : Nat) ∧ α 4 = .func (.func 100) #[] #[]) 1 ?_ ?_
 ·exact ⟨rfl, by (first | (simp [put_at, put_none, fr0_at]; done) | rfl), by (first | (simp [put_at, put_none, fr0_at]; done) | rfl), by (first | (simp [put_at, put_none, fr0_at]; done) | rfl), by (first | (simp [put_at, put_none, fr0_at]; done) | rfl)⟩
 rintro c α G ⟨rfl, h0, h1, h2, h4⟩
 refine aw_block ?_
 refine aw_seq ?_
 (refine aw_ops (by kernel_rfl) (fun K hK => ?_); simp (disch := first | omega | (simp only [lnS]; try omega)) [-getElem?_pos, -getElem?_neg, h1, h2]; refine hK _ _ ?_; clear hK K)
 refine aw_seq ?_
 refine aw_seq ?_
 (refine aw_ops (by kernel_rfl) (fun K hK => ?_); simp (disch := first | omega | (simp only [lnS]; try omega)) [-getElem?_pos, -getElem?_neg, hle]; refine hK _ _ ?_; clear hK K)
 refine aw_t (by (first | (simp [eval_tmp, put_at, hle]; done) | (simp [eval_tmp, put_at, hle]; omega))) (by kernel_rfl) ?_
 refine aw_seq ?_
 refine aw_ops (by kernel_rfl) (fun K hK => ?_)
 simp (disch := first | omega | (simp only [lnS]; try omega)) [-getElem?_pos, -getElem?_neg, h0, h1, h2, h4, -notTuple, v1, v2, hfn, hfc, nt_intG]
 refine ⟨by kernel_rfl, hins.mono ?_⟩
 intro u G1 hq
 try simp (disch := first | omega | (simp only [lnS]; try omega)) [-getElem?_pos, -getElem?_neg]
 refine hK _ _ ?_; clear hK K
 (refine aw_ret ?_; simp (disch := first | omega | (simp only [lnS]; try omega)) [-getElem?_pos, -getElem?_neg, thenQ_ret, scopeQ_ret, inBlockQ_ret, RQ, resL, resV])
 exact hq
theorem sortFuncW_go {nro : Nat} {γ : Nat → Option Nat} {H : AH} {v : Value} {n : Nat} {Q : Value → AH → Prop} (hv : notTuple v = true ∧ v.cells = #[v]) (hxl : xlen Try.prog 36 v = some (.int .i64 n)) (hle : n ≤ 12)
  (hins : AC Try.prog nro γ 160 #[v, .int .i64 0, .int .i64 (n : Nat), .func (.func 100) #[] #[]] H (fun _ G => ∀ u, Q u G)) :
  AC Try.prog nro γ 141 #[v, .func (.func 100) #[] #[]] H (fun _ G => ∀ u, Q u G) := by
 have hgo := fun z => sortW_go (z := z) hv hle hins
 obtain ⟨v1, v2⟩ := hv
 have hfn : notTuple (.func (.func 100) #[] #[]) = true := rfl
 have hfc : (Value.func (.func 100) #[] #[]).cells = #[.func (.func 100) #[] #[]] := rfl
 have hlen := len_rc (nro := nro) (γ := γ) (H := H) hle
 refine ac_of_aw Try.func141 rfl Try.ntmps141 Try.results141 (by simp) ?_
 refine aw_seq ?_
 (refine aw_ops (by kernel_rfl) (fun K hK => ?_); simp (disch := first | omega | (simp only [lnS]; try omega)) [-getElem?_pos, -getElem?_neg, -notTuple, v1, v2, hfn, hfc, nt_intG, -xlen, hxl]; refine hK _ _ ?_; clear hK K)
 refine aw_ops (by kernel_rfl) (fun K hK => ?_)
 simp (disch := first | omega | (simp only [lnS]; try omega)) [-getElem?_pos, -getElem?_neg, -notTuple, v1, v2, hfn, hfc, nt_intG]
 refine ⟨by kernel_rfl, hlen.mono ?_⟩
 rintro u1 G1 ⟨rfl, z, rfl⟩
 try simp (disch := first | omega | (simp only [lnS]; try omega)) [-getElem?_pos, -getElem?_neg, -notTuple, v1, v2, hfn, hfc, nt_intG]
 refine ⟨by kernel_rfl, (hgo z).mono ?_⟩
 intro u G1 hq
 try simp (disch := first | omega | (simp only [lnS]; try omega)) [-getElem?_pos, -getElem?_neg]
 refine hK _ _ ?_; clear hK K
 exact ⟨[], _, rfl, rfl, hq⟩
theorem insertionW_nil {nro : Nat} {γ : Nat → Option Nat} {H : AH} : AC Try.prog nro γ 160 #[.slice none 0 0, .int .i64 0, .int .i64 ((0 : Nat) : Int), .func (.func 100) #[] #[]] H (fun _ G => G = H) := by
 refine ac_of_aw Try.func160 rfl Try.ntmps160 Try.results160 (by simp) ?_
 refine aw_seq ?_
 (refine aw_ops (by kernel_rfl) (fun K hK => ?_); simp (disch := first | omega | (simp only [lnS]; try omega)) [-getElem?_pos, -getElem?_neg]; refine hK _ _ ?_; clear hK K)
 refine aw_block ?_
 refine aw_loop (fun c α G => G = H ∧ α 8 = .int .i64 1 ∧ α 2 = .int .i64 0) 1 ?_ ?_
 ·exact ⟨rfl, by (first | (simp [put_at, put_none, fr0_at]; done) | rfl), by (first | (simp [put_at, put_none, fr0_at]; done) | rfl)⟩
 rintro c α G ⟨rfl, h8, h2⟩
 refine aw_seq ?_
 refine aw_seq ?_
 (refine aw_ops (by kernel_rfl) (fun K hK => ?_); simp (disch := first | omega | (simp only [lnS]; try omega)) [-getElem?_pos, -getElem?_neg, h8, h2]; refine hK _ _ ?_; clear hK K)
 refine aw_f (by (first | (simp [eval_tmp, put_at]; done) | (simp [eval_tmp, put_at]; omega))) (by kernel_rfl) ?_
 refine aw_exit ?_
 exact ⟨[], _, rfl, rfl, rfl⟩
theorem sortFuncW_ac {nro : Nat} {γ : Nat → Option Nat} {H : AH} {v : Value} {F : List Nat} {ids : List (List Int)} (ho : OwnF H v 38 32 (kr ids) F) (hF : ∀ j ∈ F, nro ≤ j) (hk : K32 ids) (hy : ∀ k ∈ ids, By k) (hnd : ids.Nodup) (hle : ids.length ≤ 12) :
  AC Try.prog nro γ 141 #[v, .func (.func 100) #[] #[]] H (fun _ G => OwnF G v 38 32 (kr (sortK ids)) F ∧ H.length ≤ G.length ∧ ∀ j, j < H.length → j ∉ F → hget G j = hget H j) := by
 have hxl := ho.len (P := Try.prog) (t := 36) (by simp) (kr_len hk) (by omega)
 have hnt := own_nt ho
 refine (sortFuncW_go (nro := nro) (γ := γ) (Q := fun _ G => OwnF G v 38 32 (kr (sortK ids)) F ∧ H.length ≤ G.length ∧ ∀ j, j < H.length → j ∉ F → hget G j = hget H j) hnt hxl hle ?_).mono (fun u G h => h u)
 rcases ho with ⟨rfl, hc, rfl⟩ | ⟨j, len, rfl, h2, h3, rfl⟩
 ·have hl : ids = [] := by
   have := kr_len hk
   rw [hc, List.length_nil] at this
   exact List.eq_nil_of_length_eq_zero (by omega)
  subst hl
  refine (insertionW_nil (nro := nro) (γ := γ) (H := H)).mono ?_
  rintro _ G rfl _
  refine ⟨.inl ⟨rfl, ?_, rfl⟩, Nat.le_refl _, fun _ _ _ => rfl⟩
  rw [(sortK_perm []).eq_nil]; rfl
 ·rw [kr_len hk] at h3
  obtain rfl : ids.length = len := by omega
  refine (insertionW_ac (nro := nro) (γ := γ) h2 rfl hk hy hnd (by omega) (hF j (by simp))).mono ?_
  rintro _ G ⟨q1, q2, q3⟩ _
  have hks : K32 (sortK ids) := fun k hm => hk k ((sortK_perm ids).mem_iff.1 hm)
  exact ⟨.inr ⟨j, _, rfl, q1, by rw [kr_len hks, (sortK_perm ids).length_eq], rfl⟩, q2, fun i hi hn => q3 i hi (fun e => hn (by simp [e]))⟩
end
section
theorem K32.sortK {l : List (List Int)} (h : K32 l) : K32 (sortK l) := fun k hk => h k ((sortK_perm l).mem_iff.1 hk)
attribute [local simp] wb_bool wb_undef with_lit XL_nil XL_cons XLc_val XLc_call step1_eq stepW_t stepW_f stepC_n stepC_s stepX_s stepX_n stepN_s calleeX xrecv oneV xop_eq xopR_s xopR_n wantedA_eq wantedG_n wantedG_s plain1_int plain1_bool plain1_string bits_i64 bits_u64 bits_u32 bits_u16 bits_u8 xeqA xagg xcmp xarr allK_iv num_iv calleeOf xread xeff xbin xint xnil xun xstr xload xconv xpart xfield xfieldAddr xindexAddr xindex bnd asInt? xslice xlen xmin xmax xbuild xfill xappend xapp2 xappstr xappmk xcap xcopy xcells eval_tmp eval_const put_at put_none fr0_at cells_agg cells_int cells_bool cells_string cells_ptr cells_slice notTuple tab iv_all hget_app hget_app0 hget_cons0 hget_cons set_app set_app0 setR setR_one QL_nil QL_cons QLc_val stepQ_t stepQ_f stepQC_n stepQC_s stepQX_s SL_nil SL_cons SLc_val stepS_t stepS_f ltT ltF leT leF eqT eqF ltTn ltFn leTn leFn eqTn eqFn beqT beqF bneT bneF wi64 wu64 wu32 wu16 wu8 tmodP tdivP hgetL hgetNe hgetEq setL nums_def nums_len Nat.succ_le_of_lt List.getElem?_cons_zero List.getElem?_cons_succ Option.getD_some Int.toNat_add Int.toNat_mul agM okM agB agI agS agP agL agA okB okI okS okP okSl okA
theorem ordered_ac {nro : Nat} {γ : Nat → Option Nat} {H : AH} {v : Value} {ids : List (List Int)} (hV : KsV H v ids) (hk : K32 ids) (hy : ∀ k ∈ ids, By k) (hnd : ids.Nodup) (hle : ids.length ≤ 12) (hnro : nro ≤ H.length) :
  AC Try.prog nro γ 99 #[v, .func (.func 100) #[] #[]] H (fun v' H' => Low H.length H H' ∧ ∃ F, OwnF H' v' 38 32 (kr (sortK ids)) F ∧ ∀ j ∈ F, H.length ≤ j) := by
 have n1 := val_nt hV
 have hfn : notTuple (.func (.func 100) #[] #[]) = true := rfl
 have hfc : (Value.func (.func 100) #[] #[]).cells = #[.func (.func 100) #[] #[]] := rfl
 refine ac_of_aw Try.func99 rfl Try.ntmps99 Try.results99 (by simp) ?_
 refine aw_seq ?_
 (refine aw_ops (by kernel_rfl) (fun K hK => ?_); simp (disch := first | omega | (simp only [lnS]; try omega)) [-getElem?_pos, -getElem?_neg]; refine hK _ _ ?_; clear hK K)
 refine aw_seq ?_
 refine aw_ops (by kernel_rfl) (fun K hK => ?_)
 simp (disch := first | omega | (simp only [lnS]; try omega)) [-getElem?_pos, -getElem?_neg, -notTuple, n1.1, n1.2]
 refine ⟨by kernel_rfl, (cloneK_ac (nro := nro) (γ := γ) hV hk hnro (by omega)).mono ?_⟩
 rintro w G ⟨_, hGl, lw, F, ho, hF⟩
 rw [ksC_kr] at ho
 obtain ⟨w1, w2⟩ := own_nt ho
 try simp (disch := first | omega | (simp only [lnS]; try omega)) [-getElem?_pos, -getElem?_neg, -notTuple, w1, w2]
 refine hK _ _ ?_; clear hK K
 have hso := sortFuncW_ac (nro := nro) (γ := γ) ho (fun j hj => by have := hF j hj; omega) hk hy hnd hle
 refine aw_seq ?_
 refine aw_ops (by kernel_rfl) (fun K hK => ?_)
 simp (disch := first | omega | (simp only [lnS]; try omega)) [-getElem?_pos, -getElem?_neg, -notTuple, w1, w2, hfn, hfc]
 refine ⟨by kernel_rfl, hso.mono ?_⟩
 rintro u G2 ⟨ho2, hl2, hk2⟩
 try simp (disch := first | omega | (simp only [lnS]; try omega)) [-getElem?_pos, -getElem?_neg]
 refine hK _ _ ?_; clear hK K
 refine aw_seq ?_
 (refine aw_ops (by kernel_rfl) (fun K hK => ?_); simp (disch := first | omega | (simp only [lnS]; try omega)) [-getElem?_pos, -getElem?_neg, -notTuple, w1, w2]; refine hK _ _ ?_; clear hK K)
 (refine aw_ret ?_; simp (disch := first | omega | (simp only [lnS]; try omega)) [-getElem?_pos, -getElem?_neg, thenQ_ret, scopeQ_ret, inBlockQ_ret, RQ, resL, resV])
 have hle := lw.2
 exact ⟨⟨fun j hj => (hk2 j (by omega) (fun h => by have := hF j h; omega)).trans (lw.1 j hj), by omega⟩, F, ho2, hF⟩
theorem once_ac {nro : Nat} {γ : Nat → Option Nat} {H : AH} {v : Value} {ids : List (List Int)} (hV : KsV H v ids) (hk : K32 ids) (hnd : ids.Nodup) (hle : ids.length ≤ 100) (hnro : nro ≤ H.length) :
  AC Try.prog nro γ 98 #[v] H (fun v' H' => Low H.length H H' ∧ ∃ F, OwnF H' v' 38 32 (kr ids) F ∧ ∀ j ∈ F, H.length ≤ j) := by
 have hacc := hV.acc hk
 have n1 := hacc.nt
 have n2 := hacc.cs
 have hxl := hacc.len
 have hp0 : plain1 (.slice none 0 0) = true := rfl
 refine ac_of_aw Try.func98 rfl Try.ntmps98 Try.results98 (by simp) ?_
 refine aw_seq ?_
 (refine aw_ops (by kernel_rfl) (fun K hK => ?_); simp (disch := first | omega | (simp only [lnS]; try omega)) [-getElem?_pos, -getElem?_neg]; refine hK _ _ ?_; clear hK K)
 refine aw_seq ?_
 (refine aw_ops (by kernel_rfl) (fun K hK => ?_); simp (disch := first | omega | (simp only [lnS]; try omega)) [-getElem?_pos, -getElem?_neg]; refine hK _ _ ?_; clear hK K)
 refine aw_seq ?_
 refine aw_seq ?_
 (refine aw_ops (by kernel_rfl) (fun K hK => ?_); simp (disch := first | omega | (simp only [lnS]; try omega)) [-getElem?_pos, -getElem?_neg, -notTuple, n1, n2, nt_intG, -xlen, hxl]; refine hK _ _ ?_; clear hK K)
 refine aw_block ?_
 refine aw_loop (fun c α G => ∃ (i : Nat) (x : Value) (F : List Nat), i + c = ids.length ∧ Low H.length H G ∧ α 0 = v ∧ α 3 = x ∧ α 6 = v ∧ α 7 = .int .i64 (ids.length : Nat) ∧ α 8 = .int .i64 (i : Nat) ∧ OwnF G x 38 32 (kr (ids.take i)) F ∧ ∀ j ∈ F, H.length ≤ j) ids.length ?_ ?_
 ·exact ⟨0, .slice none 0 0, [], by omega, Low.refl (Nat.le_refl _), by (first | (simp [put_at, put_none, fr0_at]; done) | rfl), by (first | (simp [put_at, put_none, fr0_at]; done) | rfl), by (first | (simp [put_at, put_none, fr0_at]; done) | rfl), by (first | (simp [put_at, put_none, fr0_at]; done) | rfl), by (first | (simp [put_at, put_none, fr0_at]; done) | rfl), .inl ⟨rfl, by simp [kr], rfl⟩, fun j hj => by cases hj⟩
 rintro c α G ⟨i, x, F, hic, lw, q0, q3, q6, q7, q8, hF, hFl⟩
 obtain ⟨x1, x2⟩ := own_nt hF
 have hle1 := lw.2
 refine aw_seq ?_
 by_cases hi : i < ids.length
 case neg =>
  obtain rfl : i = ids.length := by omega
  rw [List.take_length] at hF
  (refine aw_ops (by kernel_rfl) (fun K hK => ?_); simp (disch := first | omega | (simp only [lnS]; try omega)) [-getElem?_pos, -getElem?_neg, q7, q8]; refine hK _ _ ?_; clear hK K)
  refine aw_seq ?_
  refine aw_f (by (first | (simp [eval_tmp, put_at]; done) | (simp [eval_tmp, put_at]; omega))) (by kernel_rfl) ?_
  refine aw_exit ?_
  refine aw_seq ?_
  (refine aw_ops (by kernel_rfl) (fun K hK => ?_); simp (disch := first | omega | (simp only [lnS]; try omega)) [-getElem?_pos, -getElem?_neg, q3, -notTuple, x1, x2]; refine hK _ _ ?_; clear hK K)
  (refine aw_ret ?_; simp (disch := first | omega | (simp only [lnS]; try omega)) [-getElem?_pos, -getElem?_neg, thenQ_ret, scopeQ_ret, inBlockQ_ret, RQ, resL, resV])
  exact ⟨lw, F, hF, hFl⟩
 obtain ⟨p, y, r1, r2, r3, r4, r5⟩ := hacc.at_ i hi
 have r5 := r5 G lw
 subst r4
 obtain ⟨z, hz⟩ : ∃ z, z = ids.getD i [] := ⟨_, rfl⟩
 have hzi : ids[i]? = some z := by rw [hz, List.getD_eq_getElem?_getD, List.getElem?_eq_getElem hi]; rfl
 have hz32 : z.length = 32 := hk z (List.mem_of_getElem? hzi)
 have hzl : (iv .u8 z).length = 32 := by rw [iv_length, hz32]
 have htz : (iv .u8 z).take 32 = iv .u8 z := List.take_of_length_le (by omega)
 rw [← hz] at r5
 have hset : ∀ Z : List Value, Z.length = 32 → setR Z 0 (iv .u8 z) = iv .u8 z := fun Z hZ => setR_all _ _ (by omega)
 (refine aw_ops (by kernel_rfl) (fun K hK => ?_); simp (disch := first | omega | (simp only [lnS]; try omega)) [-getElem?_pos, -getElem?_neg, q7, q8, hi]; refine hK _ _ ?_; clear hK K)
 refine aw_seq ?_
 refine aw_t (by (first | (simp [eval_tmp, put_at, hi]; done) | (simp [eval_tmp, put_at, hi]; omega))) (by kernel_rfl) ?_
 refine aw_skip ?_
 refine aw_seq ?_
 refine aw_block ?_
 refine aw_seq ?_
 (refine aw_ops (by kernel_rfl) (fun K hK => ?_); simp (disch := first | omega | (simp only [lnS]; try omega)) [-getElem?_pos, -getElem?_neg, q6, q8, -notTuple, n1, n2, nt_intG, nt_aggG, r1, -xindexAddr, r2, -xload, r5, hzl, all_zl, hset, hle1]; refine hK _ _ ?_; clear hK K)
 obtain ⟨lw2, b5⟩ := boxed (H := G) (iv .u8 z) 38
 obtain ⟨g, hg⟩ : ∃ g, g = G.length := ⟨_, rfl⟩
 have lw3 := lw.both lw2
 have hF2 := hF.low (H' := G ++ ([some ⟨iv .u8 z, 38, none⟩] : AH)) (fun j hj => hget_left (hF.lt j hj))
 rw [← hg] at b5 ⊢
 generalize G ++ [some ⟨iv .u8 z, 38, none⟩] = G2 at *
 have xl5 : xload Try.prog 38 (.pointer (some ⟨g, 0, none⟩)) G2 = some (.agg (iv .u8 z).toArray) := by simp [xload, b5, hzl, htz]
 refine aw_seq ?_
 refine aw_cut (fun α G3 => α 23 = .bool true ∧ α 0 = v ∧ α 3 = x ∧ α 5 = .pointer (some ⟨g, 0, none⟩) ∧ α 6 = v ∧ α 7 = .int .i64 (ids.length : Nat) ∧ α 8 = .int .i64 (i : Nat) ∧ G3 = G2) ?_ ?_
 ·by_cases h0 : i = 0
  ·subst h0
   (refine aw_plan [] [] [0, 1, 2, 3, 4, 5, 6, 7, 8, 9, 10] 11 0 (by kernel_rfl) (by kernel_rfl) (by kernel_rfl) (fun K hK => ?_)); simp only [sel, List.getElem?_cons_succ, List.getElem?_cons_zero, List.drop_succ_cons, List.drop_zero]; simp (disch := first | omega | (simp only [lnS]; try omega)) [-getElem?_pos, -getElem?_neg, nt_intG, PL_nil, plainB_lit, PL_cons, PLc_val, PLc_new, stepP_t, stepP_f, stepPC_n, stepPC_s, stepPX_s, stepPX_n, stepPV_n, stepPV_s, stepPA_t, stepPA_c, stepPA_l, stepPN_s, allocOp, reloc_sl, reloc_ptr, List.map_cons, List.map_nil, List.nil_append, List.append_assoc, List.cons_append, Nat.add_assoc]
   refine hK _ _ ?_; clear hK K
   exact ⟨by (first | (simp [put_at, put_none, fr0_at]; done) | rfl), by (first | (simp [put_at, put_none, fr0_at, q0]; done) | rfl), by (first | (simp [put_at, put_none, fr0_at, q3]; done) | rfl), by (first | (simp [put_at, put_none, fr0_at]; done) | rfl), by (first | (simp [put_at, put_none, fr0_at, q6]; done) | rfl), by (first | (simp [put_at, put_none, fr0_at, q7]; done) | rfl), by (first | (simp [put_at, put_none, fr0_at, q8]; done) | rfl), rfl⟩
  have h0b : ((i : Int) == 0) = false := by rw [beq_eq_false_iff_ne]; omega
  have h0i : ¬ (i : Int) = 0 := by omega
  have hi1 : i - 1 < ids.length := by omega
  obtain ⟨p', y', s1, s2, s3, s4, s5⟩ := hacc.at_ (i - 1) hi1
  have s5 := s5 G2 lw3
  subst s4
  obtain ⟨z', hz'⟩ : ∃ z', z' = ids.getD (i - 1) [] := ⟨_, rfl⟩
  have hzi' : ids[i - 1]? = some z' := by rw [hz', List.getD_eq_getElem?_getD, List.getElem?_eq_getElem hi1]; rfl
  rw [← hz'] at s5
  have hne : z ≠ z' := fun e => by
   have := (List.getElem?_inj hi hnd (j := i - 1)).1 (by rw [hzi, hzi', e])
   omega
  have hneb : (z == z') = false := by simpa using hne
  have hsub : (i : Int) - 1 = ((i - 1 : Nat) : Int) := by omega
  have hzl' : (iv .u8 z').length = 32 := by rw [iv_length]; exact hk z' (List.mem_of_getElem? hzi')
  (refine aw_plan [] [] [0, 1, 2, 3, 4, 5, 6, 7, 8, 9, 10] 11 0 (by kernel_rfl) (by kernel_rfl) (by kernel_rfl) (fun K hK => ?_)); simp only [sel, List.getElem?_cons_succ, List.getElem?_cons_zero, List.drop_succ_cons, List.drop_zero]; simp (disch := first | omega | (simp only [lnS]; try omega)) [-getElem?_pos, -getElem?_neg, q0, h0b, h0i, hsub, -notTuple, n1, n2, nt_intG, nt_ptrG, nt_aggG, s1, -xindexAddr, s2, -xload, xl5, s5, hneb, hzl, hzl', PL_nil, plainB_lit, PL_cons, PLc_val, PLc_new, stepP_t, stepP_f, stepPC_n, stepPC_s, stepPX_s, stepPX_n, stepPV_n, stepPV_s, stepPA_t, stepPA_c, stepPA_l, stepPN_s, allocOp, reloc_sl, reloc_ptr, List.map_cons, List.map_nil, List.nil_append, List.append_assoc, List.cons_append, Nat.add_assoc]
  refine hK _ _ ?_; clear hK K
  exact ⟨by (first | (simp [put_at, put_none, fr0_at]; done) | rfl), by (first | (simp [put_at, put_none, fr0_at, q0]; done) | rfl), by (first | (simp [put_at, put_none, fr0_at, q3]; done) | rfl), by (first | (simp [put_at, put_none, fr0_at]; done) | rfl), by (first | (simp [put_at, put_none, fr0_at, q6]; done) | rfl), by (first | (simp [put_at, put_none, fr0_at, q7]; done) | rfl), by (first | (simp [put_at, put_none, fr0_at, q8]; done) | rfl), rfl⟩
 clear q0 q3 q6 q7 q8
 rintro α G3 ⟨q23, q0, q3, q5, q6, q7, q8, rfl⟩
 refine aw_t (by (first | (simp [eval_tmp, put_at, q23]; done) | (simp [eval_tmp, put_at, q23]; omega))) (by kernel_rfl) ?_
 have hle3 := lw3.2
 have hkt : K32 (ids.take i) := fun k hk' => hk k (List.mem_of_mem_take hk')
 have hkl := kr_len hkt
 have htl : (ids.take i).length = i := by rw [List.length_take]; omega
 rw [htl] at hkl
 have hxc : xcells 32 (.slice (some ⟨G3.length, 0, none⟩) 1 1) (G3 ++ [some ⟨iv .u8 z, 38, some 32⟩]) = some (iv .u8 z) := by simp [xcells, hget_app0, hzl, htz]
 obtain ⟨v', G6, hap, ho3, hl3, hk3⟩ := ownF_append (P := Try.prog) (nro := nro) (t := 36) (e := 38) (H := G3 ++ [some ⟨iv .u8 z, 38, some 32⟩]) (v := x) (x := .slice (some ⟨G3.length, 0, none⟩) 1 1) (sz := 32) (cells := kr (ids.take i)) (news := iv .u8 z) (F := F) (by simp) (by simp) (by omega) (by simp) (hF2.low (fun j hj => hget_left (hF2.lt j hj)))
  (fun j hj => by have := hFl j hj; omega) (fun s e => by cases e) hxc (fun e => by rw [e] at hzl; simp at hzl) (by rw [hzl]) (by rw [hkl, hzl]; simp; omega) (by rw [hkl, hzl]; simp only [maxLen]; omega)
 have fk := fill_keyG (k := .u8) (x := z) (n := 32) (zl 32) hzl
 have hno : nro ≤ G3.length := by omega
 (refine aw_ops (by kernel_rfl) (fun K hK => ?_); simp (disch := first | omega | (simp only [lnS]; try omega)) [-getElem?_pos, -getElem?_neg, q3, q5, -xload, xl5, -notTuple, x1, x2, nt_intG, nt_slG, nt_aggG, all_zl, hzl, -xfill, fk, hno, -xappend, hap]; refine hK _ _ ?_; clear hK K)
 (refine aw_ops (by kernel_rfl) (fun K hK => ?_); simp (disch := first | omega | (simp only [lnS]; try omega)) [-getElem?_pos, -getElem?_neg, q8]; refine hK _ _ ?_; clear hK K)
 have hsu : ids.take (i + 1) = ids.take i ++ [z] := by rw [List.take_add_one, hzi]; rfl
 refine ⟨c - 1, by omega, i + 1, v', _, by omega, ⟨fun j hj => (hk3 j (by simp; omega) (fun h => by have := hFl _ h; omega)).trans ((hget_left (by omega)).trans (lw3.1 j hj)), by rw [hl3]; simp; omega⟩, by (first | (simp [put_at, put_none, fr0_at, q0]; done) | rfl), by (first | (simp [put_at, put_none, fr0_at]; done) | rfl), by (first | (simp [put_at, put_none, fr0_at, q6]; done) | rfl), by (first | (simp [put_at, put_none, fr0_at, q7]; done) | rfl), by (first | (simp [put_at, put_none, fr0_at]; done) | rfl), by rw [hsu, kr_app, kr_one]; exact ho3, fun j hj => ?_⟩
 rw [List.mem_singleton] at hj
 rw [hj]
 simp
 omega
end
section
def wantK (l : List NodeD) (q : List HeldD) (k : List Int) : Bool := decide (findI l l.length k < 0) && decide (findIH q q.length k < 0)
def wantsL (l : List NodeD) (q : List HeldD) : Nat → List (List Int)
 | 0 => []
 | i + 1 => wantsL l q i ++ (hn q i).op.parents.filter (wantK l q)
theorem rightQ_op {q : List HeldD} (h : rightQ q = true) {i : Nat} (hi : i < q.length) : rightO (hn q i).op = true := by
 unfold rightQ at h
 rw [Bool.and_eq_true, List.all_eq_true] at h
 have h1 := h.2 i (List.mem_range.2 hi)
 unfold oneQ at h1
 rw [Bool.and_eq_true] at h1
 exact h1.2
theorem wants_len {l : List NodeD} {q : List HeldD} (h : rightQ q = true) : ∀ i, i ≤ q.length → (wantsL l q i).length ≤ 8 * i
 | 0, _ => Nat.le_refl _
 | i + 1, hi => by
  have h1 := wants_len (l := l) h i (by omega)
  have h2 := (rightO_sm (rightQ_op h (show i < q.length by omega))).1
  have h3 := List.length_filter_le (wantK l q) (hn q i).op.parents
  unfold wantsL
  rw [List.length_append]
  omega
theorem wants_k {l : List NodeD} {q : List HeldD} (hw : ∀ x ∈ q, x.Wf) : ∀ i, i ≤ q.length → ∀ k ∈ wantsL l q i, Key32 k
 | 0, _ => fun k hk => by cases hk
 | i + 1, hi => fun k hk => by
  unfold wantsL at hk
  rcases List.mem_append.1 hk with hk | hk
  ·exact wants_k hw i (by omega) k hk
  ·exact (hw _ (List.mem_of_getElem? (hn_get (show i < q.length by omega)))).op.parents k (List.mem_filter.1 hk).1
attribute [local simp] wb_bool wb_undef with_lit XL_nil XL_cons XLc_val XLc_call step1_eq stepW_t stepW_f stepC_n stepC_s stepX_s stepX_n stepN_s calleeX xrecv oneV xop_eq xopR_s xopR_n wantedA_eq wantedG_n wantedG_s plain1_int plain1_bool plain1_string bits_i64 bits_u64 bits_u32 bits_u16 bits_u8 xeqA xagg xcmp xarr allK_iv num_iv calleeOf xread xeff xbin xint xnil xun xstr xload xconv xpart xfield xfieldAddr xindexAddr xindex bnd asInt? xslice xlen xmin xmax xbuild xfill xappend xapp2 xappstr xappmk xcap xcopy xcells eval_tmp eval_const put_at put_none fr0_at cells_agg cells_int cells_bool cells_string cells_ptr cells_slice notTuple tab iv_all hget_app hget_app0 hget_cons0 hget_cons set_app set_app0 setR setR_one QL_nil QL_cons QLc_val stepQ_t stepQ_f stepQC_n stepQC_s stepQX_s SL_nil SL_cons SLc_val stepS_t stepS_f ltT ltF leT leF eqT eqF ltTn ltFn leTn leFn eqTn eqFn beqT beqF bneT bneF wi64 wu64 wu32 wu16 wu8 tmodP tdivP hgetL hgetNe hgetEq setL nums_def nums_len Nat.succ_le_of_lt List.getElem?_cons_zero List.getElem?_cons_succ Option.getD_some Int.toNat_add Int.toNat_mul agM okM agB agI agS agP agL agA okB okI okS okP okSl okA
theorem wanted_ac {nro : Nat} {γ : Nat → Option Nat} {H : AH} {nv qv : Value} {l : List NodeD} {q : List HeldD} (hN : NdA H nv l) (hl : l.length ≤ maxLen) (hQ : HdA H qv q) (hq : q.length ≤ maxLen) (hnd : (wantsL l q q.length).Nodup) (h12 : (wantsL l q q.length).length ≤ 12) (hnro : nro ≤ H.length) :
  AC Try.prog nro γ 48 #[nv, qv] H (fun v' H' => Low H.length H H' ∧ ∃ F, OwnF H' v' 38 32 (kr (if rightG l && rightQ q then sortK (wantsL l q q.length) else [])) F ∧ ∀ j ∈ F, H.length ≤ j) := by
 have n1 := hN.nt
 have n2 := hN.cs
 have q1 := hQ.nt
 have q2 := hQ.cs
 have hxl := hQ.len
 have hp0 : plain1 (.slice none 0 0) = true := rfl
 have gr := graph_right_rc (γ := γ) hN
 have qr := qRight_rc (γ := γ) hQ hq
 refine ac_of_aw Try.func48 rfl Try.ntmps48 Try.results48 (by simp) ?_
 refine aw_seq ?_
 (refine aw_ops (by kernel_rfl) (fun K hK => ?_); simp (disch := first | omega | (simp only [lnS]; try omega)) [-getElem?_pos, -getElem?_neg]; refine hK _ _ ?_; clear hK K)
 refine aw_seq ?_
 refine aw_seq ?_
 refine aw_cut (fun α G3 => α 17 = .bool (!(rightG l && rightQ q)) ∧ α 0 = nv ∧ α 1 = qv ∧ H = G3) ?_ ?_
 ·refine aw_ops (by kernel_rfl) (fun K hK => ?_)
  simp (disch := first | omega | (simp only [lnS]; try omega)) [-getElem?_pos, -getElem?_neg, -notTuple, n1, n2, nt_intG]
  refine ⟨by kernel_rfl, ac_of_rc gr (by simp [pv_iv, pv_int, pv_bool, pv_string, pv_tup2, pv_tup3, iv_plain, p2_int, p2_bool, p2_string]) ?_⟩
  cases h3 : rightG l with
  | false =>
   try simp (disch := first | omega | (simp only [lnS]; try omega)) [-getElem?_pos, -getElem?_neg]
   refine hK _ _ ?_; clear hK K
   exact ⟨by rw [h3]; (first | (simp [put_at, put_none, fr0_at]; done) | rfl), by (first | (simp [put_at, put_none, fr0_at]; done) | rfl), by (first | (simp [put_at, put_none, fr0_at]; done) | rfl), rfl⟩
  | true =>
   simp (disch := first | omega | (simp only [lnS]; try omega)) [-getElem?_pos, -getElem?_neg, -notTuple, q1, q2, nt_intG]
   refine ⟨by kernel_rfl, ac_of_rc qr (by simp [pv_iv, pv_int, pv_bool, pv_string, pv_tup2, pv_tup3, iv_plain, p2_int, p2_bool, p2_string]) ?_⟩
   try simp (disch := first | omega | (simp only [lnS]; try omega)) [-getElem?_pos, -getElem?_neg]
   refine hK _ _ ?_; clear hK K
   exact ⟨by rw [h3]; (first | (simp [put_at, put_none, fr0_at]; done) | rfl), by (first | (simp [put_at, put_none, fr0_at]; done) | rfl), by (first | (simp [put_at, put_none, fr0_at]; done) | rfl), rfl⟩
 rintro α _ ⟨q17, q0, q1', rfl⟩
 cases hb : (rightG l && rightQ q) with
 | false =>
  rw [hb] at q17
  refine aw_t (by (first | (simp [eval_tmp, put_at, q17]; done) | (simp [eval_tmp, put_at, q17]; omega))) (by kernel_rfl) ?_
  refine aw_seq ?_
  (refine aw_ops (by kernel_rfl) (fun K hK => ?_); simp (disch := first | omega | (simp only [lnS]; try omega)) [-getElem?_pos, -getElem?_neg]; refine hK _ _ ?_; clear hK K)
  (refine aw_ret ?_; simp (disch := first | omega | (simp only [lnS]; try omega)) [-getElem?_pos, -getElem?_neg, thenQ_ret, scopeQ_ret, inBlockQ_ret, RQ, resL, resV])
  exact ⟨Low.refl (Nat.le_refl _), [], .inl ⟨rfl, by simp [kr], rfl⟩, fun j hj => by cases hj⟩
 | true =>
 rw [hb] at q17
 rw [if_pos rfl]
 refine aw_f (by (first | (simp [eval_tmp, put_at, q17]; done) | (simp [eval_tmp, put_at, q17]; omega))) (by kernel_rfl) ?_
 refine aw_skip ?_
 obtain ⟨h3, hrq⟩ := Bool.and_eq_true_iff.1 hb
 have hq24 := rightQ_len hrq
 refine aw_seq ?_
 (refine aw_ops (by kernel_rfl) (fun K hK => ?_); simp (disch := first | omega | (simp only [lnS]; try omega)) [-getElem?_pos, -getElem?_neg]; refine hK _ _ ?_; clear hK K)
 refine aw_seq ?_
 refine aw_seq ?_
 (refine aw_ops (by kernel_rfl) (fun K hK => ?_); simp (disch := first | omega | (simp only [lnS]; try omega)) [-getElem?_pos, -getElem?_neg, q1', -notTuple, q1, q2, nt_intG, -xlen, hxl]; refine hK _ _ ?_; clear hK K)
 refine aw_block ?_
 refine aw_loop (fun c α G => ∃ (i : Nat) (x : Value) (F : List Nat), i + c = q.length ∧ Low H.length H G ∧ α 0 = nv ∧ α 1 = qv ∧ α 5 = x ∧ α 18 = qv ∧ α 19 = .int .i64 (q.length : Nat) ∧ α 20 = .int .i64 (i : Nat) ∧ OwnF G x 38 32 (kr (wantsL l q i)) F ∧ ∀ j ∈ F, H.length ≤ j) q.length ?_ ?_
 ·exact ⟨0, .slice none 0 0, [], by omega, Low.refl (Nat.le_refl _), by (first | (simp [put_at, put_none, fr0_at, q0]; done) | rfl), by (first | (simp [put_at, put_none, fr0_at, q1']; done) | rfl), by (first | (simp [put_at, put_none, fr0_at]; done) | rfl), by (first | (simp [put_at, put_none, fr0_at]; done) | rfl), by (first | (simp [put_at, put_none, fr0_at]; done) | rfl), by (first | (simp [put_at, put_none, fr0_at]; done) | rfl), .inl ⟨rfl, by simp [kr, wantsL], rfl⟩, fun j hj => by cases hj⟩
 clear q0 q1' q17
 rintro c α G ⟨i, x, F, hic, lw, q0, q1', q5, q18, q19, q20, hF, hFl⟩
 obtain ⟨x1, x2⟩ := own_nt hF
 have hle1 := lw.2
 refine aw_seq ?_
 by_cases hi : i < q.length
 case neg =>
  obtain rfl : i = q.length := by omega
  (refine aw_ops (by kernel_rfl) (fun K hK => ?_); simp (disch := first | omega | (simp only [lnS]; try omega)) [-getElem?_pos, -getElem?_neg, q19, q20]; refine hK _ _ ?_; clear hK K)
  refine aw_seq ?_
  refine aw_f (by (first | (simp [eval_tmp, put_at]; done) | (simp [eval_tmp, put_at]; omega))) (by kernel_rfl) ?_
  refine aw_exit ?_
  have hkk := wants_k (l := l) hQ.wf q.length (Nat.le_refl _)
  have hk32 : K32 (wantsL l q q.length) := fun k hk => (hkk k hk).1
  have hKs := kr_ksv hF hk32
  have hfn : notTuple (.func (.func 100) #[] #[]) = true := rfl
  have hfc : (Value.func (.func 100) #[] #[]).cells = #[.func (.func 100) #[] #[]] := rfl
  refine aw_seq ?_
  refine aw_ops (by kernel_rfl) (fun K hK => ?_)
  simp (disch := first | omega | (simp only [lnS]; try omega)) [-getElem?_pos, -getElem?_neg, q5, -notTuple, x1, x2, hfn, hfc, eval_fnG]
  refine ⟨by kernel_rfl, (ordered_ac (nro := nro) (γ := γ) hKs hk32 (fun k hk => (hkk k hk).2) hnd h12 (by omega)).mono ?_⟩
  rintro w G2 ⟨lw2, F2, hF2, hF2l⟩
  obtain ⟨w1, w2⟩ := own_nt hF2
  have hle2 := lw2.2
  have hs32 := K32.sortK hk32
  have hsl : (sortK (wantsL l q q.length)).length ≤ 100 := by rw [(sortK_perm _).length_eq]; omega
  try simp (disch := first | omega | (simp only [lnS]; try omega)) [-getElem?_pos, -getElem?_neg, -notTuple, w1, w2]
  refine ⟨by kernel_rfl, (once_ac (nro := nro) (γ := γ) (kr_ksv hF2 hs32) hs32 ((sortK_perm _).nodup_iff.2 hnd) hsl (by omega)).mono ?_⟩
  rintro u G3 ⟨lw3, F3, hF3, hF3l⟩
  obtain ⟨u1, u2⟩ := own_nt hF3
  try simp (disch := first | omega | (simp only [lnS]; try omega)) [-getElem?_pos, -getElem?_neg, -notTuple, u1, u2]
  refine hK _ _ ?_; clear hK K
  (refine aw_ret ?_; simp (disch := first | omega | (simp only [lnS]; try omega)) [-getElem?_pos, -getElem?_neg, thenQ_ret, scopeQ_ret, inBlockQ_ret, RQ, resL, resV])
  have hle3 := lw3.2
  exact ⟨⟨fun j hj => (lw3.1 j (by omega)).trans ((lw2.1 j (by omega)).trans (lw.1 j hj)), by omega⟩, F3, hF3, fun j hj => by have := hF3l j hj; omega⟩
 obtain ⟨j, a, bb, us, pv, wv, bv, kv, hx, hbb, ha, hcell, hus, hC⟩ := hQ.at_ i _ (hn_get hi)
 have hw := hQ.wf _ (List.mem_of_getElem? (hn_get hi))
 have hbG : hget G j = some bb := (lw.1 j (hget_lt hbb)).trans hbb
 have hul := hC.len
 have hus' := hus.symm
 clear hus
 have hset : ∀ Z : List Value, Z.length = 104 → setR Z 0 us = us := fun Z hZ => setR_all _ _ (by omega)
 have c34 : us[34]? = some pv := by
  have := hC.op.c2
  rwa [List.getElem?_take_of_lt (by omega), List.getElem?_drop] at this
 have hwl := wants_len (l := l) hrq i (by omega)
 have hps := (rightO_sm (rightQ_op hrq hi)).1
 have hk32 : ∀ k ∈ (hn q i).op.parents, k.length = 32 := fun k hk => (hw.op.parents k hk).1
 have hacc0 := hC.op.parents.acc hk32
 have p1 := hacc0.nt
 have p2 := hacc0.cs
 have pxl := hacc0.len
 have hwi : wantsL l q (i + 1) = wantsL l q i ++ (hn q i).op.parents.filter (wantK l q) := rfl
 have hkw : ∀ k ∈ wantsL l q i, k.length = 32 := fun k hk => (wants_k (l := l) hQ.wf i (by omega) k hk).1
 (refine aw_ops (by kernel_rfl) (fun K hK => ?_); simp (disch := first | omega | (simp only [lnS]; try omega)) [-getElem?_pos, -getElem?_neg, q19, q20, hi]; refine hK _ _ ?_; clear hK K)
 refine aw_seq ?_
 refine aw_t (by (first | (simp [eval_tmp, put_at, hi]; done) | (simp [eval_tmp, put_at, hi]; omega))) (by kernel_rfl) ?_
 refine aw_skip ?_
 refine aw_seq ?_
 refine aw_block ?_
 refine aw_seq ?_
 (refine aw_ops (by kernel_rfl) (fun K hK => ?_); simp (disch := first | omega | (simp only [lnS]; try omega)) [-getElem?_pos, -getElem?_neg, q18, q20, -notTuple, q1, q2, nt_intG, nt_aggG, -xindexAddr, hx, hbG, hus', hul, ha, hp0, all_zl, hset, hle1]; refine hK _ _ ?_; clear hK K)
 obtain ⟨lw2, b7⟩ := boxed (H := G) us 60
 have hF := hF.low (H' := G ++ ([some ⟨us, 60, none⟩] : AH)) (fun j hj => hget_left (hF.lt j hj))
 have lw := lw.both lw2
 generalize G ++ [some ⟨us, 60, none⟩] = G2 at *
 generalize wantsL l q i = W0 at *
 generalize (hn q i).op.parents = ps at *
 refine aw_seq ?_
 (refine aw_ops (by kernel_rfl) (fun K hK => ?_); simp (disch := first | omega | (simp only [lnS]; try omega)) [-getElem?_pos, -getElem?_neg, b7, c34, hul, -notTuple, p1, p2, nt_intG, -xlen, pxl]; refine hK _ _ ?_; clear hK K)
 refine aw_block ?_
 refine aw_loop (fun c2 α G => ∃ (k : Nat) (x : Value) (F : List Nat), k + c2 = ps.length ∧ Low H.length H G ∧ α 0 = nv ∧ α 1 = qv ∧ α 5 = x ∧ α 18 = qv ∧ α 19 = .int .i64 (q.length : Nat) ∧ α 20 = .int .i64 (i : Nat) ∧ α 26 = pv ∧ α 27 = .int .i64 (ps.length : Nat) ∧ α 28 = .int .i64 (k : Nat) ∧ OwnF G x 38 32 (kr (W0 ++ (ps.take k).filter (wantK l q))) F ∧ ∀ j ∈ F, H.length ≤ j) ps.length ?_ ?_
 ·exact ⟨0, x, F, by omega, lw, by (first | (simp [put_at, put_none, fr0_at, q0]; done) | rfl), by (first | (simp [put_at, put_none, fr0_at, q1']; done) | rfl), by (first | (simp [put_at, put_none, fr0_at, q5]; done) | rfl), by (first | (simp [put_at, put_none, fr0_at, q18]; done) | rfl), by (first | (simp [put_at, put_none, fr0_at, q19]; done) | rfl), by (first | (simp [put_at, put_none, fr0_at, q20]; done) | rfl), by (first | (simp [put_at, put_none, fr0_at]; done) | rfl), by (first | (simp [put_at, put_none, fr0_at]; done) | rfl), by (first | (simp [put_at, put_none, fr0_at]; done) | rfl), by simpa using hF, hFl⟩
 clear q0 q1' q5 q18 q19 q20 hF hFl x1 x2 lw hle1
 rintro c2 α G3 ⟨k, x, F, hkc, lw, q0, q1', q5, q18, q19, q20, q26, q27, q28, hF, hFl⟩
 obtain ⟨x1, x2⟩ := own_nt hF
 have hle1 := lw.2
 refine aw_seq ?_
 by_cases hk : k < ps.length
 case neg =>
  obtain rfl : k = ps.length := by omega
  rw [List.take_length] at hF
  (refine aw_ops (by kernel_rfl) (fun K hK => ?_); simp (disch := first | omega | (simp only [lnS]; try omega)) [-getElem?_pos, -getElem?_neg, q27, q28]; refine hK _ _ ?_; clear hK K)
  refine aw_seq ?_
  refine aw_f (by (first | (simp [eval_tmp, put_at]; done) | (simp [eval_tmp, put_at]; omega))) (by kernel_rfl) ?_
  refine aw_exit ?_
  (refine aw_ops (by kernel_rfl) (fun K hK => ?_); simp (disch := first | omega | (simp only [lnS]; try omega)) [-getElem?_pos, -getElem?_neg, q20]; refine hK _ _ ?_; clear hK K)
  exact ⟨c - 1, by omega, i + 1, x, F, by omega, lw, by (first | (simp [put_at, put_none, fr0_at, q0]; done) | rfl), by (first | (simp [put_at, put_none, fr0_at, q1']; done) | rfl), by (first | (simp [put_at, put_none, fr0_at, q5]; done) | rfl), by (first | (simp [put_at, put_none, fr0_at, q18]; done) | rfl), by (first | (simp [put_at, put_none, fr0_at, q19]; done) | rfl), by (first | (simp [put_at, put_none, fr0_at]; done) | rfl), by rw [hwi]; exact hF, hFl⟩
 obtain ⟨p, y, r1, r2, r3, r4, r5⟩ := hacc0.at_ k hk
 have r5 := r5 G3 lw
 subst r4
 obtain ⟨z, hz⟩ : ∃ z, z = ps.getD k [] := ⟨_, rfl⟩
 have hzi : ps[k]? = some z := by rw [hz, List.getD_eq_getElem?_getD, List.getElem?_eq_getElem hk]; rfl
 have hz32 : z.length = 32 := hk32 z (List.mem_of_getElem? hzi)
 have hzl : (iv .u8 z).length = 32 := by rw [iv_length, hz32]
 have htz : (iv .u8 z).take 32 = iv .u8 z := List.take_of_length_le (by omega)
 rw [← hz] at r5
 have hset2 : ∀ Z : List Value, Z.length = 32 → setR Z 0 (iv .u8 z) = iv .u8 z := fun Z hZ => setR_all _ _ (by omega)
 have hnx : (ps.take (k + 1)).filter (wantK l q) = (ps.take k).filter (wantK l q) ++ if wantK l q z then [z] else [] := by
  rw [List.take_add_one, hzi, List.filter_append]
  congr 1
  cases h : wantK l q z <;> simp [h]
 (refine aw_ops (by kernel_rfl) (fun K hK => ?_); simp (disch := first | omega | (simp only [lnS]; try omega)) [-getElem?_pos, -getElem?_neg, q27, q28, hk]; refine hK _ _ ?_; clear hK K)
 refine aw_seq ?_
 refine aw_t (by (first | (simp [eval_tmp, put_at, hk]; done) | (simp [eval_tmp, put_at, hk]; omega))) (by kernel_rfl) ?_
 refine aw_skip ?_
 refine aw_seq ?_
 refine aw_block ?_
 refine aw_seq ?_
 (refine aw_ops (by kernel_rfl) (fun K hK => ?_); simp (disch := first | omega | (simp only [lnS]; try omega)) [-getElem?_pos, -getElem?_neg, q26, q28, -notTuple, p1, p2, nt_intG, nt_aggG, r1, -xindexAddr, r2, -xload, r5, hzl, all_zl, hset2, hle1]; refine hK _ _ ?_; clear hK K)
 obtain ⟨lw5, b9⟩ := boxed (H := G3) (iv .u8 z) 38
 obtain ⟨g, hg⟩ : ∃ g, g = G3.length := ⟨_, rfl⟩
 have lw6 := lw.both lw5
 have hF2 := hF.low (H' := G3 ++ ([some ⟨iv .u8 z, 38, none⟩] : AH)) (fun j hj => hget_left (hF.lt j hj))
 rw [← hg] at b9 ⊢
 generalize G3 ++ [some ⟨iv .u8 z, 38, none⟩] = G4 at *
 have xl9 : xload Try.prog 38 (.pointer (some ⟨g, 0, none⟩)) G4 = some (.agg (iv .u8 z).toArray) := by simp [xload, b9, hzl, htz]
 have f1 := find_rc (γ := γ) (hN.lowG lw6) hl hz32
 have f2 := qfind_rc (γ := γ) (hQ.lowG lw6) hq hz32
 have hwz : wantK l q z = (decide (findI l l.length z < 0) && decide (findIH q q.length z < 0)) := rfl
 generalize findI l l.length z = e1 at *
 generalize findIH q q.length z = e2 at *
 refine aw_seq ?_
 refine aw_cut (fun α G5 => α 41 = .bool (wantK l q z) ∧ α 0 = nv ∧ α 1 = qv ∧ α 5 = x ∧ α 9 = .pointer (some ⟨g, 0, none⟩) ∧ α 18 = qv ∧ α 19 = .int .i64 (q.length : Nat) ∧ α 20 = .int .i64 (i : Nat) ∧ α 26 = pv ∧ α 27 = .int .i64 (ps.length : Nat) ∧ α 28 = .int .i64 (k : Nat) ∧ G5 = G4) ?_ ?_
 ·refine aw_ops (by kernel_rfl) (fun K hK => ?_)
  simp (disch := first | omega | (simp only [lnS]; try omega)) [-getElem?_pos, -getElem?_neg, q0, -xload, xl9, -notTuple, n1, n2, nt_intG, nt_aggG, hzl]
  refine ⟨by kernel_rfl, ac_of_rc f1 (by simp [pv_iv, pv_int, pv_bool, pv_string, pv_tup2, pv_tup3, iv_plain, p2_int, p2_bool, p2_string]) ?_⟩
  by_cases h1 : e1 < 0
  ·rw [decide_eq_true h1, Bool.true_and] at hwz
   simp (disch := first | omega | (simp only [lnS]; try omega)) [-getElem?_pos, -getElem?_neg, h1, q1', -xload, xl9, -notTuple, q1, q2, nt_intG, nt_aggG, hzl]
   refine ⟨by kernel_rfl, ac_of_rc f2 (by simp [pv_iv, pv_int, pv_bool, pv_string, pv_tup2, pv_tup3, iv_plain, p2_int, p2_bool, p2_string]) ?_⟩
   by_cases h2 : e2 < 0
   ·rw [decide_eq_true h2] at hwz
    try simp (disch := first | omega | (simp only [lnS]; try omega)) [-getElem?_pos, -getElem?_neg, h2]
    refine hK _ _ ?_; clear hK K
    exact ⟨by rw [hwz]; (first | (simp [put_at, put_none, fr0_at]; done) | rfl), by (first | (simp [put_at, put_none, fr0_at, q0]; done) | rfl), by (first | (simp [put_at, put_none, fr0_at, q1']; done) | rfl), by (first | (simp [put_at, put_none, fr0_at, q5]; done) | rfl), by (first | (simp [put_at, put_none, fr0_at]; done) | rfl), by (first | (simp [put_at, put_none, fr0_at, q18]; done) | rfl), by (first | (simp [put_at, put_none, fr0_at, q19]; done) | rfl), by (first | (simp [put_at, put_none, fr0_at, q20]; done) | rfl), by (first | (simp [put_at, put_none, fr0_at, q26]; done) | rfl), by (first | (simp [put_at, put_none, fr0_at, q27]; done) | rfl), by (first | (simp [put_at, put_none, fr0_at, q28]; done) | rfl), rfl⟩
   ·rw [decide_eq_false h2] at hwz
    try simp (disch := first | omega | (simp only [lnS]; try omega)) [-getElem?_pos, -getElem?_neg, h2]
    refine hK _ _ ?_; clear hK K
    exact ⟨by rw [hwz]; (first | (simp [put_at, put_none, fr0_at]; done) | rfl), by (first | (simp [put_at, put_none, fr0_at, q0]; done) | rfl), by (first | (simp [put_at, put_none, fr0_at, q1']; done) | rfl), by (first | (simp [put_at, put_none, fr0_at, q5]; done) | rfl), by (first | (simp [put_at, put_none, fr0_at]; done) | rfl), by (first | (simp [put_at, put_none, fr0_at, q18]; done) | rfl), by (first | (simp [put_at, put_none, fr0_at, q19]; done) | rfl), by (first | (simp [put_at, put_none, fr0_at, q20]; done) | rfl), by (first | (simp [put_at, put_none, fr0_at, q26]; done) | rfl), by (first | (simp [put_at, put_none, fr0_at, q27]; done) | rfl), by (first | (simp [put_at, put_none, fr0_at, q28]; done) | rfl), rfl⟩
  ·rw [decide_eq_false h1, Bool.false_and] at hwz
   try simp (disch := first | omega | (simp only [lnS]; try omega)) [-getElem?_pos, -getElem?_neg, h1]
   refine hK _ _ ?_; clear hK K
   exact ⟨by rw [hwz]; (first | (simp [put_at, put_none, fr0_at]; done) | rfl), by (first | (simp [put_at, put_none, fr0_at, q0]; done) | rfl), by (first | (simp [put_at, put_none, fr0_at, q1']; done) | rfl), by (first | (simp [put_at, put_none, fr0_at, q5]; done) | rfl), by (first | (simp [put_at, put_none, fr0_at]; done) | rfl), by (first | (simp [put_at, put_none, fr0_at, q18]; done) | rfl), by (first | (simp [put_at, put_none, fr0_at, q19]; done) | rfl), by (first | (simp [put_at, put_none, fr0_at, q20]; done) | rfl), by (first | (simp [put_at, put_none, fr0_at, q26]; done) | rfl), by (first | (simp [put_at, put_none, fr0_at, q27]; done) | rfl), by (first | (simp [put_at, put_none, fr0_at, q28]; done) | rfl), rfl⟩
 clear q0 q1' q5 q18 q19 q20 q26 q27 q28
 rintro α G5 ⟨q41, q0, q1', q5, q9, q18, q19, q20, q26, q27, q28, rfl⟩
 cases hwk : wantK l q z with
 | false =>
  rw [hwk] at q41 hnx
  refine aw_f (by (first | (simp [eval_tmp, put_at, q41]; done) | (simp [eval_tmp, put_at, q41]; omega))) (by kernel_rfl) ?_
  refine aw_skip ?_
  (refine aw_ops (by kernel_rfl) (fun K hK => ?_); simp (disch := first | omega | (simp only [lnS]; try omega)) [-getElem?_pos, -getElem?_neg, q28]; refine hK _ _ ?_; clear hK K)
  exact ⟨c2 - 1, by omega, k + 1, x, F, by omega, lw6, by (first | (simp [put_at, put_none, fr0_at, q0]; done) | rfl), by (first | (simp [put_at, put_none, fr0_at, q1']; done) | rfl), by (first | (simp [put_at, put_none, fr0_at, q5]; done) | rfl), by (first | (simp [put_at, put_none, fr0_at, q18]; done) | rfl), by (first | (simp [put_at, put_none, fr0_at, q19]; done) | rfl), by (first | (simp [put_at, put_none, fr0_at, q20]; done) | rfl), by (first | (simp [put_at, put_none, fr0_at, q26]; done) | rfl), by (first | (simp [put_at, put_none, fr0_at, q27]; done) | rfl), by (first | (simp [put_at, put_none, fr0_at]; done) | rfl), by rw [hnx]; simpa using hF2, hFl⟩
 | true =>
 rw [hwk, if_pos rfl] at hnx
 rw [hwk] at q41
 refine aw_t (by (first | (simp [eval_tmp, put_at, q41]; done) | (simp [eval_tmp, put_at, q41]; omega))) (by kernel_rfl) ?_
 have hle3 := lw6.2
 have hfl := List.length_filter_le (wantK l q) (ps.take k)
 rw [List.length_take] at hfl
 have hk32' : K32 (W0 ++ (ps.take k).filter (wantK l q)) := fun y hy => by
  rcases List.mem_append.1 hy with hy | hy
  ·exact hkw y hy
  ·exact hk32 y (List.mem_of_mem_take (List.mem_filter.1 hy).1)
 have hkl := kr_len hk32'
 rw [List.length_append] at hkl
 obtain ⟨O, hO⟩ : ∃ O, O = W0 ++ (ps.take k).filter (wantK l q) := ⟨_, rfl⟩
 have hOn : W0 ++ (ps.take (k + 1)).filter (wantK l q) = O ++ [z] := by rw [hnx, hO, List.append_assoc]
 rw [← hO] at hkl hF2
 have hxc : xcells 32 (.slice (some ⟨G5.length, 0, none⟩) 1 1) (G5 ++ [some ⟨iv .u8 z, 38, some 32⟩]) = some (iv .u8 z) := by simp [xcells, hget_app0, hzl, htz]
 obtain ⟨v', G6, hap, ho3, hl3, hk3⟩ := ownF_append (P := Try.prog) (nro := nro) (t := 36) (e := 38) (H := G5 ++ [some ⟨iv .u8 z, 38, some 32⟩]) (v := x) (x := .slice (some ⟨G5.length, 0, none⟩) 1 1) (sz := 32) (cells := kr O) (news := iv .u8 z) (F := F) (by simp) (by simp) (by omega) (by simp) (hF2.low (fun j hj => hget_left (hF2.lt j hj)))
  (fun j hj => by have := hFl j hj; omega) (fun s e => by cases e) hxc (fun e => by rw [e] at hzl; simp at hzl) (by rw [hzl]) (by rw [hkl, hzl]; simp; omega) (by rw [hkl, hzl]; simp only [maxLen]; omega)
 have fk := fill_keyG (k := .u8) (x := z) (n := 32) (zl 32) hzl
 have hno : nro ≤ G5.length := by omega
 (refine aw_ops (by kernel_rfl) (fun K hK => ?_); simp (disch := first | omega | (simp only [lnS]; try omega)) [-getElem?_pos, -getElem?_neg, q5, q9, -xload, xl9, -notTuple, x1, x2, nt_intG, nt_slG, nt_aggG, all_zl, hzl, -xfill, fk, hno, -xappend, hap]; refine hK _ _ ?_; clear hK K)
 (refine aw_ops (by kernel_rfl) (fun K hK => ?_); simp (disch := first | omega | (simp only [lnS]; try omega)) [-getElem?_pos, -getElem?_neg, q28]; refine hK _ _ ?_; clear hK K)
 refine ⟨c2 - 1, by omega, k + 1, v', _, by omega, ⟨fun j hj => (hk3 j (by simp; omega) (fun h => by have := hFl _ h; omega)).trans ((hget_left (by omega)).trans (lw6.1 j hj)), by rw [hl3]; simp; omega⟩, by (first | (simp [put_at, put_none, fr0_at, q0]; done) | rfl), by (first | (simp [put_at, put_none, fr0_at, q1']; done) | rfl), by (first | (simp [put_at, put_none, fr0_at]; done) | rfl), by (first | (simp [put_at, put_none, fr0_at, q18]; done) | rfl), by (first | (simp [put_at, put_none, fr0_at, q19]; done) | rfl), by (first | (simp [put_at, put_none, fr0_at, q20]; done) | rfl), by (first | (simp [put_at, put_none, fr0_at, q26]; done) | rfl), by (first | (simp [put_at, put_none, fr0_at, q27]; done) | rfl), by (first | (simp [put_at, put_none, fr0_at]; done) | rfl), by rw [hOn, kr_app, kr_one]; exact ho3, fun j hj => ?_⟩
 rw [List.mem_singleton] at hj
 rw [hj]
 simp
 omega
end
section
def witE (l : List HeldD) (z : Int) : Int := if rightQ l = false then 1 else if z < 0 ∨ (l.length : Int) ≤ z then 22 else 0
def withoutL (l : List HeldD) (a : Nat) : List HeldD := l.take a ++ l.drop (a + 1)
def RWithQ (l : List HeldD) (z : Int) (H0 H : AH) (v' : Value) (H' : AH) : Prop :=
 Low H.length H H' ∧ ∃ sv, v' = .tuple #[sv, .int .i64 (witE l z)] ∧ notTuple sv = true ∧ sv.cells = #[sv] ∧ ((witE l z = 0 ∧ ∀ G, Low H0.length H0 G → KeepN H.length H' G → HdV G sv (withoutL l z.toNat)) ∨ (witE l z ≠ 0 ∧ sv = .slice none 0 0))
theorem RWithQ.bad {l : List HeldD} {y : Int} {H0 H H' : AH} {z : Int} (hl : Low H.length H H') (h : witE l y = z) (hz : z ≠ 0) : RWithQ l y H0 H (.tuple #[.slice none 0 0, .int .i64 z]) H' :=
 ⟨hl, _, by rw [h], rfl, rfl, .inr ⟨by rw [h]; exact hz, rfl⟩⟩
theorem fl_cut {R : List (List Value)} (h : ∀ r ∈ R, r.length = 104) {a : Nat} (ha : a ≤ R.length) : R.flatten.take (a * 104) = (R.take a).flatten ∧ R.flatten.drop (a * 104) = (R.drop a).flatten := by
 have h1 : R.flatten = (R.take a).flatten ++ (R.drop a).flatten := by rw [← List.flatten_append, List.take_append_drop]
 have h2 := fl_len (L := R.take a) (n := 104) (fun r hr => h r (List.mem_of_mem_take hr))
 rw [List.length_take, Nat.min_eq_left ha] at h2
 rw [h1]
 exact ⟨by rw [← h2, List.take_left], by rw [← h2, List.drop_left]⟩
end
section
theorem build_updq (d : Addr) (n : Nat) : xbuild Try.prog 41 [(0, .int .i64 1), (1, .int .u32 1), (3, .int .i64 4), (2, .slice (some d) n n), (6, .agg (iv .u8 (key1 1)).toArray)] = some (.agg (opRow (opC1 1 1 4 [] []) (.slice (some d) n n) (.slice none 0 0) (.slice none 0 0)).toArray) := by kernel_rfl
attribute [local simp] wb_bool wb_undef with_lit XL_nil XL_cons XLc_val XLc_call step1_eq stepW_t stepW_f stepC_n stepC_s stepX_s stepX_n stepN_s calleeX xrecv oneV xop_eq xopR_s xopR_n wantedA_eq wantedG_n wantedG_s plain1_int plain1_bool plain1_string bits_i64 bits_u64 bits_u32 bits_u16 bits_u8 xeqA xagg xcmp xarr allK_iv num_iv calleeOf xread xeff xbin xint xnil xun xstr xload xconv xpart xfield xfieldAddr xindexAddr xindex bnd asInt? xslice xlen xmin xmax xbuild xfill xappend xapp2 xappstr xappmk xcap xcopy xcells eval_tmp eval_const put_at put_none fr0_at cells_agg cells_int cells_bool cells_string cells_ptr cells_slice notTuple tab iv_all hget_app hget_app0 hget_cons0 hget_cons set_app set_app0 setR setR_one QL_nil QL_cons QLc_val stepQ_t stepQ_f stepQC_n stepQC_s stepQX_s SL_nil SL_cons SLc_val stepS_t stepS_f ltT ltF leT leF eqT eqF ltTn ltFn leTn leFn eqTn eqFn beqT beqF bneT bneF wi64 wu64 wu32 wu16 wu8 tmodP tdivP hgetL hgetNe hgetEq setL nums_def nums_len Nat.succ_le_of_lt List.getElem?_cons_zero List.getElem?_cons_succ Option.getD_some Int.toNat_add Int.toNat_mul agM okM agB agI agS agP agL agA okB okI okS okP okSl okA
theorem updateQ_ac {nro : Nat} {γ : Nat → Option Nat} {H : AH} {k : List Int} (hk32 : k.length = 32) (hnro : nro ≤ H.length) : AC Try.prog nro γ 85 #[.agg (iv .u8 k).toArray] H (fun v' H' => Low H.length H H' ∧ v' = .agg (opRow (opC1 1 1 4 [k] []) (.slice (some ⟨H.length + 2, 0, none⟩) 1 1) (.slice none 0 0) (.slice none 0 0)).toArray ∧ hget H' (H.length + 2) = some ⟨iv .u8 k, 38, some 32⟩) := by
 have hb := build_updq ⟨H.length + 2, 0, none⟩ 1
 have hkk := build_key 1
 rw [opRow_c1 1 1 4 [k] []] at hb
 have hrl : (opRow (opC1 1 1 4 [k] []) (.slice (some ⟨H.length + 2, 0, none⟩) 1 1) (.slice none 0 0) (.slice none 0 0)).length = 71 := rfl
 generalize iv .u8 (key1 1) = kk at *
 generalize opRow (opC1 1 1 4 [k] []) (.slice (some ⟨H.length + 2, 0, none⟩) 1 1) (.slice none 0 0) (.slice none 0 0) = R at *
 have hset : ∀ Z : List Value, Z.length = 71 → setR Z 0 R = R := fun Z hZ => setR_all _ _ (by omega)
 have htk : R.take 71 = R := List.take_of_length_le (by omega)
 have hkl : (iv .u8 k).length = 32 := by rw [iv_length, hk32]
 have htz : (iv .u8 k).take 32 = iv .u8 k := List.take_of_length_le (by omega)
 have fk := fill_keyG (k := .u8) (x := k) (n := 32) (zl 32) hkl
 generalize iv .u8 k = kc at *
 refine ac_of_aw Try.func85 rfl Try.ntmps85 Try.results85 (by simp) ?_
 refine aw_seq ?_
 (refine aw_ops (by kernel_rfl) (fun K hK => ?_); simp (disch := first | omega | (simp only [lnS]; try omega)) [-getElem?_pos, -getElem?_neg, all_zl, hkl, nt_aggG]; refine hK _ _ ?_; clear hK K)
 obtain ⟨ZZ, hZZ, hZl⟩ : ∃ ZZ : List Value, (Value.int .i64 0 :: .int .u32 0 :: .slice none 0 0 :: .int .i64 0 :: .slice none 0 0 :: (iv .u8 (zl 64) ++ [.string ByteArray.empty, .slice none 0 0])) = ZZ ∧ ZZ.length = 71 := ⟨_, rfl, by simp⟩
 rw [hZZ]
 have hset := hset ZZ hZl
 obtain ⟨n, hn⟩ : ∃ n, n = H.length := ⟨_, rfl⟩
 obtain ⟨G, hG⟩ : ∃ G : AH, G = H ++ [some ⟨kc, 38, none⟩, some ⟨ZZ, 41, none⟩] := ⟨_, rfl⟩
 have b1 : hget G n = some ⟨kc, 38, none⟩ := by rw [hG, hn, hget_app0]; rfl
 have b2 : hget G (n + 1) = some ⟨ZZ, 41, none⟩ := by rw [hG, hn, hget_app]; rfl
 have lw : Low n H G := by rw [hG, hn]; exact Low.push (Nat.le_refl _) _
 have gl : G.length = n + 2 := by rw [hG, hn]; simp
 rw [← hG, ← hn]
 rw [← hn] at hb hnro
 clear hG
 rw [← gl] at hb
 have hn2 : nro ≤ n + 1 := by omega
 refine aw_seq ?_
 refine aw_cut (fun α G2 => α 2 = .pointer (some ⟨n + 1, 0, none⟩) ∧ hget G2 (n + 1) = some ⟨R, 41, none⟩ ∧ Low n H G2 ∧ hget G2 (n + 2) = some ⟨kc, 38, some 32⟩) ?_ ?_
 ·obtain ⟨lw3, b3⟩ := boxed2 (H := G) kc 38 32
  rw [gl] at b3
  have c2 := (lw3.1 _ (hget_lt b2)).trans b2
  (refine aw_ops (by kernel_rfl) (fun K hK => ?_); simp (disch := first | omega | (simp only [lnS]; try omega)) [-getElem?_pos, -getElem?_neg, b1, hkl, htz, -xbuild, hkk, -xfill, fk, nt_aggG, nt_slG, all_zl, hb, b2, c2, hrl, hZl, hset, hn2]; refine hK _ _ ?_; clear hK K)
  exact ⟨by (first | (simp [put_at, put_none, fr0_at]; done) | rfl), by rw [hget_left (by rw [List.length_set]; omega), hget_set_eq (hget_lt b2)], ⟨fun j hj => (hget_left (by rw [List.length_set]; omega)).trans ((hget_set_ne (by omega)).trans (lw.1 j hj)), by simp; omega⟩, by rw [show n + 2 = (G.set (n + 1) (some ⟨R, 41, none⟩)).length by rw [List.length_set]; omega, hget_app0]; rfl⟩
 rintro α G2 ⟨q2, b2', lw2, b3⟩
 (refine aw_ret ?_; simp (disch := first | omega | (simp only [lnS]; try omega)) [-getElem?_pos, -getElem?_neg, thenQ_ret, scopeQ_ret, inBlockQ_ret, RQ, resL, resV, q2, b2', hrl, htk])
 exact ⟨lw2, b3⟩
end
section
def hO1 : OpD := opC1 1 1 4 [key1 2] []
def hO2 : OpD := opC1 0 1 1 [] [0]
def hD1 : HeldD := ⟨key1 3, hO1, []⟩
def hD2 : HeldD := ⟨key1 2, hO2, []⟩
theorem hO1_wf : hO1.Wf := opC1_wf (by unfold I64; omega) (by unfold U32; omega) (by unfold I64; omega) (fun p hp => by simp at hp; subst hp; exact key1_ok (by omega)) (by simp) (by simp) (Nat.zero_le _)
theorem hO2_wf : hO2.Wf := opC1_wf (by unfold I64; omega) (by unfold U32; omega) (by unfold I64; omega) (by simp) (Nat.zero_le _) (by unfold I64; simp) (by simp)
theorem hD1_wf : hD1.Wf := ⟨key1_ok (by omega), hO1_wf, fun k hk => (by cases hk), Nat.zero_le _⟩
theorem hD2_wf : hD2.Wf := ⟨key1_ok (by omega), hO2_wf, fun k hk => (by cases hk), Nat.zero_le _⟩
theorem qdat1 : putE [] hD1 = 0 ∧ putE [hD1] hD2 = 0 := by decide +kernel
theorem qdat2 : wantsL [] [hD1] 1 = [key1 2] := by decide +kernel
theorem qdat3 : readyI [] [hD1] = -1 ∧ readyI [] [hD1, hD2] = 1 ∧ rightQ [hD1] = true ∧ rightQ [hD1, hD2] = true ∧ findIH [hD1, hD2] 2 (key1 2) = 1 := by decide +kernel
theorem sortK_one (k : List Int) : sortK [k] = [k] := List.perm_singleton.1 (sortK_perm [k])
theorem build_h1 (d : Addr) : xbuild Try.prog 60 [(0, .agg (iv .u8 (key1 3)).toArray), (1, .agg (opRow hO1 (.slice (some d) 1 1) (.slice none 0 0) (.slice none 0 0)).toArray)] = some (.agg (heldRow hD1 (.slice (some d) 1 1) (.slice none 0 0) (.slice none 0 0) (.slice none 0 0)).toArray) := by kernel_rfl
theorem build_h2 (d : Addr) : xbuild Try.prog 60 [(0, .agg (iv .u8 (key1 2)).toArray), (1, .agg (opRow hO2 (.slice none 0 0) (.slice (some d) 1 1) (.slice none 0 0)).toArray)] = some (.agg (heldRow hD2 (.slice none 0 0) (.slice (some d) 1 1) (.slice none 0 0) (.slice none 0 0)).toArray) := by kernel_rfl
theorem held_hc {G : AH} {x : HeldD} {pv wv bv kv : Value} (hw : x.Wf) (h1 : KsV G pv x.op.parents) (h2 : InV G wv x.op.who) (h3 : BxV G bv x.op.boxes) (h4 : KsV G kv x.got) : ∃ pv' wv' bv' kv', HdC G (heldRow x pv wv bv kv) x pv' wv' bv' kv' := held_c hw (held_val h1 h2 h3 h4)
end
section
def WithoutOK : Prop := ∀ (γ : Nat → Option Nat) (nro : Nat) (H : AH) (qv : Value) (l : List HeldD) (z : Int), HdA H qv l → l.length ≤ maxLen → (∀ y ∈ l, y.got.length ≤ 1000) → nro ≤ H.length →
 AC Try.prog nro γ 39 #[qv, .int .i64 z] H (fun v' H' => Low H.length H H' ∧ ∃ sv, v' = .tuple #[sv, .int .i64 (witE l z)] ∧ ((witE l z = 0 ∧ NewGH H.length H' sv (withoutL l z.toNat)) ∨ (witE l z ≠ 0 ∧ sv = .slice none 0 0)))
theorem nil_hda (H : AH) : HdA H (.slice none 0 0) [] := HdV.hda (CD.Val.nil (fun x e => by cases e)) (fun x hx => by cases hx)
theorem NewGH.hda {n : Nat} {H G : AH} {v : Value} {l : List HeldD} (h : NewGH n H v l) (hw : ∀ x ∈ l, x.Wf) (hk : KeepN n H G) : HdA G v l := (h G hk).hda hw
theorem wit0 : witE [hD1, hD2] 0 = 0 ∧ withoutL [hD1, hD2] 0 = [hD2] := ⟨by decide +kernel, rfl⟩
theorem q1_wf : ∀ x ∈ [hD1], x.Wf := fun x hx => by rw [List.mem_singleton] at hx; subst hx; exact hD1_wf
theorem q2_wf : ∀ x ∈ [hD1, hD2], x.Wf := fun x hx => by
 simp at hx
 rcases hx with rfl | rfl
 ·exact hD1_wf
 ·exact hD2_wf
end
section
theorem cut_rows {R : List (List Value)} {Z : List Value} {a : Nat} (hR : ∀ r ∈ R, r.length = 104) (ha : a < R.length) (hZ : Z.length = 104) :
  setR (setR R.flatten (a * 104) (R.drop (a + 1)).flatten) ((R.length - 1) * 104) Z = (R.take a ++ R.drop (a + 1)).flatten ++ Z := by
 obtain ⟨x, hx⟩ : ∃ x, R[a]? = some x := ⟨_, List.getElem?_eq_getElem ha⟩
 have hxl := hR x (List.mem_of_getElem? hx)
 have hsplit : R = R.take a ++ x :: R.drop (a + 1) := by
  have h1 : R.drop a = x :: R.drop (a + 1) := by
   obtain ⟨h, e⟩ := List.getElem?_eq_some_iff.1 hx
   rw [List.drop_eq_getElem_cons h, e]
  rw [← h1, List.take_append_drop]
 have hA : (R.take a).flatten.length = a * 104 := by
  rw [fl_len (n := 104) (fun r hr => hR r (List.mem_of_mem_take hr)), List.length_take, Nat.min_eq_left (by omega)]
 have hB : (R.drop (a + 1)).flatten.length = (R.length - (a + 1)) * 104 := by
  rw [fl_len (n := 104) (fun r hr => hR r (List.mem_of_mem_drop hr)), List.length_drop]
 have hflat : R.flatten = (R.take a).flatten ++ (x ++ (R.drop (a + 1)).flatten) := by
  have := congrArg List.flatten hsplit
  rw [List.flatten_append, List.flatten_cons] at this
  exact this
 rw [hflat, List.flatten_append]
 generalize (R.take a).flatten = A at *
 generalize (R.drop (a + 1)).flatten = B at *
 have e1 : setR (A ++ (x ++ B)) (a * 104) B = A ++ (B ++ (x ++ B).drop B.length) := by
  rw [← hA, ← Nat.add_zero A.length, setR_right _ _ _ _ (by simp), setR_frontF _ _ (by simp)]
 rw [e1, ← List.append_assoc]
 have hD : ((x ++ B).drop B.length).length = 104 := by simp [hxl]
 generalize (x ++ B).drop B.length = D at *
 have hAB : (A ++ B).length = (R.length - 1) * 104 := by
  rw [List.length_append, hA, hB, ← Nat.add_mul]
  congr 1
  omega
 rw [← hAB, ← Nat.add_zero (A ++ B).length, setR_right _ _ _ _ (by omega), setR_all _ _ (by omega)]
attribute [local simp] wb_bool wb_undef with_lit XL_nil XL_cons XLc_val XLc_call step1_eq stepW_t stepW_f stepC_n stepC_s stepX_s stepX_n stepN_s calleeX xrecv oneV xop_eq xopR_s xopR_n wantedA_eq wantedG_n wantedG_s plain1_int plain1_bool plain1_string bits_i64 bits_u64 bits_u32 bits_u16 bits_u8 xeqA xagg xcmp xarr allK_iv num_iv calleeOf xread xeff xbin xint xnil xun xstr xload xconv xpart xfield xfieldAddr xindexAddr xindex bnd asInt? xslice xlen xmin xmax xbuild xfill xappend xapp2 xappstr xappmk xcap xcopy xcells eval_tmp eval_const put_at put_none fr0_at cells_agg cells_int cells_bool cells_string cells_ptr cells_slice notTuple tab iv_all hget_app hget_app0 hget_cons0 hget_cons set_app set_app0 setR setR_one QL_nil QL_cons QLc_val stepQ_t stepQ_f stepQC_n stepQC_s stepQX_s SL_nil SL_cons SLc_val stepS_t stepS_f ltT ltF leT leF eqT eqF ltTn ltFn leTn leFn eqTn eqFn beqT beqF bneT bneF wi64 wu64 wu32 wu16 wu8 tmodP tdivP hgetL hgetNe hgetEq setL nums_def nums_len Nat.succ_le_of_lt List.getElem?_cons_zero List.getElem?_cons_succ Option.getD_some Int.toNat_add Int.toNat_mul agM okM agB agI agS agP agL agA okB okI okS okP okSl okA
theorem deleteH_ac {nro : Nat} {γ : Nat → Option Nat} {H : AH} {b a : Nat} {R : List (List Value)} (hb : hget H b = some ⟨R.flatten, 60, some 104⟩) (hnro : nro ≤ b) (hR : ∀ r ∈ R, r.length = 104) (ha : a < R.length) (hl : R.length ≤ 1000) :
  AC Try.prog nro γ 87 #[.slice (some ⟨b, 0, none⟩) R.length R.length, .int .i64 (a : Nat), .int .i64 ((a + 1 : Nat) : Int)] H (fun v' H' => v' = .slice (some ⟨b, 0, none⟩) (R.length - 1) (R.length - 1) ∧ ∃ Z, H' = H.set b (some ⟨(R.take a ++ R.drop (a + 1)).flatten ++ Z, 60, some 104⟩)) := by
 have ht : und Try.prog 58 = .slice 60 := by kernel_rfl
 have hs : szt Try.prog 60 = 104 := by kernel_rfl
 have hbl := hget_lt hb
 have hfl := fl_len hR
 obtain ⟨z, hz⟩ : ∃ z, zer Try.prog 60 = some z := by
  have : (zer Try.prog 60).isSome = true := by kernel_rfl
  exact Option.isSome_iff_exists.1 this
 have hzl : z.cells.size = 104 := by
  have : (zer Try.prog 60).map (fun z => z.cells.size) = some 104 := by kernel_rfl
  rw [hz] at this
  simpa using this
 have hzp : z.cells.toList.all plain1 = true := by
  have : (zer Try.prog 60).map (fun z => z.cells.toList.all plain1) = some true := by kernel_rfl
  rw [hz] at this
  simpa using this
 obtain ⟨x2, hx2⟩ : ∃ x2, x2 = if a + 1 = R.length then Value.slice (some ⟨b, 0, some 0⟩) 0 0 else .slice (some ⟨b, (a + 1) * 104, none⟩) (R.length - (a + 1)) (R.length - (a + 1)) := ⟨_, rfl⟩
 have f1 : xslice Try.prog 58 (.slice (some ⟨b, 0, none⟩) R.length R.length) none (some (.int .i64 (a : Nat))) H = some (.slice (some ⟨b, 0, none⟩) a a) := by
  unfold xslice
  simp only [ht, bnd, asInt?, hs]
  rw [if_pos ⟨by omega, by omega, by omega, by omega⟩]
  simp
 have f2 : xslice Try.prog 58 (.slice (some ⟨b, 0, none⟩) R.length R.length) (some (.int .i64 ((a + 1 : Nat) : Int))) none H = some x2 := by
  unfold xslice
  simp only [ht, bnd, asInt?, hs]
  rw [if_pos ⟨by omega, by omega, by omega, by omega⟩, hx2]
  by_cases e : a + 1 = R.length
  ·rw [if_pos ⟨by omega, by omega⟩, if_pos e]
  ·rw [if_neg (by omega), if_neg e]
   simp
 obtain ⟨_, c2⟩ := fl_cut hR (show a + 1 ≤ R.length by omega)
 have f3 : xcells 104 x2 H = some (R.drop (a + 1)).flatten := by
  rw [hx2]
  by_cases e : a + 1 = R.length
  ·rw [if_pos e, List.drop_of_length_le (by omega)]
   rfl
  ·rw [if_neg e]
   unfold xcells
   simp only [hb]
   rw [if_pos (by omega), ← c2, List.take_of_length_le (by rw [List.length_drop]; omega)]
 have f4 : ∀ s, x2 ≠ .string s := fun s e => by rw [hx2] at e; split at e <;> cases e
 have f5 : notTuple x2 = true ∧ x2.cells = #[x2] := by rw [hx2]; split <;> exact ⟨rfl, rfl⟩
 have hBl : (R.drop (a + 1)).flatten.length = (R.length - (a + 1)) * 104 := by
  rw [fl_len (n := 104) (fun r hr => hR r (List.mem_of_mem_drop hr)), List.length_drop]
 have hcut := fun Z hZ => cut_rows (Z := Z) hR ha hZ
 clear hx2
 have ha1 : ((a + 1 : Nat) : Int) = (a : Int) + 1 := by omega
 obtain ⟨n, hn⟩ : ∃ n, R.length = n := ⟨_, rfl⟩
 rw [hn] at ha hl hfl f1 f2 hBl hcut ⊢
 obtain ⟨a', ha'⟩ : ∃ a', a + 1 = a' := ⟨_, rfl⟩
 rw [ha'] at f2 f3 hBl hcut ⊢
 have hne : ((a : Int) == (a' : Int)) = false := by simp; omega
 refine ac_of_aw Try.func87 rfl Try.ntmps87 Try.results87 (by simp) ?_
 refine aw_seq ?_
 (refine aw_ops (by kernel_rfl) (fun K hK => ?_); simp (disch := first | omega | (simp only [lnS]; try omega)) [-getElem?_pos, -getElem?_neg]; refine hK _ _ ?_; clear hK K)
 refine aw_seq ?_
 refine aw_opsA 5 (by kernel_rfl) ?_
 simp only [List.take_succ_cons, List.take_zero, List.drop_succ_cons, List.drop_zero]
 simp (disch := first | omega | (simp only [lnS]; try omega)) [-getElem?_pos, -getElem?_neg, nt_slG]
 refine al_step (v := ?v1) (H' := ?hh1) (by kernel_rfl) ?a1 (al_nil ?b1)
 case a1 =>
  refine av_slice3 (x := .tmp 8) (lo := .tmp 9) (hi := .tmp 10) (mx := .tmp 12) (l := (a : Int)) (h := ((a' : Nat) : Int)) (mm := (n : Int)) (off := 0) (i := b) (len := n) (c := n) (k1 := .i64) (k2 := .i64) (k3 := .i64) ?_ ?_ ht ?_ ?_ ?_ ?_ ?_ ?_ ?_ ?_ ?_
  ·rfl
  ·kernel_rfl
  ·(first | (simp [put_at, put_none, fr0_at]; done) | rfl)
  ·(first | (simp [put_at, put_none, fr0_at]; done) | rfl)
  ·(first | (simp [put_at, put_none, fr0_at]; done) | rfl)
  ·(first | (simp [put_at, put_none, fr0_at]; done) | rfl)
  ·simp [hs]
  ·omega
  ·omega
  ·omega
  ·omega
 refine aw_seq ?_
 refine aw_seq ?_
 (refine aw_ops (by kernel_rfl) (fun K hK => ?_); simp (disch := first | omega | (simp only [lnS]; try omega)) [-getElem?_pos, -getElem?_neg, hne]; refine hK _ _ ?_; clear hK K)
 refine aw_f (by (first | (simp [eval_tmp, put_at, hne]; done) | (simp [eval_tmp, put_at, hne]; omega))) (by kernel_rfl) ?_
 refine aw_skip ?_
 refine aw_seq ?_
 (refine aw_ops (by kernel_rfl) (fun K hK => ?_); simp (disch := first | omega | (simp only [lnS]; try omega)) [-getElem?_pos, -getElem?_neg]; refine hK _ _ ?_; clear hK K)
 refine aw_seq ?_
 refine aw_tailA 6 (by kernel_rfl) (by kernel_rfl) (by kernel_rfl) ?_
 simp only [List.take_succ_cons, List.take_zero, List.drop_succ_cons, List.drop_zero]
 simp (disch := first | omega | (simp only [lnS]; try omega)) [-getElem?_pos, -getElem?_neg, nt_slG, -xslice, f1, f2]
 have hdv : (R.drop a').flatten.length / 104 = n - a' := by rw [hBl]; exact Nat.mul_div_cancel _ (by omega)
 refine al_step (v := ?v2) (H' := ?hh2) (by kernel_rfl) ?a2 ?b2
 case a2 =>
  refine av_append_in (s := .tmp 22) (x := .tmp 25) (i := b) (len := a) (k := ⟨R.flatten, 60, some 104⟩) (news := (R.drop a').flatten) ?_ ?_ ht ?_ ?_ ?_ hb hnro ?_ ?_ ?_ ?_
  ·rfl
  ·kernel_rfl
  ·simp [eval_tmp, put_at]
  ·simp [eval_tmp, put_at, hs, -xcells, f3]
  ·simpa [eval_tmp, put_at] using f4
  ·rw [hs]
  ·rfl
  ·rw [hs]; omega
  ·rw [hs, hBl]; show _ ≤ R.flatten.length; rw [hfl, ← Nat.add_mul]; exact Nat.mul_le_mul_right _ (by omega)
 refine al_xl (by kernel_rfl) (fun K hK => ?_)
 simp only [hs, hdv, show a + (n - a') = n - 1 by omega]
 simp (disch := first | omega | (simp only [lnS]; try omega)) [-getElem?_pos, -getElem?_neg, nt_slG]
 refine hK _ _ ?_; clear hK K
 have hc1 : (setR R.flatten (a * 104) (R.drop a').flatten).length = n * 104 := by rw [setR_length, hfl]
 obtain ⟨C1, hC1⟩ : ∃ C1, C1 = setR R.flatten (a * 104) (R.drop a').flatten := ⟨_, rfl⟩
 rw [← hC1] at hc1 hcut ⊢
 have hb1 : hget (H.set b (some ⟨C1, 60, some 104⟩)) b = some ⟨C1, 60, some 104⟩ := hget_set_eq hbl
 refine aw_seq ?_
 refine aw_opsA 4 (by kernel_rfl) ?_
 simp only [List.take_succ_cons, List.take_zero, List.drop_succ_cons, List.drop_zero]
 simp (disch := first | omega | (simp only [lnS]; try omega)) [-getElem?_pos, -getElem?_neg, nt_slG]
 refine al_step (v := ?v3) (H' := ?hh3) (by kernel_rfl) ?a3 ?b3
 case a3 =>
  refine av_slice_room (x := .tmp 27) (lo := some (.tmp 29)) (hi := some (.tmp 30)) (i := b) (len := n - 1) (l := ((n - 1 : Nat) : Int)) (h := ((n : Nat) : Int)) (k := ⟨C1, 60, some 104⟩) ?_ ?_ ht ?_ ?_ ?_ hb1 hnro ?_ ?_ ?_ ?_ ?_
  ·rfl
  ·kernel_rfl
  ·simp [eval_tmp, put_at]
  ·simp [bnd, asInt?, eval_tmp, put_at]
  ·simp [bnd, asInt?, eval_tmp, put_at]
  ·rw [hs]
  ·rw [hs]; omega
  ·omega
  ·omega
  ·rw [hs]; show _ ≤ C1.length; rw [hc1]; simp
 rw [if_neg (by omega), hs, Int.toNat_natCast, Int.toNat_natCast, show n - (n - 1) = 1 by omega]
 refine al_step (v := ?v4) (H' := ?hh4) (by kernel_rfl) ?a4 (al_nil ?b4)
 case a4 =>
  refine av_clear (x := .tmp 31) (i := b) (off := (n - 1) * 104) (len := 1) (c := 2) (k := ⟨C1, 60, some 104⟩) (z := z) ?_ ?_ ht ?_ hb1 hnro ?_ ?_ hz ?_ hzp ?_
  ·rfl
  ·kernel_rfl
  ·simp [eval_tmp, put_at]
  ·rfl
  ·rw [hs]; omega
  ·rw [hs, hzl]
  ·rw [hs]; show _ ≤ C1.length; rw [hc1, ← Nat.add_mul]; exact Nat.mul_le_mul_right _ (by omega)
 simp only [hs]
 rw [hcut _ (by simp), List.set_set]
 refine aw_seq ?_
 (refine aw_ops (by kernel_rfl) (fun K hK => ?_); simp (disch := first | omega | (simp only [lnS]; try omega)) [-getElem?_pos, -getElem?_neg, nt_slG]; refine hK _ _ ?_; clear hK K)
 (refine aw_ret ?_; simp (disch := first | omega | (simp only [lnS]; try omega)) [-getElem?_pos, -getElem?_neg, thenQ_ret, scopeQ_ret, inBlockQ_ret, RQ, resL, resV])
 exact ⟨_, rfl⟩
end
section
theorem rows_valHt {D : AH} {b : Nat} {T : TypeId} {es : Option Nat} {R : List (List Value)} {Z : List Value} {L : List HeldD} (hb : hget D b = some ⟨R.flatten ++ Z, T, es⟩) (hl : R.length = L.length) (hw : ∀ x ∈ L, x.Wf) (h : ∀ (k : Nat) (us : List Value) (x : HeldD), R[k]? = some us → L[k]? = some x → us.length = 104 ∧ ValL D x.row us) : HdV D (.slice (some ⟨b, 0, none⟩) L.length L.length) L := by
 have hR : ∀ r ∈ R, r.length = 104 := fun r hr => by
  obtain ⟨k, hk⟩ := List.getElem?_of_mem hr
  have hkl := (List.getElem?_eq_some_iff.1 hk).1
  exact (h k r _ hk (List.getElem?_eq_getElem (show k < L.length by omega))).1
 have := CD.Val.sl (H := D) (sz := 104) (rows := L.map HeldD.row) hb (by rw [List.length_map]; show _ ≤ (R.flatten ++ Z).length; rw [List.length_append, fl_len hR, hl]; omega) (fun row hr => by
  obtain ⟨x, hx, rfl⟩ := List.mem_map.1 hr
  exact held_row_len (hw x hx)) (fun i row c d v hi hc hv => by
  rw [List.getElem?_map] at hi
  cases hx : L[i]? with
  | none => rw [hx] at hi; cases hi
  | some x =>
   rw [hx] at hi
   cases hi
   have hil := (List.getElem?_eq_some_iff.1 hx).1
   obtain ⟨us, hus⟩ : ∃ us, R[i]? = some us := ⟨_, List.getElem?_eq_getElem (by omega)⟩
   obtain ⟨h1, h2⟩ := h i us x hus hx
   have hcl := (List.getElem?_eq_some_iff.1 hc).1
   have h2l := h2.1
   obtain ⟨u, hu⟩ : ∃ u, us[c]? = some u := ⟨_, List.getElem?_eq_getElem (by omega)⟩
   have hat := fl_at hR hus hu
   have hv' : (R.flatten ++ Z)[i * 104 + c]? = some v := hv
   rw [List.getElem?_append_left (List.getElem?_eq_some_iff.1 hat).1, hat] at hv'
   cases hv'
   exact h2.2 c d _ hc hu)
 rw [List.length_map] at this
 exact this
def WithR (l : List HeldD) (z : Int) (H : AH) (v' : Value) (H' : AH) : Prop :=
 Low H.length H H' ∧ ∃ sv, v' = .tuple #[sv, .int .i64 (witE l z)] ∧ ((witE l z = 0 ∧ NewGH H.length H' sv (withoutL l z.toNat)) ∨ (witE l z ≠ 0 ∧ sv = .slice none 0 0))
theorem WithR.bad {l : List HeldD} {y : Int} {H H' : AH} {z : Int} (hl : Low H.length H H') (h : witE l y = z) (hz : z ≠ 0) : WithR l y H (.tuple #[.slice none 0 0, .int .i64 z]) H' :=
 ⟨hl, _, by rw [h], .inr ⟨by rw [h]; exact hz, rfl⟩⟩
attribute [local simp] wb_bool wb_undef with_lit XL_nil XL_cons XLc_val XLc_call step1_eq stepW_t stepW_f stepC_n stepC_s stepX_s stepX_n stepN_s calleeX xrecv oneV xop_eq xopR_s xopR_n wantedA_eq wantedG_n wantedG_s plain1_int plain1_bool plain1_string bits_i64 bits_u64 bits_u32 bits_u16 bits_u8 xeqA xagg xcmp xarr allK_iv num_iv calleeOf xread xeff xbin xint xnil xun xstr xload xconv xpart xfield xfieldAddr xindexAddr xindex bnd asInt? xslice xlen xmin xmax xbuild xfill xappend xapp2 xappstr xappmk xcap xcopy xcells eval_tmp eval_const put_at put_none fr0_at cells_agg cells_int cells_bool cells_string cells_ptr cells_slice notTuple tab iv_all hget_app hget_app0 hget_cons0 hget_cons set_app set_app0 setR setR_one QL_nil QL_cons QLc_val stepQ_t stepQ_f stepQC_n stepQC_s stepQX_s SL_nil SL_cons SLc_val stepS_t stepS_f ltT ltF leT leF eqT eqF ltTn ltFn leTn leFn eqTn eqFn beqT beqF bneT bneF wi64 wu64 wu32 wu16 wu8 tmodP tdivP hgetL hgetNe hgetEq setL nums_def nums_len Nat.succ_le_of_lt List.getElem?_cons_zero List.getElem?_cons_succ Option.getD_some Int.toNat_add Int.toNat_mul agM okM agB agI agS agP agL agA okB okI okS okP okSl okA
theorem without_ac {γ : Nat → Option Nat} {nro : Nat} {H : AH} {qv : Value} {l : List HeldD} {z : Int} (hQ : HdA H qv l) (hl : l.length ≤ maxLen) (hg : ∀ y ∈ l, y.got.length ≤ 1000) (hnro : nro ≤ H.length) : AC Try.prog nro γ 39 #[qv, .int .i64 z] H (WithR l z H) := by
 have q1 := hQ.nt
 have q2 := hQ.cs
 have hxl := hQ.len
 have qr := qRight_rc (γ := γ) hQ hl
 have k0 : witE l z = if rightQ l = false then 1 else if z < 0 ∨ (l.length : Int) ≤ z then 22 else 0 := rfl
 refine ac_of_aw Try.func39 rfl Try.ntmps39 Try.results39 (by simp) ?_
 refine aw_seq ?_
 (refine aw_ops (by kernel_rfl) (fun K hK => ?_); simp (disch := first | omega | (simp only [lnS]; try omega)) [-getElem?_pos, -getElem?_neg]; refine hK _ _ ?_; clear hK K)
 refine aw_seq ?_
 refine aw_seq ?_
 refine aw_ops (by kernel_rfl) (fun K hK => ?_)
 simp (disch := first | omega | (simp only [lnS]; try omega)) [-getElem?_pos, -getElem?_neg, -notTuple, q1, q2, nt_intG]
 refine ⟨by kernel_rfl, ac_of_rc qr (by simp [pv_iv, pv_int, pv_bool, pv_string, pv_tup2, pv_tup3, iv_plain, p2_int, p2_bool, p2_string]) ?_⟩
 cases hq : rightQ l with
 | false =>
  try simp (disch := first | omega | (simp only [lnS]; try omega)) [-getElem?_pos, -getElem?_neg]
  refine hK _ _ ?_; clear hK K
  refine aw_t (by (first | (simp [eval_tmp, put_at]; done) | (simp [eval_tmp, put_at]; omega))) (by kernel_rfl) ?_
  refine aw_seq ?_
  (refine aw_ops (by kernel_rfl) (fun K hK => ?_); simp (disch := first | omega | (simp only [lnS]; try omega)) [-getElem?_pos, -getElem?_neg, nt_slG, nt_intG]; refine hK _ _ ?_; clear hK K)
  (refine aw_ret ?_; simp (disch := first | omega | (simp only [lnS]; try omega)) [-getElem?_pos, -getElem?_neg, thenQ_ret, scopeQ_ret, inBlockQ_ret, RQ, resL, resV])
  exact WithR.bad (Low.refl (Nat.le_refl _)) (by rw [k0, if_pos hq]) (by decide)
 | true =>
 rw [hq, if_neg (by simp)] at k0
 try simp (disch := first | omega | (simp only [lnS]; try omega)) [-getElem?_pos, -getElem?_neg]
 refine hK _ _ ?_; clear hK K
 refine aw_f (by (first | (simp [eval_tmp, put_at]; done) | (simp [eval_tmp, put_at]; omega))) (by kernel_rfl) ?_
 refine aw_skip ?_
 refine aw_seq ?_
 refine aw_seq ?_
 refine aw_cut (fun α G => α 16 = .bool (decide (z < 0 ∨ (l.length : Int) ≤ z)) ∧ α 0 = qv ∧ α 1 = .int .i64 z ∧ H = G) ?_ ?_
 ·by_cases h0 : z < 0
  ·(refine aw_ops (by kernel_rfl) (fun K hK => ?_); simp (disch := first | omega | (simp only [lnS]; try omega)) [-getElem?_pos, -getElem?_neg, h0, nt_intG]; refine hK _ _ ?_; clear hK K)
   exact ⟨by rw [decide_eq_true (.inl h0)]; (first | (simp [put_at, put_none, fr0_at]; done) | rfl), by (first | (simp [put_at, put_none, fr0_at]; done) | rfl), by (first | (simp [put_at, put_none, fr0_at]; done) | rfl), rfl⟩
  ·by_cases h1 : (l.length : Int) ≤ z
   ·(refine aw_ops (by kernel_rfl) (fun K hK => ?_); simp (disch := first | omega | (simp only [lnS]; try omega)) [-getElem?_pos, -getElem?_neg, h0, h1, -notTuple, q1, q2, nt_intG, -xlen, hxl]; refine hK _ _ ?_; clear hK K)
    exact ⟨by rw [decide_eq_true (.inr h1)]; (first | (simp [put_at, put_none, fr0_at]; done) | rfl), by (first | (simp [put_at, put_none, fr0_at]; done) | rfl), by (first | (simp [put_at, put_none, fr0_at]; done) | rfl), rfl⟩
   ·(refine aw_ops (by kernel_rfl) (fun K hK => ?_); simp (disch := first | omega | (simp only [lnS]; try omega)) [-getElem?_pos, -getElem?_neg, h0, h1, -notTuple, q1, q2, nt_intG, -xlen, hxl]; refine hK _ _ ?_; clear hK K)
    exact ⟨by rw [decide_eq_false (fun h => h.elim h0 h1)]; (first | (simp [put_at, put_none, fr0_at]; done) | rfl), by (first | (simp [put_at, put_none, fr0_at]; done) | rfl), by (first | (simp [put_at, put_none, fr0_at]; done) | rfl), rfl⟩
 rintro α _ ⟨q17, q0, q1', rfl⟩
 by_cases hz : z < 0 ∨ (l.length : Int) ≤ z
 ·rw [decide_eq_true hz] at q17
  rw [if_pos hz] at k0
  refine aw_t (by (first | (simp [eval_tmp, put_at, q17]; done) | (simp [eval_tmp, put_at, q17]; omega))) (by kernel_rfl) ?_
  refine aw_seq ?_
  (refine aw_ops (by kernel_rfl) (fun K hK => ?_); simp (disch := first | omega | (simp only [lnS]; try omega)) [-getElem?_pos, -getElem?_neg, nt_slG, nt_intG]; refine hK _ _ ?_; clear hK K)
  (refine aw_ret ?_; simp (disch := first | omega | (simp only [lnS]; try omega)) [-getElem?_pos, -getElem?_neg, thenQ_ret, scopeQ_ret, inBlockQ_ret, RQ, resL, resV])
  exact WithR.bad (Low.refl (Nat.le_refl _)) k0 (by decide)
 rw [decide_eq_false hz] at q17
 rw [if_neg hz] at k0
 refine aw_f (by (first | (simp [eval_tmp, put_at, q17]; done) | (simp [eval_tmp, put_at, q17]; omega))) (by kernel_rfl) ?_
 refine aw_skip ?_
 obtain ⟨a, rfl⟩ : ∃ a : Nat, z = (a : Int) := ⟨z.toNat, by omega⟩
 have ha : a < l.length := by omega
 have hl24 := rightQ_len hq
 obtain ⟨N, hc1⟩ := deepHeld_ac (nro := nro) (γ := γ) hQ (by omega) (rightQ_smH hq hg) hnro
 obtain ⟨n, hn0⟩ : ∃ n, n = H.length := ⟨_, rfl⟩
 refine aw_seq ?_
 refine aw_ops (by kernel_rfl) (fun K hK => ?_)
 simp (disch := first | omega | (simp only [lnS]; try omega)) [-getElem?_pos, -getElem?_neg, q0, -notTuple, q1, q2, nt_intG]
 refine ⟨by kernel_rfl, hc1.mono ?_⟩
 rintro v G1 ⟨rfl, hN, lw1, R, hR, bR⟩
 have hRl := hR.1
 have hle1 := lw1.2
 have hdel := deleteH_ac (nro := nro) (γ := γ) (H := G1) (b := H.length) (a := a) bR hnro hR.len (by omega) (by omega)
 rw [hRl] at hdel
 have hai : (a : Int) + 1 = ((a + 1 : Nat) : Int) := by omega
 obtain ⟨a', ha'⟩ : ∃ a' : Nat, a' = a + 1 := ⟨_, rfl⟩
 rw [← ha'] at hdel hai
 have hai2 : IntKind.i64.wrap (a' : Int) = (a' : Int) := wi64 (by omega)
 try simp (disch := first | omega | (simp only [lnS]; try omega)) [-getElem?_pos, -getElem?_neg, q1', hai, hai2, nt_slG, nt_intG]
 refine ⟨by kernel_rfl, hdel.mono ?_⟩
 rintro v G2 ⟨rfl, Z, rfl⟩
 try simp (disch := first | omega | (simp only [lnS]; try omega)) [-getElem?_pos, -getElem?_neg, nt_slG, nt_intG]
 refine hK _ _ ?_; clear hK K
 (refine aw_ret ?_; simp (disch := first | omega | (simp only [lnS]; try omega)) [-getElem?_pos, -getElem?_neg, thenQ_ret, scopeQ_ret, inBlockQ_ret, RQ, resL, resV, nt_slG, nt_intG])
 refine ⟨⟨fun j hj => (hget_set_ne (by omega)).trans (lw1.1 j hj), by rw [List.length_set]; omega⟩, _, by rw [k0], .inl ⟨k0, fun D hD => ?_⟩⟩
 rw [Int.toNat_natCast]
 unfold withoutL
 have hL : (l.take a ++ l.drop (a + 1)).length = l.length - 1 := by
  rw [List.length_append, List.length_take, List.length_drop]; omega
 have hRL : (R.take a ++ R.drop (a + 1)).length = l.length - 1 := by
  rw [List.length_append, List.length_take, List.length_drop]; omega
 have hbD : hget D H.length = some ⟨(R.take a ++ R.drop (a + 1)).flatten ++ Z, 60, some 104⟩ := by
  rw [hD _ (Nat.le_refl _) (by rw [List.length_set]; exact hget_lt bR), hget_set_eq (hget_lt bR), ha', List.flatten_append, List.append_assoc]
 rw [← hL]
 refine rows_valHt hbD (by rw [hRL, hL]) (fun y hy => ?_) (fun k us y hk hy => ?_)
 ·rcases List.mem_append.1 hy with hy | hy
  ·exact hQ.wf y (List.mem_of_mem_take hy)
  ·exact hQ.wf y (List.mem_of_mem_drop hy)
 ·have hrow : ∀ (k : Nat) (us : List Value) (y : HeldD), R[k]? = some us → l[k]? = some y → us.length = 104 ∧ ValL D y.row us := fun k us y hk hy => by
   have := hR.2 k us y hk hy
   refine ⟨this.1, this.2 D (fun j h1 h2 => (hD j (by omega) (by rw [List.length_set]; exact h2)).trans (hget_set_ne (by omega)))⟩
  have h1 : (R.take a).length = a := by rw [List.length_take]; omega
  have h2 : (l.take a).length = a := by rw [List.length_take]; omega
  rcases Nat.lt_or_ge k a with hka | hka
  ·rw [List.getElem?_append_left (by omega), List.getElem?_take_of_lt hka] at hk hy
   exact hrow k us y hk hy
  ·rw [List.getElem?_append_right (by omega), List.getElem?_drop] at hk hy
   rw [h1] at hk
   rw [h2] at hy
   exact hrow _ us y hk hy
theorem withoutOK : WithoutOK := fun γ nro H qv l z hQ hl hg hnro => without_ac hQ hl hg hnro
end
section
attribute [local simp] wb_bool wb_undef with_lit XL_nil XL_cons XLc_val XLc_call step1_eq stepW_t stepW_f stepC_n stepC_s stepX_s stepX_n stepN_s calleeX xrecv oneV xop_eq xopR_s xopR_n wantedA_eq wantedG_n wantedG_s plain1_int plain1_bool plain1_string bits_i64 bits_u64 bits_u32 bits_u16 bits_u8 xeqA xagg xcmp xarr allK_iv num_iv calleeOf xread xeff xbin xint xnil xun xstr xload xconv xpart xfield xfieldAddr xindexAddr xindex bnd asInt? xslice xlen xmin xmax xbuild xfill xappend xapp2 xappstr xappmk xcap xcopy xcells eval_tmp eval_const put_at put_none fr0_at cells_agg cells_int cells_bool cells_string cells_ptr cells_slice notTuple tab iv_all hget_app hget_app0 hget_cons0 hget_cons set_app set_app0 setR setR_one QL_nil QL_cons QLc_val stepQ_t stepQ_f stepQC_n stepQC_s stepQX_s SL_nil SL_cons SLc_val stepS_t stepS_f ltT ltF leT leF eqT eqF ltTn ltFn leTn leFn eqTn eqFn beqT beqF bneT bneF wi64 wu64 wu32 wu16 wu8 tmodP tdivP hgetL hgetNe hgetEq setL nums_def nums_len Nat.succ_le_of_lt List.getElem?_cons_zero List.getElem?_cons_succ Option.getD_some Int.toNat_add Int.toNat_mul agM okM agB agI agS agP agL agA okB okI okS okP okSl okA
theorem qalive_rc {γ : Nat → Option Nat} {H : AH} : AC Try.prog H.length γ 35 #[] H (fun v' _ => v' = .bool true) := by
 have k1 := build_key 1
 have k2 := build_key 2
 have k3 := build_key 3
 have p2 : (iv .u8 (key1 2)).length = 32 := by rw [iv_length, key1_32]
 have t2 : (iv .u8 (key1 2)).take 32 = iv .u8 (key1 2) := List.take_of_length_le (by omega)
 have x0 : notTuple (.slice none 0 0) = true := rfl
 have x1 : (Value.slice none 0 0).cells = #[.slice none 0 0] := rfl
 obtain ⟨n, hn⟩ : ∃ n, n = H.length := ⟨_, rfl⟩
 rw [← hn]
 refine ac_of_aw Try.func35 rfl Try.ntmps35 Try.results35 (by simp) ?_
 refine aw_seq ?_
 (refine aw_ops (by kernel_rfl) (fun K hK => ?_); simp (disch := first | omega | (simp only [lnS]; try omega)) [-getElem?_pos, -getElem?_neg]; refine hK _ _ ?_; clear hK K)
 refine aw_seq ?_
 refine aw_ops (by kernel_rfl) (fun K hK => ?_)
 simp (disch := first | omega | (simp only [lnS]; try omega)) [-getElem?_pos, -getElem?_neg, -xbuild, k2, k3, nt_aggG]
 refine ⟨by kernel_rfl, (updateQ_ac (nro := n) (γ := γ) (H := H) (k := key1 2) (key1_32 2) (by omega)).mono ?_⟩
 rintro v G1 ⟨lw1, rfl, b1⟩
 have hle1 := lw1.2
 have hb := build_h1 ⟨H.length + 2, 0, none⟩
 have hO1e : opRow (opC1 1 1 4 [key1 2] []) (.slice (some ⟨H.length + 2, 0, none⟩) 1 1) (.slice none 0 0) (.slice none 0 0) = opRow hO1 (.slice (some ⟨H.length + 2, 0, none⟩) 1 1) (.slice none 0 0) (.slice none 0 0) := rfl
 rw [hO1e]
 obtain ⟨pv, wv, bv, kv, hC1⟩ := held_hc (G := G1) (x := hD1) (pv := .slice (some ⟨H.length + 2, 0, none⟩) 1 1) (wv := .slice none 0 0) (bv := .slice none 0 0) (kv := .slice none 0 0) hD1_wf (key1_ksv b1) (nil3 G1).2.1 (nil3 G1).2.2 (nil3 G1).1
 have hr1 := heldRow_len hD1_wf (.slice (some ⟨H.length + 2, 0, none⟩) 1 1) (.slice none 0 0) (.slice none 0 0) (.slice none 0 0)
 have hpt := (put_rc (γ := γ) (nil_hda G1) hC1 hD1_wf (Nat.zero_le _) (fun y hy => by cases hy) (Nat.zero_le _)).thaw (nro := n) (fun v G' h => ⟨h.1.2, h.1.1⟩)
 generalize heldRow hD1 (.slice (some ⟨H.length + 2, 0, none⟩) 1 1) (.slice none 0 0) (.slice none 0 0) (.slice none 0 0) = R1 at *
 generalize opRow hO1 (.slice (some ⟨H.length + 2, 0, none⟩) 1 1) (.slice none 0 0) (.slice none 0 0) = RO at *
 simp (disch := first | omega | (simp only [lnS]; try omega)) [-getElem?_pos, -getElem?_neg, -xbuild, hb, nt_aggG]
 refine ⟨by kernel_rfl, hpt.mono ?_⟩
 rintro v G2 ⟨lw2, sv, rfl, ⟨_, hnew⟩ | ⟨hbad, _⟩⟩
 case inr => exact absurd qdat1.1 hbad
 obtain ⟨v1, v2⟩ := hnew.sh
 have N1 : HdA G2 sv [hD1] := hnew.hda q1_wf (fun _ _ _ => rfl)
 have low2 : Low n H G2 := ⟨fun j hj => (lw2.1 j (by omega)).trans (lw1.1 j (by omega)), by have := lw2.2; omega⟩
 rw [qdat1.1]
 clear hnew lw2 hpt hC1 b1 lw1 hb
 simp (disch := first | omega | (simp only [lnS]; try omega)) [-getElem?_pos, -getElem?_neg, -notTuple, v1, v2, nt_intG]
 refine hK _ _ ?_; clear hK K
 have hle2 := low2.2
 have wa := wanted_ac (γ := γ) (nro := n) (nil_nda G2) (Nat.zero_le _) N1 (by simp [maxLen]) (by rw [show ([hD1] : List HeldD).length = 1 from rfl, qdat2]; simp) (by rw [show ([hD1] : List HeldD).length = 1 from rfl, qdat2]; simp) (by omega)
 refine aw_seq ?_
 refine aw_ops (by kernel_rfl) (fun K hK => ?_)
 simp (disch := first | omega | (simp only [lnS]; try omega)) [-getElem?_pos, -getElem?_neg, -notTuple, v1, v2, x0, x1]
 refine ⟨by kernel_rfl, wa.mono ?_⟩
 rintro w G3 ⟨lw3, F, hF, hFl⟩
 rw [show (rightG [] && rightQ [hD1]) = true by rw [qdat3.2.2.1]; rfl, if_pos rfl, show ([hD1] : List HeldD).length = 1 from rfl, qdat2, sortK_one, kr_one] at hF
 obtain ⟨w1, w2⟩ := own_nt hF
 try simp (disch := first | omega | (simp only [lnS]; try omega)) [-getElem?_pos, -getElem?_neg, -notTuple, w1, w2]
 refine hK _ _ ?_; clear hK K
 have hle3 := lw3.2
 have N1 := N1.lowG lw3
 have low3 : Low n H G3 := ⟨fun j hj => (lw3.1 j (by omega)).trans (low2.1 j hj), by omega⟩
 have hKw : KsV G3 w [key1 2] := kr_ksv (by rw [kr_one]; exact hF) (fun k hk => by rw [List.mem_singleton] at hk; subst hk; exact key1_32 2)
 have r1 : List.range 1 = [0] := rfl
 have bo := build_opc ⟨G3.length, 0, none⟩ 1
 rw [opRow_c1 0 1 1 [] [0]] at bo
 have hO2e : opRow (opC1 0 1 1 [] [0]) (.slice none 0 0) (.slice (some ⟨G3.length, 0, none⟩) 1 1) (.slice none 0 0) = opRow hO2 (.slice none 0 0) (.slice (some ⟨G3.length, 0, none⟩) 1 1) (.slice none 0 0) := rfl
 rw [hO2e] at bo
 have hb := build_h2 ⟨G3.length, 0, none⟩
 obtain ⟨RO2, hRO2⟩ : ∃ r, r = opRow hO2 (.slice none 0 0) (.slice (some ⟨G3.length, 0, none⟩) 1 1) (.slice none 0 0) := ⟨_, rfl⟩
 rw [← hRO2] at bo hb
 obtain ⟨lw4, b4⟩ := boxed2 (H := G3) (iv .i64 [0]) 3 1
 have hle4 := lw4.2
 have hGe : G3 ++ [some ⟨[.int .i64 0], 3, some 1⟩] = G3 ++ [some ⟨iv .i64 [0], 3, some 1⟩] := rfl
 obtain ⟨R2, hR2⟩ : ∃ R2, R2 = heldRow hD2 (.slice none 0 0) (.slice (some ⟨G3.length, 0, none⟩) 1 1) (.slice none 0 0) (.slice none 0 0) := ⟨_, rfl⟩
 rw [← hR2] at hb
 refine aw_seq ?_
 refine aw_ops (by kernel_rfl) (fun K hK => ?_)
 simp (disch := first | omega | (simp only [lnS]; try omega)) [-getElem?_pos, -getElem?_neg, -xbuild, k1, k2, bo, hb, -notTuple, v1, v2, nt_intG, nt_slG, nt_aggG, r1]
 try rw [hGe]
 generalize G3 ++ [some ⟨iv .i64 [0], 3, some 1⟩] = G4 at *
 obtain ⟨pv, wv, bv, kv, hC2⟩ := held_hc (G := G4) (x := hD2) (pv := .slice none 0 0) (wv := .slice (some ⟨G3.length, 0, none⟩) 1 1) (bv := .slice none 0 0) (kv := .slice none 0 0) hD2_wf (nil3 G4).1 (ints_inv (n := 1) b4 rfl) (nil3 G4).2.2 (nil3 G4).1
 rw [← hR2] at hC2
 have hpt := (put_rc (γ := γ) (N1.lowG lw4) hC2 hD2_wf (by simp [maxLen]) (fun y hy => by rw [List.mem_singleton] at hy; subst hy; exact Nat.zero_le _) (Nat.zero_le _)).thaw (nro := n) (fun v G' h => ⟨h.1.2, h.1.1⟩)
 refine ⟨by kernel_rfl, hpt.mono ?_⟩
 rintro v G5 ⟨lw5, su, rfl, ⟨_, hnew⟩ | ⟨hbad, _⟩⟩
 case inr => exact absurd qdat1.2 hbad
 obtain ⟨u1, u2⟩ := hnew.sh
 have N2 : HdA G5 su [hD1, hD2] := hnew.hda q2_wf (fun _ _ _ => rfl)
 have lw35 := lw4.both lw5
 have low5 : Low n H G5 := ⟨fun j hj => (lw35.1 j (by omega)).trans (low3.1 j hj), by have := lw35.2; omega⟩
 have N1 := N1.lowG lw35
 have hKw := hKw.low lw35.1
 rw [qdat1.2]
 clear hnew lw5 hpt hC2 b4 lw4 hb bo
 simp (disch := first | omega | (simp only [lnS]; try omega)) [-getElem?_pos, -getElem?_neg, -notTuple, u1, u2, nt_intG]
 refine hK _ _ ?_; clear hK K
 have hle5 := low5.2
 refine aw_seq ?_
 refine aw_ops (by kernel_rfl) (fun K hK => ?_)
 simp (disch := first | omega | (simp only [lnS]; try omega)) [-getElem?_pos, -getElem?_neg, -notTuple, u1, u2, nt_intG]
 refine ⟨by kernel_rfl, (withoutOK γ n G5 su [hD1, hD2] 0 N2 (by simp [maxLen]) (fun y hy => by simp at hy; rcases hy with rfl | rfl <;> exact Nat.zero_le _) (by omega)).mono ?_⟩
 rintro v G6 ⟨lw6, st, rfl, ⟨_, hnew⟩ | ⟨hbad, _⟩⟩
 case inr => exact absurd wit0.1 hbad
 obtain ⟨t1, t2'⟩ := hnew.sh
 rw [show withoutL [hD1, hD2] (0 : Int).toNat = [hD2] from wit0.2] at hnew
 have N3 : HdA G6 st [hD2] := hnew.hda (fun x hx => by rw [List.mem_singleton] at hx; subst hx; exact hD2_wf) (fun _ _ _ => rfl)
 rw [wit0.1]
 have low6 : Low n H G6 := ⟨fun j hj => (lw6.1 j (by omega)).trans (low5.1 j hj), by have := lw6.2; omega⟩
 have N1 := N1.lowG lw6
 have N2 := N2.lowG lw6
 have hKw := hKw.low lw6.1
 clear hnew
 simp (disch := first | omega | (simp only [lnS]; try omega)) [-getElem?_pos, -getElem?_neg, -notTuple, t1, t2', nt_intG]
 refine hK _ _ ?_; clear hK K
 have hle6 := low6.2
 have aW := KsV.acc hKw (fun k hk => by rw [List.mem_singleton] at hk; subst hk; exact key1_32 2)
 obtain ⟨aw1, aw2, awl, awa⟩ := aW
 obtain ⟨wp, wx, wpn, wi, wxn, we, wl⟩ := awa 0 (by simp)
 have wl := wl G6 (Low.refl (Nat.le_refl _))
 obtain rfl : wx = .agg (iv .u8 (key1 2)).toArray := we
 have rd1 := ready_rc (γ := γ) (nil_nda G6) (Nat.zero_le _) N1 (by simp [maxLen])
 have rd2 := ready_rc (γ := γ) (nil_nda G6) (Nat.zero_le _) N2 (by simp [maxLen])
 have fi := qfind_rc (γ := γ) N2 (by simp [maxLen]) (key1_32 2)
 have ri := qRight_rc (γ := γ) N2 (by simp [maxLen])
 have xl3 := N3.len
 rw [show ([hD1, hD2] : List HeldD).length = 2 from rfl, qdat3.2.2.2.2] at fi
 rw [qdat3.2.2.2.1] at ri
 rw [show (rightG [] && rightQ [hD1]) = true by rw [qdat3.2.2.1]; rfl, if_pos rfl, qdat3.1] at rd1
 rw [show (rightG [] && rightQ [hD1, hD2]) = true by rw [qdat3.2.2.2.1]; rfl, if_pos rfl, qdat3.2.1] at rd2
 have wi : xindexAddr Try.prog 36 w (.int .i64 0) = some wp := wi
 have awl : xlen Try.prog 36 w = some (.int .i64 1) := awl
 have xl3 : xlen Try.prog 58 st = some (.int .i64 1) := xl3
 refine aw_seq ?_
 refine aw_ops (by kernel_rfl) (fun K hK => ?_)
 simp (disch := first | omega | (simp only [lnS]; try omega)) [-getElem?_pos, -getElem?_neg, -notTuple, nt_intG, nt_aggG, v1, v2, u1, u2, t1, t2', aw1, aw2, wpn, wxn, -xlen, awl, xl3, -xindexAddr, wi, -xload, wl, k2, -xbuild, x0, x1, p2, key1_32]
 refine ⟨by kernel_rfl, ac_of_rc rd1 (by simp [pv_iv, pv_int, pv_bool, pv_string, pv_tup2, pv_tup3, iv_plain, p2_int, p2_bool, p2_string]) ?_⟩
 simp (disch := first | omega | (simp only [lnS]; try omega)) [-getElem?_pos, -getElem?_neg, -notTuple, nt_intG, u1, u2, x0, x1]
 refine ⟨by kernel_rfl, ac_of_rc rd2 (by simp [pv_iv, pv_int, pv_bool, pv_string, pv_tup2, pv_tup3, iv_plain, p2_int, p2_bool, p2_string]) ?_⟩
 simp (disch := first | omega | (simp only [lnS]; try omega)) [-getElem?_pos, -getElem?_neg, -notTuple, nt_intG, nt_aggG, u1, u2, t1, t2', -xlen, xl3, k2, -xbuild]
 refine ⟨by kernel_rfl, ac_of_rc fi (by simp [pv_iv, pv_int, pv_bool, pv_string, pv_tup2, pv_tup3, iv_plain, p2_int, p2_bool, p2_string]) ?_⟩
 simp (disch := first | omega | (simp only [lnS]; try omega)) [-getElem?_pos, -getElem?_neg, -notTuple, nt_intG, u1, u2]
 refine ⟨by kernel_rfl, ac_of_rc ri (by simp [pv_iv, pv_int, pv_bool, pv_string, pv_tup2, pv_tup3, iv_plain, p2_int, p2_bool, p2_string]) ?_⟩
 try simp (disch := first | omega | (simp only [lnS]; try omega)) [-getElem?_pos, -getElem?_neg]
 refine hK _ _ ?_; clear hK K
 (refine aw_ret ?_; simp (disch := first | omega | (simp only [lnS]; try omega)) [-getElem?_pos, -getElem?_neg, thenQ_ret, scopeQ_ret, inBlockQ_ret, RQ, resL, resV])
end
section
def Wr (b : Nat) (T : TypeId) (sz len : Nat) (Z : List Value) (A G : AH) : Prop :=
 G.length = A.length ∧ (∀ j, j ≠ b → hget G j = hget A j) ∧ ∃ C, hget G b = some ⟨C ++ Z, T, some sz⟩ ∧ C.length = len * sz
theorem Wr.refl {b : Nat} {T : TypeId} {sz len : Nat} {C Z : List Value} {A : AH} (h : hget A b = some ⟨C ++ Z, T, some sz⟩) (hl : C.length = len * sz) : Wr b T sz len Z A A := ⟨rfl, fun _ _ => rfl, C, h, hl⟩
theorem Wr.store {b : Nat} {T : TypeId} {sz len i : Nat} {C Z row : List Value} {A G : AH} (h : Wr b T sz len Z A G) (hb : hget G b = some ⟨C ++ Z, T, some sz⟩) (hl : C.length = len * sz) (hi : i < len) (hr : row.length = sz) : Wr b T sz len Z A (G.set b (some ⟨setR (C ++ Z) (i * sz) row, T, some sz⟩)) := by
 have h1 : i * sz + sz ≤ len * sz := by
  have := Nat.mul_le_mul_right sz (show i + 1 ≤ len by omega)
  rw [Nat.add_mul] at this
  omega
 refine ⟨by rw [List.length_set]; exact h.1, fun j hj => by rw [hget_set_ne (fun e => hj e.symm)]; exact h.2.1 j hj, setR C (i * sz) row, ?_, by rw [setR_length]; exact hl⟩
 rw [hget_set_eq (hget_lt hb), setR_left _ _ _ _ (by omega)]
end
section
variable {l m : List NodeD}
theorem Sub.ready (h : Sub l m) {i : Nat} (hi : i < l.length) (hno : ∀ j, j < m.length → (nd m j).id ≠ (nd l i).id) (hp0 : ∀ p ∈ (nd l i).op.parents, ∃ j, j < m.length ∧ (nd m j).id = p) (h40 : l.length ≤ 90) : addE m (nd l i).id (nd l i).op = 0 := by
 have hturn := right_turn h.left hi
 unfold turnB at hturn
 simp only [Bool.and_eq_true, decide_eq_true_eq, beq_iff_eq, decide_eq_decide] at hturn
 obtain ⟨hk1, hau, hsq⟩ := hturn
 have f1 := h.right
 have f2 := right_op h.left hi
 have f3 : findN m m.length (nd l i).id = none := findN_eq_none hno
 have hpar : ∀ p ∈ (nd l i).op.parents, ∀ a, findN l i p = some a → ∃ j, j < m.length ∧ findN m m.length p = some j ∧ (nd m j).id = (nd l a).id := fun p hp a ha => by
  obtain ⟨j, hj, e⟩ := hp0 p hp
  have hid := findN_id ha
  refine ⟨j, hj, ?_, e.trans hid.symm⟩
  rw [← e]
  exact find_self h.right hj (Nat.le_refl _)
 have hthere : ∀ i' : Nat, (i' : Int) ∈ (nd l i).past → ∃ j, j < m.length ∧ (nd m j).id = (nd l i').id := fun i' hin => by
  rw [in_past h.left hi] at hin
  obtain ⟨p, hp, a, ha, hor⟩ := hin
  have hal := findN_lt ha
  obtain ⟨b, hb, _, eb⟩ := hpar p hp a ha
  rcases hor with rfl | hor
  ·exact ⟨b, hb, eb⟩
  ·exact h.closed b hb a i' (by omega) eb hor
 have f5 : (nd l i).op.parents.all (fun p => (findN m m.length p).isSome) = true := by
  rw [List.all_eq_true]
  intro p hp
  obtain ⟨a, ha⟩ := right_par h.left hi hp
  obtain ⟨j, hj, e, _⟩ := hpar p hp a ha
  rw [e]; rfl
 have hbefore : ∀ j, j < m.length → ∀ i', i' < l.length → (nd m j).id = (nd l i').id → (nd l i').op.author = (nd l i).op.author → i' < i := fun j hj i' hi' e ea => by
  refine Classical.byContradiction fun hge => ?_
  rcases Nat.eq_or_lt_of_le (Nat.le_of_not_lt hge) with rfl | hgt
  ·exact hno j hj e
  ·obtain ⟨j', hj', e'⟩ := h.closed j hj i' i hi' e (author_ahead h.left hgt hi' ea.symm)
   exact hno j' hj' e'
 have hall : autA m m.length (nd l i).op.author (pastL m m.length (nd l i).op.parents) = true := by
  unfold autA at hau ⊢
  rw [List.all_eq_true] at hau ⊢
  intro j hj
  rw [List.mem_range] at hj
  by_cases ea : (nd m j).op.author = (nd l i).op.author
  ·obtain ⟨i', hi', e, eo⟩ := h.at_ j hj
   have hlt' := hbefore j hj i' hi' e (by rw [← eo]; exact ea)
   have := hau i' (List.mem_range.2 hlt')
   rw [← eo] at this
   have hin : (i' : Int) ∈ (nd l i).past := by simpa [ea] using this
   rw [in_past h.left hi] at hin
   obtain ⟨p, hp, a, ha, hor⟩ := hin
   have hal := findN_lt ha
   obtain ⟨b, hb, hfb, eb⟩ := hpar p hp a ha
   have hinm : (j : Int) ∈ pastL m m.length (nd l i).op.parents := by
    rw [mem_pastL, inB_iff]
    refine ⟨hj, p, hp, b, hfb, ?_⟩
    rcases hor with rfl | hor
    ·exact .inl (ids_inj h.right hb hj (eb.trans e.symm))
    ·exact .inr ((h.past b hb a j i' (by omega) eb hj hi' e).2 hor)
   simp [hinm]
  ·have : ((nd m j).op.author == (nd l i).op.author) = false := by simpa using ea
   simp [this]
 have hcnt : autN m m.length (nd l i).op.author = autN l i (nd l i).op.author := by
  unfold autN
  have hp := (List.perm_ext_iff_of_nodup (ids_nodup h.right m.length (Nat.le_refl _) (fun a => (nd m a).op.author == (nd l i).op.author)) (ids_nodup h.left i (by omega) (fun a => (nd l a).op.author == (nd l i).op.author))).2 (fun k => by
   rw [mem_ids, mem_ids]
   constructor
   ·rintro ⟨j, hj, ea, rfl⟩
    obtain ⟨i', hi', e, eo⟩ := h.at_ j hj
    rw [beq_iff_eq] at ea
    have ea' : (nd l i').op.author = (nd l i).op.author := by rw [← eo]; exact ea
    exact ⟨i', hbefore j hj i' hi' e ea', by simp [ea'], e.symm⟩
   ·rintro ⟨i', hi', ea, rfl⟩
    obtain ⟨j, hj, e⟩ := hthere i' (author_ahead h.left hi' hi (by simpa using ea))
    have eo := h.op (by omega) hj e
    exact ⟨j, hj, by rw [eo]; exact ea, e⟩)
  have := hp.length_eq
  simpa using this
 have f6 : seqOk m (nd l i).op = true := by
  have hah := (ahead_all m m.length (nd l i).op.parents (nd l i).op.author).2 hall
  unfold seqOk
  rw [hah, hcnt]
  simp only [decide_true, Bool.and_true, Bool.and_eq_true, Bool.not_eq_true', Bool.and_eq_false_iff, decide_eq_false_iff_not, decide_eq_true_eq]
  refine ⟨?_, hsq⟩
  by_cases hm0 : 0 < m.length
  ·refine .inl fun hk => ?_
   have hi0 := hk1.1 hk
   have t0 := right_turn h.right hm0
   unfold turnB at t0
   simp only [Bool.and_eq_true, beq_iff_eq, decide_eq_decide] at t0
   have hk0 := t0.1.2 trivial
   obtain ⟨i', hi', e, eo⟩ := h.at_ 0 hm0
   have t1 := right_turn h.left hi'
   unfold turnB at t1
   simp only [Bool.and_eq_true, beq_iff_eq, decide_eq_decide] at t1
   have := t1.1.1 (by rw [← eo]; exact hk0)
   subst this hi0
   exact hno 0 hm0 e
  ·exact .inr hm0
 have hml := h.len
 unfold addE
 rw [f1, f2, f3, f5, f6, if_neg (by simp), if_neg (by simp), if_neg (by simp), if_neg (by omega), if_neg (by simp), if_neg (by simp)]
def hdN (x : NodeD) : HeldD := ⟨x.id, x.op, []⟩
theorem hdN_wf {x : NodeD} (h : x.Wf) : (hdN x).Wf := ⟨h.id, h.op, fun k hk => (by cases hk), by show 0 ≤ _; omega⟩
structure Mv (l m : List NodeD) (q : List HeldD) : Prop where
 sub : Sub l m
 from_ : ∀ y ∈ q, ∃ i, i < l.length ∧ y = hdN (nd l i)
 nodup : (q.map HeldD.id).Nodup
 apart : ∀ y ∈ q, ∀ j, j < m.length → (nd m j).id ≠ y.id
 all_ : ∀ i, i < l.length → (∃ j, j < m.length ∧ (nd m j).id = (nd l i).id) ∨ ∃ y ∈ q, y.id = (nd l i).id
 len : m.length + q.length = l.length
theorem hn_mem {q : List HeldD} {i : Nat} (hi : i < q.length) : hn q i ∈ q := List.mem_of_getElem? (hn_get hi)
theorem nodup_at {q : List HeldD} (h : (q.map HeldD.id).Nodup) {i j : Nat} (hi : i < q.length) (hj : j < q.length) (e : (hn q i).id = (hn q j).id) : i = j := by
 have h2 := List.pairwise_iff_getElem.1 h
 have ei : ∀ {k : Nat} (hk : k < q.length), q[k] = hn q k := fun hk => (hn_eq (List.getElem?_eq_getElem hk)).symm
 rcases Nat.lt_trichotomy i j with hlt | rfl | hlt
 ·exact absurd (by rw [List.getElem_map, List.getElem_map, ei hi, ei hj, e]) (h2 i j (by simpa using hi) (by simpa using hj) hlt)
 ·rfl
 ·exact absurd (by rw [List.getElem_map, List.getElem_map, ei hi, ei hj, e]) (h2 j i (by simpa using hj) (by simpa using hi) hlt)
theorem rightQ_of {q : List HeldD} (hl : q.length ≤ 24) (h : (q.map HeldD.id).Nodup) (ho : ∀ y ∈ q, rightO y.op = true) : rightQ q = true := by
 unfold rightQ
 rw [Bool.and_eq_true, decide_eq_true_eq, List.all_eq_true]
 refine ⟨hl, fun i hi => ?_⟩
 rw [List.mem_range] at hi
 unfold oneQ
 rw [Bool.and_eq_true, decide_eq_true_eq]
 refine ⟨?_, ho _ (hn_mem hi)⟩
 rw [findIH_first]
 refine firstI_some hi (fun k hk => ?_) (by simp)
 rw [decide_eq_false_iff_not]
 intro e
 have := nodup_at h (by omega) hi e
 omega
theorem Mv.right {q : List HeldD} (h : Mv l m q) (hl : l.length ≤ 24) : rightQ q = true := rightQ_of (by have := h.len; omega) h.nodup (fun y hy => by
 obtain ⟨i, hi, rfl⟩ := h.from_ y hy
 exact right_op h.sub.left hi)
theorem findI_has {k : List Int} : 0 ≤ findI m m.length k ↔ ∃ j, j < m.length ∧ (nd m j).id = k := by
 rw [findI_first, firstI_ge]
 simp only [decide_eq_true_eq]
theorem findIH_has {q : List HeldD} {k : List Int} : 0 ≤ findIH q q.length k ↔ ∃ j, j < q.length ∧ (hn q j).id = k := by
 rw [findIH_first, firstI_ge]
 simp only [decide_eq_true_eq]
theorem mem_hn {q : List HeldD} {y : HeldD} (h : y ∈ q) : ∃ j, j < q.length ∧ hn q j = y := by
 obtain ⟨j, hj, e⟩ := List.mem_iff_getElem.1 h
 exact ⟨j, hj, by rw [← e]; exact hn_eq (List.getElem?_eq_getElem hj)⟩
theorem Mv.named {q : List HeldD} (h : Mv l m q) {y : HeldD} (hy : y ∈ q) {p : List Int} (hp : p ∈ y.op.parents) : (∃ j, j < m.length ∧ (nd m j).id = p) ∨ ∃ z ∈ q, z.id = p := by
 obtain ⟨i, hi, rfl⟩ := h.from_ y hy
 obtain ⟨a, ha⟩ := right_par h.sub.left hi hp
 have hid := findN_id ha
 have hal := findN_lt ha
 rw [← hid]
 exact h.all_ a (by omega)
theorem Mv.wants {q : List HeldD} (h : Mv l m q) : ∀ k, k ≤ q.length → wantsL m q k = []
 | 0, _ => rfl
 | k + 1, hk => by
  rw [wantsL, Mv.wants h k (by omega), List.nil_append, List.filter_eq_nil_iff]
  intro p hp
  unfold wantK
  rw [Bool.and_eq_true, decide_eq_true_eq, decide_eq_true_eq]
  rintro ⟨h1, h2⟩
  rcases h.named (hn_mem (show k < q.length by omega)) hp with hh | ⟨z, hz, e⟩
  ·have := findI_has.2 hh
   omega
  ·obtain ⟨j, hj, ez⟩ := mem_hn hz
   have := findIH_has (k := p).2 ⟨j, hj, by rw [ez]; exact e⟩
   omega
theorem Mv.move {q : List HeldD} (h : Mv l m q) (hq : 0 < q.length) (h24 : l.length ≤ 24) : ∃ r : Nat, r < q.length ∧ readyI m q = r ∧ addE m (hn q r).id (hn q r).op = 0 ∧ Mv l (m ++ [addD m (hn q r).id (hn q r).op]) (withoutL q r) := by
 have hex : ∃ k, k < q.length ∧ readyB m (hn q k) = true := by
  obtain ⟨i, hi, ⟨y, hy, ey⟩, hle⟩ : ∃ i, i < l.length ∧ (∃ y ∈ q, y.id = (nd l i).id) ∧ ∀ i', i' < i → ¬ (∃ y ∈ q, y.id = (nd l i').id) := by
   refine leastG l.length ?_
   obtain ⟨i, hi, e⟩ := h.from_ _ (hn_mem hq)
   exact ⟨i, hi, _, hn_mem hq, by rw [e]; rfl⟩
  obtain ⟨k, hk, ek⟩ := mem_hn hy
  refine ⟨k, hk, ?_⟩
  unfold readyB
  rw [ek, List.all_eq_true]
  intro p hp
  rw [decide_eq_true_eq, findI_has]
  obtain ⟨i2, hi2, e2⟩ := h.from_ y hy
  have hii : i2 = i := ids_inj h.sub.left hi2 hi (by rw [← ey, e2]; rfl)
  subst hii
  rw [e2] at hp
  obtain ⟨a, ha⟩ := right_par h.sub.left hi2 hp
  have hid := findN_id ha
  have hal := findN_lt ha
  rcases h.all_ a (by omega) with hh | hh
  ·rw [hid] at hh; exact hh
  ·exact absurd hh (hle a hal)
 have hge := firstI_ge.2 hex
 have hbd := (firstI_bd (n := q.length) (p := fun i => readyB m (hn q i))).2
 obtain ⟨r, hr⟩ : ∃ r : Nat, readyI m q = r := ⟨(readyI m q).toNat, by unfold readyI; omega⟩
 have hrl : r < q.length := by unfold readyI at hr; omega
 have hrb : readyB m (hn q r) = true := by
  unfold readyI firstI at hr
  cases hf : (List.range q.length).find? (fun i => readyB m (hn q i)) with
  | none =>
   rw [hf] at hr
   have hr : (-1 : Int) = r := hr
   omega
  | some a =>
   rw [hf] at hr
   have hr : ((a : Nat) : Int) = r := hr
   have hb := List.find?_some hf
   obtain rfl : a = r := by omega
   exact hb
 obtain ⟨i, hi, e⟩ := h.from_ _ (hn_mem hrl)
 have h0 : addE m (nd l i).id (nd l i).op = 0 := by
  refine h.sub.ready hi (fun j hj => ?_) (fun p hp => ?_) (by omega)
  ·have := h.apart _ (hn_mem hrl) j hj
   rw [e] at this
   exact this
  ·unfold readyB at hrb
   rw [e, List.all_eq_true] at hrb
   have := hrb p hp
   rw [decide_eq_true_eq, findI_has] at this
   exact this
 have hsub := h.sub.push hi h0
 have e1 : (hn q r).id = (nd l i).id := by rw [e]; rfl
 have e2 : (hn q r).op = (nd l i).op := by rw [e]; rfl
 rw [← e1, ← e2] at h0 hsub
 refine ⟨r, hrl, hr, h0, hsub, ?_, ?_, ?_, ?_, ?_⟩
 ·intro y hy
  unfold withoutL at hy
  rcases List.mem_append.1 hy with hy | hy
  ·exact h.from_ y (List.mem_of_mem_take hy)
  ·exact h.from_ y (List.mem_of_mem_drop hy)
 ·refine h.nodup.sublist ?_
  refine List.Sublist.map _ ?_
  unfold withoutL
  have : q.take r ++ q.drop r = q := List.take_append_drop r q
  conv => rhs; rw [← this]
  refine List.Sublist.append (List.Sublist.refl _) ?_
  rw [← List.drop_drop]
  exact List.drop_sublist _ _
 ·intro y hy j hj
  have hyq : y ∈ q := by
   unfold withoutL at hy
   rcases List.mem_append.1 hy with hy | hy
   ·exact List.mem_of_mem_take hy
   ·exact List.mem_of_mem_drop hy
  rcases Nat.lt_or_ge j m.length with hjl | hjl
  ·rw [nd_push hjl]
   exact h.apart y hyq j hjl
  ·have : j = m.length := by simp at hj; omega
   subst this
   rw [nd_last]
   intro e3
   have e3 : (hn q r).id = y.id := e3
   unfold withoutL at hy
   rcases List.mem_append.1 hy with hy | hy
   ·obtain ⟨k, hk, ek⟩ := List.mem_iff_getElem.1 hy
    rw [List.length_take] at hk
    have hkq : hn q k = y := hn_eq (by rw [← ek, List.getElem_take]; exact List.getElem?_eq_getElem (by omega))
    have := nodup_at h.nodup hrl (show k < q.length by omega) (by rw [hkq]; exact e3)
    omega
   ·obtain ⟨k, hk, ek⟩ := List.mem_iff_getElem.1 hy
    rw [List.length_drop] at hk
    have hkq : hn q (r + 1 + k) = y := hn_eq (by rw [← ek, List.getElem_drop]; exact List.getElem?_eq_getElem (by omega))
    have := nodup_at h.nodup hrl (show r + 1 + k < q.length by omega) (by rw [hkq]; exact e3)
    omega
 ·intro i' hi'
  rcases h.all_ i' hi' with ⟨j, hj, ej⟩ | ⟨y, hy, ey⟩
  ·exact .inl ⟨j, by simp; omega, by rw [nd_push hj]; exact ej⟩
  ·obtain ⟨k, hk, ek⟩ := mem_hn hy
   rcases Nat.lt_trichotomy k r with hlt | rfl | hlt
   ·refine .inr ⟨y, ?_, ey⟩
    unfold withoutL
    refine List.mem_append.2 (.inl (List.mem_of_getElem? (i := k) ?_))
    rw [List.getElem?_take_of_lt hlt, hn_get hk, ek]
   ·refine .inl ⟨m.length, by simp, ?_⟩
    rw [nd_last]
    show (hn q k).id = _
    rw [ek]
    exact ey
   ·refine .inr ⟨y, ?_, ey⟩
    unfold withoutL
    refine List.mem_append.2 (.inr (List.mem_of_getElem? (i := k - (r + 1)) ?_))
    rw [List.getElem?_drop, show r + 1 + (k - (r + 1)) = k by omega, hn_get hk, ek]
 ·have := h.len
  unfold withoutL
  rw [List.length_append, List.length_append, List.length_take, List.length_drop]
  simp
  omega
def backH (l : List NodeD) (k : Nat) : List HeldD := (List.range k).map fun t => hdN (nd l (l.length - 1 - t))
theorem backH_succ (l : List NodeD) (k : Nat) : backH l (k + 1) = backH l k ++ [hdN (nd l (l.length - 1 - k))] := by
 unfold backH
 rw [List.range_succ, List.map_append]
 rfl
theorem backH_len (l : List NodeD) (k : Nat) : (backH l k).length = k := by simp [backH]
theorem mem_backH {k : Nat} {y : HeldD} : y ∈ backH l k ↔ ∃ t, t < k ∧ y = hdN (nd l (l.length - 1 - t)) := by
 unfold backH
 rw [List.mem_map]
 constructor
 ·rintro ⟨t, ht, rfl⟩; exact ⟨t, List.mem_range.1 ht, rfl⟩
 ·rintro ⟨t, ht, rfl⟩; exact ⟨t, List.mem_range.2 ht, rfl⟩
theorem backH_nodup (h : rightG l = true) {k : Nat} (hk : k ≤ l.length) : ((backH l k).map HeldD.id).Nodup := by
 unfold backH
 rw [List.map_map]
 refine (List.pairwise_map.2 ?_)
 refine List.Pairwise.imp_of_mem (R := (· < ·)) ?_ List.pairwise_lt_range
 intro a b ha hb hab e
 rw [List.mem_range] at ha hb
 have := ids_inj h (i := l.length - 1 - a) (j := l.length - 1 - b) (by omega) (by omega) e
 omega
theorem backH_right (h : rightG l = true) (h24 : l.length ≤ 24) {k : Nat} (hk : k ≤ l.length) : rightQ (backH l k) = true := rightQ_of (by rw [backH_len]; omega) (backH_nodup h hk) (fun y hy => by
 obtain ⟨t, ht, rfl⟩ := mem_backH.1 hy
 exact right_op h (by omega))
theorem backH_put (h : rightG l = true) (h24 : l.length ≤ 24) {k : Nat} (hk : k < l.length) : putE (backH l k) (hdN (nd l (l.length - 1 - k))) = 0 := by
 have hq := backH_right h h24 (k := k) (by omega)
 have ho : rightO (hdN (nd l (l.length - 1 - k))).op = true := right_op h (by omega)
 have hf : ¬ 0 ≤ findIH (backH l k) (backH l k).length (hdN (nd l (l.length - 1 - k))).id := by
  rw [findIH_has]
  rintro ⟨j, hj, e⟩
  rw [backH_len] at hj
  obtain ⟨t, ht, et⟩ := mem_backH.1 (hn_mem (q := backH l k) (i := j) (by rw [backH_len]; exact hj))
  rw [et] at e
  have := ids_inj h (i := l.length - 1 - t) (j := l.length - 1 - k) (by omega) (by omega) e
  omega
 unfold putE
 rw [hq, ho, if_neg (by simp), if_neg hf, backH_len, if_neg (by omega)]
theorem backH_mv (h : rightG l = true) {n : Nat} (hn : n ≤ l.length) : Mv l (l.take n) (backH l (l.length - n)) := by
 have hl : (l.take n).length = n := by rw [List.length_take]; omega
 refine ⟨⟨h, rightG_takeO h n, fun j hj => ⟨j, by omega, by rw [nd_take (by omega)], by rw [nd_take (by omega)]⟩⟩, fun y hy => ?_, backH_nodup h (by omega), fun y hy j hj e => ?_, fun i hi => ?_, by rw [hl, backH_len]; omega⟩
 ·obtain ⟨t, ht, rfl⟩ := mem_backH.1 hy
  exact ⟨_, by omega, rfl⟩
 ·obtain ⟨t, ht, rfl⟩ := mem_backH.1 hy
  rw [hl] at hj
  rw [nd_take (by omega)] at e
  have := ids_inj h (i := j) (j := l.length - 1 - t) (by omega) (by omega) e
  omega
 ·rcases Nat.lt_or_ge i n with hin | hin
  ·exact .inl ⟨i, by omega, by rw [nd_take (by omega)]⟩
  ·exact .inr ⟨hdN (nd l i), mem_backH.2 ⟨l.length - 1 - i, by omega, by rw [show l.length - 1 - (l.length - 1 - i) = i by omega]⟩, rfl⟩
end
section
def addL (l : List NodeD) (id : List Int) (o : OpD) : List NodeD := if addE l id o = 0 then l ++ [addD l id o] else []
theorem addD_wf {l : List NodeD} {id : List Int} {o : OpD} (hid : Key32 id) (hw : o.Wf) (hl : l.length ≤ 1000) : (addD l id o).Wf := by
 have := pastL_length l l.length o.parents
 refine ⟨hid, hw, fun z hz => ?_, by show (pastL l l.length o.parents).length ≤ _; simp only [maxLen]; omega⟩
 obtain ⟨k, rfl, hk, _⟩ := pastL_bd hz
 unfold I64
 omega
theorem AddQ.nda {l : List NodeD} {id : List Int} {o : OpD} {H : AH} {v' : Value} {H' : AH} (h : AddQ l id o H v' H') (hwf : ∀ x ∈ addL l id o, x.Wf) : ∃ sv, v' = .tuple #[sv, .int .i64 (addE l id o)] ∧ notTuple sv = true ∧ sv.cells = #[sv] ∧ (addE l id o ≠ 0 → sv = .slice none 0 0) ∧ ∀ G, Low H'.length H' G → NdA G sv (addL l id o) := by
 obtain ⟨h1, sv, h2, h3⟩ := h
 refine ⟨sv, h2, ?_⟩
 rcases h3 with ⟨h0, h3⟩ | ⟨h0, rfl⟩
 ·have e : addL l id o = l ++ [addD l id o] := if_pos h0
  rw [e] at hwf ⊢
  have hs := h3.sh
  exact ⟨hs.1, hs.2, fun hh => absurd h0 hh, fun G hG => h3.nda hwf (fun j _ hj => hG.1 j hj)⟩
 ·have e : addL l id o = [] := if_neg h0
  rw [e]
  exact ⟨rfl, rfl, fun _ => rfl, fun G _ => nil_nda G⟩
theorem RAddQ.nda {l : List NodeD} {id : List Int} {o : OpD} {H0 H : AH} {v' : Value} {H' : AH} (h : RAddQ l id o H0 H v' H') (hwf : ∀ x ∈ addL l id o, x.Wf) (hlow : Low H0.length H0 H') : ∃ sv, v' = .tuple #[sv, .int .i64 (addE l id o)] ∧ notTuple sv = true ∧ sv.cells = #[sv] ∧ ∀ G, Low H'.length H' G → NdA G sv (addL l id o) := by
 obtain ⟨h1, sv, h2, h3⟩ := h
 refine ⟨sv, h2, ?_⟩
 rcases h3 with ⟨h0, h3⟩ | ⟨h0, rfl⟩
 ·have e : addL l id o = l ++ [addD l id o] := if_pos h0
  rw [e] at hwf ⊢
  have hs := val_nt (h3 H' hlow (fun _ _ _ => rfl))
  refine ⟨hs.1, hs.2, fun G hG => (h3 G ⟨fun j hj => (hG.1 j (by have := hlow.2; omega)).trans (hlow.1 j hj), by have := hlow.2; have := hG.2; omega⟩ (fun j _ hj => hG.1 j hj)).nda hwf⟩
 ·have e : addL l id o = [] := if_neg h0
  rw [e]
  exact ⟨rfl, rfl, fun G _ => nil_nda G⟩
end
section
theorem av_slice0 {P : Program} {nro n : Nat} {γ : Nat → Option Nat} {α : Fm} {H : AH} {o : Oper} {t e : TypeId} {x y : Operand} {a : Addr} (ha : a.spot = some 0) (ho : o.op = .slice t x none (some y) none) (hok : o.op.operands.all (okOpd n γ) = true) (hu : und P t = .slice e) (h0 : 0 < szt P e)
  (hx : α.eval γ x = .slice (some a) 0 0) (hy : α.eval γ y = .int .i64 0) : AV P nro n γ o α H (.slice (some a) 0 0) H := by
 intro m base w act hR hF
 have ev := ops_ev hok hR hF
 rw [ho] at ev
 have hx' := ev x (by simp [Op.operands])
 rw [hx] at hx'
 have hy' := ev y (by simp [Op.operands])
 rw [hy] at hy'
 obtain ⟨b, f, sp⟩ := a
 have ha : sp = some 0 := ha
 subst ha
 have hs : ∃ a' c, act.eval x = .slice (some a') 0 c := by
  generalize act.eval x = v at hx'
  cases hx' with
  | two h => cases h with
   | one h => cases h with
    | plain h => cases h
    | sl0 => exact ⟨_, _, rfl⟩
 obtain ⟨a', c, hs⟩ := hs
 obtain ⟨dst, op, type, pos, after, guard⟩ := o
 simp only at ho
 subst ho
 have hb := bounds_run (P := P) (isS := true) (lo := none) (hi := some (act.eval y)) (len := 0) (cap := c) (l := 0) (h := 0) (.inl ⟨rfl, rfl⟩) (.inr ⟨_, congrArg some hy'.int_⟩) (by omega) (by omega) (by omega) w
 have hrun : (Instr.sliceAt t (act.eval x) none (some (act.eval y)) none).run P w = .ok (.slice (some a') 0 c) w := by
  have ha0 : a'.add 0 = a' := rfl
  rw [hs]
  simp [Instr.sliceAt, Instr.slice, run_underlying (und_some hu (by simp)), hb, run_sizeOf h0, ha0]
 exact ⟨m, _, w, _, run_v2 hrun, .inl rfl, List.prefix_rfl, .one .sl0, hR, .refl _ _⟩
theorem build_held2 {x : HeldD} {pv wv bv : Value} (hw : x.Wf) : xbuild Try.prog 60 [(0, .agg (iv .u8 x.id).toArray), (1, .agg (opRow x.op pv wv bv).toArray)] = some (.agg (heldRow x pv wv bv (.slice none 0 0)).toArray) := by
 have hf : flds Try.prog 60 = some [(38, 0), (41, 32), (36, 103)] := by kernel_rfl
 obtain ⟨z, hz⟩ : ∃ z, zer Try.prog 60 = some z := by
  have : (zer Try.prog 60).isSome = true := by kernel_rfl
  exact Option.isSome_iff_exists.1 this
 have hzl : z.cells.toList.length = 104 := by
  have : (zer Try.prog 60).map (fun z => z.cells.toList.length) = some 104 := by kernel_rfl
  rw [hz] at this
  simpa using this
 have hzd : z.cells.toList.drop 103 = [.slice none 0 0] := by
  have : (zer Try.prog 60).map (fun z => z.cells.toList.drop 103) = some [.slice none 0 0] := by kernel_rfl
  rw [hz] at this
  exact Option.some.inj this
 have hzp : z.cells.toList.all plain1 = true := by
  have : (zer Try.prog 60).map (fun z => z.cells.toList.all plain1) = some true := by kernel_rfl
  rw [hz] at this
  simpa using this
 have s1 : szt Try.prog 38 = 32 := by kernel_rfl
 have s2 : szt Try.prog 41 = 71 := by kernel_rfl
 have s3 : szt Try.prog 36 = 1 := by kernel_rfl
 have hA : (iv .u8 x.id).length = 32 := by rw [iv_length]; exact hw.id.1
 have hB := opRow_len hw.op pv wv bv
 unfold xbuild
 simp only [hf, hz]
 rw [if_pos ⟨by simp [s1, s2, s3], hzp, rfl⟩]
 generalize z.cells.toList = Z at *
 unfold heldRow
 generalize iv .u8 x.id = A at *
 generalize opRow x.op pv wv bv = B at *
 have c1 : (Value.agg A.toArray).cells = A.toArray := rfl
 have c2 : (Value.agg B.toArray).cells = B.toArray := rfl
 have e1 : setR (setR Z 0 A) 32 B = A ++ (B ++ [.slice none 0 0]) := by
  rw [setR_frontF _ _ (by omega), hA, ← hA, ← Nat.add_zero A.length, setR_right _ _ _ _ (by rw [List.length_drop]; omega), setR_frontF _ _ (by rw [List.length_drop]; omega), List.drop_drop, hA, hB, hzd]
 simp only [xfill, List.getElem?_cons_zero, List.getElem?_cons_succ, Option.map_some, s1, s2, s3, c1, c2]
 rw [if_pos ⟨by simp [hA], by simp; omega⟩]
 rw [if_pos ⟨by simp [hB], by simp; omega⟩, e1]
theorem av_take {nro nt : Nat} {γ : Nat → Option Nat} {α : Fm} {H0 H : AH} {o : Oper} {x y : Operand} {u : Value} {l : List NodeD} {n : Nat} (ho : o.op = .slice 22 x none (some y) none) (hok : o.op.operands.all (okOpd nt γ) = true) (hx : α.eval γ x = u) (hy : α.eval γ y = .int .i64 (n : Nat)) (hV : NdV H0 u l) (hw : ∀ x ∈ l, x.Wf) (hn : n ≤ l.length) (hlow : Low H0.length H0 H) :
  ∃ v', NdA H v' (l.take n) ∧ AV Try.prog nro nt γ o α H v' H := by
 have hu : und Try.prog 22 = .slice 50 := by kernel_rfl
 have hs : szt Try.prog 50 = 104 := by kernel_rfl
 have rd : ∀ v', xslice Try.prog 22 u none (some (.int .i64 (n : Nat))) H = some v' → AV Try.prog nro nt γ o α H v' H := fun v' h => (xread_aq hok (by rw [ho]; simp only [xread, hx, Option.map_none, Option.map_some, hy]; exact h)).av
 rcases Nat.lt_or_ge n l.length with hlt | hge
 ·obtain ⟨v', h1, h2⟩ := hV.take hw hlt
  exact ⟨v', h1.lowG hlow, rd v' (h2 H)⟩
 ·obtain rfl : n = l.length := by omega
  rw [List.take_length]
  refine ⟨u, (hV.nda hw).lowG hlow, ?_⟩
  have hV2 := hV
  unfold NdV at hV2
  generalize hrs : l.map NodeD.row = rs at hV2
  cases hV2 with
  | @nil a ha =>
   have hl0 : l = [] := List.map_eq_nil_iff.1 hrs
   subst hl0
   cases a with
   | none =>
    refine rd _ ?_
    unfold xslice
    simp [hu, bnd, asInt?, hs]
   | some a => exact av_slice0 (ha a rfl) ho hok hu (by rw [hs]; omega) hx hy
  | @sl sz j k rows h1 h2 h3 h4 =>
   refine rd _ ?_
   have hl : rs.length = l.length := by rw [← hrs, List.length_map]
   rw [hl]
   unfold xslice
   simp only [hu, bnd, asInt?, hs]
   rw [if_pos ⟨by omega, by omega, by omega, by omega⟩, if_neg (by omega)]
   simp
attribute [local simp] wb_bool wb_undef with_lit XL_nil XL_cons XLc_val XLc_call step1_eq stepW_t stepW_f stepC_n stepC_s stepX_s stepX_n stepN_s calleeX xrecv oneV xop_eq xopR_s xopR_n wantedA_eq wantedG_n wantedG_s plain1_int plain1_bool plain1_string bits_i64 bits_u64 bits_u32 bits_u16 bits_u8 xeqA xagg xcmp xarr allK_iv num_iv calleeOf xread xeff xbin xint xnil xun xstr xload xconv xpart xfield xfieldAddr xindexAddr xindex bnd asInt? xslice xlen xmin xmax xbuild xfill xappend xapp2 xappstr xappmk xcap xcopy xcells eval_tmp eval_const put_at put_none fr0_at cells_agg cells_int cells_bool cells_string cells_ptr cells_slice notTuple tab iv_all hget_app hget_app0 hget_cons0 hget_cons set_app set_app0 setR setR_one QL_nil QL_cons QLc_val stepQ_t stepQ_f stepQC_n stepQC_s stepQX_s SL_nil SL_cons SLc_val stepS_t stepS_f ltT ltF leT leF eqT eqF ltTn ltFn leTn leFn eqTn eqFn beqT beqF bneT bneF wi64 wu64 wu32 wu16 wu8 tmodP tdivP hgetL hgetNe hgetEq setL nums_def nums_len Nat.succ_le_of_lt List.getElem?_cons_zero List.getElem?_cons_succ Option.getD_some Int.toNat_add Int.toNat_mul agM okM agB agI agS agP agL agA okB okI okS okP okSl okA
theorem qmoves_law {γ : Nat → Option Nat} {H : AH} {ds : List CD} {u : Value} {z : Int} (ho : OkL [.sl nodeK] ds) (hv : ValL H ds [u]) : AC Try.prog H.length γ 11 #[u, .int .i64 z] H (fun v' _ => v' = .bool true) := by
 obtain ⟨l, hV, hw, hm⟩ := nodes_in ho hv
 have hN := hV.nda hw
 obtain ⟨v1, v2⟩ := val_nt hV
 have hxl := hN.len
 have al := qalive_rc (γ := γ) (H := H)
 have gr := greatG_rc (γ := γ) hN
 have rr := graph_right_rc (γ := γ) hN
 refine ac_of_aw Try.func11 rfl Try.ntmps11 Try.results11 (by simp) ?_
 refine aw_seq ?_
 (refine aw_ops (by kernel_rfl) (fun K hK => ?_); simp (disch := first | omega | (simp only [lnS]; try omega)) [-getElem?_pos, -getElem?_neg]; refine hK _ _ ?_; clear hK K)
 refine aw_seq ?_
 refine aw_seq ?_
 refine aw_ops (by kernel_rfl) (fun K hK => ?_)
 simp (disch := first | omega | (simp only [lnS]; try omega)) [-getElem?_pos, -getElem?_neg]
 refine ⟨by kernel_rfl, ac_of_rc al (by simp [pv_iv, pv_int, pv_bool, pv_string, pv_tup2, pv_tup3, iv_plain, p2_int, p2_bool, p2_string]) ?_⟩
 try simp (disch := first | omega | (simp only [lnS]; try omega)) [-getElem?_pos, -getElem?_neg]
 refine hK _ _ ?_; clear hK K
 refine aw_f (by (first | (simp [eval_tmp, put_at]; done) | (simp [eval_tmp, put_at]; omega))) (by kernel_rfl) ?_
 refine aw_skip ?_
 refine aw_seq ?_
 refine aw_seq ?_
 refine aw_cut (fun α G => α 29 = .bool (greatG l || (decide (24 < l.length) || !rightG l)) ∧ α 0 = u ∧ α 1 = .int .i64 z ∧ H = G) ?_ ?_
 ·refine aw_ops (by kernel_rfl) (fun K hK => ?_)
  simp (disch := first | omega | (simp only [lnS]; try omega)) [-getElem?_pos, -getElem?_neg, -notTuple, v1, v2, nt_intG]
  refine ⟨by kernel_rfl, ac_of_rc gr (by simp [pv_iv, pv_int, pv_bool, pv_string, pv_tup2, pv_tup3, iv_plain, p2_int, p2_bool, p2_string]) ?_⟩
  cases hg : greatG l with
  | true =>
   try simp (disch := first | omega | (simp only [lnS]; try omega)) [-getElem?_pos, -getElem?_neg]
   refine hK _ _ ?_; clear hK K
   exact ⟨by (first | (simp [put_at, put_none, fr0_at, hg]; done) | rfl), by (first | (simp [put_at, put_none, fr0_at]; done) | rfl), by (first | (simp [put_at, put_none, fr0_at]; done) | rfl), rfl⟩
  | false =>
   by_cases h40 : 24 < l.length
   ·try simp (disch := first | omega | (simp only [lnS]; try omega)) [-getElem?_pos, -getElem?_neg, -notTuple, v1, v2, nt_intG, -xlen, hxl, h40]
    refine hK _ _ ?_; clear hK K
    exact ⟨by rw [hg]; simp [h40, put_at], by (first | (simp [put_at, put_none, fr0_at]; done) | rfl), by (first | (simp [put_at, put_none, fr0_at]; done) | rfl), rfl⟩
   ·try simp (disch := first | omega | (simp only [lnS]; try omega)) [-getElem?_pos, -getElem?_neg, -notTuple, v1, v2, nt_intG, -xlen, hxl, h40]
    refine ⟨by kernel_rfl, ac_of_rc rr (by simp [pv_iv, pv_int, pv_bool, pv_string, pv_tup2, pv_tup3, iv_plain, p2_int, p2_bool, p2_string]) ?_⟩
    cases hr : rightG l with
    | true =>
     try simp (disch := first | omega | (simp only [lnS]; try omega)) [-getElem?_pos, -getElem?_neg]
     refine hK _ _ ?_; clear hK K
     exact ⟨by rw [hg, hr]; simp [h40, put_at], by (first | (simp [put_at, put_none, fr0_at]; done) | rfl), by (first | (simp [put_at, put_none, fr0_at]; done) | rfl), rfl⟩
    | false =>
     try simp (disch := first | omega | (simp only [lnS]; try omega)) [-getElem?_pos, -getElem?_neg]
     refine hK _ _ ?_; clear hK K
     exact ⟨by rw [hg, hr]; simp [h40, put_at], by (first | (simp [put_at, put_none, fr0_at]; done) | rfl), by (first | (simp [put_at, put_none, fr0_at]; done) | rfl), rfl⟩
 rintro α _ ⟨q29, q0, q1, rfl⟩
 cases hb : (greatG l || (decide (24 < l.length) || !rightG l)) with
 | true =>
  rw [hb] at q29
  refine aw_t (by (first | (simp [eval_tmp, put_at, q29]; done) | (simp [eval_tmp, put_at, q29]; omega))) (by kernel_rfl) ?_
  refine aw_seq ?_
  refine aw_ops (by kernel_rfl) (fun K hK => ?_)
  simp (disch := first | omega | (simp only [lnS]; try omega)) [-getElem?_pos, -getElem?_neg]
  refine ⟨by kernel_rfl, ac_of_rc al (by simp [pv_iv, pv_int, pv_bool, pv_string, pv_tup2, pv_tup3, iv_plain, p2_int, p2_bool, p2_string]) ?_⟩
  try simp (disch := first | omega | (simp only [lnS]; try omega)) [-getElem?_pos, -getElem?_neg]
  refine hK _ _ ?_; clear hK K
  (refine aw_ret ?_; simp (disch := first | omega | (simp only [lnS]; try omega)) [-getElem?_pos, -getElem?_neg, thenQ_ret, scopeQ_ret, inBlockQ_ret, RQ, resL, resV])
 | false =>
 rw [hb] at q29
 refine aw_f (by (first | (simp [eval_tmp, put_at, q29]; done) | (simp [eval_tmp, put_at, q29]; omega))) (by kernel_rfl) ?_
 refine aw_skip ?_
 simp only [Bool.or_eq_false_iff, decide_eq_false_iff_not, Bool.not_eq_false'] at hb
 obtain ⟨hg, h24, hr⟩ := hb
 have h24 : l.length ≤ 24 := by omega
 obtain ⟨n0, hn0⟩ : ∃ n, n = H.length := ⟨_, rfl⟩
 rw [← hn0]
 obtain ⟨wz, hwz, hwz0⟩ : ∃ wz : Int, IntKind.u64.wrap z = wz ∧ 0 ≤ wz := ⟨_, rfl, by simp only [IntKind.wrap, IntKind.bits, IntKind.signed]; simp; omega⟩
 obtain ⟨n, hmd, hnl⟩ : ∃ n : Nat, wz.tmod ((l.length : Int) + 1) = (n : Int) ∧ n ≤ l.length := by
  have h1 := Int.emod_nonneg wz (show (l.length : Int) + 1 ≠ 0 by omega)
  have h2 := Int.emod_lt_of_pos wz (show 0 < (l.length : Int) + 1 by omega)
  exact ⟨(wz % ((l.length : Int) + 1)).toNat, by rw [Int.tmod_eq_emod_of_nonneg hwz0]; omega, by omega⟩
 refine aw_seq ?_
 (refine aw_ops (by kernel_rfl) (fun K hK => ?_); simp (disch := first | omega | (simp only [lnS]; try omega)) [-getElem?_pos, -getElem?_neg, q0, q1, -notTuple, v1, v2, nt_intG, -xlen, hxl, hwz, -tmodP, hmd]; refine hK _ _ ?_; clear hK K)
 refine aw_seq ?_
 (refine aw_ops (by kernel_rfl) (fun K hK => ?_); simp (disch := first | omega | (simp only [lnS]; try omega)) [-getElem?_pos, -getElem?_neg]; refine hK _ _ ?_; clear hK K)
 refine aw_seq ?_
 refine aw_seq ?_
 (refine aw_ops (by kernel_rfl) (fun K hK => ?_); simp (disch := first | omega | (simp only [lnS]; try omega)) [-getElem?_pos, -getElem?_neg, q0, -notTuple, v1, v2, nt_intG, -xlen, hxl]; refine hK _ _ ?_; clear hK K)
 refine aw_block ?_
 have hlowz : Low n0 H H := hn0 ▸ Low.refl (Nat.le_refl _)
 have hlm : l.length ≤ maxLen := by simp only [maxLen]; omega
 refine aw_loop (fun c α G => ∃ (k : Nat) (qv : Value), k + c = l.length - n ∧ α 0 = u ∧ α 5 = .int .i64 (n : Nat) ∧ α 6 = qv ∧ α 7 = .int .i64 ((l.length : Int) - 1 - k) ∧ HdA G qv (backH l k) ∧ Low n0 H G) (l.length - n) ?_ ?_
 ·exact ⟨0, .slice none 0 0, by omega, by (first | (simp [put_at, put_none, fr0_at, q0]; done) | rfl), by (first | (simp [put_at, put_none, fr0_at]; done) | rfl), by (first | (simp [put_at, put_none, fr0_at]; done) | rfl), by (first | (simp [put_at, put_none, fr0_at]; done) | rfl), nil_hda _, hlowz⟩
 clear q0 q1 q29
 rintro c α G ⟨k, qv, hkc, q0, q5, q6, q7, hQ, hlow⟩
 have hleG := hlow.2
 have w1 := hQ.nt
 have w2 := hQ.cs
 refine aw_seq ?_
 refine aw_seq ?_
 by_cases hk : k < l.length - n
 case pos =>
  have hge : (n : Int) ≤ (l.length : Int) - 1 - k := by omega
  have hge2 : ¬ (l.length : Int) - 1 - k < (n : Int) := by omega
  obtain ⟨i, hi⟩ : ∃ i, i = l.length - 1 - k := ⟨_, rfl⟩
  have hil : i < l.length := by omega
  have hii : (l.length : Int) - 1 - k = (i : Int) := by omega
  rw [hii] at q7 hge
  have hrw := hw _ (List.mem_of_getElem? (nd_get hil))
  have hwx := hdN_wf hrw
  obtain ⟨j, q, bb, us, pv, wv, bv, pst, hx, hbb, hq, hcell, hus, hC⟩ := hN.at_ i _ (nd_get hil)
  have hbG : hget G j = some bb := (hlow.1 j (by have := hget_lt hbb; omega)).trans hbb
  have hid : (bb.cells.drop q).take 32 = iv .u8 (nd l i).id := by
   have := hC.id
   rw [hus, List.take_take] at this
   simpa using this
  have hO0 := hC.op
  have hrow := hO0.row hrw.op
  rw [hus, ← op_cut] at hrow
  have hO : OpC G (opRow (nd l i).op pv wv bv) (nd l i).op pv wv bv := by
   have h := hO0.low (H' := G) (fun k hk => hlow.1 k (by omega))
   rw [hus, ← op_cut, hrow] at h
   exact h
  have hor := opRow_len hrw.op pv wv bv
  have hivl : (iv .u8 (nd l i).id).length = 32 := by rw [iv_length, hrw.id.1]
  have hbl := build_held2 (pv := pv) (wv := wv) (bv := bv) hwx
  obtain ⟨pv', wv', bv', kv', hHC⟩ := held_hc (x := hdN (nd l i)) hwx hO.parents hO.who hO.boxes (nil3 G).1
  have hput := (put_rc (γ := γ) hQ hHC hwx (by rw [backH_len]; simp only [maxLen]; omega) (fun y hy => by
   obtain ⟨t, ht, rfl⟩ := mem_backH.1 hy
   exact Nat.zero_le _) (Nat.zero_le _)).thaw (nro := n0) (fun v G' h => ⟨h.1.2, h.1.1⟩)
  have h0 : putE (backH l k) (hdN (nd l i)) = 0 := by rw [hi]; exact backH_put hr h24 (by omega)
  have hrl := heldRow_len hwx pv wv bv (.slice none 0 0)
  have hbl : xbuild Try.prog 60 [(0, .agg (iv .u8 (nd l i).id).toArray), (1, .agg (opRow (nd l i).op pv wv bv).toArray)] = some (.agg (heldRow (hdN (nd l i)) pv wv bv (.slice none 0 0)).toArray) := hbl
  generalize heldRow (hdN (nd l i)) pv wv bv (.slice none 0 0) = HR at *
  generalize opRow (nd l i).op pv wv bv = OR at *
  generalize iv .u8 (nd l i).id = KI at *
  (refine aw_ops (by kernel_rfl) (fun K hK => ?_); simp (disch := first | omega | (simp only [lnS]; try omega)) [-getElem?_pos, -getElem?_neg, q5, q7, nt_intG, hge]; refine hK _ _ ?_; clear hK K)
  refine aw_t (by (first | (simp [eval_tmp, put_at, hge]; done) | (simp [eval_tmp, put_at, hge]; omega))) (by kernel_rfl) ?_
  refine aw_skip ?_
  refine aw_seq ?_
  refine aw_block ?_
  refine aw_seq ?_
  refine aw_cut (fun α2 G4 => α2 0 = u ∧ α2 5 = .int .i64 (n : Nat) ∧ α2 7 = .int .i64 (i : Nat) ∧ ∃ sv, α2 8 = sv ∧ α2 9 = .int .i64 0 ∧ Low G.length G G4 ∧ NewGH G.length G4 sv (backH l k ++ [hdN (nd l i)])) ?_ ?_
  ·(refine aw_ptree [0, 1, 2, 3, 4, 6, 7, 8, 9] 9 [[5, 10, 11, 12, 13, 14, 15, 16, 17], [5, 10, 11, 12, 13, 14, 16, 15, 17], [5, 10, 11, 12, 13, 15, 14, 16, 17], [10, 5, 11, 12, 13, 14, 15, 16, 17], [10, 5, 11, 12, 13, 14, 16, 15, 17], [10, 5, 11, 12, 13, 15, 14, 16, 17]] (by kernel_rfl) (by kernel_rfl) (by kernel_rfl) (fun K hK => ?_)); simp only [sel, List.getElem?_cons_succ, List.getElem?_cons_zero]; simp (disch := first | omega | (simp only [lnS]; try omega)) [-getElem?_pos, -getElem?_neg, q0, q6, q7, -notTuple, v1, v2, w1, w2, nt_intG, nt_aggG, nt_ptrG, -xindexAddr, hx, hbG, hid, hrow, hor, hq, hivl, -xbuild, hbl, XO_s, XO_z, XLk_val, XLk_call, headsO, behind, List.length_cons, List.length_nil, List.mem_cons, List.not_mem_nil, or_false, forall_eq_or_imp, forall_eq, List.contains_cons, List.contains_nil]
   refine ⟨⟨by kernel_rfl, hput.mono ?_⟩, by kernel_rfl, hput.mono ?_⟩
   all_goals rintro v G4 ⟨low4, sv, rfl, ⟨_, hnew⟩ | ⟨h0', _⟩⟩
   case inr | inr => exact absurd h0 h0'
   all_goals (obtain ⟨s1, s2⟩ := hnew.sh; rw [h0])
   ·simp (disch := first | omega | (simp only [lnS]; try omega)) [-getElem?_pos, -getElem?_neg, -notTuple, s1, s2, nt_intG, XO_s, XO_z, XLk_val, XLk_call, headsO, behind, List.length_cons, List.length_nil, List.mem_cons, List.not_mem_nil, or_false, forall_eq_or_imp, forall_eq, List.contains_cons, List.contains_nil]
    refine ⟨⟨hK _ _ ?_, hK _ _ ?_⟩, hK _ _ ?_⟩ <;> exact ⟨by (first | (simp [put_at, put_none, fr0_at, q0]; done) | rfl), by (first | (simp [put_at, put_none, fr0_at, q5]; done) | rfl), by (first | (simp [put_at, put_none, fr0_at, q7]; done) | rfl), sv, by (first | (simp [put_at, put_none, fr0_at]; done) | rfl), by (first | (simp [put_at, put_none, fr0_at]; done) | rfl), low4, hnew⟩
   ·simp (disch := first | omega | (simp only [lnS]; try omega)) [-getElem?_pos, -getElem?_neg, -notTuple, s1, s2, nt_intG, XO_s, XO_z, XLk_val, XLk_call, headsO, behind, List.length_cons, List.length_nil, List.mem_cons, List.not_mem_nil, or_false, forall_eq_or_imp, forall_eq, List.contains_cons, List.contains_nil]
    refine ⟨⟨hK _ _ ?_, hK _ _ ?_⟩, hK _ _ ?_⟩ <;> exact ⟨by (first | (simp [put_at, put_none, fr0_at, q0]; done) | rfl), by (first | (simp [put_at, put_none, fr0_at, q5]; done) | rfl), by (first | (simp [put_at, put_none, fr0_at, q7]; done) | rfl), sv, by (first | (simp [put_at, put_none, fr0_at]; done) | rfl), by (first | (simp [put_at, put_none, fr0_at]; done) | rfl), low4, hnew⟩
  clear q0 q5 q6 q7
  rintro α G4 ⟨q0, q5, q7, sv, q8, q9, low4, hnew⟩
  obtain ⟨s1, s2⟩ := hnew.sh
  have hle4 := low4.2
  refine aw_seq ?_
  refine aw_seq ?_
  (refine aw_ops (by kernel_rfl) (fun K hK => ?_); simp (disch := first | omega | (simp only [lnS]; try omega)) [-getElem?_pos, -getElem?_neg, q9]; refine hK _ _ ?_; clear hK K)
  refine aw_f (by (first | (simp [eval_tmp, put_at]; done) | (simp [eval_tmp, put_at]; omega))) (by kernel_rfl) ?_
  refine aw_skip ?_
  (refine aw_ops (by kernel_rfl) (fun K hK => ?_); simp (disch := first | omega | (simp only [lnS]; try omega)) [-getElem?_pos, -getElem?_neg, q8, -notTuple, s1, s2]; refine hK _ _ ?_; clear hK K)
  (refine aw_ops (by kernel_rfl) (fun K hK => ?_); simp (disch := first | omega | (simp only [lnS]; try omega)) [-getElem?_pos, -getElem?_neg, q7, nt_intG]; refine hK _ _ ?_; clear hK K)
  refine ⟨c - 1, by omega, k + 1, sv, by omega, by (first | (simp [put_at, put_none, fr0_at, q0]; done) | rfl), by (first | (simp [put_at, put_none, fr0_at, q5]; done) | rfl), by (first | (simp [put_at, put_none, fr0_at]; done) | rfl), by rw [show ((l.length : Int) - 1 - ((k + 1 : Nat) : Int)) = (i : Int) - 1 by omega]; (first | (simp [put_at, put_none, fr0_at]; done) | rfl), ?_, ⟨fun j hj => (low4.1 j (by omega)).trans (hlow.1 j hj), by omega⟩⟩
  rw [backH_succ, ← hi]
  refine hnew.hda (fun y hy => ?_) (fun _ _ _ => rfl)
  rcases List.mem_append.1 hy with hy | hy
  ·exact hQ.wf y hy
  ·rw [List.mem_singleton] at hy; subst hy; exact hwx
 have hge : ¬ (n : Int) ≤ (l.length : Int) - 1 - k := by omega
 obtain rfl : k = l.length - n := by omega
 have hk7 : (l.length : Int) - 1 - ((l.length - n : Nat) : Int) = (n : Int) - 1 := by omega
 rw [hk7] at q7 hge
 (refine aw_ops (by kernel_rfl) (fun K hK => ?_); simp (disch := first | omega | (simp only [lnS]; try omega)) [-getElem?_pos, -getElem?_neg, q5, q7, nt_intG, hge]; refine hK _ _ ?_; clear hK K)
 refine aw_f (by (first | (simp [eval_tmp, put_at, hge]; done) | (simp [eval_tmp, put_at, hge]; omega))) (by kernel_rfl) ?_
 refine aw_exit ?_
 have hMv0 := backH_mv hr (n := n) hnl
 have hwB : ∀ y ∈ backH l (l.length - n), y.Wf := hQ.wf
 obtain ⟨α1, hα1⟩ : ∃ α1, α1 = (((α.put (some 42) (Value.int IntKind.i64 ((n : Int) - 1))).put (some 43) (Value.int IntKind.i64 (n : Int))).put (some 44) (Value.bool false)) := ⟨_, rfl⟩
 have q0 : α1 0 = u := by rw [hα1]; (first | (simp [put_at, put_none, fr0_at, q0]; done) | rfl)
 have q5 : α1 5 = .int .i64 (n : Nat) := by rw [hα1]; (first | (simp [put_at, put_none, fr0_at, q5]; done) | rfl)
 have q6 : α1 6 = qv := by rw [hα1]; (first | (simp [put_at, put_none, fr0_at, q6]; done) | rfl)
 rw [← hα1]
 clear hα1 q7
 refine aw_seq ?_
 refine aw_opsA 2 (by kernel_rfl) ?_
 simp only [List.take_succ_cons, List.take_zero, List.drop_succ_cons, List.drop_zero]
 simp (disch := first | omega | (simp only [lnS]; try omega)) [-getElem?_pos, -getElem?_neg, q0, q5, -notTuple, v1, v2]
 obtain ⟨hv0, hM0, hav⟩ := av_take (nro := n0) (nt := 129) (γ := γ) (α := (α1.put (some 66) u).put (some 67) (.int .i64 (n : Nat))) (H := G) (o := { dst := some 68, op := Op.slice 22 (Operand.tmp 66) none (some (Operand.tmp 67)) none, type := 22, pos := "law.go:75", after := #[{ on := 0, ground := Ground.data }, { on := 1, ground := Ground.data }], guard := none }) (x := .tmp 66) (y := .tmp 67) rfl (by kernel_rfl) (by simp [eval_tmp, put_at]) (by simp [eval_tmp, put_at]) hV hw hnl (hn0 ▸ hlow)
 refine al_step (v := ?v1) (H' := ?hh1) (by kernel_rfl) ?a1 ?b1
 case a1 => exact hav
 obtain ⟨m1, m2⟩ : notTuple hv0 = true ∧ hv0.cells = #[hv0] := ⟨hM0.nt, hM0.cs⟩
 refine al_xl (by kernel_rfl) (fun K hK => ?_)
 simp (disch := first | omega | (simp only [lnS]; try omega)) [-getElem?_pos, -getElem?_neg, -notTuple, m1, m2]
 refine hK _ _ ?_; clear hK K
 refine aw_seq ?_
 refine aw_block ?_
 refine aw_loop (fun c α G => ∃ (m : List NodeD) (q : List HeldD) (mv qv : Value), q.length = c ∧ α 0 = u ∧ α 10 = mv ∧ α 6 = qv ∧ NdA G mv m ∧ HdA G qv q ∧ (∀ y ∈ q, y.Wf ∧ y.got = []) ∧ Mv l m q ∧ Low n0 H G) (l.length - n) ?_ ?_
 ·exact ⟨l.take n, backH l (l.length - n), hv0, qv, backH_len _ _, by (first | (simp [put_at, put_none, fr0_at, q0]; done) | rfl), by (first | (simp [put_at, put_none, fr0_at]; done) | rfl), by (first | (simp [put_at, put_none, fr0_at, q6]; done) | rfl), hM0, hQ, fun y hy => ⟨hwB y hy, by obtain ⟨t, ht, rfl⟩ := mem_backH.1 hy; rfl⟩, hMv0, hlow⟩
 clear q0 q5 q6 hav m1 m2 hM0 hMv0 hwB hQ w1 w2 hlow hleG
 rintro c α G ⟨m, q, mv, qv, hqc, q0, q10, q6, hM, hQ, hqw, hMv, hlow⟩
 have hleG := hlow.2
 obtain ⟨m1, m2⟩ : notTuple mv = true ∧ mv.cells = #[mv] := ⟨hM.nt, hM.cs⟩
 obtain ⟨w1, w2⟩ : notTuple qv = true ∧ qv.cells = #[qv] := ⟨hQ.nt, hQ.cs⟩
 have hmx := hM.len
 have hqx := hQ.len
 have hlen := hMv.len
 refine aw_seq ?_
 refine aw_seq ?_
 by_cases hq0 : 0 < q.length
 case neg =>
  have hq0i : ¬ (0 : Int) < q.length := by omega
  (refine aw_ops (by kernel_rfl) (fun K hK => ?_); simp (disch := first | omega | (simp only [lnS]; try omega)) [-getElem?_pos, -getElem?_neg, q6, -notTuple, w1, w2, nt_intG, -xlen, hqx, hq0i]; refine hK _ _ ?_; clear hK K)
  refine aw_f (by (first | (simp [eval_tmp, put_at, hq0i]; done) | (simp [eval_tmp, put_at, hq0i]; omega))) (by kernel_rfl) ?_
  refine aw_exit ?_
  have hml : (m.length : Int) = l.length := by omega
  have alG := qalive_rc (γ := γ) (H := G)
  refine aw_seq ?_
  refine aw_ops (by kernel_rfl) (fun K hK => ?_)
  simp (disch := first | omega | (simp only [lnS]; try omega)) [-getElem?_pos, -getElem?_neg]
  refine ⟨by kernel_rfl, ac_of_rc alG (by simp [pv_iv, pv_int, pv_bool, pv_string, pv_tup2, pv_tup3, iv_plain, p2_int, p2_bool, p2_string]) ?_⟩
  try simp (disch := first | omega | (simp only [lnS]; try omega)) [-getElem?_pos, -getElem?_neg, q0, q10, -notTuple, v1, v2, m1, m2, nt_intG, -xlen, hxl, hmx, hml]
  refine hK _ _ ?_; clear hK K
  (refine aw_ret ?_; simp (disch := first | omega | (simp only [lnS]; try omega)) [-getElem?_pos, -getElem?_neg, thenQ_ret, scopeQ_ret, inBlockQ_ret, RQ, resL, resV])
 have hq0i : (0 : Int) < q.length := by omega
 obtain ⟨r, hrl, hrr, hadd0, hMv2⟩ := hMv.move hq0 h24
 have hrQ := hMv.right h24
 have hrM := hMv.sub.right
 have rd := ready_rc (γ := γ) hM (by simp only [maxLen]; omega) hQ (by simp only [maxLen]; omega)
 rw [hrM, hrQ, Bool.and_true, if_pos rfl, hrr] at rd
 have hw0 := hMv.wants q.length (Nat.le_refl _)
 have wa := wanted_ac (γ := γ) (nro := n0) hM (by simp only [maxLen]; omega) hQ (by simp only [maxLen]; omega) (by rw [hw0]; exact List.nodup_nil) (by rw [hw0]; exact Nat.zero_le _) hleG
 rw [hrM, hrQ, Bool.and_true, if_pos rfl, hw0, List.Perm.eq_nil (sortK_perm [])] at wa
 (refine aw_ops (by kernel_rfl) (fun K hK => ?_); simp (disch := first | omega | (simp only [lnS]; try omega)) [-getElem?_pos, -getElem?_neg, q6, -notTuple, w1, w2, nt_intG, -xlen, hqx, hq0i]; refine hK _ _ ?_; clear hK K)
 refine aw_t (by (first | (simp [eval_tmp, put_at, hq0i]; done) | (simp [eval_tmp, put_at, hq0i]; omega))) (by kernel_rfl) ?_
 refine aw_skip ?_
 refine aw_block ?_
 refine aw_seq ?_
 refine aw_ops (by kernel_rfl) (fun K hK => ?_)
 simp (disch := first | omega | (simp only [lnS]; try omega)) [-getElem?_pos, -getElem?_neg, q10, q6, -notTuple, m1, m2, w1, w2]
 refine ⟨by kernel_rfl, ac_of_rc rd (by simp [pv_iv, pv_int, pv_bool, pv_string, pv_tup2, pv_tup3, iv_plain, p2_int, p2_bool, p2_string]) ?_⟩
 try simp (disch := first | omega | (simp only [lnS]; try omega)) [-getElem?_pos, -getElem?_neg, nt_intG]
 refine hK _ _ ?_; clear hK K
 refine aw_seq ?_
 refine aw_seq ?_
 refine aw_cut (fun α2 G2 => α2 83 = .bool false ∧ α2 0 = u ∧ α2 10 = mv ∧ α2 6 = qv ∧ α2 11 = .int .i64 (r : Nat) ∧ Low G.length G G2) ?_ ?_
 ·refine aw_ops (by kernel_rfl) (fun K hK => ?_)
  simp (disch := first | omega | (simp only [lnS]; try omega)) [-getElem?_pos, -getElem?_neg, q10, q6, -notTuple, m1, m2, w1, w2, nt_intG, -xlen]
  refine ⟨by kernel_rfl, wa.mono ?_⟩
  rintro v G2 ⟨lw2, F, hF, _⟩
  obtain ⟨f1, f2⟩ := own_nt hF
  have hfl := hF.len (P := Try.prog) (t := 36) (by kernel_rfl) (n := 0) (by simp [kr]) (by omega)
  try simp (disch := first | omega | (simp only [lnS]; try omega)) [-getElem?_pos, -getElem?_neg, -notTuple, f1, f2, -xlen, hfl, nt_intG]
  refine hK _ _ ?_; clear hK K
  exact ⟨by (first | (simp [put_at, put_none, fr0_at]; done) | rfl), by (first | (simp [put_at, put_none, fr0_at, q0]; done) | rfl), by (first | (simp [put_at, put_none, fr0_at, q10]; done) | rfl), by (first | (simp [put_at, put_none, fr0_at, q6]; done) | rfl), by (first | (simp [put_at, put_none, fr0_at]; done) | rfl), lw2⟩
 clear q0 q10 q6
 rintro α G2 ⟨q83, q0, q10, q6, q11, lw2⟩
 have hle2 := lw2.2
 have hM2 := hM.lowG lw2
 have hQ2 := hQ.lowG lw2
 have hlow2 : Low n0 H G2 := ⟨fun j hj => (lw2.1 j (by omega)).trans (hlow.1 j hj), by omega⟩
 refine aw_f (by (first | (simp [eval_tmp, put_at, q83]; done) | (simp [eval_tmp, put_at, q83]; omega))) (by kernel_rfl) ?_
 refine aw_skip ?_
 obtain ⟨yw, yg⟩ := hqw _ (hn_mem hrl)
 obtain ⟨j, qo, bb, us, pv, wv, bv, kv, hx, hbG, hqo, hcell, hus, hC⟩ := hQ2.at_ r _ (hn_get hrl)
 have hid : (bb.cells.drop qo).take 32 = iv .u8 (hn q r).id := by
  have := hC.id
  rw [hus, List.take_take] at this
  simpa using this
 obtain ⟨u7, hu7⟩ : ∃ u7, (bb.cells.drop (qo + 32)).take 71 = u7 := ⟨_, rfl⟩
 have hO := hC.op
 rw [hus, ← op_cut, hu7] at hO
 have hul := hO.len
 have hivl : (iv .u8 (hn q r).id).length = 32 := by rw [iv_length, yw.id.1]
 have hadd := (add_rc (γ := γ) hM2 yw.id hO yw.op).thaw (nro := n0) (fun v G' h => ⟨h.1.2, h.1.1⟩)
 refine aw_seq ?_
 refine aw_cut (fun α2 G4 => α2 0 = u ∧ α2 6 = qv ∧ α2 11 = .int .i64 (r : Nat) ∧ ∃ sv, α2 12 = sv ∧ α2 13 = .int .i64 0 ∧ Low G2.length G2 G4 ∧ NewG G2.length G4 sv (m ++ [addD m (hn q r).id (hn q r).op])) ?_ ?_
 ·(refine aw_ptree [0, 1, 2, 3, 4, 6, 7, 8, 9] 8 [[5, 10, 11, 12, 13, 14, 15, 16], [5, 10, 11, 12, 13, 15, 14, 16], [5, 10, 11, 12, 14, 13, 15, 16], [10, 5, 11, 12, 13, 14, 15, 16], [10, 5, 11, 12, 13, 15, 14, 16], [10, 5, 11, 12, 14, 13, 15, 16]] (by kernel_rfl) (by kernel_rfl) (by kernel_rfl) (fun K hK => ?_)); simp only [sel, List.getElem?_cons_succ, List.getElem?_cons_zero]; simp (disch := first | omega | (simp only [lnS]; try omega)) [-getElem?_pos, -getElem?_neg, q10, q6, q11, -notTuple, m1, m2, w1, w2, nt_intG, nt_aggG, nt_ptrG, -xindexAddr, hx, hbG, hid, hu7, hul, hqo, hivl, XO_s, XO_z, XLk_val, XLk_call, headsO, behind, List.length_cons, List.length_nil, List.mem_cons, List.not_mem_nil, or_false, forall_eq_or_imp, forall_eq, List.contains_cons, List.contains_nil]
  refine ⟨⟨by kernel_rfl, hadd.mono ?_⟩, by kernel_rfl, hadd.mono ?_⟩
  all_goals rintro v G4 ⟨low4, sv, rfl, ⟨_, hnew⟩ | ⟨h0', _⟩⟩
  case inr | inr => exact absurd hadd0 h0'
  all_goals (obtain ⟨s1, s2⟩ := hnew.sh; rw [hadd0])
  ·simp (disch := first | omega | (simp only [lnS]; try omega)) [-getElem?_pos, -getElem?_neg, -notTuple, s1, s2, nt_intG, XO_s, XO_z, XLk_val, XLk_call, headsO, behind, List.length_cons, List.length_nil, List.mem_cons, List.not_mem_nil, or_false, forall_eq_or_imp, forall_eq, List.contains_cons, List.contains_nil]
   refine ⟨⟨hK _ _ ?_, hK _ _ ?_⟩, hK _ _ ?_⟩ <;> exact ⟨by (first | (simp [put_at, put_none, fr0_at, q0]; done) | rfl), by (first | (simp [put_at, put_none, fr0_at, q6]; done) | rfl), by (first | (simp [put_at, put_none, fr0_at, q11]; done) | rfl), sv, by (first | (simp [put_at, put_none, fr0_at]; done) | rfl), by (first | (simp [put_at, put_none, fr0_at]; done) | rfl), low4, hnew⟩
  ·simp (disch := first | omega | (simp only [lnS]; try omega)) [-getElem?_pos, -getElem?_neg, -notTuple, s1, s2, nt_intG, XO_s, XO_z, XLk_val, XLk_call, headsO, behind, List.length_cons, List.length_nil, List.mem_cons, List.not_mem_nil, or_false, forall_eq_or_imp, forall_eq, List.contains_cons, List.contains_nil]
   refine ⟨⟨hK _ _ ?_, hK _ _ ?_⟩, hK _ _ ?_⟩ <;> exact ⟨by (first | (simp [put_at, put_none, fr0_at, q0]; done) | rfl), by (first | (simp [put_at, put_none, fr0_at, q6]; done) | rfl), by (first | (simp [put_at, put_none, fr0_at, q11]; done) | rfl), sv, by (first | (simp [put_at, put_none, fr0_at]; done) | rfl), by (first | (simp [put_at, put_none, fr0_at]; done) | rfl), low4, hnew⟩
 clear q0 q6 q10 q11 q83
 rintro α G4 ⟨q0, q6, q11, sv, q12, q13, low4, hnew⟩
 obtain ⟨s1, s2⟩ := hnew.sh
 have hle4 := low4.2
 have hQ4 := hQ2.lowG low4
 have hlow4 : Low n0 H G4 := ⟨fun j hj => (low4.1 j (by omega)).trans (hlow2.1 j hj), by omega⟩
 have hm24 : m.length ≤ 1000 := by omega
 have hwn : ∀ x ∈ m ++ [addD m (hn q r).id (hn q r).op], x.Wf := fun x hx => by
  rcases List.mem_append.1 hx with hx | hx
  ·exact hM.wf x hx
  ·rw [List.mem_singleton] at hx; subst hx; exact addD_wf yw.id yw.op hm24
 have hM4 : NdA G4 sv (m ++ [addD m (hn q r).id (hn q r).op]) := hnew.nda hwn (fun _ _ _ => rfl)
 have hwz : witE q (r : Int) = 0 := by
  unfold witE
  rw [hrQ, if_neg (by simp), if_neg (by omega)]
 refine aw_seq ?_
 refine aw_ops (by kernel_rfl) (fun K hK => ?_)
 simp (disch := first | omega | (simp only [lnS]; try omega)) [-getElem?_pos, -getElem?_neg, q6, q11, -notTuple, w1, w2, nt_intG]
 refine ⟨by kernel_rfl, (without_ac (γ := γ) (nro := n0) (z := (r : Int)) hQ4 (by simp only [maxLen]; omega) (fun y hy => by rw [(hqw y hy).2]; exact Nat.zero_le _) hlow4.2).mono ?_⟩
 rintro v G5 ⟨low5, su, rfl, ⟨_, hnq⟩ | ⟨h0', _⟩⟩
 case inr => exact absurd hwz h0'
 rw [Int.toNat_natCast] at hnq
 obtain ⟨u1, u2⟩ := hnq.sh
 rw [hwz]
 try simp (disch := first | omega | (simp only [lnS]; try omega)) [-getElem?_pos, -getElem?_neg, -notTuple, u1, u2, nt_intG]
 refine hK _ _ ?_; clear hK K
 have hle5 := low5.2
 have hqw2 : ∀ y ∈ withoutL q r, y.Wf ∧ y.got = [] := fun y hy => by
  unfold withoutL at hy
  rcases List.mem_append.1 hy with hy | hy
  ·exact hqw y (List.mem_of_mem_take hy)
  ·exact hqw y (List.mem_of_mem_drop hy)
 have hQ5 : HdA G5 su (withoutL q r) := hnq.hda (fun y hy => (hqw2 y hy).1) (fun _ _ _ => rfl)
 have hM5 := hM4.lowG low5
 have hlow5 : Low n0 H G5 := ⟨fun j hj => (low5.1 j (by omega)).trans (hlow4.1 j hj), by omega⟩
 have hux := hQ5.len
 have hwlen : (withoutL q r).length = q.length - 1 := by
  unfold withoutL
  rw [List.length_append, List.length_take, List.length_drop]; omega
 have hwi : ((withoutL q r).length : Int) = (q.length : Int) - 1 := by omega
 rw [hwi] at hux
 refine aw_seq ?_
 refine aw_seq ?_
 (refine aw_ops (by kernel_rfl) (fun K hK => ?_); simp (disch := first | omega | (simp only [lnS]; try omega)) [-getElem?_pos, -getElem?_neg, q13, q6, -notTuple, w1, w2, u1, u2, nt_intG, -xlen, hqx, hux]; refine hK _ _ ?_; clear hK K)
 refine aw_f (by (first | (simp [eval_tmp, put_at]; done) | (simp [eval_tmp, put_at]; omega))) (by kernel_rfl) ?_
 refine aw_skip ?_
 refine aw_seq ?_
 (refine aw_ops (by kernel_rfl) (fun K hK => ?_); simp (disch := first | omega | (simp only [lnS]; try omega)) [-getElem?_pos, -getElem?_neg, q12, -notTuple, s1, s2]; refine hK _ _ ?_; clear hK K)
 (refine aw_ops (by kernel_rfl) (fun K hK => ?_); simp (disch := first | omega | (simp only [lnS]; try omega)) [-getElem?_pos, -getElem?_neg, -notTuple, u1, u2]; refine hK _ _ ?_; clear hK K)
 exact ⟨c - 1, by omega, _, _, sv, su, by omega, by (first | (simp [put_at, put_none, fr0_at, q0]; done) | rfl), by (first | (simp [put_at, put_none, fr0_at]; done) | rfl), by (first | (simp [put_at, put_none, fr0_at]; done) | rfl), hM5, hQ5, hqw2, hMv2, hlow5⟩
end
end Go.Proofs.Ytdeccbjdhcifiaa
