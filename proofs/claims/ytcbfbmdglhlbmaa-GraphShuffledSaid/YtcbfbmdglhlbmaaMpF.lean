/-
  Keys sorted: the insertion sort of the library, for at most twelve of them.
  graph.Heads.
  graph.Add.
  The vector that every right program answers: three nodes, put behind one another.
  The reference: Great.
  GraphOrder: the law, walked.
  GraphHeads: the law, walked.
  The same operations in another order: what is ahead, and the heads.
  GraphShuffled: the law, walked.
-/
import Derived.Test.YtcbfbmdglhlbmaaMpE
import Derived.Test.YtcbfbmdglhlbmaaMpC
namespace Go.Proofs.Ytcbfbmdglhlbmaa
open Go Go.RowKit
set_option linter.unusedSimpArgs false
set_option linter.unusedVariables false
set_option maxRecDepth 100000
set_option maxHeartbeats 4000000
section
/-- Keys as cells. -/
def kr (l : List (List Int)) : List Value := (l.map (iv .u8)).flatten
theorem ksC_kr (l : List (List Int)) : ksC l = kr l := by
  unfold ksC kr
  induction l with
  | nil => rfl
  | cons k l ih =>
    rw [List.map_cons, List.flatten_cons, List.map_append, ih, List.map_cons, List.flatten_cons]
    congr 1
    simp [kd, iv, CD.fv]
theorem kr_app (a b : List (List Int)) : kr (a ++ b) = kr a ++ kr b := by simp [kr]
theorem kr_one (k : List Int) : kr [k] = iv .u8 k := by simp [kr]
def K32 (l : List (List Int)) : Prop := ∀ k ∈ l, k.length = 32
theorem kr_rows {l : List (List Int)} (h : K32 l) : ∀ r ∈ l.map (iv .u8), r.length = 32 := fun r hr => by
  obtain ⟨k, hk, rfl⟩ := List.mem_map.1 hr
  rw [iv_length]; exact h k hk
theorem kr_len {l : List (List Int)} (h : K32 l) : (kr l).length = l.length * 32 := by unfold kr; rw [fl_len (kr_rows h), List.length_map]
theorem kr_get {l : List (List Int)} (h : K32 l) {j : Nat} {k : List Int} (hj : l[j]? = some k) : ((kr l).drop (j * 32)).take 32 = iv .u8 k := fl_get (kr_rows h) (by rw [List.getElem?_map, hj]; rfl)
theorem kr_set {l : List (List Int)} (h : K32 l) {j : Nat} {k : List Int} (hj : j < l.length) (hk : k.length = 32) : setR (kr l) (j * 32) (iv .u8 k) = kr (l.set j k) := by
  have hj' : l[j]? = some l[j] := List.getElem?_eq_getElem hj
  have hq := h _ (List.mem_of_getElem? hj')
  unfold kr
  rw [fl_setR (q := iv .u8 l[j]) (kr_rows h) (by rw [List.getElem?_map, hj']; rfl) (by rw [iv_length, hk]; omega)]
  rw [List.drop_of_length_le (by rw [iv_length, iv_length]; omega), List.append_nil, List.map_set]
theorem kr_addr {n b j : Nat} (hj : j < n) : xindexAddr Try.prog 30 (.slice (some ⟨b, 0, none⟩) n n) (.int .i64 (j : Nat)) = some (.pointer (some ⟨b, j * 32, none⟩)) := by
  have h1 : und Try.prog 30 = .slice 24 := by kernel_rfl
  have h2 : szt Try.prog 24 = 32 := by kernel_rfl
  unfold xindexAddr
  simp only [h1, h2]
  rw [if_pos ⟨by omega, by omega, by omega⟩]
  simp
theorem kr_load {G : AH} {b j : Nat} {l : List (List Int)} {k : List Int} (h : K32 l) (hj : l[j]? = some k) (hb : hget G b = some ⟨kr l, 24, some 32⟩) : xload Try.prog 24 (.pointer (some ⟨b, j * 32, none⟩)) G = some (.agg (iv .u8 k).toArray) := by
  have hl := (List.getElem?_eq_some_iff.1 hj).1
  refine load_at (sz := 32) hb (by kernel_rfl) (by omega) (by kernel_rfl) (kr_get h hj).symm ?_
  show _ ≤ (kr l).length
  rw [kr_len h]
  have : (j + 1) * 32 ≤ l.length * 32 := Nat.mul_le_mul_right _ hl
  omega
attribute [local simp] wb_bool wb_undef with_lit XL_nil XL_cons XLc_val XLc_call step1_eq stepW_t stepW_f stepC_n stepC_s stepX_s stepX_n stepN_s calleeX oneV xop_eq xopR_s xopR_n wantedA_eq wantedG_n wantedG_s plain1_int plain1_bool plain1_string bits_i64 bits_u64 bits_u32 bits_u16 bits_u8 xeqA xagg xcmp xarr allK_iv num_iv calleeOf xread xeff xbin xint xnil xun xstr xload xconv xpart xfield xfieldAddr xindexAddr xindex bnd asInt? xslice xlen xmin xmax xbuild xfill xappend xapp2 xappstr xappmk xcap xcopy xcells eval_tmp eval_const put_at put_none fr0_at cells_agg cells_int cells_bool cells_string cells_ptr cells_slice notTuple tab iv_all hget_app hget_app0 hget_cons0 hget_cons set_app set_app0 setR setR_one QL_nil QL_cons QLc_val stepQ_t stepQ_f stepQC_n stepQC_s stepQX_s SL_nil SL_cons SLc_val stepS_t stepS_f ltT ltF leT leF eqT eqF ltTn ltFn leTn leFn eqTn eqFn beqT beqF bneT bneF wi64 wu64 wu32 wu16 wu8 tmodP tdivP hgetL hgetNe hgetEq setL nums_def nums_len Nat.succ_le_of_lt List.getElem?_cons_zero List.getElem?_cons_succ Option.getD_some Int.toNat_add Int.toNat_mul agM okM agB agI agS agP agL agA okB okI okS okP okSl okA
theorem heads1_rc {γ : Nat → Option Nat} {H : AH} {a b : List Int} (ha : a.length = 32) (hb : b.length = 32) : AC Try.prog H.length γ 49 #[.agg (iv .u8 a).toArray, .agg (iv .u8 b).toArray] H (fun v' _ => v' = .int .i64 (cmpL a b)) := by
  have hla : (iv .u8 a).length = 32 := by rw [iv_length, ha]
  have hlb : (iv .u8 b).length = 32 := by rw [iv_length, hb]
  refine ac_of_aw Try.func49 rfl Try.ntmps49 Try.results49 (by simp) ?_
  refine aw_seq ?_
  (refine aw_ops (by kernel_rfl) (fun K hK => ?_); simp (disch := first | omega | (simp only [lnS]; try omega; done)) [-getElem?_pos, -getElem?_neg, hla, hlb]; refine hK _ _ ?_; clear hK K)
  obtain ⟨G, hG⟩ : ∃ G : AH, G = H ++ [some ⟨iv .u8 a, 24, none⟩, some ⟨iv .u8 b, 24, none⟩] := ⟨_, rfl⟩
  have g0 : hget G H.length = some ⟨iv .u8 a, 24, none⟩ := by rw [hG, hget_app0]; rfl
  have g1 : hget G (H.length + 1) = some ⟨iv .u8 b, 24, none⟩ := by rw [hG, hget_app]; rfl
  rw [← hG]
  clear hG
  refine aw_seq ?_
  (refine aw_plan [] [] [0, 1, 2, 3] 4 0 (by kernel_rfl) (by kernel_rfl) (by kernel_rfl) (fun K hK => ?_)); simp only [sel, List.getElem?_cons_succ, List.getElem?_cons_zero, List.drop_succ_cons, List.drop_zero]; simp (disch := first | omega | (simp only [lnS]; try omega; done)) [-getElem?_pos, -getElem?_neg, g0, g1, hla, hlb, PL_nil, plainB_lit, PL_cons, PLc_val, PLc_new, stepP_t, stepP_f, stepPC_n, stepPC_s, stepPX_s, stepPX_n, stepPV_n, stepPV_s, stepPA_t, stepPA_c, stepPA_l, stepPN_s, allocOp, reloc_sl, reloc_ptr, List.map_cons, List.map_nil, List.nil_append, List.append_assoc, List.cons_append, Nat.add_assoc]
  refine PLc_call (v := .int .i64 (cmpL a b)) (by kernel_rfl) (fun L hL => ?_) (by simp [pv_iv, pv_int, pv_bool, pv_string, pv_tup2, pv_tup3, iv_plain, p2_int, p2_bool, p2_string]) ?_
  · exact (compare_ac (hget_left' g0) (hget_left' g1) ha hb).mono fun v' H' h => h.1
  simp (disch := first | omega | (simp only [lnS]; try omega; done)) [-getElem?_pos, -getElem?_neg, PL_nil, plainB_lit, PL_cons, PLc_val, PLc_new, stepP_t, stepP_f, stepPC_n, stepPC_s, stepPX_s, stepPX_n, stepPV_n, stepPV_s, stepPA_t, stepPA_c, stepPA_l, stepPN_s, allocOp, reloc_sl, reloc_ptr, List.map_cons, List.map_nil, List.nil_append, List.append_assoc, List.cons_append, Nat.add_assoc]
  refine hK _ _ ?_; clear hK K
  (refine aw_ret ?_; simp (disch := first | omega | (simp only [lnS]; try omega; done)) [-getElem?_pos, -getElem?_neg, thenQ_ret, scopeQ_ret, inBlockQ_ret, RQ, resL, resV])
theorem heads1_callable : callable Try.prog 49 = true := by kernel_rfl
/-- Others than one block are as they were. -/
def Oth (b : Nat) (H G : AH) : Prop := H.length ≤ G.length ∧ ∀ j, j < H.length → j ≠ b → hget G j = hget H j
/-- What a sort answers. -/
def SortQ (b : Nat) (ids : List (List Int)) (H : AH) (v' : Value) (H' : AH) : Prop := hget H' b = some ⟨kr (sortK ids), 24, some 32⟩ ∧ Oth b H H'
theorem insertion_ac {nro : Nat} {γ : Nat → Option Nat} {H : AH} {b n : Nat} {ids : List (List Int)} (hb : hget H b = some ⟨kr ids, 24, some 32⟩) (hn : ids.length = n) (hk : K32 ids) (hy : ∀ k ∈ ids, By k) (hnd : ids.Nodup) (hle : n ≤ 100) (hnro : nro ≤ b) :
    AC Try.prog nro γ 83 #[.slice (some ⟨b, 0, none⟩) n n, .int .i64 0, .int .i64 (n : Nat), .func (.func 49) #[] #[]] H (SortQ b ids H) := by
  have hbl := hget_lt hb
  refine ac_of_aw Try.func83 rfl Try.ntmps83 Try.results83 (by simp) ?_
  refine aw_seq ?_
  (refine aw_ops (by kernel_rfl) (fun K hK => ?_); simp (disch := first | omega | (simp only [lnS]; try omega; done)) [-getElem?_pos, -getElem?_neg]; refine hK _ _ ?_; clear hK K)
  refine aw_block ?_
  refine aw_loop (fun c α G => ∃ (i : Nat) (S : List (List Int)), 1 ≤ i ∧ i + c = n + 1 ∧ α 0 = .slice (some ⟨b, 0, none⟩) n n ∧ α 1 = .int .i64 0 ∧ α 2 = .int .i64 (n : Nat) ∧ α 3 = .func (.func 49) #[] #[] ∧ α 8 = .int .i64 (i : Nat) ∧ hget G b = some ⟨kr (S ++ ids.drop i), 24, some 32⟩ ∧ Oth b H G ∧ S.Perm (ids.take i) ∧ Rise S) n ?_ ?_
  · refine ⟨1, ids.take 1, by omega, by omega, by (first | (simp [put_at, put_none, fr0_at]; done) | rfl), by (first | (simp [put_at, put_none, fr0_at]; done) | rfl), by (first | (simp [put_at, put_none, fr0_at]; done) | rfl), by (first | (simp [put_at, put_none, fr0_at]; done) | rfl), by (first | (simp [put_at, put_none, fr0_at]; done) | rfl), by rw [List.take_append_drop]; exact hb, ⟨Nat.le_refl _, fun _ _ _ => rfl⟩, .refl _, ?_⟩
    cases ids with
    | nil => exact List.Pairwise.nil
    | cons k l => simp
  rintro c α G ⟨i, S, hi1, hic, h0, h1, h2, h3, h8, hbG, hoth, hperm, hrise⟩
  refine aw_seq ?_
  refine aw_seq ?_
  by_cases hi : i < n
  case neg =>
    (refine aw_ops (by kernel_rfl) (fun K hK => ?_); simp (disch := first | omega | (simp only [lnS]; try omega; done)) [-getElem?_pos, -getElem?_neg, h8, h2, hi]; refine hK _ _ ?_; clear hK K)
    refine aw_f (by (first | (simp [eval_tmp, put_at, hi]; done) | (simp [eval_tmp, put_at, hi]; omega))) (by kernel_rfl) ?_
    refine aw_exit ?_
    have e1 : ids.take i = ids := List.take_of_length_le (by omega)
    have e2 : ids.drop i = [] := List.drop_of_length_le (by omega)
    rw [e1] at hperm
    rw [e2, List.append_nil, sortK_eq hperm hrise] at hbG
    exact ⟨[], _, rfl, rfl, hbG, hoth⟩
  (refine aw_ops (by kernel_rfl) (fun K hK => ?_); simp (disch := first | omega | (simp only [lnS]; try omega; done)) [-getElem?_pos, -getElem?_neg, h8, h2, hi]; refine hK _ _ ?_; clear hK K)
  refine aw_t (by (first | (simp [eval_tmp, put_at, hi]; done) | (simp [eval_tmp, put_at, hi]; omega))) (by kernel_rfl) ?_
  refine aw_skip ?_
  refine aw_seq ?_
  refine aw_block ?_
  refine aw_seq ?_
  (refine aw_ops (by kernel_rfl) (fun K hK => ?_); simp (disch := first | omega | (simp only [lnS]; try omega; done)) [-getElem?_pos, -getElem?_neg, h8]; refine hK _ _ ?_; clear hK K)
  obtain ⟨x, hx⟩ : ∃ x, ids[i]? = some x := ⟨_, List.getElem?_eq_getElem (by omega)⟩
  have hxm := List.mem_of_getElem? hx
  have hx32 := hk x hxm
  have hxb := hy x hxm
  have hdi : ids.drop i = x :: ids.drop (i + 1) := by
    obtain ⟨hl, e⟩ := List.getElem?_eq_some_iff.1 hx
    rw [List.drop_eq_getElem_cons hl, e]
  have htk : ids.take (i + 1) = ids.take i ++ [x] := by rw [List.take_add_one, hx]; rfl
  have hSl : S.length = i := by rw [hperm.length_eq, List.length_take]; omega
  have hSm : ∀ s ∈ S, s ∈ ids := fun s hs => List.mem_of_mem_take (hperm.mem_iff.1 hs)
  have hxS : x ∉ S := fun h => by
    have h2 := hperm.mem_iff.1 h
    have hnd2 : (ids.take i ++ [x]).Nodup := by rw [← htk]; exact hnd.sublist (List.take_sublist _ _)
    exact (List.pairwise_append.1 hnd2).2.2 x h2 x (by simp) rfl
  refine aw_block ?_
  refine aw_loop (fun c2 α G => c2 ≤ i ∧ α 0 = .slice (some ⟨b, 0, none⟩) n n ∧ α 1 = .int .i64 0 ∧ α 2 = .int .i64 (n : Nat) ∧ α 3 = .func (.func 49) #[] #[] ∧ α 8 = .int .i64 (i : Nat) ∧ α 9 = .int .i64 (c2 : Nat) ∧ hget G b = some ⟨kr (S.take c2 ++ x :: S.drop c2 ++ ids.drop (i + 1)), 24, some 32⟩ ∧ Oth b H G ∧ ∀ s ∈ S.drop c2, x < s) i ?_ ?_
  · refine ⟨Nat.le_refl _, by (first | (simp [put_at, put_none, fr0_at, h0]; done) | rfl), by (first | (simp [put_at, put_none, fr0_at, h1]; done) | rfl), by (first | (simp [put_at, put_none, fr0_at, h2]; done) | rfl), by (first | (simp [put_at, put_none, fr0_at, h3]; done) | rfl), by (first | (simp [put_at, put_none, fr0_at, h8]; done) | rfl), by (first | (simp [put_at, put_none, fr0_at]; done) | rfl), ?_, hoth, ?_⟩
    · rw [hbG, hdi, List.take_of_length_le (l := S) (by omega), List.drop_of_length_le (l := S) (by omega)]
      simp
    · rw [List.drop_of_length_le (l := S) (by omega)]
      simp
  rintro j α G ⟨hji, h0, h1, h2, h3, h8, h9, hbG, hoth, hgt⟩
  have hLm : ∀ k ∈ S.take j ++ x :: S.drop j ++ ids.drop (i + 1), k ∈ ids := fun k hm => by
    simp only [List.mem_append, List.mem_cons] at hm
    rcases hm with (hm | rfl | hm) | hm
    · exact hSm k (List.mem_of_mem_take hm)
    · exact hxm
    · exact hSm k (List.mem_of_mem_drop hm)
    · exact List.mem_of_mem_drop hm
  have hLk : K32 (S.take j ++ x :: S.drop j ++ ids.drop (i + 1)) := fun k hm => hk k (hLm k hm)
  have hLn : (S.take j ++ x :: S.drop j ++ ids.drop (i + 1)).length = n := by simp; omega
  have hLj : (S.take j ++ x :: S.drop j ++ ids.drop (i + 1))[j]? = some x := by
    rw [List.append_assoc, List.getElem?_append_right (by rw [List.length_take]; omega), List.length_take]
    rw [show j - min j S.length = 0 by omega]
    rfl
  have hend : ∀ s, j ≠ 0 → S[j - 1]? = some s → ¬ x < s → True := fun _ _ _ _ => trivial
  refine aw_seq ?_
  refine aw_seq ?_
  have hexit : (∀ s, j ≠ 0 → S[j - 1]? = some s → ¬ x < s) → (S.take j ++ x :: S.drop j).Perm (ids.take (i + 1)) ∧ Rise (S.take j ++ x :: S.drop j) := fun hle => by
    refine ⟨?_, rise_put hrise (by omega) hgt hle hxS⟩
    rw [htk]
    exact (put_perm x j).trans (hperm.append_right _)
  by_cases hj0 : j = 0
  · subst hj0
    obtain ⟨hp2, hr2⟩ := hexit (fun s h => absurd rfl h)
    (refine aw_plan [] [] [0, 1, 2, 3, 4, 5, 6, 7, 8, 9, 10, 11, 12, 13, 14, 15, 16] 17 0 (by kernel_rfl) (by kernel_rfl) (by kernel_rfl) (fun K hK => ?_)); simp only [sel, List.getElem?_cons_succ, List.getElem?_cons_zero, List.drop_succ_cons, List.drop_zero]; simp (disch := first | omega | (simp only [lnS]; try omega; done)) [-getElem?_pos, -getElem?_neg, h9, h1, PL_nil, plainB_lit, PL_cons, PLc_val, PLc_new, stepP_t, stepP_f, stepPC_n, stepPC_s, stepPX_s, stepPX_n, stepPV_n, stepPV_s, stepPA_t, stepPA_c, stepPA_l, stepPN_s, allocOp, reloc_sl, reloc_ptr, List.map_cons, List.map_nil, List.nil_append, List.append_assoc, List.cons_append, Nat.add_assoc]
    refine hK _ _ ?_; clear hK K
    refine aw_f (by (first | (simp [eval_tmp, put_at]; done) | (simp [eval_tmp, put_at]; omega))) (by kernel_rfl) ?_
    refine aw_exit ?_
    (refine aw_ops (by kernel_rfl) (fun K hK => ?_); simp (disch := first | omega | (simp only [lnS]; try omega; done)) [-getElem?_pos, -getElem?_neg, h8]; refine hK _ _ ?_; clear hK K)
    exact ⟨c - 1, by omega, i + 1, _, by omega, by omega, by (first | (simp [put_at, put_none, fr0_at, h0]; done) | rfl), by (first | (simp [put_at, put_none, fr0_at, h1]; done) | rfl), by (first | (simp [put_at, put_none, fr0_at, h2]; done) | rfl), by (first | (simp [put_at, put_none, fr0_at, h3]; done) | rfl), by (first | (simp [put_at, put_none, fr0_at]; done) | rfl), hbG, hoth, hp2, hr2⟩
  obtain ⟨s, hs⟩ : ∃ s, S[j - 1]? = some s := ⟨_, List.getElem?_eq_getElem (by omega)⟩
  have hsm := hSm s (List.mem_of_getElem? hs)
  have hs32 := hk s hsm
  have hsb := hy s hsm
  have hsub : (j : Int) - 1 = ((j - 1 : Nat) : Int) := by omega
  have hLj1 : (S.take j ++ x :: S.drop j ++ ids.drop (i + 1))[j - 1]? = some s := by
    rw [List.append_assoc, List.getElem?_append_left (by rw [List.length_take]; omega), List.getElem?_take_of_lt (by omega), hs]
  have a0 := kr_addr (b := b) (show j < n by omega)
  have a1 := kr_addr (b := b) (show j - 1 < n by omega)
  have l0 := kr_load hLk hLj hbG
  have l1 := kr_load hLk hLj1 hbG
  have hcall := heads1_rc (γ := γ) (H := G) hx32 hs32
  have hlt := cmpL_lt hxb hsb (by omega)
  have hjp : 0 < j := by omega
  have hfn : notTuple (.func (.func 49) #[] #[]) = true := rfl
  have hfc : (Value.func (.func 49) #[] #[]).cells = #[.func (.func 49) #[] #[]] := rfl
  have t1 := kr_set hLk (j := j) (k := s) (by omega) hs32
  have hLk2 : K32 ((S.take j ++ x :: S.drop j ++ ids.drop (i + 1)).set j s) := fun k hm => by
    rcases List.mem_or_eq_of_mem_set hm with h | rfl
    · exact hLk k h
    · exact hs32
  have t2 := kr_set hLk2 (j := j - 1) (k := x) (by rw [List.length_set]; omega) hx32
  have hLs : ((S.take j ++ x :: S.drop j ++ ids.drop (i + 1)).set j s).set (j - 1) x = S.take (j - 1) ++ x :: S.drop (j - 1) ++ ids.drop (i + 1) := by
    have e1 : S.take j = S.take (j - 1) ++ [s] := by
      have := List.take_add_one (l := S) (i := j - 1)
      rwa [show j - 1 + 1 = j by omega, hs] at this
    have e2 : S.drop (j - 1) = s :: S.drop j := by
      obtain ⟨hl, e⟩ := List.getElem?_eq_some_iff.1 hs
      rw [List.drop_eq_getElem_cons hl, e, show j - 1 + 1 = j by omega]
    have e3 : (S.take (j - 1)).length = j - 1 := by rw [List.length_take]; omega
    rw [e1, e2]
    obtain ⟨A, hA⟩ : ∃ A, A = S.take (j - 1) := ⟨_, rfl⟩
    rw [← hA] at e3 ⊢
    obtain ⟨m, rfl⟩ : ∃ m, j = m + 1 := ⟨j - 1, by omega⟩
    simp only [Nat.add_sub_cancel] at e3 ⊢
    rw [List.append_assoc, List.append_assoc, List.append_assoc, List.set_append_right _ _ (by omega), List.set_append_right _ _ (by omega), e3]
    simp
  rw [hLs] at t2
  have hgl : (kr (S.take j ++ x :: S.drop j ++ ids.drop (i + 1))).length = n * 32 := by rw [kr_len hLk, hLn]
  have hgl2 : (kr ((S.take j ++ x :: S.drop j ++ ids.drop (i + 1)).set j s)).length = n * 32 := by rw [kr_len hLk2, List.length_set, hLn]
  generalize hL : S.take j ++ x :: S.drop j ++ ids.drop (i + 1) = L at t1 t2 hgl hgl2 hbG
  have hdj : S.drop (j - 1) = s :: S.drop j := by
    obtain ⟨hl, e⟩ := List.getElem?_eq_some_iff.1 hs
    rw [List.drop_eq_getElem_cons hl, e, show j - 1 + 1 = j by omega]
  generalize hL3 : S.take (j - 1) ++ x :: S.drop (j - 1) ++ ids.drop (i + 1) = L3 at t2
  (refine aw_plan [] [] [0, 1, 2, 3, 4, 5, 6, 7, 8, 9, 10, 11, 12, 13, 14, 15, 16] 17 0 (by kernel_rfl) (by kernel_rfl) (by kernel_rfl) (fun K hK => ?_)); simp only [sel, List.getElem?_cons_succ, List.getElem?_cons_zero, List.drop_succ_cons, List.drop_zero]; simp (disch := first | omega | (simp only [lnS]; try omega; done)) [-getElem?_pos, -getElem?_neg, h0, h1, h3, h9, hjp, hsub, hfn, hfc, nt_ptrG, nt_intG, nt_slG, -xload, l0, l1, -xindexAddr, a0, a1, PL_nil, plainB_lit, PL_cons, PLc_val, PLc_new, stepP_t, stepP_f, stepPC_n, stepPC_s, stepPX_s, stepPX_n, stepPV_n, stepPV_s, stepPA_t, stepPA_c, stepPA_l, stepPN_s, allocOp, reloc_sl, reloc_ptr, List.map_cons, List.map_nil, List.nil_append, List.append_assoc, List.cons_append, Nat.add_assoc]
  refine PLc_callV (v := .int .i64 (cmpL x s)) heads1_callable (by simpa using hcall) (by simp [pv_iv, pv_int, pv_bool, pv_string, pv_tup2, pv_tup3, iv_plain, p2_int, p2_bool, p2_string]) ?_
  have hbl2 := hget_lt hbG
  by_cases hc : cmpL x s < 0
  · have hxs : x < s := hlt.1 hc
    have hc2 : ¬ 0 ≤ cmpL x s := by omega
    simp (disch := first | omega | (simp only [lnS]; try omega; done)) [-getElem?_pos, -getElem?_neg, hc, hc2, PL_nil, plainB_lit, PL_cons, PLc_val, PLc_new, stepP_t, stepP_f, stepPC_n, stepPC_s, stepPX_s, stepPX_n, stepPV_n, stepPV_s, stepPA_t, stepPA_c, stepPA_l, stepPN_s, allocOp, reloc_sl, reloc_ptr, List.map_cons, List.map_nil, List.nil_append, List.append_assoc, List.cons_append, Nat.add_assoc]
    refine hK _ _ ?_; clear hK K
    refine aw_t (by (first | (simp [eval_tmp, put_at, hc]; done) | (simp [eval_tmp, put_at, hc]; omega))) (by kernel_rfl) ?_
    refine aw_skip ?_
    refine aw_seq ?_
    refine aw_block ?_
    (refine aw_plan [] [2, 3, 4] [0, 1, 5, 6, 7, 8, 9, 10, 11, 12, 13, 14] 15 3 (by kernel_rfl) (by kernel_rfl) (by kernel_rfl) (fun K hK => ?_)); simp only [sel, List.getElem?_cons_succ, List.getElem?_cons_zero, List.drop_succ_cons, List.drop_zero]; simp (disch := first | omega | (simp only [lnS]; try omega; done)) [-getElem?_pos, -getElem?_neg, h0, h9, hsub, nt_ptrG, nt_intG, nt_slG, nt_aggG, -xload, l0, l1, -xindexAddr, a0, a1, hbG, hgl, hgl2, hx32, hs32, iv_length, t1, t2, PL_nil, plainB_lit, PL_cons, PLc_val, PLc_new, stepP_t, stepP_f, stepPC_n, stepPC_s, stepPX_s, stepPX_n, stepPV_n, stepPV_s, stepPA_t, stepPA_c, stepPA_l, stepPN_s, allocOp, reloc_sl, reloc_ptr, List.map_cons, List.map_nil, List.nil_append, List.append_assoc, List.cons_append, Nat.add_assoc]
    refine hK _ _ ?_; clear hK K
    have hG2 : hget (G.set b (some ⟨kr L3, 24, some 32⟩)) b = some ⟨kr L3, 24, some 32⟩ := hget_set_eq hbl2
    have hoth2 : Oth b H (G.set b (some ⟨kr L3, 24, some 32⟩)) := ⟨by rw [List.length_set]; exact hoth.1, fun j hj hjb => (hget_set_ne (fun e => hjb e.symm)).trans (hoth.2 j hj hjb)⟩
    generalize G.set b (some ⟨kr L3, 24, some 32⟩) = G2 at *
    subst hL3
    (refine aw_ops (by kernel_rfl) (fun K hK => ?_); simp (disch := first | omega | (simp only [lnS]; try omega; done)) [-getElem?_pos, -getElem?_neg, h9, hsub]; refine hK _ _ ?_; clear hK K)
    refine ⟨j - 1, by omega, by omega, by (first | (simp [put_at, put_none, fr0_at, h0]; done) | rfl), by (first | (simp [put_at, put_none, fr0_at, h1]; done) | rfl), by (first | (simp [put_at, put_none, fr0_at, h2]; done) | rfl), by (first | (simp [put_at, put_none, fr0_at, h3]; done) | rfl), by (first | (simp [put_at, put_none, fr0_at, h8]; done) | rfl), by (first | (simp [put_at, put_none, fr0_at]; done) | rfl), hG2, hoth2, fun s' hs' => ?_⟩
    rw [hdj] at hs'
    rcases List.mem_cons.1 hs' with rfl | hs'
    · exact hxs
    · exact hgt s' hs'
  · have hc2 : 0 ≤ cmpL x s := by omega
    simp (disch := first | omega | (simp only [lnS]; try omega; done)) [-getElem?_pos, -getElem?_neg, hc, hc2, PL_nil, plainB_lit, PL_cons, PLc_val, PLc_new, stepP_t, stepP_f, stepPC_n, stepPC_s, stepPX_s, stepPX_n, stepPV_n, stepPV_s, stepPA_t, stepPA_c, stepPA_l, stepPN_s, allocOp, reloc_sl, reloc_ptr, List.map_cons, List.map_nil, List.nil_append, List.append_assoc, List.cons_append, Nat.add_assoc]
    refine hK _ _ ?_; clear hK K
    refine aw_f (by (first | (simp [eval_tmp, put_at, hc]; done) | (simp [eval_tmp, put_at, hc]; omega))) (by kernel_rfl) ?_
    refine aw_exit ?_
    (refine aw_ops (by kernel_rfl) (fun K hK => ?_); simp (disch := first | omega | (simp only [lnS]; try omega; done)) [-getElem?_pos, -getElem?_neg, h8]; refine hK _ _ ?_; clear hK K)
    obtain ⟨hp2, hr2⟩ := hexit (fun s' _ h => by rw [hs] at h; cases h; exact fun h => hc (hlt.2 h))
    exact ⟨c - 1, by omega, i + 1, _, by omega, by omega, by (first | (simp [put_at, put_none, fr0_at, h0]; done) | rfl), by (first | (simp [put_at, put_none, fr0_at, h1]; done) | rfl), by (first | (simp [put_at, put_none, fr0_at, h2]; done) | rfl), by (first | (simp [put_at, put_none, fr0_at, h3]; done) | rfl), by (first | (simp [put_at, put_none, fr0_at]; done) | rfl), by rw [hL]; exact hbG, hoth, hp2, hr2⟩
theorem len_rc {nro : Nat} {γ : Nat → Option Nat} {H : AH} {n : Nat} (hn : n ≤ 12) : AC Try.prog nro γ 69 #[.int .u64 (n : Nat)] H (fun v' H' => H' = H ∧ ∃ z, v' = .int .i64 z) := by
  have h64 : AC Try.prog nro γ 92 #[.int .u64 (n : Nat)] H (fun v' H' => H' = H ∧ ∃ z, v' = .int .i64 z) := by
    refine ac_of_aw Try.func92 rfl Try.ntmps92 Try.results92 (by simp) ?_
    refine aw_seq ?_
    (refine aw_ops (by kernel_rfl) (fun K hK => ?_); simp (disch := first | omega | (simp only [lnS]; try omega; done)) [-getElem?_pos, -getElem?_neg]; refine hK _ _ ?_; clear hK K)
    refine aw_seq ?_
    refine aw_seq ?_
    (refine aw_ops (by kernel_rfl) (fun K hK => ?_); simp (disch := first | omega | (simp only [lnS]; try omega; done)) [-getElem?_pos, -getElem?_neg]; refine hK _ _ ?_; clear hK K)
    refine aw_f (by (first | (simp [eval_tmp, put_at]; done) | (simp [eval_tmp, put_at]; omega))) (by kernel_rfl) ?_
    refine aw_skip ?_
    refine aw_seq ?_
    refine aw_seq ?_
    (refine aw_ops (by kernel_rfl) (fun K hK => ?_); simp (disch := first | omega | (simp only [lnS]; try omega; done)) [-getElem?_pos, -getElem?_neg]; refine hK _ _ ?_; clear hK K)
    refine aw_f (by (first | (simp [eval_tmp, put_at]; done) | (simp [eval_tmp, put_at]; omega))) (by kernel_rfl) ?_
    refine aw_skip ?_
    refine aw_seq ?_
    refine aw_seq ?_
    (refine aw_ops (by kernel_rfl) (fun K hK => ?_); simp (disch := first | omega | (simp only [lnS]; try omega; done)) [-getElem?_pos, -getElem?_neg]; refine hK _ _ ?_; clear hK K)
    refine aw_f (by (first | (simp [eval_tmp, put_at]; done) | (simp [eval_tmp, put_at]; omega))) (by kernel_rfl) ?_
    refine aw_skip ?_
    refine aw_seq ?_
    (refine aw_ops (by kernel_rfl) (fun K hK => ?_); simp (disch := first | omega | (simp only [lnS]; try omega; done)) [-getElem?_pos, -getElem?_neg, ByteArray.size, List.size_toArray, List.length_cons, List.length_nil]; refine hK _ _ ?_; clear hK K)
    (refine aw_ret ?_; simp (disch := first | omega | (simp only [lnS]; try omega; done)) [-getElem?_pos, -getElem?_neg, thenQ_ret, scopeQ_ret, inBlockQ_ret, RQ, resL, resV])
  refine ac_of_aw Try.func69 rfl Try.ntmps69 Try.results69 (by simp) ?_
  refine aw_seq ?_
  (refine aw_ops (by kernel_rfl) (fun K hK => ?_); simp (disch := first | omega | (simp only [lnS]; try omega; done)) [-getElem?_pos, -getElem?_neg]; refine hK _ _ ?_; clear hK K)
  refine aw_seq ?_
  refine aw_f (by (first | (simp [eval_tmp, put_at]; done) | (simp [eval_tmp, put_at]; omega))) (by kernel_rfl) ?_
  refine aw_skip ?_
  refine aw_seq ?_
  refine aw_ops (by kernel_rfl) (fun K hK => ?_)
  simp (disch := first | omega | (simp only [lnS]; try omega; done)) [-getElem?_pos, -getElem?_neg]
  refine ⟨by kernel_rfl, h64.mono ?_⟩
  rintro v1 G1 ⟨rfl, z, rfl⟩
  try simp (disch := first | omega | (simp only [lnS]; try omega; done)) [-getElem?_pos, -getElem?_neg]
  refine hK _ _ ?_; clear hK K
  (refine aw_ret ?_; simp (disch := first | omega | (simp only [lnS]; try omega; done)) [-getElem?_pos, -getElem?_neg, thenQ_ret, scopeQ_ret, inBlockQ_ret, RQ, resL, resV])
theorem sort_go {nro : Nat} {γ : Nat → Option Nat} {H : AH} {v : Value} {n : Nat} {z : Int} {Q : Value → AH → Prop} (hv : notTuple v = true ∧ v.cells = #[v]) (hle : n ≤ 12)
    (hins : AC Try.prog nro γ 83 #[v, .int .i64 0, .int .i64 (n : Nat), .func (.func 49) #[] #[]] H (fun _ G => ∀ u, Q u G)) :
    AC Try.prog nro γ 68 #[v, .int .i64 0, .int .i64 (n : Nat), .int .i64 z, .func (.func 49) #[] #[]] H (fun _ G => ∀ u, Q u G) := by
  obtain ⟨v1, v2⟩ := hv
  have hfn : notTuple (.func (.func 49) #[] #[]) = true := rfl
  have hfc : (Value.func (.func 49) #[] #[]).cells = #[.func (.func 49) #[] #[]] := rfl
  refine ac_of_aw Try.func68 rfl Try.ntmps68 Try.results68 (by simp) ?_
  refine aw_seq ?_
  (refine aw_ops (by kernel_rfl) (fun K hK => ?_); simp (disch := first | omega | (simp only [lnS]; try omega; done)) [-getElem?_pos, -getElem?_neg]; refine hK _ _ ?_; clear hK K)
  refine aw_seq ?_
  (refine aw_ops (by kernel_rfl) (fun K hK => ?_); simp (disch := first | omega | (simp only [lnS]; try omega; done)) [-getElem?_pos, -getElem?_neg]; refine hK _ _ ?_; clear hK K)
  refine aw_block ?_
  refine aw_loop (fun c α G => G = H ∧ α 0 = v ∧ α 1 = .int .i64 0 ∧ α 2 = .int .i64 (n : Nat) ∧ α 4 = .func (.func 49) #[] #[]) 1 ?_ ?_
  · exact ⟨rfl, by (first | (simp [put_at, put_none, fr0_at]; done) | rfl), by (first | (simp [put_at, put_none, fr0_at]; done) | rfl), by (first | (simp [put_at, put_none, fr0_at]; done) | rfl), by (first | (simp [put_at, put_none, fr0_at]; done) | rfl)⟩
  rintro c α G ⟨rfl, h0, h1, h2, h4⟩
  refine aw_block ?_
  refine aw_seq ?_
  (refine aw_ops (by kernel_rfl) (fun K hK => ?_); simp (disch := first | omega | (simp only [lnS]; try omega; done)) [-getElem?_pos, -getElem?_neg, h1, h2]; refine hK _ _ ?_; clear hK K)
  refine aw_seq ?_
  refine aw_seq ?_
  (refine aw_ops (by kernel_rfl) (fun K hK => ?_); simp (disch := first | omega | (simp only [lnS]; try omega; done)) [-getElem?_pos, -getElem?_neg, hle]; refine hK _ _ ?_; clear hK K)
  refine aw_t (by (first | (simp [eval_tmp, put_at, hle]; done) | (simp [eval_tmp, put_at, hle]; omega))) (by kernel_rfl) ?_
  refine aw_seq ?_
  refine aw_ops (by kernel_rfl) (fun K hK => ?_)
  simp (disch := first | omega | (simp only [lnS]; try omega; done)) [-getElem?_pos, -getElem?_neg, h0, h1, h2, h4, -notTuple, v1, v2, hfn, hfc, nt_intG]
  refine ⟨by kernel_rfl, hins.mono ?_⟩
  intro u G1 hq
  try simp (disch := first | omega | (simp only [lnS]; try omega; done)) [-getElem?_pos, -getElem?_neg]
  refine hK _ _ ?_; clear hK K
  (refine aw_ret ?_; simp (disch := first | omega | (simp only [lnS]; try omega; done)) [-getElem?_pos, -getElem?_neg, thenQ_ret, scopeQ_ret, inBlockQ_ret, RQ, resL, resV])
  exact hq
theorem sortFunc_go {nro : Nat} {γ : Nat → Option Nat} {H : AH} {v : Value} {n : Nat} {Q : Value → AH → Prop} (hv : notTuple v = true ∧ v.cells = #[v]) (hxl : xlen Try.prog 30 v = some (.int .i64 n)) (hle : n ≤ 12)
    (hins : AC Try.prog nro γ 83 #[v, .int .i64 0, .int .i64 (n : Nat), .func (.func 49) #[] #[]] H (fun _ G => ∀ u, Q u G)) :
    AC Try.prog nro γ 48 #[v, .func (.func 49) #[] #[]] H (fun _ G => ∀ u, Q u G) := by
  have hgo := fun z => sort_go (z := z) hv hle hins
  obtain ⟨v1, v2⟩ := hv
  have hfn : notTuple (.func (.func 49) #[] #[]) = true := rfl
  have hfc : (Value.func (.func 49) #[] #[]).cells = #[.func (.func 49) #[] #[]] := rfl
  have hlen := len_rc (nro := nro) (γ := γ) (H := H) hle
  refine ac_of_aw Try.func48 rfl Try.ntmps48 Try.results48 (by simp) ?_
  refine aw_seq ?_
  (refine aw_ops (by kernel_rfl) (fun K hK => ?_); simp (disch := first | omega | (simp only [lnS]; try omega; done)) [-getElem?_pos, -getElem?_neg, -notTuple, v1, v2, hfn, hfc, nt_intG, -xlen, hxl]; refine hK _ _ ?_; clear hK K)
  refine aw_ops (by kernel_rfl) (fun K hK => ?_)
  simp (disch := first | omega | (simp only [lnS]; try omega; done)) [-getElem?_pos, -getElem?_neg, -notTuple, v1, v2, hfn, hfc, nt_intG]
  refine ⟨by kernel_rfl, hlen.mono ?_⟩
  rintro u1 G1 ⟨rfl, z, rfl⟩
  try simp (disch := first | omega | (simp only [lnS]; try omega; done)) [-getElem?_pos, -getElem?_neg, -notTuple, v1, v2, hfn, hfc, nt_intG]
  refine ⟨by kernel_rfl, (hgo z).mono ?_⟩
  intro u G1 hq
  try simp (disch := first | omega | (simp only [lnS]; try omega; done)) [-getElem?_pos, -getElem?_neg]
  refine hK _ _ ?_; clear hK K
  exact ⟨[], _, rfl, rfl, hq⟩
theorem insertion_nil {nro : Nat} {γ : Nat → Option Nat} {H : AH} : AC Try.prog nro γ 83 #[.slice none 0 0, .int .i64 0, .int .i64 ((0 : Nat) : Int), .func (.func 49) #[] #[]] H (fun _ G => G = H) := by
  refine ac_of_aw Try.func83 rfl Try.ntmps83 Try.results83 (by simp) ?_
  refine aw_seq ?_
  (refine aw_ops (by kernel_rfl) (fun K hK => ?_); simp (disch := first | omega | (simp only [lnS]; try omega; done)) [-getElem?_pos, -getElem?_neg]; refine hK _ _ ?_; clear hK K)
  refine aw_block ?_
  refine aw_loop (fun c α G => G = H ∧ α 8 = .int .i64 1 ∧ α 2 = .int .i64 0) 1 ?_ ?_
  · exact ⟨rfl, by (first | (simp [put_at, put_none, fr0_at]; done) | rfl), by (first | (simp [put_at, put_none, fr0_at]; done) | rfl)⟩
  rintro c α G ⟨rfl, h8, h2⟩
  refine aw_seq ?_
  refine aw_seq ?_
  (refine aw_ops (by kernel_rfl) (fun K hK => ?_); simp (disch := first | omega | (simp only [lnS]; try omega; done)) [-getElem?_pos, -getElem?_neg, h8, h2]; refine hK _ _ ?_; clear hK K)
  refine aw_f (by (first | (simp [eval_tmp, put_at]; done) | (simp [eval_tmp, put_at]; omega))) (by kernel_rfl) ?_
  refine aw_exit ?_
  exact ⟨[], _, rfl, rfl, rfl⟩
/-- An own list of keys, sorted where it lies. -/
theorem sortFunc_ac {nro : Nat} {γ : Nat → Option Nat} {H : AH} {v : Value} {F : List Nat} {ids : List (List Int)} (ho : OwnF H v 24 32 (kr ids) F) (hF : ∀ j ∈ F, nro ≤ j) (hk : K32 ids) (hy : ∀ k ∈ ids, By k) (hnd : ids.Nodup) (hle : ids.length ≤ 12) :
    AC Try.prog nro γ 48 #[v, .func (.func 49) #[] #[]] H (fun _ G => OwnF G v 24 32 (kr (sortK ids)) F ∧ H.length ≤ G.length ∧ ∀ j, j < H.length → j ∉ F → hget G j = hget H j) := by
  have hxl := ho.len (P := Try.prog) (t := 30) (by simp) (kr_len hk) (by omega)
  have hnt := own_nt ho
  refine (sortFunc_go (nro := nro) (γ := γ) (Q := fun _ G => OwnF G v 24 32 (kr (sortK ids)) F ∧ H.length ≤ G.length ∧ ∀ j, j < H.length → j ∉ F → hget G j = hget H j) hnt hxl hle ?_).mono (fun u G h => h u)
  rcases ho with ⟨rfl, hc, rfl⟩ | ⟨j, len, rfl, h2, h3, rfl⟩
  · have hl : ids = [] := by
      have := kr_len hk
      rw [hc, List.length_nil] at this
      exact List.eq_nil_of_length_eq_zero (by omega)
    subst hl
    refine (insertion_nil (nro := nro) (γ := γ) (H := H)).mono ?_
    rintro _ G rfl _
    refine ⟨.inl ⟨rfl, ?_, rfl⟩, Nat.le_refl _, fun _ _ _ => rfl⟩
    rw [(sortK_perm []).eq_nil]; rfl
  · rw [kr_len hk] at h3
    obtain rfl : ids.length = len := by omega
    refine (insertion_ac (nro := nro) (γ := γ) h2 rfl hk hy hnd (by omega) (hF j (by simp))).mono ?_
    rintro _ G ⟨q1, q2, q3⟩ _
    have hks : K32 (sortK ids) := fun k hm => hk k ((sortK_perm ids).mem_iff.1 hm)
    exact ⟨.inr ⟨j, _, rfl, q1, by rw [kr_len hks, (sortK_perm ids).length_eq], rfl⟩, q2, fun i hi hn => q3 i hi (fun e => hn (by simp [e]))⟩
end
section
theorem hasW_zero (k : Nat) : hasW [0, 0] 0 k = false := by
  unfold hasW
  have : ([0, 0] : List Nat).getD (2 * 0 + k / 64) 0 = 0 := by
    match k / 64 with
    | 0 => rfl
    | 1 => rfl
    | j + 2 => rfl
  rw [this]
  exact Nat.zero_testBit _
def behT (l : List NodeD) (t k : Nat) : Bool := (List.range t).any fun i => decide ((k : Int) ∈ (nd l i).past)
theorem behT_succ (l : List NodeD) (t k : Nat) : behT l (t + 1) k = (behT l t k || decide ((k : Int) ∈ (nd l t).past)) := by
  unfold behT
  rw [List.range_succ, List.any_append]
  simp
def headT (l : List NodeD) (t : Nat) : List (List Int) := ((List.range t).filter fun k => !behB l k).map fun k => (nd l k).id
theorem headT_succ (l : List NodeD) (t : Nat) : headT l (t + 1) = headT l t ++ (if behB l t = true then [] else [(nd l t).id]) := by
  unfold headT
  rw [List.range_succ, List.filter_append, List.map_append]
  cases h : behB l t <;> simp [h]
theorem headT_len (l : List NodeD) (t : Nat) : (headT l t).length ≤ t := by
  unfold headT
  rw [List.length_map]
  exact Nat.le_trans (List.length_filter_le _ _) (by simp)
theorem headT_mem {l : List NodeD} {t : Nat} {k : List Int} (h : k ∈ headT l t) : ∃ i, i < t ∧ k = (nd l i).id := by
  unfold headT at h
  obtain ⟨i, hi, rfl⟩ := List.mem_map.1 h
  exact ⟨i, List.mem_range.1 (List.mem_filter.1 hi).1, rfl⟩
theorem Oth.low {n b : Nat} {H G K : AH} (hn : n ≤ b) (hl : Low n H G) (h : Oth b G K) : Low n H K := ⟨fun j hj => (h.2 j (by have := hl.2; omega) (by omega)).trans (hl.1 j hj), by have := hl.2; have := h.1; omega⟩
theorem fill_keyG {k : IntKind} {x : List Int} {n : Nat} (z : List Int) (hx : (iv k x).length = n) : xfill (fun i => some (i * n, n)) (List.map (fun j => (iv k z)[j % n]?.getD undef) (List.range n)) [(0, .agg (iv k x).toArray)] = some (iv k x) := by
  have h1 : (Value.agg (iv k x).toArray).cells.size = n := by simpa [Value.cells] using hx
  unfold xfill
  simp only [Nat.zero_mul]
  rw [if_pos ⟨h1, by rw [h1]; simp⟩]
  unfold xfill
  rw [setR_all _ _ (by simp [Value.cells, hx])]
  rfl
/-- Answers of Heads. -/
def HeadsQ (l : List NodeD) (H : AH) (v' : Value) (H' : AH) : Prop :=
  Low H.length H H' ∧ ((rightG l = true ∧ ∃ F, OwnF H' v' 24 32 (kr (headsL l)) F ∧ ∀ j ∈ F, H.length ≤ j) ∨ (rightG l = false ∧ v' = .slice none 0 0))
attribute [local simp] wb_bool wb_undef with_lit XL_nil XL_cons XLc_val XLc_call step1_eq stepW_t stepW_f stepC_n stepC_s stepX_s stepX_n stepN_s calleeX oneV xop_eq xopR_s xopR_n wantedA_eq wantedG_n wantedG_s plain1_int plain1_bool plain1_string bits_i64 bits_u64 bits_u32 bits_u16 bits_u8 xeqA xagg xcmp xarr allK_iv num_iv calleeOf xread xeff xbin xint xnil xun xstr xload xconv xpart xfield xfieldAddr xindexAddr xindex bnd asInt? xslice xlen xmin xmax xbuild xfill xappend xapp2 xappstr xappmk xcap xcopy xcells eval_tmp eval_const put_at put_none fr0_at cells_agg cells_int cells_bool cells_string cells_ptr cells_slice notTuple tab iv_all hget_app hget_app0 hget_cons0 hget_cons set_app set_app0 setR setR_one QL_nil QL_cons QLc_val stepQ_t stepQ_f stepQC_n stepQC_s stepQX_s SL_nil SL_cons SLc_val stepS_t stepS_f ltT ltF leT leF eqT eqF ltTn ltFn leTn leFn eqTn eqFn beqT beqF bneT bneF wi64 wu64 wu32 wu16 wu8 tmodP tdivP hgetL hgetNe hgetEq setL nums_def nums_len Nat.succ_le_of_lt List.getElem?_cons_zero List.getElem?_cons_succ Option.getD_some Int.toNat_add Int.toNat_mul agM okM agB agI agS agP agL agA okB okI okS okP okSl okA
theorem heads_rc {γ : Nat → Option Nat} {H : AH} {nv : Value} {l : List NodeD} (hN : NdA H nv l) : AC Try.prog H.length γ 19 #[nv] H (HeadsQ l H) := by
  have r3 := graph_right_rc (γ := γ) hN
  have hN' := hN
  obtain ⟨hnt, hvc, hxl, hwf, hat⟩ := hN
  refine ac_of_aw Try.func19 rfl Try.ntmps19 Try.results19 (by simp) ?_
  refine aw_seq ?_
  (refine aw_ops (by kernel_rfl) (fun K hK => ?_); simp (disch := first | omega | (simp only [lnS]; try omega; done)) [-getElem?_pos, -getElem?_neg]; refine hK _ _ ?_; clear hK K)
  refine aw_seq ?_
  refine aw_seq ?_
  refine aw_ops (by kernel_rfl) (fun K hK => ?_)
  simp (disch := first | omega | (simp only [lnS]; try omega; done)) [-getElem?_pos, -getElem?_neg, -notTuple, hnt, hvc, nt_intG]
  refine ⟨by kernel_rfl, ac_of_rc r3 (by simp [pv_iv, pv_int, pv_bool, pv_string, pv_tup2, pv_tup3, iv_plain, p2_int, p2_bool, p2_string]) ?_⟩
  cases hr : rightG l with
  | false =>
    try simp (disch := first | omega | (simp only [lnS]; try omega; done)) [-getElem?_pos, -getElem?_neg]
    refine hK _ _ ?_; clear hK K
    refine aw_t (by (first | (simp [eval_tmp, put_at]; done) | (simp [eval_tmp, put_at]; omega))) (by kernel_rfl) ?_
    refine aw_seq ?_
    (refine aw_ops (by kernel_rfl) (fun K hK => ?_); simp (disch := first | omega | (simp only [lnS]; try omega; done)) [-getElem?_pos, -getElem?_neg]; refine hK _ _ ?_; clear hK K)
    (refine aw_ret ?_; simp (disch := first | omega | (simp only [lnS]; try omega; done)) [-getElem?_pos, -getElem?_neg, thenQ_ret, scopeQ_ret, inBlockQ_ret, RQ, resL, resV])
    exact ⟨Low.refl (Nat.le_refl _), .inr ⟨hr, rfl⟩⟩
  | true =>
  try simp (disch := first | omega | (simp only [lnS]; try omega; done)) [-getElem?_pos, -getElem?_neg]
  refine hK _ _ ?_; clear hK K
  refine aw_f (by (first | (simp [eval_tmp, put_at]; done) | (simp [eval_tmp, put_at]; omega))) (by kernel_rfl) ?_
  refine aw_skip ?_
  have hl := rightG_len hr
  have hm63 : l.length ≤ 9223372036854775807 := by omega
  obtain ⟨n, hn⟩ : ∃ n, n = H.length := ⟨_, rfl⟩
  refine aw_seq ?_
  (refine aw_ops (by kernel_rfl) (fun K hK => ?_); simp (disch := first | omega | (simp only [lnS]; try omega; done)) [-getElem?_pos, -getElem?_neg]; refine hK _ _ ?_; clear hK K)
  obtain ⟨hlow0, hb0⟩ := boxed (H := H) (iv .u64 (zl 2)) 67
  have hwz : iv .u64 (zl 2) = [] ++ wv [0, 0] := rfl
  rw [hwz] at hlow0 hb0 ⊢
  rw [← hn] at hlow0 hb0 ⊢
  generalize H ++ [some ⟨[] ++ wv [0, 0], 67, none⟩] = G0 at *
  have hwd0 : Wd [0, 0] := fun x hx => by
    have : x = 0 := by simpa using hx
    omega
  refine aw_seq ?_
  refine aw_seq ?_
  (refine aw_ops (by kernel_rfl) (fun K hK => ?_); simp (disch := first | omega | (simp only [lnS]; try omega; done)) [-getElem?_pos, -getElem?_neg, -notTuple, hnt, hvc, nt_intG, -xlen, hxl]; refine hK _ _ ?_; clear hK K)
  refine aw_block ?_
  refine aw_loop (fun c α G => ∃ (t : Nat) (W : List Nat), t + c = l.length ∧ α 0 = nv ∧ α 3 = .pointer (some ⟨n, 0, none⟩) ∧ α 14 = nv ∧ α 15 = .int .i64 (l.length : Nat) ∧ α 16 = .int .i64 (t : Nat) ∧ Low n H G ∧ hget G n = some ⟨[] ++ wv W, 67, none⟩ ∧ Wd W ∧ W.length = 2 ∧ ∀ k, k < 128 → hasW W 0 k = behT l t k) l.length ?_ ?_
  · exact ⟨0, [0, 0], by omega, by (first | (simp [put_at, put_none, fr0_at]; done) | rfl), by (first | (simp [put_at, put_none, fr0_at]; done) | rfl), by (first | (simp [put_at, put_none, fr0_at]; done) | rfl), by (first | (simp [put_at, put_none, fr0_at]; done) | rfl), by (first | (simp [put_at, put_none, fr0_at]; done) | rfl), hlow0, hb0, hwd0, rfl, fun k _ => hasW_zero k⟩
  rintro c α G ⟨t, W, htc, h0, h3, h14, h15, h16, hlow, hb, hwd, hWl, hW⟩
  refine aw_seq ?_
  by_cases ht : t < l.length
  case neg =>
    (refine aw_ops (by kernel_rfl) (fun K hK => ?_); simp (disch := first | omega | (simp only [lnS]; try omega; done)) [-getElem?_pos, -getElem?_neg, h15, h16, ht]; refine hK _ _ ?_; clear hK K)
    refine aw_seq ?_
    refine aw_f (by (first | (simp [eval_tmp, put_at, ht]; done) | (simp [eval_tmp, put_at, ht]; omega))) (by kernel_rfl) ?_
    refine aw_exit ?_
    obtain rfl : t = l.length := by omega
    have hW2 : ∀ k, k < 128 → hasW W 0 k = behB l k := hW
    clear hW h14 h15 h16
    refine aw_seq ?_
    (refine aw_ops (by kernel_rfl) (fun K hK => ?_); simp (disch := first | omega | (simp only [lnS]; try omega; done)) [-getElem?_pos, -getElem?_neg]; refine hK _ _ ?_; clear hK K)
    refine aw_seq ?_
    refine aw_seq ?_
    (refine aw_ops (by kernel_rfl) (fun K hK => ?_); simp (disch := first | omega | (simp only [lnS]; try omega; done)) [-getElem?_pos, -getElem?_neg, h0, -notTuple, hnt, hvc, nt_intG, -xlen, hxl]; refine hK _ _ ?_; clear hK K)
    refine aw_block ?_
    refine aw_loop (fun c2 α G => ∃ (i : Nat) (v : Value) (F : List Nat), i + c2 = l.length ∧ α 3 = .pointer (some ⟨n, 0, none⟩) ∧ α 8 = v ∧ α 31 = nv ∧ α 32 = .int .i64 (l.length : Nat) ∧ α 33 = .int .i64 (i : Nat) ∧ Low n H G ∧ hget G n = some ⟨[] ++ wv W, 67, none⟩ ∧ OwnF G v 24 32 (kr (headT l i)) F ∧ ∀ j ∈ F, n < j) l.length ?_ ?_
    · exact ⟨0, .slice none 0 0, [], by omega, by (first | (simp [put_at, put_none, fr0_at, h3]; done) | rfl), by (first | (simp [put_at, put_none, fr0_at]; done) | rfl), by (first | (simp [put_at, put_none, fr0_at]; done) | rfl), by (first | (simp [put_at, put_none, fr0_at]; done) | rfl), by (first | (simp [put_at, put_none, fr0_at]; done) | rfl), hlow, hb, .inl ⟨rfl, rfl, rfl⟩, fun j hj => by cases hj⟩
    rintro c2 α G ⟨i, v, F, hic, h3, h8, h31, h32, h33, hlow, hb, hown, hF⟩
    obtain ⟨v1, v2⟩ := own_nt hown
    have hTl := headT_len l i
    refine aw_seq ?_
    by_cases hi : i < l.length
    case neg =>
      (refine aw_ops (by kernel_rfl) (fun K hK => ?_); simp (disch := first | omega | (simp only [lnS]; try omega; done)) [-getElem?_pos, -getElem?_neg, h32, h33, hi]; refine hK _ _ ?_; clear hK K)
      refine aw_seq ?_
      refine aw_f (by (first | (simp [eval_tmp, put_at, hi]; done) | (simp [eval_tmp, put_at, hi]; omega))) (by kernel_rfl) ?_
      refine aw_exit ?_
      obtain rfl : i = l.length := by omega
      have hids : headT l l.length = headK l := rfl
      rw [hids] at hown hTl
      have hsort := sortFunc_ac (nro := n) (γ := γ) hown (fun j hj => by have := hF j hj; omega) (fun k hk => by
        obtain ⟨i, hi, rfl⟩ := headT_mem (t := l.length) hk
        exact (hwf _ (List.mem_of_getElem? (nd_get hi))).id.1) (fun k hk => by
        obtain ⟨i, hi, rfl⟩ := headT_mem (t := l.length) hk
        exact (hwf _ (List.mem_of_getElem? (nd_get hi))).id.2) (headK_nodup hr) (by have := headP_len hr; unfold headK; rw [List.length_map]; omega)
      refine aw_seq ?_
      refine aw_ops (by kernel_rfl) (fun K hK => ?_)
      simp (disch := first | omega | (simp only [lnS]; try omega; done)) [-getElem?_pos, -getElem?_neg, h8, -notTuple, v1, v2, nt_intG, eval_fnG]
      refine ⟨by kernel_rfl, hsort.mono ?_⟩
      rintro u G1 ⟨ho, hle, hk⟩
      try simp (disch := first | omega | (simp only [lnS]; try omega; done)) [-getElem?_pos, -getElem?_neg]
      refine hK _ _ ?_; clear hK K
      refine aw_seq ?_
      (refine aw_ops (by kernel_rfl) (fun K hK => ?_); simp (disch := first | omega | (simp only [lnS]; try omega; done)) [-getElem?_pos, -getElem?_neg, h8, -notTuple, v1, v2]; refine hK _ _ ?_; clear hK K)
      (refine aw_ret ?_; simp (disch := first | omega | (simp only [lnS]; try omega; done)) [-getElem?_pos, -getElem?_neg, thenQ_ret, scopeQ_ret, inBlockQ_ret, RQ, resL, resV])
      exact ⟨⟨fun j hj => (hk j (by have := hlow.2; omega) (fun h => by have := hF j h; omega)).trans (hlow.1 j (by omega)), by have := hlow.2; omega⟩, .inl ⟨hr, F, ho, fun j hj => by have := hF j hj; omega⟩⟩
    obtain ⟨j, q, bb, us, pv, wv', bv, qv, hx, hbb, hq, hcell, hus, hC⟩ := hat i _ (nd_get hi)
    have hbG : hget G j = some bb := (hlow.1 j (by have := hget_lt hbb; omega)).trans hbb
    have hul := hC.len
    have hid := hC.id
    have hidl := (hwf _ (List.mem_of_getElem? (nd_get hi))).id.1
    have hivl : (iv .u8 (nd l i).id).length = 32 := by rw [iv_length, hidl]
    have hle0 := hlow.2
    have hset2 : ∀ Z : List Value, Z.length = 104 → setR Z 0 us = us := fun Z hZ => setR_all _ _ (by omega)
    have hus' := hus.symm
    clear hus
    have hp0 : plain1 (.slice none 0 0) = true := rfl
    (refine aw_ops (by kernel_rfl) (fun K hK => ?_); simp (disch := first | omega | (simp only [lnS]; try omega; done)) [-getElem?_pos, -getElem?_neg, h32, h33, hi]; refine hK _ _ ?_; clear hK K)
    refine aw_seq ?_
    refine aw_t (by (first | (simp [eval_tmp, put_at, hi]; done) | (simp [eval_tmp, put_at, hi]; omega))) (by kernel_rfl) ?_
    refine aw_skip ?_
    refine aw_seq ?_
    refine aw_block ?_
    refine aw_seq ?_
    have hnG : H.length ≤ G.length := by omega
    (refine aw_ops (by kernel_rfl) (fun K hK => ?_); simp (disch := first | omega | (simp only [lnS]; try omega; done)) [-getElem?_pos, -getElem?_neg, h31, h33, -notTuple, hnt, hvc, nt_intG, nt_aggG, -xindexAddr, hx, hbG, hus', hul, hq, hnG, hp0, all_zl, hset2]; refine hK _ _ ?_; clear hK K)
    obtain ⟨hlow2, hb2⟩ := boxed (H := G) us 39
    have hmb := hget_left' (L := [some ⟨us, 39, none⟩]) hb
    have hown := hown.low (H' := G ++ ([some ⟨us, 39, none⟩] : AH)) (fun j hj => hget_left (hown.lt j hj))
    obtain ⟨g, hg⟩ : ∃ g, g = G.length := ⟨_, rfl⟩
    rw [← hg] at hb2 hlow2 hle0 ⊢
    generalize G ++ [some ⟨us, 39, none⟩] = G2 at *
    have hlowG2 : Low n H G2 := ⟨fun j hj => (hlow2.1 j (by omega)).trans (hlow.1 j hj), by have := hlow2.2; omega⟩
    have hhas := has_rc (nro := n) (γ := γ) (i := 0) (k := i) (off := 0) (p := 0) (pre := []) hmb rfl rfl hwd (by omega) (by omega)
    rw [hW2 i (by omega)] at hhas
    have hsu := headT_succ l i
    refine aw_seq ?_
    refine aw_ops (by kernel_rfl) (fun K hK => ?_)
    simp (disch := first | omega | (simp only [lnS]; try omega; done)) [-getElem?_pos, -getElem?_neg, h3]
    refine ⟨by kernel_rfl, hhas.mono ?_⟩
    rintro u G3 ⟨rfl, rfl⟩
    cases hbh : behB l i with
    | true =>
      try simp (disch := first | omega | (simp only [lnS]; try omega; done)) [-getElem?_pos, -getElem?_neg]
      refine hK _ _ ?_; clear hK K
      refine aw_f (by (first | (simp [eval_tmp, put_at]; done) | (simp [eval_tmp, put_at]; omega))) (by kernel_rfl) ?_
      refine aw_skip ?_
      (refine aw_ops (by kernel_rfl) (fun K hK => ?_); simp (disch := first | omega | (simp only [lnS]; try omega; done)) [-getElem?_pos, -getElem?_neg, h33]; refine hK _ _ ?_; clear hK K)
      rw [hbh, if_pos rfl, List.append_nil] at hsu
      exact ⟨c2 - 1, by omega, i + 1, v, F, by omega, by (first | (simp [put_at, put_none, fr0_at, h3]; done) | rfl), by (first | (simp [put_at, put_none, fr0_at, h8]; done) | rfl), by (first | (simp [put_at, put_none, fr0_at, h31]; done) | rfl), by (first | (simp [put_at, put_none, fr0_at, h32]; done) | rfl), by (first | (simp [put_at, put_none, fr0_at]; done) | rfl), hlowG2, hmb, by rw [hsu]; exact hown, hF⟩
    | false =>
      try simp (disch := first | omega | (simp only [lnS]; try omega; done)) [-getElem?_pos, -getElem?_neg]
      refine hK _ _ ?_; clear hK K
      refine aw_t (by (first | (simp [eval_tmp, put_at]; done) | (simp [eval_tmp, put_at]; omega))) (by kernel_rfl) ?_
      rw [hbh, if_neg (by simp)] at hsu
      have hTk : K32 (headT l i) := fun k hk => by
        obtain ⟨a, ha, rfl⟩ := headT_mem hk
        exact (hwf _ (List.mem_of_getElem? (nd_get (show a < l.length by omega)))).id.1
      have hkl := kr_len hTk
      generalize headT l i = out at *
      generalize (nd l i).id = key at *
      have htk : List.take 32 (iv .u8 key) = iv .u8 key := List.take_of_length_le (by omega)
      have hxc : xcells 32 (.slice (some ⟨G3.length, 0, none⟩) 1 1) (G3 ++ [some ⟨iv .u8 key, 24, some 32⟩]) = some (iv .u8 key) := by simp [xcells, hget_app0, hivl, htk]
      obtain ⟨v', G5, hap, ho3, hl3, hk3⟩ := ownF_append (P := Try.prog) (nro := n) (t := 30) (e := 24) (H := G3 ++ [some ⟨iv .u8 key, 24, some 32⟩]) (v := v) (x := .slice (some ⟨G3.length, 0, none⟩) 1 1) (sz := 32) (cells := kr out) (news := iv .u8 key) (F := F) (by simp) (by simp) (by omega) (by simp) (hown.low (fun j hj => hget_left (hown.lt j hj)))
        (fun j hj => by have := hF j hj; omega) (fun s e => by cases e) hxc (fun e => by rw [e] at hivl; simp at hivl) (by rw [hivl]) (by rw [hkl, hivl]; simp; omega) (by rw [hkl, hivl]; simp [maxLen]; omega)
      have hfil := fill_keyG (k := .u8) (x := key) (n := 32) (zl 32) hivl
      (refine aw_ops (by kernel_rfl) (fun K hK => ?_); simp (disch := first | omega | (simp only [lnS]; try omega; done)) [-getElem?_pos, -getElem?_neg, h8, hb2, hul, hid, hivl, htk, -notTuple, v1, v2, nt_slG, nt_aggG, -xfill, hfil, all_zl, -xappend, hap]; refine hK _ _ ?_; clear hK K)
      (refine aw_ops (by kernel_rfl) (fun K hK => ?_); simp (disch := first | omega | (simp only [lnS]; try omega; done)) [-getElem?_pos, -getElem?_neg, h33]; refine hK _ _ ?_; clear hK K)
      have hgl := hget_lt hmb
      refine ⟨c2 - 1, by omega, i + 1, v', _, by omega, by (first | (simp [put_at, put_none, fr0_at, h3]; done) | rfl), by (first | (simp [put_at, put_none, fr0_at]; done) | rfl), by (first | (simp [put_at, put_none, fr0_at, h31]; done) | rfl), by (first | (simp [put_at, put_none, fr0_at, h32]; done) | rfl), by (first | (simp [put_at, put_none, fr0_at]; done) | rfl), ?_, ?_, by rw [hsu, kr_app, kr_one]; exact ho3, fun j hj => ?_⟩
      · exact ⟨fun j hj => (hk3 j (by have := hlowG2.2; simp; omega) (fun h => by have := hF _ h; omega)).trans ((hget_left (by have := hlowG2.2; omega)).trans (hlowG2.1 j hj)), by have := hlowG2.2; rw [hl3]; simp; omega⟩
      · exact (hk3 n (by simp; omega) (fun h => by have := hF _ h; omega)).trans ((hget_left (by omega)).trans hmb)
      · rw [List.mem_singleton] at hj
        rw [hj]
        simp; omega
  obtain ⟨j, q, bb, us, pv, wv', bv, qv, hx, hbb, hq, hcell, hus, hC⟩ := hat t _ (nd_get ht)
  have hbG : hget G j = some bb := (hlow.1 j (by have := hget_lt hbb; omega)).trans hbb
  have hul := hC.len
  have hle0 := hlow.2
  have hset2 : ∀ Z : List Value, Z.length = 104 → setR Z 0 us = us := fun Z hZ => setR_all _ _ (by omega)
  have hus' := hus.symm
  clear hus
  have hp0 : plain1 (.slice none 0 0) = true := rfl
  have hnG : H.length ≤ G.length := by omega
  (refine aw_ops (by kernel_rfl) (fun K hK => ?_); simp (disch := first | omega | (simp only [lnS]; try omega; done)) [-getElem?_pos, -getElem?_neg, h15, h16, ht]; refine hK _ _ ?_; clear hK K)
  refine aw_seq ?_
  refine aw_t (by (first | (simp [eval_tmp, put_at, ht]; done) | (simp [eval_tmp, put_at, ht]; omega))) (by kernel_rfl) ?_
  refine aw_skip ?_
  refine aw_seq ?_
  refine aw_block ?_
  refine aw_seq ?_
  (refine aw_ops (by kernel_rfl) (fun K hK => ?_); simp (disch := first | omega | (simp only [lnS]; try omega; done)) [-getElem?_pos, -getElem?_neg, h14, h16, -notTuple, hnt, hvc, nt_intG, nt_aggG, -xindexAddr, hx, hbG, hus', hul, hq, hnG, hp0, all_zl, hset2]; refine hK _ _ ?_; clear hK K)
  obtain ⟨hlow2, hb2⟩ := boxed (H := G) us 39
  have hmb := hget_left' (L := [some ⟨us, 39, none⟩]) hb
  obtain ⟨g, hg⟩ : ∃ g, g = G.length := ⟨_, rfl⟩
  rw [← hg] at hb2 hlow2 hle0 ⊢
  generalize G ++ [some ⟨us, 39, none⟩] = G2 at *
  have hlowG2 : Low n H G2 := ⟨fun j hj => (hlow2.1 j (by omega)).trans (hlow.1 j hj), by have := hlow2.2; omega⟩
  have hC2 : NodeC G2 us (nd l t) pv wv' bv qv := hC.low (fun j hj => hlowG2.1 j (by omega))
  have hacc := hC.past.acc
  have c103 := hC.c103
  have hpm := past_len hr ht
  refine aw_seq ?_
  (refine aw_ops (by kernel_rfl) (fun K hK => ?_); simp (disch := first | omega | (simp only [lnS]; try omega; done)) [-getElem?_pos, -getElem?_neg, hb2, hul, c103, -notTuple, hacc.nt, hacc.cs, nt_intG, -xlen, hacc.len]; refine hK _ _ ?_; clear hK K)
  refine aw_block ?_
  refine aw_loop (fun c2 α G => ∃ (e : Nat) (V : List Nat), e + c2 = (nd l t).past.length ∧ α 0 = nv ∧ α 3 = .pointer (some ⟨n, 0, none⟩) ∧ α 14 = nv ∧ α 15 = .int .i64 (l.length : Nat) ∧ α 16 = .int .i64 (t : Nat) ∧ α 21 = qv ∧ α 22 = .int .i64 ((nd l t).past.length : Nat) ∧ α 23 = .int .i64 (e : Nat) ∧ Low n H G ∧ hget G n = some ⟨[] ++ wv V, 67, none⟩ ∧ Wd V ∧ V.length = 2 ∧ ∀ k, k < 128 → hasW V 0 k = (behT l t k || decide ((k : Int) ∈ (nd l t).past.take e))) (nd l t).past.length ?_ ?_
  · exact ⟨0, W, by omega, by (first | (simp [put_at, put_none, fr0_at, h0]; done) | rfl), by (first | (simp [put_at, put_none, fr0_at, h3]; done) | rfl), by (first | (simp [put_at, put_none, fr0_at, h14]; done) | rfl), by (first | (simp [put_at, put_none, fr0_at, h15]; done) | rfl), by (first | (simp [put_at, put_none, fr0_at, h16]; done) | rfl), by (first | (simp [put_at, put_none, fr0_at]; done) | rfl), by (first | (simp [put_at, put_none, fr0_at]; done) | rfl), by (first | (simp [put_at, put_none, fr0_at]; done) | rfl), hlowG2, hmb, hwd, hWl, fun k hk => by rw [hW k hk]; simp⟩
  rintro c2 α G ⟨e, V, hec, h0, h3, h14, h15, h16, h21, h22, h23, hlow, hb, hwd, hWl, hW⟩
  refine aw_seq ?_
  by_cases he : e < (nd l t).past.length
  case neg =>
    (refine aw_ops (by kernel_rfl) (fun K hK => ?_); simp (disch := first | omega | (simp only [lnS]; try omega; done)) [-getElem?_pos, -getElem?_neg, h22, h23, he]; refine hK _ _ ?_; clear hK K)
    refine aw_seq ?_
    refine aw_f (by (first | (simp [eval_tmp, put_at, he]; done) | (simp [eval_tmp, put_at, he]; omega))) (by kernel_rfl) ?_
    refine aw_exit ?_
    obtain rfl : e = (nd l t).past.length := by omega
    (refine aw_ops (by kernel_rfl) (fun K hK => ?_); simp (disch := first | omega | (simp only [lnS]; try omega; done)) [-getElem?_pos, -getElem?_neg, h16]; refine hK _ _ ?_; clear hK K)
    exact ⟨c - 1, by omega, t + 1, V, by omega, by (first | (simp [put_at, put_none, fr0_at, h0]; done) | rfl), by (first | (simp [put_at, put_none, fr0_at, h3]; done) | rfl), by (first | (simp [put_at, put_none, fr0_at, h14]; done) | rfl), by (first | (simp [put_at, put_none, fr0_at, h15]; done) | rfl), by (first | (simp [put_at, put_none, fr0_at]; done) | rfl), hlow, hb, hwd, hWl, fun k hk => by rw [hW k hk, List.take_length, behT_succ]⟩
  obtain ⟨p2, x2, p21, p22, p23, p24, p25⟩ := hacc.at_ e he
  subst p24
  obtain ⟨z, hz⟩ : ∃ z, z = (nd l t).past.getD e 0 := ⟨_, rfl⟩
  rw [← hz] at p25
  have hze : (nd l t).past[e]? = some z := by rw [hz, List.getD_eq_getElem?_getD, List.getElem?_eq_getElem he]; rfl
  have htk2 : (nd l t).past.take (e + 1) = (nd l t).past.take e ++ [z] := by rw [List.take_add_one, hze]; rfl
  have p25 := p25 G (hn ▸ hlow)
  obtain ⟨kz, rfl, hkz⟩ := past_bd hr ht (List.mem_of_getElem? hze)
  have hadd := add_ac (nro := n) (γ := γ) (i := 0) (k := kz) (off := 0) (p := 0) (pre := []) hb (by omega) rfl rfl hwd (by omega) (by omega)
  (refine aw_ops (by kernel_rfl) (fun K hK => ?_); simp (disch := first | omega | (simp only [lnS]; try omega; done)) [-getElem?_pos, -getElem?_neg, h22, h23, he]; refine hK _ _ ?_; clear hK K)
  refine aw_seq ?_
  refine aw_t (by (first | (simp [eval_tmp, put_at, he]; done) | (simp [eval_tmp, put_at, he]; omega))) (by kernel_rfl) ?_
  refine aw_skip ?_
  refine aw_seq ?_
  refine aw_block ?_
  refine aw_seq ?_
  (refine aw_ops (by kernel_rfl) (fun K hK => ?_); simp (disch := first | omega | (simp only [lnS]; try omega; done)) [-getElem?_pos, -getElem?_neg, h21, h23, -notTuple, hacc.nt, hacc.cs, p21, nt_intG, -xindexAddr, p22, -xload, p25]; refine hK _ _ ?_; clear hK K)
  refine aw_ops (by kernel_rfl) (fun K hK => ?_)
  simp (disch := first | omega | (simp only [lnS]; try omega; done)) [-getElem?_pos, -getElem?_neg, h3]
  refine ⟨by kernel_rfl, hadd.mono ?_⟩
  rintro u G3 rfl
  try simp (disch := first | omega | (simp only [lnS]; try omega; done)) [-getElem?_pos, -getElem?_neg]
  refine hK _ _ ?_; clear hK K
  have hbl := hget_lt hb
  have hb3 : hget (G.set n (some ⟨wv (addW V 0 kz), 67, none⟩)) n = some ⟨wv (addW V 0 kz), 67, none⟩ := hget_set_eq hbl
  have hlow3 : Low n H (G.set n (some ⟨wv (addW V 0 kz), 67, none⟩)) := ⟨fun j hj => (hget_set_ne (by omega)).trans (hlow.1 j hj), by rw [List.length_set]; exact hlow.2⟩
  generalize G.set n (some ⟨wv (addW V 0 kz), 67, none⟩) = G4 at *
  (refine aw_ops (by kernel_rfl) (fun K hK => ?_); simp (disch := first | omega | (simp only [lnS]; try omega; done)) [-getElem?_pos, -getElem?_neg, h23]; refine hK _ _ ?_; clear hK K)
  refine ⟨c2 - 1, by omega, e + 1, addW V 0 kz, by omega, by (first | (simp [put_at, put_none, fr0_at, h0]; done) | rfl), by (first | (simp [put_at, put_none, fr0_at, h3]; done) | rfl), by (first | (simp [put_at, put_none, fr0_at, h14]; done) | rfl), by (first | (simp [put_at, put_none, fr0_at, h15]; done) | rfl), by (first | (simp [put_at, put_none, fr0_at, h16]; done) | rfl), by (first | (simp [put_at, put_none, fr0_at, h21]; done) | rfl), by (first | (simp [put_at, put_none, fr0_at, h22]; done) | rfl), by (first | (simp [put_at, put_none, fr0_at]; done) | rfl), hlow3, hb3, hwd.add 0 kz, by rw [addW_len, hWl], fun k hk => ?_⟩
  rw [hasW_add (by omega) hk (by omega), hW k hk, htk2]
  rw [Bool.eq_iff_iff]
  simp only [Bool.or_eq_true, Bool.and_eq_true, decide_eq_true_eq, List.mem_append, List.mem_singleton, or_assoc]
  refine or_congr Iff.rfl (or_congr Iff.rfl ?_)
  constructor
  · intro h; have := h.2; omega
  · intro h; exact ⟨trivial, by omega⟩
end
section
/-- How many of a past are an author's. -/
def aheadL (l : List NodeD) (P : List Int) (x : Int) : Nat := (P.filter fun z => (nd l z.toNat).op.author == x).length
theorem aheadL_pastL (l : List NodeD) (n : Nat) (ps : List (List Int)) (x : Int) : aheadL l (pastL l n ps) x = (((List.range n).filter fun a => (nd l a).op.author == x).filter (inB l n ps)).length := by
  unfold aheadL pastL
  rw [List.filter_map, List.length_map, List.filter_filter, List.filter_filter]
  congr 1
  refine List.filter_congr fun k _ => ?_
  show (_ && _) = (_ && _)
  rw [Bool.and_comm]
  rfl
theorem ahead_all (l : List NodeD) (n : Nat) (ps : List (List Int)) (x : Int) : aheadL l (pastL l n ps) x = autN l n x ↔ autA l n x (pastL l n ps) = true := by
  rw [aheadL_pastL]
  unfold autN autA
  rw [List.length_filter_eq_length_iff, List.all_eq_true]
  refine ⟨fun h k hk => ?_, fun h k hk => ?_⟩
  · by_cases e : ((nd l k).op.author == x) = true
    · have := h k (List.mem_filter.2 ⟨hk, e⟩)
      have h2 : (k : Int) ∈ pastL l n ps := mem_pastL.2 ⟨List.mem_range.1 hk, this⟩
      simp [h2]
    · simp only [Bool.not_eq_true] at e
      simp [e]
  · rw [List.mem_filter] at hk
    have := h k hk.1
    rw [hk.2] at this
    have h2 : (k : Int) ∈ pastL l n ps := by simpa using this
    exact (mem_pastL.1 h2).2
theorem aheadL_le (l : List NodeD) (P : List Int) (x : Int) : aheadL l P x ≤ P.length := List.length_filter_le _ _
theorem aheadL_succ {l : List NodeD} {P : List Int} {e : Nat} {z : Int} (x : Int) (h : P[e]? = some z) : aheadL l (P.take (e + 1)) x = aheadL l (P.take e) x + if (nd l z.toNat).op.author = x then 1 else 0 := by
  unfold aheadL
  rw [List.take_add_one, h, List.filter_append, List.length_append]
  congr 1
  show (List.filter _ [z]).length = _
  by_cases hc : (nd l z.toNat).op.author = x
  · simp [hc]
  · have : ((nd l z.toNat).op.author == x) = false := by simpa using hc
    simp [this, hc]
/-- May it be put behind? -/
def seqOk (l : List NodeD) (o : OpD) : Bool := !(decide (o.kind = 1) && decide (0 < l.length)) && (decide (o.seq = 1 + (aheadL l (pastL l l.length o.parents) o.author : Nat)) && decide (aheadL l (pastL l l.length o.parents) o.author = autN l l.length o.author))
def addE (l : List NodeD) (id : List Int) (o : OpD) : Int :=
  if rightG l = false then 1 else if rightO o = false then 1 else if (findN l l.length id).isSome = true then 13 else if l.length = 96 then 8 else if o.parents.all (fun p => (findN l l.length p).isSome) = false then 14 else if seqOk l o = false then 15 else 0
def addD (l : List NodeD) (id : List Int) (o : OpD) : NodeD := ⟨id, o, pastL l l.length o.parents⟩
/-- New memory that shows nodes. -/
def NewG (n : Nat) (H : AH) (v : Value) (l : List NodeD) : Prop := ∀ G, KeepN n H G → NdV G v l
def AddQ (l : List NodeD) (id : List Int) (o : OpD) (H : AH) (v' : Value) (H' : AH) : Prop :=
  Low H.length H H' ∧ ∃ sv, v' = .tuple #[sv, .int .i64 (addE l id o)] ∧ ((addE l id o = 0 ∧ NewG H.length H' sv (l ++ [addD l id o])) ∨ (addE l id o ≠ 0 ∧ sv = .slice none 0 0))
theorem AddQ.bad {l : List NodeD} {id : List Int} {o : OpD} {H H' : AH} {z : Int} (hl : Low H.length H H') (h : addE l id o = z) (hz : z ≠ 0) : AddQ l id o H (.tuple #[.slice none 0 0, .int .i64 z]) H' :=
  ⟨hl, _, by rw [h], .inr ⟨by rw [h]; exact hz, rfl⟩⟩
theorem fill_row {Z row : List Value} (hr : row.length = 104) (hZ : Z.length = 104) : xfill (fun i => some (i * 104, 104)) Z [(0, .agg row.toArray)] = some row := by
  have h1 : (Value.agg row.toArray).cells.size = 104 := by simpa [Value.cells] using hr
  unfold xfill
  simp only [Nat.zero_mul]
  rw [if_pos ⟨h1, by omega⟩]
  unfold xfill
  rw [setR_all _ _ (by simp [Value.cells, hr, hZ])]
  rfl
attribute [local simp] wb_bool wb_undef with_lit XL_nil XL_cons XLc_val XLc_call step1_eq stepW_t stepW_f stepC_n stepC_s stepX_s stepX_n stepN_s calleeX oneV xop_eq xopR_s xopR_n wantedA_eq wantedG_n wantedG_s plain1_int plain1_bool plain1_string bits_i64 bits_u64 bits_u32 bits_u16 bits_u8 xeqA xagg xcmp xarr allK_iv num_iv calleeOf xread xeff xbin xint xnil xun xstr xload xconv xpart xfield xfieldAddr xindexAddr xindex bnd asInt? xslice xlen xmin xmax xbuild xfill xappend xapp2 xappstr xappmk xcap xcopy xcells eval_tmp eval_const put_at put_none fr0_at cells_agg cells_int cells_bool cells_string cells_ptr cells_slice notTuple tab iv_all hget_app hget_app0 hget_cons0 hget_cons set_app set_app0 setR setR_one QL_nil QL_cons QLc_val stepQ_t stepQ_f stepQC_n stepQC_s stepQX_s SL_nil SL_cons SLc_val stepS_t stepS_f ltT ltF leT leF eqT eqF ltTn ltFn leTn leFn eqTn eqFn beqT beqF bneT bneF wi64 wu64 wu32 wu16 wu8 tmodP tdivP hgetL hgetNe hgetEq setL nums_def nums_len Nat.succ_le_of_lt List.getElem?_cons_zero List.getElem?_cons_succ Option.getD_some Int.toNat_add Int.toNat_mul agM okM agB agI agS agP agL agA okB okI okS okP okSl okA
theorem add_rc {γ : Nat → Option Nat} {H : AH} {nv pv wv bv : Value} {l : List NodeD} {id : List Int} {us : List Value} {o : OpD} (hN : NdA H nv l) (hid : Key32 id) (hO : OpC H us o pv wv bv) (hw : o.Wf) : AC Try.prog H.length γ 24 #[nv, .agg (iv .u8 id).toArray, .agg us.toArray] H (AddQ l id o H) := by
  have hivl : (iv .u8 id).length = 32 := by rw [iv_length, hid.1]
  have hta : (iv .u8 id).take 32 = iv .u8 id := List.take_of_length_le (by omega)
  have hul := hO.len
  have htu : us.take 71 = us := List.take_of_length_le (by omega)
  refine ac_of_aw Try.func24 rfl Try.ntmps24 Try.results24 (by simp) ?_
  refine aw_seq ?_
  (refine aw_ops (by kernel_rfl) (fun K hK => ?_); simp (disch := first | omega | (simp only [lnS]; try omega; done)) [-getElem?_pos, -getElem?_neg, hivl, hul, nt_aggG]; refine hK _ _ ?_; clear hK K)
  obtain ⟨G, hG⟩ : ∃ G : AH, G = H ++ [some ⟨iv .u8 id, 24, none⟩, some ⟨us, 37, none⟩] := ⟨_, rfl⟩
  have b4 : hget G H.length = some ⟨iv .u8 id, 24, none⟩ := by rw [hG, hget_app0]; rfl
  have b5 : hget G (H.length + 1) = some ⟨us, 37, none⟩ := by rw [hG, hget_app]; rfl
  have lw : Low H.length H G := hG ▸ Low.push (Nat.le_refl _) _
  have gl : G.length = H.length + 2 := by simp [hG]
  rw [← hG]
  clear hG
  have hNG := hN.lowG lw
  have hOG : OpC G us o pv wv bv := hO.low lw.1
  have hnt := hN.nt
  have hvc := hN.cs
  have hxl := hN.len
  have r1 := graph_right_rc (γ := γ) hNG
  have r2 := right_rc (γ := γ) hOG hw
  obtain ⟨n, hn⟩ : ∃ n, n = H.length := ⟨_, rfl⟩
  rw [← hn] at b4 b5 gl lw ⊢
  refine aw_seq ?_
  refine aw_block ?_
  refine aw_seq ?_
  refine aw_seq ?_
  refine aw_ops (by kernel_rfl) (fun K hK => ?_)
  simp (disch := first | omega | (simp only [lnS]; try omega; done)) [-getElem?_pos, -getElem?_neg, -notTuple, hnt, hvc, nt_intG]
  refine ⟨by kernel_rfl, ac_of_rc r1 (by simp [pv_iv, pv_int, pv_bool, pv_string, pv_tup2, pv_tup3, iv_plain, p2_int, p2_bool, p2_string]) ?_⟩
  cases h1 : rightG l with
  | false =>
    try simp (disch := first | omega | (simp only [lnS]; try omega; done)) [-getElem?_pos, -getElem?_neg]
    refine hK _ _ ?_; clear hK K
    refine aw_t (by (first | (simp [eval_tmp, put_at]; done) | (simp [eval_tmp, put_at]; omega))) (by kernel_rfl) ?_
    refine aw_skip ?_
    refine aw_t (by (first | (simp [eval_tmp, put_at]; done) | (simp [eval_tmp, put_at]; omega))) (by kernel_rfl) ?_
    refine aw_seq ?_
    (refine aw_ops (by kernel_rfl) (fun K hK => ?_); simp (disch := first | omega | (simp only [lnS]; try omega; done)) [-getElem?_pos, -getElem?_neg]; refine hK _ _ ?_; clear hK K)
    (refine aw_ret ?_; simp (disch := first | omega | (simp only [lnS]; try omega; done)) [-getElem?_pos, -getElem?_neg, thenQ_ret, scopeQ_ret, inBlockQ_ret, RQ, resL, resV])
    exact AddQ.bad (hn ▸ lw) (by simp [addE, h1]) (by decide)
  | true =>
  try simp (disch := first | omega | (simp only [lnS]; try omega; done)) [-getElem?_pos, -getElem?_neg]
  refine hK _ _ ?_; clear hK K
  refine aw_f (by (first | (simp [eval_tmp, put_at]; done) | (simp [eval_tmp, put_at]; omega))) (by kernel_rfl) ?_
  refine aw_ops (by kernel_rfl) (fun K hK => ?_)
  simp (disch := first | omega | (simp only [lnS]; try omega; done)) [-getElem?_pos, -getElem?_neg, b5, hul, htu, nt_aggG]
  refine ⟨by kernel_rfl, ac_of_rc r2 (by simp [pv_iv, pv_int, pv_bool, pv_string, pv_tup2, pv_tup3, iv_plain, p2_int, p2_bool, p2_string]) ?_⟩
  cases h2 : rightO o with
  | false =>
    try simp (disch := first | omega | (simp only [lnS]; try omega; done)) [-getElem?_pos, -getElem?_neg]
    refine hK _ _ ?_; clear hK K
    refine aw_t (by (first | (simp [eval_tmp, put_at]; done) | (simp [eval_tmp, put_at]; omega))) (by kernel_rfl) ?_
    refine aw_seq ?_
    (refine aw_ops (by kernel_rfl) (fun K hK => ?_); simp (disch := first | omega | (simp only [lnS]; try omega; done)) [-getElem?_pos, -getElem?_neg]; refine hK _ _ ?_; clear hK K)
    (refine aw_ret ?_; simp (disch := first | omega | (simp only [lnS]; try omega; done)) [-getElem?_pos, -getElem?_neg, thenQ_ret, scopeQ_ret, inBlockQ_ret, RQ, resL, resV])
    exact AddQ.bad (hn ▸ lw) (by simp [addE, h1, h2]) (by decide)
  | true =>
  try simp (disch := first | omega | (simp only [lnS]; try omega; done)) [-getElem?_pos, -getElem?_neg]
  refine hK _ _ ?_; clear hK K
  refine aw_f (by (first | (simp [eval_tmp, put_at]; done) | (simp [eval_tmp, put_at]; omega))) (by kernel_rfl) ?_
  have hl := rightG_len h1
  have r4 := find_rc (γ := γ) hNG (by simp only [maxLen]; omega) hid.1
  refine aw_seq ?_
  refine aw_ops (by kernel_rfl) (fun K hK => ?_)
  simp (disch := first | omega | (simp only [lnS]; try omega; done)) [-getElem?_pos, -getElem?_neg, b4, hivl, hta, -notTuple, hnt, hvc, nt_intG, nt_aggG]
  refine ⟨by kernel_rfl, ac_of_rc r4 (by simp [pv_iv, pv_int, pv_bool, pv_string, pv_tup2, pv_tup3, iv_plain, p2_int, p2_bool, p2_string]) ?_⟩
  unfold findI
  cases h3 : findN l l.length id with
  | some a =>
    have ha := findN_lt h3
    try simp (disch := first | omega | (simp only [lnS]; try omega; done)) [-getElem?_pos, -getElem?_neg]
    refine hK _ _ ?_; clear hK K
    refine aw_t (by (first | (simp [eval_tmp, put_at]; done) | (simp [eval_tmp, put_at]; omega))) (by kernel_rfl) ?_
    refine aw_seq ?_
    (refine aw_ops (by kernel_rfl) (fun K hK => ?_); simp (disch := first | omega | (simp only [lnS]; try omega; done)) [-getElem?_pos, -getElem?_neg]; refine hK _ _ ?_; clear hK K)
    (refine aw_ret ?_; simp (disch := first | omega | (simp only [lnS]; try omega; done)) [-getElem?_pos, -getElem?_neg, thenQ_ret, scopeQ_ret, inBlockQ_ret, RQ, resL, resV])
    exact AddQ.bad (hn ▸ lw) (by simp [addE, h1, h2, h3]) (by decide)
  | none =>
  try simp (disch := first | omega | (simp only [lnS]; try omega; done)) [-getElem?_pos, -getElem?_neg]
  refine hK _ _ ?_; clear hK K
  refine aw_f (by (first | (simp [eval_tmp, put_at]; done) | (simp [eval_tmp, put_at]; omega))) (by kernel_rfl) ?_
  refine aw_seq ?_
  by_cases h4 : l.length = 96
  · (refine aw_ops (by kernel_rfl) (fun K hK => ?_); simp (disch := first | omega | (simp only [lnS]; try omega; done)) [-getElem?_pos, -getElem?_neg, -notTuple, hnt, hvc, nt_intG, -xlen, hxl, h4]; refine hK _ _ ?_; clear hK K)
    refine aw_t (by (first | (simp [eval_tmp, put_at, h4]; done) | (simp [eval_tmp, put_at, h4]; omega))) (by kernel_rfl) ?_
    refine aw_seq ?_
    (refine aw_ops (by kernel_rfl) (fun K hK => ?_); simp (disch := first | omega | (simp only [lnS]; try omega; done)) [-getElem?_pos, -getElem?_neg]; refine hK _ _ ?_; clear hK K)
    (refine aw_ret ?_; simp (disch := first | omega | (simp only [lnS]; try omega; done)) [-getElem?_pos, -getElem?_neg, thenQ_ret, scopeQ_ret, inBlockQ_ret, RQ, resL, resV])
    exact AddQ.bad (hn ▸ lw) (by unfold addE; rw [h1, h2, h3, if_neg (by simp), if_neg (by simp), if_neg (by simp), if_pos h4]) (by decide)
  have h4n : l.length < 96 := by omega
  have h4i : ¬ (l.length : Int) = 96 := by omega
  (refine aw_ops (by kernel_rfl) (fun K hK => ?_); simp (disch := first | omega | (simp only [lnS]; try omega; done)) [-getElem?_pos, -getElem?_neg, -notTuple, hnt, hvc, nt_intG, -xlen, hxl, h4i]; refine hK _ _ ?_; clear hK K)
  refine aw_f (by (first | (simp [eval_tmp, put_at]; done) | (simp [eval_tmp, put_at]; omega))) (by kernel_rfl) ?_
  refine aw_skip ?_
  have hP := hOG.parents
  have hP4 := val_nt hP
  have hps := rightO_sm h2
  have c2 := hOG.c2
  have hpk : ∀ k ∈ o.parents, k.length = 32 := fun k hk => (hw.parents k hk).1
  have rp := (pastF_rc (γ := γ) hNG hl hP hpk (by simp only [maxLen]; omega)).thaw (nro := n) (fun v H' h => ⟨h.1.2, h.1.1⟩)
  refine aw_seq ?_
  refine aw_ops (by kernel_rfl) (fun K hK => ?_)
  simp (disch := first | omega | (simp only [lnS]; try omega; done)) [-getElem?_pos, -getElem?_neg, b5, hul, c2, -notTuple, hnt, hvc, hP4.1, hP4.2, nt_intG, nt_aggG]
  refine ⟨by kernel_rfl, rp.mono ?_⟩
  rintro v1 G1 ⟨hlow1, ⟨hall, sv, F, rfl, hown, hF⟩ | ⟨hall, rfl⟩⟩
  case inr =>
    simp (disch := first | omega | (simp only [lnS]; try omega; done)) [-getElem?_pos, -getElem?_neg]
    refine hK _ _ ?_; clear hK K
    refine aw_seq ?_
    refine aw_seq ?_
    (refine aw_ops (by kernel_rfl) (fun K hK => ?_); simp (disch := first | omega | (simp only [lnS]; try omega; done)) [-getElem?_pos, -getElem?_neg]; refine hK _ _ ?_; clear hK K)
    refine aw_t (by (first | (simp [eval_tmp, put_at]; done) | (simp [eval_tmp, put_at]; omega))) (by kernel_rfl) ?_
    refine aw_seq ?_
    (refine aw_ops (by kernel_rfl) (fun K hK => ?_); simp (disch := first | omega | (simp only [lnS]; try omega; done)) [-getElem?_pos, -getElem?_neg]; refine hK _ _ ?_; clear hK K)
    (refine aw_ret ?_; simp (disch := first | omega | (simp only [lnS]; try omega; done)) [-getElem?_pos, -getElem?_neg, thenQ_ret, scopeQ_ret, inBlockQ_ret, RQ, resL, resV])
    exact AddQ.bad ⟨fun j hj => (hlow1.1 j (by have := lw.2; omega)).trans (lw.1 j (by omega)), by have := hlow1.2; have := lw.2; omega⟩ (by simp [addE, h1, h2, h3, h4, hall]) (by decide)
  obtain ⟨v1, v2⟩ := own_nt hown
  have hFn : ∀ j ∈ F, n + 2 ≤ j := fun j hj => by have := hF j hj; omega
  clear hF
  simp (disch := first | omega | (simp only [lnS]; try omega; done)) [-getElem?_pos, -getElem?_neg, -notTuple, v1, v2, nt_intG]
  refine hK _ _ ?_; clear hK K
  refine aw_seq ?_
  refine aw_seq ?_
  (refine aw_ops (by kernel_rfl) (fun K hK => ?_); simp (disch := first | omega | (simp only [lnS]; try omega; done)) [-getElem?_pos, -getElem?_neg]; refine hK _ _ ?_; clear hK K)
  refine aw_f (by (first | (simp [eval_tmp, put_at]; done) | (simp [eval_tmp, put_at]; omega))) (by kernel_rfl) ?_
  refine aw_skip ?_
  have hPl := pastL_length l l.length o.parents
  have hPb : ∀ z ∈ pastL l l.length o.parents, ∃ k : Nat, z = k ∧ k < l.length := fun z hz => by
    obtain ⟨k, e, hk, _⟩ := pastL_bd hz
    exact ⟨k, e, hk⟩
  have hseq : seqOk l o = (!(decide (o.kind = 1) && decide (0 < l.length)) && (decide (o.seq = 1 + (aheadL l (pastL l l.length o.parents) o.author : Nat)) && decide (aheadL l (pastL l l.length o.parents) o.author = autN l l.length o.author))) := rfl
  have hle : addE l id o = if seqOk l o = false then 15 else 0 := by unfold addE; rw [h1, h2, h3, hall, if_neg (by simp), if_neg (by simp), if_neg (by simp), if_neg h4, if_neg (by simp)]
  have hInv := own_inv hown
  have hacc := hInv.acc
  have hdd : addD l id o = ⟨id, o, pastL l l.length o.parents⟩ := rfl
  obtain ⟨P, hPe⟩ : ∃ P, P = pastL l l.length o.parents := ⟨_, rfl⟩
  rw [← hPe] at hPl hPb hown hInv hacc hseq hdd
  have hlowG1 : Low n H G1 := ⟨fun j hj => (hlow1.1 j (by omega)).trans (lw.1 j (by omega)), by have := hlow1.2; omega⟩
  have hNG1 := hN.lowG (hn ▸ hlowG1)
  have d4 := (hlow1.1 n (by omega)).trans b4
  have d5 := (hlow1.1 (n + 1) (by omega)).trans b5
  have hOG1 : OpC G1 us o pv wv bv := hOG.low hlow1.1
  have hat := hNG1.at_
  have ca := hOG1.c0
  have hlG1 : n + 2 ≤ G1.length := by have := hlow1.2; omega
  refine aw_seq ?_
  (refine aw_ops (by kernel_rfl) (fun K hK => ?_); simp (disch := first | omega | (simp only [lnS]; try omega; done)) [-getElem?_pos, -getElem?_neg]; refine hK _ _ ?_; clear hK K)
  refine aw_seq ?_
  refine aw_seq ?_
  (refine aw_ops (by kernel_rfl) (fun K hK => ?_); simp (disch := first | omega | (simp only [lnS]; try omega; done)) [-getElem?_pos, -getElem?_neg, -notTuple, v1, v2, nt_intG, -xlen, hacc.len]; refine hK _ _ ?_; clear hK K)
  refine aw_block ?_
  refine aw_loop (fun c α G => ∃ e : Nat, e + c = P.length ∧ G = G1 ∧ α 0 = nv ∧ α 4 = .pointer (some ⟨n, 0, none⟩) ∧ α 5 = .pointer (some ⟨n + 1, 0, none⟩) ∧ α 8 = sv ∧ α 10 = .int .i64 (aheadL l (P.take e) o.author : Nat) ∧ α 39 = sv ∧ α 40 = .int .i64 (P.length : Nat) ∧ α 41 = .int .i64 (e : Nat)) P.length ?_ ?_
  · exact ⟨0, by omega, rfl, by (first | (simp [put_at, put_none, fr0_at]; done) | rfl), by (first | (simp [put_at, put_none, fr0_at]; done) | rfl), by (first | (simp [put_at, put_none, fr0_at]; done) | rfl), by (first | (simp [put_at, put_none, fr0_at]; done) | rfl), by (first | (simp [put_at, put_none, fr0_at]; done) | rfl), by (first | (simp [put_at, put_none, fr0_at]; done) | rfl), by (first | (simp [put_at, put_none, fr0_at]; done) | rfl), by (first | (simp [put_at, put_none, fr0_at]; done) | rfl)⟩
  rintro c α G2 ⟨e, hec, rfl, q0, q4, q5, q8, q10, q39, q40, q41⟩
  refine aw_seq ?_
  by_cases he : e < P.length
  case pos =>
    obtain ⟨p2, x2, p21, p22, p23, p24, p25⟩ := hacc.at_ e he
    subst p24
    obtain ⟨z, hz⟩ : ∃ z, z = P.getD e 0 := ⟨_, rfl⟩
    rw [← hz] at p25
    have hze : P[e]? = some z := by rw [hz, List.getD_eq_getElem?_getD, List.getElem?_eq_getElem he]; rfl
    have hsu := aheadL_succ (l := l) o.author hze
    have hal := aheadL_le l (P.take e) o.author
    rw [List.length_take] at hal
    have p25 := p25 G2 (Low.refl (Nat.le_refl _))
    obtain ⟨kz, rfl, hkz⟩ := hPb z (List.mem_of_getElem? hze)
    rw [Int.toNat_natCast] at hsu
    obtain ⟨j, q, bb, ws, pv', wv', bv', qv', hx, hbb, hq, hcell, hws, hC⟩ := hat kz _ (nd_get hkz)
    have cz : bb.cells[q + 32]? = some (.int .i64 (nd l kz).op.author) := by
      have := hC.op.c0
      rw [List.getElem?_take_of_lt (by omega), List.getElem?_drop] at this
      exact (hcell 32 (by omega)).trans this
    (refine aw_ops (by kernel_rfl) (fun K hK => ?_); simp (disch := first | omega | (simp only [lnS]; try omega; done)) [-getElem?_pos, -getElem?_neg, q40, q41, he]; refine hK _ _ ?_; clear hK K)
    refine aw_seq ?_
    refine aw_t (by (first | (simp [eval_tmp, put_at, he]; done) | (simp [eval_tmp, put_at, he]; omega))) (by kernel_rfl) ?_
    refine aw_skip ?_
    refine aw_seq ?_
    refine aw_block ?_
    refine aw_seq ?_
    (refine aw_ops (by kernel_rfl) (fun K hK => ?_); simp (disch := first | omega | (simp only [lnS]; try omega; done)) [-getElem?_pos, -getElem?_neg, q39, q41, -notTuple, v1, v2, p21, nt_intG, -xindexAddr, p22, -xload, p25]; refine hK _ _ ?_; clear hK K)
    refine aw_seq ?_
    obtain ⟨x, hxa⟩ : ∃ x, x = (nd l kz).op.author := ⟨_, rfl⟩
    rw [← hxa] at cz hsu
    by_cases hxz : x = o.author
    · have hxb : (x == o.author) = true := by simp [hxz]
      rw [if_pos hxz] at hsu
      (refine aw_plan [] [] [0, 1, 2, 3, 4, 5, 6, 7, 8] 9 0 (by kernel_rfl) (by kernel_rfl) (by kernel_rfl) (fun K hK => ?_)); simp only [sel, List.getElem?_cons_succ, List.getElem?_cons_zero, List.drop_succ_cons, List.drop_zero]; simp (disch := first | omega | (simp only [lnS]; try omega; done)) [-getElem?_pos, -getElem?_neg, q0, q5, -notTuple, hnt, hvc, nt_intG, nt_ptrG, -xindexAddr, hx, hbb, cz, d5, ca, hxz, hxb, PL_nil, plainB_lit, PL_cons, PLc_val, PLc_new, stepP_t, stepP_f, stepPC_n, stepPC_s, stepPX_s, stepPX_n, stepPV_n, stepPV_s, stepPA_t, stepPA_c, stepPA_l, stepPN_s, allocOp, reloc_sl, reloc_ptr, List.map_cons, List.map_nil, List.nil_append, List.append_assoc, List.cons_append, Nat.add_assoc]
      refine hK _ _ ?_; clear hK K
      refine aw_t (by (first | (simp [eval_tmp, put_at, hxz, hxb]; done) | (simp [eval_tmp, put_at, hxz, hxb]; omega))) (by kernel_rfl) ?_
      (refine aw_ops (by kernel_rfl) (fun K hK => ?_); simp (disch := first | omega | (simp only [lnS]; try omega; done)) [-getElem?_pos, -getElem?_neg, q10]; refine hK _ _ ?_; clear hK K)
      (refine aw_ops (by kernel_rfl) (fun K hK => ?_); simp (disch := first | omega | (simp only [lnS]; try omega; done)) [-getElem?_pos, -getElem?_neg, q41]; refine hK _ _ ?_; clear hK K)
      exact ⟨c - 1, by omega, e + 1, by omega, rfl, by (first | (simp [put_at, put_none, fr0_at, q0]; done) | rfl), by (first | (simp [put_at, put_none, fr0_at, q4]; done) | rfl), by (first | (simp [put_at, put_none, fr0_at, q5]; done) | rfl), by (first | (simp [put_at, put_none, fr0_at, q8]; done) | rfl), by rw [hsu]; (first | (simp [put_at, put_none, fr0_at]; done) | rfl), by (first | (simp [put_at, put_none, fr0_at, q39]; done) | rfl), by (first | (simp [put_at, put_none, fr0_at, q40]; done) | rfl), by (first | (simp [put_at, put_none, fr0_at]; done) | rfl)⟩
    · have hxb : (x == o.author) = false := by simp [hxz]
      rw [if_neg hxz] at hsu
      (refine aw_plan [] [] [0, 1, 2, 3, 4, 5, 6, 7, 8] 9 0 (by kernel_rfl) (by kernel_rfl) (by kernel_rfl) (fun K hK => ?_)); simp only [sel, List.getElem?_cons_succ, List.getElem?_cons_zero, List.drop_succ_cons, List.drop_zero]; simp (disch := first | omega | (simp only [lnS]; try omega; done)) [-getElem?_pos, -getElem?_neg, q0, q5, -notTuple, hnt, hvc, nt_intG, nt_ptrG, -xindexAddr, hx, hbb, cz, d5, ca, hxz, hxb, PL_nil, plainB_lit, PL_cons, PLc_val, PLc_new, stepP_t, stepP_f, stepPC_n, stepPC_s, stepPX_s, stepPX_n, stepPV_n, stepPV_s, stepPA_t, stepPA_c, stepPA_l, stepPN_s, allocOp, reloc_sl, reloc_ptr, List.map_cons, List.map_nil, List.nil_append, List.append_assoc, List.cons_append, Nat.add_assoc]
      refine hK _ _ ?_; clear hK K
      refine aw_f (by (first | (simp [eval_tmp, put_at, hxz, hxb]; done) | (simp [eval_tmp, put_at, hxz, hxb]; omega))) (by kernel_rfl) ?_
      refine aw_skip ?_
      (refine aw_ops (by kernel_rfl) (fun K hK => ?_); simp (disch := first | omega | (simp only [lnS]; try omega; done)) [-getElem?_pos, -getElem?_neg, q41]; refine hK _ _ ?_; clear hK K)
      exact ⟨c - 1, by omega, e + 1, by omega, rfl, by (first | (simp [put_at, put_none, fr0_at, q0]; done) | rfl), by (first | (simp [put_at, put_none, fr0_at, q4]; done) | rfl), by (first | (simp [put_at, put_none, fr0_at, q5]; done) | rfl), by (first | (simp [put_at, put_none, fr0_at, q8]; done) | rfl), by rw [hsu]; (first | (simp [put_at, put_none, fr0_at, q10]; done) | rfl), by (first | (simp [put_at, put_none, fr0_at, q39]; done) | rfl), by (first | (simp [put_at, put_none, fr0_at, q40]; done) | rfl), by (first | (simp [put_at, put_none, fr0_at]; done) | rfl)⟩
  (refine aw_ops (by kernel_rfl) (fun K hK => ?_); simp (disch := first | omega | (simp only [lnS]; try omega; done)) [-getElem?_pos, -getElem?_neg, q40, q41, he]; refine hK _ _ ?_; clear hK K)
  refine aw_seq ?_
  refine aw_f (by (first | (simp [eval_tmp, put_at, he]; done) | (simp [eval_tmp, put_at, he]; omega))) (by kernel_rfl) ?_
  refine aw_exit ?_
  obtain rfl : e = P.length := by omega
  rw [List.take_length] at q10
  have c3 := hOG1.c3
  have c1 := hOG1.c1
  have hsq := hw.seq
  unfold U32 at hsq
  have hal := aheadL_le l P o.author
  have rc := count_rc (γ := γ) hNG1 (by simp only [maxLen]; omega) o.author
  have hcl := autN_le l l.length o.author
  generalize aheadL l P o.author = ah at *
  generalize autN l l.length o.author = cn at *
  refine aw_seq ?_
  refine aw_seq ?_
  refine aw_cut (fun α G => α 81 = .bool (!seqOk l o) ∧ α 0 = nv ∧ α 4 = .pointer (some ⟨n, 0, none⟩) ∧ α 5 = .pointer (some ⟨n + 1, 0, none⟩) ∧ α 8 = sv ∧ G = G2) ?_ ?_
  · by_cases hk : o.kind = 1
    · by_cases h0 : 0 < l.length
      · (refine aw_ops (by kernel_rfl) (fun K hK => ?_); simp (disch := first | omega | (simp only [lnS]; try omega; done)) [-getElem?_pos, -getElem?_neg, q0, q5, q10, hk, h0, d5, c3, c1, ca, hul, -notTuple, hnt, hvc, nt_intG, nt_ptrG, -xlen, hxl]; refine hK _ _ ?_; clear hK K)
        exact ⟨by rw [hseq]; simp [hk, h0, put_at], by (first | (simp [put_at, put_none, fr0_at, q0]; done) | rfl), by (first | (simp [put_at, put_none, fr0_at, q4]; done) | rfl), by (first | (simp [put_at, put_none, fr0_at, q5]; done) | rfl), by (first | (simp [put_at, put_none, fr0_at, q8]; done) | rfl), rfl⟩
      · have h0e : l.length = 0 := by omega
        by_cases hs1 : o.seq = 1 + (ah : Int)
        · have hs2 : ¬ o.seq ≠ 1 + (ah : Int) := by omega
          have hs3 : (o.seq == 1 + (ah : Int)) = true := by simp [hs1]
          refine aw_ops (by kernel_rfl) (fun K hK => ?_)
          simp (disch := first | omega | (simp only [lnS]; try omega; done)) [-getElem?_pos, -getElem?_neg, q0, q5, q10, hk, h0, h0e, d5, c3, c1, ca, hul, -notTuple, hnt, hvc, nt_intG, nt_ptrG, -xlen, hxl, hs1, hs3]
          refine ⟨by kernel_rfl, ac_of_rc rc (by simp [pv_iv, pv_int, pv_bool, pv_string, pv_tup2, pv_tup3, iv_plain, p2_int, p2_bool, p2_string]) ?_⟩
          by_cases hcn : ah = cn
          · have hcb : ((ah : Int) == (cn : Int)) = true := by simp [hcn]
            have hci : (ah : Int) = (cn : Int) := by omega
            try simp (disch := first | omega | (simp only [lnS]; try omega; done)) [-getElem?_pos, -getElem?_neg, hcb, hci]
            refine hK _ _ ?_; clear hK K
            refine ⟨by rw [hseq]; simp [hk, h0, h0e, hs1, hcn, put_at], by (first | (simp [put_at, put_none, fr0_at, q0]; done) | rfl), by (first | (simp [put_at, put_none, fr0_at, q4]; done) | rfl), by (first | (simp [put_at, put_none, fr0_at, q5]; done) | rfl), by (first | (simp [put_at, put_none, fr0_at, q8]; done) | rfl), rfl⟩
          · have hci : ¬ (ah : Int) = (cn : Int) := by omega
            have hcb : ((ah : Int) == (cn : Int)) = false := by simp [hci]
            try simp (disch := first | omega | (simp only [lnS]; try omega; done)) [-getElem?_pos, -getElem?_neg, hcb, hci]
            refine hK _ _ ?_; clear hK K
            refine ⟨by rw [hseq]; simp [hci, hk, h0, h0e, hs1, hcn, put_at], by (first | (simp [put_at, put_none, fr0_at, q0]; done) | rfl), by (first | (simp [put_at, put_none, fr0_at, q4]; done) | rfl), by (first | (simp [put_at, put_none, fr0_at, q5]; done) | rfl), by (first | (simp [put_at, put_none, fr0_at, q8]; done) | rfl), rfl⟩
        · have hs3 : (o.seq == 1 + (ah : Int)) = false := by simp [hs1]
          (refine aw_ops (by kernel_rfl) (fun K hK => ?_); simp (disch := first | omega | (simp only [lnS]; try omega; done)) [-getElem?_pos, -getElem?_neg, q0, q5, q10, hk, h0, h0e, d5, c3, c1, ca, hul, -notTuple, hnt, hvc, nt_intG, nt_ptrG, -xlen, hxl, hs1, hs3]; refine hK _ _ ?_; clear hK K)
          refine ⟨by rw [hseq]; simp [hk, h0, h0e, hs1, put_at], by (first | (simp [put_at, put_none, fr0_at, q0]; done) | rfl), by (first | (simp [put_at, put_none, fr0_at, q4]; done) | rfl), by (first | (simp [put_at, put_none, fr0_at, q5]; done) | rfl), by (first | (simp [put_at, put_none, fr0_at, q8]; done) | rfl), rfl⟩
    · have hkb : (o.kind == 1) = false := by simp [hk]
      by_cases hs1 : o.seq = 1 + (ah : Int)
      · have hs2 : ¬ o.seq ≠ 1 + (ah : Int) := by omega
        have hs3 : (o.seq == 1 + (ah : Int)) = true := by simp [hs1]
        refine aw_ops (by kernel_rfl) (fun K hK => ?_)
        simp (disch := first | omega | (simp only [lnS]; try omega; done)) [-getElem?_pos, -getElem?_neg, q0, q5, q10, hk, hkb, d5, c3, c1, ca, hul, -notTuple, hnt, hvc, nt_intG, nt_ptrG, -xlen, hxl, hs1, hs3]
        refine ⟨by kernel_rfl, ac_of_rc rc (by simp [pv_iv, pv_int, pv_bool, pv_string, pv_tup2, pv_tup3, iv_plain, p2_int, p2_bool, p2_string]) ?_⟩
        by_cases hcn : ah = cn
        · have hcb : ((ah : Int) == (cn : Int)) = true := by simp [hcn]
          have hci : (ah : Int) = (cn : Int) := by omega
          try simp (disch := first | omega | (simp only [lnS]; try omega; done)) [-getElem?_pos, -getElem?_neg, hcb, hci]
          refine hK _ _ ?_; clear hK K
          refine ⟨by rw [hseq]; simp [hk, hkb, hs1, hcn, put_at], by (first | (simp [put_at, put_none, fr0_at, q0]; done) | rfl), by (first | (simp [put_at, put_none, fr0_at, q4]; done) | rfl), by (first | (simp [put_at, put_none, fr0_at, q5]; done) | rfl), by (first | (simp [put_at, put_none, fr0_at, q8]; done) | rfl), rfl⟩
        · have hci : ¬ (ah : Int) = (cn : Int) := by omega
          have hcb : ((ah : Int) == (cn : Int)) = false := by simp [hci]
          try simp (disch := first | omega | (simp only [lnS]; try omega; done)) [-getElem?_pos, -getElem?_neg, hcb, hci]
          refine hK _ _ ?_; clear hK K
          refine ⟨by rw [hseq]; simp [hci, hk, hkb, hs1, hcn, put_at], by (first | (simp [put_at, put_none, fr0_at, q0]; done) | rfl), by (first | (simp [put_at, put_none, fr0_at, q4]; done) | rfl), by (first | (simp [put_at, put_none, fr0_at, q5]; done) | rfl), by (first | (simp [put_at, put_none, fr0_at, q8]; done) | rfl), rfl⟩
      · have hs3 : (o.seq == 1 + (ah : Int)) = false := by simp [hs1]
        (refine aw_ops (by kernel_rfl) (fun K hK => ?_); simp (disch := first | omega | (simp only [lnS]; try omega; done)) [-getElem?_pos, -getElem?_neg, q0, q5, q10, hk, hkb, d5, c3, c1, ca, hul, -notTuple, hnt, hvc, nt_intG, nt_ptrG, -xlen, hxl, hs1, hs3]; refine hK _ _ ?_; clear hK K)
        refine ⟨by rw [hseq]; simp [hk, hkb, hs1, put_at], by (first | (simp [put_at, put_none, fr0_at, q0]; done) | rfl), by (first | (simp [put_at, put_none, fr0_at, q4]; done) | rfl), by (first | (simp [put_at, put_none, fr0_at, q5]; done) | rfl), by (first | (simp [put_at, put_none, fr0_at, q8]; done) | rfl), rfl⟩
  clear q0 q4 q5 q8 q10 q39 q40 q41
  rintro α G3 ⟨q81, q0, q4, q5, q8, rfl⟩
  cases hso : seqOk l o with
  | false =>
    rw [hso] at q81
    refine aw_t (by (first | (simp [eval_tmp, put_at, q81]; done) | (simp [eval_tmp, put_at, q81]; omega))) (by kernel_rfl) ?_
    refine aw_seq ?_
    (refine aw_ops (by kernel_rfl) (fun K hK => ?_); simp (disch := first | omega | (simp only [lnS]; try omega; done)) [-getElem?_pos, -getElem?_neg]; refine hK _ _ ?_; clear hK K)
    (refine aw_ret ?_; simp (disch := first | omega | (simp only [lnS]; try omega; done)) [-getElem?_pos, -getElem?_neg, thenQ_ret, scopeQ_ret, inBlockQ_ret, RQ, resL, resV])
    exact AddQ.bad (hn ▸ hlowG1) (by rw [hle, if_pos hso]) (by decide)
  | true =>
  rw [hso] at q81
  refine aw_f (by (first | (simp [eval_tmp, put_at, q81]; done) | (simp [eval_tmp, put_at, q81]; omega))) (by kernel_rfl) ?_
  refine aw_skip ?_
  refine aw_seq ?_
  have hadd0 : addE l id o = 0 := by rw [hle, if_neg (by simp [hso])]
  obtain ⟨L0, hL0⟩ : ∃ k, k = G3.length := ⟨_, rfl⟩
  obtain ⟨N, hcN⟩ := deepNodes_ac (nro := n) (γ := γ) hNG1 (by omega) (right_sm h1) (by omega)
  rw [← hL0] at hcN
  have hxw : (addD l id o).Wf := by
    rw [hdd]
    refine ⟨hid, hw, fun z hz => ?_, by simp only [maxLen]; omega⟩
    obtain ⟨k, rfl, hk⟩ := hPb z hz
    unfold I64
    omega
  have hcO : ∀ A : AH, A.length = N → Low L0 G3 A → AC Try.prog n γ 55 #[.agg us.toArray] A (DeepO A o pv wv bv) := fun A hA hlow => deepOp_ac (nro := n) (γ := γ) (hOG1.low (fun j hj => hlow.1 j (by omega))) hw ⟨by omega, by omega, by omega⟩ (by have := hlow.2; omega)
  unfold DeepO at hcO
  have hbl := build_node (x := addD l id o) (pv := opP pv N) (wv := opW pv wv N) (bv := opB pv wv bv N) hxw v1 v2
  have hrl := nodeRow_len hxw (opP pv N) (opW pv wv N) (opB pv wv bv N) sv
  have hrv : ∀ D : AH, KsV D (opP pv N) o.parents → InV D (opW pv wv N) o.who → BxV D (opB pv wv bv N) o.boxes → InV D sv P → ValL D (addD l id o).row (nodeRow (addD l id o) (opP pv N) (opW pv wv N) (opB pv wv bv N) sv) := fun D k1 k2 k3 k4 => by
    have : (addD l id o).past = P := by rw [hdd]
    exact node_val (x := addD l id o) k1 k2 k3 (by rw [this]; exact k4)
  have hxid : (addD l id o).id = id := rfl
  have hxop : (addD l id o).op = o := rfl
  rw [hxid, hxop] at hbl
  obtain ⟨ov, hov⟩ : ∃ ov, ov = opRow o (opP pv N) (opW pv wv N) (opB pv wv bv N) := ⟨_, rfl⟩
  have hovl := opRow_len hw (opP pv N) (opW pv wv N) (opB pv wv bv N)
  rw [← hov] at hbl hovl
  have hwfx : ∀ x ∈ l ++ [addD l id o], x.Wf := fun x hx => by
    rcases List.mem_append.1 hx with hx | hx
    · exact hN.wf x hx
    · rw [List.mem_singleton] at hx; subst hx; exact hxw
  obtain ⟨row, hrow⟩ : ∃ r, r = nodeRow (addD l id o) (opP pv N) (opW pv wv N) (opB pv wv bv N) sv := ⟨_, rfl⟩
  rw [← hrow] at hbl hrl hrv
  have hown0 := hown
  have hFl := hown.lt
  obtain ⟨N2, hN2⟩ : ∃ k, k = N + opN pv wv bv := ⟨_, rfl⟩
  obtain ⟨Φ, e0, e1, e2, e3, e4, eS⟩ : ∃ Φ : Nat → AH → Prop, (∀ A, Φ 0 A ↔ A = G3) ∧ (∀ A, Φ 1 A ↔ (A.length = N ∧ Low L0 G3 A ∧ ∃ R, NewRows (L0 + 1) A R l ∧ hget A L0 = some ⟨R.flatten, 39, some 104⟩)) ∧
      (∀ A, Φ 2 A ↔ (A.length = N2 ∧ Low L0 G3 A ∧ L0 < N ∧ NewO N A o (opP pv N) (opW pv wv N) (opB pv wv bv N) ∧ ∃ R, NewRows (L0 + 1) A R l ∧ hget A L0 = some ⟨R.flatten, 39, some 104⟩)) ∧
      (∀ A, Φ 3 A ↔ ∃ B, Φ 2 B ∧ A = B ++ [some ⟨row, 39, some 104⟩]) ∧ (∀ A, Φ 4 A ↔ (Low L0 G3 A ∧ NewG n A (.slice (some ⟨N2 + 1, 0, none⟩) (l.length + 1) (l.length + 1)) (l ++ [addD l id o]))) ∧ (∀ s A, Φ s A → Low L0 G3 A) := by
    refine ⟨fun s A => match s with
      | 0 => A = G3
      | 1 => A.length = N ∧ Low L0 G3 A ∧ ∃ R, NewRows (L0 + 1) A R l ∧ hget A L0 = some ⟨R.flatten, 39, some 104⟩
      | 2 => A.length = N2 ∧ Low L0 G3 A ∧ L0 < N ∧ NewO N A o (opP pv N) (opW pv wv N) (opB pv wv bv N) ∧ ∃ R, NewRows (L0 + 1) A R l ∧ hget A L0 = some ⟨R.flatten, 39, some 104⟩
      | 3 => ∃ B : AH, (B.length = N2 ∧ Low L0 G3 B ∧ L0 < N ∧ NewO N B o (opP pv N) (opW pv wv N) (opB pv wv bv N) ∧ ∃ R, NewRows (L0 + 1) B R l ∧ hget B L0 = some ⟨R.flatten, 39, some 104⟩) ∧ A = B ++ [some ⟨row, 39, some 104⟩]
      | _ => Low L0 G3 A ∧ NewG n A (.slice (some ⟨N2 + 1, 0, none⟩) (l.length + 1) (l.length + 1)) (l ++ [addD l id o]), fun _ => Iff.rfl, fun _ => Iff.rfl, fun _ => Iff.rfl, fun _ => Iff.rfl, fun _ => Iff.rfl, fun s A h => ?_⟩
    match s, h with
    | 0, h => cases h; rw [hL0]; exact Low.refl (Nat.le_refl _)
    | 1, h => exact h.2.1
    | 2, h => exact h.2.1
    | 3, ⟨B, h, hA⟩ => rw [hA]; exact ⟨fun j hj => (hget_left (by have := h.2.1.2; omega)).trans (h.2.1.1 j hj), by have := h.2.1.2; rw [List.length_append]; omega⟩
    | s + 4, h => exact h.1
  refine aw_chain (fun j => j == n || j == n + 1) Φ (by kernel_rfl) (by kernel_rfl) (by kernel_rfl) (fun s A h j hj => by
    have e : j = n ∨ j = n + 1 := by simpa using hj
    exact (eS s A h).1 j (by omega)) ((e0 _).2 rfl) (fun K hK => ?_)
  simp (disch := first | omega | (simp only [lnS]; try omega; done)) [-getElem?_pos, -getElem?_neg, q0, q4, q5, q8, d4, d5, hivl, hta, hul, htu, -notTuple, hnt, hvc, v1, v2, nt_intG, nt_aggG, nt_slG, CL_nil, CL_cons, CLc_val, CLc_skip, memS, inS, inSp, isCallF, effF]
  refine CLc_call (v := .slice (some ⟨L0, 0, none⟩) l.length l.length) (by kernel_rfl) (fun A hA => ?_) ?_
  · obtain rfl := (e0 _).1 hA
    exact hcN.mono fun v' A' h => ⟨h.1, (e1 _).2 h.2⟩
  try simp (disch := first | omega | (simp only [lnS]; try omega; done)) [-getElem?_pos, -getElem?_neg, q0, q4, q5, q8, d4, d5, hivl, hta, hul, htu, -notTuple, hnt, hvc, v1, v2, nt_intG, nt_aggG, nt_slG, CL_nil, CL_cons, CLc_val, CLc_skip, memS, inS, inSp, isCallF, effF]
  refine CLc_call (v := .agg ov.toArray) (by kernel_rfl) (fun A hA => ?_) ?_
  · obtain ⟨g1, g2, R, g3, g4⟩ := (e1 _).1 hA
    refine (hcO A g1 g2).mono ?_
    rintro v' A' ⟨k1, k2, k3, k4⟩
    rw [g1] at k1 k2 k3 k4
    have hL0A := hget_lt g4
    refine ⟨by rw [hov]; exact k1, (e2 _).2 ⟨by omega, ⟨fun j hj => (k3.1 j (by omega)).trans (g2.1 j hj), by have := k3.2; omega⟩, by omega, k4, R, g3.keep (fun j _ hj => k3.1 j (by omega)) (by have := k3.2; omega), (k3.1 L0 (by omega)).trans g4⟩⟩
  try simp (disch := first | omega | (simp only [lnS]; try omega; done)) [-getElem?_pos, -getElem?_neg, q0, q4, q5, q8, d4, d5, hivl, hta, hul, htu, -notTuple, hnt, hvc, v1, v2, nt_intG, nt_aggG, nt_slG, -xbuild, hbl, CL_nil, CL_cons, CLc_val, CLc_skip, memS, inS, inSp, isCallF, effF]
  have hfil : ∀ Z : List Value, Z.length = 104 → xfill (fun i => some (i * 104, 104)) Z [(0, .agg row.toArray)] = some row := fun Z hZ => fill_row hrl hZ
  have hp0 : plain1 (.slice none 0 0) = true := rfl
  refine CLc_eff (v := .slice (some ⟨N2, 0, none⟩) 1 1) (fun A hA => ?_) ?_
  · have hA' := (e2 _).1 hA
    refine ⟨A ++ [some ⟨row, 39, some 104⟩], ?_, (e3 _).2 ⟨A, hA, rfl⟩⟩
    have g1 := hA'.1
    simp (disch := first | omega | (simp only [lnS]; try omega; done)) [-getElem?_pos, -getElem?_neg, -xfill, nt_aggG, hp0, all_zl, g1]
    rw [hfil _ (by simp)]
  try simp (disch := first | omega | (simp only [lnS]; try omega; done)) [-getElem?_pos, -getElem?_neg, CL_nil, CL_cons, CLc_val, CLc_skip, memS, inS, inSp, isCallF, effF]
  refine CLc_eff (v := .slice (some ⟨N2 + 1, 0, none⟩) (l.length + 1) (l.length + 1)) (fun A hA => ?_) ?_
  · obtain ⟨B, hB, rfl⟩ := (e3 _).1 hA
    obtain ⟨g1, g2, hLN, g3, R, g4, g5⟩ := (e2 _).1 hB
    have hL0B := hget_lt g5
    have hRl := fl_len g4.len
    rw [g4.1] at hRl
    have htr : List.take 104 row = row := List.take_of_length_le (by omega)
    have hxc : xcells 104 (.slice (some ⟨N2, 0, none⟩) 1 1) (B ++ [some ⟨row, 39, some 104⟩]) = some row := by rw [← g1]; simp [xcells, hget_app0, hrl, htr]
    obtain ⟨v', H', hap, ho, hl', hk'⟩ := ownF_append (P := Try.prog) (nro := n) (t := 22) (e := 39) (H := B ++ ([some ⟨row, 39, some 104⟩] : AH)) (v := .slice (some ⟨L0, 0, none⟩) l.length l.length) (x := .slice (some ⟨N2, 0, none⟩) 1 1) (sz := 104) (cells := R.flatten) (news := row) (F := [L0]) (by simp) (by simp) (by omega) (by simp) (.inr ⟨L0, l.length, rfl, hget_left' g5, hRl, rfl⟩)
      (fun j hj => by simp at hj; omega) (fun s e => by cases e) hxc (fun e => by rw [e] at hrl; simp at hrl) (by rw [hrl]) (by rw [hRl, hrl]; simp; omega) (by rw [hRl, hrl]; simp only [maxLen]; omega)
    have hBl : (B ++ ([some ⟨row, 39, some 104⟩] : AH)).length = N2 + 1 := by simp [g1]
    rw [hBl] at ho hl' hk'
    obtain ⟨len, rfl⟩ := ho.new
    have hlen : len = l.length + 1 := by
      rcases ho with ⟨h, _, _⟩ | ⟨i, k, he, _, h3, _⟩
      · cases h
      · cases he
        rw [List.length_append, hRl, hrl] at h3
        omega
    subst hlen
    have hnew : hget H' (N2 + 1) = some ⟨R.flatten ++ row, 39, some 104⟩ := by
      rcases ho with ⟨h, _, _⟩ | ⟨i, k, he, h2, _, _⟩
      · cases h
      · cases he; exact h2
    have hold : ∀ j, j < N2 → j ≠ L0 → hget H' j = hget B j := fun j hj hn => (hk' j (by omega) (by simpa using hn)).trans (hget_left (by omega))
    refine ⟨H', ?_, (e4 _).2 ⟨⟨fun j hj => (hold j (by omega) (by omega)).trans (g2.1 j hj), by omega⟩, fun D hD => ?_⟩⟩
    · simp (disch := first | omega | (simp only [lnS]; try omega; done)) [-getElem?_pos, -getElem?_neg, -xappend, hap]
    · have hD2 : ∀ j, n ≤ j → j < N2 → j ≠ L0 → hget D j = hget B j := fun j h1 h2 h3 => (hD j h1 (by omega)).trans (hold j h2 h3)
      obtain ⟨k1, k2, k3⟩ := g3 D (fun j h1 h2 => hD2 j (by omega) (by omega) (by omega))
      have ho2 := hown0.low (H' := D) (fun j hj => (hD2 j (by have := hFn j hj; omega) (by have := hFl j hj; omega) (by have := hFl j hj; omega)).trans (g2.1 j (by have := hFl j hj; omega)))
      have hrow2 := hrv D k1 k2 k3 (own_inv ho2)
      have hfin := rows_val (D := D) (b := N2 + 1) (T := 39) (es := some 104) (R := R ++ [row]) (L := l ++ [addD l id o]) (by rw [hD (N2 + 1) (by omega) (by omega), hnew]; simp) (by simp [g4.1]) hwfx (fun k us' x hk hx => by
        rcases Nat.lt_or_ge k l.length with hkl | hkl
        · rw [List.getElem?_append_left (by rw [g4.1]; exact hkl)] at hk
          rw [List.getElem?_append_left hkl] at hx
          have := g4.2 k us' x hk hx
          exact ⟨this.1, this.2 D (fun j h1 h2 => hD2 j (by omega) (by omega) (by omega))⟩
        · rw [List.getElem?_append_right (by rw [g4.1]; exact hkl), g4.1] at hk
          rw [List.getElem?_append_right hkl] at hx
          match k - l.length, hk, hx with
          | 0, hk, hx => cases hk; cases hx; exact ⟨hrl, hrow2⟩)
      rw [List.length_append] at hfin
      exact hfin
  try simp (disch := first | omega | (simp only [lnS]; try omega; done)) [-getElem?_pos, -getElem?_neg, CL_nil, CL_cons, CLc_val, CLc_skip, memS, inS, inSp, isCallF, effF]
  intro A hA
  obtain ⟨g1, g2⟩ := (e4 _).1 hA
  refine hK _ _ ?_; clear hK K
  (refine aw_ret ?_; simp (disch := first | omega | (simp only [lnS]; try omega; done)) [-getElem?_pos, -getElem?_neg, thenQ_ret, scopeQ_ret, inBlockQ_ret, RQ, resL, resV])
  refine ⟨⟨fun j hj => (g1.1 j (by omega)).trans (hlowG1.1 j (by omega)), by have := g1.2; omega⟩, _, by rw [hadd0], .inl ⟨hadd0, hn ▸ g2⟩⟩
end
section
theorem opC_row {G : AH} {o : OpD} {pv wv bv : Value} (hw : o.Wf) (h1 : KsV G pv o.parents) (h2 : InV G wv o.who) (h3 : BxV G bv o.boxes) : OpC G (opRow o pv wv bv) o pv wv bv := by
  obtain ⟨pv', wv', bv', h⟩ := op_c hw (op_val h1 h2 h3)
  have e2 := h.c2
  have e4 := h.c4
  have e70 := h.c70
  rw [opRow_2] at e2
  rw [opRow_4] at e4
  rw [opRow_70 hw] at e70
  cases e2; cases e4; cases e70
  exact h
def key1 (x : Int) : List Int := x :: zl 31
def opC1 (a s k : Int) (ps : List (List Int)) (who : List Int) : OpD := ⟨a, s, ps, k, who, zl 32, key1 1, ByteArray.empty, []⟩
theorem key1_32 (x : Int) : (key1 x).length = 32 := by simp [key1]
theorem key1_ok {x : Int} (h : 0 ≤ x ∧ x ≤ 255) : Key32 (key1 x) := ⟨key1_32 x, fun y hy => by
  rcases List.mem_cons.1 hy with rfl | hy
  · exact h
  · have : y = 0 := by
      unfold zl at hy
      exact (List.mem_replicate.1 hy).2
    omega⟩
theorem build_key (x : Int) : xbuild Try.prog 24 [(0, .int .u8 x)] = some (.agg (iv .u8 (key1 x)).toArray) := by
  kernel_rfl
theorem build_create (x : Int) (d : Addr) (n : Nat) : xbuild Try.prog 37 [(0, .int .i64 x), (1, .int .u32 1), (3, .int .i64 1), (4, .slice (some d) n n), (6, .agg (iv .u8 (key1 1)).toArray)] = some (.agg (opRow (opC1 x 1 1 [] []) (.slice none 0 0) (.slice (some d) n n) (.slice none 0 0)).toArray) := by kernel_rfl
theorem build_update (x s : Int) (d : Addr) (n : Nat) : xbuild Try.prog 37 [(0, .int .i64 x), (1, .int .u32 s), (3, .int .i64 4), (2, .slice (some d) n n), (6, .agg (iv .u8 (key1 1)).toArray)] = some (.agg (opRow (opC1 x s 4 [] []) (.slice (some d) n n) (.slice none 0 0) (.slice none 0 0)).toArray) := by kernel_rfl
/-- Parents and who don't stand in the row itself. -/
theorem opRow_c1 (a s k : Int) (ps : List (List Int)) (who : List Int) (pv wv bv : Value) : opRow (opC1 a s k [] []) pv wv bv = opRow (opC1 a s k ps who) pv wv bv := rfl
attribute [local simp] wb_bool wb_undef with_lit XL_nil XL_cons XLc_val XLc_call step1_eq stepW_t stepW_f stepC_n stepC_s stepX_s stepX_n stepN_s calleeX oneV xop_eq xopR_s xopR_n wantedA_eq wantedG_n wantedG_s plain1_int plain1_bool plain1_string bits_i64 bits_u64 bits_u32 bits_u16 bits_u8 xeqA xagg xcmp xarr allK_iv num_iv calleeOf xread xeff xbin xint xnil xun xstr xload xconv xpart xfield xfieldAddr xindexAddr xindex bnd asInt? xslice xlen xmin xmax xbuild xfill xappend xapp2 xappstr xappmk xcap xcopy xcells eval_tmp eval_const put_at put_none fr0_at cells_agg cells_int cells_bool cells_string cells_ptr cells_slice notTuple tab iv_all hget_app hget_app0 hget_cons0 hget_cons set_app set_app0 setR setR_one QL_nil QL_cons QLc_val stepQ_t stepQ_f stepQC_n stepQC_s stepQX_s SL_nil SL_cons SLc_val stepS_t stepS_f ltT ltF leT leF eqT eqF ltTn ltFn leTn leFn eqTn eqFn beqT beqF bneT bneF wi64 wu64 wu32 wu16 wu8 tmodP tdivP hgetL hgetNe hgetEq setL nums_def nums_len Nat.succ_le_of_lt List.getElem?_cons_zero List.getElem?_cons_succ Option.getD_some Int.toNat_add Int.toNat_mul agM okM agB agI agS agP agL agA okB okI okS okP okSl okA
theorem create_ac {nro : Nat} {γ : Nat → Option Nat} {H : AH} {d : Addr} {l : List Int} {a : Int} (h : InV H (.slice (some d) l.length l.length) l) (h0 : l[0]? = some a) (hnro : nro ≤ H.length) : AC Try.prog nro γ 29 #[.slice (some d) l.length l.length] H (fun v' H' => v' = .agg (opRow (opC1 a 1 1 [] l) (.slice none 0 0) (.slice (some d) l.length l.length) (.slice none 0 0)).toArray ∧ Low H.length H H') := by
  have hl0 := (List.getElem?_eq_some_iff.1 h0).1
  obtain ⟨p, x, p1, p2, p3, p4, p5⟩ := h.acc.at_ 0 hl0
  have ha : l.getD 0 0 = a := by rw [List.getD_eq_getElem?_getD, h0]; rfl
  rw [ha] at p4
  subst p4
  have hb := build_create a d l.length
  have hk := build_key 1
  rw [opRow_c1 a 1 1 [] l] at hb
  have hrl : (opRow (opC1 a 1 1 [] l) (.slice none 0 0) (.slice (some d) l.length l.length) (.slice none 0 0)).length = 71 := rfl
  generalize iv .u8 (key1 1) = kk at *
  generalize opRow (opC1 a 1 1 [] l) (.slice none 0 0) (.slice (some d) l.length l.length) (.slice none 0 0) = R at *
  have hset : ∀ Z : List Value, Z.length = 71 → setR Z 0 R = R := fun Z hZ => setR_all _ _ (by omega)
  have htk : R.take 71 = R := List.take_of_length_le (by omega)
  have p2 : xindexAddr Try.prog 34 (.slice (some d) l.length l.length) (.int .i64 0) = some p := p2
  refine ac_of_aw Try.func29 rfl Try.ntmps29 Try.results29 (by simp) ?_
  refine aw_seq ?_
  (refine aw_ops (by kernel_rfl) (fun K hK => ?_); simp (disch := first | omega | (simp only [lnS]; try omega; done)) [-getElem?_pos, -getElem?_neg, all_zl]; refine hK _ _ ?_; clear hK K)
  have p5 : ∀ B : Blk, xload Try.prog 3 p (H ++ [some B]) = some (.int .i64 a) := fun B => p5 _ (Low.push (Nat.le_refl _) _)
  refine aw_seq ?_
  refine aw_ops (by kernel_rfl) (fun K hK => ?_)
  simp (disch := first | omega | (simp only [lnS]; try omega; done)) [-getElem?_pos, -getElem?_neg, -xindexAddr, p2, p1, -xload, p5, -xbuild, hk, hb, nt_aggG, hrl, hset, hnro]
  refine hK _ _ ?_; clear hK K
  obtain ⟨hlow2, hb2⟩ := boxed (H := H) R 37
  generalize H ++ [some ⟨R, 37, none⟩] = G at *
  (refine aw_ret ?_; simp (disch := first | omega | (simp only [lnS]; try omega; done)) [-getElem?_pos, -getElem?_neg, thenQ_ret, scopeQ_ret, inBlockQ_ret, RQ, resL, resV, hb2, hrl, htk])
  exact hlow2
theorem update_ac {nro : Nat} {γ : Nat → Option Nat} {H : AH} {d : Addr} {ps : List (List Int)} {a s : Int} (hnro : nro ≤ H.length) : AC Try.prog nro γ 30 #[.int .i64 a, .int .u32 s, .slice (some d) ps.length ps.length] H (fun v' H' => v' = .agg (opRow (opC1 a s 4 ps []) (.slice (some d) ps.length ps.length) (.slice none 0 0) (.slice none 0 0)).toArray ∧ Low H.length H H') := by
  have hb := build_update a s d ps.length
  have hk := build_key 1
  rw [opRow_c1 a s 4 ps []] at hb
  have hrl : (opRow (opC1 a s 4 ps []) (.slice (some d) ps.length ps.length) (.slice none 0 0) (.slice none 0 0)).length = 71 := rfl
  generalize iv .u8 (key1 1) = kk at *
  generalize opRow (opC1 a s 4 ps []) (.slice (some d) ps.length ps.length) (.slice none 0 0) (.slice none 0 0) = R at *
  have hset : ∀ Z : List Value, Z.length = 71 → setR Z 0 R = R := fun Z hZ => setR_all _ _ (by omega)
  have htk : R.take 71 = R := List.take_of_length_le (by omega)
  refine ac_of_aw Try.func30 rfl Try.ntmps30 Try.results30 (by simp) ?_
  refine aw_seq ?_
  (refine aw_ops (by kernel_rfl) (fun K hK => ?_); simp (disch := first | omega | (simp only [lnS]; try omega; done)) [-getElem?_pos, -getElem?_neg, all_zl]; refine hK _ _ ?_; clear hK K)
  refine aw_seq ?_
  (refine aw_ops (by kernel_rfl) (fun K hK => ?_); simp (disch := first | omega | (simp only [lnS]; try omega; done)) [-getElem?_pos, -getElem?_neg, -xbuild, hk, hb, nt_aggG, hrl, hset, hnro]; refine hK _ _ ?_; clear hK K)
  obtain ⟨hlow2, hb2⟩ := boxed (H := H) R 37
  generalize H ++ [some ⟨R, 37, none⟩] = G at *
  (refine aw_ret ?_; simp (disch := first | omega | (simp only [lnS]; try omega; done)) [-getElem?_pos, -getElem?_neg, thenQ_ret, scopeQ_ret, inBlockQ_ret, RQ, resL, resV, hb2, hrl, htk])
  exact hlow2
def aO1 : OpD := opC1 0 1 1 [] [0, 1]
def aO2 : OpD := opC1 1 1 4 [key1 1] []
def aO3 : OpD := opC1 0 2 4 [key1 1] []
def aL1 : List NodeD := [⟨key1 1, aO1, []⟩]
def aL2 : List NodeD := aL1 ++ [⟨key1 2, aO2, [0]⟩]
def aL3 : List NodeD := aL2 ++ [⟨key1 3, aO3, [0]⟩]
theorem opC1_wf {a s k : Int} {ps : List (List Int)} {who : List Int} (ha : I64 a) (hs : U32 s) (hk : I64 k) (hp : ∀ p ∈ ps, Key32 p) (hpl : ps.length ≤ 100) (hw : ∀ z ∈ who, I64 z) (hwl : who.length ≤ 100) : (opC1 a s k ps who).Wf := by
  refine ⟨ha, hs, hp, by simp only [maxLen]; show ps.length ≤ _; omega, hk, hw, by simp only [maxLen]; show who.length ≤ _; omega, ⟨by simp [opC1], fun y hy => ?_⟩, key1_ok (by omega), by simp [opC1], fun b hb => (by cases hb), by simp [opC1]⟩
  have : y = 0 := (List.mem_replicate.1 hy).2
  omega
theorem aO1_wf : aO1.Wf := opC1_wf (by unfold I64; omega) (by unfold U32; omega) (by unfold I64; omega) (by simp) (by simp) (by unfold I64; simp) (by simp)
theorem aO2_wf : aO2.Wf := opC1_wf (by unfold I64; omega) (by unfold U32; omega) (by unfold I64; omega) (fun p hp => by simp at hp; subst hp; exact key1_ok (by omega)) (by simp) (by simp) (by simp)
theorem aO3_wf : aO3.Wf := opC1_wf (by unfold I64; omega) (by unfold U32; omega) (by unfold I64; omega) (fun p hp => by simp at hp; subst hp; exact key1_ok (by omega)) (by simp) (by simp) (by simp)
theorem aL1_wf : ∀ x ∈ aL1, x.Wf := fun x hx => by
  rw [aL1, List.mem_singleton] at hx
  subst hx
  exact ⟨key1_ok (by omega), aO1_wf, fun z hz => (by cases hz), by simp⟩
theorem aL2_wf : ∀ x ∈ aL2, x.Wf := fun x hx => by
  rcases List.mem_append.1 hx with hx | hx
  · exact aL1_wf x hx
  · rw [List.mem_singleton] at hx
    subst hx
    exact ⟨key1_ok (by omega), aO2_wf, fun z hz => by unfold I64; simp at hz; subst hz; omega, by simp [maxLen]⟩
theorem aL3_wf : ∀ x ∈ aL3, x.Wf := fun x hx => by
  rcases List.mem_append.1 hx with hx | hx
  · exact aL2_wf x hx
  · rw [List.mem_singleton] at hx
    subst hx
    exact ⟨key1_ok (by omega), aO3_wf, fun z hz => by unfold I64; simp at hz; subst hz; omega, by simp [maxLen]⟩
theorem add1 : addE [] (key1 1) aO1 = 0 ∧ [] ++ [addD [] (key1 1) aO1] = aL1 := ⟨by decide +kernel, by unfold addD aL1; rfl⟩
theorem past2 : pastL aL1 aL1.length aO2.parents = [0] := by decide +kernel
theorem past3 : pastL aL2 aL2.length aO3.parents = [0] := by decide +kernel
theorem add2 : addE aL1 (key1 2) aO2 = 0 ∧ aL1 ++ [addD aL1 (key1 2) aO2] = aL2 := ⟨by decide +kernel, by unfold addD; rw [past2]; rfl⟩
theorem add3 : addE aL2 (key1 3) aO3 = 0 ∧ aL2 ++ [addD aL2 (key1 3) aO3] = aL3 := ⟨by decide +kernel, by unfold addD; rw [past3]; rfl⟩
theorem al_apart : apartB aL3 1 2 = true := by decide +kernel
theorem al_ahead : aheadB aL3 0 2 = true := by decide +kernel
theorem al_right : rightG aL3 = true := by decide +kernel
theorem al_heads : headsL aL3 = [key1 2, key1 3] := by
  have e : headK aL3 = [key1 2, key1 3] := by decide +kernel
  unfold headsL
  rw [e]
  refine (sortK_eq (.refl _) ?_).symm
  unfold Rise
  decide +kernel
/-- Nodes of new memory, by their addresses. -/
theorem NewG.nda {n : Nat} {H G : AH} {v : Value} {l : List NodeD} (h : NewG n H v l) (hw : ∀ x ∈ l, x.Wf) (hk : KeepN n H G) : NdA G v l := (h G hk).nda hw
theorem nil_nda (H : AH) : NdA H (.slice none 0 0) [] := NdV.nda (CD.Val.nil (fun x e => by cases e)) (fun x hx => by cases hx)
theorem AddQ.zero {l : List NodeD} {id : List Int} {o : OpD} {H : AH} {v' : Value} {H' : AH} {L : List NodeD} (h : AddQ l id o H v' H') (hz : addE l id o = 0 ∧ l ++ [addD l id o] = L) : Low H.length H H' ∧ ∃ sv, v' = .tuple #[sv, .int .i64 0] ∧ NewG H.length H' sv L := by
  obtain ⟨h1, sv, h2, h3⟩ := h
  rw [hz.1] at h2
  refine ⟨h1, sv, h2, ?_⟩
  rcases h3 with ⟨_, h3⟩ | ⟨h3, _⟩
  · rw [← hz.2]; exact h3
  · exact absurd hz.1 h3
theorem NewG.sh {n : Nat} {H : AH} {v : Value} {l : List NodeD} (h : NewG n H v l) : notTuple v = true ∧ v.cells = #[v] := val_nt (h H (fun _ _ _ => rfl))
theorem kr_ksv {G : AH} {v : Value} {F : List Nat} {ps : List (List Int)} (h : OwnF G v 24 32 (kr ps) F) (hk : K32 ps) : KsV G v ps := by
  rw [← ksC_kr] at h
  exact own_val (by omega) h (kd_len hk) (kd_flat ps)
theorem alive_rc {γ : Nat → Option Nat} {H : AH} : AC Try.prog H.length γ 9 #[] H (fun v' _ => v' = .bool true) := by
  have k1 := build_key 1
  have k2 := build_key 2
  have k3 := build_key 3
  obtain ⟨n, hn⟩ : ∃ n, n = H.length := ⟨_, rfl⟩
  rw [← hn]
  refine ac_of_aw Try.func9 rfl Try.ntmps9 Try.results9 (by simp) ?_
  refine aw_seq ?_
  (refine aw_ops (by kernel_rfl) (fun K hK => ?_); simp (disch := first | omega | (simp only [lnS]; try omega; done)) [-getElem?_pos, -getElem?_neg]; refine hK _ _ ?_; clear hK K)
  refine aw_seq ?_
  refine aw_ops (by kernel_rfl) (fun K hK => ?_)
  have f2 : ((List.map (fun j => [Value.int .i64 0][j % 1]?.getD undef) (List.range 2)).set 0 (.int .i64 0)).set 1 (.int .i64 1) = iv .i64 [0, 1] := rfl
  have x0 : notTuple (.slice none 0 0) = true := rfl
  have x1 : (Value.slice none 0 0).cells = #[.slice none 0 0] := rfl
  have q1 : (iv .u8 (key1 1)).length = 32 := by rw [iv_length, key1_32]
  have fk := fill_keyG (k := .u8) (x := key1 1) (n := 32) (zl 32) q1
  have hnil : ∀ G : AH, KsV G (.slice none 0 0) [] ∧ InV G (.slice none 0 0) [] ∧ BxV G (.slice none 0 0) [] := fun G => ⟨.nil (fun x e => by cases e), .nil (fun x e => by cases e), .nil (fun x e => by cases e)⟩
  have thw : ∀ {G : AH} {l : List NodeD} {id : List Int} {o : OpD} (v : Value) (G' : AH), AddQ l id o G v G' → G.length ≤ G'.length ∧ ∀ j, j < G.length → hget G' j = hget G j := fun v G' h => ⟨h.1.2, h.1.1⟩
  simp (disch := first | omega | (simp only [lnS]; try omega; done)) [-getElem?_pos, -getElem?_neg, -xbuild, k1, f2]
  rw [← hn]
  obtain ⟨G1, hG1⟩ : ∃ G : AH, G = H ++ [some ⟨iv .i64 [0, 1], 3, some 1⟩] := ⟨_, rfl⟩
  have lw1 : Low n H G1 := by rw [hG1, hn]; exact Low.push (Nat.le_refl _) _
  have i1 : InV G1 (.slice (some ⟨n, 0, none⟩) 2 2) [0, 1] := own_inv (e := 3) (F := [n]) (.inr ⟨n, 2, rfl, by rw [hG1, hn, hget_app0]; rfl, rfl, rfl⟩)
  rw [← hG1]
  clear hG1
  refine ⟨by kernel_rfl, (create_ac (nro := n) (γ := γ) (l := [0, 1]) (a := 0) i1 rfl lw1.2).mono ?_⟩
  rintro v G2 ⟨rfl, lw2⟩
  have o1 : OpC G2 _ aO1 _ _ _ := opC_row aO1_wf (hnil G2).1 (i1.lowG lw2) (hnil G2).2.2
  refine ⟨by kernel_rfl, ((add_rc (γ := γ) (nil_nda G2) (key1_ok (x := 1) (by omega)) o1 aO1_wf).thaw thw).mono ?_⟩
  rintro v G3 hq
  obtain ⟨lw3, sv, rfl, hnew⟩ := hq.zero add1
  obtain ⟨v1, v2⟩ := hnew.sh
  have N1 := hnew.nda aL1_wf (fun _ _ _ => rfl)
  have low3 : Low n H G3 := ⟨fun j hj => (lw3.1 j (by have := lw2.2; have := lw1.2; omega)).trans ((lw2.1 j (by have := lw1.2; omega)).trans (lw1.1 j hj)), by have := lw3.2; have := lw2.2; have := lw1.2; omega⟩
  clear hnew hq lw1 lw2 lw3 i1 o1
  simp (disch := first | omega | (simp only [lnS]; try omega; done)) [-getElem?_pos, -getElem?_neg, -notTuple, v1, v2, nt_intG]
  refine hK _ _ ?_; clear hK K
  -- the second node
  refine aw_seq ?_
  refine aw_ops (by kernel_rfl) (fun K hK => ?_)
  simp (disch := first | omega | (simp only [lnS]; try omega; done)) [-getElem?_pos, -getElem?_neg, -xbuild, k1, k2, -notTuple, v1, v2, nt_intG, nt_aggG, all_zl, q1, -xfill, fk]
  obtain ⟨G4, hG1⟩ : ∃ G : AH, G = G3 ++ [some ⟨iv .u8 (key1 1), 24, some 32⟩] := ⟨_, rfl⟩
  have lw1 : Low G3.length G3 G4 := by rw [hG1]; exact Low.push (Nat.le_refl _) _
  have i1 : KsV G4 (.slice (some ⟨G3.length, 0, none⟩) 1 1) [key1 1] := kr_ksv (F := [G3.length]) (.inr ⟨G3.length, 1, rfl, by rw [hG1, hget_app0, kr_one]; rfl, by rw [kr_one, q1], rfl⟩) (fun k hk => by simp at hk; subst hk; exact key1_32 1)
  rw [← hG1]
  clear hG1
  have hle0 := low3.2
  have hle1 := lw1.2
  refine ⟨by kernel_rfl, (update_ac (nro := n) (γ := γ) (H := G4) (ps := [key1 1]) (a := 1) (s := 1) (by omega)).mono ?_⟩
  rintro v G5 ⟨rfl, lw2⟩
  have hle2 := lw2.2
  have lw12 : Low G3.length G3 G5 := ⟨fun j hj => (lw2.1 j (by omega)).trans (lw1.1 j hj), by omega⟩
  have o1 : OpC G5 _ aO2 _ _ _ := opC_row aO2_wf (CD.Val.low (fun j hj => lw2.1 j hj) i1) (hnil G5).2.1 (hnil G5).2.2
  refine ⟨by kernel_rfl, ((add_rc (γ := γ) (N1.lowG lw12) (key1_ok (x := 2) (by omega)) o1 aO2_wf).thaw thw).mono ?_⟩
  rintro v G6 hq
  obtain ⟨lw3, su, rfl, hnew⟩ := hq.zero add2
  obtain ⟨u1, u2⟩ := hnew.sh
  have N2 := hnew.nda aL2_wf (fun _ _ _ => rfl)
  have hle3 := lw3.2
  have low6 : Low n H G6 := ⟨fun j hj => (lw3.1 j (by omega)).trans ((lw12.1 j (by omega)).trans (low3.1 j hj)), by omega⟩
  clear hnew hq lw1 lw2 lw12 lw3 i1 o1 hle1 hle2 hle3 N1
  simp (disch := first | omega | (simp only [lnS]; try omega; done)) [-getElem?_pos, -getElem?_neg, -notTuple, u1, u2, nt_intG]
  refine hK _ _ ?_; clear hK K
  refine aw_seq ?_
  refine aw_ops (by kernel_rfl) (fun K hK => ?_)
  simp (disch := first | omega | (simp only [lnS]; try omega; done)) [-getElem?_pos, -getElem?_neg, -xbuild, k1, k3, -notTuple, u1, u2, nt_intG, nt_aggG, all_zl, q1, -xfill, fk]
  obtain ⟨G7, hG1⟩ : ∃ G : AH, G = G6 ++ [some ⟨iv .u8 (key1 1), 24, some 32⟩] := ⟨_, rfl⟩
  have lw1 : Low G6.length G6 G7 := by rw [hG1]; exact Low.push (Nat.le_refl _) _
  have i1 : KsV G7 (.slice (some ⟨G6.length, 0, none⟩) 1 1) [key1 1] := kr_ksv (F := [G6.length]) (.inr ⟨G6.length, 1, rfl, by rw [hG1, hget_app0, kr_one]; rfl, by rw [kr_one, q1], rfl⟩) (fun k hk => by simp at hk; subst hk; exact key1_32 1)
  rw [← hG1]
  clear hG1
  have hle0 := low6.2
  have hle1 := lw1.2
  refine ⟨by kernel_rfl, (update_ac (nro := n) (γ := γ) (H := G7) (ps := [key1 1]) (a := 0) (s := 2) (by omega)).mono ?_⟩
  rintro v G8 ⟨rfl, lw2⟩
  have hle2 := lw2.2
  have lw12 : Low G6.length G6 G8 := ⟨fun j hj => (lw2.1 j (by omega)).trans (lw1.1 j hj), by omega⟩
  have o1 : OpC G8 _ aO3 _ _ _ := opC_row aO3_wf (CD.Val.low (fun j hj => lw2.1 j hj) i1) (hnil G8).2.1 (hnil G8).2.2
  refine ⟨by kernel_rfl, ((add_rc (γ := γ) (N2.lowG lw12) (key1_ok (x := 3) (by omega)) o1 aO3_wf).thaw thw).mono ?_⟩
  rintro v G9 hq
  obtain ⟨lw3, st, rfl, hnew⟩ := hq.zero add3
  obtain ⟨t1, t2⟩ := hnew.sh
  have N3 := hnew.nda aL3_wf (fun _ _ _ => rfl)
  have hle3 := lw3.2
  have low9 : Low n H G9 := ⟨fun j hj => (lw3.1 j (by omega)).trans ((lw12.1 j (by omega)).trans (low6.1 j hj)), by omega⟩
  clear hnew hq lw1 lw2 lw12 lw3 i1 o1 hle1 hle2 hle3 N2
  simp (disch := first | omega | (simp only [lnS]; try omega; done)) [-getElem?_pos, -getElem?_neg, -notTuple, t1, t2, nt_intG]
  refine hK _ _ ?_; clear hK K
  -- the heads
  refine aw_seq ?_
  refine aw_ops (by kernel_rfl) (fun K hK => ?_)
  simp (disch := first | omega | (simp only [lnS]; try omega; done)) [-getElem?_pos, -getElem?_neg, -notTuple, t1, t2, nt_intG]
  refine ⟨by kernel_rfl, ((heads_rc (γ := γ) N3).thaw (fun v G' h => ⟨h.1.2, h.1.1⟩)).mono ?_⟩
  rintro hv G10 ⟨lw10, ⟨_, F, ho, hF⟩ | ⟨hbad, _⟩⟩
  case inr => rw [al_right] at hbad; cases hbad
  rw [al_heads] at ho
  have hkk : K32 [key1 2, key1 3] := fun k hk => by
    rcases List.mem_cons.1 hk with rfl | hk
    · exact key1_32 2
    · rw [List.mem_singleton] at hk; subst hk; exact key1_32 3
  obtain ⟨h1, h2⟩ := own_nt ho
  have hxl := ho.len (P := Try.prog) (t := 30) (by simp) (kr_len hkk) (by omega)
  obtain ⟨b, rfl, hbk⟩ : ∃ b, hv = .slice (some ⟨b, 0, none⟩) 2 2 ∧ hget G10 b = some ⟨kr [key1 2, key1 3], 24, some 32⟩ := by
    rcases ho with ⟨_, hc, _⟩ | ⟨b, len, rfl, hb, hl, _⟩
    · have := congrArg List.length hc
      rw [kr_len hkk] at this
      cases this
    · rw [kr_len hkk] at hl
      have : len = 2 := by simp at hl; omega
      subst this
      exact ⟨b, rfl, hb⟩
  have N4 := N3.lowG lw10
  have hxa := kr_addr (n := 2) (b := b) (j := 1) (by omega)
  have hld := kr_load hkk (j := 1) (k := key1 3) rfl hbk
  have hxn := N4.len
  have ra := apart_rc (γ := γ) N4 1 2
  have rb := ahead_rc (γ := γ) N4 0 2
  have rc := graph_right_rc (γ := γ) N4
  rw [al_apart] at ra
  rw [al_ahead] at rb
  rw [al_right] at rc
  have e3 : ((aL3.length : Nat) : Int) = 3 := rfl
  try simp (disch := first | omega | (simp only [lnS]; try omega; done)) [-getElem?_pos, -getElem?_neg]
  refine hK _ _ ?_; clear hK K
  refine aw_seq ?_
  refine aw_ops (by kernel_rfl) (fun K hK => ?_)
  simp (disch := first | omega | (simp only [lnS]; try omega; done)) [-getElem?_pos, -getElem?_neg, -notTuple, t1, t2, nt_intG, -xlen, hxn, hxl, e3]
  refine ⟨by kernel_rfl, ac_of_rc ra (by simp [pv_iv, pv_int, pv_bool, pv_string, pv_tup2, pv_tup3, iv_plain, p2_int, p2_bool, p2_string]) ?_⟩
  simp (disch := first | omega | (simp only [lnS]; try omega; done)) [-getElem?_pos, -getElem?_neg, -notTuple, t1, t2, nt_intG]
  refine ⟨by kernel_rfl, ac_of_rc rb (by simp [pv_iv, pv_int, pv_bool, pv_string, pv_tup2, pv_tup3, iv_plain, p2_int, p2_bool, p2_string]) ?_⟩
  have hxa : xindexAddr Try.prog 30 (.slice (some ⟨b, 0, none⟩) 2 2) (.int .i64 1) = some (.pointer (some ⟨b, 1 * 32, none⟩)) := hxa
  have hll : (iv .u8 (key1 3)).length = 32 := by rw [iv_length, key1_32]
  simp (disch := first | omega | (simp only [lnS]; try omega; done)) [-getElem?_pos, -getElem?_neg, -notTuple, t1, t2, nt_intG, nt_aggG, -xlen, hxl, -xindexAddr, hxa, -xload, hld, -xbuild, k3, hll]
  refine ⟨by kernel_rfl, ac_of_rc rc (by simp [pv_iv, pv_int, pv_bool, pv_string, pv_tup2, pv_tup3, iv_plain, p2_int, p2_bool, p2_string]) ?_⟩
  refine hK _ _ ?_; clear hK K
  (refine aw_ret ?_; simp (disch := first | omega | (simp only [lnS]; try omega; done)) [-getElem?_pos, -getElem?_neg, thenQ_ret, scopeQ_ret, inBlockQ_ret, RQ, resL, resV])
end
section
def bodyAt (l : List BoxD) (k : Nat) : ByteArray := ((l[k]?).map BoxD.body).getD ByteArray.empty
def greatO (o : OpD) : Bool := decide (30 < o.parents.length) || (decide (30 < o.who.length) || (decide (30 < o.boxes.length) || (decide (600 < o.text.size) || (List.range o.boxes.length).any fun k => decide (600 < (bodyAt o.boxes k).size))))
theorem any_none {n : Nat} {p : Nat → Bool} (h : ∀ k, k < n → p k = false) : (List.range n).any p = false := by
  rw [List.any_eq_false]
  intro k hk
  rw [h k (List.mem_range.1 hk)]
  decide
theorem any_some {n k : Nat} {p : Nat → Bool} (hk : k < n) (h : p k = true) : (List.range n).any p = true := List.any_eq_true.2 ⟨k, List.mem_range.2 hk, h⟩
attribute [local simp] wb_bool wb_undef with_lit XL_nil XL_cons XLc_val XLc_call step1_eq stepW_t stepW_f stepC_n stepC_s stepX_s stepX_n stepN_s calleeX oneV xop_eq xopR_s xopR_n wantedA_eq wantedG_n wantedG_s plain1_int plain1_bool plain1_string bits_i64 bits_u64 bits_u32 bits_u16 bits_u8 xeqA xagg xcmp xarr allK_iv num_iv calleeOf xread xeff xbin xint xnil xun xstr xload xconv xpart xfield xfieldAddr xindexAddr xindex bnd asInt? xslice xlen xmin xmax xbuild xfill xappend xapp2 xappstr xappmk xcap xcopy xcells eval_tmp eval_const put_at put_none fr0_at cells_agg cells_int cells_bool cells_string cells_ptr cells_slice notTuple tab iv_all hget_app hget_app0 hget_cons0 hget_cons set_app set_app0 setR setR_one QL_nil QL_cons QLc_val stepQ_t stepQ_f stepQC_n stepQC_s stepQX_s SL_nil SL_cons SLc_val stepS_t stepS_f ltT ltF leT leF eqT eqF ltTn ltFn leTn leFn eqTn eqFn beqT beqF bneT bneF wi64 wu64 wu32 wu16 wu8 tmodP tdivP hgetL hgetNe hgetEq setL nums_def nums_len Nat.succ_le_of_lt List.getElem?_cons_zero List.getElem?_cons_succ Option.getD_some Int.toNat_add Int.toNat_mul agM okM agB agI agS agP agL agA okB okI okS okP okSl okA
theorem BxV.body_at {H : AH} {v : Value} {l : List BoxD} (h : BxV H v l) (hl : ∀ b ∈ l, b.Wf) {i : Nat} (hi : i < l.length) : ∃ j q bb, xindexAddr Try.prog 35 v (.int .i64 (i : Nat)) = some (.pointer (some ⟨j, q, none⟩)) ∧ hget H j = some bb ∧ bb.cells[q + 35]? = some (.string (bodyAt l i)) ∧ (bodyAt l i).size ≤ maxLen := by
  obtain ⟨z, hz⟩ : ∃ z, l[i]? = some z := ⟨_, List.getElem?_eq_getElem hi⟩
  have hzw := hl z (List.mem_of_getElem? hz)
  obtain ⟨j, b, us, hv, hb, hle, hx, hus, hul, hle2, hc, hval⟩ := val_at (P := Try.prog) (t := 35) (e := 60) (sz := 36) h (by simp) (by simp) (by omega) (fun row hr => by
    obtain ⟨y, hy, rfl⟩ := List.mem_map.1 hr
    have := (hl y hy).pub.1
    simp [BoxD.row, kd, this]) (i := i) (row := z.row) (by rw [List.getElem?_map, hz]; rfl)
  have hbody : bodyAt l i = z.body := by simp [bodyAt, hz]
  rw [hbody]
  exact ⟨j, i * 36, b, hx, hb, (hc 35 (by omega)).trans (box_c hzw hval).c35, hzw.body⟩
theorem greatO_rc {γ : Nat → Option Nat} {H : AH} {us : List Value} {o : OpD} {pv wv bv : Value} (h : OpC H us o pv wv bv) (hw : o.Wf) : AC Try.prog H.length γ 23 #[.agg us.toArray] H (fun v' _ => v' = .bool (greatO o)) := by
  have hlen := h.len
  have c2 := h.c2
  have c4 := h.c4
  have c69 := h.c69
  have c70 := h.c70
  have pa := h.parents.acc (fun k hk => (hw.parents k hk).1)
  have wa := h.who.acc
  have ba := h.boxes.acc hw.boxes
  have p1 := pa.nt
  have p2 := pa.cs
  have p3 := pa.len
  have w1 := wa.nt
  have w2 := wa.cs
  have w3 := wa.len
  have b1 := ba.nt
  have b2 := ba.cs
  have b3 := ba.len
  have hbx := h.boxes
  obtain ⟨np, hnp⟩ : ∃ n, n = o.parents.length := ⟨_, rfl⟩
  obtain ⟨nw, hnw⟩ : ∃ n, n = o.who.length := ⟨_, rfl⟩
  obtain ⟨nb, hnb⟩ : ∃ n, n = o.boxes.length := ⟨_, rfl⟩
  obtain ⟨ts, hts⟩ : ∃ t, t = o.text := ⟨_, rfl⟩
  have htz : ts.size ≤ 9223372036854775807 := by rw [hts]; have := hw.text; simp only [maxLen] at this; omega
  have hnb63 : nb ≤ 9223372036854775807 := by rw [hnb]; have := hw.blen; simp only [maxLen] at this; omega
  have hG : greatO o = (decide (30 < np) || (decide (30 < nw) || (decide (30 < nb) || (decide (600 < ts.size) || (List.range nb).any fun k => decide (600 < (bodyAt o.boxes k).size))))) := by rw [hnp, hnw, hnb, hts]; rfl
  rw [hG]
  rw [← hnp] at p3
  rw [← hnw] at w3
  rw [← hnb] at b3
  rw [← hts] at c69
  refine ac_of_aw Try.func23 rfl Try.ntmps23 Try.results23 (by simp) ?_
  refine aw_seq ?_
  (refine aw_ops (by kernel_rfl) (fun K hK => ?_); simp (disch := first | omega | (simp only [lnS]; try omega; done)) [-getElem?_pos, -getElem?_neg, hlen]; refine hK _ _ ?_; clear hK K)
  obtain ⟨hlow, hb⟩ := boxed (H := H) us 37
  generalize H ++ [some ⟨us, 37, none⟩] = G at *
  obtain ⟨g, hg⟩ : ∃ g, g = H.length := ⟨_, rfl⟩
  rw [← hg] at hb ⊢
  refine aw_seq ?_
  refine aw_seq ?_
  refine aw_cut (fun α G' => G = G' ∧ α 1 = .pointer (some ⟨g, 0, none⟩) ∧ α 25 = .bool (decide (30 < np) || (decide (30 < nw) || (decide (30 < nb) || decide (600 < ts.size))))) ?_ ?_
  · by_cases h1 : 30 < np
    · (refine aw_ops (by kernel_rfl) (fun K hK => ?_); simp (disch := first | omega | (simp only [lnS]; try omega; done)) [-getElem?_pos, -getElem?_neg, hb, hlen, c2, -notTuple, p1, p2, nt_intG, -xlen, p3, h1]; refine hK _ _ ?_; clear hK K)
      exact ⟨rfl, by (first | (simp [put_at, put_none, fr0_at]; done) | rfl), by simp [put_at, h1]⟩
    · by_cases h2 : 30 < nw
      · (refine aw_ops (by kernel_rfl) (fun K hK => ?_); simp (disch := first | omega | (simp only [lnS]; try omega; done)) [-getElem?_pos, -getElem?_neg, hb, hlen, c2, c4, -notTuple, p1, p2, w1, w2, nt_intG, -xlen, p3, w3, h1, h2]; refine hK _ _ ?_; clear hK K)
        exact ⟨rfl, by (first | (simp [put_at, put_none, fr0_at]; done) | rfl), by simp [put_at, h2]⟩
      · by_cases h3 : 30 < nb
        · (refine aw_ops (by kernel_rfl) (fun K hK => ?_); simp (disch := first | omega | (simp only [lnS]; try omega; done)) [-getElem?_pos, -getElem?_neg, hb, hlen, c2, c4, c70, -notTuple, p1, p2, w1, w2, b1, b2, nt_intG, -xlen, p3, w3, b3, h1, h2, h3]; refine hK _ _ ?_; clear hK K)
          exact ⟨rfl, by (first | (simp [put_at, put_none, fr0_at]; done) | rfl), by simp [put_at, h3]⟩
        · have hxt : xlen Try.prog 9 (.string ts) = some (.int .i64 ts.size) := by simp [xlen]
          by_cases h4 : 600 < ts.size
          · (refine aw_ops (by kernel_rfl) (fun K hK => ?_); simp (disch := first | omega | (simp only [lnS]; try omega; done)) [-getElem?_pos, -getElem?_neg, hb, hlen, c2, c4, c70, c69, -notTuple, p1, p2, w1, w2, b1, b2, nt_intG, nt_strG, -xlen, p3, w3, b3, hxt, h1, h2, h3, h4]; refine hK _ _ ?_; clear hK K)
            exact ⟨rfl, by (first | (simp [put_at, put_none, fr0_at]; done) | rfl), by simp [put_at, h4]⟩
          · (refine aw_ops (by kernel_rfl) (fun K hK => ?_); simp (disch := first | omega | (simp only [lnS]; try omega; done)) [-getElem?_pos, -getElem?_neg, hb, hlen, c2, c4, c70, c69, -notTuple, p1, p2, w1, w2, b1, b2, nt_intG, nt_strG, -xlen, p3, w3, b3, hxt, h1, h2, h3, h4]; refine hK _ _ ?_; clear hK K)
            exact ⟨rfl, by (first | (simp [put_at, put_none, fr0_at]; done) | rfl), by simp [put_at, h1, h2, h3, h4]⟩
  rintro α G' ⟨rfl, h1, h25⟩
  obtain ⟨B, hB⟩ : ∃ B, B = (decide (30 < np) || (decide (30 < nw) || (decide (30 < nb) || decide (600 < ts.size)))) := ⟨_, rfl⟩
  have hGB : (decide (30 < np) || (decide (30 < nw) || (decide (30 < nb) || (decide (600 < ts.size) || (List.range nb).any fun k => decide (600 < (bodyAt o.boxes k).size))))) = (B || (List.range nb).any fun k => decide (600 < (bodyAt o.boxes k).size)) := by
    rw [hB, Bool.or_assoc, Bool.or_assoc, Bool.or_assoc]
  rw [hGB]
  rw [← hB] at h25
  clear hB hGB hG
  cases B with
  | true =>
    refine aw_t (by (first | (simp [eval_tmp, put_at, h25]; done) | (simp [eval_tmp, put_at, h25]; omega))) (by kernel_rfl) ?_
    refine aw_seq ?_
    (refine aw_ops (by kernel_rfl) (fun K hK => ?_); simp (disch := first | omega | (simp only [lnS]; try omega; done)) [-getElem?_pos, -getElem?_neg]; refine hK _ _ ?_; clear hK K)
    (refine aw_ret ?_; simp (disch := first | omega | (simp only [lnS]; try omega; done)) [-getElem?_pos, -getElem?_neg, thenQ_ret, scopeQ_ret, inBlockQ_ret, RQ, resL, resV])
  | false =>
  rw [Bool.false_or]
  refine aw_f (by (first | (simp [eval_tmp, put_at, h25]; done) | (simp [eval_tmp, put_at, h25]; omega))) (by kernel_rfl) ?_
  refine aw_skip ?_
  refine aw_seq ?_
  refine aw_seq ?_
  (refine aw_ops (by kernel_rfl) (fun K hK => ?_); simp (disch := first | omega | (simp only [lnS]; try omega; done)) [-getElem?_pos, -getElem?_neg]; refine hK _ _ ?_; clear hK K)
  refine aw_block ?_
  refine aw_loop (fun c α G' => ∃ i : Nat, i + c = nb ∧ G = G' ∧ α 1 = .pointer (some ⟨g, 0, none⟩) ∧ α 3 = .int .i64 (i : Nat) ∧ ∀ k, k < i → decide (600 < (bodyAt o.boxes k).size) = false) nb ?_ ?_
  · exact ⟨0, by omega, rfl, by (first | (simp [put_at, put_none, fr0_at, h1]; done) | rfl), by (first | (simp [put_at, put_none, fr0_at]; done) | rfl), fun k hk => by omega⟩
  clear h1 h25 α
  rintro c α G' ⟨i, hic, rfl, h1, h3, hpre⟩
  refine aw_seq ?_
  refine aw_seq ?_
  by_cases hi : i < nb
  case neg =>
    (refine aw_ops (by kernel_rfl) (fun K hK => ?_); simp (disch := first | omega | (simp only [lnS]; try omega; done)) [-getElem?_pos, -getElem?_neg, h1, h3, hb, hlen, c70, -notTuple, b1, b2, nt_intG, -xlen, b3, hi]; refine hK _ _ ?_; clear hK K)
    refine aw_f (by (first | (simp [eval_tmp, put_at, hi]; done) | (simp [eval_tmp, put_at, hi]; omega))) (by kernel_rfl) ?_
    refine aw_exit ?_
    refine aw_seq ?_
    (refine aw_ops (by kernel_rfl) (fun K hK => ?_); simp (disch := first | omega | (simp only [lnS]; try omega; done)) [-getElem?_pos, -getElem?_neg]; refine hK _ _ ?_; clear hK K)
    (refine aw_ret ?_; simp (disch := first | omega | (simp only [lnS]; try omega; done)) [-getElem?_pos, -getElem?_neg, thenQ_ret, scopeQ_ret, inBlockQ_ret, RQ, resL, resV])
    intro k hk
    have := hpre k (by omega)
    simp at this
    exact this
  obtain ⟨j, q, bb, hx, hbb, hcb, hbm⟩ := hbx.body_at hw.boxes (i := i) (by omega)
  have hbG : hget G j = some bb := (hlow.1 j (hget_lt hbb)).trans hbb
  (refine aw_ops (by kernel_rfl) (fun K hK => ?_); simp (disch := first | omega | (simp only [lnS]; try omega; done)) [-getElem?_pos, -getElem?_neg, h1, h3, hb, hlen, c70, -notTuple, b1, b2, nt_intG, -xlen, b3, hi]; refine hK _ _ ?_; clear hK K)
  refine aw_t (by (first | (simp [eval_tmp, put_at, hi]; done) | (simp [eval_tmp, put_at, hi]; omega))) (by kernel_rfl) ?_
  refine aw_skip ?_
  refine aw_seq ?_
  refine aw_block ?_
  obtain ⟨bd, hbd⟩ : ∃ b, b = bodyAt o.boxes i := ⟨_, rfl⟩
  rw [← hbd] at hcb hbm
  have hbz : bd.size ≤ 9223372036854775807 := by simp only [maxLen] at hbm; omega
  have hxt : xlen Try.prog 9 (.string bd) = some (.int .i64 bd.size) := by simp [xlen]
  refine aw_seq ?_
  by_cases h6 : 600 < bd.size
  · (refine aw_ops (by kernel_rfl) (fun K hK => ?_); simp (disch := first | omega | (simp only [lnS]; try omega; done)) [-getElem?_pos, -getElem?_neg, h1, h3, hb, hlen, c70, -notTuple, b1, b2, nt_intG, nt_strG, -xindexAddr, hx, hbG, hcb, -xlen, hxt, h6]; refine hK _ _ ?_; clear hK K)
    refine aw_t (by (first | (simp [eval_tmp, put_at, h6]; done) | (simp [eval_tmp, put_at, h6]; omega))) (by kernel_rfl) ?_
    refine aw_seq ?_
    (refine aw_ops (by kernel_rfl) (fun K hK => ?_); simp (disch := first | omega | (simp only [lnS]; try omega; done)) [-getElem?_pos, -getElem?_neg]; refine hK _ _ ?_; clear hK K)
    (refine aw_ret ?_; simp (disch := first | omega | (simp only [lnS]; try omega; done)) [-getElem?_pos, -getElem?_neg, thenQ_ret, scopeQ_ret, inBlockQ_ret, RQ, resL, resV])
    exact ⟨i, hi, by rw [← hbd]; exact h6⟩
  · (refine aw_ops (by kernel_rfl) (fun K hK => ?_); simp (disch := first | omega | (simp only [lnS]; try omega; done)) [-getElem?_pos, -getElem?_neg, h1, h3, hb, hlen, c70, -notTuple, b1, b2, nt_intG, nt_strG, -xindexAddr, hx, hbG, hcb, -xlen, hxt, h6]; refine hK _ _ ?_; clear hK K)
    refine aw_f (by (first | (simp [eval_tmp, put_at, h6]; done) | (simp [eval_tmp, put_at, h6]; omega))) (by kernel_rfl) ?_
    refine aw_skip ?_
    (refine aw_ops (by kernel_rfl) (fun K hK => ?_); simp (disch := first | omega | (simp only [lnS]; try omega; done)) [-getElem?_pos, -getElem?_neg, h3]; refine hK _ _ ?_; clear hK K)
    refine ⟨c - 1, by omega, i + 1, by omega, rfl, by (first | (simp [put_at, put_none, fr0_at, h1]; done) | rfl), by (first | (simp [put_at, put_none, fr0_at]; done) | rfl), fun k hk => ?_⟩
    by_cases e : k = i
    · subst e
      rw [← hbd]
      simpa using h6
    · exact hpre k (by omega)
def greatG (l : List NodeD) : Bool := decide (110 < l.length) || (List.range l.length).any fun k => greatO (nd l k).op || decide (200 < (nd l k).past.length)
theorem greatG_rc {γ : Nat → Option Nat} {H : AH} {nv : Value} {l : List NodeD} (hN : NdA H nv l) : AC Try.prog H.length γ 10 #[nv] H (fun v' _ => v' = .bool (greatG l)) := by
  have hN' := hN
  obtain ⟨hnt, hvc, hxl, hwf, hat⟩ := hN
  unfold greatG
  refine ac_of_aw Try.func10 rfl Try.ntmps10 Try.results10 (by simp) ?_
  refine aw_seq ?_
  (refine aw_ops (by kernel_rfl) (fun K hK => ?_); simp (disch := first | omega | (simp only [lnS]; try omega; done)) [-getElem?_pos, -getElem?_neg]; refine hK _ _ ?_; clear hK K)
  refine aw_seq ?_
  refine aw_seq ?_
  by_cases hl : 110 < l.length
  · (refine aw_ops (by kernel_rfl) (fun K hK => ?_); simp (disch := first | omega | (simp only [lnS]; try omega; done)) [-getElem?_pos, -getElem?_neg, -notTuple, hnt, hvc, nt_intG, -xlen, hxl, hl]; refine hK _ _ ?_; clear hK K)
    refine aw_t (by (first | (simp [eval_tmp, put_at, hl]; done) | (simp [eval_tmp, put_at, hl]; omega))) (by kernel_rfl) ?_
    refine aw_seq ?_
    (refine aw_ops (by kernel_rfl) (fun K hK => ?_); simp (disch := first | omega | (simp only [lnS]; try omega; done)) [-getElem?_pos, -getElem?_neg]; refine hK _ _ ?_; clear hK K)
    (refine aw_ret ?_; simp (disch := first | omega | (simp only [lnS]; try omega; done)) [-getElem?_pos, -getElem?_neg, thenQ_ret, scopeQ_ret, inBlockQ_ret, RQ, resL, resV])
    all_goals simp [hl]
  have hlf : decide (110 < l.length) = false := by simpa using hl
  rw [hlf, Bool.false_or]
  (refine aw_ops (by kernel_rfl) (fun K hK => ?_); simp (disch := first | omega | (simp only [lnS]; try omega; done)) [-getElem?_pos, -getElem?_neg, -notTuple, hnt, hvc, nt_intG, -xlen, hxl, hl]; refine hK _ _ ?_; clear hK K)
  refine aw_f (by (first | (simp [eval_tmp, put_at, hl]; done) | (simp [eval_tmp, put_at, hl]; omega))) (by kernel_rfl) ?_
  refine aw_skip ?_
  refine aw_seq ?_
  refine aw_seq ?_
  (refine aw_ops (by kernel_rfl) (fun K hK => ?_); simp (disch := first | omega | (simp only [lnS]; try omega; done)) [-getElem?_pos, -getElem?_neg]; refine hK _ _ ?_; clear hK K)
  refine aw_block ?_
  obtain ⟨R, hR⟩ : ∃ R, R = ((List.range l.length).any fun k => greatO (nd l k).op || decide (200 < (nd l k).past.length)) := ⟨_, rfl⟩
  rw [← hR]
  refine aw_loop (fun c α G' => ∃ i : Nat, i + c = l.length ∧ H = G' ∧ α 0 = nv ∧ α 3 = .int .i64 (i : Nat) ∧ ∀ k, k < i → (greatO (nd l k).op || decide (200 < (nd l k).past.length)) = false) l.length ?_ ?_
  · exact ⟨0, by omega, rfl, by (first | (simp [put_at, put_none, fr0_at]; done) | rfl), by (first | (simp [put_at, put_none, fr0_at]; done) | rfl), fun k hk => by omega⟩
  rintro c α G' ⟨i, hic, rfl, h0, h3, hpre⟩
  refine aw_seq ?_
  refine aw_seq ?_
  by_cases hi : i < l.length
  case neg =>
    (refine aw_ops (by kernel_rfl) (fun K hK => ?_); simp (disch := first | omega | (simp only [lnS]; try omega; done)) [-getElem?_pos, -getElem?_neg, h0, h3, -notTuple, hnt, hvc, nt_intG, -xlen, hxl, hi]; refine hK _ _ ?_; clear hK K)
    refine aw_f (by (first | (simp [eval_tmp, put_at, hi]; done) | (simp [eval_tmp, put_at, hi]; omega))) (by kernel_rfl) ?_
    refine aw_exit ?_
    have hRf : R = false := hR.trans (any_none (fun k hk => hpre k (by omega)))
    rw [hRf]
    refine aw_seq ?_
    (refine aw_ops (by kernel_rfl) (fun K hK => ?_); simp (disch := first | omega | (simp only [lnS]; try omega; done)) [-getElem?_pos, -getElem?_neg]; refine hK _ _ ?_; clear hK K)
    (refine aw_ret ?_; simp (disch := first | omega | (simp only [lnS]; try omega; done)) [-getElem?_pos, -getElem?_neg, thenQ_ret, scopeQ_ret, inBlockQ_ret, RQ, resL, resV])
  obtain ⟨j, q, bb, us, pv, wv', bv, qv, hx, hbb, hq, hcell, hus, hC⟩ := hat i _ (nd_get hi)
  have hwfi := hwf _ (List.mem_of_getElem? (nd_get hi))
  obtain ⟨u7, hu7⟩ : ∃ u, u = (us.drop 32).take 71 := ⟨_, rfl⟩
  have hO : OpC H u7 (nd l i).op pv wv' bv := hu7 ▸ hC.op
  have hcut : (bb.cells.drop (q + 32)).take 71 = u7 := by rw [op_cut, ← hus, hu7]
  have hu7l := hO.len
  have hgo := greatO_rc (γ := γ) hO hwfi.op
  have hqv : bb.cells[q + 103]? = some qv := (hcell 103 (by omega)).trans hC.c103
  have qa := hC.past.acc
  have q1 := qa.nt
  have q2 := qa.cs
  have q3 := qa.len
  have hRt : (greatO (nd l i).op || decide (200 < (nd l i).past.length)) = true → R = true := fun e => hR.trans (any_some hi e)
  (refine aw_ops (by kernel_rfl) (fun K hK => ?_); simp (disch := first | omega | (simp only [lnS]; try omega; done)) [-getElem?_pos, -getElem?_neg, h0, h3, -notTuple, hnt, hvc, nt_intG, -xlen, hxl, hi]; refine hK _ _ ?_; clear hK K)
  refine aw_t (by (first | (simp [eval_tmp, put_at, hi]; done) | (simp [eval_tmp, put_at, hi]; omega))) (by kernel_rfl) ?_
  refine aw_skip ?_
  refine aw_seq ?_
  refine aw_block ?_
  refine aw_seq ?_
  refine aw_ops (by kernel_rfl) (fun K hK => ?_)
  simp (disch := first | omega | (simp only [lnS]; try omega; done)) [-getElem?_pos, -getElem?_neg, h0, h3, -notTuple, hnt, hvc, nt_intG, nt_aggG, -xindexAddr, hx, hbb, hcut, hu7l]
  refine ⟨by kernel_rfl, ac_of_rc hgo (by simp [pv_iv, pv_int, pv_bool, pv_string, pv_tup2, pv_tup3, iv_plain, p2_int, p2_bool, p2_string]) ?_⟩
  cases h5 : greatO (nd l i).op with
  | true =>
    try simp (disch := first | omega | (simp only [lnS]; try omega; done)) [-getElem?_pos, -getElem?_neg]
    refine hK _ _ ?_; clear hK K
    refine aw_t (by (first | (simp [eval_tmp, put_at]; done) | (simp [eval_tmp, put_at]; omega))) (by kernel_rfl) ?_
    refine aw_seq ?_
    rw [hRt (by rw [h5]; rfl)]
    (refine aw_ops (by kernel_rfl) (fun K hK => ?_); simp (disch := first | omega | (simp only [lnS]; try omega; done)) [-getElem?_pos, -getElem?_neg]; refine hK _ _ ?_; clear hK K)
    (refine aw_ret ?_; simp (disch := first | omega | (simp only [lnS]; try omega; done)) [-getElem?_pos, -getElem?_neg, thenQ_ret, scopeQ_ret, inBlockQ_ret, RQ, resL, resV])
  | false =>
    by_cases h6 : 200 < (nd l i).past.length
    · simp (disch := first | omega | (simp only [lnS]; try omega; done)) [-getElem?_pos, -getElem?_neg, h0, h3, -notTuple, hnt, hvc, q1, q2, nt_intG, -xindexAddr, hx, hbb, hqv, -xlen, q3, h6]
      refine hK _ _ ?_; clear hK K
      refine aw_t (by (first | (simp [eval_tmp, put_at]; done) | (simp [eval_tmp, put_at]; omega))) (by kernel_rfl) ?_
      refine aw_seq ?_
      rw [hRt (by rw [decide_eq_true h6, Bool.or_true])]
      (refine aw_ops (by kernel_rfl) (fun K hK => ?_); simp (disch := first | omega | (simp only [lnS]; try omega; done)) [-getElem?_pos, -getElem?_neg]; refine hK _ _ ?_; clear hK K)
      (refine aw_ret ?_; simp (disch := first | omega | (simp only [lnS]; try omega; done)) [-getElem?_pos, -getElem?_neg, thenQ_ret, scopeQ_ret, inBlockQ_ret, RQ, resL, resV])
    · simp (disch := first | omega | (simp only [lnS]; try omega; done)) [-getElem?_pos, -getElem?_neg, h0, h3, -notTuple, hnt, hvc, q1, q2, nt_intG, -xindexAddr, hx, hbb, hqv, -xlen, q3, h6]
      refine hK _ _ ?_; clear hK K
      refine aw_f (by (first | (simp [eval_tmp, put_at]; done) | (simp [eval_tmp, put_at]; omega))) (by kernel_rfl) ?_
      refine aw_skip ?_
      (refine aw_ops (by kernel_rfl) (fun K hK => ?_); simp (disch := first | omega | (simp only [lnS]; try omega; done)) [-getElem?_pos, -getElem?_neg, h3]; refine hK _ _ ?_; clear hK K)
      refine ⟨c - 1, by omega, i + 1, by omega, rfl, by (first | (simp [put_at, put_none, fr0_at, h0]; done) | rfl), by (first | (simp [put_at, put_none, fr0_at]; done) | rfl), fun k hk => ?_⟩
      by_cases e : k = i
      · subst e
        rw [h5, decide_eq_false h6]; rfl
      · exact hpre k (by omega)
end
section
/-- What comes in: a graph; an operation. -/
theorem nodes_in {H : AH} {ds : List CD} {u : Value} (ho : OkL [.sl nodeK] ds) (hv : ValL H ds [u]) : ∃ l, NdV H u l ∧ (∀ x ∈ l, x.Wf) ∧ l.length ≤ maxLen := by
  obtain ⟨d, r, rfl, h1, h2⟩ := ho.cons
  obtain rfl := h2.nil
  obtain ⟨l, rfl, h3, h4⟩ := nodes_of h1
  obtain ⟨u', r', e, h5, h6⟩ := hv.cons
  cases e
  exact ⟨l, h5, h3, h4⟩
section
variable {l : List NodeD}
theorem ahead_iff {a b : Int} : aheadB l a b = true ↔ ∃ i j : Nat, a = i ∧ b = j ∧ i < l.length ∧ j < l.length ∧ rightG l = true ∧ (i : Int) ∈ (nd l j).past := by
  unfold aheadB pastAt
  simp only [Bool.and_eq_true, decide_eq_true_eq]
  constructor
  · rintro ⟨h1, h2, h3, h4⟩
    obtain ⟨i, rfl, hi⟩ := isP_nat h1
    obtain ⟨j, rfl, hj⟩ := isP_nat h2
    exact ⟨i, j, rfl, rfl, hi, hj, h3, h4⟩
  · rintro ⟨i, j, rfl, rfl, hi, hj, h3, h4⟩
    refine ⟨?_, ?_, h3, h4⟩
    · unfold isP; simp [hi]
    · unfold isP; simp [hj]
end
attribute [local simp] wb_bool wb_undef with_lit XL_nil XL_cons XLc_val XLc_call step1_eq stepW_t stepW_f stepC_n stepC_s stepX_s stepX_n stepN_s calleeX oneV xop_eq xopR_s xopR_n wantedA_eq wantedG_n wantedG_s plain1_int plain1_bool plain1_string bits_i64 bits_u64 bits_u32 bits_u16 bits_u8 xeqA xagg xcmp xarr allK_iv num_iv calleeOf xread xeff xbin xint xnil xun xstr xload xconv xpart xfield xfieldAddr xindexAddr xindex bnd asInt? xslice xlen xmin xmax xbuild xfill xappend xapp2 xappstr xappmk xcap xcopy xcells eval_tmp eval_const put_at put_none fr0_at cells_agg cells_int cells_bool cells_string cells_ptr cells_slice notTuple tab iv_all hget_app hget_app0 hget_cons0 hget_cons set_app set_app0 setR setR_one QL_nil QL_cons QLc_val stepQ_t stepQ_f stepQC_n stepQC_s stepQX_s SL_nil SL_cons SLc_val stepS_t stepS_f ltT ltF leT leF eqT eqF ltTn ltFn leTn leFn eqTn eqFn beqT beqF bneT bneF wi64 wu64 wu32 wu16 wu8 tmodP tdivP hgetL hgetNe hgetEq setL nums_def nums_len Nat.succ_le_of_lt List.getElem?_cons_zero List.getElem?_cons_succ Option.getD_some Int.toNat_add Int.toNat_mul agM okM agB agI agS agP agL agA okB okI okS okP okSl okA
end
section
section
variable {l : List NodeD}
theorem mem_headsL {k : List Int} : k ∈ headsL l ↔ ∃ a, a ∈ headP l ∧ k = (nd l a).id := by
  unfold headsL headK
  rw [(sortK_perm _).mem_iff, List.mem_map]
  exact exists_congr fun a => and_congr_right fun _ => eq_comm
theorem headsL_len : (headsL l).length = (headP l).length := by
  unfold headsL headK
  rw [(sortK_perm _).length_eq, List.length_map]
/-- Every node is a head, or ahead of one. -/
theorem below_head (hr : rightG l = true) : ∀ (c k : Nat), k < l.length → l.length ≤ k + c → inB l l.length (headsL l) k = true := by
  intro c
  induction c with
  | zero => intro k hk hc; omega
  | succ c ih =>
    intro k hk hc
    rw [inB_iff]
    by_cases hh : k ∈ headP l
    · exact ⟨(nd l k).id, mem_headsL.2 ⟨k, hh, rfl⟩, k, find_self hr hk (Nat.le_refl _), .inl rfl⟩
    · rw [mem_headP] at hh
      obtain ⟨i, hi, hm⟩ : ∃ i, i < l.length ∧ (k : Int) ∈ (nd l i).past := by
        refine Decidable.byContradiction fun hno => hh ⟨hk, fun i hi hm => hno ⟨i, hi, hm⟩⟩
      obtain ⟨k', e, hki⟩ := past_bd hr hi hm
      have hki : k < i := by omega
      have := ih i hi (by omega)
      rw [inB_iff] at this
      obtain ⟨p, hp, a, ha, hor⟩ := this
      refine ⟨p, hp, a, ha, .inr ?_⟩
      rcases hor with rfl | hor
      · exact hm
      · exact past_trans hr a (findN_lt ha) k i hm hor
theorem heads_all (hr : rightG l = true) : (headsL l).all (fun p => (findN l l.length p).isSome) = true := by
  rw [List.all_eq_true]
  intro p hp
  obtain ⟨a, ha, rfl⟩ := mem_headsL.1 hp
  rw [find_self hr (mem_headP.1 ha).1 (Nat.le_refl _)]
  rfl
theorem heads_past (hr : rightG l = true) : (pastL l l.length (headsL l)).length = l.length := by
  unfold pastL
  rw [List.length_map]
  have : (List.range l.length).filter (inB l l.length (headsL l)) = List.range l.length := by
    rw [List.filter_eq_self]
    intro k hk
    exact below_head hr l.length k (List.mem_range.1 hk) (by omega)
  rw [this, List.length_range]
theorem heads_pos (hr : rightG l = true) : 0 < (headsL l).length ↔ 0 < l.length := by
  constructor
  · intro h
    rw [headsL_len] at h
    obtain ⟨k, hk⟩ := List.exists_mem_of_length_pos h
    have := (mem_headP.1 hk).1
    omega
  · intro h
    have := below_head hr l.length 0 h (by omega)
    rw [inB_iff] at this
    obtain ⟨p, hp, _⟩ := this
    exact List.length_pos_of_mem hp
end
attribute [local simp] wb_bool wb_undef with_lit XL_nil XL_cons XLc_val XLc_call step1_eq stepW_t stepW_f stepC_n stepC_s stepX_s stepX_n stepN_s calleeX oneV xop_eq xopR_s xopR_n wantedA_eq wantedG_n wantedG_s plain1_int plain1_bool plain1_string bits_i64 bits_u64 bits_u32 bits_u16 bits_u8 xeqA xagg xcmp xarr allK_iv num_iv calleeOf xread xeff xbin xint xnil xun xstr xload xconv xpart xfield xfieldAddr xindexAddr xindex bnd asInt? xslice xlen xmin xmax xbuild xfill xappend xapp2 xappstr xappmk xcap xcopy xcells eval_tmp eval_const put_at put_none fr0_at cells_agg cells_int cells_bool cells_string cells_ptr cells_slice notTuple tab iv_all hget_app hget_app0 hget_cons0 hget_cons set_app set_app0 setR setR_one QL_nil QL_cons QLc_val stepQ_t stepQ_f stepQC_n stepQC_s stepQX_s SL_nil SL_cons SLc_val stepS_t stepS_f ltT ltF leT leF eqT eqF ltTn ltFn leTn leFn eqTn eqFn beqT beqF bneT bneF wi64 wu64 wu32 wu16 wu8 tmodP tdivP hgetL hgetNe hgetEq setL nums_def nums_len Nat.succ_le_of_lt List.getElem?_cons_zero List.getElem?_cons_succ Option.getD_some Int.toNat_add Int.toNat_mul agM okM agB agI agS agP agL agA okB okI okS okP okSl okA
theorem heads_law {γ : Nat → Option Nat} {H : AH} {ds : List CD} {u : Value} (ho : OkL [.sl nodeK] ds) (hv : ValL H ds [u]) : AC Try.prog H.length γ 7 #[u] H (fun v' _ => v' = .bool true) := by
  obtain ⟨l, hV, hw, hm⟩ := nodes_in ho hv
  have hN := hV.nda hw
  have al := alive_rc (γ := γ) (H := H)
  have gr := greatG_rc (γ := γ) hN
  have rr := graph_right_rc (γ := γ) hN
  obtain ⟨v1, v2⟩ := val_nt hV
  have hxl := hN.len
  refine ac_of_aw Try.func7 rfl Try.ntmps7 Try.results7 (by simp) ?_
  refine aw_seq ?_
  (refine aw_ops (by kernel_rfl) (fun K hK => ?_); simp (disch := first | omega | (simp only [lnS]; try omega; done)) [-getElem?_pos, -getElem?_neg]; refine hK _ _ ?_; clear hK K)
  refine aw_seq ?_
  refine aw_seq ?_
  refine aw_ops (by kernel_rfl) (fun K hK => ?_)
  simp (disch := first | omega | (simp only [lnS]; try omega; done)) [-getElem?_pos, -getElem?_neg]
  refine ⟨by kernel_rfl, ac_of_rc al (by simp [pv_iv, pv_int, pv_bool, pv_string, pv_tup2, pv_tup3, iv_plain, p2_int, p2_bool, p2_string]) ?_⟩
  try simp (disch := first | omega | (simp only [lnS]; try omega; done)) [-getElem?_pos, -getElem?_neg]
  refine hK _ _ ?_; clear hK K
  refine aw_f (by (first | (simp [eval_tmp, put_at]; done) | (simp [eval_tmp, put_at]; omega))) (by kernel_rfl) ?_
  refine aw_skip ?_
  refine aw_seq ?_
  refine aw_seq ?_
  refine aw_cut (fun α G => α 14 = .bool (greatG l || !rightG l) ∧ α 0 = u ∧ G = H) ?_ ?_
  · refine aw_ops (by kernel_rfl) (fun K hK => ?_)
    simp (disch := first | omega | (simp only [lnS]; try omega; done)) [-getElem?_pos, -getElem?_neg, -notTuple, v1, v2, nt_intG]
    refine ⟨by kernel_rfl, ac_of_rc gr (by simp [pv_iv, pv_int, pv_bool, pv_string, pv_tup2, pv_tup3, iv_plain, p2_int, p2_bool, p2_string]) ?_⟩
    cases hg : greatG l with
    | true =>
      try simp (disch := first | omega | (simp only [lnS]; try omega; done)) [-getElem?_pos, -getElem?_neg]
      refine hK _ _ ?_; clear hK K
      exact ⟨by rw [hg]; (first | (simp [put_at, put_none, fr0_at]; done) | rfl), by (first | (simp [put_at, put_none, fr0_at]; done) | rfl), rfl⟩
    | false =>
      try simp (disch := first | omega | (simp only [lnS]; try omega; done)) [-getElem?_pos, -getElem?_neg, -notTuple, v1, v2, nt_intG]
      refine ⟨by kernel_rfl, ac_of_rc rr (by simp [pv_iv, pv_int, pv_bool, pv_string, pv_tup2, pv_tup3, iv_plain, p2_int, p2_bool, p2_string]) ?_⟩
      cases hr : rightG l with
      | true =>
        try simp (disch := first | omega | (simp only [lnS]; try omega; done)) [-getElem?_pos, -getElem?_neg]
        refine hK _ _ ?_; clear hK K
        exact ⟨by rw [hg, hr]; (first | (simp [put_at, put_none, fr0_at]; done) | rfl), by (first | (simp [put_at, put_none, fr0_at]; done) | rfl), rfl⟩
      | false =>
        try simp (disch := first | omega | (simp only [lnS]; try omega; done)) [-getElem?_pos, -getElem?_neg]
        refine hK _ _ ?_; clear hK K
        exact ⟨by rw [hg, hr]; (first | (simp [put_at, put_none, fr0_at]; done) | rfl), by (first | (simp [put_at, put_none, fr0_at]; done) | rfl), rfl⟩
  rintro α G ⟨q14, q0, rfl⟩
  cases hb : (greatG l || !rightG l) with
  | true =>
    rw [hb] at q14
    refine aw_t (by (first | (simp [eval_tmp, put_at, q14]; done) | (simp [eval_tmp, put_at, q14]; omega))) (by kernel_rfl) ?_
    refine aw_seq ?_
    refine aw_ops (by kernel_rfl) (fun K hK => ?_)
    simp (disch := first | omega | (simp only [lnS]; try omega; done)) [-getElem?_pos, -getElem?_neg]
    refine ⟨by kernel_rfl, ac_of_rc al (by simp [pv_iv, pv_int, pv_bool, pv_string, pv_tup2, pv_tup3, iv_plain, p2_int, p2_bool, p2_string]) ?_⟩
    try simp (disch := first | omega | (simp only [lnS]; try omega; done)) [-getElem?_pos, -getElem?_neg]
    refine hK _ _ ?_; clear hK K
    (refine aw_ret ?_; simp (disch := first | omega | (simp only [lnS]; try omega; done)) [-getElem?_pos, -getElem?_neg, thenQ_ret, scopeQ_ret, inBlockQ_ret, RQ, resL, resV])
  | false =>
  rw [hb] at q14
  refine aw_f (by (first | (simp [eval_tmp, put_at, q14]; done) | (simp [eval_tmp, put_at, q14]; omega))) (by kernel_rfl) ?_
  refine aw_skip ?_
  have hr : rightG l = true := by
    cases h : rightG l with
    | true => rfl
    | false => rw [h] at hb; simp at hb
  have hl := rightG_len hr
  refine aw_seq ?_
  refine aw_ops (by kernel_rfl) (fun K hK => ?_)
  simp (disch := first | omega | (simp only [lnS]; try omega; done)) [-getElem?_pos, -getElem?_neg, q0, -notTuple, v1, v2, nt_intG]
  refine ⟨by kernel_rfl, (heads_rc (γ := γ) hN).mono ?_⟩
  rintro hvv G1 ⟨low1, ⟨_, F, ho1, hF⟩ | ⟨hbad, _⟩⟩
  case inr => rw [hr] at hbad; cases hbad
  have hkk : K32 (headsL l) := fun k hk => by
    obtain ⟨a, ha, rfl⟩ := mem_headsL.1 hk
    exact (hw _ (List.mem_of_getElem? (nd_get (mem_headP.1 ha).1))).id.1
  have hll := headP_len hr
  rw [← headsL_len] at hll
  obtain ⟨h1, h2⟩ := own_nt ho1
  have hxh := ho1.len (P := Try.prog) (t := 30) (by simp) (kr_len hkk) (by omega)
  have hks := kr_ksv ho1 hkk
  have N1 := hN.lowG low1
  try simp (disch := first | omega | (simp only [lnS]; try omega; done)) [-getElem?_pos, -getElem?_neg]
  refine hK _ _ ?_; clear hK K
  refine aw_seq ?_
  refine aw_ops (by kernel_rfl) (fun K hK => ?_)
  simp (disch := first | omega | (simp only [lnS]; try omega; done)) [-getElem?_pos, -getElem?_neg, q0, -notTuple, v1, v2, h1, h2, nt_intG]
  have hpl : (headsL l).length ≤ maxLen := by simp only [maxLen]; omega
  refine ⟨by kernel_rfl, ((pastE_rc (γ := γ) N1 hks hkk hpl).thaw (fun v G' h => ?_)).mono ?_⟩
  · rcases h with ⟨_, h⟩ | ⟨_, rfl, _⟩
    · exact ⟨h.1.2, h.1.1⟩
    · exact ⟨Nat.le_refl _, fun _ _ => rfl⟩
  rintro pv G2 (⟨_, low2, ⟨_, sv, F2, rfl, ho2, hF2⟩ | ⟨hbad, _⟩⟩ | ⟨hbad, _⟩)
  case inl.inr => rw [heads_all hr] at hbad; cases hbad
  case inr => rw [hr] at hbad; cases hbad
  obtain ⟨s1, s2⟩ := own_nt ho2
  have hxp := ho2.len (P := Try.prog) (t := 34) (n := l.length) (by simp) (by rw [iv_length, heads_past hr]; omega) (by omega)
  simp (disch := first | omega | (simp only [lnS]; try omega; done)) [-getElem?_pos, -getElem?_neg, -notTuple, s1, s2, nt_intG]
  refine hK _ _ ?_; clear hK K
  have al2 := alive_rc (γ := γ) (H := G2)
  refine aw_seq ?_
  have hpos := heads_pos hr
  refine aw_cut (fun α G => α 2 = .bool true ∧ True) ?_ ?_
  · refine aw_ops (by kernel_rfl) (fun K hK => ?_)
    simp (disch := first | omega | (simp only [lnS]; try omega; done)) [-getElem?_pos, -getElem?_neg]
    refine ⟨by kernel_rfl, ac_of_rc al2 (by simp [pv_iv, pv_int, pv_bool, pv_string, pv_tup2, pv_tup3, iv_plain, p2_int, p2_bool, p2_string]) ?_⟩
    by_cases h0 : 0 < l.length
    · have h0h := hpos.2 h0
      simp (disch := first | omega | (simp only [lnS]; try omega; done)) [-getElem?_pos, -getElem?_neg, q0, -notTuple, v1, v2, h1, h2, s1, s2, nt_intG, -xlen, hxl, hxh, hxp, h0, h0h, hll]
      refine hK _ _ ?_; clear hK K
      exact ⟨by (first | (simp [put_at, put_none, fr0_at]; done) | rfl), trivial⟩
    · have h0h : ¬ 0 < (headsL l).length := fun h => h0 (hpos.1 h)
      have e1 : l.length = 0 := by omega
      have e2 : (headsL l).length = 0 := by omega
      simp (disch := first | omega | (simp only [lnS]; try omega; done)) [-getElem?_pos, -getElem?_neg, q0, -notTuple, v1, v2, h1, h2, s1, s2, nt_intG, -xlen, hxl, hxh, hxp, e1, e2, hll]
      refine hK _ _ ?_; clear hK K
      exact ⟨by (first | (simp [put_at, put_none, fr0_at]; done) | rfl), trivial⟩
  rintro α G8 ⟨q8, _⟩
  (refine aw_ret ?_; simp (disch := first | omega | (simp only [lnS]; try omega; done)) [-getElem?_pos, -getElem?_neg, thenQ_ret, scopeQ_ret, inBlockQ_ret, RQ, resL, resV, q8])
end
section
theorem nd_push {m : List NodeD} {x : NodeD} {a : Nat} (h : a < m.length) : nd (m ++ [x]) a = nd m a := by
  unfold nd
  rw [List.getD_eq_getElem?_getD, List.getD_eq_getElem?_getD, List.getElem?_append_left h]
theorem nd_last (m : List NodeD) (x : NodeD) : nd (m ++ [x]) m.length = x := nd_eq (by rw [List.getElem?_append_right (Nat.le_refl _)]; simp)
theorem findN_eq_none {l : List NodeD} {n : Nat} {k : List Int} (h : ∀ a, a < n → (nd l a).id ≠ k) : findN l n k = none := by
  unfold findN
  rw [List.find?_eq_none]
  intro a ha
  have := h a (List.mem_range.1 ha)
  simpa using this
theorem stepB_congr {l m : List NodeD} {i : Nat} (h : ∀ a, a ≤ i → nd l a = nd m a) : stepB l i = stepB m i := by
  have h' : ∀ a, a < i → nd l a = nd m a := fun a ha => h a (by omega)
  unfold stepB
  rw [h i (Nat.le_refl _), pastL_congr h', turnB_congr h']
  have : (fun p => (findN l i p).isSome) = fun p => (findN m i p).isSome := by
    funext p
    rw [find_congr h']
  rw [this, find_congr h']
section
variable {l m : List NodeD}
theorem add_facts {id : List Int} {o : OpD} (h : addE m id o = 0) : rightG m = true ∧ rightO o = true ∧ findN m m.length id = none ∧ m.length ≠ 96 ∧ o.parents.all (fun p => (findN m m.length p).isSome) = true ∧ seqOk m o = true := by
  unfold addE at h
  split at h
  · cases h
  rename_i h1
  split at h
  · cases h
  rename_i h2
  split at h
  · cases h
  rename_i h3
  split at h
  · cases h
  rename_i h4
  split at h
  · cases h
  rename_i h5
  split at h
  · cases h
  rename_i h6
  exact ⟨eq_true_of_ne_false h1, eq_true_of_ne_false h2, by simpa using h3, h4, eq_true_of_ne_false h5, eq_true_of_ne_false h6⟩
theorem rightO_first {o : OpD} (h : rightO o = true) (hk : o.kind ≠ 1) : 0 < o.parents.length := by
  unfold rightO at h
  simp only [Bool.and_eq_true] at h
  have := h.2.2.2.1
  unfold placeB at this
  rw [if_neg hk] at this
  simp only [Bool.and_eq_true, decide_eq_true_eq] at this
  exact this.2.1
theorem add_turn {id : List Int} {o : OpD} (h : addE m id o = 0) : turnB m m.length o (pastL m m.length o.parents) = true := by
  obtain ⟨h1, h2, h3, h4, h5, h6⟩ := add_facts h
  unfold seqOk at h6
  simp only [Bool.and_eq_true, Bool.not_eq_true', Bool.and_eq_false_iff, decide_eq_true_eq, decide_eq_false_iff_not] at h6
  obtain ⟨h7, h8, h9⟩ := h6
  unfold turnB
  rw [(ahead_all m m.length o.parents o.author).1 h9, Bool.true_and, Bool.and_eq_true, decide_eq_true_eq]
  refine ⟨?_, by rw [← h9]; exact h8⟩
  rw [beq_iff_eq, decide_eq_decide]
  constructor
  · intro hk
    rcases h7 with h7 | h7
    · exact absurd hk h7
    · omega
  · intro hn
    refine Decidable.byContradiction fun hk => ?_
    have hp := rightO_first h2 hk
    rw [List.all_eq_true] at h5
    obtain ⟨p, hp⟩ := List.exists_mem_of_length_pos hp
    have := h5 p hp
    rw [hn, findN_zero] at this
    cases this
theorem add_rightG {id : List Int} {o : OpD} (h : addE m id o = 0) : rightG (m ++ [addD m id o]) = true := by
  obtain ⟨h1, h2, h3, h4, h5, h6⟩ := add_facts h
  have hl := rightG_len h1
  have ht := add_turn h
  have hc : ∀ a, a < m.length → nd (m ++ [addD m id o]) a = nd m a := fun a ha => nd_push ha
  unfold rightG
  rw [Bool.and_eq_true, decide_eq_true_eq, List.all_eq_true]
  refine ⟨by simp; omega, fun i hi => ?_⟩
  rw [List.mem_range, List.length_append] at hi
  rcases Nat.lt_or_ge i m.length with hil | hil
  · rw [stepB_congr (fun a ha => hc a (by omega))]
    exact right_step h1 hil
  · have : i = m.length := by simp at hi; omega
    subst this
    rw [step_iff, nd_last]
    have hps : (fun p => (findN (m ++ [addD m id o]) m.length p).isSome) = fun p => (findN m m.length p).isSome := by
      funext p
      rw [find_congr hc]
    have e1 : (addD m id o).op = o := rfl
    have e2 : (addD m id o).id = id := rfl
    have e3 : (addD m id o).past = pastL m m.length o.parents := rfl
    rw [e1, e2, e3, hps, find_congr hc, pastL_congr hc, turnB_congr hc]
    exact ⟨h5, h2, h3, rfl, ht⟩
theorem ids_inj (h : rightG l = true) {i j : Nat} (hi : i < l.length) (hj : j < l.length) (e : (nd l i).id = (nd l j).id) : i = j := by
  rcases Nat.lt_trichotomy i j with hlt | rfl | hlt
  · exact absurd e (ids_ne h hlt hj)
  · rfl
  · exact absurd e.symm (ids_ne h hlt hi)
/-- A part of a graph's operations, in an order of its own. -/
structure Sub (l m : List NodeD) : Prop where
  left : rightG l = true
  right : rightG m = true
  at_ : ∀ j, j < m.length → ∃ i, i < l.length ∧ (nd m j).id = (nd l i).id ∧ (nd m j).op = (nd l i).op
theorem Sub.op (h : Sub l m) {i j : Nat} (hi : i < l.length) (hj : j < m.length) (e : (nd m j).id = (nd l i).id) : (nd m j).op = (nd l i).op := by
  obtain ⟨i', h1, h2, h3⟩ := h.at_ j hj
  obtain rfl : i = i' := ids_inj h.left hi h1 (e.symm.trans h2)
  exact h3
theorem in_past (h : rightG l = true) {i k : Nat} (hi : i < l.length) : (k : Int) ∈ (nd l i).past ↔ ∃ p ∈ (nd l i).op.parents, ∃ a, findN l i p = some a ∧ (a = k ∨ (k : Int) ∈ (nd l a).past) := by
  rw [right_past h hi, mem_pastL, inB_iff]
  refine ⟨fun h => h.2, fun hh => ⟨?_, hh⟩⟩
  obtain ⟨p, hp, a, ha, hor⟩ := hh
  have hal := findN_lt ha
  rcases hor with rfl | hor
  · exact hal
  · obtain ⟨k', e, hk⟩ := past_bd h (by omega) hor
    omega
/-- The same is ahead of the same. -/
theorem Sub.past (h : Sub l m) : ∀ (j : Nat), j < m.length → ∀ (i j' i' : Nat), i < l.length → (nd m j).id = (nd l i).id → j' < m.length → i' < l.length → (nd m j').id = (nd l i').id → ((j' : Int) ∈ (nd m j).past ↔ (i' : Int) ∈ (nd l i).past) := by
  intro j
  induction j using Nat.strongRecOn with
  | ind j ih =>
    intro hj i j' i' hi e hj' hi' e'
    have hop := h.op hi hj e
    rw [in_past h.right hj, in_past h.left hi, hop]
    refine exists_congr fun p => and_congr_right fun hp => ?_
    obtain ⟨a, ha⟩ := right_par h.right hj (by rw [hop]; exact hp)
    obtain ⟨b, hb⟩ := right_par h.left hi hp
    have hal := findN_lt ha
    have hbl := findN_lt hb
    have hia := findN_id ha
    have hib := findN_id hb
    rw [ha, hb]
    have eab : (nd m a).id = (nd l b).id := hia.trans hib.symm
    simp only [Option.some.injEq, exists_eq_left']
    refine or_congr ?_ (ih a hal (by omega) b j' i' (by omega) eab hj' hi' e')
    constructor
    · rintro rfl
      exact ids_inj h.left (by omega) hi' (eab.symm.trans e')
    · rintro rfl
      exact ids_inj h.right (by omega) hj' (eab.trans e'.symm)
/-- What is ahead of what is there is there. -/
theorem Sub.closed (h : Sub l m) : ∀ (j : Nat), j < m.length → ∀ (i i' : Nat), i < l.length → (nd m j).id = (nd l i).id → (i' : Int) ∈ (nd l i).past → ∃ j', j' < m.length ∧ (nd m j').id = (nd l i').id := by
  intro j
  induction j using Nat.strongRecOn with
  | ind j ih =>
    intro hj i i' hi e hp
    have hop := h.op hi hj e
    rw [in_past h.left hi] at hp
    obtain ⟨p, hp, b, hb, hor⟩ := hp
    obtain ⟨a, ha⟩ := right_par h.right hj (by rw [hop]; exact hp)
    have hal := findN_lt ha
    have hbl := findN_lt hb
    have eab : (nd m a).id = (nd l b).id := (findN_id ha).trans (findN_id hb).symm
    rcases hor with rfl | hor
    · exact ⟨a, by omega, eab⟩
    · exact ih a hal (by omega) b i' (by omega) eab hor
theorem ids_nodup (h : rightG l = true) (n : Nat) (hn : n ≤ l.length) (p : Nat → Bool) : (((List.range n).filter p).map fun k => (nd l k).id).Nodup := by
  rw [List.Nodup, List.pairwise_map]
  refine List.Pairwise.imp_of_mem ?_ (List.Pairwise.filter _ List.pairwise_lt_range)
  intro i j hi hj hij
  exact ids_ne h hij (by have := List.mem_range.1 (List.mem_filter.1 hj).1; omega)
theorem mem_ids {n : Nat} {p : Nat → Bool} {k : List Int} : k ∈ ((List.range n).filter p).map (fun k => (nd l k).id) ↔ ∃ i, i < n ∧ p i = true ∧ (nd l i).id = k := by
  rw [List.mem_map]
  refine exists_congr fun i => ?_
  rw [List.mem_filter, List.mem_range]
  exact and_assoc
theorem filtT (n : Nat) : (List.range n).filter (fun _ => true) = List.range n := List.filter_eq_self.2 (fun _ _ => rfl)
theorem leastG {P : Nat → Prop} : ∀ n, (∃ i, i < n ∧ P i) → ∃ i, i < n ∧ P i ∧ ∀ j, j < i → ¬ P j := by
  intro n
  induction n with
  | zero => rintro ⟨i, hi, _⟩; omega
  | succ n ih =>
    rintro ⟨i, hi, hp⟩
    by_cases h : ∃ i, i < n ∧ P i
    · obtain ⟨i, a, b, c⟩ := ih h
      exact ⟨i, by omega, b, c⟩
    · refine ⟨i, hi, hp, fun j hj hpj => h ⟨j, by omega, hpj⟩⟩
theorem Sub.len (h : Sub l m) : m.length ≤ l.length := by
  have := List.Nodup.length_le_of_subset (l₂ := ((List.range l.length).filter fun _ => true).map fun k => (nd l k).id) (ids_nodup h.right m.length (Nat.le_refl _) (fun _ => true)) (fun k hk => by
    obtain ⟨j, hj, _, rfl⟩ := mem_ids.1 hk
    obtain ⟨i, hi, e, _⟩ := h.at_ j hj
    exact mem_ids.2 ⟨i, hi, rfl, e.symm⟩)
  simpa [filtT] using this
/-- As long as not all are there, one may come. -/
theorem Sub.more (h : Sub l m) (hlt : m.length < l.length) (h40 : l.length ≤ 90) : ∃ i, i < l.length ∧ addE m (nd l i).id (nd l i).op = 0 := by
  obtain ⟨i, hi, hno, hle⟩ : ∃ i, i < l.length ∧ (∀ j, j < m.length → (nd m j).id ≠ (nd l i).id) ∧ ∀ i', i' < i → ¬ (∀ j, j < m.length → (nd m j).id ≠ (nd l i').id) := by
    refine leastG l.length ?_
    refine Classical.byContradiction fun hall => ?_
    have := List.Nodup.length_le_of_subset (l₂ := ((List.range m.length).filter fun _ => true).map fun k => (nd m k).id) (ids_nodup h.left l.length (Nat.le_refl _) (fun _ => true)) (fun k hk => by
      obtain ⟨i, hi, _, rfl⟩ := mem_ids.1 hk
      refine Classical.byContradiction fun hn => hall ⟨i, hi, fun j hj e => hn (mem_ids.2 ⟨j, hj, rfl, e⟩)⟩)
    simp [filtT] at this
    omega
  have hthere : ∀ i', i' < i → ∃ j, j < m.length ∧ (nd m j).id = (nd l i').id := fun i' hi' => by
    refine Classical.byContradiction fun hn => hle i' hi' fun j hj e => hn ⟨j, hj, e⟩
  refine ⟨i, hi, ?_⟩
  have hturn := right_turn h.left hi
  unfold turnB at hturn
  simp only [Bool.and_eq_true, decide_eq_true_eq, beq_iff_eq, decide_eq_decide] at hturn
  obtain ⟨hk1, hau, hsq⟩ := hturn
  have f1 := h.right
  have f2 := right_op h.left hi
  have f3 : findN m m.length (nd l i).id = none := findN_eq_none hno
  have hpar : ∀ p ∈ (nd l i).op.parents, ∀ a, findN l i p = some a → ∃ j, j < m.length ∧ findN m m.length p = some j ∧ (nd m j).id = (nd l a).id := fun p hp a ha => by
    obtain ⟨j, hj, e⟩ := hthere a (findN_lt ha)
    have hid := findN_id ha
    refine ⟨j, hj, ?_, e⟩
    rw [← hid, ← e]
    exact find_self h.right hj (Nat.le_refl _)
  have f5 : (nd l i).op.parents.all (fun p => (findN m m.length p).isSome) = true := by
    rw [List.all_eq_true]
    intro p hp
    obtain ⟨a, ha⟩ := right_par h.left hi hp
    obtain ⟨j, hj, e, _⟩ := hpar p hp a ha
    rw [e]; rfl
  have hbefore : ∀ j, j < m.length → ∀ i', i' < l.length → (nd m j).id = (nd l i').id → (nd l i').op.author = (nd l i).op.author → i' < i := fun j hj i' hi' e ea => by
    refine Classical.byContradiction fun hge => ?_
    rcases Nat.eq_or_lt_of_le (Nat.le_of_not_lt hge) with rfl | hgt
    · exact hno j hj e
    · obtain ⟨j', hj', e'⟩ := h.closed j hj i' i hi' e (author_ahead h.left hgt hi' ea.symm)
      exact hno j' hj' e'
  have hall : autA m m.length (nd l i).op.author (pastL m m.length (nd l i).op.parents) = true := by
    unfold autA at hau ⊢
    rw [List.all_eq_true] at hau ⊢
    intro j hj
    rw [List.mem_range] at hj
    by_cases ea : (nd m j).op.author = (nd l i).op.author
    · obtain ⟨i', hi', e, eo⟩ := h.at_ j hj
      have hlt' := hbefore j hj i' hi' e (by rw [← eo]; exact ea)
      have := hau i' (List.mem_range.2 hlt')
      rw [← eo] at this
      have hin : (i' : Int) ∈ (nd l i).past := by simpa [ea] using this
      rw [in_past h.left hi] at hin
      obtain ⟨p, hp, a, ha, hor⟩ := hin
      have hal := findN_lt ha
      obtain ⟨b, hb, hfb, eb⟩ := hpar p hp a ha
      have hinm : (j : Int) ∈ pastL m m.length (nd l i).op.parents := by
        rw [mem_pastL, inB_iff]
        refine ⟨hj, p, hp, b, hfb, ?_⟩
        rcases hor with rfl | hor
        · exact .inl (ids_inj h.right hb hj (eb.trans e.symm))
        · exact .inr ((h.past b hb a j i' (by omega) eb hj hi' e).2 hor)
      simp [hinm]
    · have : ((nd m j).op.author == (nd l i).op.author) = false := by simpa using ea
      simp [this]
  have hcnt : autN m m.length (nd l i).op.author = autN l i (nd l i).op.author := by
    unfold autN
    have hp := (List.perm_ext_iff_of_nodup (ids_nodup h.right m.length (Nat.le_refl _) (fun a => (nd m a).op.author == (nd l i).op.author)) (ids_nodup h.left i (by omega) (fun a => (nd l a).op.author == (nd l i).op.author))).2 (fun k => by
      rw [mem_ids, mem_ids]
      constructor
      · rintro ⟨j, hj, ea, rfl⟩
        obtain ⟨i', hi', e, eo⟩ := h.at_ j hj
        rw [beq_iff_eq] at ea
        have ea' : (nd l i').op.author = (nd l i).op.author := by rw [← eo]; exact ea
        exact ⟨i', hbefore j hj i' hi' e ea', by simp [ea'], e.symm⟩
      · rintro ⟨i', hi', ea, rfl⟩
        obtain ⟨j, hj, e⟩ := hthere i' hi'
        have eo := h.op (by omega) hj e
        exact ⟨j, hj, by rw [eo]; exact ea, e⟩)
    have := hp.length_eq
    simpa using this
  have f6 : seqOk m (nd l i).op = true := by
    have hah := (ahead_all m m.length (nd l i).op.parents (nd l i).op.author).2 hall
    unfold seqOk
    rw [hah, hcnt]
    simp only [decide_true, Bool.and_true, Bool.and_eq_true, Bool.not_eq_true', Bool.and_eq_false_iff, decide_eq_false_iff_not, decide_eq_true_eq]
    refine ⟨?_, hsq⟩
    by_cases hm0 : 0 < m.length
    · refine .inl fun hk => ?_
      have hi0 := hk1.1 hk
      have t0 := right_turn h.right hm0
      unfold turnB at t0
      simp only [Bool.and_eq_true, beq_iff_eq, decide_eq_decide] at t0
      have hk0 := t0.1.2 trivial
      obtain ⟨i', hi', e, eo⟩ := h.at_ 0 hm0
      have t1 := right_turn h.left hi'
      unfold turnB at t1
      simp only [Bool.and_eq_true, beq_iff_eq, decide_eq_decide] at t1
      have := t1.1.1 (by rw [← eo]; exact hk0)
      subst this hi0
      exact hno 0 hm0 e
    · exact .inr hm0
  unfold addE
  rw [f1, f2, f3, f5, f6, if_neg (by simp), if_neg (by simp), if_neg (by simp), if_neg (by omega), if_neg (by simp), if_neg (by simp)]
theorem Sub.nil (h : rightG l = true) : Sub l [] := ⟨h, rfl, fun j hj => by simp at hj⟩
theorem Sub.push (h : Sub l m) {i : Nat} (hi : i < l.length) (h0 : addE m (nd l i).id (nd l i).op = 0) : Sub l (m ++ [addD m (nd l i).id (nd l i).op]) := by
  refine ⟨h.left, add_rightG h0, fun j hj => ?_⟩
  rcases Nat.lt_or_ge j m.length with hjl | hjl
  · rw [nd_push hjl]
    exact h.at_ j hjl
  · have : j = m.length := by simp at hj; omega
    subst this
    rw [nd_last]
    exact ⟨i, hi, rfl, rfl⟩
theorem Sub.all (h : Sub l m) (he : m.length = l.length) : ∀ i, i < l.length → ∃ j, j < m.length ∧ (nd m j).id = (nd l i).id := fun i hi => by
  refine Classical.byContradiction fun hn => ?_
  have := List.Nodup.length_le_of_subset (l₁ := (nd l i).id :: ((List.range m.length).filter fun _ => true).map fun k => (nd m k).id) (l₂ := ((List.range l.length).filter fun _ => true).map fun k => (nd l k).id) (by
    rw [List.nodup_cons]
    exact ⟨fun hm => hn (by obtain ⟨j, hj, _, e⟩ := mem_ids.1 hm; exact ⟨j, hj, e⟩), ids_nodup h.right m.length (Nat.le_refl _) _⟩) (fun k hk => by
    rcases List.mem_cons.1 hk with rfl | hk
    · exact mem_ids.2 ⟨i, hi, rfl, rfl⟩
    · obtain ⟨j, hj, _, rfl⟩ := mem_ids.1 hk
      obtain ⟨i', hi', e, _⟩ := h.at_ j hj
      exact mem_ids.2 ⟨i', hi', rfl, e.symm⟩)
  simp [filtT] at this
  omega
theorem aheadB_nat (h : rightG l = true) {a b : Nat} (ha : a < l.length) (hb : b < l.length) : aheadB l (a : Int) (b : Int) = decide ((a : Int) ∈ (nd l b).past) := by
  rw [Bool.eq_iff_iff, ahead_iff, decide_eq_true_eq]
  constructor
  · rintro ⟨i, j, e1, e2, _, _, _, hh⟩
    obtain rfl : a = i := by omega
    obtain rfl : b = j := by omega
    exact hh
  · intro hh
    exact ⟨a, b, rfl, rfl, ha, hb, h, hh⟩
theorem Sub.ahead (h : Sub l m) (he : m.length = l.length) {a b : Nat} (ha : a < l.length) (hb : b < l.length) : aheadB l (a : Int) (b : Int) = aheadB m (findI m m.length (nd l a).id) (findI m m.length (nd l b).id) := by
  obtain ⟨ja, hja, ea⟩ := h.all he a ha
  obtain ⟨jb, hjb, eb⟩ := h.all he b hb
  unfold findI
  rw [← ea, ← eb, find_self h.right hja (Nat.le_refl _), find_self h.right hjb (Nat.le_refl _)]
  show _ = aheadB m (ja : Int) (jb : Int)
  rw [aheadB_nat h.left ha hb, aheadB_nat h.right hja hjb]
  rw [Bool.eq_iff_iff, decide_eq_true_eq, decide_eq_true_eq]
  exact (h.past jb hjb b ja a hb eb hja ha ea).symm
theorem Sub.heads (h : Sub l m) (he : m.length = l.length) : headsL l = headsL m := by
  unfold headsL
  refine sortK_of_perm ?_
  refine (List.perm_ext_iff_of_nodup (headK_nodup h.left) (headK_nodup h.right)).2 (fun k => ?_)
  unfold headK
  rw [List.mem_map, List.mem_map]
  constructor
  · rintro ⟨i, hi, rfl⟩
    rw [mem_headP] at hi
    obtain ⟨j, hj, e⟩ := h.all he i hi.1
    refine ⟨j, mem_headP.2 ⟨hj, fun j2 hj2 hm => ?_⟩, e⟩
    obtain ⟨i2, hi2, e2, _⟩ := h.at_ j2 hj2
    exact hi.2 i2 hi2 ((h.past j2 hj2 i2 j i hi2 e2 hj hi.1 e).1 hm)
  · rintro ⟨j, hj, rfl⟩
    rw [mem_headP] at hj
    obtain ⟨i, hi, e, _⟩ := h.at_ j hj.1
    refine ⟨i, mem_headP.2 ⟨hi, fun i2 hi2 hm => ?_⟩, e.symm⟩
    obtain ⟨j2, hj2, e2⟩ := h.all he i2 hi2
    exact hj.2 j2 hj2 ((h.past j2 hj2 i2 j i hi2 e2 hj.1 hi e).2 hm)
end
end
section
theorem picks_in {H : AH} {ds : List CD} {u : Value} (ho : OkL [.sl [.int .u8]] ds) (hv : ValL H ds [u]) : ∃ zs : List Int, CD.Val H (.sl (zs.map fun z => [.int .u8 z])) u ∧ (∀ z ∈ zs, 0 ≤ z ∧ z ≤ 255) ∧ zs.length ≤ maxLen := by
  obtain ⟨d, r, rfl, h1, h2⟩ := ho.cons
  obtain rfl := h2.nil
  obtain ⟨zs, rfl, h3, h4⟩ := ok_ints h1
  obtain ⟨u', r', e, h5, h6⟩ := hv.cons
  cases e
  exact ⟨zs, h5, fun z hz => wf_u8 (h3 z hz), h4⟩
theorem picks_at {H : AH} {v : Value} {zs : List Int} (h : CD.Val H (.sl (zs.map fun z => [.int .u8 z])) v) {i : Nat} (hi : i < zs.length) : ∃ p, xindexAddr Try.prog 55 v (.int .i64 (i : Nat)) = some p ∧ notTuple p = true ∧ ∀ G : AH, Low H.length H G → xload Try.prog 5 p G = some (.int .u8 (zs.getD i 0)) := by
  obtain ⟨z, hz⟩ : ∃ z, zs[i]? = some z := ⟨_, List.getElem?_eq_getElem hi⟩
  obtain ⟨j, b, us, hv, hb, hle, hx, hus, hul, hle2, hc, hval⟩ := val_at (P := Try.prog) (t := 55) (e := 5) (sz := 1) h (by kernel_rfl) (by kernel_rfl) (by omega) (fun row hr => by
    obtain ⟨y, _, rfl⟩ := List.mem_map.1 hr; rfl) (i := i) (row := [.int .u8 z]) (by rw [List.getElem?_map, hz]; rfl)
  obtain ⟨u, r, rfl, v1, n1⟩ := hval.cons
  rw [val_int v1] at hus hc
  refine ⟨_, hx, rfl, fun G hG => ?_⟩
  have hbG : hget G j = some b := (hG.1 j (hget_lt hb)).trans hb
  have e : zs.getD i 0 = z := by rw [List.getD_eq_getElem?_getD, hz]; rfl
  have hc0 := hc 0 (by omega)
  rw [e]
  have h1 : isAggD (und Try.prog 5) = false := by kernel_rfl
  have h2 : okD (und Try.prog 5) = true := by kernel_rfl
  unfold xload
  simp only [hbG, h1, h2]
  simpa using hc0
theorem mod_cover {n p i : Nat} (hi : i < n) : ∃ k, k < n ∧ (k + p) % n = i := by
  refine ⟨(i + (n - p % n)) % n, Nat.mod_lt _ (by omega), ?_⟩
  have hp := Nat.mod_lt p (show 0 < n by omega)
  rw [Nat.mod_add_mod]
  have e : i + (n - p % n) + p = i + (n - p % n + p % n) + n * (p / n) := by have := Nat.div_add_mod p n; omega
  rw [e, Nat.add_mul_mod_self_left, show n - p % n + p % n = n by omega, Nat.add_mod_right, Nat.mod_eq_of_lt hi]
/-- Nodes that came so far, where they lie. -/
structure Took (n : Nat) (H : AH) (l : List NodeD) (G : AH) (mv : Value) (m : List NodeD) : Prop where
  low : Low n H G
  nda : NdA G mv m
  sub : Sub l m
theorem Took.keep {n : Nat} {H G K : AH} {l m : List NodeD} {mv : Value} (h : Took n H l G mv m) (hk : Low G.length G K) : Took n H l K mv m :=
  ⟨⟨fun j hj => (hk.1 j (by have := h.low.2; omega)).trans (h.low.1 j hj), by have := h.low.2; have := hk.2; omega⟩, h.nda.lowG hk, h.sub⟩
attribute [local simp] wb_bool wb_undef with_lit XL_nil XL_cons XLc_val XLc_call step1_eq stepW_t stepW_f stepC_n stepC_s stepX_s stepX_n stepN_s calleeX oneV xop_eq xopR_s xopR_n wantedA_eq wantedG_n wantedG_s plain1_int plain1_bool plain1_string bits_i64 bits_u64 bits_u32 bits_u16 bits_u8 xeqA xagg xcmp xarr allK_iv num_iv calleeOf xread xeff xbin xint xnil xun xstr xload xconv xpart xfield xfieldAddr xindexAddr xindex bnd asInt? xslice xlen xmin xmax xbuild xfill xappend xapp2 xappstr xappmk xcap xcopy xcells eval_tmp eval_const put_at put_none fr0_at cells_agg cells_int cells_bool cells_string cells_ptr cells_slice notTuple tab iv_all hget_app hget_app0 hget_cons0 hget_cons set_app set_app0 setR setR_one QL_nil QL_cons QLc_val stepQ_t stepQ_f stepQC_n stepQC_s stepQX_s SL_nil SL_cons SLc_val stepS_t stepS_f ltT ltF leT leF eqT eqF ltTn ltFn leTn leFn eqTn eqFn beqT beqF bneT bneF wi64 wu64 wu32 wu16 wu8 tmodP tdivP hgetL hgetNe hgetEq setL nums_def nums_len Nat.succ_le_of_lt List.getElem?_cons_zero List.getElem?_cons_succ Option.getD_some Int.toNat_add Int.toNat_mul agM okM agB agI agS agP agL agA okB okI okS okP okSl okA
theorem shuffled_law {γ : Nat → Option Nat} {H : AH} {ds dp : List CD} {u pv : Value} (ho : OkL [.sl nodeK] ds) (hv : ValL H ds [u]) (hop : OkL [.sl [.int .u8]] dp) (hvp : ValL H dp [pv]) : AC Try.prog H.length γ 6 #[u, pv] H (fun v' _ => v' = .bool true) := by
  obtain ⟨l, hV, hw, hm⟩ := nodes_in ho hv
  obtain ⟨zs, hP, hz, hzm⟩ := picks_in hop hvp
  have hN := hV.nda hw
  have hN' := hN
  have al := alive_rc (γ := γ) (H := H)
  have gr := greatG_rc (γ := γ) hN
  have rr := graph_right_rc (γ := γ) hN
  obtain ⟨v1, v2⟩ := val_nt hV
  obtain ⟨w1, w2⟩ := val_nt hP
  have hxl := hN.len
  have hxp := val_len (P := Try.prog) (t := 55) (e := 5) hP (by kernel_rfl)
  rw [List.length_map] at hxp
  refine ac_of_aw Try.func6 rfl Try.ntmps6 Try.results6 (by simp) ?_
  refine aw_seq ?_
  (refine aw_ops (by kernel_rfl) (fun K hK => ?_); simp (disch := first | omega | (simp only [lnS]; try omega; done)) [-getElem?_pos, -getElem?_neg]; refine hK _ _ ?_; clear hK K)
  refine aw_seq ?_
  refine aw_seq ?_
  refine aw_ops (by kernel_rfl) (fun K hK => ?_)
  simp (disch := first | omega | (simp only [lnS]; try omega; done)) [-getElem?_pos, -getElem?_neg]
  refine ⟨by kernel_rfl, ac_of_rc al (by simp [pv_iv, pv_int, pv_bool, pv_string, pv_tup2, pv_tup3, iv_plain, p2_int, p2_bool, p2_string]) ?_⟩
  try simp (disch := first | omega | (simp only [lnS]; try omega; done)) [-getElem?_pos, -getElem?_neg]
  refine hK _ _ ?_; clear hK K
  refine aw_f (by (first | (simp [eval_tmp, put_at]; done) | (simp [eval_tmp, put_at]; omega))) (by kernel_rfl) ?_
  refine aw_skip ?_
  refine aw_seq ?_
  refine aw_seq ?_
  refine aw_cut (fun α G => α 28 = .bool (greatG l || (decide (40 < l.length) || !rightG l)) ∧ α 0 = u ∧ α 1 = pv ∧ G = H) ?_ ?_
  · refine aw_ops (by kernel_rfl) (fun K hK => ?_)
    simp (disch := first | omega | (simp only [lnS]; try omega; done)) [-getElem?_pos, -getElem?_neg, -notTuple, v1, v2, nt_intG]
    refine ⟨by kernel_rfl, ac_of_rc gr (by simp [pv_iv, pv_int, pv_bool, pv_string, pv_tup2, pv_tup3, iv_plain, p2_int, p2_bool, p2_string]) ?_⟩
    cases hg : greatG l with
    | true =>
      try simp (disch := first | omega | (simp only [lnS]; try omega; done)) [-getElem?_pos, -getElem?_neg]
      refine hK _ _ ?_; clear hK K
      exact ⟨by rw [hg]; (first | (simp [put_at, put_none, fr0_at]; done) | rfl), by (first | (simp [put_at, put_none, fr0_at]; done) | rfl), by (first | (simp [put_at, put_none, fr0_at]; done) | rfl), rfl⟩
    | false =>
      by_cases h40 : 40 < l.length
      · try simp (disch := first | omega | (simp only [lnS]; try omega; done)) [-getElem?_pos, -getElem?_neg, -notTuple, v1, v2, nt_intG, -xlen, hxl, h40]
        refine hK _ _ ?_; clear hK K
        exact ⟨by rw [hg]; simp [h40, put_at], by (first | (simp [put_at, put_none, fr0_at]; done) | rfl), by (first | (simp [put_at, put_none, fr0_at]; done) | rfl), rfl⟩
      · try simp (disch := first | omega | (simp only [lnS]; try omega; done)) [-getElem?_pos, -getElem?_neg, -notTuple, v1, v2, nt_intG, -xlen, hxl, h40]
        refine ⟨by kernel_rfl, ac_of_rc rr (by simp [pv_iv, pv_int, pv_bool, pv_string, pv_tup2, pv_tup3, iv_plain, p2_int, p2_bool, p2_string]) ?_⟩
        cases hr : rightG l with
        | true =>
          try simp (disch := first | omega | (simp only [lnS]; try omega; done)) [-getElem?_pos, -getElem?_neg]
          refine hK _ _ ?_; clear hK K
          exact ⟨by rw [hg, hr]; simp [h40, put_at], by (first | (simp [put_at, put_none, fr0_at]; done) | rfl), by (first | (simp [put_at, put_none, fr0_at]; done) | rfl), rfl⟩
        | false =>
          try simp (disch := first | omega | (simp only [lnS]; try omega; done)) [-getElem?_pos, -getElem?_neg]
          refine hK _ _ ?_; clear hK K
          exact ⟨by rw [hg, hr]; simp [h40, put_at], by (first | (simp [put_at, put_none, fr0_at]; done) | rfl), by (first | (simp [put_at, put_none, fr0_at]; done) | rfl), rfl⟩
  rintro α G ⟨q28, q0, q1, rfl⟩
  cases hb : (greatG l || (decide (40 < l.length) || !rightG l)) with
  | true =>
    rw [hb] at q28
    refine aw_t (by (first | (simp [eval_tmp, put_at, q28]; done) | (simp [eval_tmp, put_at, q28]; omega))) (by kernel_rfl) ?_
    refine aw_seq ?_
    refine aw_ops (by kernel_rfl) (fun K hK => ?_)
    simp (disch := first | omega | (simp only [lnS]; try omega; done)) [-getElem?_pos, -getElem?_neg]
    refine ⟨by kernel_rfl, ac_of_rc al (by simp [pv_iv, pv_int, pv_bool, pv_string, pv_tup2, pv_tup3, iv_plain, p2_int, p2_bool, p2_string]) ?_⟩
    try simp (disch := first | omega | (simp only [lnS]; try omega; done)) [-getElem?_pos, -getElem?_neg]
    refine hK _ _ ?_; clear hK K
    (refine aw_ret ?_; simp (disch := first | omega | (simp only [lnS]; try omega; done)) [-getElem?_pos, -getElem?_neg, thenQ_ret, scopeQ_ret, inBlockQ_ret, RQ, resL, resV])
  | false =>
  rw [hb] at q28
  refine aw_f (by (first | (simp [eval_tmp, put_at, q28]; done) | (simp [eval_tmp, put_at, q28]; omega))) (by kernel_rfl) ?_
  refine aw_skip ?_
  simp only [Bool.or_eq_false_iff, decide_eq_false_iff_not, Bool.not_eq_false'] at hb
  obtain ⟨hg, h40, hr⟩ := hb
  have h40 : l.length ≤ 40 := by omega
  obtain ⟨n, hn⟩ : ∃ n, n = G.length := ⟨_, rfl⟩
  rw [← hn]
  refine aw_seq ?_
  (refine aw_ops (by kernel_rfl) (fun K hK => ?_); simp (disch := first | omega | (simp only [lnS]; try omega; done)) [-getElem?_pos, -getElem?_neg]; refine hK _ _ ?_; clear hK K)
  refine aw_seq ?_
  refine aw_seq ?_
  (refine aw_ops (by kernel_rfl) (fun K hK => ?_); simp (disch := first | omega | (simp only [lnS]; try omega; done)) [-getElem?_pos, -getElem?_neg]; refine hK _ _ ?_; clear hK K)
  refine aw_block ?_
  refine aw_loop (fun c α G2 => ∃ (mv : Value) (m : List NodeD), m.length + c = l.length ∧ α 0 = u ∧ α 1 = pv ∧ α 5 = mv ∧ α 6 = .int .i64 (m.length : Nat) ∧ Took n G l G2 mv m) l.length ?_ ?_
  · exact ⟨.slice none 0 0, [], by simp, by (first | (simp [put_at, put_none, fr0_at, q0]; done) | rfl), by (first | (simp [put_at, put_none, fr0_at, q1]; done) | rfl), by (first | (simp [put_at, put_none, fr0_at]; done) | rfl), by (first | (simp [put_at, put_none, fr0_at]; done) | rfl), ⟨by rw [hn]; exact Low.refl (Nat.le_refl _), nil_nda _, Sub.nil hr⟩⟩
  clear q0 q1 q28
  rintro c α G2 ⟨mv, m, hmc, q0, q1, q5, q6, hT⟩
  have m1 := hT.nda.nt
  have m2 := hT.nda.cs
  have hxm := hT.nda.len
  refine aw_seq ?_
  refine aw_seq ?_
  by_cases hml : m.length < l.length
  case neg =>
    have he : m.length = l.length := by omega
    (refine aw_ops (by kernel_rfl) (fun K hK => ?_); simp (disch := first | omega | (simp only [lnS]; try omega; done)) [-getElem?_pos, -getElem?_neg, q0, q5, -notTuple, v1, v2, m1, m2, nt_intG, -xlen, hxl, hxm, hml]; refine hK _ _ ?_; clear hK K)
    refine aw_f (by (first | (simp [eval_tmp, put_at, hml]; done) | (simp [eval_tmp, put_at, hml]; omega))) (by kernel_rfl) ?_
    refine aw_exit ?_
    have hNG : NdA G2 u l := hN.lowG (hn ▸ hT.low)
    have hNM := hT.nda
    have hm40 : m.length ≤ maxLen := by simp only [maxLen]; omega
    have hwm := hNM.wf
    refine aw_seq ?_
    refine aw_seq ?_
    (refine aw_ops (by kernel_rfl) (fun K hK => ?_); simp (disch := first | omega | (simp only [lnS]; try omega; done)) [-getElem?_pos, -getElem?_neg]; refine hK _ _ ?_; clear hK K)
    refine aw_block ?_
    refine aw_loop (fun c α G3 => ∃ a : Nat, a + c = l.length ∧ α 0 = u ∧ α 5 = mv ∧ α 13 = .int .i64 (a : Nat) ∧ G3 = G2) l.length ?_ ?_
    · exact ⟨0, by omega, by (first | (simp [put_at, put_none, fr0_at, q0]; done) | rfl), by (first | (simp [put_at, put_none, fr0_at, q5]; done) | rfl), by (first | (simp [put_at, put_none, fr0_at]; done) | rfl), rfl⟩
    clear q0 q1 q5 q6
    rintro c2 α G3 ⟨a, hac, q0, q5, q13, rfl⟩
    refine aw_seq ?_
    refine aw_seq ?_
    by_cases ha : a < l.length
    case neg =>
      (refine aw_ops (by kernel_rfl) (fun K hK => ?_); simp (disch := first | omega | (simp only [lnS]; try omega; done)) [-getElem?_pos, -getElem?_neg, q0, q13, -notTuple, v1, v2, nt_intG, -xlen, hxl, ha]; refine hK _ _ ?_; clear hK K)
      refine aw_f (by (first | (simp [eval_tmp, put_at, ha]; done) | (simp [eval_tmp, put_at, ha]; omega))) (by kernel_rfl) ?_
      refine aw_exit ?_
      have al2 := alive_rc (γ := γ) (H := G3)
      have hh1 := heads_rc (γ := γ) hNG
      refine aw_seq ?_
      refine aw_ops (by kernel_rfl) (fun K hK => ?_)
      simp (disch := first | omega | (simp only [lnS]; try omega; done)) [-getElem?_pos, -getElem?_neg]
      refine ⟨by kernel_rfl, ac_of_rc al2 (by simp [pv_iv, pv_int, pv_bool, pv_string, pv_tup2, pv_tup3, iv_plain, p2_int, p2_bool, p2_string]) ?_⟩
      simp (disch := first | omega | (simp only [lnS]; try omega; done)) [-getElem?_pos, -getElem?_neg, q0, -notTuple, v1, v2]
      refine ⟨by kernel_rfl, (hh1.thaw (nro := n) (fun v G' h => ⟨h.1.2, h.1.1⟩)).mono ?_⟩
      rintro hv1 G4 ⟨low1, ⟨_, F1, ho1, hF1⟩ | ⟨hbad, _⟩⟩
      case inr => rw [hr] at hbad; cases hbad
      obtain ⟨h11, h12⟩ := own_nt ho1
      have hkl : K32 (headsL l) := fun k hk => by
        obtain ⟨a, ha, rfl⟩ := mem_headsL.1 hk
        exact (hw _ (List.mem_of_getElem? (nd_get (mem_headP.1 ha).1))).id.1
      have hT4 := hT.keep low1
      have hh2 := heads_rc (γ := γ) hT4.nda
      simp (disch := first | omega | (simp only [lnS]; try omega; done)) [-getElem?_pos, -getElem?_neg, q5, -notTuple, m1, m2, h11, h12]
      refine ⟨by kernel_rfl, (hh2.thaw (nro := n) (fun v G' h => ⟨h.1.2, h.1.1⟩)).mono ?_⟩
      rintro hv2 G5 ⟨low2, ⟨_, F2, ho2, hF2⟩ | ⟨hbad, _⟩⟩
      case inr => rw [hT.sub.right] at hbad; cases hbad
      obtain ⟨h21, h22⟩ := own_nt ho2
      rw [← hT.sub.heads he] at ho2
      have ho1' := ho1.low (H' := G5) (fun j hj => low2.1 j (ho1.lt j hj))
      have hsk := sameKeys_rc (γ := γ) (kr_ksv ho1' hkl) (kr_ksv ho2 hkl) hkl hkl (by have := headP_len hr; rw [← headsL_len] at this; simp only [maxLen]; omega)
      try simp (disch := first | omega | (simp only [lnS]; try omega; done)) [-getElem?_pos, -getElem?_neg, -notTuple, h11, h12, h21, h22]
      refine ⟨by kernel_rfl, ac_of_rc hsk (by simp [pv_iv, pv_int, pv_bool, pv_string, pv_tup2, pv_tup3, iv_plain, p2_int, p2_bool, p2_string]) ?_⟩
      try simp (disch := first | omega | (simp only [lnS]; try omega; done)) [-getElem?_pos, -getElem?_neg]
      refine hK _ _ ?_; clear hK K
      (refine aw_ret ?_; simp (disch := first | omega | (simp only [lnS]; try omega; done)) [-getElem?_pos, -getElem?_neg, thenQ_ret, scopeQ_ret, inBlockQ_ret, RQ, resL, resV])
    (refine aw_ops (by kernel_rfl) (fun K hK => ?_); simp (disch := first | omega | (simp only [lnS]; try omega; done)) [-getElem?_pos, -getElem?_neg, q0, q13, -notTuple, v1, v2, nt_intG, -xlen, hxl, ha]; refine hK _ _ ?_; clear hK K)
    refine aw_t (by (first | (simp [eval_tmp, put_at, ha]; done) | (simp [eval_tmp, put_at, ha]; omega))) (by kernel_rfl) ?_
    refine aw_skip ?_
    refine aw_seq ?_
    refine aw_block ?_
    refine aw_seq ?_
    (refine aw_ops (by kernel_rfl) (fun K hK => ?_); simp (disch := first | omega | (simp only [lnS]; try omega; done)) [-getElem?_pos, -getElem?_neg]; refine hK _ _ ?_; clear hK K)
    refine aw_block ?_
    refine aw_loop (fun c3 α G2 => ∃ b : Nat, b + c3 = l.length ∧ α 0 = u ∧ α 5 = mv ∧ α 13 = .int .i64 (a : Nat) ∧ α 14 = .int .i64 (b : Nat) ∧ G2 = G3) l.length ?_ ?_
    · exact ⟨0, by omega, by (first | (simp [put_at, put_none, fr0_at, q0]; done) | rfl), by (first | (simp [put_at, put_none, fr0_at, q5]; done) | rfl), by (first | (simp [put_at, put_none, fr0_at, q13]; done) | rfl), by (first | (simp [put_at, put_none, fr0_at]; done) | rfl), rfl⟩
    clear q0 q5 q13
    rintro c3 α G4 ⟨b, hbc, q0, q5, q13, q14, rfl⟩
    refine aw_seq ?_
    refine aw_seq ?_
    by_cases hbl : b < l.length
    case neg =>
      (refine aw_ops (by kernel_rfl) (fun K hK => ?_); simp (disch := first | omega | (simp only [lnS]; try omega; done)) [-getElem?_pos, -getElem?_neg, q0, q14, -notTuple, v1, v2, nt_intG, -xlen, hxl, hbl]; refine hK _ _ ?_; clear hK K)
      refine aw_f (by (first | (simp [eval_tmp, put_at, hbl]; done) | (simp [eval_tmp, put_at, hbl]; omega))) (by kernel_rfl) ?_
      refine aw_exit ?_
      (refine aw_ops (by kernel_rfl) (fun K hK => ?_); simp (disch := first | omega | (simp only [lnS]; try omega; done)) [-getElem?_pos, -getElem?_neg, q13]; refine hK _ _ ?_; clear hK K)
      exact ⟨c2 - 1, by omega, a + 1, by omega, by (first | (simp [put_at, put_none, fr0_at, q0]; done) | rfl), by (first | (simp [put_at, put_none, fr0_at, q5]; done) | rfl), by (first | (simp [put_at, put_none, fr0_at]; done) | rfl), rfl⟩
    obtain ⟨ja, qa, ba, ua, pa1, pa2, pa3, pa4, hxa, hba, hqa, hca, hua, hCa⟩ := hNG.at_ a _ (nd_get ha)
    obtain ⟨jb, qb, bb, ub, pb1, pb2, pb3, pb4, hxb, hbb, hqb, hcb, hub, hCb⟩ := hNG.at_ b _ (nd_get hbl)
    have hia : (ba.cells.drop qa).take 32 = iv .u8 (nd l a).id := by
      have := hCa.id
      rw [hua, List.take_take] at this
      simpa using this
    have hib : (bb.cells.drop qb).take 32 = iv .u8 (nd l b).id := by
      have := hCb.id
      rw [hub, List.take_take] at this
      simpa using this
    have ka := (hw _ (List.mem_of_getElem? (nd_get ha))).id.1
    have kb := (hw _ (List.mem_of_getElem? (nd_get hbl))).id.1
    have hah := hT.sub.ahead he ha hbl
    (refine aw_ops (by kernel_rfl) (fun K hK => ?_); simp (disch := first | omega | (simp only [lnS]; try omega; done)) [-getElem?_pos, -getElem?_neg, q0, q14, -notTuple, v1, v2, nt_intG, -xlen, hxl, hbl]; refine hK _ _ ?_; clear hK K)
    refine aw_t (by (first | (simp [eval_tmp, put_at, hbl]; done) | (simp [eval_tmp, put_at, hbl]; omega))) (by kernel_rfl) ?_
    refine aw_skip ?_
    refine aw_seq ?_
    refine aw_block ?_
    refine aw_seq ?_
    (refine aw_plan [] [] [0, 1, 2, 3, 4, 5, 6, 7, 8, 9, 10, 11, 12, 13, 14, 15, 16, 17, 18, 19, 20] 21 0 (by kernel_rfl) (by kernel_rfl) (by kernel_rfl) (fun K hK => ?_)); simp only [sel, List.getElem?_cons_succ, List.getElem?_cons_zero, List.drop_succ_cons, List.drop_zero]; simp (disch := first | omega | (simp only [lnS]; try omega; done)) [-getElem?_pos, -getElem?_neg, q0, q5, q13, q14, -notTuple, v1, v2, m1, m2, nt_intG, nt_aggG, nt_ptrG, -xindexAddr, hxa, hxb, hba, hbb, hia, hib, hqa, hqb, iv_length, ka, kb, PL_nil, plainB_lit, PL_cons, PLc_val, PLc_new, stepP_t, stepP_f, stepPC_n, stepPC_s, stepPX_s, stepPX_n, stepPV_n, stepPV_s, stepPA_t, stepPA_c, stepPA_l, stepPN_s, allocOp, reloc_sl, reloc_ptr, List.map_cons, List.map_nil, List.nil_append, List.append_assoc, List.cons_append, Nat.add_assoc]
    refine PLc_call (v := .bool (aheadB l a b)) (by kernel_rfl) (fun L hL => ahead_rc (hNG.lowG (Low.push (Nat.le_refl _) L)) a b) (by simp [pv_iv, pv_int, pv_bool, pv_string, pv_tup2, pv_tup3, iv_plain, p2_int, p2_bool, p2_string]) ?_
    simp (disch := first | omega | (simp only [lnS]; try omega; done)) [-getElem?_pos, -getElem?_neg, q0, q5, q13, q14, -notTuple, v1, v2, m1, m2, nt_intG, nt_aggG, nt_ptrG, -xindexAddr, hxa, hxb, hba, hbb, hia, hib, hqa, hqb, iv_length, ka, kb, PL_nil, plainB_lit, PL_cons, PLc_val, PLc_new, stepP_t, stepP_f, stepPC_n, stepPC_s, stepPX_s, stepPX_n, stepPV_n, stepPV_s, stepPA_t, stepPA_c, stepPA_l, stepPN_s, allocOp, reloc_sl, reloc_ptr, List.map_cons, List.map_nil, List.nil_append, List.append_assoc, List.cons_append, Nat.add_assoc]
    refine PLc_call (v := .int .i64 (findI m m.length (nd l a).id)) (by kernel_rfl) (fun L hL => find_rc (hNM.lowG (Low.push (Nat.le_refl _) L)) hm40 ka) (by simp [pv_iv, pv_int, pv_bool, pv_string, pv_tup2, pv_tup3, iv_plain, p2_int, p2_bool, p2_string]) ?_
    simp (disch := first | omega | (simp only [lnS]; try omega; done)) [-getElem?_pos, -getElem?_neg, q0, q5, q13, q14, -notTuple, v1, v2, m1, m2, nt_intG, nt_aggG, nt_ptrG, -xindexAddr, hxa, hxb, hba, hbb, hia, hib, hqa, hqb, iv_length, ka, kb, PL_nil, plainB_lit, PL_cons, PLc_val, PLc_new, stepP_t, stepP_f, stepPC_n, stepPC_s, stepPX_s, stepPX_n, stepPV_n, stepPV_s, stepPA_t, stepPA_c, stepPA_l, stepPN_s, allocOp, reloc_sl, reloc_ptr, List.map_cons, List.map_nil, List.nil_append, List.append_assoc, List.cons_append, Nat.add_assoc]
    refine PLc_call (v := .int .i64 (findI m m.length (nd l b).id)) (by kernel_rfl) (fun L hL => find_rc (hNM.lowG (Low.push (Nat.le_refl _) L)) hm40 kb) (by simp [pv_iv, pv_int, pv_bool, pv_string, pv_tup2, pv_tup3, iv_plain, p2_int, p2_bool, p2_string]) ?_
    simp (disch := first | omega | (simp only [lnS]; try omega; done)) [-getElem?_pos, -getElem?_neg, q0, q5, q13, q14, -notTuple, v1, v2, m1, m2, nt_intG, nt_aggG, nt_ptrG, -xindexAddr, hxa, hxb, hba, hbb, hia, hib, hqa, hqb, iv_length, ka, kb, PL_nil, plainB_lit, PL_cons, PLc_val, PLc_new, stepP_t, stepP_f, stepPC_n, stepPC_s, stepPX_s, stepPX_n, stepPV_n, stepPV_s, stepPA_t, stepPA_c, stepPA_l, stepPN_s, allocOp, reloc_sl, reloc_ptr, List.map_cons, List.map_nil, List.nil_append, List.append_assoc, List.cons_append, Nat.add_assoc]
    refine PLc_call (v := .bool (aheadB l a b)) (by kernel_rfl) (fun L hL => by rw [hah]; exact ahead_rc (hNM.lowG (Low.push (Nat.le_refl _) L)) _ _) (by simp [pv_iv, pv_int, pv_bool, pv_string, pv_tup2, pv_tup3, iv_plain, p2_int, p2_bool, p2_string]) ?_
    simp (disch := first | omega | (simp only [lnS]; try omega; done)) [-getElem?_pos, -getElem?_neg, q0, q5, q13, q14, -notTuple, v1, v2, m1, m2, nt_intG, nt_aggG, nt_ptrG, -xindexAddr, hxa, hxb, hba, hbb, hia, hib, hqa, hqb, iv_length, ka, kb, PL_nil, plainB_lit, PL_cons, PLc_val, PLc_new, stepP_t, stepP_f, stepPC_n, stepPC_s, stepPX_s, stepPX_n, stepPV_n, stepPV_s, stepPA_t, stepPA_c, stepPA_l, stepPN_s, allocOp, reloc_sl, reloc_ptr, List.map_cons, List.map_nil, List.nil_append, List.append_assoc, List.cons_append, Nat.add_assoc]
    refine hK _ _ ?_; clear hK K
    refine aw_f (by (first | (simp [eval_tmp, put_at]; done) | (simp [eval_tmp, put_at]; omega))) (by kernel_rfl) ?_
    refine aw_skip ?_
    (refine aw_ops (by kernel_rfl) (fun K hK => ?_); simp (disch := first | omega | (simp only [lnS]; try omega; done)) [-getElem?_pos, -getElem?_neg, q14]; refine hK _ _ ?_; clear hK K)
    exact ⟨c3 - 1, by omega, b + 1, by omega, by (first | (simp [put_at, put_none, fr0_at, q0]; done) | rfl), by (first | (simp [put_at, put_none, fr0_at, q5]; done) | rfl), by (first | (simp [put_at, put_none, fr0_at, q13]; done) | rfl), by (first | (simp [put_at, put_none, fr0_at]; done) | rfl), rfl⟩
  (refine aw_ops (by kernel_rfl) (fun K hK => ?_); simp (disch := first | omega | (simp only [lnS]; try omega; done)) [-getElem?_pos, -getElem?_neg, q0, q5, -notTuple, v1, v2, m1, m2, nt_intG, -xlen, hxl, hxm, hml]; refine hK _ _ ?_; clear hK K)
  refine aw_t (by (first | (simp [eval_tmp, put_at, hml]; done) | (simp [eval_tmp, put_at, hml]; omega))) (by kernel_rfl) ?_
  refine aw_skip ?_
  refine aw_seq ?_
  refine aw_block ?_
  refine aw_seq ?_
  (refine aw_ops (by kernel_rfl) (fun K hK => ?_); simp (disch := first | omega | (simp only [lnS]; try omega; done)) [-getElem?_pos, -getElem?_neg]; refine hK _ _ ?_; clear hK K)
  refine aw_seq ?_
  refine aw_cut (fun α G3 => ∃ p : Nat, p ≤ 255 ∧ α 7 = .int .i64 (p : Nat) ∧ α 0 = u ∧ α 1 = pv ∧ α 5 = mv ∧ α 6 = .int .i64 (m.length : Nat) ∧ G3 = G2) ?_ ?_
  · refine aw_seq ?_
    by_cases hi : m.length < zs.length
    · obtain ⟨p, p1, p2, p3⟩ := picks_at hP hi
      have hzb := hz (zs.getD m.length 0) (by rw [List.getD_eq_getElem?_getD, List.getElem?_eq_getElem hi]; exact List.getElem_mem hi)
      have p3 := p3 G2 (hn ▸ hT.low)
      generalize zs.getD m.length 0 = z at *
      have hzn : z = ((z.toNat : Nat) : Int) := by omega
      have hzc : IntKind.i64.wrap z = z := wi64 (by omega)
      (refine aw_ops (by kernel_rfl) (fun K hK => ?_); simp (disch := first | omega | (simp only [lnS]; try omega; done)) [-getElem?_pos, -getElem?_neg, q1, q6, -notTuple, w1, w2, nt_intG, -xlen, hxp, hi]; refine hK _ _ ?_; clear hK K)
      refine aw_t (by (first | (simp [eval_tmp, put_at, hi]; done) | (simp [eval_tmp, put_at, hi]; omega))) (by kernel_rfl) ?_
      (refine aw_ops (by kernel_rfl) (fun K hK => ?_); simp (disch := first | omega | (simp only [lnS]; try omega; done)) [-getElem?_pos, -getElem?_neg, q1, q6, -notTuple, w1, w2, p2, nt_intG, -xindexAddr, p1, -xload, p3]; refine hK _ _ ?_; clear hK K)
      exact ⟨z.toNat, by omega, by rw [← hzn]; (first | (simp [put_at, put_none, fr0_at]; done) | rfl), by (first | (simp [put_at, put_none, fr0_at, q0]; done) | rfl), by (first | (simp [put_at, put_none, fr0_at, q1]; done) | rfl), by (first | (simp [put_at, put_none, fr0_at, q5]; done) | rfl), by (first | (simp [put_at, put_none, fr0_at, q6]; done) | rfl), rfl⟩
    · (refine aw_ops (by kernel_rfl) (fun K hK => ?_); simp (disch := first | omega | (simp only [lnS]; try omega; done)) [-getElem?_pos, -getElem?_neg, q1, q6, -notTuple, w1, w2, nt_intG, -xlen, hxp, hi]; refine hK _ _ ?_; clear hK K)
      refine aw_f (by (first | (simp [eval_tmp, put_at, hi]; done) | (simp [eval_tmp, put_at, hi]; omega))) (by kernel_rfl) ?_
      refine aw_skip ?_
      exact ⟨0, by omega, by (first | (simp [put_at, put_none, fr0_at]; done) | rfl), by (first | (simp [put_at, put_none, fr0_at, q0]; done) | rfl), by (first | (simp [put_at, put_none, fr0_at, q1]; done) | rfl), by (first | (simp [put_at, put_none, fr0_at, q5]; done) | rfl), by (first | (simp [put_at, put_none, fr0_at, q6]; done) | rfl), rfl⟩
  clear q0 q1 q5 q6
  rintro α G3 ⟨p, hp, q7, q0, q1, q5, q6, rfl⟩
  refine aw_seq ?_
  (refine aw_ops (by kernel_rfl) (fun K hK => ?_); simp (disch := first | omega | (simp only [lnS]; try omega; done)) [-getElem?_pos, -getElem?_neg]; refine hK _ _ ?_; clear hK K)
  refine aw_seq ?_
  refine aw_seq ?_
  (refine aw_ops (by kernel_rfl) (fun K hK => ?_); simp (disch := first | omega | (simp only [lnS]; try omega; done)) [-getElem?_pos, -getElem?_neg]; refine hK _ _ ?_; clear hK K)
  refine aw_block ?_
  refine aw_loop (fun c2 α G2 => ∃ (k : Nat) (mv' : Value) (m' : List NodeD) (took : Bool), k + c2 = l.length + 1 ∧ k ≤ l.length ∧ α 0 = u ∧ α 1 = pv ∧ α 5 = mv' ∧ α 6 = .int .i64 (m.length : Nat) ∧ α 7 = .int .i64 (p : Nat) ∧ α 8 = .bool took ∧ α 9 = .int .i64 (k : Nat) ∧ Took n G l G2 mv' m' ∧ (took = false → m' = m ∧ ∀ k', k' < k → addE m (nd l ((k' + p) % l.length)).id (nd l ((k' + p) % l.length)).op ≠ 0) ∧ (took = true → m'.length = m.length + 1)) (l.length + 1) ?_ ?_
  · exact ⟨0, mv, m, false, by omega, by omega, by (first | (simp [put_at, put_none, fr0_at, q0]; done) | rfl), by (first | (simp [put_at, put_none, fr0_at, q1]; done) | rfl), by (first | (simp [put_at, put_none, fr0_at, q5]; done) | rfl), by (first | (simp [put_at, put_none, fr0_at, q6]; done) | rfl), by (first | (simp [put_at, put_none, fr0_at, q7]; done) | rfl), by (first | (simp [put_at, put_none, fr0_at]; done) | rfl), by (first | (simp [put_at, put_none, fr0_at]; done) | rfl), hT, fun _ => ⟨rfl, fun k' hk' => by omega⟩, fun h => by cases h⟩
  clear q0 q1 q5 q6 q7 hT m1 m2 hxm
  rintro c2 α G2 ⟨k, mv', m', took, hkc, hkl, q0, q1, q5, q6, q7, q8, q9, hT, hfalse, htrue⟩
  have m1 := hT.nda.nt
  have m2 := hT.nda.cs
  refine aw_seq ?_
  refine aw_seq ?_
  cases took with
  | true =>
    have hlen := htrue rfl
    have hcond : ∃ b : Bool, decide (k < l.length) = b := ⟨_, rfl⟩
    refine aw_cut (fun α2 G3 => α2 53 = .bool false ∧ α2 0 = u ∧ α2 1 = pv ∧ α2 5 = mv' ∧ α2 6 = .int .i64 (m.length : Nat) ∧ α2 8 = .bool true ∧ G3 = G2) ?_ ?_
    · by_cases hk : k < l.length
      · (refine aw_ops (by kernel_rfl) (fun K hK => ?_); simp (disch := first | omega | (simp only [lnS]; try omega; done)) [-getElem?_pos, -getElem?_neg, q0, q8, q9, -notTuple, v1, v2, nt_intG, -xlen, hxl, hk]; refine hK _ _ ?_; clear hK K)
        exact ⟨by (first | (simp [put_at, put_none, fr0_at]; done) | rfl), by (first | (simp [put_at, put_none, fr0_at, q0]; done) | rfl), by (first | (simp [put_at, put_none, fr0_at, q1]; done) | rfl), by (first | (simp [put_at, put_none, fr0_at, q5]; done) | rfl), by (first | (simp [put_at, put_none, fr0_at, q6]; done) | rfl), by (first | (simp [put_at, put_none, fr0_at, q8]; done) | rfl), rfl⟩
      · (refine aw_ops (by kernel_rfl) (fun K hK => ?_); simp (disch := first | omega | (simp only [lnS]; try omega; done)) [-getElem?_pos, -getElem?_neg, q0, q8, q9, -notTuple, v1, v2, nt_intG, -xlen, hxl, hk]; refine hK _ _ ?_; clear hK K)
        exact ⟨by (first | (simp [put_at, put_none, fr0_at]; done) | rfl), by (first | (simp [put_at, put_none, fr0_at, q0]; done) | rfl), by (first | (simp [put_at, put_none, fr0_at, q1]; done) | rfl), by (first | (simp [put_at, put_none, fr0_at, q5]; done) | rfl), by (first | (simp [put_at, put_none, fr0_at, q6]; done) | rfl), by (first | (simp [put_at, put_none, fr0_at, q8]; done) | rfl), rfl⟩
    clear q0 q1 q5 q6 q8
    rintro α G3 ⟨q53, q0, q1, q5, q6, q8, rfl⟩
    refine aw_f (by (first | (simp [eval_tmp, put_at, q53]; done) | (simp [eval_tmp, put_at, q53]; omega))) (by kernel_rfl) ?_
    refine aw_exit ?_
    refine aw_seq ?_
    (refine aw_ops (by kernel_rfl) (fun K hK => ?_); simp (disch := first | omega | (simp only [lnS]; try omega; done)) [-getElem?_pos, -getElem?_neg, q8]; refine hK _ _ ?_; clear hK K)
    refine aw_f (by (first | (simp [eval_tmp, put_at]; done) | (simp [eval_tmp, put_at]; omega))) (by kernel_rfl) ?_
    refine aw_skip ?_
    have hsl := hT.sub.len
    (refine aw_ops (by kernel_rfl) (fun K hK => ?_); simp (disch := first | omega | (simp only [lnS]; try omega; done)) [-getElem?_pos, -getElem?_neg, q6]; refine hK _ _ ?_; clear hK K)
    exact ⟨c - 1, by omega, mv', m', by omega, by (first | (simp [put_at, put_none, fr0_at, q0]; done) | rfl), by (first | (simp [put_at, put_none, fr0_at, q1]; done) | rfl), by (first | (simp [put_at, put_none, fr0_at, q5]; done) | rfl), by rw [hlen]; (first | (simp [put_at, put_none, fr0_at]; done) | rfl), hT⟩
  | false =>
  obtain ⟨rfl, hno⟩ := hfalse rfl
  by_cases hk : k < l.length
  case neg =>
    exfalso
    obtain ⟨i, hi, h0⟩ := hT.sub.more hml (by omega)
    obtain ⟨k', hk', e⟩ := mod_cover (p := p) hi
    have := hno k' (by omega)
    rw [e] at this
    exact this h0
  obtain ⟨r, hr'⟩ : ∃ r, r = (k + p) % l.length := ⟨_, rfl⟩
  have hrl : r < l.length := by rw [hr']; exact Nat.mod_lt _ (by omega)
  have hmod : ((k : Nat) + (p : Nat) : Int) % ((l.length : Nat) : Int) = ((r : Nat) : Int) := by
    rw [hr', Int.natCast_emod, Int.natCast_add]
  obtain ⟨j, q, bb, us, pv', wv', bv', qv', hx, hbb, hq, hcell, hus, hC⟩ := hN.at_ r _ (nd_get hrl)
  have hlow := hT.low
  have hle0 := hlow.2
  have hbG : hget G2 j = some bb := (hlow.1 j (by have := hget_lt hbb; omega)).trans hbb
  have hul := hC.len
  have hid := hC.id
  have hrw := hw _ (List.mem_of_getElem? (nd_get hrl))
  have hivl : (iv .u8 (nd l r).id).length = 32 := by rw [iv_length, hrw.id.1]
  have hopl := hC.op.len
  have hset2 : ∀ Z : List Value, Z.length = 104 → setR Z 0 us = us := fun Z hZ => setR_all _ _ (by omega)
  have hus' := hus.symm
  clear hus
  have hp0 : plain1 (.slice none 0 0) = true := rfl
  have hl0 : ¬ (l.length : Int) = 0 := by omega
  have hl0b : ((l.length : Int) == 0) = false := by rw [beq_eq_false_iff_ne]; omega
  (refine aw_ops (by kernel_rfl) (fun K hK => ?_); simp (disch := first | omega | (simp only [lnS]; try omega; done)) [-getElem?_pos, -getElem?_neg, q0, q8, q9, -notTuple, v1, v2, nt_intG, -xlen, hxl, hk]; refine hK _ _ ?_; clear hK K)
  refine aw_t (by (first | (simp [eval_tmp, put_at, hk]; done) | (simp [eval_tmp, put_at, hk]; omega))) (by kernel_rfl) ?_
  refine aw_skip ?_
  refine aw_seq ?_
  refine aw_block ?_
  refine aw_seq ?_
  refine aw_ops (by kernel_rfl) (fun K hK => ?_)
  simp (disch := first | omega | (simp only [lnS]; try omega; done)) [-getElem?_pos, -getElem?_neg, q0, q7, q9, -notTuple, v1, v2, nt_intG, nt_aggG, -xlen, hxl, hmod, hl0, hl0b, -xindexAddr, hx, hbG, hus', hul, hq, hle0, hp0, all_zl, hset2]
  refine hK _ _ ?_; clear hK K
  obtain ⟨hlow2, hb2⟩ := boxed (H := G2) us 39
  obtain ⟨g, hg⟩ : ∃ g, g = G2.length := ⟨_, rfl⟩
  rw [← hg] at hb2 ⊢
  have hT2 := hT.keep hlow2
  generalize G2 ++ [some ⟨us, 39, none⟩] = G3 at *
  have hC2 : NodeC G3 us (nd l r) pv' wv' bv' qv' := hC.low (fun j hj => hT2.low.1 j (by omega))
  have hadd := (add_rc (γ := γ) hT2.nda hrw.id hC2.op hrw.op).thaw (nro := n) (fun v G' h => ⟨h.1.2, h.1.1⟩)
  refine aw_seq ?_
  refine aw_ops (by kernel_rfl) (fun K hK => ?_)
  simp (disch := first | omega | (simp only [lnS]; try omega; done)) [-getElem?_pos, -getElem?_neg, q5, hb2, hul, hid, hivl, hopl, -notTuple, m1, m2, nt_intG, nt_aggG]
  refine ⟨by kernel_rfl, hadd.mono ?_⟩
  rintro v G4 ⟨low4, sv, rfl, ⟨h0, hnew⟩ | ⟨h0, rfl⟩⟩
  · obtain ⟨s1, s2⟩ := hnew.sh
    rw [h0]
    simp (disch := first | omega | (simp only [lnS]; try omega; done)) [-getElem?_pos, -getElem?_neg, -notTuple, s1, s2, nt_intG]
    refine hK _ _ ?_; clear hK K
    refine aw_seq ?_
    (refine aw_ops (by kernel_rfl) (fun K hK => ?_); simp (disch := first | omega | (simp only [lnS]; try omega; done)) [-getElem?_pos, -getElem?_neg]; refine hK _ _ ?_; clear hK K)
    refine aw_t (by (first | (simp [eval_tmp, put_at]; done) | (simp [eval_tmp, put_at]; omega))) (by kernel_rfl) ?_
    refine aw_seq ?_
    (refine aw_ops (by kernel_rfl) (fun K hK => ?_); simp (disch := first | omega | (simp only [lnS]; try omega; done)) [-getElem?_pos, -getElem?_neg]; refine hK _ _ ?_; clear hK K)
    (refine aw_ops (by kernel_rfl) (fun K hK => ?_); simp (disch := first | omega | (simp only [lnS]; try omega; done)) [-getElem?_pos, -getElem?_neg]; refine hK _ _ ?_; clear hK K)
    have hwm : ∀ x ∈ m' ++ [addD m' (nd l r).id (nd l r).op], x.Wf := fun x hx => by
      rcases List.mem_append.1 hx with hx | hx
      · exact hT.nda.wf x hx
      · rw [List.mem_singleton] at hx
        subst hx
        have hm96 := rightG_len hT.sub.right
        refine ⟨hrw.id, hrw.op, fun z hz => ?_, ?_⟩
        · obtain ⟨k1, rfl, hk1, _⟩ := pastL_bd hz
          unfold I64
          omega
        · have := pastL_length m' m'.length (nd l r).op.parents
          show (pastL m' m'.length (nd l r).op.parents).length ≤ maxLen
          simp only [maxLen]
          omega
    have hT4 : Took n G l G4 sv (m' ++ [addD m' (nd l r).id (nd l r).op]) := ⟨(hT2.keep low4).low, hnew.nda hwm (fun _ _ _ => rfl), hT.sub.push hrl h0⟩
    (refine aw_ops (by kernel_rfl) (fun K hK => ?_); simp (disch := first | omega | (simp only [lnS]; try omega; done)) [-getElem?_pos, -getElem?_neg, q9]; refine hK _ _ ?_; clear hK K)
    exact ⟨c2 - 1, by omega, k + 1, sv, _, true, by omega, by omega, by (first | (simp [put_at, put_none, fr0_at, q0]; done) | rfl), by (first | (simp [put_at, put_none, fr0_at, q1]; done) | rfl), by (first | (simp [put_at, put_none, fr0_at]; done) | rfl), by (first | (simp [put_at, put_none, fr0_at, q6]; done) | rfl), by (first | (simp [put_at, put_none, fr0_at, q7]; done) | rfl), by (first | (simp [put_at, put_none, fr0_at]; done) | rfl), by (first | (simp [put_at, put_none, fr0_at]; done) | rfl), hT4, fun h => (by cases h), fun _ => by simp⟩
  · simp (disch := first | omega | (simp only [lnS]; try omega; done)) [-getElem?_pos, -getElem?_neg, nt_intG]
    refine hK _ _ ?_; clear hK K
    refine aw_seq ?_
    (refine aw_ops (by kernel_rfl) (fun K hK => ?_); simp (disch := first | omega | (simp only [lnS]; try omega; done)) [-getElem?_pos, -getElem?_neg, h0]; refine hK _ _ ?_; clear hK K)
    refine aw_f (by (first | (simp [eval_tmp, put_at, h0]; done) | (simp [eval_tmp, put_at, h0]; omega))) (by kernel_rfl) ?_
    refine aw_skip ?_
    (refine aw_ops (by kernel_rfl) (fun K hK => ?_); simp (disch := first | omega | (simp only [lnS]; try omega; done)) [-getElem?_pos, -getElem?_neg, q9]; refine hK _ _ ?_; clear hK K)
    refine ⟨c2 - 1, by omega, k + 1, mv', m', false, by omega, by omega, by (first | (simp [put_at, put_none, fr0_at, q0]; done) | rfl), by (first | (simp [put_at, put_none, fr0_at, q1]; done) | rfl), by (first | (simp [put_at, put_none, fr0_at, q5]; done) | rfl), by (first | (simp [put_at, put_none, fr0_at, q6]; done) | rfl), by (first | (simp [put_at, put_none, fr0_at, q7]; done) | rfl), by (first | (simp [put_at, put_none, fr0_at, q8]; done) | rfl), by (first | (simp [put_at, put_none, fr0_at]; done) | rfl), hT2.keep low4, fun _ => ⟨rfl, fun k' hk' => ?_⟩, fun h => by cases h⟩
    by_cases e : k' = k
    · subst e
      rw [← hr']
      exact h0
    · exact hno k' (by omega)
end
end Go.Proofs.Ytcbfbmdglhlbmaa
