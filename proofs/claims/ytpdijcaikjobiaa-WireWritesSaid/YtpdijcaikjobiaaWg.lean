/-
  Keys, walked.
-/
import Derived.Test.YtpdijcaikjobiaaWd
import Derived.Test.YtpdijcaikjobiaaXok
namespace Go.Proofs.Ytpdijcaikjobiaa
open Go Go.RowKit
set_option linter.unusedVariables false
set_option linter.unusedSimpArgs false
set_option maxRecDepth 100000
set_option maxHeartbeats 4000000
def KyS (H : AH) (F : List Nat) (v : Value) (ks : List (List Int)) : Prop := ∀ G : AH, (∀ j, j < H.length → j ∉ F → hget G j = hget H j) → SlK 32 .u8 G v ks
theorem KyS.now {H : AH} {F : List Nat} {v : Value} {ks : List (List Int)} (h : KyS H F v ks) : SlK 32 .u8 H v ks := h H (fun _ _ _ => rfl)
theorem KyS.fr {H H' : AH} {F F' : List Nat} {v : Value} {ks : List (List Int)} (h : KyS H F v ks) (hf : Fr H H' F F') : KyS H' F' v ks := fun G hg => h G (fun j hj hn => by
  rw [hg j (Nat.lt_of_lt_of_le hj hf.len) (fun hm => ?_), hf.out j hj hn]
  rcases hf.new j hm with h1 | h1
  · exact hn h1
  · omega)
attribute [local simp] wb_bool wb_undef XL_nil XL_cons XLc_val XLc_call step1_eq stepW_t stepW_f stepC_n stepC_s stepX_s xop_eq xopR_s xopR_n wantedA_eq wantedG_n wantedG_s plain1_int plain1_bool plain1_string bits_i64 bits_u64 bits_u32 bits_u16 bits_u8 xeqA xarr allK_iv num_iv calleeOf xread xeff xbin xint xnil xun xstr xload xconv xpart xfield xfieldAddr xindexAddr xindex bnd asInt? xslice xlen xmin xmax xbuild xfill xappend xapp2 xappstr xappmk xcap xcopy xcells eval_tmp eval_const put_at put_none fr0_at cells_agg cells_int cells_bool cells_string cells_ptr cells_slice notTuple tab iv_all hget_app hget_app0 hget_cons0 hget_cons set_app set_app0 setR setR_one QL_nil QL_cons QLc_val stepQ_t stepQ_f stepQC_n stepQC_s stepQX_s SL_nil SL_cons SLc_val stepS_t stepS_f ltT ltF leT leF eqT eqF ltTn ltFn leTn leFn eqTn eqFn beqT beqF bneT bneF wi64 wu64 wu32 wu16 wu8 tmodP tdivP hgetL hgetNe hgetEq setL nums_def nums_len Nat.succ_le_of_lt List.getElem?_cons_zero List.getElem?_cons_succ Option.getD_some Int.toNat_add Int.toNat_mul agB agI agS agP agL agA okB okI okS okP okSl okA
theorem keys_ac {H : AH} {γ : Nat → Option Nat} {nro p : Nat} {F : List Nat} {bs : List Int} {ks : List (List Int)} {v : Value} (h : Wr H p F bs) (hlo : ∀ j ∈ F, nro ≤ j) (hnl : nro ≤ H.length) (hv : KyS H F v ks) (hk : ∀ key ∈ ks, key.length = 32) (hlen : bs.length + 32 * ks.length ≤ 100000) :
    AC Try.prog nro γ 27 #[.pointer (some ⟨p, 0, none⟩), v] H (fun v' H' => ∃ F', Wr H' p F' (bs ++ ks.flatten) ∧ Fr H H' F F') := by
  have hxl := hv.now.len (P := Try.prog) (t := 31) (e := 41) (by simp)
  have hno : notTuple v = true := by
    rcases hv.now with ⟨a, rfl, _⟩ | ⟨j, k, rfl, _⟩ <;> rfl
  have hnp : nro ≤ p := hlo p (by obtain ⟨v, FU, rfl, _⟩ := h; simp)
  refine ac_of_aw Try.func27 rfl Try.ntmps27 Try.results27 (by simp) ?_
  refine aw_seq ?_
  (refine aw_ops (by kernel_rfl) (fun K hK => ?_); simp (disch := first | omega | (simp only [List.length_set, List.length_append, List.length_cons, List.length_nil, iv_length, zl_length]; try omega; done)) [-getElem?_pos, -getElem?_neg, -xlen, hxl]; refine hK _ _ ?_; clear hK K)
  refine aw_block ?_
  refine aw_loop (fun c α G => ∃ i : Nat, i + c = ks.length ∧ α 8 = .int .i64 (i : Nat) ∧ α 7 = .int .i64 (ks.length : Nat) ∧ α 6 = v ∧ α 0 = .pointer (some ⟨p, 0, none⟩) ∧ ∃ F', Wr G p F' (bs ++ (ks.take i).flatten) ∧ Fr H G F F') ks.length ?_ ?_
  · exact ⟨0, by omega, by (first | (simp [put_at, put_none, fr0_at]; done) | rfl), by (first | (simp [put_at, put_none, fr0_at]; done) | rfl), by (first | (simp [put_at, put_none, fr0_at]; done) | rfl), by (first | (simp [put_at, put_none, fr0_at]; done) | rfl), F, by simpa using h, .refl _ _⟩
  rintro c α G ⟨i, hic, h8, h7, h6, h0, F1, hw, hf⟩
  refine aw_seq ?_
  (refine aw_ops (by kernel_rfl) (fun K hK => ?_); simp (disch := first | omega | (simp only [List.length_set, List.length_append, List.length_cons, List.length_nil, iv_length, zl_length]; try omega; done)) [-getElem?_pos, -getElem?_neg, h8, h7]; refine hK _ _ ?_; clear hK K)
  refine aw_seq ?_
  by_cases hi : i < ks.length
  case neg =>
    refine aw_f (by (first | (simp [eval_tmp, put_at, hi]; done) | (simp [eval_tmp, put_at, hi]; omega))) (by kernel_rfl) ?_
    refine aw_exit ?_
    refine ⟨_, _, rfl, rfl, F1, ?_, hf⟩
    obtain rfl : i = ks.length := by omega
    rwa [List.take_length] at hw
  refine aw_t (by (first | (simp [eval_tmp, put_at, hi]; done) | (simp [eval_tmp, put_at, hi]; omega))) (by kernel_rfl) ?_
  refine aw_skip ?_
  refine aw_seq ?_
  refine aw_block ?_
  obtain ⟨key, hx⟩ : ∃ key, ks[i]? = some key := ⟨_, List.getElem?_eq_getElem hi⟩
  have hk32 := hk key (List.mem_of_getElem? hx)
  have hvG := (hv.fr hf).now
  obtain ⟨px, hpx, hlx0⟩ := hvG.at (P := Try.prog) (t := 31) (e := 41) (by simp) (by simp) (by omega) (by simp) hx
  have hlx := hlx0 G (fun _ _ => rfl)
  have hxa : xindexAddr Try.prog 31 v (.int .i64 (i : Nat)) = some px := hpx
  have hnpx : notTuple px = true := by
    unfold xload at hlx
    cases px <;> first | rfl | (simp at hlx)
  have hnG : nro ≤ G.length := Nat.le_trans hnl hf.len
  have hset : setR (iv .u8 (zl 32)) 0 (iv .u8 key) = iv .u8 key := setR_all _ _ (by rw [iv_length, iv_length, hk32]; rfl)
  have hagg : notTuple (.agg (iv .u8 key).toArray) = true := rfl
  have hkl : (iv .u8 key).length = 32 := by rw [iv_length, hk32]
  refine aw_seq ?_
  (refine aw_ops (by kernel_rfl) (fun K hK => ?_); simp (disch := first | omega | (simp only [List.length_set, List.length_append, List.length_cons, List.length_nil, iv_length, zl_length]; try omega; done)) [-getElem?_pos, -getElem?_neg, h6, h8, -xindexAddr, hxa, -xload, hlx, hnpx, -notTuple, hnG, hset, hagg]; refine hK _ _ ?_; clear hK K)
  have lt2 : ∀ j ∈ F1, nro ≤ j := fun j hj => by
    rcases hf.new j hj with h1 | h1
    · exact hlo j h1
    · omega
  have hfl : (ks.take i).flatten.length = 32 * i := by
    rw [List.length_flatten]
    have : (ks.take i).map List.length = List.replicate i 32 := by
      apply List.eq_replicate_iff.2
      refine ⟨by rw [List.length_map, List.length_take]; omega, fun b hb => ?_⟩
      obtain ⟨a, ha, rfl⟩ := List.mem_map.1 hb
      exact hk a (List.mem_of_mem_take ha)
    rw [this, List.sum_replicate_nat]; omega
  have htk : (iv .u8 key).take 32 = iv .u8 key := List.take_of_length_le (by omega)
  have hxc : xcells 1 (.slice (some ⟨G.length, 0, none⟩) 32 32) (G ++ [some ⟨iv .u8 key, 41, none⟩]) = some (iv .u8 key) := by simp [xcells, hget_app0, hkl, htk]
  obtain ⟨w, w', H', hgw, hnw, hap, hnw', hcw', hgw', hwr, hfr⟩ := wr_append (nro := nro) (G := G ++ [some ⟨iv .u8 key, 41, none⟩]) hw lt2 (by simp) (fun j hj => hget_left hj) (fun s e => by cases e) hxc (fun e => by rw [e] at hk32; simp at hk32) (by rw [List.length_append, hfl]; omega)
  have hgw2 : hget (G ++ [some ⟨iv .u8 key, 41, none⟩]) p = _ := (hget_left (hget_lt hgw)).trans hgw
  (refine aw_plan [] [0, 1, 2, 3] [4, 5] 6 4 (by kernel_rfl) (by kernel_rfl) (by kernel_rfl) (fun K hK => ?_)); simp only [sel, List.getElem?_cons_succ, List.getElem?_cons_zero, List.drop_succ_cons, List.drop_zero]; simp (disch := first | omega | (simp only [List.length_set, List.length_append, List.length_cons, List.length_nil, iv_length, zl_length]; try omega; done)) [-getElem?_pos, -getElem?_neg, h0, hgw2, hgw', hnw, hnw', hcw', -notTuple, nt_sl, -xappend, hap, hnp, PL_nil, PL_cons, PLc_val, PLc_new, stepP_t, stepP_f, stepPC_n, stepPC_s, stepPX_s, stepPX_n, stepPA_t, stepPA_c, stepPA_l, stepPN_s, allocOp, reloc_sl, reloc_ptr, List.map_cons, List.map_nil, List.nil_append, List.append_assoc, List.cons_append, Nat.add_assoc]
  refine hK _ _ ?_; clear hK K
  (refine aw_ops (by kernel_rfl) (fun K hK => ?_); simp (disch := first | omega | (simp only [List.length_set, List.length_append, List.length_cons, List.length_nil, iv_length, zl_length]; try omega; done)) [-getElem?_pos, -getElem?_neg, h8]; refine hK _ _ ?_; clear hK K)
  refine ⟨c - 1, by omega, i + 1, by omega, by (first | (simp [put_at, put_none, fr0_at]; done) | rfl), by (first | (simp [put_at, put_none, fr0_at, h7]; done) | rfl), by (first | (simp [put_at, put_none, fr0_at, h6]; done) | rfl), by (first | (simp [put_at, put_none, fr0_at, h0]; done) | rfl), _, ?_, hf.trans hfr⟩
  rw [List.take_add_one, hx, List.flatten_append]
  simp only [Option.toList_some, List.flatten_cons, List.flatten_nil, List.append_nil]
  rw [← List.append_assoc]
  exact hwr
theorem keylist_ac {H : AH} {γ : Nat → Option Nat} {nro p : Nat} {F : List Nat} {bs : List Int} {l : List (List Int)} {v : Value} (h : Wr H p F bs) (hlo : ∀ j ∈ F, nro ≤ j) (hnl : nro ≤ H.length) (hv : KyS H F v l) (hl : ∀ key ∈ l, key.length = 32) (hlen : bs.length + 32 * l.length ≤ 90000) :
    AC Try.prog nro γ 23 #[.pointer (some ⟨p, 0, none⟩), v] H (fun v' H' => ∃ F', Wr H' p F' (bs ++ numB l.length ++ l.flatten) ∧ Fr H H' F F') := by
  have hno : notTuple v = true := by rcases hv.now with ⟨a, rfl, _⟩ | ⟨j, k, rfl, _⟩ <;> rfl
  have hxl := hv.now.len (P := Try.prog) (t := 31) (e := 41) (by simp)
  have hwl : IntKind.u32.wrap (l.length : Nat) = (l.length : Nat) := by simp only [IntKind.wrap_u32']; omega
  have hlt := h.lt
  have hs1 := one_sls (x := (l.length : Nat)) hlt _ rfl
  have hf0 : Fr H (H ++ [some ⟨[.int .u32 (l.length : Nat)], 37, some 1⟩]) F F := Fr.mk (by simp) (fun j hj _ => hget_left hj) (fun j hj => .inl hj)
  have hw1 := h.low (H' := H ++ [some ⟨[.int .u32 (l.length : Nat)], 37, some 1⟩]) (fun j hj => hget_left (hlt j hj))
  have hn5 := numB_len l.length
  refine ac_of_aw Try.func23 rfl Try.ntmps23 Try.results23 (by simp) ?_
  refine aw_seq ?_
  refine aw_ops (by kernel_rfl) (fun K hK => ?_)
  simp (disch := first | omega | (simp only [List.length_set, List.length_append, List.length_cons, List.length_nil, iv_length, zl_length]; try omega; done)) [-getElem?_pos, -getElem?_neg, -xlen, hxl, hwl]
  refine ⟨by kernel_rfl, (numbers_ac hw1 hlo (by rw [List.length_append]; omega) hs1 (by simp; omega) (by simp; omega)).mono ?_⟩
  rintro v1 H1 ⟨F1, hw2, hf1⟩
  try simp (disch := first | omega | (simp only [List.length_set, List.length_append, List.length_cons, List.length_nil, iv_length, zl_length]; try omega; done)) [-getElem?_pos, -getElem?_neg]
  refine hK _ _ ?_; clear hK K
  have hf2 := hf0.trans hf1
  have e1 : numsB [((l.length : Nat) : Int)] = numB l.length := by simp [numsB]
  rw [e1] at hw2
  have hbl : (bs ++ numB l.length).length + 32 * l.length ≤ 100000 := by rw [List.length_append]; omega
  refine aw_ops (by kernel_rfl) (fun K hK => ?_)
  simp (disch := first | omega | (simp only [List.length_set, List.length_append, List.length_cons, List.length_nil, iv_length, zl_length]; try omega; done)) [-getElem?_pos, -getElem?_neg]
  refine ⟨by kernel_rfl, (keys_ac hw2 (fun j hj => ?_) (by have := hf2.len; omega) (hv.fr hf2) hl hbl).mono ?_⟩
  · rcases hf2.new j hj with h1 | h1
    · exact hlo j h1
    · omega
  rintro v2 H2 ⟨F2, hw3, hf3⟩
  try simp (disch := first | omega | (simp only [List.length_set, List.length_append, List.length_cons, List.length_nil, iv_length, zl_length]; try omega; done)) [-getElem?_pos, -getElem?_neg]
  refine hK _ _ ?_; clear hK K
  exact ⟨_, _, rfl, rfl, F2, hw3, hf2.trans hf3⟩
end Go.Proofs.Ytpdijcaikjobiaa
