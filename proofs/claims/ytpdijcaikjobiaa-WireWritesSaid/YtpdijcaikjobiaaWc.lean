/-
  Numbers, walked.
-/
import Derived.Test.YtpdijcaikjobiaaWb
namespace Go.Proofs.Ytpdijcaikjobiaa
open Go Go.RowKit
set_option linter.unusedVariables false
set_option linter.unusedSimpArgs false
set_option maxRecDepth 100000
set_option maxHeartbeats 4000000
theorem nt_int (k : IntKind) (x : Int) : notTuple (.int k x) = true := rfl
theorem nt_sl (a : Option Addr) (n c : Nat) : notTuple (.slice a n c) = true := rfl
def numsB (l : List Int) : List Int := l.flatMap fun x => numB x.toNat
theorem numsB_next {l : List Int} {i : Nat} {x : Int} (h : l[i]? = some x) : numsB (l.take (i + 1)) = numsB (l.take i) ++ numB x.toNat := by
  unfold numsB
  rw [List.take_add_one, h, List.flatMap_append]
  simp
theorem numsB_len (l : List Int) : (numsB l).length ≤ 5 * l.length := by
  induction l with
  | nil => simp [numsB]
  | cons x l ih =>
    have := numB_len x.toNat
    simp only [numsB, List.flatMap_cons, List.length_append, List.length_cons] at ih ⊢
    omega
attribute [local simp] wb_bool wb_undef XL_nil XL_cons XLc_val XLc_call step1_eq stepW_t stepW_f stepC_n stepC_s stepX_s xop_eq xopR_s xopR_n wantedA_eq wantedG_n wantedG_s plain1_int plain1_bool plain1_string bits_i64 bits_u64 bits_u32 bits_u16 bits_u8 xeqA xarr allK_iv num_iv calleeOf xread xeff xbin xint xnil xun xstr xload xconv xpart xfield xfieldAddr xindexAddr xindex bnd asInt? xslice xlen xmin xmax xbuild xfill xappend xapp2 xappstr xappmk xcap xcopy xcells eval_tmp eval_const put_at put_none fr0_at cells_agg cells_int cells_bool cells_string cells_ptr cells_slice notTuple tab iv_all hget_app hget_app0 hget_cons0 hget_cons set_app set_app0 setR setR_one QL_nil QL_cons QLc_val stepQ_t stepQ_f stepQC_n stepQC_s stepQX_s SL_nil SL_cons SLc_val stepS_t stepS_f ltT ltF leT leF eqT eqF ltTn ltFn leTn leFn eqTn eqFn beqT beqF bneT bneF wi64 wu64 wu32 wu16 wu8 tmodP tdivP hgetL hgetNe hgetEq setL nums_def nums_len Nat.succ_le_of_lt List.getElem?_cons_zero List.getElem?_cons_succ Option.getD_some Int.toNat_add Int.toNat_mul agB agI agS agP agL agA okB okI okS okP okSl okA
theorem numbers_ac {H : AH} {γ : Nat → Option Nat} {nro p : Nat} {F : List Nat} {bs l : List Int} {v : Value} (h : Wr H p F bs) (hlo : ∀ j ∈ F, nro ≤ j) (hnl : nro ≤ H.length) (hv : SlS H F v (iv .u32 l)) (hl : ∀ x ∈ l, 0 ≤ x ∧ x ≤ 4294967295) (hlen : bs.length + 5 * l.length ≤ 100000) :
    AC Try.prog nro γ 21 #[.pointer (some ⟨p, 0, none⟩), v] H (fun v' H' => ∃ F', Wr H' p F' (bs ++ numsB l) ∧ Fr H H' F F') := by
  have hno : notTuple v = true := by rcases hv.now with ⟨a, rfl, _⟩ | ⟨j, off, k, rfl, _⟩ <;> rfl
  have hxl := hv.now.len (P := Try.prog) (t := 30) (e := 37) (by simp)
  have hil : (iv .u32 l).length = l.length := iv_length _ _
  rw [hil] at hxl
  have hnp : nro ≤ p := hlo p (by obtain ⟨v, FU, rfl, _⟩ := h; simp)
  refine ac_of_aw Try.func21 rfl Try.ntmps21 Try.results21 (by simp) ?_
  refine aw_seq ?_
  (refine aw_ops (by kernel_rfl) (fun K hK => ?_); simp (disch := first | omega | (simp only [List.length_set, List.length_append, List.length_cons, List.length_nil, iv_length, zl_length]; try omega; done)) [-getElem?_pos, -getElem?_neg, -xlen, hxl]; refine hK _ _ ?_; clear hK K)
  refine aw_block ?_
  refine aw_loop (fun c α G => ∃ i : Nat, i + c = l.length ∧ α 10 = .int .i64 (i : Nat) ∧ α 9 = .int .i64 (l.length : Nat) ∧ α 8 = v ∧ α 0 = .pointer (some ⟨p, 0, none⟩) ∧ ∃ F', Wr G p F' (bs ++ numsB (l.take i)) ∧ Fr H G F F') l.length ?_ ?_
  · exact ⟨0, by omega, by (first | (simp [put_at, put_none, fr0_at]; done) | rfl), by (first | (simp [put_at, put_none, fr0_at]; done) | rfl), by (first | (simp [put_at, put_none, fr0_at]; done) | rfl), by (first | (simp [put_at, put_none, fr0_at]; done) | rfl), F, by simpa [numsB] using h, .refl _ _⟩
  rintro c α G ⟨i, hic, h10, h9, h8, h0, F1, hw, hf⟩
  refine aw_seq ?_
  (refine aw_ops (by kernel_rfl) (fun K hK => ?_); simp (disch := first | omega | (simp only [List.length_set, List.length_append, List.length_cons, List.length_nil, iv_length, zl_length]; try omega; done)) [-getElem?_pos, -getElem?_neg, h10, h9]; refine hK _ _ ?_; clear hK K)
  refine aw_seq ?_
  by_cases hi : i < l.length
  case neg =>
    refine aw_f (by (first | (simp [eval_tmp, put_at, hi]; done) | (simp [eval_tmp, put_at, hi]; omega))) (by kernel_rfl) ?_
    refine aw_exit ?_
    refine ⟨_, _, rfl, rfl, F1, ?_, hf⟩
    obtain rfl : i = l.length := by omega
    rwa [List.take_length] at hw
  refine aw_t (by (first | (simp [eval_tmp, put_at, hi]; done) | (simp [eval_tmp, put_at, hi]; omega))) (by kernel_rfl) ?_
  refine aw_skip ?_
  refine aw_seq ?_
  refine aw_block ?_
  obtain ⟨x, hx⟩ : ∃ x, l[i]? = some x := ⟨_, List.getElem?_eq_getElem hi⟩
  obtain ⟨hx0, hx1⟩ := hl x (List.mem_of_getElem? hx)
  obtain ⟨n, rfl⟩ : ∃ n : Nat, x = (n : Nat) := ⟨x.toNat, by omega⟩
  have hvG := hv.fr hf
  have hcx : (iv .u32 l)[i]? = some (.int .u32 (n : Nat)) := by simp [iv, hx]
  obtain ⟨px, hpx, hlx⟩ := hvG.now.cell (P := Try.prog) (t := 30) (e := 37) (by simp) (by simp) (by simp) (by simp) hcx
  have hxa : xindexAddr Try.prog 30 v (.int .i64 (i : Nat)) = some px := hpx
  have hnpx : notTuple px = true := by
    unfold xload at hlx
    cases px <;> first | rfl | (simp at hlx)
  refine aw_seq ?_
  (refine aw_ops (by kernel_rfl) (fun K hK => ?_); simp (disch := first | omega | (simp only [List.length_set, List.length_append, List.length_cons, List.length_nil, iv_length, zl_length]; try omega; done)) [-getElem?_pos, -getElem?_neg, h8, h10, -xindexAddr, hxa, -xload, hlx, hnpx]; refine hK _ _ ?_; clear hK K)
  have hn32 : n < 4294967296 := by omega
  have hft : (numsB (l.take i)).length ≤ 5 * i := by
    have := numsB_len (l.take i)
    rw [List.length_take] at this; omega
  have lt2 : ∀ {G : AH} {F' : List Nat}, Fr H G F F' → ∀ j ∈ F', nro ≤ j := fun hf j hj => by
    rcases hf.new j hj with h1 | h1
    · exact hlo j h1
    · omega
  refine aw_seq ?_
  refine aw_seq ?_
  (refine aw_ops (by kernel_rfl) (fun K hK => ?_); simp (disch := first | omega | (simp only [List.length_set, List.length_append, List.length_cons, List.length_nil, iv_length, zl_length]; try omega; done)) [-getElem?_pos, -getElem?_neg]; refine hK _ _ ?_; clear hK K)
  refine aw_cut (fun α G2 => α 5 = .int .u32 (n : Nat) ∧ α 10 = .int .i64 (i : Nat) ∧ α 9 = .int .i64 (l.length : Nat) ∧ α 8 = v ∧ α 0 = .pointer (some ⟨p, 0, none⟩) ∧ ∃ F', Wr G2 p F' (bs ++ numsB (l.take i) ++ hiG n 4) ∧ Fr H G2 F F') ?_ ?_
  · refine aw_block ?_
    refine aw_loop (fun c α G2 => ∃ part : List Int, c ≤ 4 ∧ hiG n 4 = part ++ hiG n c ∧ part.length + c ≤ 4 ∧ α 6 = .int .i64 (c : Nat) ∧ α 5 = .int .u32 (n : Nat) ∧ α 10 = .int .i64 (i : Nat) ∧ α 9 = .int .i64 (l.length : Nat) ∧ α 8 = v ∧ α 0 = .pointer (some ⟨p, 0, none⟩) ∧ ∃ F', Wr G2 p F' (bs ++ numsB (l.take i) ++ part) ∧ Fr H G2 F F') 4 ?_ ?_
    · exact ⟨[], by omega, by simp, by simp, by (first | (simp [put_at, put_none, fr0_at]; done) | rfl), by (first | (simp [put_at, put_none, fr0_at]; done) | rfl), by (first | (simp [put_at, put_none, fr0_at, h10]; done) | rfl), by (first | (simp [put_at, put_none, fr0_at, h9]; done) | rfl), by (first | (simp [put_at, put_none, fr0_at, h8]; done) | rfl), by (first | (simp [put_at, put_none, fr0_at, h0]; done) | rfl), F1, by simpa using hw, hf⟩
    clear h10 h9 h8 h0 hw hf
    rintro g α G2 ⟨part, hg4, hpart, hpl, h6, h5, h10, h9, h8, h0, F2, hw, hf⟩
    refine aw_seq ?_
    refine aw_seq ?_
    cases g with
    | zero =>
      (refine aw_ops (by kernel_rfl) (fun K hK => ?_); simp (disch := first | omega | (simp only [List.length_set, List.length_append, List.length_cons, List.length_nil, iv_length, zl_length]; try omega; done)) [-getElem?_pos, -getElem?_neg, h6]; refine hK _ _ ?_; clear hK K)
      refine aw_f (by (first | (simp [eval_tmp, put_at]; done) | (simp [eval_tmp, put_at]; omega))) (by kernel_rfl) ?_
      refine aw_exit ?_
      refine ⟨by (first | (simp [put_at, put_none, fr0_at, h5]; done) | rfl), by (first | (simp [put_at, put_none, fr0_at, h10]; done) | rfl), by (first | (simp [put_at, put_none, fr0_at, h9]; done) | rfl), by (first | (simp [put_at, put_none, fr0_at, h8]; done) | rfl), by (first | (simp [put_at, put_none, fr0_at, h0]; done) | rfl), F2, ?_, hf⟩
      rw [hpart]
      simpa [hiG] using hw
    | succ g =>
      (refine aw_ops (by kernel_rfl) (fun K hK => ?_); simp (disch := first | omega | (simp only [List.length_set, List.length_append, List.length_cons, List.length_nil, iv_length, zl_length]; try omega; done)) [-getElem?_pos, -getElem?_neg, h6]; refine hK _ _ ?_; clear hK K)
      refine aw_t (by (first | (simp [eval_tmp, put_at]; done) | (simp [eval_tmp, put_at]; omega))) (by kernel_rfl) ?_
      refine aw_skip ?_
      refine aw_seq ?_
      refine aw_block ?_
      refine aw_seq ?_
      refine aw_cut (fun α G3 => G3 = G2 ∧ α 7 = .int .u32 ((n / 128 ^ (g + 1) : Nat) : Int) ∧ α 6 = .int .i64 ((g + 1 : Nat) : Int) ∧ α 5 = .int .u32 (n : Nat) ∧ α 10 = .int .i64 (i : Nat) ∧ α 9 = .int .i64 (l.length : Nat) ∧ α 8 = v ∧ α 0 = .pointer (some ⟨p, 0, none⟩)) ?_ ?_
      · have hgs : g = 0 ∨ g = 1 ∨ g = 2 ∨ g = 3 := by omega
        rcases hgs with rfl | rfl | rfl | rfl
        · (refine aw_ops (by kernel_rfl) (fun K hK => ?_); simp (disch := first | omega | (simp only [List.length_set, List.length_append, List.length_cons, List.length_nil, iv_length, zl_length]; try omega; done)) [-getElem?_pos, -getElem?_neg, h5, h6, fdivP]; refine hK _ _ ?_; clear hK K)
          exact ⟨rfl, by simp [put_at], by (first | (simp [put_at, put_none, fr0_at, h6]; done) | rfl), by (first | (simp [put_at, put_none, fr0_at, h5]; done) | rfl), by (first | (simp [put_at, put_none, fr0_at, h10]; done) | rfl), by (first | (simp [put_at, put_none, fr0_at, h9]; done) | rfl), by (first | (simp [put_at, put_none, fr0_at, h8]; done) | rfl), by (first | (simp [put_at, put_none, fr0_at, h0]; done) | rfl)⟩
        · (refine aw_ops (by kernel_rfl) (fun K hK => ?_); simp (disch := first | omega | (simp only [List.length_set, List.length_append, List.length_cons, List.length_nil, iv_length, zl_length]; try omega; done)) [-getElem?_pos, -getElem?_neg, h5, h6, fdivP]; refine hK _ _ ?_; clear hK K)
          exact ⟨rfl, by simp [put_at], by (first | (simp [put_at, put_none, fr0_at, h6]; done) | rfl), by (first | (simp [put_at, put_none, fr0_at, h5]; done) | rfl), by (first | (simp [put_at, put_none, fr0_at, h10]; done) | rfl), by (first | (simp [put_at, put_none, fr0_at, h9]; done) | rfl), by (first | (simp [put_at, put_none, fr0_at, h8]; done) | rfl), by (first | (simp [put_at, put_none, fr0_at, h0]; done) | rfl)⟩
        · (refine aw_ops (by kernel_rfl) (fun K hK => ?_); simp (disch := first | omega | (simp only [List.length_set, List.length_append, List.length_cons, List.length_nil, iv_length, zl_length]; try omega; done)) [-getElem?_pos, -getElem?_neg, h5, h6, fdivP]; refine hK _ _ ?_; clear hK K)
          exact ⟨rfl, by simp [put_at], by (first | (simp [put_at, put_none, fr0_at, h6]; done) | rfl), by (first | (simp [put_at, put_none, fr0_at, h5]; done) | rfl), by (first | (simp [put_at, put_none, fr0_at, h10]; done) | rfl), by (first | (simp [put_at, put_none, fr0_at, h9]; done) | rfl), by (first | (simp [put_at, put_none, fr0_at, h8]; done) | rfl), by (first | (simp [put_at, put_none, fr0_at, h0]; done) | rfl)⟩
        · (refine aw_ops (by kernel_rfl) (fun K hK => ?_); simp (disch := first | omega | (simp only [List.length_set, List.length_append, List.length_cons, List.length_nil, iv_length, zl_length]; try omega; done)) [-getElem?_pos, -getElem?_neg, h5, h6, fdivP]; refine hK _ _ ?_; clear hK K)
          exact ⟨rfl, by simp [put_at], by (first | (simp [put_at, put_none, fr0_at, h6]; done) | rfl), by (first | (simp [put_at, put_none, fr0_at, h5]; done) | rfl), by (first | (simp [put_at, put_none, fr0_at, h10]; done) | rfl), by (first | (simp [put_at, put_none, fr0_at, h9]; done) | rfl), by (first | (simp [put_at, put_none, fr0_at, h8]; done) | rfl), by (first | (simp [put_at, put_none, fr0_at, h0]; done) | rfl)⟩
      clear h10 h9 h8 h0 h6 h5
      rintro α G3 ⟨rfl, h7, h6, h5, h10, h9, h8, h0⟩
      obtain ⟨m, hm⟩ : ∃ m, m = n / 128 ^ (g + 1) := ⟨_, rfl⟩
      have hm32 : m < 4294967296 := by
        have := Nat.div_le_self n (128 ^ (g + 1)); omega
      rw [← hm] at h7
      refine aw_seq ?_
      by_cases hz : m = 0
      · (refine aw_ops (by kernel_rfl) (fun K hK => ?_); simp (disch := first | omega | (simp only [List.length_set, List.length_append, List.length_cons, List.length_nil, iv_length, zl_length]; try omega; done)) [-getElem?_pos, -getElem?_neg, h7, hz]; refine hK _ _ ?_; clear hK K)
        refine aw_f (by (first | (simp [eval_tmp, put_at]; done) | (simp [eval_tmp, put_at]; omega))) (by kernel_rfl) ?_
        refine aw_skip ?_
        (refine aw_ops (by kernel_rfl) (fun K hK => ?_); simp (disch := first | omega | (simp only [List.length_set, List.length_append, List.length_cons, List.length_nil, iv_length, zl_length]; try omega; done)) [-getElem?_pos, -getElem?_neg, h6]; refine hK _ _ ?_; clear hK K)
        refine ⟨g, by omega, part, by omega, ?_, by omega, by simp [put_at], by (first | (simp [put_at, put_none, fr0_at, h5]; done) | rfl), by (first | (simp [put_at, put_none, fr0_at, h10]; done) | rfl), by (first | (simp [put_at, put_none, fr0_at, h9]; done) | rfl), by (first | (simp [put_at, put_none, fr0_at, h8]; done) | rfl), by (first | (simp [put_at, put_none, fr0_at, h0]; done) | rfl), F2, hw, hf⟩
        rw [hpart, hiG, ← hm, if_pos hz, List.nil_append]
      · obtain ⟨b0, hb0⟩ : ∃ b0 : Int, b0 = ((m % 128 : Nat) : Int) + 128 := ⟨_, rfl⟩
        have hmm : m % 128 < 128 := Nat.mod_lt _ (by omega)
        have hor := or128 (m % 128) hmm
        rw [← hb0] at hor
        have hand := and_nat m hm32
        have hwrp : IntKind.u8.wrap ((m % 128 : Nat) : Int) = ((m % 128 : Nat) : Int) := wrap8_in (by omega)
        obtain ⟨m7, hm7⟩ : ∃ m7 : Int, m7 = ((m % 128 : Nat) : Int) := ⟨_, rfl⟩
        rw [← hm7] at hor hand hwrp
        have hxc : xcells 1 (.slice (some ⟨G3.length, 0, none⟩) 1 1) (G3 ++ [some ⟨[.int .u8 b0], 5, some 1⟩]) = some (iv .u8 [b0]) := by simp [xcells, iv, hget_app0]
        obtain ⟨w, w', H', hgw, hnw, hap, hnw', hcw', hgw', hwr, hfr⟩ := wr_append (nro := nro) (G := G3 ++ [some ⟨[.int .u8 b0], 5, some 1⟩]) hw (lt2 hf) (by simp) (fun j hj => hget_left hj) (fun s e => by cases e) hxc (by simp) (by simp; omega)
        (refine aw_ops (by kernel_rfl) (fun K hK => ?_); simp (disch := first | omega | (simp only [List.length_set, List.length_append, List.length_cons, List.length_nil, iv_length, zl_length]; try omega; done)) [-getElem?_pos, -getElem?_neg, h7, hz]; refine hK _ _ ?_; clear hK K)
        refine aw_t (by (first | (simp [eval_tmp, put_at, hz]; done) | (simp [eval_tmp, put_at, hz]; omega))) (by kernel_rfl) ?_
        (refine aw_ops (by kernel_rfl) (fun K hK => ?_); simp (disch := first | omega | (simp only [List.length_set, List.length_append, List.length_cons, List.length_nil, iv_length, zl_length]; try omega; done)) [-getElem?_pos, -getElem?_neg, h7, h0, hand, hwrp, hor, hgw, hgw', hnw, hnw', hcw', -notTuple, nt_int, nt_sl, -xappend, hap, hget_left, hnp]; refine hK _ _ ?_; clear hK K)
        (refine aw_ops (by kernel_rfl) (fun K hK => ?_); simp (disch := first | omega | (simp only [List.length_set, List.length_append, List.length_cons, List.length_nil, iv_length, zl_length]; try omega; done)) [-getElem?_pos, -getElem?_neg, h6]; refine hK _ _ ?_; clear hK K)
        refine ⟨g, by omega, part ++ [b0], by omega, ?_, by simp; omega, by simp [put_at], by (first | (simp [put_at, put_none, fr0_at, h5]; done) | rfl), by (first | (simp [put_at, put_none, fr0_at, h10]; done) | rfl), by (first | (simp [put_at, put_none, fr0_at, h9]; done) | rfl), by (first | (simp [put_at, put_none, fr0_at, h8]; done) | rfl), by (first | (simp [put_at, put_none, fr0_at, h0]; done) | rfl), _, ?_, hf.trans hfr⟩
        · rw [hpart, hiG, ← hm, if_neg hz, ← hb0, List.append_assoc]
        · rw [← List.append_assoc]; exact hwr
  clear h10 h9 h8 h0 hw hf
  rintro α GG ⟨h5, h10, h9, h8, h0, F2, hw, hf⟩
  obtain ⟨m7, hm7⟩ : ∃ m7 : Int, m7 = ((n % 128 : Nat) : Int) := ⟨_, rfl⟩
  have hand := and_nat n hn32
  have hmm : n % 128 < 128 := Nat.mod_lt _ (by omega)
  have hwrp : IntKind.u8.wrap m7 = m7 := wrap8_in (by omega)
  rw [← hm7] at hand
  have hhl := hiG_len n 4
  have hxc : xcells 1 (.slice (some ⟨GG.length, 0, none⟩) 1 1) (GG ++ [some ⟨[.int .u8 m7], 5, some 1⟩]) = some (iv .u8 [m7]) := by simp [xcells, iv, hget_app0]
  obtain ⟨w, w', H', hgw, hnw, hap, hnw', hcw', hgw', hwr, hfr⟩ := wr_append (nro := nro) (G := GG ++ [some ⟨[.int .u8 m7], 5, some 1⟩]) hw (lt2 hf) (by simp) (fun j hj => hget_left hj) (fun s e => by cases e) hxc (by simp) (by simp; omega)
  (refine aw_ops (by kernel_rfl) (fun K hK => ?_); simp (disch := first | omega | (simp only [List.length_set, List.length_append, List.length_cons, List.length_nil, iv_length, zl_length]; try omega; done)) [-getElem?_pos, -getElem?_neg, h5, h0, hand, hwrp, hgw, hgw', hnw, hnw', hcw', -notTuple, nt_int, nt_sl, -xappend, hap, hget_left, hnp]; refine hK _ _ ?_; clear hK K)
  (refine aw_ops (by kernel_rfl) (fun K hK => ?_); simp (disch := first | omega | (simp only [List.length_set, List.length_append, List.length_cons, List.length_nil, iv_length, zl_length]; try omega; done)) [-getElem?_pos, -getElem?_neg, h10]; refine hK _ _ ?_; clear hK K)
  refine ⟨c - 1, by omega, i + 1, by omega, by (first | (simp [put_at, put_none, fr0_at]; done) | rfl), by (first | (simp [put_at, put_none, fr0_at, h9]; done) | rfl), by (first | (simp [put_at, put_none, fr0_at, h8]; done) | rfl), by (first | (simp [put_at, put_none, fr0_at, h0]; done) | rfl), _, ?_, hf.trans hfr⟩
  rw [numsB_next hx]
  simp only [numB, Int.toNat_natCast]
  rw [hm7] at hwr
  rw [← List.append_assoc, ← List.append_assoc]
  rw [hm7]
  exact hwr
end Go.Proofs.Ytpdijcaikjobiaa
