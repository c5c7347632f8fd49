/-
  A writer: where it lies; one byte more.
  A writer's numbers: the bytes.
  Numbers, walked.
  The writer's text; lists of numbers.
-/
import Derived.Test.YtpdijcaikjobiaaLibC
import Derived.Test.YtpdijcaikjobiaaTabm
namespace Go.Proofs.Ytpdijcaikjobiaa
section
open Go Go.RowKit
set_option linter.unusedVariables false
set_option linter.unusedSimpArgs false
set_option maxRecDepth 100000

def Wr (H : AH) (p : Nat) (F : List Nat) (bs : List Int) : Prop := ∃ v FU, F = p :: FU ∧ hget H p = some ⟨[v], 27, none⟩ ∧ OwnF H v 5 1 (iv .u8 bs) FU ∧ p ∉ FU
theorem Wr.lt {H : AH} {p : Nat} {F : List Nat} {bs : List Int} (h : Wr H p F bs) : ∀ j ∈ F, j < H.length := by
  obtain ⟨v, FU, rfl, h1, h2, h3⟩ := h
  intro j hj
  rcases List.mem_cons.1 hj with rfl | hj
  · exact hget_lt h1
  · exact h2.lt j hj
theorem Wr.low {H H' : AH} {p : Nat} {F : List Nat} {bs : List Int} (h : Wr H p F bs) (hl : ∀ j ∈ F, hget H' j = hget H j) : Wr H' p F bs := by
  obtain ⟨v, FU, rfl, h1, h2, h3⟩ := h
  exact ⟨v, FU, rfl, by rw [hl p (by simp)]; exact h1, h2.low (fun j hj => hl j (by simp [hj])), h3⟩
theorem own_shape {H : AH} {v : Value} {e : TypeId} {sz : Nat} {cells : List Value} {F : List Nat} (h : OwnF H v e sz cells F) : notTuple v = true ∧ v.cells = #[v] := by
  rcases h with ⟨rfl, _⟩ | ⟨j, len, rfl, _⟩ <;> exact ⟨rfl, rfl⟩
attribute [local simp] wb_bool wb_undef XL_nil XL_cons XLc_val XLc_call step1_eq stepW_t stepW_f stepC_n stepC_s stepX_s stepX_n stepN_s calleeX oneV xop_eq xopR_s xopR_n wantedA_eq wantedG_n wantedG_s plain1_int plain1_bool plain1_string bits_i64 bits_u64 bits_u32 bits_u16 bits_u8 xeqA xarr allK_iv num_iv calleeOf xread xeff xbin xint xnil xun xstr xload xconv xpart xfield xfieldAddr xindexAddr xindex bnd asInt? xslice xlen xmin xmax xbuild xfill xappend xapp2 xappstr xappmk xcap xcopy xcells eval_tmp eval_const put_at put_none fr0_at cells_agg cells_int cells_bool cells_string cells_ptr cells_slice notTuple tab iv_all hget_app hget_app0 hget_cons0 hget_cons set_app set_app0 setR setR_one QL_nil QL_cons QLc_val stepQ_t stepQ_f stepQC_n stepQC_s stepQX_s SL_nil SL_cons SLc_val stepS_t stepS_f ltT ltF leT leF eqT eqF ltTn ltFn leTn leFn eqTn eqFn beqT beqF bneT bneF wi64 wu64 wu32 wu16 wu8 tmodP tdivP hgetL hgetNe hgetEq setL nums_def nums_len Nat.succ_le_of_lt List.getElem?_cons_zero List.getElem?_cons_succ Option.getD_some Int.toNat_add Int.toNat_mul agB agI agS agP agL agA okB okI okS okP okSl okA
/-- More bytes: those that x shows. -/
theorem wr_append {nro : Nat} {H G : AH} {p : Nat} {F : List Nat} {bs news : List Int} {x : Value} (h : Wr H p F bs) (hnro : ∀ j ∈ F, nro ≤ j) (hG : H.length ≤ G.length) (hl : ∀ j, j < H.length → hget G j = hget H j) (hstr : ∀ s, x ≠ .string s) (hx : xcells 1 x G = some (iv .u8 news)) (hn : news ≠ []) (hb : bs.length + news.length ≤ 1000000) :
    ∃ v v' H', hget H p = some ⟨[v], 27, none⟩ ∧ notTuple v = true ∧ xappend Try.prog nro 25 v x G = some (v', H') ∧ notTuple v' = true ∧ v'.cells = #[v'] ∧ hget H' p = some ⟨[v], 27, none⟩ ∧
      Wr (H'.set p (some ⟨[v'], 27, none⟩)) p [p, G.length] (bs ++ news) ∧ Fr H (H'.set p (some ⟨[v'], 27, none⟩)) F [p, G.length] := by
  have hlt := h.lt
  obtain ⟨v, FU, rfl, h1, h2, h3⟩ := h
  have hpl := hget_lt h1
  have hivn : (iv .u8 news).length = news.length := iv_length _ _
  have hivb : (iv .u8 bs).length = bs.length := iv_length _ _
  have hnn : iv .u8 news ≠ [] := fun e => hn (by have := congrArg List.length e; rw [hivn] at this; exact List.eq_nil_of_length_eq_zero this)
  obtain ⟨v', H', hap, ho, hlen, hk⟩ := ownF_append (P := Try.prog) (nro := nro) (t := 25) (e := 5) (H := G) (v := v) (x := x) (sz := 1) (cells := iv .u8 bs) (news := iv .u8 news) (F := FU) (by simp) (by simp) (by omega) (by simp) (h2.low (fun j hj => hl j (h2.lt j hj)))
    (fun j hj => hnro j (by simp [hj])) hstr hx hnn (Nat.mod_one _) (by rw [hivn, hivb]; simp; omega) (by rw [hivn, hivb]; simp [maxLen]; omega)
  have hp' : hget H' p = some ⟨[v], 27, none⟩ := (hk p (by omega) h3).trans ((hl p hpl).trans h1)
  have hs := own_shape h2
  have hs' := own_shape ho
  have hpg : p < G.length := by omega
  refine ⟨v, v', H', h1, hs.1, hap, hs'.1, hs'.2, hp', ⟨v', [G.length], rfl, hget_set_eq (by omega), ?_, by simp; omega⟩, ⟨by simp; omega, fun j hj hn => ?_, fun j hj => ?_⟩⟩
  · rw [iv_append]
    exact ho.low (fun j hj => hget_set_ne (by rw [List.mem_singleton] at hj; omega))
  · rw [hget_set_ne (fun e => hn (by simp [e])), hk j (by omega) (fun hm => hn (by simp [hm])), hl j hj]
  · simp only [List.mem_cons, List.not_mem_nil, or_false] at hj
    rcases hj with rfl | rfl
    · exact .inl (by simp)
    · exact .inr hG
end

section
open Go Go.RowKit
set_option linter.unusedVariables false
set_option linter.unusedSimpArgs false
set_option maxRecDepth 100000

theorem or128 : ∀ a : Nat, a < 128 → bitsOf .or .u8 (a : Int) 128 = (a : Int) + 128 := by decide +kernel
theorem and_nat (m : Nat) (hm : m < 4294967296) : bitsOf .and .u32 (m : Int) 127 = ((m % 128 : Nat) : Int) := by
  show IntKind.u32.wrap ((BitVec.ofInt 32 (m : Int) &&& BitVec.ofInt 32 127).toNat : Int) = _
  have h : (BitVec.ofInt 32 (m : Int) &&& BitVec.ofInt 32 127).toNat = m % 128 := by
    rw [BitVec.toNat_and]
    have h1 : (BitVec.ofInt 32 (m : Int)).toNat = m := by
      rw [BitVec.toNat_ofInt]; omega
    rw [h1]
    show m &&& 127 = _
    exact Nat.and_two_pow_sub_one_eq_mod m 7
  rw [h]
  simp only [IntKind.wrap_u32']
  omega
/-- The groups of a number from the g-th on down to the first. -/
def hiG (n : Nat) : Nat → List Int
  | 0 => []
  | g + 1 => (if n / 128 ^ (g + 1) = 0 then [] else [((n / 128 ^ (g + 1) % 128 : Nat) : Int) + 128]) ++ hiG n g
/-- A number's bytes. -/
def numB (n : Nat) : List Int := hiG n 4 ++ [((n % 128 : Nat) : Int)]
theorem hiG_len (n : Nat) : ∀ g, (hiG n g).length ≤ g
  | 0 => by simp [hiG]
  | g + 1 => by
    have := hiG_len n g
    unfold hiG
    split <;> simp <;> omega
theorem numB_len (n : Nat) : (numB n).length ≤ 5 := by
  have := hiG_len n 4
  simp [numB]; omega
end

section
open Go Go.RowKit
set_option linter.unusedVariables false
set_option linter.unusedSimpArgs false
set_option maxRecDepth 100000
set_option maxHeartbeats 4000000
theorem nt_int (k : IntKind) (x : Int) : notTuple (.int k x) = true := rfl
theorem nt_sl (a : Option Addr) (n c : Nat) : notTuple (.slice a n c) = true := rfl
def numsB (l : List Int) : List Int := l.flatMap fun x => numB x.toNat
theorem numsB_next {l : List Int} {i : Nat} {x : Int} (h : l[i]? = some x) : numsB (l.take (i + 1)) = numsB (l.take i) ++ numB x.toNat := by
  unfold numsB
  rw [List.take_add_one, h, List.flatMap_append]
  simp
theorem numsB_len (l : List Int) : (numsB l).length ≤ 5 * l.length := by
  induction l with
  | nil => simp [numsB]
  | cons x l ih =>
    have := numB_len x.toNat
    simp only [numsB, List.flatMap_cons, List.length_append, List.length_cons] at ih ⊢
    omega
attribute [local simp] wb_bool wb_undef XL_nil XL_cons XLc_val XLc_call step1_eq stepW_t stepW_f stepC_n stepC_s stepX_s stepX_n stepN_s calleeX oneV xop_eq xopR_s xopR_n wantedA_eq wantedG_n wantedG_s plain1_int plain1_bool plain1_string bits_i64 bits_u64 bits_u32 bits_u16 bits_u8 xeqA xarr allK_iv num_iv calleeOf xread xeff xbin xint xnil xun xstr xload xconv xpart xfield xfieldAddr xindexAddr xindex bnd asInt? xslice xlen xmin xmax xbuild xfill xappend xapp2 xappstr xappmk xcap xcopy xcells eval_tmp eval_const put_at put_none fr0_at cells_agg cells_int cells_bool cells_string cells_ptr cells_slice notTuple tab iv_all hget_app hget_app0 hget_cons0 hget_cons set_app set_app0 setR setR_one QL_nil QL_cons QLc_val stepQ_t stepQ_f stepQC_n stepQC_s stepQX_s SL_nil SL_cons SLc_val stepS_t stepS_f ltT ltF leT leF eqT eqF ltTn ltFn leTn leFn eqTn eqFn beqT beqF bneT bneF wi64 wu64 wu32 wu16 wu8 tmodP tdivP hgetL hgetNe hgetEq setL nums_def nums_len Nat.succ_le_of_lt List.getElem?_cons_zero List.getElem?_cons_succ Option.getD_some Int.toNat_add Int.toNat_mul agB agI agS agP agL agA okB okI okS okP okSl okA
theorem numbers_ac {H : AH} {γ : Nat → Option Nat} {nro p : Nat} {F : List Nat} {bs l : List Int} {v : Value} (h : Wr H p F bs) (hlo : ∀ j ∈ F, nro ≤ j) (hnl : nro ≤ H.length) (hv : SlS H F v (iv .u32 l)) (hl : ∀ x ∈ l, 0 ≤ x ∧ x ≤ 4294967295) (hlen : bs.length + 5 * l.length ≤ 100000) :
    AC Try.prog nro γ 21 #[.pointer (some ⟨p, 0, none⟩), v] H (fun v' H' => ∃ F', Wr H' p F' (bs ++ numsB l) ∧ Fr H H' F F') := by
  have hno : notTuple v = true := by rcases hv.now with ⟨a, rfl, _⟩ | ⟨j, off, k, rfl, _⟩ <;> rfl
  have hxl := hv.now.len (P := Try.prog) (t := 30) (e := 37) (by simp)
  have hil : (iv .u32 l).length = l.length := iv_length _ _
  rw [hil] at hxl
  have hnp : nro ≤ p := hlo p (by obtain ⟨v, FU, rfl, _⟩ := h; simp)
  refine ac_of_aw Try.func21 rfl Try.ntmps21 Try.results21 (by simp) ?_
  refine aw_seq ?_
  (refine aw_ops (by kernel_rfl) (fun K hK => ?_); simp (disch := first | omega | (simp only [List.length_set, List.length_append, List.length_cons, List.length_nil, iv_length, zl_length]; try omega; done)) [-getElem?_pos, -getElem?_neg, -xlen, hxl]; refine hK _ _ ?_; clear hK K)
  refine aw_block ?_
  refine aw_loop (fun c α G => ∃ i : Nat, i + c = l.length ∧ α 10 = .int .i64 (i : Nat) ∧ α 9 = .int .i64 (l.length : Nat) ∧ α 8 = v ∧ α 0 = .pointer (some ⟨p, 0, none⟩) ∧ ∃ F', Wr G p F' (bs ++ numsB (l.take i)) ∧ Fr H G F F') l.length ?_ ?_
  · exact ⟨0, by omega, by (first | (simp [put_at, put_none, fr0_at]; done) | rfl), by (first | (simp [put_at, put_none, fr0_at]; done) | rfl), by (first | (simp [put_at, put_none, fr0_at]; done) | rfl), by (first | (simp [put_at, put_none, fr0_at]; done) | rfl), F, by simpa [numsB] using h, .refl _ _⟩
  rintro c α G ⟨i, hic, h10, h9, h8, h0, F1, hw, hf⟩
  refine aw_seq ?_
  (refine aw_ops (by kernel_rfl) (fun K hK => ?_); simp (disch := first | omega | (simp only [List.length_set, List.length_append, List.length_cons, List.length_nil, iv_length, zl_length]; try omega; done)) [-getElem?_pos, -getElem?_neg, h10, h9]; refine hK _ _ ?_; clear hK K)
  refine aw_seq ?_
  by_cases hi : i < l.length
  case neg =>
    refine aw_f (by (first | (simp [eval_tmp, put_at, hi]; done) | (simp [eval_tmp, put_at, hi]; omega))) (by kernel_rfl) ?_
    refine aw_exit ?_
    refine ⟨_, _, rfl, rfl, F1, ?_, hf⟩
    obtain rfl : i = l.length := by omega
    rwa [List.take_length] at hw
  refine aw_t (by (first | (simp [eval_tmp, put_at, hi]; done) | (simp [eval_tmp, put_at, hi]; omega))) (by kernel_rfl) ?_
  refine aw_skip ?_
  refine aw_seq ?_
  refine aw_block ?_
  obtain ⟨x, hx⟩ : ∃ x, l[i]? = some x := ⟨_, List.getElem?_eq_getElem hi⟩
  obtain ⟨hx0, hx1⟩ := hl x (List.mem_of_getElem? hx)
  obtain ⟨n, rfl⟩ : ∃ n : Nat, x = (n : Nat) := ⟨x.toNat, by omega⟩
  have hvG := hv.fr hf
  have hcx : (iv .u32 l)[i]? = some (.int .u32 (n : Nat)) := by simp [iv, hx]
  obtain ⟨px, hpx, hlx⟩ := hvG.now.cell (P := Try.prog) (t := 30) (e := 37) (by simp) (by simp) (by simp) (by simp) hcx
  have hxa : xindexAddr Try.prog 30 v (.int .i64 (i : Nat)) = some px := hpx
  have hnpx : notTuple px = true := by
    unfold xload at hlx
    cases px <;> first | rfl | (simp at hlx)
  refine aw_seq ?_
  (refine aw_ops (by kernel_rfl) (fun K hK => ?_); simp (disch := first | omega | (simp only [List.length_set, List.length_append, List.length_cons, List.length_nil, iv_length, zl_length]; try omega; done)) [-getElem?_pos, -getElem?_neg, h8, h10, -xindexAddr, hxa, -xload, hlx, hnpx]; refine hK _ _ ?_; clear hK K)
  have hn32 : n < 4294967296 := by omega
  have hft : (numsB (l.take i)).length ≤ 5 * i := by
    have := numsB_len (l.take i)
    rw [List.length_take] at this; omega
  have lt2 : ∀ {G : AH} {F' : List Nat}, Fr H G F F' → ∀ j ∈ F', nro ≤ j := fun hf j hj => by
    rcases hf.new j hj with h1 | h1
    · exact hlo j h1
    · omega
  refine aw_seq ?_
  refine aw_seq ?_
  (refine aw_ops (by kernel_rfl) (fun K hK => ?_); simp (disch := first | omega | (simp only [List.length_set, List.length_append, List.length_cons, List.length_nil, iv_length, zl_length]; try omega; done)) [-getElem?_pos, -getElem?_neg]; refine hK _ _ ?_; clear hK K)
  refine aw_cut (fun α G2 => α 5 = .int .u32 (n : Nat) ∧ α 10 = .int .i64 (i : Nat) ∧ α 9 = .int .i64 (l.length : Nat) ∧ α 8 = v ∧ α 0 = .pointer (some ⟨p, 0, none⟩) ∧ ∃ F', Wr G2 p F' (bs ++ numsB (l.take i) ++ hiG n 4) ∧ Fr H G2 F F') ?_ ?_
  · refine aw_block ?_
    refine aw_loop (fun c α G2 => ∃ part : List Int, c ≤ 4 ∧ hiG n 4 = part ++ hiG n c ∧ part.length + c ≤ 4 ∧ α 6 = .int .i64 (c : Nat) ∧ α 5 = .int .u32 (n : Nat) ∧ α 10 = .int .i64 (i : Nat) ∧ α 9 = .int .i64 (l.length : Nat) ∧ α 8 = v ∧ α 0 = .pointer (some ⟨p, 0, none⟩) ∧ ∃ F', Wr G2 p F' (bs ++ numsB (l.take i) ++ part) ∧ Fr H G2 F F') 4 ?_ ?_
    · exact ⟨[], by omega, by simp, by simp, by (first | (simp [put_at, put_none, fr0_at]; done) | rfl), by (first | (simp [put_at, put_none, fr0_at]; done) | rfl), by (first | (simp [put_at, put_none, fr0_at, h10]; done) | rfl), by (first | (simp [put_at, put_none, fr0_at, h9]; done) | rfl), by (first | (simp [put_at, put_none, fr0_at, h8]; done) | rfl), by (first | (simp [put_at, put_none, fr0_at, h0]; done) | rfl), F1, by simpa using hw, hf⟩
    clear h10 h9 h8 h0 hw hf
    rintro g α G2 ⟨part, hg4, hpart, hpl, h6, h5, h10, h9, h8, h0, F2, hw, hf⟩
    refine aw_seq ?_
    refine aw_seq ?_
    cases g with
    | zero =>
      (refine aw_ops (by kernel_rfl) (fun K hK => ?_); simp (disch := first | omega | (simp only [List.length_set, List.length_append, List.length_cons, List.length_nil, iv_length, zl_length]; try omega; done)) [-getElem?_pos, -getElem?_neg, h6]; refine hK _ _ ?_; clear hK K)
      refine aw_f (by (first | (simp [eval_tmp, put_at]; done) | (simp [eval_tmp, put_at]; omega))) (by kernel_rfl) ?_
      refine aw_exit ?_
      refine ⟨by (first | (simp [put_at, put_none, fr0_at, h5]; done) | rfl), by (first | (simp [put_at, put_none, fr0_at, h10]; done) | rfl), by (first | (simp [put_at, put_none, fr0_at, h9]; done) | rfl), by (first | (simp [put_at, put_none, fr0_at, h8]; done) | rfl), by (first | (simp [put_at, put_none, fr0_at, h0]; done) | rfl), F2, ?_, hf⟩
      rw [hpart]
      simpa [hiG] using hw
    | succ g =>
      (refine aw_ops (by kernel_rfl) (fun K hK => ?_); simp (disch := first | omega | (simp only [List.length_set, List.length_append, List.length_cons, List.length_nil, iv_length, zl_length]; try omega; done)) [-getElem?_pos, -getElem?_neg, h6]; refine hK _ _ ?_; clear hK K)
      refine aw_t (by (first | (simp [eval_tmp, put_at]; done) | (simp [eval_tmp, put_at]; omega))) (by kernel_rfl) ?_
      refine aw_skip ?_
      refine aw_seq ?_
      refine aw_block ?_
      refine aw_seq ?_
      refine aw_cut (fun α G3 => G3 = G2 ∧ α 7 = .int .u32 ((n / 128 ^ (g + 1) : Nat) : Int) ∧ α 6 = .int .i64 ((g + 1 : Nat) : Int) ∧ α 5 = .int .u32 (n : Nat) ∧ α 10 = .int .i64 (i : Nat) ∧ α 9 = .int .i64 (l.length : Nat) ∧ α 8 = v ∧ α 0 = .pointer (some ⟨p, 0, none⟩)) ?_ ?_
      · have hgs : g = 0 ∨ g = 1 ∨ g = 2 ∨ g = 3 := by omega
        rcases hgs with rfl | rfl | rfl | rfl
        · (refine aw_ops (by kernel_rfl) (fun K hK => ?_); simp (disch := first | omega | (simp only [List.length_set, List.length_append, List.length_cons, List.length_nil, iv_length, zl_length]; try omega; done)) [-getElem?_pos, -getElem?_neg, h5, h6, fdivP]; refine hK _ _ ?_; clear hK K)
          exact ⟨rfl, by simp [put_at], by (first | (simp [put_at, put_none, fr0_at, h6]; done) | rfl), by (first | (simp [put_at, put_none, fr0_at, h5]; done) | rfl), by (first | (simp [put_at, put_none, fr0_at, h10]; done) | rfl), by (first | (simp [put_at, put_none, fr0_at, h9]; done) | rfl), by (first | (simp [put_at, put_none, fr0_at, h8]; done) | rfl), by (first | (simp [put_at, put_none, fr0_at, h0]; done) | rfl)⟩
        · (refine aw_ops (by kernel_rfl) (fun K hK => ?_); simp (disch := first | omega | (simp only [List.length_set, List.length_append, List.length_cons, List.length_nil, iv_length, zl_length]; try omega; done)) [-getElem?_pos, -getElem?_neg, h5, h6, fdivP]; refine hK _ _ ?_; clear hK K)
          exact ⟨rfl, by simp [put_at], by (first | (simp [put_at, put_none, fr0_at, h6]; done) | rfl), by (first | (simp [put_at, put_none, fr0_at, h5]; done) | rfl), by (first | (simp [put_at, put_none, fr0_at, h10]; done) | rfl), by (first | (simp [put_at, put_none, fr0_at, h9]; done) | rfl), by (first | (simp [put_at, put_none, fr0_at, h8]; done) | rfl), by (first | (simp [put_at, put_none, fr0_at, h0]; done) | rfl)⟩
        · (refine aw_ops (by kernel_rfl) (fun K hK => ?_); simp (disch := first | omega | (simp only [List.length_set, List.length_append, List.length_cons, List.length_nil, iv_length, zl_length]; try omega; done)) [-getElem?_pos, -getElem?_neg, h5, h6, fdivP]; refine hK _ _ ?_; clear hK K)
          exact ⟨rfl, by simp [put_at], by (first | (simp [put_at, put_none, fr0_at, h6]; done) | rfl), by (first | (simp [put_at, put_none, fr0_at, h5]; done) | rfl), by (first | (simp [put_at, put_none, fr0_at, h10]; done) | rfl), by (first | (simp [put_at, put_none, fr0_at, h9]; done) | rfl), by (first | (simp [put_at, put_none, fr0_at, h8]; done) | rfl), by (first | (simp [put_at, put_none, fr0_at, h0]; done) | rfl)⟩
        · (refine aw_ops (by kernel_rfl) (fun K hK => ?_); simp (disch := first | omega | (simp only [List.length_set, List.length_append, List.length_cons, List.length_nil, iv_length, zl_length]; try omega; done)) [-getElem?_pos, -getElem?_neg, h5, h6, fdivP]; refine hK _ _ ?_; clear hK K)
          exact ⟨rfl, by simp [put_at], by (first | (simp [put_at, put_none, fr0_at, h6]; done) | rfl), by (first | (simp [put_at, put_none, fr0_at, h5]; done) | rfl), by (first | (simp [put_at, put_none, fr0_at, h10]; done) | rfl), by (first | (simp [put_at, put_none, fr0_at, h9]; done) | rfl), by (first | (simp [put_at, put_none, fr0_at, h8]; done) | rfl), by (first | (simp [put_at, put_none, fr0_at, h0]; done) | rfl)⟩
      clear h10 h9 h8 h0 h6 h5
      rintro α G3 ⟨rfl, h7, h6, h5, h10, h9, h8, h0⟩
      obtain ⟨m, hm⟩ : ∃ m, m = n / 128 ^ (g + 1) := ⟨_, rfl⟩
      have hm32 : m < 4294967296 := by
        have := Nat.div_le_self n (128 ^ (g + 1)); omega
      rw [← hm] at h7
      refine aw_seq ?_
      by_cases hz : m = 0
      · (refine aw_ops (by kernel_rfl) (fun K hK => ?_); simp (disch := first | omega | (simp only [List.length_set, List.length_append, List.length_cons, List.length_nil, iv_length, zl_length]; try omega; done)) [-getElem?_pos, -getElem?_neg, h7, hz]; refine hK _ _ ?_; clear hK K)
        refine aw_f (by (first | (simp [eval_tmp, put_at]; done) | (simp [eval_tmp, put_at]; omega))) (by kernel_rfl) ?_
        refine aw_skip ?_
        (refine aw_ops (by kernel_rfl) (fun K hK => ?_); simp (disch := first | omega | (simp only [List.length_set, List.length_append, List.length_cons, List.length_nil, iv_length, zl_length]; try omega; done)) [-getElem?_pos, -getElem?_neg, h6]; refine hK _ _ ?_; clear hK K)
        refine ⟨g, by omega, part, by omega, ?_, by omega, by simp [put_at], by (first | (simp [put_at, put_none, fr0_at, h5]; done) | rfl), by (first | (simp [put_at, put_none, fr0_at, h10]; done) | rfl), by (first | (simp [put_at, put_none, fr0_at, h9]; done) | rfl), by (first | (simp [put_at, put_none, fr0_at, h8]; done) | rfl), by (first | (simp [put_at, put_none, fr0_at, h0]; done) | rfl), F2, hw, hf⟩
        rw [hpart, hiG, ← hm, if_pos hz, List.nil_append]
      · obtain ⟨b0, hb0⟩ : ∃ b0 : Int, b0 = ((m % 128 : Nat) : Int) + 128 := ⟨_, rfl⟩
        have hmm : m % 128 < 128 := Nat.mod_lt _ (by omega)
        have hor := or128 (m % 128) hmm
        rw [← hb0] at hor
        have hand := and_nat m hm32
        have hwrp : IntKind.u8.wrap ((m % 128 : Nat) : Int) = ((m % 128 : Nat) : Int) := wrap8_in (by omega)
        obtain ⟨m7, hm7⟩ : ∃ m7 : Int, m7 = ((m % 128 : Nat) : Int) := ⟨_, rfl⟩
        rw [← hm7] at hor hand hwrp
        have hxc : xcells 1 (.slice (some ⟨G3.length, 0, none⟩) 1 1) (G3 ++ [some ⟨[.int .u8 b0], 5, some 1⟩]) = some (iv .u8 [b0]) := by simp [xcells, iv, hget_app0]
        obtain ⟨w, w', H', hgw, hnw, hap, hnw', hcw', hgw', hwr, hfr⟩ := wr_append (nro := nro) (G := G3 ++ [some ⟨[.int .u8 b0], 5, some 1⟩]) hw (lt2 hf) (by simp) (fun j hj => hget_left hj) (fun s e => by cases e) hxc (by simp) (by simp; omega)
        (refine aw_ops (by kernel_rfl) (fun K hK => ?_); simp (disch := first | omega | (simp only [List.length_set, List.length_append, List.length_cons, List.length_nil, iv_length, zl_length]; try omega; done)) [-getElem?_pos, -getElem?_neg, h7, hz]; refine hK _ _ ?_; clear hK K)
        refine aw_t (by (first | (simp [eval_tmp, put_at, hz]; done) | (simp [eval_tmp, put_at, hz]; omega))) (by kernel_rfl) ?_
        (refine aw_ops (by kernel_rfl) (fun K hK => ?_); simp (disch := first | omega | (simp only [List.length_set, List.length_append, List.length_cons, List.length_nil, iv_length, zl_length]; try omega; done)) [-getElem?_pos, -getElem?_neg, h7, h0, hand, hwrp, hor, hgw, hgw', hnw, hnw', hcw', -notTuple, nt_int, nt_sl, -xappend, hap, hget_left, hnp]; refine hK _ _ ?_; clear hK K)
        (refine aw_ops (by kernel_rfl) (fun K hK => ?_); simp (disch := first | omega | (simp only [List.length_set, List.length_append, List.length_cons, List.length_nil, iv_length, zl_length]; try omega; done)) [-getElem?_pos, -getElem?_neg, h6]; refine hK _ _ ?_; clear hK K)
        refine ⟨g, by omega, part ++ [b0], by omega, ?_, by simp; omega, by simp [put_at], by (first | (simp [put_at, put_none, fr0_at, h5]; done) | rfl), by (first | (simp [put_at, put_none, fr0_at, h10]; done) | rfl), by (first | (simp [put_at, put_none, fr0_at, h9]; done) | rfl), by (first | (simp [put_at, put_none, fr0_at, h8]; done) | rfl), by (first | (simp [put_at, put_none, fr0_at, h0]; done) | rfl), _, ?_, hf.trans hfr⟩
        · rw [hpart, hiG, ← hm, if_neg hz, ← hb0, List.append_assoc]
        · rw [← List.append_assoc]; exact hwr
  clear h10 h9 h8 h0 hw hf
  rintro α GG ⟨h5, h10, h9, h8, h0, F2, hw, hf⟩
  obtain ⟨m7, hm7⟩ : ∃ m7 : Int, m7 = ((n % 128 : Nat) : Int) := ⟨_, rfl⟩
  have hand := and_nat n hn32
  have hmm : n % 128 < 128 := Nat.mod_lt _ (by omega)
  have hwrp : IntKind.u8.wrap m7 = m7 := wrap8_in (by omega)
  rw [← hm7] at hand
  have hhl := hiG_len n 4
  have hxc : xcells 1 (.slice (some ⟨GG.length, 0, none⟩) 1 1) (GG ++ [some ⟨[.int .u8 m7], 5, some 1⟩]) = some (iv .u8 [m7]) := by simp [xcells, iv, hget_app0]
  obtain ⟨w, w', H', hgw, hnw, hap, hnw', hcw', hgw', hwr, hfr⟩ := wr_append (nro := nro) (G := GG ++ [some ⟨[.int .u8 m7], 5, some 1⟩]) hw (lt2 hf) (by simp) (fun j hj => hget_left hj) (fun s e => by cases e) hxc (by simp) (by simp; omega)
  (refine aw_ops (by kernel_rfl) (fun K hK => ?_); simp (disch := first | omega | (simp only [List.length_set, List.length_append, List.length_cons, List.length_nil, iv_length, zl_length]; try omega; done)) [-getElem?_pos, -getElem?_neg, h5, h0, hand, hwrp, hgw, hgw', hnw, hnw', hcw', -notTuple, nt_int, nt_sl, -xappend, hap, hget_left, hnp]; refine hK _ _ ?_; clear hK K)
  (refine aw_ops (by kernel_rfl) (fun K hK => ?_); simp (disch := first | omega | (simp only [List.length_set, List.length_append, List.length_cons, List.length_nil, iv_length, zl_length]; try omega; done)) [-getElem?_pos, -getElem?_neg, h10]; refine hK _ _ ?_; clear hK K)
  refine ⟨c - 1, by omega, i + 1, by omega, by (first | (simp [put_at, put_none, fr0_at]; done) | rfl), by (first | (simp [put_at, put_none, fr0_at, h9]; done) | rfl), by (first | (simp [put_at, put_none, fr0_at, h8]; done) | rfl), by (first | (simp [put_at, put_none, fr0_at, h0]; done) | rfl), _, ?_, hf.trans hfr⟩
  rw [numsB_next hx]
  simp only [numB, Int.toNat_natCast]
  rw [hm7] at hwr
  rw [← List.append_assoc, ← List.append_assoc]
  rw [hm7]
  exact hwr
end

section
open Go Go.RowKit
set_option linter.unusedVariables false
set_option linter.unusedSimpArgs false
set_option maxRecDepth 100000
set_option maxHeartbeats 4000000
attribute [local simp] wb_bool wb_undef XL_nil XL_cons XLc_val XLc_call step1_eq stepW_t stepW_f stepC_n stepC_s stepX_s stepX_n stepN_s calleeX oneV xop_eq xopR_s xopR_n wantedA_eq wantedG_n wantedG_s plain1_int plain1_bool plain1_string bits_i64 bits_u64 bits_u32 bits_u16 bits_u8 xeqA xarr allK_iv num_iv calleeOf xread xeff xbin xint xnil xun xstr xload xconv xpart xfield xfieldAddr xindexAddr xindex bnd asInt? xslice xlen xmin xmax xbuild xfill xappend xapp2 xappstr xappmk xcap xcopy xcells eval_tmp eval_const put_at put_none fr0_at cells_agg cells_int cells_bool cells_string cells_ptr cells_slice notTuple tab iv_all hget_app hget_app0 hget_cons0 hget_cons set_app set_app0 setR setR_one QL_nil QL_cons QLc_val stepQ_t stepQ_f stepQC_n stepQC_s stepQX_s SL_nil SL_cons SLc_val stepS_t stepS_f ltT ltF leT leF eqT eqF ltTn ltFn leTn leFn eqTn eqFn beqT beqF bneT bneF wi64 wu64 wu32 wu16 wu8 tmodP tdivP hgetL hgetNe hgetEq setL nums_def nums_len Nat.succ_le_of_lt List.getElem?_cons_zero List.getElem?_cons_succ Option.getD_some Int.toNat_add Int.toNat_mul agB agI agS agP agL agA okB okI okS okP okSl okA
/-- A slice of one number that lies fresh. -/
theorem one_sls {G : AH} {F : List Nat} {x : Int} (hF : ∀ j ∈ F, j < G.length) : ∀ G1 : AH, G1 = G ++ [some ⟨[.int .u32 x], 37, some 1⟩] → SlS G1 F (.slice (some ⟨G.length, 0, none⟩) 1 1) (iv .u32 [x]) := by
  rintro G1 rfl G2 hg
  have e : hget G2 G.length = some ⟨[.int .u32 x], 37, some 1⟩ := (hg G.length (by rw [List.length_append]; exact Nat.lt_succ_self _) (fun hm => by have := hF _ hm; omega)).trans (by rw [hget_app0]; rfl)
  refine .inr ⟨G.length, 0, _, rfl, e, fun i x hi => ?_⟩
  simpa [iv] using hi
theorem numlist_ac {H : AH} {γ : Nat → Option Nat} {nro p : Nat} {F : List Nat} {bs l : List Int} {v : Value} (h : Wr H p F bs) (hlo : ∀ j ∈ F, nro ≤ j) (hnl : nro ≤ H.length) (hv : SlS H F v (iv .u32 l)) (hl : ∀ x ∈ l, 0 ≤ x ∧ x ≤ 4294967295) (hlen : bs.length + 5 * l.length ≤ 90000) :
    AC Try.prog nro γ 24 #[.pointer (some ⟨p, 0, none⟩), v] H (fun v' H' => ∃ F', Wr H' p F' (bs ++ numB l.length ++ numsB l) ∧ Fr H H' F F') := by
  have hno : notTuple v = true := by rcases hv.now with ⟨a, rfl, _⟩ | ⟨j, off, k, rfl, _⟩ <;> rfl
  have hxl := hv.now.len (P := Try.prog) (t := 30) (e := 37) (by simp)
  have hil : (iv .u32 l).length = l.length := iv_length _ _
  rw [hil] at hxl
  have hwl : IntKind.u32.wrap (l.length : Nat) = (l.length : Nat) := by simp only [IntKind.wrap_u32']; omega
  have hlt := h.lt
  have hs1 := one_sls (x := (l.length : Nat)) hlt _ rfl
  have hf0 : Fr H (H ++ [some ⟨[.int .u32 (l.length : Nat)], 37, some 1⟩]) F F := Fr.mk (by simp) (fun j hj _ => hget_left hj) (fun j hj => .inl hj)
  have hw1 := h.low (H' := H ++ [some ⟨[.int .u32 (l.length : Nat)], 37, some 1⟩]) (fun j hj => hget_left (hlt j hj))
  have hn5 := numB_len l.length
  refine ac_of_aw Try.func24 rfl Try.ntmps24 Try.results24 (by simp) ?_
  refine aw_seq ?_
  refine aw_ops (by kernel_rfl) (fun K hK => ?_)
  simp (disch := first | omega | (simp only [List.length_set, List.length_append, List.length_cons, List.length_nil, iv_length, zl_length]; try omega; done)) [-getElem?_pos, -getElem?_neg, -xlen, hxl, hwl]
  refine ⟨by kernel_rfl, (numbers_ac hw1 hlo (by rw [List.length_append]; omega) hs1 (by simp; omega) (by simp; omega)).mono ?_⟩
  rintro v1 H1 ⟨F1, hw2, hf1⟩
  try simp (disch := first | omega | (simp only [List.length_set, List.length_append, List.length_cons, List.length_nil, iv_length, zl_length]; try omega; done)) [-getElem?_pos, -getElem?_neg]
  refine hK _ _ ?_; clear hK K
  have hf2 := hf0.trans hf1
  have e1 : numsB [((l.length : Nat) : Int)] = numB l.length := by simp [numsB]
  rw [e1] at hw2
  have hbl : (bs ++ numB l.length).length + 5 * l.length ≤ 100000 := by rw [List.length_append]; omega
  refine aw_ops (by kernel_rfl) (fun K hK => ?_)
  simp (disch := first | omega | (simp only [List.length_set, List.length_append, List.length_cons, List.length_nil, iv_length, zl_length]; try omega; done)) [-getElem?_pos, -getElem?_neg]
  refine ⟨by kernel_rfl, (numbers_ac hw2 (fun j hj => ?_) (by have := hf2.len; omega) (hv.fr hf2) hl hbl).mono ?_⟩
  · rcases hf2.new j hj with h1 | h1
    · exact hlo j h1
    · omega
  rintro v2 H2 ⟨F2, hw3, hf3⟩
  try simp (disch := first | omega | (simp only [List.length_set, List.length_append, List.length_cons, List.length_nil, iv_length, zl_length]; try omega; done)) [-getElem?_pos, -getElem?_neg]
  refine hK _ _ ?_; clear hK K
  exact ⟨_, _, rfl, rfl, F2, hw3, hf2.trans hf3⟩
theorem wstring_ac {H : AH} {γ : Nat → Option Nat} {nro p : Nat} {F : List Nat} {bs : List Int} (h : Wr H p F bs) :
    AC Try.prog nro γ 10 #[.pointer (some ⟨p, 0, none⟩)] H (fun v' H' => v' = .string (strOfNums bs) ∧ H' = H) := by
  obtain ⟨v, FU, rfl, h1, h2, h3⟩ := h
  have hno := (own_shape h2).1
  refine ac_of_aw Try.func10 rfl Try.ntmps10 Try.results10 (by simp) ?_
  refine aw_seq ?_
  (refine aw_ops (by kernel_rfl) (fun K hK => ?_); simp (disch := first | omega | (simp only [List.length_set, List.length_append, List.length_cons, List.length_nil, iv_length, zl_length]; try omega; done)) [-getElem?_pos, -getElem?_neg]; refine hK _ _ ?_; clear hK K)
  refine aw_seq ?_
  rcases h2 with ⟨rfl, hb, _⟩ | ⟨j, len, rfl, hg, hl, _⟩
  · obtain rfl : bs = [] := by cases bs with
      | nil => rfl
      | cons x l => simp [iv] at hb
    (refine aw_ops (by kernel_rfl) (fun K hK => ?_); simp (disch := first | omega | (simp only [List.length_set, List.length_append, List.length_cons, List.length_nil, iv_length, zl_length]; try omega; done)) [-getElem?_pos, -getElem?_neg, h1, hno]; refine hK _ _ ?_; clear hK K)
    (refine aw_ret ?_; simp (disch := first | omega | (simp only [List.length_set, List.length_append, List.length_cons, List.length_nil, iv_length, zl_length]; try omega; done)) [-getElem?_pos, -getElem?_neg, thenQ_ret, scopeQ_ret, inBlockQ_ret, RQ, resL, resV])
    rfl
  · have hbl := byteList_iv bs
    have hll : len = bs.length := by rw [iv_length] at hl; omega
    subst hll
    have htk : (iv .u8 bs).take bs.length = iv .u8 bs := by rw [List.take_of_length_le]; rw [iv_length]; exact Nat.le_refl _
    (refine aw_ops (by kernel_rfl) (fun K hK => ?_); simp (disch := first | omega | (simp only [List.length_set, List.length_append, List.length_cons, List.length_nil, iv_length, zl_length]; try omega; done)) [-getElem?_pos, -getElem?_neg, h1, hno, hg, htk, hbl]; refine hK _ _ ?_; clear hK K)
    (refine aw_ret ?_; simp (disch := first | omega | (simp only [List.length_set, List.length_append, List.length_cons, List.length_nil, iv_length, zl_length]; try omega; done)) [-getElem?_pos, -getElem?_neg, thenQ_ret, scopeQ_ret, inBlockQ_ret, RQ, resL, resV])
end
end Go.Proofs.Ytpdijcaikjobiaa
