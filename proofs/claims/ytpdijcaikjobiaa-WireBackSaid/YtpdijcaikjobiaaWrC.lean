/-
  An item written, by the program and by the document.
-/
import Derived.Test.YtpdijcaikjobiaaWrB
namespace Go.Proofs.Ytpdijcaikjobiaa
section
open Go Go.RowKit
set_option linter.unusedVariables false
set_option linter.unusedSimpArgs false
set_option maxRecDepth 100000
set_option maxHeartbeats 4000000
structure It where
  kind : Int
  most : Int
  nv : Value
  ns : List Int
  tx : ByteArray
  kv : Value
  ks : List (List Int)
def It.cells (x : It) : List Value := [.int .i64 x.kind, .int .i64 x.most, x.nv, .string x.tx, x.kv]
def It.val (x : It) : Value := .agg x.cells.toArray
def ItS (H : AH) (F : List Nat) (x : It) : Prop := SlS H F x.nv (iv .u32 x.ns) ∧ KyS H F x.kv x.ks
theorem ItS.fr {H H' : AH} {F F' : List Nat} {x : It} (h : ItS H F x) (hf : Fr H H' F F') : ItS H' F' x := ⟨h.1.fr hf, h.2.fr hf⟩
structure It.Ok (x : It) : Prop where
  ns : ∀ n ∈ x.ns, 0 ≤ n ∧ n ≤ 4294967295
  ks : ∀ k ∈ x.ks, k.length = 32
  nl : x.ns.length ≤ 60
  tl : x.tx.size ≤ 300
  kl : x.ks.length ≤ 20
def wrB (x : It) : List Int :=
  if x.kind.tmod 5 = 0 then numsB x.ns else if x.kind.tmod 5 = 1 then textB x.tx ++ textB x.tx else if x.kind.tmod 5 = 2 then x.ks.flatten
  else if x.kind.tmod 5 = 3 then numB x.ks.length ++ x.ks.flatten else if x.kind.tmod 5 = 4 then numB x.ns.length ++ numsB x.ns else []
theorem flat_len {l : List (List Int)} (hl : ∀ k ∈ l, k.length = 32) : l.flatten.length = 32 * l.length := by
  rw [List.length_flatten]
  have : l.map List.length = List.replicate l.length 32 := by
    apply List.eq_replicate_iff.2
    refine ⟨by simp, fun b hb => ?_⟩
    obtain ⟨a, ha, rfl⟩ := List.mem_map.1 hb
    exact hl a ha
  rw [this, List.sum_replicate_nat]; omega
theorem wrB_len {x : It} (h : x.Ok) : (wrB x).length ≤ 1300 := by
  have h1 := numsB_len x.ns
  have h2 := textB_len x.tx
  have h3 := flat_len h.ks
  have h4 := numB_len x.ks.length
  have h5 := numB_len x.ns.length
  have := h.nl
  have := h.tl
  have := h.kl
  unfold wrB
  split
  · omega
  split
  · rw [List.length_append]; omega
  split
  · omega
  split
  · rw [List.length_append]; omega
  split
  · rw [List.length_append]; omega
  · simp
attribute [local simp] wb_bool wb_undef XL_nil XL_cons XLc_val XLc_call step1_eq stepW_t stepW_f stepC_n stepC_s stepX_s stepX_n stepN_s calleeX oneV xop_eq xopR_s xopR_n wantedA_eq wantedG_n wantedG_s plain1_int plain1_bool plain1_string bits_i64 bits_u64 bits_u32 bits_u16 bits_u8 xeqA xarr allK_iv num_iv calleeOf xread xeff xbin xint xnil xun xstr xload xconv xpart xfield xfieldAddr xindexAddr xindex bnd asInt? xslice xlen xmin xmax xbuild xfill xappend xapp2 xappstr xappmk xcap xcopy xcells eval_tmp eval_const put_at put_none fr0_at cells_agg cells_int cells_bool cells_string cells_ptr cells_slice notTuple tab iv_all hget_app hget_app0 hget_cons0 hget_cons set_app set_app0 setR setR_one QL_nil QL_cons QLc_val stepQ_t stepQ_f stepQC_n stepQC_s stepQX_s SL_nil SL_cons SLc_val stepS_t stepS_f ltT ltF leT leF eqT eqF ltTn ltFn leTn leFn eqTn eqFn beqT beqF bneT bneF wi64 wu64 wu32 wu16 wu8 tmodP tdivP hgetL hgetNe hgetEq setL nums_def nums_len Nat.succ_le_of_lt List.getElem?_cons_zero List.getElem?_cons_succ Option.getD_some Int.toNat_add Int.toNat_mul agB agI agS agP agL agA okB okI okS okP okSl okA
theorem Fr.app1 {H : AH} {F : List Nat} (L : AH) : Fr H (H ++ L) F F := Fr.mk (by simp) (fun j hj _ => hget_left hj) (fun j hj => .inl hj)
theorem sn_nil : strOfNums [] = { data := #[] } := rfl
theorem nt_of {H : AH} {v : Value} {cells : List Value} (h : SlV H v cells) : notTuple v = true ∧ v.cells = #[v] := by
  rcases h with ⟨a, rfl, _⟩ | ⟨j, off, k, rfl, _⟩ <;> exact ⟨rfl, rfl⟩
theorem ntk_of {H : AH} {v : Value} {ks : List (List Int)} (h : SlK 32 .u8 H v ks) : notTuple v = true ∧ v.cells = #[v] := by
  rcases h with ⟨a, rfl, _⟩ | ⟨j, k, rfl, _⟩ <;> exact ⟨rfl, rfl⟩
/-- A row that lies fresh, as a slice. -/
theorem fresh_sls {G : AH} {F : List Nat} {cells : List Value} {ty : TypeId} {es : Option Nat} (hF : ∀ j ∈ F, j < G.length) : SlS (G ++ [some ⟨cells, ty, es⟩]) F (.slice (some ⟨G.length, 0, none⟩) cells.length cells.length) cells := by
  intro G2 hg
  have e : hget G2 G.length = some ⟨cells, ty, es⟩ := (hg G.length (by simp) (fun hm => by have := hF _ hm; omega)).trans (by rw [hget_app0]; rfl)
  exact .inr ⟨G.length, 0, _, rfl, e, fun i x hi => by simpa using hi⟩
theorem write_ac {H : AH} {γ : Nat → Option Nat} {nro p : Nat} {F : List Nat} {bs : List Int} {x : It} (h : Wr H p F bs) (hlo : ∀ j ∈ F, nro ≤ j) (hnl : nro ≤ H.length) (hv : ItS H F x) (hok : x.Ok) (hlen : bs.length ≤ 50000) :
    AC Try.prog nro γ 9 #[.pointer (some ⟨p, 0, none⟩), x.val] H (fun v' H' => v' = .string (strOfNums (wrB x)) ∧ ∃ F', Wr H' p F' (bs ++ wrB x) ∧ Fr H H' F F') := by
  obtain ⟨kind, most, nv, ns, tx, kv, ks⟩ := x
  have hB := wrB_len hok
  obtain ⟨hns, hks, hnl60, htl, hkl⟩ := hok
  obtain ⟨hsn, hsk⟩ := hv
  simp only at hns hks hnl60 htl hkl hsn hsk
  obtain ⟨hnn, hnc⟩ := nt_of hsn.now
  obtain ⟨hkn, hkc⟩ := ntk_of hsk.now
  have hlt := h.lt
  obtain ⟨xc, hxc⟩ : ∃ xc : List Value, xc = [.int .i64 kind, .int .i64 most, nv, .string tx, kv] := ⟨_, rfl⟩
  have c0 : xc[0]? = some (.int .i64 kind) := by rw [hxc]; rfl
  have c2 : xc[2]? = some nv := by rw [hxc]; rfl
  have c3 : xc[3]? = some (.string tx) := by rw [hxc]; rfl
  have c4 : xc[4]? = some kv := by rw [hxc]; rfl
  have cl : xc.length = 5 := by rw [hxc]; rfl
  have hval : It.val ⟨kind, most, nv, ns, tx, kv, ks⟩ = .agg xc.toArray := by rw [hxc]; rfl
  rw [hval]
  obtain ⟨k5, hk5⟩ : ∃ k5, k5 = kind.tmod 5 := ⟨_, rfl⟩
  have hwB : ∀ y, y = wrB ⟨kind, most, nv, ns, tx, kv, ks⟩ → y = if k5 = 0 then numsB ns else if k5 = 1 then textB tx ++ textB tx else if k5 = 2 then ks.flatten else if k5 = 3 then numB ks.length ++ ks.flatten else if k5 = 4 then numB ns.length ++ numsB ns else [] := by
    rintro y rfl; rw [hk5]; rfl
  obtain ⟨Y, hY⟩ : ∃ Y, Y = wrB ⟨kind, most, nv, ns, tx, kv, ks⟩ := ⟨_, rfl⟩
  have hY' := hwB Y hY
  rw [← hY] at hB ⊢
  clear hwB hY hxc hval
  refine ac_of_aw Try.func9 rfl Try.ntmps9 Try.results9 (by simp) ?_
  refine aw_seq ?_
  (refine aw_ops (by kernel_rfl) (fun K hK => ?_); simp (disch := first | omega | (simp only [List.length_set, List.length_append, List.length_cons, List.length_nil, iv_length, zl_length]; try omega; done)) [-getElem?_pos, -getElem?_neg]; refine hK _ _ ?_; clear hK K)
  refine aw_seq ?_
  (refine aw_ops (by kernel_rfl) (fun K hK => ?_); simp (disch := first | omega | (simp only [List.length_set, List.length_append, List.length_cons, List.length_nil, iv_length, zl_length]; try omega; done)) [-getElem?_pos, -getElem?_neg]; refine hK _ _ ?_; clear hK K)
  obtain ⟨G0, hG0⟩ : ∃ G0, G0 = H ++ [some ⟨xc, 33, none⟩] := ⟨_, rfl⟩
  obtain ⟨b, hb⟩ : ∃ b, b = H.length := ⟨_, rfl⟩
  rw [← hG0, ← hb]
  have hb0 : hget G0 b = some ⟨xc, 33, none⟩ := by rw [hG0, hb, hget_app0]; rfl
  have hf0 : Fr H G0 F F := by rw [hG0]; exact Fr.app1 _
  have hw0 : Wr G0 p F bs := h.low (fun j hj => by rw [hG0]; exact hget_left (hlt j hj))
  have hbF : b ∉ F := fun hm => by have := hlt b hm; omega
  have hl0 : b < G0.length := hget_lt hb0
  have hbG : ∀ {G : AH} {F' : List Nat}, Fr G0 G F F' → hget G b = some ⟨xc, 33, none⟩ ∧ nro ≤ G.length ∧ ∀ j ∈ F', nro ≤ j := fun hf => by
    refine ⟨(hf.out b hl0 hbF).trans hb0, by have := hf.len; omega, fun j hj => ?_⟩
    rcases hf.new j hj with h1 | h1
    · exact hlo j h1
    · omega
  have hn5 := numB_len ns.length
  have hk5' := numB_len ks.length
  have hsn0 := hsn.fr hf0
  have hsk0 := hsk.fr hf0
  refine aw_seq ?_
  refine aw_cut (fun α G => α 5 = .string (strOfNums Y) ∧ ∃ F', Wr G p F' (bs ++ Y) ∧ Fr G0 G F F') ?_ ?_
  case refine_2 =>
    rintro α G ⟨h5, F', hw, hf⟩
    refine aw_seq ?_
    (refine aw_ops (by kernel_rfl) (fun K hK => ?_); simp (disch := first | omega | (simp only [List.length_set, List.length_append, List.length_cons, List.length_nil, iv_length, zl_length]; try omega; done)) [-getElem?_pos, -getElem?_neg, h5]; refine hK _ _ ?_; clear hK K)
    (refine aw_ret ?_; simp (disch := first | omega | (simp only [List.length_set, List.length_append, List.length_cons, List.length_nil, iv_length, zl_length]; try omega; done)) [-getElem?_pos, -getElem?_neg, thenQ_ret, scopeQ_ret, inBlockQ_ret, RQ, resL, resV])
    exact ⟨F', hw, hf0.trans hf⟩
  refine aw_seq ?_
  (refine aw_ops (by kernel_rfl) (fun K hK => ?_); simp (disch := first | omega | (simp only [List.length_set, List.length_append, List.length_cons, List.length_nil, iv_length, zl_length]; try omega; done)) [-getElem?_pos, -getElem?_neg, hb0, c0, cl, ← hk5]; refine hK _ _ ?_; clear hK K)
  refine aw_block ?_
  refine aw_seq ?_
  by_cases q0 : k5 = 0
  · subst q0
    rw [if_pos rfl] at hY'
    (refine aw_ops (by kernel_rfl) (fun K hK => ?_); simp (disch := first | omega | (simp only [List.length_set, List.length_append, List.length_cons, List.length_nil, iv_length, zl_length]; try omega; done)) [-getElem?_pos, -getElem?_neg]; refine hK _ _ ?_; clear hK K)
    refine aw_t (by (first | (simp [eval_tmp, put_at]; done) | (simp [eval_tmp, put_at]; omega))) (by kernel_rfl) ?_
    refine aw_seq ?_
    refine aw_ops (by kernel_rfl) (fun K hK => ?_)
    simp (disch := first | omega | (simp only [List.length_set, List.length_append, List.length_cons, List.length_nil, iv_length, zl_length]; try omega; done)) [-getElem?_pos, -getElem?_neg, hb0, c2, cl, hnn, -notTuple]
    refine ⟨by kernel_rfl, (numbers_ac hw0 hlo (hbG (.refl _ _)).2.1 hsn0 hns (by omega)).mono ?_⟩
    rintro v1 G1 ⟨F1, hw1, hf1⟩
    try simp (disch := first | omega | (simp only [List.length_set, List.length_append, List.length_cons, List.length_nil, iv_length, zl_length]; try omega; done)) [-getElem?_pos, -getElem?_neg]
    refine hK _ _ ?_; clear hK K
    obtain ⟨hb1, hn1, hl1⟩ := hbG hf1
    have hsn1 := hsn0.fr hf1
    refine aw_seq ?_
    (refine aw_ops (by kernel_rfl) (fun K hK => ?_); simp (disch := first | omega | (simp only [List.length_set, List.length_append, List.length_cons, List.length_nil, iv_length, zl_length]; try omega; done)) [-getElem?_pos, -getElem?_neg]; refine hK _ _ ?_; clear hK K)
    refine aw_block ?_
    refine aw_loop (fun c α G => ∃ i : Nat, i + c = ns.length ∧ α 6 = .int .i64 (i : Nat) ∧ α 3 = .pointer (some ⟨b, 0, none⟩) ∧ α 5 = .string (strOfNums (numsB (ns.take i))) ∧ ∃ L, G = G1 ++ L) ns.length ?_ ?_
    · exact ⟨0, by omega, by (first | (simp [put_at, put_none, fr0_at]; done) | rfl), by (first | (simp [put_at, put_none, fr0_at]; done) | rfl), by simp [put_at, numsB, sn_nil], [], by simp⟩
    rintro c α G ⟨i, hic, h6, h3, h5, L, rfl⟩
    have hbL : hget (G1 ++ L) b = some ⟨xc, 33, none⟩ := (hget_left (hget_lt hb1)).trans hb1
    have hsnL := (hsn1.fr (Fr.app1 L)).now
    have hxl := hsnL.len (P := Try.prog) (t := 30) (e := 37) (by simp)
    rw [iv_length] at hxl
    refine aw_seq ?_
    refine aw_seq ?_
    (refine aw_ops (by kernel_rfl) (fun K hK => ?_); simp (disch := first | omega | (simp only [List.length_set, List.length_append, List.length_cons, List.length_nil, iv_length, zl_length]; try omega; done)) [-getElem?_pos, -getElem?_neg, h6, h3, hbL, c2, cl, hnn, -notTuple, -xlen, hxl]; refine hK _ _ ?_; clear hK K)
    by_cases hi : i < ns.length
    case neg =>
      refine aw_f (by (first | (simp [eval_tmp, put_at, hi]; done) | (simp [eval_tmp, put_at, hi]; omega))) (by kernel_rfl) ?_
      refine aw_exit ?_
      obtain rfl : i = ns.length := by omega
      rw [List.take_length] at h5
      refine ⟨by (first | (simp [put_at, put_none, fr0_at, h5, hY']; done) | rfl), F1, ?_, hf1.trans (Fr.app1 L)⟩
      rw [hY']
      exact hw1.low (fun j hj => hget_left (hw1.lt j hj))
    refine aw_t (by (first | (simp [eval_tmp, put_at, hi]; done) | (simp [eval_tmp, put_at, hi]; omega))) (by kernel_rfl) ?_
    refine aw_skip ?_
    refine aw_seq ?_
    refine aw_block ?_
    obtain ⟨x, hx⟩ : ∃ x, ns[i]? = some x := ⟨_, List.getElem?_eq_getElem hi⟩
    obtain ⟨hx0, hx1⟩ := hns x (List.mem_of_getElem? hx)
    obtain ⟨n, rfl⟩ : ∃ n : Nat, x = (n : Nat) := ⟨x.toNat, by omega⟩
    have hcx : (iv .u32 ns)[i]? = some (.int .u32 (n : Nat)) := by simp [iv, hx]
    obtain ⟨px, hpx, hlx⟩ := hsnL.cell (P := Try.prog) (t := 30) (e := 37) (by simp) (by simp) (by simp) (by simp) hcx
    have hxa : xindexAddr Try.prog 30 nv (.int .i64 (i : Nat)) = some px := hpx
    have hnpx : notTuple px = true := by
      unfold xload at hlx
      cases px <;> first | rfl | (simp at hlx)
    have hpl : xload Try.prog 30 (.pointer (some ⟨b, 2, none⟩)) (G1 ++ L) = some nv := by
      simp [xload, hbL, c2, cl, -getElem?_pos]
    have h7 := numsB_len (ns.take i)
    rw [List.length_take] at h7
    have h8 := numB_len n
    have hsz : (strOfNums (numsB (ns.take i))).size + (strOfNums (numB n)).size ≤ 9223372036854775807 := by rw [sn_size, sn_size]; omega
    have happ : strOfNums (numsB (ns.take i)) ++ strOfNums (numB n) = strOfNums (numsB (ns.take (i + 1))) := by
      rw [sn_app, numsB_next hx]
      simp
    refine aw_ops (by kernel_rfl) (fun K hK => ?_)
    simp (disch := first | omega | (simp only [List.length_set, List.length_append, List.length_cons, List.length_nil, iv_length, zl_length]; try omega; done)) [-getElem?_pos, -getElem?_neg, h5, h3, h6, -xindexAddr, hxa, -xload, hpl, hlx, hnpx]
    refine ⟨by kernel_rfl, (refNumber_ac (by omega) (by rw [List.length_append]; omega)).mono ?_⟩
    rintro v1 H1 ⟨rfl, L2, rfl⟩
    try simp (disch := first | omega | (simp only [List.length_set, List.length_append, List.length_cons, List.length_nil, iv_length, zl_length]; try omega; done)) [-getElem?_pos, -getElem?_neg, h5, hsz, happ]
    refine hK _ _ ?_; clear hK K
    (refine aw_ops (by kernel_rfl) (fun K hK => ?_); simp (disch := first | omega | (simp only [List.length_set, List.length_append, List.length_cons, List.length_nil, iv_length, zl_length]; try omega; done)) [-getElem?_pos, -getElem?_neg, h6]; refine hK _ _ ?_; clear hK K)
    exact ⟨c - 1, by omega, i + 1, by omega, by (first | (simp [put_at, put_none, fr0_at]; done) | rfl), by (first | (simp [put_at, put_none, fr0_at, h3]; done) | rfl), by simp [put_at], L ++ L2, by simp⟩
  rw [if_neg q0] at hY'
  (refine aw_ops (by kernel_rfl) (fun K hK => ?_); simp (disch := first | omega | (simp only [List.length_set, List.length_append, List.length_cons, List.length_nil, iv_length, zl_length]; try omega; done)) [-getElem?_pos, -getElem?_neg, q0]; refine hK _ _ ?_; clear hK K)
  refine aw_f (by (first | (simp [eval_tmp, put_at]; done) | (simp [eval_tmp, put_at]; omega))) (by kernel_rfl) ?_
  refine aw_seq ?_
  by_cases q1 : k5 = 1
  · subst q1
    rw [if_pos rfl] at hY'
    (refine aw_ops (by kernel_rfl) (fun K hK => ?_); simp (disch := first | omega | (simp only [List.length_set, List.length_append, List.length_cons, List.length_nil, iv_length, zl_length]; try omega; done)) [-getElem?_pos, -getElem?_neg]; refine hK _ _ ?_; clear hK K)
    refine aw_t (by (first | (simp [eval_tmp, put_at]; done) | (simp [eval_tmp, put_at]; omega))) (by kernel_rfl) ?_
    refine aw_seq ?_
    refine aw_ops (by kernel_rfl) (fun K hK => ?_)
    simp (disch := first | omega | (simp only [List.length_set, List.length_append, List.length_cons, List.length_nil, iv_length, zl_length]; try omega; done)) [-getElem?_pos, -getElem?_neg, hb0, c3, cl]
    have hf1 : Fr G0 (G0 ++ [some ⟨[.string tx, .string tx], 9, some 1⟩]) F F := Fr.app1 _
    have hw1 : Wr (G0 ++ [some ⟨[.string tx, .string tx], 9, some 1⟩]) p F bs := hw0.low (fun j hj => hget_left (Nat.lt_of_lt_of_le (hlt j hj) hf0.len))
    refine ⟨by kernel_rfl, (texts_ac (ps := [tx, tx]) hw1 hlo (hbG hf1).2.1 (fresh_sls (cells := [.string tx, .string tx]) (fun j hj => Nat.lt_of_lt_of_le (hlt j hj) hf0.len)) (by simp; omega) (by simp; omega)).mono ?_⟩
    rintro v1 G1 ⟨F1, hw2, hf2⟩
    try simp (disch := first | omega | (simp only [List.length_set, List.length_append, List.length_cons, List.length_nil, iv_length, zl_length]; try omega; done)) [-getElem?_pos, -getElem?_neg]
    refine hK _ _ ?_; clear hK K
    obtain ⟨hb1, hn1, hl1⟩ := hbG (hf1.trans hf2)
    have hpl : ∀ L, xload Try.prog 9 (.pointer (some ⟨b, 3, none⟩)) (G1 ++ L) = some (.string tx) := fun L => by
      have := hget_left' (L := L) hb1
      simp [xload, this, c3, cl, -getElem?_pos]
    have hpl0 := hpl []
    rw [List.append_nil] at hpl0
    have ht5 := textB_len tx
    have hsz : (strOfNums (textB tx)).size + (strOfNums (textB tx)).size ≤ 9223372036854775807 := by rw [sn_size]; omega
    have happ : strOfNums (textB tx) ++ strOfNums (textB tx) = strOfNums Y := by rw [sn_app, hY']
    (refine aw_plan [] [] [0, 1, 2, 3, 4, 5, 6, 7] 8 0 (by kernel_rfl) (by kernel_rfl) (by kernel_rfl) (fun K hK => ?_)); simp only [sel, List.getElem?_cons_succ, List.getElem?_cons_zero, List.drop_succ_cons, List.drop_zero]; simp (disch := first | omega | (simp only [List.length_set, List.length_append, List.length_cons, List.length_nil, iv_length, zl_length]; try omega; done)) [-getElem?_pos, -getElem?_neg, -xload, hpl0, PL_nil, PL_cons, PLc_val, PLc_new, stepP_t, stepP_f, stepPC_n, stepPC_s, stepPX_s, stepPX_n, stepPA_t, stepPA_c, stepPA_l, stepPN_s, allocOp, reloc_sl, reloc_ptr, List.map_cons, List.map_nil, List.nil_append, List.append_assoc, List.cons_append, Nat.add_assoc]
    refine PLc_call (v := .string (strOfNums (textB tx))) (by kernel_rfl) (fun L hL => (refText_ac (by omega) (by omega)).mono (fun v H e => e.1)) (by simp [pv_iv, pv_int, pv_bool, pv_string, pv_tup2, pv_tup3, iv_plain, p2_int, p2_bool, p2_string]) ?_
    simp (disch := first | omega | (simp only [List.length_set, List.length_append, List.length_cons, List.length_nil, iv_length, zl_length]; try omega; done)) [-getElem?_pos, -getElem?_neg, -xload, hpl0, PL_nil, PL_cons, PLc_val, PLc_new, stepP_t, stepP_f, stepPC_n, stepPC_s, stepPX_s, stepPX_n, stepPA_t, stepPA_c, stepPA_l, stepPN_s, allocOp, reloc_sl, reloc_ptr, List.map_cons, List.map_nil, List.nil_append, List.append_assoc, List.cons_append, Nat.add_assoc]
    refine PLc_call (v := .string (strOfNums (textB tx))) (by kernel_rfl) (fun L hL => (refText_ac (by omega) (by omega)).mono (fun v H e => e.1)) (by simp [pv_iv, pv_int, pv_bool, pv_string, pv_tup2, pv_tup3, iv_plain, p2_int, p2_bool, p2_string]) ?_
    simp (disch := first | omega | (simp only [List.length_set, List.length_append, List.length_cons, List.length_nil, iv_length, zl_length]; try omega; done)) [-getElem?_pos, -getElem?_neg, -xload, hpl0, hsz, happ, PL_nil, PL_cons, PLc_val, PLc_new, stepP_t, stepP_f, stepPC_n, stepPC_s, stepPX_s, stepPX_n, stepPA_t, stepPA_c, stepPA_l, stepPN_s, allocOp, reloc_sl, reloc_ptr, List.map_cons, List.map_nil, List.nil_append, List.append_assoc, List.cons_append, Nat.add_assoc]
    refine hK _ _ ?_; clear hK K
    refine ⟨by (first | (simp [put_at, put_none, fr0_at]; done) | rfl), F1, ?_, hf1.trans hf2⟩
    rw [hY']
    simpa [textsB] using hw2
  rw [if_neg q1] at hY'
  (refine aw_ops (by kernel_rfl) (fun K hK => ?_); simp (disch := first | omega | (simp only [List.length_set, List.length_append, List.length_cons, List.length_nil, iv_length, zl_length]; try omega; done)) [-getElem?_pos, -getElem?_neg, q1]; refine hK _ _ ?_; clear hK K)
  refine aw_f (by (first | (simp [eval_tmp, put_at]; done) | (simp [eval_tmp, put_at]; omega))) (by kernel_rfl) ?_
  refine aw_seq ?_
  by_cases q2 : k5 = 2
  · subst q2
    rw [if_pos rfl] at hY'
    (refine aw_ops (by kernel_rfl) (fun K hK => ?_); simp (disch := first | omega | (simp only [List.length_set, List.length_append, List.length_cons, List.length_nil, iv_length, zl_length]; try omega; done)) [-getElem?_pos, -getElem?_neg]; refine hK _ _ ?_; clear hK K)
    refine aw_t (by (first | (simp [eval_tmp, put_at]; done) | (simp [eval_tmp, put_at]; omega))) (by kernel_rfl) ?_
    refine aw_seq ?_
    refine aw_ops (by kernel_rfl) (fun K hK => ?_)
    simp (disch := first | omega | (simp only [List.length_set, List.length_append, List.length_cons, List.length_nil, iv_length, zl_length]; try omega; done)) [-getElem?_pos, -getElem?_neg, hb0, c4, cl, hkn, -notTuple]
    refine ⟨by kernel_rfl, (keys_ac hw0 hlo (hbG (.refl _ _)).2.1 hsk0 hks (by omega)).mono ?_⟩
    rintro v1 G1 ⟨F1, hw1, hf1⟩
    try simp (disch := first | omega | (simp only [List.length_set, List.length_append, List.length_cons, List.length_nil, iv_length, zl_length]; try omega; done)) [-getElem?_pos, -getElem?_neg]
    refine hK _ _ ?_; clear hK K
    obtain ⟨hb1, hn1, hl1⟩ := hbG hf1
    have hsk1 := hsk0.fr hf1
    refine aw_seq ?_
    (refine aw_ops (by kernel_rfl) (fun K hK => ?_); simp (disch := first | omega | (simp only [List.length_set, List.length_append, List.length_cons, List.length_nil, iv_length, zl_length]; try omega; done)) [-getElem?_pos, -getElem?_neg]; refine hK _ _ ?_; clear hK K)
    refine aw_block ?_
    refine aw_loop (fun c α G => ∃ i : Nat, i + c = ks.length ∧ α 7 = .int .i64 (i : Nat) ∧ α 3 = .pointer (some ⟨b, 0, none⟩) ∧ α 5 = .string (strOfNums (ks.take i).flatten) ∧ ∃ L, G = G1 ++ L) ks.length ?_ ?_
    · exact ⟨0, by omega, by (first | (simp [put_at, put_none, fr0_at]; done) | rfl), by (first | (simp [put_at, put_none, fr0_at]; done) | rfl), by simp [put_at, sn_nil], [], by simp⟩
    rintro c α G ⟨i, hic, h7, h3, h5, L, rfl⟩
    have hbL : hget (G1 ++ L) b = some ⟨xc, 33, none⟩ := (hget_left (hget_lt hb1)).trans hb1
    have hskL := (hsk1.fr (Fr.app1 L)).now
    have hxl := hskL.len (P := Try.prog) (t := 31) (e := 41) (by simp)
    have hpl : xload Try.prog 31 (.pointer (some ⟨b, 4, none⟩)) (G1 ++ L) = some kv := by
      simp [xload, hbL, c4, cl, -getElem?_pos]
    refine aw_seq ?_
    refine aw_seq ?_
    (refine aw_ops (by kernel_rfl) (fun K hK => ?_); simp (disch := first | omega | (simp only [List.length_set, List.length_append, List.length_cons, List.length_nil, iv_length, zl_length]; try omega; done)) [-getElem?_pos, -getElem?_neg, h7, h3, -xload, hpl, -notTuple, -xlen, hxl]; refine hK _ _ ?_; clear hK K)
    by_cases hi : i < ks.length
    case neg =>
      refine aw_f (by (first | (simp [eval_tmp, put_at, hi]; done) | (simp [eval_tmp, put_at, hi]; omega))) (by kernel_rfl) ?_
      refine aw_exit ?_
      obtain rfl : i = ks.length := by omega
      rw [List.take_length] at h5
      refine ⟨by (first | (simp [put_at, put_none, fr0_at, h5, hY']; done) | rfl), F1, ?_, hf1.trans (Fr.app1 L)⟩
      rw [hY']
      exact hw1.low (fun j hj => hget_left (hw1.lt j hj))
    refine aw_t (by (first | (simp [eval_tmp, put_at, hi]; done) | (simp [eval_tmp, put_at, hi]; omega))) (by kernel_rfl) ?_
    refine aw_skip ?_
    refine aw_seq ?_
    refine aw_block ?_
    obtain ⟨key, hx⟩ : ∃ key, ks[i]? = some key := ⟨_, List.getElem?_eq_getElem hi⟩
    have hk32 := hks key (List.mem_of_getElem? hx)
    have hfl := flat_len (l := ks.take i) (fun k hk => hks k (List.mem_of_mem_take hk))
    rw [List.length_take] at hfl
    have hsz : (strOfNums (ks.take i).flatten).size + (strOfNums key).size ≤ 9223372036854775807 := by rw [sn_size, sn_size]; omega
    have happ : strOfNums (ks.take i).flatten ++ strOfNums key = strOfNums (ks.take (i + 1)).flatten := by
      rw [sn_app, List.take_add_one, hx, List.flatten_append]
      simp
    rcases hskL with ⟨a, _, h⟩ | ⟨j, kb, rfl, hkb, hc, hkk⟩
    · rw [h] at hi; cases hi
    have hkey := hkk i key hx
    have hbl := byteList_iv key
    (refine aw_ops (by kernel_rfl) (fun K hK => ?_); simp (disch := first | omega | (simp only [List.length_set, List.length_append, List.length_cons, List.length_nil, iv_length, zl_length]; try omega; done)) [-getElem?_pos, -getElem?_neg, h5, h3, h7, hbL, c4, cl, hkb, hi, hkey, hbl, hk32, hsz, happ]; refine hK _ _ ?_; clear hK K)
    (refine aw_ops (by kernel_rfl) (fun K hK => ?_); simp (disch := first | omega | (simp only [List.length_set, List.length_append, List.length_cons, List.length_nil, iv_length, zl_length]; try omega; done)) [-getElem?_pos, -getElem?_neg, h7]; refine hK _ _ ?_; clear hK K)
    exact ⟨c - 1, by omega, i + 1, by omega, by (first | (simp [put_at, put_none, fr0_at]; done) | rfl), by (first | (simp [put_at, put_none, fr0_at, h3]; done) | rfl), by simp [put_at], L, rfl⟩
  rw [if_neg q2] at hY'
  (refine aw_ops (by kernel_rfl) (fun K hK => ?_); simp (disch := first | omega | (simp only [List.length_set, List.length_append, List.length_cons, List.length_nil, iv_length, zl_length]; try omega; done)) [-getElem?_pos, -getElem?_neg, q2]; refine hK _ _ ?_; clear hK K)
  refine aw_f (by (first | (simp [eval_tmp, put_at]; done) | (simp [eval_tmp, put_at]; omega))) (by kernel_rfl) ?_
  refine aw_seq ?_
  by_cases q3 : k5 = 3
  · subst q3
    rw [if_pos rfl] at hY'
    (refine aw_ops (by kernel_rfl) (fun K hK => ?_); simp (disch := first | omega | (simp only [List.length_set, List.length_append, List.length_cons, List.length_nil, iv_length, zl_length]; try omega; done)) [-getElem?_pos, -getElem?_neg]; refine hK _ _ ?_; clear hK K)
    refine aw_t (by (first | (simp [eval_tmp, put_at]; done) | (simp [eval_tmp, put_at]; omega))) (by kernel_rfl) ?_
    refine aw_seq ?_
    refine aw_ops (by kernel_rfl) (fun K hK => ?_)
    simp (disch := first | omega | (simp only [List.length_set, List.length_append, List.length_cons, List.length_nil, iv_length, zl_length]; try omega; done)) [-getElem?_pos, -getElem?_neg, hb0, c4, cl, hkn, -notTuple]
    refine ⟨by kernel_rfl, (keylist_ac hw0 hlo (hbG (.refl _ _)).2.1 hsk0 hks (by omega)).mono ?_⟩
    rintro v1 G1 ⟨F1, hw1, hf1⟩
    try simp (disch := first | omega | (simp only [List.length_set, List.length_append, List.length_cons, List.length_nil, iv_length, zl_length]; try omega; done)) [-getElem?_pos, -getElem?_neg]
    refine hK _ _ ?_; clear hK K
    obtain ⟨hb1, hn1, hl1⟩ := hbG hf1
    have hpl : xload Try.prog 31 (.pointer (some ⟨b, 4, none⟩)) G1 = some kv := by
      simp [xload, hb1, c4, cl, -getElem?_pos]
    refine aw_ops (by kernel_rfl) (fun K hK => ?_)
    simp (disch := first | omega | (simp only [List.length_set, List.length_append, List.length_cons, List.length_nil, iv_length, zl_length]; try omega; done)) [-getElem?_pos, -getElem?_neg, -xload, hpl]
    refine ⟨by kernel_rfl, (refKeyList_ac (hsk0.fr hf1).now hks (by omega) hn1).mono ?_⟩
    rintro v1 H1 ⟨rfl, L2, rfl⟩
    try simp (disch := first | omega | (simp only [List.length_set, List.length_append, List.length_cons, List.length_nil, iv_length, zl_length]; try omega; done)) [-getElem?_pos, -getElem?_neg]
    refine hK _ _ ?_; clear hK K
    refine ⟨by (first | (simp [put_at, put_none, fr0_at, hY']; done) | rfl), F1, ?_, hf1.trans (Fr.app1 L2)⟩
    rw [hY', ← List.append_assoc]
    exact hw1.low (fun j hj => hget_left (hw1.lt j hj))
  rw [if_neg q3] at hY'
  (refine aw_ops (by kernel_rfl) (fun K hK => ?_); simp (disch := first | omega | (simp only [List.length_set, List.length_append, List.length_cons, List.length_nil, iv_length, zl_length]; try omega; done)) [-getElem?_pos, -getElem?_neg, q3]; refine hK _ _ ?_; clear hK K)
  refine aw_f (by (first | (simp [eval_tmp, put_at]; done) | (simp [eval_tmp, put_at]; omega))) (by kernel_rfl) ?_
  refine aw_seq ?_
  by_cases q4 : k5 = 4
  · subst q4
    rw [if_pos rfl] at hY'
    (refine aw_ops (by kernel_rfl) (fun K hK => ?_); simp (disch := first | omega | (simp only [List.length_set, List.length_append, List.length_cons, List.length_nil, iv_length, zl_length]; try omega; done)) [-getElem?_pos, -getElem?_neg]; refine hK _ _ ?_; clear hK K)
    refine aw_t (by (first | (simp [eval_tmp, put_at]; done) | (simp [eval_tmp, put_at]; omega))) (by kernel_rfl) ?_
    refine aw_seq ?_
    refine aw_ops (by kernel_rfl) (fun K hK => ?_)
    simp (disch := first | omega | (simp only [List.length_set, List.length_append, List.length_cons, List.length_nil, iv_length, zl_length]; try omega; done)) [-getElem?_pos, -getElem?_neg, hb0, c2, cl, hnn, -notTuple]
    refine ⟨by kernel_rfl, (numlist_ac hw0 hlo (hbG (.refl _ _)).2.1 hsn0 hns (by omega)).mono ?_⟩
    rintro v1 G1 ⟨F1, hw1, hf1⟩
    try simp (disch := first | omega | (simp only [List.length_set, List.length_append, List.length_cons, List.length_nil, iv_length, zl_length]; try omega; done)) [-getElem?_pos, -getElem?_neg]
    refine hK _ _ ?_; clear hK K
    obtain ⟨hb1, hn1, hl1⟩ := hbG hf1
    have hpl : xload Try.prog 30 (.pointer (some ⟨b, 2, none⟩)) G1 = some nv := by
      simp [xload, hb1, c2, cl, -getElem?_pos]
    refine aw_ops (by kernel_rfl) (fun K hK => ?_)
    simp (disch := first | omega | (simp only [List.length_set, List.length_append, List.length_cons, List.length_nil, iv_length, zl_length]; try omega; done)) [-getElem?_pos, -getElem?_neg, -xload, hpl]
    refine ⟨by kernel_rfl, (refNumberList_ac (hsn0.fr hf1).now hns (by omega) hn1).mono ?_⟩
    rintro v1 H1 ⟨rfl, L2, rfl⟩
    try simp (disch := first | omega | (simp only [List.length_set, List.length_append, List.length_cons, List.length_nil, iv_length, zl_length]; try omega; done)) [-getElem?_pos, -getElem?_neg]
    refine hK _ _ ?_; clear hK K
    refine ⟨by (first | (simp [put_at, put_none, fr0_at, hY']; done) | rfl), F1, ?_, hf1.trans (Fr.app1 L2)⟩
    rw [hY', ← List.append_assoc]
    exact hw1.low (fun j hj => hget_left (hw1.lt j hj))
  rw [if_neg q4] at hY'
  (refine aw_ops (by kernel_rfl) (fun K hK => ?_); simp (disch := first | omega | (simp only [List.length_set, List.length_append, List.length_cons, List.length_nil, iv_length, zl_length]; try omega; done)) [-getElem?_pos, -getElem?_neg, q4]; refine hK _ _ ?_; clear hK K)
  refine aw_f (by (first | (simp [eval_tmp, put_at]; done) | (simp [eval_tmp, put_at]; omega))) (by kernel_rfl) ?_
  refine aw_skip ?_
  refine ⟨by simp [put_at, hY', sn_nil], F, ?_, .refl _ _⟩
  rw [hY', List.append_nil]
  exact hw0
end
end Go.Proofs.Ytpdijcaikjobiaa
