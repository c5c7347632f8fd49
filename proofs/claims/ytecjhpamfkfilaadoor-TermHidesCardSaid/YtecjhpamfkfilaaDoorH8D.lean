/-
  Terms' names: nameOf, placeOf.
  Own slices with their blocks as a footprint.
  strings.Builder, at this program: Len, WriteString, String.
  Operations and nodes as data: boxes, operations, nodes; how a value shows one.
  Two keys, compared: by the machine's own comparison of bytes, and by the reference.
  Members, orders; what rises.
  What rises.
  Slices that come in: their elements by their addresses.
  frame's Right, part by part.
  frame's Right.
  Marks: places of a graph as bits.
  Places of ids: the map; nodes by their addresses.
  looked: parents, past, seq.
  looked: past and seq.
  looked: seq; a node's own operation, loaded.
  graph.Right.
  graph: isPlace, Ahead, Apart, count, Find.
  graph.Find.
  graph.past: what is marked, as a map.
  graph.Past.
  The reference: Find, In, SameInts.
  The reference: turn.
  The reference: Past.
  The reference: SameInts, Member, Less.
  The reference: kind.
  What the reference's Right asks, and what the program's asks: the same.
  The first nodes of a graph, as a slice of it.
  The reference: SameKeys.
  slices.Clone at numbers, keys, boxes: what is copied lies in new memory.
  Decimal numbers, and what is written into a strings.Builder: bytes of an array.
  recipe: the text that only terms with the same kind, text and keys have.
  A recipe tells the kind, the text and the keys.
  deep.Op: an operation, copied into new memory.
  deep.Nodes: a graph, copied into new memory.
  Keys in order: the comparison is the order of lists; sorted lists are told by their members.
  What holds of right graphs: pasts, authors, heads.
  Keys sorted: the insertion sort of the library, for at most twelve of them.
  graph.Heads.
  graph.Add.
  The vector that every right program answers: three nodes, put behind one another.
  A table of terms: its blocks, and its map from recipes to places.
  Table: New, Len, find.
  Table.term: the name of a term, which is made if there is none.
  Table: Draw, Hash, Pub.
  Table: Pub, Look.
  What follows, told by lists: the search step by step; it is the least that is closed.
  A search in memory; follows, learn.
-/
import Derived.Test.YtecjhpamfkfilaaDoorH8B
import Derived.Test.YtecjhpamfkfilaaDoorH8C
import Derived.Test.YtecjhpamfkfilaaDoorTabH8
import Derived.Test.YtecjhpamfkfilaaDoorShelf
import Derived.Laws.Externs
import Derived.Lib.BytesEntry
import Derived.Lib.ItoaLen
namespace Go.Proofs.YtecjhpamfkfilaaDoor
open Go Go.RowKit
set_option linter.unusedSimpArgs false
set_option linter.unusedVariables false
set_option maxRecDepth 100000
set_option maxHeartbeats 4000000
section
def nmL (n : Int) : List Int := 116 :: 101 :: 114 :: 109 :: n / 16777216 % 256 :: n / 65536 % 256 :: n / 256 % 256 :: n % 256 :: zl 24
theorem nmL_len (n : Int) : (nmL n).length = 32 := rfl
theorem nmL_by (n : Int) : By (nmL n) := by
 intro x hx
 unfold nmL at hx
 simp only [List.mem_cons] at hx
 rcases hx with h | h | h | h | h | h | h | h | h
 all_goals first | omega | (rw [List.eq_of_mem_replicate h]; omega)
theorem u8w (x : Int) : IntKind.u8.wrap x = x % 256 := by
 show x % 2 ^ 8 = _
 rfl
def plN (k : List Int) : Int := k.getD 4 0 * 16777216 + k.getD 5 0 * 65536 + k.getD 6 0 * 256 + k.getD 7 0
theorem plN_nm {n : Int} (h : 0 ≤ n ∧ n < 4294967296) : plN (nmL n) = n := by
 show n / 16777216 % 256 * 16777216 + n / 65536 % 256 * 65536 + n / 256 % 256 * 256 + n % 256 = n
 omega
theorem w64 {x : Int} (h : 0 ≤ x ∧ x < 9223372036854775808) : IntKind.i64.wrap x = x := by
 simp [IntKind.wrap, IntKind.bits, IntKind.signed]
 omega
theorem or64i {c w : Int} (n : Nat) (m : Int) (hm : m = 2 ^ n) (hw : 0 ≤ w ∧ w < m) (hc : 0 ≤ c ∧ c % m = 0) (h : c + w < 9223372036854775808) : bitsOf .or .i64 c w = c + w := by
 obtain ⟨w, rfl⟩ := Int.eq_ofNat_of_zero_le hw.1
 obtain ⟨c, rfl⟩ := Int.eq_ofNat_of_zero_le hc.1
 have e3 : ((2 ^ n : Nat) : Int) = 2 ^ n := by simp
 obtain ⟨M, hM⟩ : ∃ M : Nat, M = 2 ^ n := ⟨_, rfl⟩
 rw [← hM] at e3
 rw [← e3] at hm
 subst hm
 have hw2 : w < M := by have := hw.2; omega
 have hc2 : c = c / M * M := by
  have h1 : c % M = 0 := by have := hc.2; omega
  have := Nat.div_add_mod c M
  rw [h1, Nat.mul_comm] at this
  omega
 have e2 : ((BitVec.ofInt 64 (c : Int)) ||| (BitVec.ofInt 64 (w : Int))).toNat = c + w := by
  rw [BitVec.toNat_or, BitVec.toNat_ofInt, BitVec.toNat_ofInt]
  have a1 : ((w : Int) % ((2 ^ 64 : Nat) : Int)).toNat = w := by omega
  have a2 : ((c : Int) % ((2 ^ 64 : Nat) : Int)).toNat = c := by omega
  rw [a1, a2]
  generalize c / M = q at hc2
  rw [hc2, hM, Nat.mul_comm q, ← Nat.two_pow_add_eq_or_of_lt (by rw [← hM]; exact hw2)]
 show IntKind.i64.wrap (((BitVec.ofInt 64 (c : Int)) ||| (BitVec.ofInt 64 (w : Int))).toNat : Int) = _
 rw [e2, w64 (by omega)]
 omega
attribute [local simp] wb_bool wb_undef with_lit XL_nil XL_cons XLc_val XLc_call step1_eq stepW_t stepW_f stepC_n stepC_s stepX_s stepX_n stepN_s calleeX xrecv oneV xop_eq xopR_s xopR_n wantedA_eq wantedG_n wantedG_s plain1_int plain1_bool plain1_string bits_i64 bits_u64 bits_u32 bits_u16 bits_u8 xeqA xagg xcmp xarr allK_iv num_iv calleeOf xread xeff xbin xint xnil xun xstr xload xconv xpart xfield xfieldAddr xindexAddr xindex bnd asInt? xslice xlen xmin xmax xbuild xfill xappend xapp2 xappstr xappmk xcap xcopy xcells eval_tmp eval_const put_at put_none fr0_at cells_agg cells_int cells_bool cells_string cells_ptr cells_slice notTuple tab iv_all hget_app hget_app0 hget_cons0 hget_cons set_app set_app0 setR setR_one QL_nil QL_cons QLc_val stepQ_t stepQ_f stepQC_n stepQC_s stepQX_s SL_nil SL_cons SLc_val stepS_t stepS_f ltT ltF leT leF eqT eqF ltTn ltFn leTn leFn eqTn eqFn beqT beqF bneT bneF wi64 wu64 wu32 wu16 wu8 tmodP tdivP hgetL hgetNe hgetEq setL nums_def nums_len Nat.succ_le_of_lt List.getElem?_cons_zero List.getElem?_cons_succ Option.getD_some Int.toNat_add Int.toNat_mul agM okM agB agI agS agP agL agA okB okI okS okP okSl okA
theorem name_rc {γ : Nat → Option Nat} {H : AH} {n : Int} (hn : 0 ≤ n ∧ n < 4611686018427387904) : AC Tryd.prog H.length γ 52 #[.int .i64 n] H (fun v' _ => v' = .agg (iv .u8 (nmL n)).toArray) := by
 have w0 : IntKind.u8.wrap n = n % 256 := u8w n
 have w1 : IntKind.u8.wrap (n.fdiv 256) = n / 256 % 256 := by rw [u8w, Int.fdiv_eq_ediv_of_nonneg _ (by omega)]
 have w2 : IntKind.u8.wrap (n.fdiv 65536) = n / 65536 % 256 := by rw [u8w, Int.fdiv_eq_ediv_of_nonneg _ (by omega)]
 have w3 : IntKind.u8.wrap (n.fdiv 16777216) = n / 16777216 % 256 := by rw [u8w, Int.fdiv_eq_ediv_of_nonneg _ (by omega)]
 have e : ((((setR (iv .u8 (zl 32)) 0 ((iv .u8 [116, 101, 114, 109]).take 4)).set 4 (.int .u8 (n / 16777216 % 256))).set 5 (.int .u8 (n / 65536 % 256))).set 6 (.int .u8 (n / 256 % 256))).set 7 (.int .u8 (n % 256)) = iv .u8 (nmL n) := rfl
 have lN : (nmL n).length = 32 := rfl
 generalize nmL n = N at *
 have ht : (iv .u8 N).take 32 = iv .u8 N := List.take_of_length_le (by simp [lN])
 have hs : setR (iv .u8 (zl 32)) 0 (iv .u8 N) = iv .u8 N := setR_all _ _ (by simp [lN])
 refine ac_of_aw Tryd.func52 rfl Tryd.ntmps52 Tryd.results52 (by simp) ?_
 refine aw_seq ?_
 (refine aw_ops (by kernel_rfl) (fun K hK => ?_); simp (disch := first | omega | (simp only [lnS]; try omega)) [-getElem?_pos, -getElem?_neg]; refine hK _ _ ?_; clear hK K)
 refine aw_seq ?_
 (refine aw_ops (by kernel_rfl) (fun K hK => ?_); simp (disch := first | omega | (simp only [lnS]; try omega)) [-getElem?_pos, -getElem?_neg]; refine hK _ _ ?_; clear hK K)
 refine aw_seq ?_
 (refine aw_ops (by kernel_rfl) (fun K hK => ?_); simp (disch := first | omega | (simp only [lnS]; try omega)) [-getElem?_pos, -getElem?_neg]; refine hK _ _ ?_; clear hK K)
 refine aw_seq ?_
 (refine aw_ops (by kernel_rfl) (fun K hK => ?_); simp (disch := first | omega | (simp only [lnS]; try omega)) [-getElem?_pos, -getElem?_neg, w0, w1, w2, w3, e]; refine hK _ _ ?_; clear hK K)
 refine aw_seq ?_
 (refine aw_ops (by kernel_rfl) (fun K hK => ?_); simp (disch := first | omega | (simp only [lnS]; try omega)) [-getElem?_pos, -getElem?_neg, lN, ht, hs]; refine hK _ _ ?_; clear hK K)
 (refine aw_ret ?_; simp (disch := first | omega | (simp only [lnS]; try omega)) [-getElem?_pos, -getElem?_neg, thenQ_ret, scopeQ_ret, inBlockQ_ret, RQ, resL, resV, lN, ht])
theorem place_rc {γ : Nat → Option Nat} {H : AH} {k : List Int} (hk : k.length = 32) (hb : By k) : AC Tryd.prog H.length γ 50 #[.agg (iv .u8 k).toArray] H (fun v' _ => v' = .tuple #[.int .i64 (plN k), .bool (decide (nmL (plN k) = k))]) := by
 have b4 := hb.get 4
 have b5 := hb.get 5
 have b6 := hb.get 6
 have b7 := hb.get 7
 have htk : (iv .u8 k).take 32 = iv .u8 k := List.take_of_length_le (by simp [hk])
 have g4 : (iv .u8 k)[4]? = some (.int .u8 (k.getD 4 0)) := iv_getN _ _ _ (by omega)
 have g5 : (iv .u8 k)[5]? = some (.int .u8 (k.getD 5 0)) := iv_getN _ _ _ (by omega)
 have g6 : (iv .u8 k)[6]? = some (.int .u8 (k.getD 6 0)) := iv_getN _ _ _ (by omega)
 have g7 : (iv .u8 k)[7]? = some (.int .u8 (k.getD 7 0)) := iv_getN _ _ _ (by omega)
 have hpl : plN k = k.getD 4 0 * 16777216 + k.getD 5 0 * 65536 + k.getD 6 0 * 256 + k.getD 7 0 := rfl
 have hc := fun (G : AH) => name_rc (γ := γ) (H := G) (n := plN k) (by omega)
 have lN : (nmL (plN k)).length = 32 := rfl
 have htN : (iv .u8 (nmL (plN k))).take 32 = iv .u8 (nmL (plN k)) := rfl
 have hkN : (nmL (plN k) == k) = decide (nmL (plN k) = k) := by rw [Bool.eq_iff_iff]; simp
 generalize nmL (plN k) = N at *
 generalize plN k = p at *
 generalize k.getD 4 0 = x4 at *
 generalize k.getD 5 0 = x5 at *
 generalize k.getD 6 0 = x6 at *
 generalize k.getD 7 0 = x7 at *
 have w4 : IntKind.i64.wrap x4 = x4 := w64 (by omega)
 have w5 : IntKind.i64.wrap x5 = x5 := w64 (by omega)
 have w6 : IntKind.i64.wrap x6 = x6 := w64 (by omega)
 have w7 : IntKind.i64.wrap x7 = x7 := w64 (by omega)
 have v4 : IntKind.i64.wrap (x4 * 16777216) = x4 * 16777216 := w64 (by omega)
 have v5 : IntKind.i64.wrap (x5 * 65536) = x5 * 65536 := w64 (by omega)
 have v6 : IntKind.i64.wrap (x6 * 256) = x6 * 256 := w64 (by omega)
 have o1 : bitsOf .or .i64 (x4 * 16777216) (x5 * 65536) = x4 * 16777216 + x5 * 65536 := or64i 24 16777216 rfl (by omega) (by omega) (by omega)
 have o2 : bitsOf .or .i64 (x4 * 16777216 + x5 * 65536) (x6 * 256) = x4 * 16777216 + x5 * 65536 + x6 * 256 := or64i 16 65536 rfl (by omega) (by omega) (by omega)
 have o3 : bitsOf .or .i64 (x4 * 16777216 + x5 * 65536 + x6 * 256) x7 = p := by rw [hpl]; exact or64i 8 256 rfl (by omega) (by omega) (by omega)
 refine ac_of_aw Tryd.func50 rfl Tryd.ntmps50 Tryd.results50 (by simp) ?_
 refine aw_seq ?_
 (refine aw_ops (by kernel_rfl) (fun K hK => ?_); simp (disch := first | omega | (simp only [lnS]; try omega)) [-getElem?_pos, -getElem?_neg, htk]; refine hK _ _ ?_; clear hK K)
 refine aw_seq ?_
 (refine aw_ops (by kernel_rfl) (fun K hK => ?_); simp (disch := first | omega | (simp only [lnS]; try omega)) [-getElem?_pos, -getElem?_neg]; refine hK _ _ ?_; clear hK K)
 refine aw_seq ?_
 (refine aw_plan [] [] [0, 1, 2, 3, 4, 5, 6, 7, 8, 9, 10, 11, 12, 13, 14, 15, 16, 17, 18, 19, 20, 21, 22, 23, 24, 25] 26 0 (by kernel_rfl) (by kernel_rfl) (by kernel_rfl) (fun K hK => ?_)); simp only [sel, List.getElem?_cons_succ, List.getElem?_cons_zero, List.drop_succ_cons, List.drop_zero]; simp (disch := first | omega | (simp only [lnS]; try omega)) [-getElem?_pos, -getElem?_neg, g4, g5, g6, g7, w4, w5, w6, w7, v4, v5, v6, o1, o2, o3, PL_nil, plainB_lit, PL_cons, PLc_val, PLc_new, stepP_t, stepP_f, stepPC_n, stepPC_s, stepPX_s, stepPX_n, stepPV_n, stepPV_s, stepPA_t, stepPA_c, stepPA_l, stepPN_s, allocOp, reloc_sl, reloc_ptr, List.map_cons, List.map_nil, List.nil_append, List.append_assoc, List.cons_append, Nat.add_assoc]
 refine hK _ _ ?_; clear hK K
 refine aw_seq ?_
 (refine aw_plan [] [] [0, 1, 2, 3, 4, 5, 6] 7 0 (by kernel_rfl) (by kernel_rfl) (by kernel_rfl) (fun K hK => ?_)); simp only [sel, List.getElem?_cons_succ, List.getElem?_cons_zero, List.drop_succ_cons, List.drop_zero]; simp (disch := first | omega | (simp only [lnS]; try omega)) [-getElem?_pos, -getElem?_neg, htk, PL_nil, plainB_lit, PL_cons, PLc_val, PLc_new, stepP_t, stepP_f, stepPC_n, stepPC_s, stepPX_s, stepPX_n, stepPV_n, stepPV_s, stepPA_t, stepPA_c, stepPA_l, stepPN_s, allocOp, reloc_sl, reloc_ptr, List.map_cons, List.map_nil, List.nil_append, List.append_assoc, List.cons_append, Nat.add_assoc]
 refine PLc_call (by kernel_rfl) (fun L hL => hc _) (by simp [pv_iv, pv_int, pv_bool, pv_string, pv_tup2, pv_tup3, iv_plain, p2_int, p2_bool, p2_string]) ?_
 try simp (disch := first | omega | (simp only [lnS]; try omega)) [-getElem?_pos, -getElem?_neg, htk, htN, lN, PL_nil, plainB_lit, PL_cons, PLc_val, PLc_new, stepP_t, stepP_f, stepPC_n, stepPC_s, stepPX_s, stepPX_n, stepPV_n, stepPV_s, stepPA_t, stepPA_c, stepPA_l, stepPN_s, allocOp, reloc_sl, reloc_ptr, List.map_cons, List.map_nil, List.nil_append, List.append_assoc, List.cons_append, Nat.add_assoc]
 refine hK _ _ ?_; clear hK K
 (refine aw_ret ?_; simp (disch := first | omega | (simp only [lnS]; try omega)) [-getElem?_pos, -getElem?_neg, thenQ_ret, scopeQ_ret, inBlockQ_ret, RQ, resL, resV, hkN])
end
section
def OwnF (H : AH) (v : Value) (e : TypeId) (sz : Nat) (cells : List Value) (F : List Nat) : Prop :=
 (v = .slice none 0 0 ∧ cells = [] ∧ F = []) ∨ ∃ j len, v = .slice (some ⟨j, 0, none⟩) len len ∧ hget H j = some ⟨cells, e, some sz⟩ ∧ cells.length = len * sz ∧ F = [j]
theorem OwnF.low {H H' : AH} {v : Value} {e : TypeId} {sz : Nat} {cells : List Value} {F : List Nat} (h : OwnF H v e sz cells F) (hl : ∀ j ∈ F, hget H' j = hget H j) : OwnF H' v e sz cells F := by
 rcases h with h | ⟨j, len, h1, h2, h3, rfl⟩
 ·exact .inl h
 ·exact .inr ⟨j, len, h1, by rw [hl j (by simp)]; exact h2, h3, rfl⟩
theorem OwnF.len {P : Program} {H : AH} {v : Value} {e t : TypeId} {sz : Nat} {cells : List Value} {F : List Nat} (h : OwnF H v e sz cells F) (ht : und P t = .slice e) {n : Nat} (hn : cells.length = n * sz) (h0 : 0 < sz) : xlen P t v = some (.int .i64 n) := by
 rcases h with ⟨rfl, rfl, rfl⟩ | ⟨j, len, rfl, h2, h3, rfl⟩
 ·have : n = 0 := by
   have : n * sz = 0 := hn.symm
   rcases Nat.mul_eq_zero.1 this with h | h <;> omega
  subst this
  simp [xlen, ht]
 ·have : len = n := Nat.eq_of_mul_eq_mul_right h0 (h3.symm.trans hn)
  subst this
  simp [xlen, ht]
theorem ownF_append {P : Program} {nro : Nat} {t e : TypeId} {H : AH} {v x : Value} {sz : Nat} {cells news : List Value} {F : List Nat} (hu : und P t = .slice e) (hs : szt P e = sz) (h0 : 0 < sz) (hz : (zer P e).map (·.cells.size) = some sz)
  (hv : OwnF H v e sz cells F) (hnro : ∀ j ∈ F, nro ≤ j) (hstr : ∀ s, x ≠ .string s) (hx : xcells sz x H = some news) (hn : news ≠ []) (hd : news.length % sz = 0) (hb : (cells.length + news.length) * byt P e ≤ 140737488355328) (hm : cells.length + news.length ≤ maxLen) :
  ∃ v' H', xappend P nro t v x H = some (v', H') ∧ OwnF H' v' e sz (cells ++ news) [H.length] ∧ H'.length = H.length + 1 ∧ ∀ j, j < H.length → j ∉ F → hget H' j = hget H j := by
 subst hs
 have hdm : news.length / szt P e * szt P e = news.length := Nat.div_mul_cancel (Nat.dvd_of_mod_eq_zero hd)
 rcases hv with ⟨rfl, rfl, rfl⟩ | ⟨j, len, rfl, h3, h4, rfl⟩
 ·refine ⟨.slice (some ⟨H.length, 0, none⟩) (news.length / szt P e) (news.length / szt P e), H ++ [some ⟨news, e, some (szt P e)⟩], ?_, .inr ⟨H.length, news.length / szt P e, rfl, ?_, ?_, rfl⟩, by simp, fun i hi _ => hget_left hi⟩
  ·simp only [List.length_nil, Nat.zero_add] at hb hm
   unfold xappend
   cases x <;> first | (exact absurd rfl (hstr _)) | (simp only [hu, hx]; rw [if_pos ⟨h0, hz, hb, hm⟩, if_neg hn])
  ·rw [hget_app0, hget_cons0]; rfl
  ·rw [hdm]; rfl
 ·have hj := hget_lt h3
  refine ⟨.slice (some ⟨H.length, 0, none⟩) (len + news.length / szt P e) (len + news.length / szt P e), H.set j none ++ [some ⟨cells ++ news, e, some (szt P e)⟩], ?_, .inr ⟨H.length, len + news.length / szt P e, rfl, ?_, ?_, rfl⟩, by simp, fun i hi hni => ?_⟩
  ·have hc : True ∧ 0 < szt P e ∧ (zer P e).map (·.cells.size) = some (szt P e) ∧ nro ≤ j ∧ True ∧ True ∧ len * szt P e ≤ cells.length ∧ (len * szt P e + news.length) * byt P e ≤ 140737488355328 ∧ len * szt P e + news.length ≤ maxLen :=
    ⟨trivial, h0, hz, hnro j (by simp), trivial, trivial, by omega, by rw [← h4]; exact hb, by rw [← h4]; exact hm⟩
   unfold xappend
   cases x <;> first | (exact absurd rfl (hstr _)) | (simp only [hu, hx, h3]; rw [if_pos hc, ← h4, List.take_length])
  ·have : (H.set j none).length = H.length := by simp
   rw [← this, hget_app0, hget_cons0]
  ·rw [List.length_append, Nat.add_mul, ← h4, hdm]
  ·rw [hget_left (by simp; omega), hget_set_ne (fun e => hni (by simp [e]))]
theorem OwnF.new {H : AH} {v : Value} {e : TypeId} {sz j : Nat} {cells : List Value} (h : OwnF H v e sz cells [j]) : ∃ len, v = .slice (some ⟨j, 0, none⟩) len len := by
 rcases h with ⟨_, _, h⟩ | ⟨i, len, rfl, _, _, h⟩
 ·cases h
 ·cases h; exact ⟨len, rfl⟩
theorem OwnF.lt {H : AH} {v : Value} {e : TypeId} {sz : Nat} {cells : List Value} {F : List Nat} (h : OwnF H v e sz cells F) : ∀ j ∈ F, j < H.length := by
 rcases h with ⟨_, _, rfl⟩ | ⟨i, len, _, h2, _, rfl⟩
 ·intro j hj; cases hj
 ·intro j hj; rw [List.mem_singleton] at hj; subst hj; exact hget_lt h2
end
section
theorem ownF_str {P : Program} {nro : Nat} {t e : TypeId} {H : AH} {v : Value} {b : ByteArray} {cells : List Value} {F : List Nat} (hu : und P t = .slice e) (hz : zer P e = some (.int .u8 0)) (hs : szt P e = 1) (hby : byt P e = 1)
    (hv : OwnF H v e 1 cells F) (hnro : ∀ j ∈ F, nro ≤ j) (hb : cells.length + b.size ≤ 140737488355328) (hm : cells.length + b.size ≤ maxLen) :
    ∃ v' H' F', xappstr P nro t v (.string b) H = some (v', H') ∧ OwnF H' v' e 1 (cells ++ iv .u8 (nums b)) F' ∧ H.length ≤ H'.length ∧ (∀ j ∈ F', H.length ≤ j) ∧ ∀ j, j < H.length → j ∉ F → hget H' j = hget H j := by
  have hnl : (iv .u8 (nums b)).length = b.size := by rw [iv_length]; simp [nums]
  rcases hv with ⟨rfl, rfl, rfl⟩ | ⟨j, len, rfl, h3, h4, rfl⟩
  · simp only [List.length_nil, Nat.zero_add] at hb hm
    by_cases h0 : b.size = 0
    · refine ⟨.slice none 0 0, H, [], ?_, .inl ⟨rfl, List.eq_nil_of_length_eq_zero (by simp [hnl, h0]), rfl⟩, Nat.le_refl _, (by simp), fun _ _ _ => rfl⟩
      unfold xappstr
      simp only [hu, hz]
      rw [if_pos ⟨trivial, hs, hby⟩, if_pos ⟨hb, hm⟩, if_pos h0]
    · refine ⟨.slice (some ⟨H.length, 0, none⟩) b.size b.size, H ++ [some ⟨iv .u8 (nums b), e, some 1⟩], [H.length], ?_, .inr ⟨H.length, b.size, rfl, ?_, by simp [hnl], rfl⟩, by simp, by simp, fun i hi _ => hget_left hi⟩
      · unfold xappstr
        simp only [hu, hz]
        rw [if_pos ⟨trivial, hs, hby⟩, if_pos ⟨hb, hm⟩, if_neg h0]
      · rw [hget_app0, hget_cons0]; rfl
  · have hj := hget_lt h3
    refine ⟨.slice (some ⟨H.length, 0, none⟩) (len + b.size) (len + b.size), H.set j none ++ [some ⟨cells ++ iv .u8 (nums b), e, some 1⟩], [H.length], ?_, .inr ⟨H.length, len + b.size, rfl, ?_, by simp [hnl]; omega, rfl⟩, by simp, by simp, fun i hi hni => ?_⟩
    · unfold xappstr
      simp only [hu, hz, h3]
      rw [if_pos ⟨trivial, hs, hby⟩, if_pos ⟨trivial, hnro j (by simp), trivial, trivial, by omega, by omega, by omega⟩, show len = cells.length by omega, List.take_length]
    · have : (H.set j none).length = H.length := by simp
      rw [← this, hget_app0, hget_cons0]
    · rw [hget_left (by simp; omega), hget_set_ne (fun e => hni (by simp [e]))]
attribute [local simp] wb_bool wb_undef with_lit XL_nil XL_cons XLc_val XLc_call step1_eq stepW_t stepW_f stepC_n stepC_s stepX_s stepX_n stepN_s calleeX xrecv oneV xop_eq xopR_s xopR_n wantedA_eq wantedG_n wantedG_s plain1_int plain1_bool plain1_string bits_i64 bits_u64 bits_u32 bits_u16 bits_u8 xeqA xagg xcmp xarr allK_iv num_iv calleeOf xread xeff xbin xint xnil xun xstr xload xconv xpart xfield xfieldAddr xindexAddr xindex bnd asInt? xslice xlen xmin xmax xbuild xfill xappend xapp2 xappstr xappmk xcap xcopy xcells eval_tmp eval_const put_at put_none fr0_at cells_agg cells_int cells_bool cells_string cells_ptr cells_slice notTuple tab iv_all hget_app hget_app0 hget_cons0 hget_cons set_app set_app0 setR setR_one QL_nil QL_cons QLc_val stepQ_t stepQ_f stepQC_n stepQC_s stepQX_s SL_nil SL_cons SLc_val stepS_t stepS_f ltT ltF leT leF eqT eqF ltTn ltFn leTn leFn eqTn eqFn beqT beqF bneT bneF wi64 wu64 wu32 wu16 wu8 tmodP tdivP hgetL hgetNe hgetEq setL nums_def nums_len Nat.succ_le_of_lt List.getElem?_cons_zero List.getElem?_cons_succ Option.getD_some Int.toNat_add Int.toNat_mul agM okM agB agI agS agP agL agA okB okI okS okP okSl okA
def ren240 : Go.Shelf.Ren := ⟨fun | 240 => 63 | 276 => 65 | n => n, fun | 0 => 0 | 4 => 4 | 9 => 9 | 20 => 20 | 70 => 101 | 72 => 103 | 37 => 51 | 5 => 5 | 164 => 112 | n => n, fun | n => n⟩
theorem L240 : Lays.n240 Tryd.prog ren240 := {
  mixed := by kernel_rfl
  f240 := Tryd.func63.trans (congrArg some (by kernel_rfl))
  f276 := Tryd.func65.trans (congrArg some (by kernel_rfl))
  t0 := Tryd.underlying0
  a0 := Tryd.isAgg0
  z0 := Tryd.sizeOf0
  v0 := Tryd.zeroValue0
  t4 := Tryd.underlying4
  a4 := Tryd.isAgg4
  z4 := Tryd.sizeOf4
  v4 := Tryd.zeroValue4
  t9 := Tryd.underlying9
  a9 := Tryd.isAgg9
  z9 := Tryd.sizeOf9
  v9 := Tryd.zeroValue9
  t20 := Tryd.underlying20
  a20 := Tryd.isAgg20
  z20 := Tryd.sizeOf20
  v20 := Tryd.zeroValue20
  t70 := Tryd.underlying101
  a70 := Tryd.isAgg101
  z70 := Tryd.sizeOf101
  v70 := Tryd.zeroValue101
  t72 := Tryd.underlying103
  a72 := Tryd.isAgg103
  z72 := Tryd.sizeOf103
  v72 := Tryd.zeroValue103
  t164 := Tryd.underlying112
  a164 := Tryd.isAgg112
  z164 := Tryd.sizeOf112
  v164 := Tryd.zeroValue112 }
theorem X240 : Builder.X72 Tryd.prog ren240 := {
  sizeBuilder := by kernel_rfl
  liesBuilder := by kernel_rfl }
def Bl (H : AH) (i : Nat) (s : ByteArray) (F : List Nat) : Prop :=
  ∃ p v, (p = .pointer none ∨ p = .pointer (some ⟨i, 0, none⟩)) ∧ hget H i = some ⟨[p, v], 103, none⟩ ∧ OwnF H v 5 1 (iv .u8 (nums s)) F ∧ i ∉ F ∧ (s.size = 0 → v = .slice none 0 0)
theorem Bl.low {H H' : AH} {i : Nat} {s : ByteArray} {F : List Nat} (h : Bl H i s F) (h1 : hget H' i = hget H i) (hl : ∀ j ∈ F, hget H' j = hget H j) : Bl H' i s F := by
  obtain ⟨p, v, hp, hg, ho, hn, hz⟩ := h
  exact ⟨p, v, hp, h1.trans hg, ho.low hl, hn, hz⟩
theorem Bl.lt {H : AH} {i : Nat} {s : ByteArray} {F : List Nat} (h : Bl H i s F) : i < H.length ∧ ∀ j ∈ F, j < H.length := by
  obtain ⟨p, v, hp, hg, ho, hn, hz⟩ := h
  exact ⟨hget_lt hg, ho.lt⟩
theorem ownF_shape {H : AH} {v : Value} {e : TypeId} {cells : List Value} {F : List Nat} (h : OwnF H v e 1 cells F) : notTuple v = true ∧ v.cells = #[v] := by
  rcases h with ⟨rfl, _, _⟩ | ⟨j, len, rfl, _, _, _⟩ <;> exact ⟨rfl, rfl⟩
theorem set_same {H : AH} {i : Nat} {k : Blk} (h : hget H i = some k) : H.set i (some k) = H := by
  obtain ⟨h1, h2⟩ := List.getElem?_eq_some_iff.1 (hget_some h)
  have h3 := List.set_getElem_self h1
  rw [h2] at h3
  exact h3
theorem bl_check {nro : Nat} {γ : Nat → Option Nat} {H : AH} {i : Nat} {p v : Value} (hp : p = .pointer none ∨ p = .pointer (some ⟨i, 0, none⟩)) (hg : hget H i = some ⟨[p, v], 103, none⟩) (hi : nro ≤ i) :
    AC Tryd.prog nro γ 63 #[.pointer (some ⟨i, 0, none⟩)] H (fun v' H' => v' = .tuple #[] ∧ H' = H.set i (some ⟨[.pointer (some ⟨i, 0, none⟩), v], 103, none⟩)) := by
  rcases hp with rfl | rfl
  · exact check_fresh_ac L240 X240 hi hg
  · refine AC.mono (check_used_ac L240 X240 hi hg) ?_
    rintro v' H' ⟨h1, h2⟩
    exact ⟨h1, by rw [h2, set_same hg]⟩
theorem bl_write {nro : Nat} {γ : Nat → Option Nat} {H : AH} {i : Nat} {s t : ByteArray} {F : List Nat} (h : Bl H i s F) (hi : nro ≤ i) (hF : ∀ j ∈ F, nro ≤ j) (hb : s.size + t.size ≤ 1000000000) :
    AC Tryd.prog nro γ 59 #[.pointer (some ⟨i, 0, none⟩), .string t] H (fun v' H' => v' = .tuple #[.int .i64 t.size, .nilIface] ∧ ∃ F', Bl H' i (s ++ t) F' ∧ H.length ≤ H'.length ∧ (∀ j ∈ F', H.length ≤ j) ∧ ∀ j, j < H.length → j ≠ i → j ∉ F → hget H' j = hget H j) := by
  have hlt := h.lt
  obtain ⟨p, v, hp, hg, ho, hn, hz⟩ := h
  obtain ⟨H1, hH1⟩ : ∃ H1, H1 = H.set i (some ⟨[.pointer (some ⟨i, 0, none⟩), v], 103, none⟩) := ⟨_, rfl⟩
  have hl1 : H1.length = H.length := by rw [hH1]; simp
  have hg1 : hget H1 i = some ⟨[.pointer (some ⟨i, 0, none⟩), v], 103, none⟩ := by rw [hH1]; exact hget_set_eq hlt.1
  have k1 : ∀ j, j ≠ i → hget H1 j = hget H j := fun j hj => by rw [hH1]; exact hget_set_ne (Ne.symm hj)
  have ho1 := ho.low (H' := H1) (fun j hj => k1 j (fun e => hn (e ▸ hj)))
  obtain ⟨v', H2, F', hap, ho2, hl2, hnew, hk⟩ := ownF_str (P := Tryd.prog) (nro := nro) (t := 51) (e := 5) (H := H1) (v := v) (b := t) (cells := iv .u8 (nums s)) (F := F) (by simp) (by simp) (by simp) (by simp) ho1 hF
    (by rw [iv_length, nums_len]; omega) (by rw [iv_length, nums_len]; simp [maxLen]; omega)
  have hs := ownF_shape ho
  have hs' := ownF_shape ho2
  have hg2 : hget H2 i = some ⟨[.pointer (some ⟨i, 0, none⟩), v], 103, none⟩ := (hk i (by omega) hn).trans hg1
  have hiF : i ∉ F' := fun hm => by have := hnew i hm; omega
  have hz2 : (s ++ t).size = 0 → v' = .slice none 0 0 := fun h0 => by
    have h1 : s.size = 0 ∧ t.size = 0 := by
      rw [ByteArray.size_append] at h0
      omega
    have := hz h1.1
    subst this
    simp [xappstr, h1.2, maxLen] at hap
    exact hap.1.symm
  refine ac_of_aw Tryd.func59 rfl Tryd.ntmps59 Tryd.results59 (by simp) ?_
  refine aw_seq ?_
  (refine aw_ops (by kernel_rfl) (fun K hK => ?_); simp (disch := first | omega | (simp only [lnS]; try omega)) [-getElem?_pos, -getElem?_neg]; refine hK _ _ ?_; clear hK K)
  refine aw_seq ?_
  refine aw_ops (by kernel_rfl) (fun K hK => ?_)
  simp (disch := first | omega | (simp only [lnS]; try omega)) [-getElem?_pos, -getElem?_neg]
  refine ⟨by kernel_rfl, AC.mono (bl_check hp hg hi) ?_⟩
  rintro v1 G ⟨rfl, e⟩
  rw [← hH1] at e
  subst e
  clear hH1
  try simp (disch := first | omega | (simp only [lnS]; try omega)) [-getElem?_pos, -getElem?_neg]
  refine hK _ _ ?_; clear hK K
  refine aw_seq ?_
  (refine aw_ops (by kernel_rfl) (fun K hK => ?_); simp (disch := first | omega | (simp only [lnS]; try omega)) [-getElem?_pos, -getElem?_neg, hg1, hg2, hs.1, hs'.1, hs'.2, -notTuple, -xappstr, hap]; refine hK _ _ ?_; clear hK K)
  refine aw_seq ?_
  (refine aw_ops (by kernel_rfl) (fun K hK => ?_); simp (disch := first | omega | (simp only [lnS]; try omega)) [-getElem?_pos, -getElem?_neg]; refine hK _ _ ?_; clear hK K)
  have hi2 : i < H2.length := hget_lt hg2
  have fin : ∃ F', Bl (H2.set i (some ⟨[.pointer (some ⟨i, 0, none⟩), v'], 103, none⟩)) i (s ++ t) F' ∧ H.length ≤ (H2.set i (some ⟨[.pointer (some ⟨i, 0, none⟩), v'], 103, none⟩)).length ∧ (∀ j ∈ F', H.length ≤ j) ∧ ∀ j, j < H.length → j ≠ i → j ∉ F → hget (H2.set i (some ⟨[.pointer (some ⟨i, 0, none⟩), v'], 103, none⟩)) j = hget H j := by
   refine ⟨F', ⟨.pointer (some ⟨i, 0, none⟩), v', .inr rfl, hget_set_eq hi2, ?_, hiF, hz2⟩, by simp; omega, fun j hj => by have := hnew j hj; omega, fun j hj hji hjF => ?_⟩
   · have : nums (s ++ t) = nums s ++ nums t := by simp [nums_appF]
     rw [this, iv_append]
     exact ho2.low (fun j hj => hget_set_ne (fun e => hiF (e ▸ hj)))
   · rw [hget_set_ne (Ne.symm hji), hk j (by omega) hjF, k1 j hji]
  generalize H2.set i (some ⟨[.pointer (some ⟨i, 0, none⟩), v'], 103, none⟩) = H3 at *
  (refine aw_ret ?_; simp (disch := first | omega | (simp only [lnS]; try omega)) [-getElem?_pos, -getElem?_neg, thenQ_ret, scopeQ_ret, inBlockQ_ret, RQ, resL, resV])
  obtain ⟨F2, f1, f2, f3, f4⟩ := fin
  exact ⟨F2, f1, f3, f4⟩
theorem bl_string {nro : Nat} {γ : Nat → Option Nat} {H : AH} {i : Nat} {s : ByteArray} {F : List Nat} (h : Bl H i s F) (hi : nro ≤ i) (hF : ∀ j ∈ F, nro ≤ j) :
    AC Tryd.prog nro γ 62 #[.pointer (some ⟨i, 0, none⟩)] H (fun v' H' => v' = .string s ∧ H'.length = H.length ∧ ∀ j, j ∉ F → hget H' j = hget H j) := by
  obtain ⟨p, v, hp, hg, ho, hn, hz⟩ := h
  have hsz : (nums s).length = s.size := nums_len s
  have nilc : ∀ c, v = .slice none 0 0 → s.size = 0 → c → AC Tryd.prog nro γ 62 #[.pointer (some ⟨i, 0, none⟩)] H (fun v' H' => v' = .string s ∧ H'.length = H.length ∧ ∀ j, j ∉ F → hget H' j = hget H j) := by
    intro c hv h0 _
    subst hv
    refine AC.mono (string_nil_ac Tryd.lays169 Tryd.Builder_Extra_169 hi hg) ?_
    rintro v' H' ⟨rfl, rfl⟩
    refine ⟨?_, rfl, fun _ _ => rfl⟩
    congr 1
    apply ByteArray.ext
    have : s.data.size = 0 := h0
    exact (Array.eq_empty_of_size_eq_zero this).symm
  rcases ho with ⟨hv, hc, hF0⟩ | ⟨j, len, rfl, h2, h3, rfl⟩
  · refine nilc True hv ?_ trivial
    have := congrArg List.length hc
    rw [iv_length, hsz] at this
    exact this
  · rw [iv_length, hsz] at h3
    by_cases h0 : len = 0
    · have := hz (by omega)
      cases this
    · refine AC.mono (string_ac Tryd.lays169 Tryd.Builder_Extra_169 hi hg (hF j (by simp)) h2 (by omega) h0) ?_
      rintro v' H' ⟨rfl, rfl⟩
      exact ⟨rfl, by simp, fun q hq => hget_set_ne (fun e => hq (by simp [e]))⟩
end
section
abbrev ByI (l : List Int) : Prop := By l
def Key32 (k : List Int) : Prop := k.length = 32 ∧ ByI k
def I64 (z : Int) : Prop := -9223372036854775808 ≤ z ∧ z ≤ 9223372036854775807
def U32 (z : Int) : Prop := 0 ≤ z ∧ z ≤ 4294967295
structure BoxD where
 to : Int
 pub : List Int
 n : Int
 prev : Int
 body : ByteArray
structure OpD where
 author : Int
 seq : Int
 parents : List (List Int)
 kind : Int
 who : List Int
 of : List Int
 check : List Int
 text : ByteArray
 boxes : List BoxD
structure NodeD where
 id : List Int
 op : OpD
 past : List Int
def kd (k : List Int) : List CD := k.map (.int .u8)
def BoxD.row (b : BoxD) : List CD := [CD.int .i64 b.to] ++ (kd b.pub ++ [CD.int .u32 b.n, .int .u32 b.prev, .str b.body])
def OpD.row (o : OpD) : List CD := [CD.int .i64 o.author, .int .u32 o.seq, .sl (o.parents.map kd), .int .i64 o.kind, .sl (o.who.map fun z => [.int .i64 z])] ++ (kd o.of ++ (kd o.check ++ [.str o.text, .sl (o.boxes.map BoxD.row)]))
def NodeD.row (x : NodeD) : List CD := kd x.id ++ (x.op.row ++ [.sl (x.past.map fun z => [.int .i64 z])])
structure BoxD.Wf (b : BoxD) : Prop where
 to : I64 b.to
 pub : Key32 b.pub
 n : U32 b.n
 prev : U32 b.prev
 body : b.body.size ≤ maxLen
structure OpD.Wf (o : OpD) : Prop where
 author : I64 o.author
 seq : U32 o.seq
 parents : ∀ k ∈ o.parents, Key32 k
 plen : o.parents.length ≤ maxLen
 kind : I64 o.kind
 who : ∀ z ∈ o.who, I64 z
 wlen : o.who.length ≤ maxLen
 of : Key32 o.of
 check : Key32 o.check
 text : o.text.size ≤ maxLen
 boxes : ∀ b ∈ o.boxes, b.Wf
 blen : o.boxes.length ≤ maxLen
structure NodeD.Wf (x : NodeD) : Prop where
 id : Key32 x.id
 op : x.op.Wf
 past : ∀ z ∈ x.past, I64 z
 plen : x.past.length ≤ maxLen
theorem ValL.key {H : AH} {k : List Int} {us : List Value} (h : ValL H (kd k) us) : us = iv .u8 k := ValL.ints h
def BxV (H : AH) (v : Value) (l : List BoxD) : Prop := CD.Val H (.sl (l.map BoxD.row)) v
def NdV (H : AH) (v : Value) (l : List NodeD) : Prop := CD.Val H (.sl (l.map NodeD.row)) v
def KsV (H : AH) (v : Value) (l : List (List Int)) : Prop := CD.Val H (.sl (l.map kd)) v
def InV (H : AH) (v : Value) (l : List Int) : Prop := CD.Val H (.sl (l.map fun z => [.int .i64 z])) v
structure OpC (H : AH) (us : List Value) (o : OpD) (pv wv bv : Value) : Prop where
 len : us.length = 71
 c0 : us[0]? = some (.int .i64 o.author)
 c1 : us[1]? = some (.int .u32 o.seq)
 c2 : us[2]? = some pv
 c3 : us[3]? = some (.int .i64 o.kind)
 c4 : us[4]? = some wv
 of : (us.drop 5).take 32 = iv .u8 o.of
 check : (us.drop 37).take 32 = iv .u8 o.check
 c69 : us[69]? = some (.string o.text)
 c70 : us[70]? = some bv
 parents : KsV H pv o.parents
 who : InV H wv o.who
 boxes : BxV H bv o.boxes
structure NodeC (H : AH) (us : List Value) (x : NodeD) (pv wv bv qv : Value) : Prop where
 len : us.length = 104
 id : us.take 32 = iv .u8 x.id
 op : OpC H ((us.drop 32).take 71) x.op pv wv bv
 c103 : us[103]? = some qv
 past : InV H qv x.past
theorem OpC.low {H H' : AH} {us : List Value} {o : OpD} {pv wv bv : Value} (h : OpC H us o pv wv bv) (hl : ∀ j, j < H.length → hget H' j = hget H j) : OpC H' us o pv wv bv :=
 ⟨h.len, h.c0, h.c1, h.c2, h.c3, h.c4, h.of, h.check, h.c69, h.c70, h.parents.low hl, h.who.low hl, h.boxes.low hl⟩
end
section
def bA (l : List Int) : ByteArray := ⟨(Lib.bytesOf l).toArray⟩
def cmpL (a b : List Int) : Int := Extern.BytealgCompare.cmp (bA a) (bA b)
end
section
def memI (z : Int) : Bool := decide (0 ≤ z) && decide (z < 8)
def cmpI (a b : Int) : Int := if a < b then -1 else if b < a then 1 else 0
end
section
theorem nt_ptrG (a : Option Addr) : notTuple (.pointer a) = true := rfl
theorem nt_intG (k : IntKind) (x : Int) : notTuple (.int k x) = true := rfl
theorem nt_slG (a : Option Addr) (n c : Nat) : notTuple (.slice a n c) = true := rfl
theorem nt_strG (s : ByteArray) : notTuple (.string s) = true := rfl
theorem nt_aggG (a : Array Value) : notTuple (.agg a) = true := rfl
theorem nt_boolG (b : Bool) : notTuple (.bool b) = true := rfl
end
section
structure Acc (H : AH) (t e : TypeId) (v : Value) (n : Nat) (E : Nat → Value → Prop) : Prop where
 nt : notTuple v = true
 cs : v.cells = #[v]
 len : xlen Tryd.prog t v = some (.int .i64 n)
 at_ : ∀ i, i < n → ∃ p x, notTuple p = true ∧ xindexAddr Tryd.prog t v (.int .i64 (i : Nat)) = some p ∧ notTuple x = true ∧ E i x ∧ ∀ G : AH, Low H.length H G → xload Tryd.prog e p G = some x
theorem Acc.low {H H' : AH} {t e : TypeId} {v : Value} {n : Nat} {E : Nat → Value → Prop} (h : Acc H t e v n E) (hl : Low H.length H H') : Acc H' t e v n E :=
 ⟨h.nt, h.cs, h.len, fun i hi => by
  obtain ⟨p, x, a, b, c, d, f⟩ := h.at_ i hi
  exact ⟨p, x, a, b, c, d, fun G hg => f G ⟨fun j hj => (hg.1 j (by have := hl.2; omega)).trans (hl.1 j hj), by have := hl.2; have := hg.2; omega⟩⟩⟩
attribute [local simp] wb_bool wb_undef with_lit XL_nil XL_cons XLc_val XLc_call step1_eq stepW_t stepW_f stepC_n stepC_s stepX_s stepX_n stepN_s calleeX xrecv oneV xop_eq xopR_s xopR_n wantedA_eq wantedG_n wantedG_s plain1_int plain1_bool plain1_string bits_i64 bits_u64 bits_u32 bits_u16 bits_u8 xeqA xagg xcmp xarr allK_iv num_iv calleeOf xread xeff xbin xint xnil xun xstr xload xconv xpart xfield xfieldAddr xindexAddr xindex bnd asInt? xslice xlen xmin xmax xbuild xfill xappend xapp2 xappstr xappmk xcap xcopy xcells eval_tmp eval_const put_at put_none fr0_at cells_agg cells_int cells_bool cells_string cells_ptr cells_slice notTuple tab iv_all hget_app hget_app0 hget_cons0 hget_cons set_app set_app0 setR setR_one QL_nil QL_cons QLc_val stepQ_t stepQ_f stepQC_n stepQC_s stepQX_s SL_nil SL_cons SLc_val stepS_t stepS_f ltT ltF leT leF eqT eqF ltTn ltFn leTn leFn eqTn eqFn beqT beqF bneT bneF wi64 wu64 wu32 wu16 wu8 tmodP tdivP hgetL hgetNe hgetEq setL nums_def nums_len Nat.succ_le_of_lt List.getElem?_cons_zero List.getElem?_cons_succ Option.getD_some Int.toNat_add Int.toNat_mul agM okM agB agI agS agP agL agA okB okI okS okP okSl okA
theorem InV.acc {H : AH} {v : Value} {l : List Int} (h : InV H v l) : Acc H 29 3 v l.length (fun i x => x = .int .i64 (l.getD i 0)) := by
 refine ⟨(val_nt h).1, (val_nt h).2, ?_, fun i hi => ?_⟩
 ·have := val_len (P := Tryd.prog) (t := 29) (e := 3) h (by simp)
  rw [List.length_map] at this
  exact this
 ·obtain ⟨z, hz⟩ : ∃ z, l[i]? = some z := ⟨_, List.getElem?_eq_getElem hi⟩
  obtain ⟨j, b, us, hv, hb, hle, hx, hus, hul, hle2, hc, hval⟩ := val_at (P := Tryd.prog) (t := 29) (e := 3) (sz := 1) h (by simp) (by simp) (by omega) (fun row hr => by
   obtain ⟨y, _, rfl⟩ := List.mem_map.1 hr; rfl) (i := i) (row := [.int .i64 z]) (by rw [List.getElem?_map, hz]; rfl)
  obtain ⟨u, r, rfl, v1, n1⟩ := hval.cons
  obtain rfl := n1.nil
  have hcell : b.cells[i]? = some (.int .i64 z) := by
   have := hc 0 (by omega)
   rw [Nat.mul_one, Nat.add_zero] at this
   rw [this, val_int v1]; rfl
  refine ⟨_, .int .i64 z, rfl, hx, rfl, by simp [List.getD_eq_getElem?_getD, hz], fun G hg => ?_⟩
  have hbG : hget G j = some b := (hg.1 j (hget_lt hb)).trans hb
  simp [xload, hbG, hcell]
theorem KsV.acc {H : AH} {v : Value} {l : List (List Int)} (h : KsV H v l) (hl : ∀ k ∈ l, k.length = 32) : Acc H 33 28 v l.length (fun i x => x = .agg (iv .u8 (l.getD i [])).toArray) := by
 refine ⟨(val_nt h).1, (val_nt h).2, ?_, fun i hi => ?_⟩
 ·have := val_len (P := Tryd.prog) (t := 33) (e := 28) h (by simp)
  rw [List.length_map] at this
  exact this
 ·obtain ⟨z, hz⟩ : ∃ z, l[i]? = some z := ⟨_, List.getElem?_eq_getElem hi⟩
  obtain ⟨j, b, us, hv, hb, hle, hx, hus, hul, hle2, hc, hval⟩ := val_at (P := Tryd.prog) (t := 33) (e := 28) (sz := 32) h (by simp) (by simp) (by omega) (fun row hr => by
   obtain ⟨y, hy, rfl⟩ := List.mem_map.1 hr
   unfold kd
   rw [List.length_map]
   exact hl y hy) (i := i) (row := kd z) (by rw [List.getElem?_map, hz]; rfl)
  refine ⟨_, .agg us.toArray, rfl, hx, rfl, by rw [hval.key]; simp [List.getD_eq_getElem?_getD, hz], fun G hg => ?_⟩
  have hbG : hget G j = some b := (hg.1 j (hget_lt hb)).trans hb
  exact load_at (P := Tryd.prog) (e := 28) (i := i) hbG (by simp) (by omega) (by simp) hus hle2
def risesI (l : List Int) : Bool := (List.range (l.length - 1)).all fun i => decide (cmpI (l.getD i 0) (l.getD (i + 1) 0) < 0)
end
section
def risesK (ps : List (List Int)) : Bool := (List.range (ps.length - 1)).all fun i => decide (cmpL (ps.getD i []) (ps.getD (i + 1) []) < 0)
def risesX (l : List BoxD) : Bool := (List.range (l.length - 1)).all fun i => decide (cmpI ((l.map BoxD.to).getD i 0) ((l.map BoxD.to).getD (i + 1) 0) < 0)
def placeB (o : OpD) : Bool := if o.kind = 1 then decide (o.seq = 1) && decide (o.parents.length = 0) else decide (o.seq ≠ 0) && (decide (0 < o.parents.length) && (decide (o.parents.length ≤ 8) && risesK o.parents))
def whoB (o : OpD) : Bool := if o.kind = 1 then (o.who.all memI && risesI o.who) && decide (o.author ∈ o.who) else if o.kind = 2 ∨ o.kind = 3 then decide (o.who.length = 1) && ((o.who.all memI && risesI o.who) && !decide (o.author ∈ o.who)) else decide (o.who.length = 0)
def keysB (o : OpD) : Bool := (decide (o.of ≠ zl 32) == decide (o.kind = 5 ∨ o.kind = 6)) && (decide (o.check = zl 32) == decide (o.kind = 7))
def textOk (o : OpD) : Bool := if o.kind = 7 then decide (0 < o.text.size) && decide (o.text.size ≤ 256) else decide (o.text.size = 0)
def boxB (a : Int) (b : BoxD) : Bool := memI b.to && (decide (b.to ≠ a) && decide (b.body.size ≤ 256))
def boxesB (o : OpD) : Bool := o.boxes.all (boxB o.author) && risesX o.boxes
def rightO (o : OpD) : Bool := decide (1 ≤ o.kind) && (decide (o.kind ≤ 7) && (memI o.author && (placeB o && (whoB o && (keysB o && (textOk o && boxesB o))))))
end
section
theorem Acc.fn {H : AH} {t e : TypeId} {v : Value} {n : Nat} {E : Nat → Value → Prop} (h : Acc H t e v n E) : ∃ X : Nat → Value, ∀ i, i < n → E i (X i) ∧ notTuple (X i) = true ∧ ∃ p, notTuple p = true ∧ xindexAddr Tryd.prog t v (.int .i64 (i : Nat)) = some p ∧ ∀ G : AH, Low H.length H G → xload Tryd.prog e p G = some (X i) := by
 have h' : ∀ i, ∃ x, i < n → E i x ∧ notTuple x = true ∧ ∃ p, notTuple p = true ∧ xindexAddr Tryd.prog t v (.int .i64 (i : Nat)) = some p ∧ ∀ G : AH, Low H.length H G → xload Tryd.prog e p G = some x := fun i => by
  by_cases hi : i < n
  ·obtain ⟨p, x, q1, q2, q3, q4, q5⟩ := h.at_ i hi
   exact ⟨x, fun _ => ⟨q4, q3, p, q1, q2, q5⟩⟩
  ·exact ⟨.bool false, fun h => absurd h hi⟩
 exact ⟨fun i => (h' i).choose, fun i => (h' i).choose_spec⟩
end
section
def wv (W : List Nat) : List Value := W.map fun x : Nat => Value.int .u64 (x : Int)
def hasW (W : List Nat) (i k : Nat) : Bool := (W.getD (2 * i + k / 64) 0).testBit (k % 64)
def addW (W : List Nat) (i k : Nat) : List Nat := W.set (2 * i + k / 64) (W.getD (2 * i + k / 64) 0 ||| 2 ^ (k % 64))
def joinW (W : List Nat) (i a b : Nat) : List Nat := (W.set (2 * i) (W.getD (2 * i) 0 ||| a)).set (2 * i + 1) (W.getD (2 * i + 1) 0 ||| b)
def Wd (W : List Nat) : Prop := ∀ x ∈ W, x < 2 ^ 64
theorem Wd.get {W : List Nat} (h : Wd W) (j : Nat) : W.getD j 0 < 2 ^ 64 := by
 rw [List.getD_eq_getElem?_getD]
 cases hj : W[j]? with
 | none => simp
 | some x => exact h x (List.mem_of_getElem? hj)
theorem Wd.set {W : List Nat} (h : Wd W) {j x : Nat} (hx : x < 2 ^ 64) : Wd (W.set j x) := fun y hy => by
 rcases List.mem_or_eq_of_mem_set hy with hh | rfl
 ·exact h y hh
 ·exact hx
theorem Wd.add {W : List Nat} (h : Wd W) (i k : Nat) : Wd (addW W i k) := h.set (Nat.or_lt_two_pow (h.get _) (Nat.pow_lt_pow_right (by omega) (by omega)))
theorem Wd.join {W : List Nat} (h : Wd W) (i : Nat) {a b : Nat} (ha : a < 2 ^ 64) (hb : b < 2 ^ 64) : Wd (joinW W i a b) := (h.set (Nat.or_lt_two_pow (h.get _) ha)).set (Nat.or_lt_two_pow (h.get _) hb)
def jn (W : List Nat) (i : Nat) (L : List Nat) : Nat → List Nat
 | 0 => W
 | t + 1 => (jn W i L t).set (2 * i + t) ((jn W i L t).getD (2 * i + t) 0 ||| L.getD t 0)
end
section
def OpD.no : OpD := ⟨0, 0, [], 0, [], [], [], ByteArray.empty, []⟩
def NodeD.no : NodeD := ⟨[], OpD.no, []⟩
def nd (l : List NodeD) (i : Nat) : NodeD := l.getD i NodeD.no
def findN (l : List NodeD) (i : Nat) (k : List Int) : Option Nat := (List.range i).find? fun a => (nd l a).id == k
theorem findN_succ (l : List NodeD) (i : Nat) (k : List Int) : findN l (i + 1) k = match findN l i k with | some a => some a | none => if (nd l i).id = k then some i else none := by
 unfold findN
 rw [List.range_succ, List.find?_append]
 cases h : (List.range i).find? fun a => (nd l a).id == k with
 | some a => rfl
 | none =>
  simp only [Option.none_or, List.find?_cons, List.find?_nil]
  by_cases e : (nd l i).id = k
  ·simp [e]
  ·have : ((nd l i).id == k) = false := by simpa using e
   simp [this, e]
def kyv (k : List Int) : Value := .agg (iv .u8 k).toArray
theorem keyEq_kyv (a b : List Int) : keyEq (kyv a) (kyv b) = (a == b) := by
 show ((iv .u8 a).toArray.toList.map num == (iv .u8 b).toArray.toList.map num) = _
 rw [List.toList_toArray, List.toList_toArray, num_iv, num_iv]
theorem mfind_app (k : Value) (l : List (Value × Value)) (p : Value × Value) : mfind k (l ++ [p]) = match mfind k l with | some i => some i | none => if keyEq k p.1 = true then some l.length else none := by
 induction l with
 | nil => simp [mfind]
 | cons q l ih =>
  rw [List.cons_append, mfind, mfind]
  by_cases e : keyEq k q.1 = true
  ·rw [if_pos e, if_pos e]
  ·rw [if_neg e, if_neg e, ih]
   cases mfind k l with
   | some i => rfl
   | none =>
    by_cases e2 : keyEq k p.1 = true
    ·simp [e2]
    ·simp [e2]
structure MapP (E : List (Value × Value)) (l : List NodeD) (i : Nat) : Prop where
 ok : mapOk Tryd.prog 28 E = true
 get : ∀ k, mget (kyv k) E = (findN l i k).map fun a => .int .i64 ((a : Nat) : Int)
theorem MapP.zero (l : List NodeD) : MapP [] l 0 := ⟨rfl, fun k => rfl⟩
theorem iv_allK (l : List Int) : allK .u8 (iv .u8 l) = true := by
 induction l with
 | nil => rfl
 | cons z l ih => simp [iv, allK] at ih ⊢; try exact ih
theorem kyv_ok {k : List Int} (h : k.length = 32) : keyOk Tryd.prog 28 (kyv k) = true := by
 unfold keyOk kyv
 have : und Tryd.prog 28 = .array 32 5 := by kernel_rfl
 rw [this]
 have h2 : und Tryd.prog 5 = .int .u8 := by kernel_rfl
 simp only [h2]
 rw [iv_allK]
 have h3 : gl Tryd.prog 28 = true := by kernel_rfl
 have h4 : szt Tryd.prog 5 = 1 := by kernel_rfl
 rw [h3, h4]
 simp [h, iv_length]
theorem mfind_none {k : Value} {E : List (Value × Value)} (h : mget k E = none) : mfind k E = none := by
 unfold mget at h
 cases hm : mfind k E with
 | none => rfl
 | some j =>
  obtain ⟨hj, p, hp, _⟩ := mfind_lt hm
  rw [hm] at h
  simp [hp] at h
theorem MapP.put {E : List (Value × Value)} {l : List NodeD} {i : Nat} (h : MapP E l i) (hk : (nd l i).id.length = 32) (hn : findN l i (nd l i).id = none) : MapP (mput (kyv (nd l i).id) (.int .i64 (i : Nat)) E) l (i + 1) := by
 have hm : mfind (kyv (nd l i).id) E = none := mfind_none (by rw [h.get, hn]; rfl)
 have hp : mput (kyv (nd l i).id) (.int .i64 (i : Nat)) E = E ++ [(kyv (nd l i).id, .int .i64 (i : Nat))] := by simp [mput, hm]
 rw [hp]
 refine ⟨?_, fun k => ?_⟩
 ·have := h.ok
  unfold mapOk at this ⊢
  rw [List.all_append, this]
  simp [kyv_ok hk]
 ·have hg := h.get k
  unfold mget at hg ⊢
  rw [mfind_app, findN_succ]
  cases hf : findN l i k with
  | some a =>
   rw [hf] at hg
   cases hm2 : mfind (kyv k) E with
   | none => rw [hm2] at hg; cases hg
   | some j =>
    obtain ⟨hj, p, hpp, _⟩ := mfind_lt hm2
    rw [hm2] at hg
    simp only [Option.bind_some, Option.map_some] at hg ⊢
    rw [List.getElem?_append_left hj]
    exact hg
  | none =>
   rw [hf] at hg
   have hm2 : mfind (kyv k) E = none := mfind_none (by unfold mget; exact hg)
   rw [hm2]
   simp only []
   rw [keyEq_kyv]
   by_cases e : (nd l i).id = k
   ·subst e; simp
   ·have : (k == (nd l i).id) = false := by simpa using fun e2 => e e2.symm
    simp [this, e]
theorem NodeC.low {H H' : AH} {us : List Value} {x : NodeD} {pv wv bv qv : Value} (h : NodeC H us x pv wv bv qv) (hl : ∀ j, j < H.length → hget H' j = hget H j) : NodeC H' us x pv wv bv qv := by
 exact ⟨h.len, h.id, h.op.low hl, h.c103, h.past.low hl⟩
end
section
def One (b : Nat) (H H' : AH) : Prop := H.length ≤ H'.length ∧ ∀ j, j < H.length → j ≠ b → hget H' j = hget H j
theorem One.refl (b : Nat) (H : AH) : One b H H := ⟨Nat.le_refl _, fun _ _ _ => rfl⟩
theorem One.trans {b : Nat} {A B C : AH} (h : One b A B) (h' : One b B C) : One b A C := ⟨Nat.le_trans h.1 h'.1, fun j hj hb => (h'.2 j (by have := h.1; omega) hb).trans (h.2 j hj hb)⟩
theorem One.set {b : Nat} (H : AH) (x : Option Blk) : One b H (H.set b x) := ⟨by simp, fun j hj hb => hget_set_ne (fun e => hb e.symm)⟩
theorem One.push {b : Nat} (H L : AH) : One b H (H ++ L) := ⟨by simp, fun j hj hb => hget_left hj⟩
theorem One.low {b n : Nat} {H0 H H' : AH} (hn : n ≤ b) (h0 : Low n H0 H) (h : One b H H') (hl : n ≤ H.length) : Low n H0 H' := ⟨fun j hj => (h.2 j (by omega) (by omega)).trans (h0.1 j hj), by have := h0.2; have := h.1; omega⟩
end
section
def seqN (l : List NodeD) (i t : Nat) : Nat := ((List.range t).filter fun a => (nd l a).op.author == (nd l i).op.author).length
def seqA (l : List NodeD) (W : List Nat) (i t : Nat) : Bool := (List.range t).all fun a => !((nd l a).op.author == (nd l i).op.author) || hasW W i a
def seqB (l : List NodeD) (W : List Nat) (i : Nat) : Bool := seqA l W i i && decide ((nd l i).op.seq = 1 + (seqN l i i : Nat))
end
section
def inB (l : List NodeD) (n : Nat) (ps : List (List Int)) (k : Nat) : Bool := ps.any fun p => match findN l n p with | some a => decide (a = k) || decide ((k : Int) ∈ (nd l a).past) | none => false
def pastL (l : List NodeD) (n : Nat) (ps : List (List Int)) : List Int := ((List.range n).filter (inB l n ps)).map fun k : Nat => (k : Int)
def autN (l : List NodeD) (n : Nat) (x : Int) : Nat := ((List.range n).filter fun a => (nd l a).op.author == x).length
def autA (l : List NodeD) (n : Nat) (x : Int) (past : List Int) : Bool := (List.range n).all fun a => !((nd l a).op.author == x) || decide ((a : Int) ∈ past)
def turnB (l : List NodeD) (n : Nat) (o : OpD) (past : List Int) : Bool := (decide (o.kind = 1) == decide (n = 0)) && (autA l n o.author past && decide (o.seq = 1 + (autN l n o.author : Nat)))
def stepB (l : List NodeD) (i : Nat) : Bool := (nd l i).op.parents.all (fun p => (findN l i p).isSome) && (rightO (nd l i).op && ((findN l i (nd l i).id).isNone && (decide ((nd l i).past = pastL l i (nd l i).op.parents) && turnB l i (nd l i).op (nd l i).past)))
def rightG (l : List NodeD) : Bool := decide (l.length ≤ 96) && (List.range l.length).all (stepB l)
end
section
theorem key_getD {a : List (List Int)} (h : ∀ k ∈ a, k.length = 32) {i : Nat} (hi : i < a.length) : (a.getD i []).length = 32 := by
 rw [List.getD_eq_getElem?_getD, List.getElem?_eq_getElem hi]
 exact h _ (List.getElem_mem hi)
end
section
def CD.flat : CD → Bool | .sl _ => false | _ => true
def CD.fv : CD → Value | .int k z => .int k z | .str s => .string s | .bool b => .bool b | .sl _ => undef
theorem flat_val {H : AH} {d : CD} {x : Value} (hf : d.flat = true) (h : CD.Val H d x) : x = d.fv := by
 cases h with
 | int => rfl
 | str => rfl
 | bool => rfl
 | nil _ => cases hf
 | sl _ _ _ _ => cases hf
theorem val_flat {H : AH} {d : CD} (hf : d.flat = true) : CD.Val H d d.fv := by
 cases d with
 | int => exact .int
 | str => exact .str
 | bool => exact .bool
 | sl => cases hf
theorem fl_at {β : Type} {L : List (List β)} {n i c : Nat} {row : List β} {d : β} (h : ∀ r ∈ L, r.length = n) (hi : L[i]? = some row) (hc : row[c]? = some d) : L.flatten[i * n + c]? = some d := by
 have hr := h row (List.mem_of_getElem? hi)
 have hcl := (List.getElem?_eq_some_iff.1 hc).1
 have := fl_get h hi
 rw [← this] at hc
 rwa [List.getElem?_take_of_lt (by omega), List.getElem?_drop] at hc
def flatR (rows : List (List CD)) : Prop := ∀ row ∈ rows, ∀ d ∈ row, d.flat = true
theorem val_cells {H : AH} {rows : List (List CD)} {v : Value} {sz : Nat} (h0 : 0 < sz) (h : CD.Val H (.sl rows) v) (hr : ∀ row ∈ rows, row.length = sz) (hf : flatR rows) : xcells sz v H = some (rows.flatten.map CD.fv) := by
 cases h with
 | @nil a ha =>
  cases a with
  | none => rfl
  | some x =>
   obtain ⟨j, off, spot⟩ := x
   have hsp : spot = some 0 := ha _ rfl
   subst hsp
   rfl
 | @sl sz' j k _ h1 h2 h3 h4 =>
  have hlen : rows.flatten.length = rows.length * sz := fl_len hr
  have hle : rows.length * sz ≤ k.cells.length := by
   cases rows with
   | nil => simp
   | cons r rs =>
    have e1 := h3 r (by simp)
    have e2 := hr r (by simp)
    rw [← e2, e1]; exact h2
  have hx : xcells sz (.slice (some ⟨j, 0, none⟩) rows.length rows.length) H = some ((k.cells.drop 0).take (rows.length * sz)) := by
   unfold xcells
   simp only [h1]
   rw [if_pos (by omega)]
  rw [hx, List.drop_zero]
  congr 1
  apply List.ext_getElem?
  intro c
  rcases Nat.lt_or_ge c (rows.length * sz) with hc | hc
  ·have hi : c / sz < rows.length := Nat.div_lt_of_lt_mul (by rw [Nat.mul_comm]; exact hc)
   obtain ⟨row, hrow⟩ : ∃ row, rows[c / sz]? = some row := ⟨_, List.getElem?_eq_getElem hi⟩
   have hrl := hr row (List.mem_of_getElem? hrow)
   have hrl' := h3 row (List.mem_of_getElem? hrow)
   have hm := Nat.mod_lt c h0
   obtain ⟨d, hd⟩ : ∃ d, row[c % sz]? = some d := ⟨_, List.getElem?_eq_getElem (by omega)⟩
   have hce : c / sz * sz + c % sz = c := by rw [Nat.mul_comm]; exact Nat.div_add_mod c sz
   have hat := fl_at hr hrow hd
   rw [hce] at hat
   have hkc : k.cells[c]? = some (k.cells[c]'(by omega)) := List.getElem?_eq_getElem _
   have hv := h4 (c / sz) row (c % sz) d _ hrow hd (by rw [show sz' = sz by omega, hce]; exact hkc)
   rw [List.getElem?_take_of_lt hc, hkc, flat_val (hf row (List.mem_of_getElem? hrow) d (List.mem_of_getElem? hd)) hv, List.getElem?_map, hat]
   rfl
  ·rw [List.getElem?_eq_none (by rw [List.length_take]; omega), List.getElem?_eq_none (by rw [List.length_map, hlen]; omega)]
theorem own_val {G : AH} {v : Value} {e : TypeId} {sz : Nat} {rows : List (List CD)} {F : List Nat} (h0 : 0 < sz) (h : OwnF G v e sz (rows.flatten.map CD.fv) F) (hr : ∀ row ∈ rows, row.length = sz) (hf : flatR rows) : CD.Val G (.sl rows) v := by
 have hlen : rows.flatten.length = rows.length * sz := fl_len hr
 rcases h with ⟨rfl, h1, _⟩ | ⟨j, len, rfl, h2, h3, _⟩
 ·have h4 := congrArg List.length h1
  rw [List.length_map, hlen, List.length_nil] at h4
  have : rows.length = 0 := by
   rcases Nat.mul_eq_zero.1 h4 with h | h
   ·exact h
   ·omega
  rw [List.eq_nil_of_length_eq_zero this]
  exact .nil (fun x e => by cases e)
 ·rw [List.length_map, hlen] at h3
  have : len = rows.length := (Nat.eq_of_mul_eq_mul_right h0 h3).symm
  subst this
  refine .sl (sz := sz) h2 (by show _ ≤ (rows.flatten.map CD.fv).length; rw [List.length_map, hlen]; exact Nat.le_refl _) hr (fun i row c d x hi hc hx => ?_)
  have hat := fl_at hr hi hc
  have hx' : (rows.flatten.map CD.fv)[i * sz + c]? = some x := hx
  rw [List.getElem?_map, hat] at hx'
  cases hx'
  exact val_flat (hf row (List.mem_of_getElem? hi) d (List.mem_of_getElem? hc))
def clV (v : Value) (n : Nat) : Value := match v with | .slice none _ _ => .slice none 0 0 | .slice (some _) k _ => .slice (some ⟨n + 1, 0, none⟩) k k | _ => undef
def clN (v : Value) : Nat := match v with | .slice none _ _ => 0 | _ => 2
theorem val_shape {H : AH} {rows : List (List CD)} {v : Value} (h : CD.Val H (.sl rows) v) : (v = .slice none 0 0 ∧ rows = []) ∨ ∃ a, v = .slice (some a) rows.length rows.length := by
 cases h with
 | @nil a ha =>
  cases a with
  | none => exact .inl ⟨rfl, rfl⟩
  | some x => exact .inr ⟨x, rfl⟩
 | sl _ _ _ _ => exact .inr ⟨_, rfl⟩
theorem clone_app {P : Program} {nro : Nat} {t e : TypeId} {sz : Nat} {cells : List Value} {H : AH} {a : Addr} {n : Nat} (hu : und P t = .slice e) (hs : szt P e = sz) (h0 : 0 < sz) (hz : (zer P e).map (·.cells.size) = some sz) (hnro : nro ≤ H.length)
  (hx : xcells sz (.slice (some a) n n) (H ++ [some ⟨[], e, some sz⟩]) = some cells) (hl : cells.length = n * sz) (hb : cells.length * byt P e ≤ 140737488355328) (hm : cells.length ≤ maxLen) :
  xappend P nro t (.slice (some ⟨H.length, 0, none⟩) 0 0) (.slice (some a) n n) (H ++ [some ⟨[], e, some sz⟩]) = some (.slice (some ⟨H.length + 1, 0, none⟩) n n, H ++ [none, some ⟨cells, e, some sz⟩]) := by
 subst hs
 have hg : hget (H ++ [some ⟨[], e, some (szt P e)⟩]) H.length = some ⟨[], e, some (szt P e)⟩ := by rw [hget_app0]; rfl
 unfold xappend
 simp only [hu, hx, hg]
 rw [if_pos ⟨trivial, h0, hz, hnro, trivial, trivial, by simp, by simpa using hb, by simpa using hm⟩, hl, Nat.mul_div_cancel _ h0]
 simp
def NewC (H : AH) (v : Value) (e : TypeId) (sz : Nat) (cells : List Value) (v' : Value) (H' : AH) : Prop :=
 v' = clV v H.length ∧ H'.length = H.length + clN v ∧ Low H.length H H' ∧ ∃ F, OwnF H' v' e sz cells F ∧ ∀ j ∈ F, H.length ≤ j
theorem kd_flat (ps : List (List Int)) : flatR (ps.map kd) := by
 intro row hr d hd
 obtain ⟨k, _, rfl⟩ := List.mem_map.1 hr
 obtain ⟨z, _, rfl⟩ := List.mem_map.1 hd
 rfl
theorem kd_len {ps : List (List Int)} (h : ∀ k ∈ ps, k.length = 32) : ∀ row ∈ ps.map kd, row.length = 32 := by
 intro row hr
 obtain ⟨k, hk, rfl⟩ := List.mem_map.1 hr
 rw [kd, List.length_map]; exact h k hk
def ksC (ps : List (List Int)) : List Value := (ps.map kd).flatten.map CD.fv
theorem ksC_len {ps : List (List Int)} (h : ∀ k ∈ ps, k.length = 32) : (ksC ps).length = ps.length * 32 := by unfold ksC; rw [List.length_map, fl_len (kd_len h), List.length_map]
attribute [local simp] wb_bool wb_undef with_lit XL_nil XL_cons XLc_val XLc_call step1_eq stepW_t stepW_f stepC_n stepC_s stepX_s stepX_n stepN_s calleeX xrecv oneV xop_eq xopR_s xopR_n wantedA_eq wantedG_n wantedG_s plain1_int plain1_bool plain1_string bits_i64 bits_u64 bits_u32 bits_u16 bits_u8 xeqA xagg xcmp xarr allK_iv num_iv calleeOf xread xeff xbin xint xnil xun xstr xload xconv xpart xfield xfieldAddr xindexAddr xindex bnd asInt? xslice xlen xmin xmax xbuild xfill xappend xapp2 xappstr xappmk xcap xcopy xcells eval_tmp eval_const put_at put_none fr0_at cells_agg cells_int cells_bool cells_string cells_ptr cells_slice notTuple tab iv_all hget_app hget_app0 hget_cons0 hget_cons set_app set_app0 setR setR_one QL_nil QL_cons QLc_val stepQ_t stepQ_f stepQC_n stepQC_s stepQX_s SL_nil SL_cons SLc_val stepS_t stepS_f ltT ltF leT leF eqT eqF ltTn ltFn leTn leFn eqTn eqFn beqT beqF bneT bneF wi64 wu64 wu32 wu16 wu8 tmodP tdivP hgetL hgetNe hgetEq setL nums_def nums_len Nat.succ_le_of_lt List.getElem?_cons_zero List.getElem?_cons_succ Option.getD_some Int.toNat_add Int.toNat_mul agM okM agB agI agS agP agL agA okB okI okS okP okSl okA
theorem cloneK_ac {nro : Nat} {γ : Nat → Option Nat} {H : AH} {v : Value} {l : List (List Int)} (h : KsV H v l) (hk : ∀ k ∈ l, k.length = 32) (hnro : nro ≤ H.length) (hm : l.length ≤ 100000000000) : AC Tryd.prog nro γ 42 #[v] H (NewC H v 28 32 (ksC l)) := by
 have hxc : ∀ G : AH, Low H.length H G → xcells 32 v G = some (ksC l) := fun G hG => val_cells (by omega) (CD.Val.low (fun j hj => hG.1 j hj) h) (kd_len hk) (kd_flat l)
 have hcl := ksC_len hk
 have hsh := val_shape h
 rw [List.length_map] at hsh
 generalize ksC l = cells at *
 have hb0 : Low H.length H (H ++ [some ⟨[], 28, some 32⟩]) := Low.push (Nat.le_refl _) _
 refine ac_of_aw Tryd.func42 rfl Tryd.ntmps42 Tryd.results42 (by simp) ?_
 refine aw_seq ?_
 (refine aw_ops (by kernel_rfl) (fun K hK => ?_); simp (disch := first | omega | (simp only [lnS]; try omega)) [-getElem?_pos, -getElem?_neg]; refine hK _ _ ?_; clear hK K)
 refine aw_seq ?_
 refine aw_seq ?_
 rcases hsh with ⟨rfl, hl0⟩ | ⟨a, rfl⟩
 ·have hl0 : l = [] := List.map_eq_nil_iff.1 hl0
  subst hl0
  have hc0 : cells = [] := List.eq_nil_of_length_eq_zero (by simpa using hcl)
  subst hc0
  (refine aw_ops (by kernel_rfl) (fun K hK => ?_); simp (disch := first | omega | (simp only [lnS]; try omega)) [-getElem?_pos, -getElem?_neg]; refine hK _ _ ?_; clear hK K)
  refine aw_t (by (first | (simp [eval_tmp, put_at]; done) | (simp [eval_tmp, put_at]; omega))) (by kernel_rfl) ?_
  refine aw_seq ?_
  (refine aw_ops (by kernel_rfl) (fun K hK => ?_); simp (disch := first | omega | (simp only [lnS]; try omega)) [-getElem?_pos, -getElem?_neg]; refine hK _ _ ?_; clear hK K)
  (refine aw_ret ?_; simp (disch := first | omega | (simp only [lnS]; try omega)) [-getElem?_pos, -getElem?_neg, thenQ_ret, scopeQ_ret, inBlockQ_ret, RQ, resL, resV])
  exact ⟨rfl, rfl, Low.refl (Nat.le_refl _), [], .inl ⟨rfl, rfl, rfl⟩, fun j hj => by cases hj⟩
 ·have hap := clone_app (P := Tryd.prog) (nro := nro) (t := 33) (e := 28) (sz := 32) (by simp) (by simp) (by omega) (by simp) hnro (hxc _ hb0) hcl (by rw [hcl]; simp; omega) (by rw [hcl]; simp only [maxLen]; omega)
  (refine aw_ops (by kernel_rfl) (fun K hK => ?_); simp (disch := first | omega | (simp only [lnS]; try omega)) [-getElem?_pos, -getElem?_neg]; refine hK _ _ ?_; clear hK K)
  refine aw_f (by (first | (simp [eval_tmp, put_at]; done) | (simp [eval_tmp, put_at]; omega))) (by kernel_rfl) ?_
  refine aw_skip ?_
  refine aw_seq ?_
  (refine aw_ops (by kernel_rfl) (fun K hK => ?_); simp (disch := first | omega | (simp only [lnS]; try omega)) [-getElem?_pos, -getElem?_neg, -xappend, hap, List.range_zero, List.map_nil]; refine hK _ _ ?_; clear hK K)
  (refine aw_ret ?_; simp (disch := first | omega | (simp only [lnS]; try omega)) [-getElem?_pos, -getElem?_neg, thenQ_ret, scopeQ_ret, inBlockQ_ret, RQ, resL, resV])
  exact ⟨rfl, by simp [clN], ⟨fun j hj => hget_left hj, by simp⟩, [H.length + 1], .inr ⟨H.length + 1, l.length, rfl, by rw [hget_app]; rfl, hcl, rfl⟩, fun j hj => by simp at hj; omega⟩
end
section
theorem below_grow (w : World) (k : Nat) (os : Array Obj) : Below w.heap.size w (Sort.grow (w.drewN k) os) :=
  ⟨rfl, rfl, rfl, by show w.heap.size ≤ (w.heap ++ os).size; simp, fun b hb => by show (w.heap ++ os)[b]? = _; rw [Array.getElem?_append_left hb]⟩
def Pw (γ : Nat → Option Nat) (H : AH) : Prop := ∃ i ty, γ 1 = some i ∧ hget H i = some ⟨iv .u64 Lib.pow10Tab, ty, none⟩
theorem Pw.low {γ : Nat → Option Nat} {H G : AH} (h : Pw γ H) (hl : Low H.length H G) : Pw γ G := by
  obtain ⟨i, ty, h1, h2⟩ := h
  exact ⟨i, ty, h1, (hl.1 i (hget_lt h2)).trans h2⟩
def itoB (n : Int) : ByteArray := ⟨(Lib.itoa n).toArray⟩
theorem itoB_size {n : Int} (h0 : -9223372036854775808 ≤ n) (h1 : n ≤ 9223372036854775807) : (itoB n).size ≤ 21 := by
  show (Lib.itoa n).toArray.size ≤ 21
  simp only [List.size_toArray]
  exact Lib.itoa_length_le n h0 h1
theorem itoa_ac {nro : Nat} {γ : Nat → Option Nat} {H : AH} (hp : Pw γ H) {n : Int} (h0 : -9223372036854775808 ≤ n) (h1 : n ≤ 9223372036854775807) :
    AC Tryd.prog nro γ 60 #[.int .i64 n] H (fun v' H' => v' = .string (itoB n) ∧ H' = H) := by
  obtain ⟨i, ty, hg, hb⟩ := hp
  intro m base w args' hR hsz hva
  obtain ⟨y0, hy0, hv0⟩ := hva 0 _ rfl
  obtain rfl := hv0.int_
  obtain rfl := one_arg hsz hy0
  refine .inl ⟨by kernel_rfl, (Tryd.strconv_Itoa n h0 h1 w (hR.tab (by kernel_rfl) hg hb)).mono ?_⟩
  rintro e w' ⟨rfl, k, os, rfl⟩
  exact ⟨m, _, _, H, rfl, List.prefix_refl _, plainV_mk rfl, hR.below (below_grow w k os), (below_grow w k os).mono hR.base_le, rfl, rfl⟩
attribute [local simp] wb_bool wb_undef with_lit XL_nil XL_cons XLc_val XLc_call step1_eq stepW_t stepW_f stepC_n stepC_s stepX_s stepX_n stepN_s calleeX xrecv oneV xop_eq xopR_s xopR_n wantedA_eq wantedG_n wantedG_s plain1_int plain1_bool plain1_string bits_i64 bits_u64 bits_u32 bits_u16 bits_u8 xeqA xagg xcmp xarr allK_iv num_iv calleeOf xread xeff xbin xint xnil xun xstr xload xconv xpart xfield xfieldAddr xindexAddr xindex bnd asInt? xslice xlen xmin xmax xbuild xfill xappend xapp2 xappstr xappmk xcap xcopy xcells eval_tmp eval_const put_at put_none fr0_at cells_agg cells_int cells_bool cells_string cells_ptr cells_slice notTuple tab iv_all hget_app hget_app0 hget_cons0 hget_cons set_app set_app0 setR setR_one QL_nil QL_cons QLc_val stepQ_t stepQ_f stepQC_n stepQC_s stepQX_s SL_nil SL_cons SLc_val stepS_t stepS_f ltT ltF leT leF eqT eqF ltTn ltFn leTn leFn eqTn eqFn beqT beqF bneT bneF wi64 wu64 wu32 wu16 wu8 tmodP tdivP hgetL hgetNe hgetEq setL nums_def nums_len Nat.succ_le_of_lt List.getElem?_cons_zero List.getElem?_cons_succ Option.getD_some Int.toNat_add Int.toNat_mul agM okM agB agI agS agP agL agA okB okI okS okP okSl okA
theorem bl_bytes {nro : Nat} {γ : Nat → Option Nat} {H : AH} {i b : Nat} {s : ByteArray} {F : List Nat} {l : List Int} {ty : TypeId} (h : Bl H i s F) (hi : nro ≤ i) (hF : ∀ j ∈ F, nro ≤ j) (hl0 : 0 < l.length) (hbl : By l)
    (hx : hget H b = some ⟨iv .u8 l, ty, none⟩) (hbi : b ≠ i) (hs1 : s.size + l.length ≤ 1000000000) :
    AC Tryd.prog nro γ 61 #[.pointer (some ⟨i, 0, none⟩), .slice (some ⟨b, 0, none⟩) l.length l.length] H (fun v' H' => v' = .tuple #[.int .i64 l.length, .nilIface] ∧ ∃ F', Bl H' i (s ++ strOfNums l) F' ∧ H.length ≤ H'.length ∧ (∀ j ∈ F', H.length ≤ j) ∧ ∀ j, j < H.length → j ≠ i → j ∉ F → hget H' j = hget H j) := by
  have hlt := h.lt
  obtain ⟨p, v, hp, hg, ho, hn, hz⟩ := h
  obtain ⟨H1, hH1⟩ : ∃ H1, H1 = H.set i (some ⟨[.pointer (some ⟨i, 0, none⟩), v], 103, none⟩) := ⟨_, rfl⟩
  have hl1 : H1.length = H.length := by rw [hH1]; simp
  have hg1 : hget H1 i = some ⟨[.pointer (some ⟨i, 0, none⟩), v], 103, none⟩ := by rw [hH1]; exact hget_set_eq hlt.1
  have k1 : ∀ j, j ≠ i → hget H1 j = hget H j := fun j hj => by rw [hH1]; exact hget_set_ne (Ne.symm hj)
  have ho1 := ho.low (H' := H1) (fun j hj => k1 j (fun e => hn (e ▸ hj)))
  have hx1 := (k1 b hbi).trans hx
  have hxc : xcells 1 (.slice (some ⟨b, 0, none⟩) l.length l.length) H1 = some (iv .u8 l) := by
    unfold xcells
    simp only [hx1]
    rw [if_pos (by simp)]
    simp only [List.drop_zero, Nat.mul_one]
    rw [List.take_of_length_le (by simp)]
  obtain ⟨v', H2, hap, ho2, hl2, hk⟩ := ownF_append (P := Tryd.prog) (nro := nro) (t := 51) (e := 5) (H := H1) (v := v) (x := .slice (some ⟨b, 0, none⟩) l.length l.length) (sz := 1) (cells := iv .u8 (nums s)) (news := iv .u8 l) (F := F) (by simp) (by simp) (by omega) (by simp) ho1 hF
    (fun s e => by cases e) hxc (by intro e; have := congrArg List.length e; rw [iv_length, List.length_nil] at this; omega) (by simp [Nat.mod_one]) (by rw [iv_length, iv_length, nums_len]; simp; omega) (by rw [iv_length, iv_length, nums_len]; simp [maxLen]; omega)
  have hs := ownF_shape ho
  have hs' := ownF_shape ho2
  have hg2 : hget H2 i = some ⟨[.pointer (some ⟨i, 0, none⟩), v], 103, none⟩ := (hk i (by omega) hn).trans hg1
  have hiF : i ∉ [H1.length] := fun hm => by have := List.mem_singleton.1 hm; have := hlt.1; omega
  have hsn : (strOfNums l).size = l.length := sn_size l
  have hnF : ∀ j ∈ [H1.length], H.length ≤ j := fun j hj => by have := List.mem_singleton.1 hj; omega
  generalize [H1.length] = FN at *
  have hz2 : (s ++ strOfNums l).size = 0 → v' = .slice none 0 0 := fun h0 => by
    rw [ByteArray.size_append] at h0
    omega
  refine ac_of_aw Tryd.func61 rfl Tryd.ntmps61 Tryd.results61 (by simp) ?_
  refine aw_seq ?_
  (refine aw_ops (by kernel_rfl) (fun K hK => ?_); simp (disch := first | omega | (simp only [lnS]; try omega)) [-getElem?_pos, -getElem?_neg]; refine hK _ _ ?_; clear hK K)
  refine aw_seq ?_
  refine aw_ops (by kernel_rfl) (fun K hK => ?_)
  simp (disch := first | omega | (simp only [lnS]; try omega)) [-getElem?_pos, -getElem?_neg]
  refine ⟨by kernel_rfl, AC.mono (bl_check hp hg hi) ?_⟩
  rintro v1 G ⟨rfl, e⟩
  rw [← hH1] at e
  subst e
  clear hH1
  try simp (disch := first | omega | (simp only [lnS]; try omega)) [-getElem?_pos, -getElem?_neg]
  refine hK _ _ ?_; clear hK K
  refine aw_seq ?_
  (refine aw_ops (by kernel_rfl) (fun K hK => ?_); simp (disch := first | omega | (simp only [lnS]; try omega)) [-getElem?_pos, -getElem?_neg, hg1, hg2, hs.1, hs'.1, hs'.2, -notTuple, -xappend, hap]; refine hK _ _ ?_; clear hK K)
  refine aw_seq ?_
  (refine aw_ops (by kernel_rfl) (fun K hK => ?_); simp (disch := first | omega | (simp only [lnS]; try omega)) [-getElem?_pos, -getElem?_neg]; refine hK _ _ ?_; clear hK K)
  have hi2 : i < H2.length := hget_lt hg2
  have fin : ∃ F', Bl (H2.set i (some ⟨[.pointer (some ⟨i, 0, none⟩), v'], 103, none⟩)) i (s ++ strOfNums l) F' ∧ H.length ≤ (H2.set i (some ⟨[.pointer (some ⟨i, 0, none⟩), v'], 103, none⟩)).length ∧ (∀ j ∈ F', H.length ≤ j) ∧ ∀ j, j < H.length → j ≠ i → j ∉ F → hget (H2.set i (some ⟨[.pointer (some ⟨i, 0, none⟩), v'], 103, none⟩)) j = hget H j := by
   refine ⟨FN, ⟨.pointer (some ⟨i, 0, none⟩), v', .inr rfl, hget_set_eq hi2, ?_, hiF, hz2⟩, by simp; omega, hnF, fun j hj hji hjF => ?_⟩
   · have : nums (s ++ strOfNums l) = nums s ++ l := by simp [nums_appF, nums_of l hbl]
     rw [this, iv_append]
     exact ho2.low (fun j hj => hget_set_ne (fun e => hiF (e ▸ hj)))
   · rw [hget_set_ne (Ne.symm hji), hk j (by omega) hjF, k1 j hji]
  generalize H2.set i (some ⟨[.pointer (some ⟨i, 0, none⟩), v'], 103, none⟩) = H3 at *
  (refine aw_ret ?_; simp (disch := first | omega | (simp only [lnS]; try omega)) [-getElem?_pos, -getElem?_neg, thenQ_ret, scopeQ_ret, inBlockQ_ret, RQ, resL, resV])
  obtain ⟨F2, f1, f2, f3, f4⟩ := fin
  exact ⟨F2, f1, f3, f4⟩
end
section
def tmKeys : List (List Int) → ByteArray
 | [] => ⟨#[]⟩
 | k :: r => strOfNums k ++ tmKeys r
def tmSp : ByteArray := ⟨#[32]⟩
def tmHead (kind : Int) (s : ByteArray) : ByteArray := itoB kind ++ tmSp ++ itoB s.size ++ tmSp ++ s
def tmRec (kind : Int) (s : ByteArray) (ks : List (List Int)) : ByteArray := tmHead kind s ++ tmKeys ks
theorem ba_assoc (a b c : ByteArray) : a ++ b ++ c = a ++ (b ++ c) := by
 apply ByteArray.ext
 simp
theorem ba_nil (a : ByteArray) : a ++ (⟨#[]⟩ : ByteArray) = a := by
 apply ByteArray.ext
 simp
theorem tmKeys_app : ∀ a b : List (List Int), tmKeys (a ++ b) = tmKeys a ++ tmKeys b
 | [], b => by
  apply ByteArray.ext
  simp [tmKeys]
 | k :: r, b => by
  show strOfNums k ++ tmKeys (r ++ b) = strOfNums k ++ tmKeys r ++ tmKeys b
  rw [tmKeys_app r b, ba_assoc]
theorem tmKeys_next {ks : List (List Int)} {i : Nat} {k : List Int} (h : ks[i]? = some k) : tmKeys (ks.take (i + 1)) = tmKeys (ks.take i) ++ strOfNums k := by
 rw [List.take_add_one, h, tmKeys_app]
 show _ ++ (strOfNums k ++ (⟨#[]⟩ : ByteArray)) = _
 rw [ba_nil]
theorem tmKeys_size : ∀ {ks : List (List Int)}, (∀ k ∈ ks, k.length = 32) → (tmKeys ks).size = 32 * ks.length
 | [], _ => rfl
 | k :: r, h => by
  show (strOfNums k ++ tmKeys r).size = _
  rw [ByteArray.size_append, sn_size, h k (by simp), tmKeys_size (fun x hx => h x (by simp [hx]))]
  simp only [List.length_cons]
  omega
theorem tmHead_size {kind : Int} (h0 : -9223372036854775808 ≤ kind) (h1 : kind ≤ 9223372036854775807) {s : ByteArray} (hs : s.size ≤ 100000000) : (tmHead kind s).size ≤ s.size + 44 := by
 unfold tmHead
 have e1 : tmSp.size = 1 := rfl
 have e2 := itoB_size h0 h1
 have e3 := itoB_size (n := s.size) (by omega) (by omega)
 simp only [ByteArray.size_append]
 omega
theorem tm_new {H : AH} : Bl (H ++ [some ⟨[.pointer none, .slice none 0 0], 103, none⟩]) H.length ⟨#[]⟩ [] :=
 ⟨.pointer none, .slice none 0 0, .inl rfl, by rw [hget_app0]; rfl, .inl ⟨rfl, rfl, rfl⟩, by simp, fun _ => rfl⟩
theorem nil_ba (a : ByteArray) : (⟨#[]⟩ : ByteArray) ++ a = a := by
 apply ByteArray.ext
 simp
attribute [local simp] wb_bool wb_undef with_lit XL_nil XL_cons XLc_val XLc_call step1_eq stepW_t stepW_f stepC_n stepC_s stepX_s stepX_n stepN_s calleeX xrecv oneV xop_eq xopR_s xopR_n wantedA_eq wantedG_n wantedG_s plain1_int plain1_bool plain1_string bits_i64 bits_u64 bits_u32 bits_u16 bits_u8 xeqA xagg xcmp xarr allK_iv num_iv calleeOf xread xeff xbin xint xnil xun xstr xload xconv xpart xfield xfieldAddr xindexAddr xindex bnd asInt? xslice xlen xmin xmax xbuild xfill xappend xapp2 xappstr xappmk xcap xcopy xcells eval_tmp eval_const put_at put_none fr0_at cells_agg cells_int cells_bool cells_string cells_ptr cells_slice notTuple tab iv_all hget_app hget_app0 hget_cons0 hget_cons set_app set_app0 setR setR_one QL_nil QL_cons QLc_val stepQ_t stepQ_f stepQC_n stepQC_s stepQX_s SL_nil SL_cons SLc_val stepS_t stepS_f ltT ltF leT leF eqT eqF ltTn ltFn leTn leFn eqTn eqFn beqT beqF bneT bneF wi64 wu64 wu32 wu16 wu8 tmodP tdivP hgetL hgetNe hgetEq setL nums_def nums_len Nat.succ_le_of_lt List.getElem?_cons_zero List.getElem?_cons_succ Option.getD_some Int.toNat_add Int.toNat_mul agM okM agB agI agS agP agL agA okB okI okS okP okSl okA
theorem recipe_rc {γ : Nat → Option Nat} {H : AH} (hp : Pw γ H) {kind : Int} (h0 : -9223372036854775808 ≤ kind) (h1 : kind ≤ 9223372036854775807) {s : ByteArray} (hs : s.size ≤ 100000000) {v : Value} {ks : List (List Int)} (hK : KsV H v ks) (hk : ∀ k ∈ ks, k.length = 32) (hy : ∀ k ∈ ks, By k) (hm : ks.length ≤ 1000000) :
  AC Tryd.prog H.length γ 54 #[.int .i64 kind, .string s, v] H (fun v' _ => v' = .string (tmRec kind s ks)) := by
 obtain ⟨hnt, hvc, hxl, hat⟩ := hK.acc hk
 have hit1 := fun (G : AH) (hl : Low H.length H G) => itoa_ac (nro := H.length) (hp.low hl) h0 h1
 have hit2 := fun (G : AH) (hl : Low H.length H G) => itoa_ac (nro := H.length) (hp.low hl) (n := (s.size : Int)) (by omega) (by omega)
 have hhs := tmHead_size h0 h1 hs
 have z1 := itoB_size h0 h1
 have z2 := itoB_size (n := s.size) (by omega) (by omega)
 have hh : itoB kind ++ ⟨#[32]⟩ ++ itoB s.size ++ ⟨#[32]⟩ ++ s = tmHead kind s := rfl
 have hrec : tmRec kind s ks = tmHead kind s ++ tmKeys ks := rfl
 generalize tmHead kind s = hd at *
 generalize itoB kind = a1 at *
 generalize itoB s.size = a2 at *
 have sz : ∀ a b : ByteArray, (a ++ b).size = a.size + b.size := fun _ _ => ByteArray.size_append
 have e1 : (⟨#[32]⟩ : ByteArray).size = 1 := rfl
 have c1 : a1.size + (⟨#[32]⟩ : ByteArray).size ≤ 9223372036854775807 := by rw [e1]; omega
 have c2 : (a1 ++ (⟨#[32]⟩ : ByteArray)).size + a2.size ≤ 9223372036854775807 := by rw [sz, e1]; omega
 have c3 : (a1 ++ (⟨#[32]⟩ : ByteArray) ++ a2).size + (⟨#[32]⟩ : ByteArray).size ≤ 9223372036854775807 := by rw [sz, sz, e1]; omega
 have c4 : (a1 ++ (⟨#[32]⟩ : ByteArray) ++ a2 ++ (⟨#[32]⟩ : ByteArray)).size + s.size ≤ 9223372036854775807 := by rw [sz, sz, sz, e1]; omega
 have c5 : s.size ≤ 9223372036854775807 := by omega
 refine ac_of_aw Tryd.func54 rfl Tryd.ntmps54 Tryd.results54 (by simp) ?_
 refine aw_seq ?_
 (refine aw_ops (by kernel_rfl) (fun K hK => ?_); simp (disch := first | omega | (simp only [lnS]; try omega)) [-getElem?_pos, -getElem?_neg]; refine hK _ _ ?_; clear hK K)
 refine aw_seq ?_
 (refine aw_ops (by kernel_rfl) (fun K hK => ?_); simp (disch := first | omega | (simp only [lnS]; try omega)) [-getElem?_pos, -getElem?_neg]; refine hK _ _ ?_; clear hK K)
 refine aw_seq ?_
 refine aw_ops (by kernel_rfl) (fun K hK => ?_)
 simp (disch := first | omega | (simp only [lnS]; try omega)) [-getElem?_pos, -getElem?_neg]
 refine ⟨by kernel_rfl, AC.mono (hit1 _ (Low.push (Nat.le_refl _) _)) ?_⟩
 rintro _ G ⟨rfl, rfl⟩
 try simp (disch := first | omega | (simp only [lnS]; try omega)) [-getElem?_pos, -getElem?_neg, c1, c2, c3, c4, c5, hh]
 refine ⟨by kernel_rfl, AC.mono (hit2 _ (Low.push (Nat.le_refl _) _)) ?_⟩
 rintro _ G ⟨rfl, rfl⟩
 try simp (disch := first | omega | (simp only [lnS]; try omega)) [-getElem?_pos, -getElem?_neg, c1, c2, c3, c4, c5, hh]
 refine ⟨by kernel_rfl, AC.mono (bl_write (t := hd) (tm_new (H := H)) (Nat.le_refl _) (by simp) (by show 0 + hd.size ≤ _; omega)) ?_⟩
 rintro _ G ⟨rfl, F, hbl, hlen, hF, hkeep⟩
 rw [nil_ba] at hbl
 rw [List.length_append] at hlen hF hkeep
 have hlow : Low H.length H G := ⟨fun j hj => (hkeep j (by omega) (by omega) (fun h => by cases h)).trans (hget_left hj), by omega⟩
 have hF1 : ∀ j ∈ F, H.length ≤ j := fun j hj => by have := hF j hj; omega
 clear hkeep hF hlen
 try simp (disch := first | omega | (simp only [lnS]; try omega)) [-getElem?_pos, -getElem?_neg]
 refine hK _ _ ?_; clear hK K
 refine aw_seq ?_
 refine aw_seq ?_
 (refine aw_ops (by kernel_rfl) (fun K hK => ?_); simp (disch := first | omega | (simp only [lnS]; try omega)) [-getElem?_pos, -getElem?_neg, -notTuple, hnt, hvc, nt_intG, -xlen, hxl]; refine hK _ _ ?_; clear hK K)
 refine aw_block ?_
 refine aw_loop (fun c α G => ∃ (i : Nat) (F : List Nat), i + c = ks.length ∧ α 7 = .pointer (some ⟨H.length, 0, none⟩) ∧ α 21 = v ∧ α 22 = .int .i64 (ks.length : Nat) ∧ α 23 = .int .i64 (i : Nat) ∧
  Low H.length H G ∧ Bl G H.length (hd ++ tmKeys (ks.take i)) F ∧ ∀ j ∈ F, H.length ≤ j) ks.length ?_ ?_
 ·refine ⟨0, F, by omega, by (first | (simp [put_at, put_none, fr0_at]; done) | rfl), by (first | (simp [put_at, put_none, fr0_at]; done) | rfl), by (first | (simp [put_at, put_none, fr0_at]; done) | rfl), by (first | (simp [put_at, put_none, fr0_at]; done) | rfl), hlow, ?_, hF1⟩
  rw [List.take_zero]
  show Bl G H.length (hd ++ (⟨#[]⟩ : ByteArray)) F
  rw [ba_nil]
  exact hbl
 clear hbl hlow hF1 F G
 rintro c α G ⟨i, F, hic, g7, g21, g22, g23, hlow, hbl, hF⟩
 have hblt := hbl.lt
 refine aw_seq ?_
 by_cases hi : i < ks.length
 case neg =>
  (refine aw_ops (by kernel_rfl) (fun K hK => ?_); simp (disch := first | omega | (simp only [lnS]; try omega)) [-getElem?_pos, -getElem?_neg, g22, g23, hi]; refine hK _ _ ?_; clear hK K)
  refine aw_seq ?_
  refine aw_f (by (first | (simp [eval_tmp, put_at, hi]; done) | (simp [eval_tmp, put_at, hi]; omega))) (by kernel_rfl) ?_
  refine aw_exit ?_
  have hall : ks.take i = ks := List.take_of_length_le (by omega)
  rw [hall, ← hrec] at hbl
  refine aw_seq ?_
  refine aw_ops (by kernel_rfl) (fun K hK => ?_)
  simp (disch := first | omega | (simp only [lnS]; try omega)) [-getElem?_pos, -getElem?_neg, g7]
  refine ⟨by kernel_rfl, AC.mono (bl_string hbl (Nat.le_refl _) hF) ?_⟩
  rintro _ G2 ⟨rfl, _, _⟩
  try simp (disch := first | omega | (simp only [lnS]; try omega)) [-getElem?_pos, -getElem?_neg]
  refine hK _ _ ?_; clear hK K
  (refine aw_ret ?_; simp (disch := first | omega | (simp only [lnS]; try omega)) [-getElem?_pos, -getElem?_neg, thenQ_ret, scopeQ_ret, inBlockQ_ret, RQ, resL, resV])
 (refine aw_ops (by kernel_rfl) (fun K hK => ?_); simp (disch := first | omega | (simp only [lnS]; try omega)) [-getElem?_pos, -getElem?_neg, g22, g23, hi]; refine hK _ _ ?_; clear hK K)
 refine aw_seq ?_
 refine aw_t (by (first | (simp [eval_tmp, put_at, hi]; done) | (simp [eval_tmp, put_at, hi]; omega))) (by kernel_rfl) ?_
 refine aw_skip ?_
 refine aw_seq ?_
 refine aw_block ?_
 obtain ⟨p, x, q1, q2, q3, rfl, q4⟩ := hat i hi
 have q4 := q4 G hlow
 have ly := key_getD hk hi
 obtain ⟨y, hy'⟩ : ∃ y, y = ks.getD i [] := ⟨_, rfl⟩
 have hky : ks[i]? = some y := by rw [hy', List.getD_eq_getElem?_getD, List.getElem?_eq_getElem hi]; rfl
 have hby : By y := hy y (List.mem_of_getElem? hky)
 rw [← hy'] at q4 ly
 have hnx := tmKeys_next hky
 have tly : (iv .u8 y).take 32 = iv .u8 y := List.take_of_length_le (by simp [ly])
 have sly : setR (iv .u8 (zl 32)) 0 (iv .u8 y) = iv .u8 y := setR_all _ _ (by simp [ly])
 refine aw_seq ?_
 (refine aw_ops (by kernel_rfl) (fun K hK => ?_); simp (disch := first | omega | (simp only [lnS]; try omega)) [-getElem?_pos, -getElem?_neg, g7, g21, g22, g23, -notTuple, hnt, hvc, q1, nt_intG, nt_aggG, -xindexAddr, q2, -xload, q4, ly, tly, sly]; refine hK _ _ ?_; clear hK K)
 refine aw_ops (by kernel_rfl) (fun K hK => ?_)
 simp (disch := first | omega | (simp only [lnS]; try omega)) [-getElem?_pos, -getElem?_neg, g7, ly, tly, sly]
 have hwr := bl_bytes (nro := H.length) (γ := γ) (H := G ++ [some ⟨iv .u8 y, 28, none⟩]) (i := H.length) (b := G.length) (s := hd ++ tmKeys (ks.take i)) (F := F) (l := y) (ty := 28) (hbl.low (hget_left hblt.1) (fun j hj => hget_left (hblt.2 j hj))) (Nat.le_refl _) hF (by omega) hby (by rw [hget_app0]; rfl) (by have := hblt.1; omega)
  (by rw [ByteArray.size_append, tmKeys_size (fun k hk' => hk k (List.mem_of_mem_take hk')), List.length_take]; omega)
 rw [ly] at hwr
 refine ⟨by kernel_rfl, AC.mono hwr ?_⟩
 rintro _ G2 ⟨rfl, F2, hbl2, hlen, hF2, hkeep⟩
 rw [List.length_append] at hlen hF2 hkeep
 rw [ba_assoc, ← hnx] at hbl2
 have hlow2 : Low H.length H G2 := ⟨fun j hj => (hkeep j (by have := hlow.2; omega) (by omega) (fun h => by have := hF j h; omega)).trans ((hget_left (by have := hlow.2; omega)).trans (hlow.1 j hj)), by have := hlow.2; omega⟩
 have hF3 : ∀ j ∈ F2, H.length ≤ j := fun j hj => by have := hF2 j hj; have := hlow.2; omega
 clear hkeep hwr
 try simp (disch := first | omega | (simp only [lnS]; try omega)) [-getElem?_pos, -getElem?_neg]
 refine hK _ _ ?_; clear hK K
 (refine aw_ops (by kernel_rfl) (fun K hK => ?_); simp (disch := first | omega | (simp only [lnS]; try omega)) [-getElem?_pos, -getElem?_neg, g23]; refine hK _ _ ?_; clear hK K)
 exact ⟨c - 1, by omega, i + 1, F2, by omega, by (first | (simp [put_at, put_none, fr0_at, g7]; done) | rfl), by (first | (simp [put_at, put_none, fr0_at, g21]; done) | rfl), by (first | (simp [put_at, put_none, fr0_at, g22]; done) | rfl), by (first | (simp [put_at, put_none, fr0_at]; done) | rfl), hlow2, hbl2, hF3⟩
end
section
def valD (l : List UInt8) : Nat := l.foldl (fun a c => 10 * a + (c.toNat - 48)) 0
theorem valD_snoc (l : List UInt8) (c : UInt8) : valD (l ++ [c]) = 10 * valD l + (c.toNat - 48) := by simp [valD]
theorem dig8 {d : Nat} (h : d < 10) : (UInt8.ofNat (48 + d)).toNat = 48 + d := by
 rw [UInt8.toNat_ofNat']
 omega
theorem dec_val (u : Nat) : valD (Lib.decDigits u) = u ∧ ∀ c ∈ Lib.decDigits u, c ≠ 32 := by
 induction u using Nat.strongRecOn with
 | ind u ih =>
  rw [Lib.decDigits]
  by_cases h : u < 10
  ·rw [dif_pos h]
   refine ⟨?_, fun c hc => ?_⟩
   ·show 10 * 0 + ((UInt8.ofNat (48 + u)).toNat - 48) = u
    rw [dig8 h]; omega
   ·rw [List.mem_singleton.1 hc]
    intro e
    have := congrArg UInt8.toNat e
    rw [dig8 h] at this
    have h32 : (32 : UInt8).toNat = 32 := rfl
    omega
  ·rw [dif_neg h]
   obtain ⟨h1, h2⟩ := ih (u / 10) (by omega)
   refine ⟨?_, fun c hc => ?_⟩
   ·rw [valD_snoc, h1, dig8 (by omega)]; omega
   ·rcases List.mem_append.1 hc with hc | hc
    ·exact h2 c hc
    ·rw [List.mem_singleton.1 hc]
     intro e
     have := congrArg UInt8.toNat e
     rw [dig8 (by omega)] at this
     have h32 : (32 : UInt8).toNat = 32 := rfl
     omega
theorem dec_inj {a b : Nat} (h : Lib.decDigits a = Lib.decDigits b) : a = b := by rw [← (dec_val a).1, h, (dec_val b).1]
theorem split_sp : ∀ {a a' r r' : List UInt8}, (∀ c ∈ a, c ≠ 32) → (∀ c ∈ a', c ≠ 32) → a ++ 32 :: r = a' ++ 32 :: r' → a = a' ∧ r = r'
 | [], [], _, _, _, _, h => ⟨rfl, (List.cons.inj h).2⟩
 | [], c :: a', _, _, _, h2, h => absurd (List.cons.inj h).1.symm (h2 c (by simp))
 | c :: a, [], _, _, h1, _, h => absurd (List.cons.inj h).1 (h1 c (by simp))
 | c :: a, d :: a', r, r', h1, h2, h => by
  obtain ⟨e1, e2⟩ := List.cons.inj h
  obtain ⟨e3, e4⟩ := split_sp (fun x hx => h1 x (by simp [hx])) (fun x hx => h2 x (by simp [hx])) e2
  exact ⟨by rw [e1, e3], e4⟩
def baL (s : ByteArray) : List UInt8 := s.data.toList
theorem baL_app (a b : ByteArray) : baL (a ++ b) = baL a ++ baL b := by simp [baL]
theorem baL_inj {a b : ByteArray} (h : baL a = baL b) : a = b := by
 apply ByteArray.ext
 exact Array.ext' h
theorem baL_len (a : ByteArray) : (baL a).length = a.size := rfl
theorem tmKeys_inj : ∀ {a b : List (List Int)}, (∀ k ∈ a, k.length = 32) → (∀ k ∈ b, k.length = 32) → (∀ k ∈ a, By k) → (∀ k ∈ b, By k) → baL (tmKeys a) = baL (tmKeys b) → a = b
 | [], [], _, _, _, _, _ => rfl
 | [], k :: r, _, h2, _, _, h => by
  have := congrArg List.length h
  rw [baL_len, baL_len, tmKeys_size (by simp), tmKeys_size h2] at this
  simp at this
 | k :: r, [], h1, _, _, _, h => by
  have := congrArg List.length h
  rw [baL_len, baL_len, tmKeys_size h1, tmKeys_size (by simp)] at this
  simp at this
 | k :: r, k' :: r', h1, h2, b1, b2, h => by
  have e : baL (strOfNums k) ++ baL (tmKeys r) = baL (strOfNums k') ++ baL (tmKeys r') := by
   rw [← baL_app, ← baL_app]; exact h
  obtain ⟨e1, e2⟩ := List.append_inj e (by rw [baL_len, baL_len, sn_size, sn_size, h1 k (by simp), h2 k' (by simp)])
  have e3 := sn_inj (b1 k (by simp)) (b2 k' (by simp)) (baL_inj e1)
  rw [e3, tmKeys_inj (fun x hx => h1 x (by simp [hx])) (fun x hx => h2 x (by simp [hx])) (fun x hx => b1 x (by simp [hx])) (fun x hx => b2 x (by simp [hx])) e2]
theorem tmRec_list {k : Nat} {s : ByteArray} {ks : List (List Int)} : baL (tmRec k s ks) = Lib.decDigits k ++ 32 :: (Lib.decDigits s.size ++ 32 :: (baL s ++ baL (tmKeys ks))) := by
 unfold tmRec tmHead itoB
 rw [baL_app, baL_app, baL_app, baL_app, baL_app, Lib.itoa_nonneg, Lib.itoa_nonneg]
 show Lib.decDigits k ++ [32] ++ Lib.decDigits s.size ++ [32] ++ baL s ++ baL (tmKeys ks) = _
 simp
theorem tmRec_inj {k k' : Nat} {s s' : ByteArray} {ks ks' : List (List Int)} (h1 : ∀ k ∈ ks, k.length = 32) (h2 : ∀ k ∈ ks', k.length = 32) (b1 : ∀ k ∈ ks, By k) (b2 : ∀ k ∈ ks', By k) (h : tmRec k s ks = tmRec k' s' ks') : k = k' ∧ s = s' ∧ ks = ks' := by
 have e := congrArg baL h
 rw [tmRec_list, tmRec_list] at e
 obtain ⟨e1, e2⟩ := split_sp (dec_val k).2 (dec_val k').2 e
 obtain ⟨e3, e4⟩ := split_sp (dec_val _).2 (dec_val _).2 e2
 have e5 := dec_inj e3
 obtain ⟨e6, e7⟩ := List.append_inj e4 (by rw [baL_len, baL_len, e5])
 exact ⟨dec_inj e1, baL_inj e6, tmKeys_inj h1 h2 b1 b2 e7⟩
end
section
def opRow (o : OpD) (pv wv bv : Value) : List Value := [.int .i64 o.author, .int .u32 o.seq, pv, .int .i64 o.kind, wv] ++ (iv .u8 o.of ++ (iv .u8 o.check ++ [.string o.text, bv]))
def nodeRow (x : NodeD) (pv wv bv qv : Value) : List Value := iv .u8 x.id ++ (opRow x.op pv wv bv ++ [qv])
theorem OpC.row {H : AH} {us : List Value} {o : OpD} {pv wv bv : Value} (h : OpC H us o pv wv bv) (hw : o.Wf) : us = opRow o pv wv bv := by
 have hl := h.len
 have e0 : us.take 5 = [.int .i64 o.author, .int .u32 o.seq, pv, .int .i64 o.kind, wv] := by
  apply List.ext_getElem?
  intro i
  match i with
  | 0 => rw [List.getElem?_take_of_lt (by omega), h.c0]; rfl
  | 1 => rw [List.getElem?_take_of_lt (by omega), h.c1]; rfl
  | 2 => rw [List.getElem?_take_of_lt (by omega), h.c2]; rfl
  | 3 => rw [List.getElem?_take_of_lt (by omega), h.c3]; rfl
  | 4 => rw [List.getElem?_take_of_lt (by omega), h.c4]; rfl
  | i + 5 => rw [List.getElem?_eq_none (by rw [List.length_take]; omega), List.getElem?_eq_none (by simp)]
 have e2 : us.drop 69 = [.string o.text, bv] := by
  apply List.ext_getElem?
  intro i
  match i with
  | 0 => rw [List.getElem?_drop, h.c69]; rfl
  | 1 => rw [List.getElem?_drop, h.c70]; rfl
  | i + 2 => rw [List.getElem?_eq_none (by rw [List.length_drop]; omega), List.getElem?_eq_none (by simp)]
 have e1 : us.drop 5 = iv .u8 o.of ++ us.drop 37 := by
  have := (List.take_append_drop 32 (us.drop 5)).symm
  rwa [h.of, List.drop_drop] at this
 have e3 : us.drop 37 = iv .u8 o.check ++ us.drop 69 := by
  have := (List.take_append_drop 32 (us.drop 37)).symm
  rwa [h.check, List.drop_drop] at this
 have := (List.take_append_drop 5 us).symm
 rwa [e0, e1, e3, e2] at this
theorem NodeC.row {H : AH} {us : List Value} {x : NodeD} {pv wv bv qv : Value} (h : NodeC H us x pv wv bv qv) (hw : x.Wf) : us = nodeRow x pv wv bv qv := by
 have hl := h.len
 have e0 := h.op.row hw.op
 have e2 : us.drop 103 = [qv] := by
  apply List.ext_getElem?
  intro i
  match i with
  | 0 => rw [List.getElem?_drop, h.c103]; rfl
  | i + 1 => rw [List.getElem?_eq_none (by rw [List.length_drop]; omega), List.getElem?_eq_none (by simp)]
 have e1 : us.drop 32 = opRow x.op pv wv bv ++ us.drop 103 := by
  have := (List.take_append_drop 71 (us.drop 32)).symm
  rwa [e0, List.drop_drop] at this
 have := (List.take_append_drop 32 us).symm
 rwa [h.id, e1, e2] at this
theorem ValL.one {H : AH} {d : CD} {u : Value} {ds : List CD} {us : List Value} (h : CD.Val H d u) (h2 : ValL H ds us) : ValL H (d :: ds) (u :: us) := by
 refine ⟨by simp [h2.1], fun c d' u' hd hu => ?_⟩
 cases c with
 | zero => cases hd; cases hu; exact h
 | succ c => exact h2.2 c d' u' (by simpa using hd) (by simpa using hu)
theorem ValL.none {H : AH} : ValL H [] [] := ⟨rfl, fun c d u hd _ => by cases hd⟩
def KeepN (n : Nat) (H G : AH) : Prop := ∀ j, n ≤ j → j < H.length → hget G j = hget H j
end
section
theorem KeepN.trans {n : Nat} {A B C : AH} (h : KeepN n A B) (k : KeepN n B C) (hl : A.length ≤ B.length) : KeepN n A C := fun j h1 h2 => (k j h1 (by omega)).trans (h j h1 h2)
attribute [local simp] wb_bool wb_undef with_lit XL_nil XL_cons XLc_val XLc_call step1_eq stepW_t stepW_f stepC_n stepC_s stepX_s stepX_n stepN_s calleeX xrecv oneV xop_eq xopR_s xopR_n wantedA_eq wantedG_n wantedG_s plain1_int plain1_bool plain1_string bits_i64 bits_u64 bits_u32 bits_u16 bits_u8 xeqA xagg xcmp xarr allK_iv num_iv calleeOf xread xeff xbin xint xnil xun xstr xload xconv xpart xfield xfieldAddr xindexAddr xindex bnd asInt? xslice xlen xmin xmax xbuild xfill xappend xapp2 xappstr xappmk xcap xcopy xcells eval_tmp eval_const put_at put_none fr0_at cells_agg cells_int cells_bool cells_string cells_ptr cells_slice notTuple tab iv_all hget_app hget_app0 hget_cons0 hget_cons set_app set_app0 setR setR_one QL_nil QL_cons QLc_val stepQ_t stepQ_f stepQC_n stepQC_s stepQX_s SL_nil SL_cons SLc_val stepS_t stepS_f ltT ltF leT leF eqT eqF ltTn ltFn leTn leFn eqTn eqFn beqT beqF bneT bneF wi64 wu64 wu32 wu16 wu8 tmodP tdivP hgetL hgetNe hgetEq setL nums_def nums_len Nat.succ_le_of_lt List.getElem?_cons_zero List.getElem?_cons_succ Option.getD_some Int.toNat_add Int.toNat_mul agM okM agB agI agS agP agL agA okB okI okS okP okSl okA
def NewRows (n : Nat) (H : AH) (R : List (List Value)) (l : List NodeD) : Prop := R.length = l.length ∧ ∀ (k : Nat) (us : List Value) (x : NodeD), R[k]? = some us → l[k]? = some x → us.length = 104 ∧ ∀ G, KeepN n H G → ValL G x.row us
theorem NewRows.keep {n : Nat} {H G : AH} {R : List (List Value)} {l : List NodeD} (h : NewRows n H R l) (hk : KeepN n H G) (hl : H.length ≤ G.length) : NewRows n G R l :=
 ⟨h.1, fun k us x h1 h2 => ⟨(h.2 k us x h1 h2).1, fun B hB => (h.2 k us x h1 h2).2 B (hk.trans hB hl)⟩⟩
theorem NewRows.len {n : Nat} {H : AH} {R : List (List Value)} {l : List NodeD} (h : NewRows n H R l) : ∀ r ∈ R, r.length = 104 := fun r hr => by
 obtain ⟨k, hk⟩ := List.getElem?_of_mem hr
 have hkl := (List.getElem?_eq_some_iff.1 hk).1
 have := h.1
 exact (h.2 k r _ hk (List.getElem?_eq_getElem (show k < l.length by omega))).1
theorem NewRows.push {n : Nat} {H : AH} {R : List (List Value)} {l : List NodeD} {us : List Value} {x : NodeD} (h : NewRows n H R l) (h1 : us.length = 104) (h2 : ∀ G, KeepN n H G → ValL G x.row us) : NewRows n H (R ++ [us]) (l ++ [x]) := by
 have hl := h.1
 refine ⟨by simp [hl], fun k r y hr hy => ?_⟩
 rcases Nat.lt_or_ge k R.length with hk | hk
 ·rw [List.getElem?_append_left hk] at hr
  rw [List.getElem?_append_left (by omega)] at hy
  exact h.2 k r y hr hy
 ·rw [List.getElem?_append_right hk] at hr
  rw [List.getElem?_append_right (by omega)] at hy
  rw [hl] at hr
  match k - l.length, hr, hy with
  | 0, hr, hy => cases hr; cases hy; exact ⟨h1, h2⟩
end
section
def kr (l : List (List Int)) : List Value := (l.map (iv .u8)).flatten
theorem ksC_kr (l : List (List Int)) : ksC l = kr l := by
 unfold ksC kr
 induction l with
 | nil => rfl
 | cons k l ih =>
  rw [List.map_cons, List.flatten_cons, List.map_append, ih, List.map_cons, List.flatten_cons]
  congr 1
  simp [kd, iv, CD.fv]
theorem kr_app (a b : List (List Int)) : kr (a ++ b) = kr a ++ kr b := by simp [kr]
theorem kr_one (k : List Int) : kr [k] = iv .u8 k := by simp [kr]
def K32 (l : List (List Int)) : Prop := ∀ k ∈ l, k.length = 32
theorem kr_rows {l : List (List Int)} (h : K32 l) : ∀ r ∈ l.map (iv .u8), r.length = 32 := fun r hr => by
 obtain ⟨k, hk, rfl⟩ := List.mem_map.1 hr
 rw [iv_length]; exact h k hk
theorem kr_len {l : List (List Int)} (h : K32 l) : (kr l).length = l.length * 32 := by unfold kr; rw [fl_len (kr_rows h), List.length_map]
theorem kr_get {l : List (List Int)} (h : K32 l) {j : Nat} {k : List Int} (hj : l[j]? = some k) : ((kr l).drop (j * 32)).take 32 = iv .u8 k := fl_get (kr_rows h) (by rw [List.getElem?_map, hj]; rfl)
theorem kr_load {G : AH} {b j : Nat} {l : List (List Int)} {k : List Int} (h : K32 l) (hj : l[j]? = some k) (hb : hget G b = some ⟨kr l, 28, some 32⟩) : xload Tryd.prog 28 (.pointer (some ⟨b, j * 32, none⟩)) G = some (.agg (iv .u8 k).toArray) := by
 have hl := (List.getElem?_eq_some_iff.1 hj).1
 refine load_at (sz := 32) hb (by kernel_rfl) (by omega) (by kernel_rfl) (kr_get h hj).symm ?_
 show _ ≤ (kr l).length
 rw [kr_len h]
 have : (j + 1) * 32 ≤ l.length * 32 := Nat.mul_le_mul_right _ hl
 omega
def Oth (b : Nat) (H G : AH) : Prop := H.length ≤ G.length ∧ ∀ j, j < H.length → j ≠ b → hget G j = hget H j
end
section
theorem Oth.low {n b : Nat} {H G K : AH} (hn : n ≤ b) (hl : Low n H G) (h : Oth b G K) : Low n H K := ⟨fun j hj => (h.2 j (by have := hl.2; omega) (by omega)).trans (hl.1 j hj), by have := hl.2; have := h.1; omega⟩
end
section
def aheadL (l : List NodeD) (P : List Int) (x : Int) : Nat := (P.filter fun z => (nd l z.toNat).op.author == x).length
def seqOk (l : List NodeD) (o : OpD) : Bool := !(decide (o.kind = 1) && decide (0 < l.length)) && (decide (o.seq = 1 + (aheadL l (pastL l l.length o.parents) o.author : Nat)) && decide (aheadL l (pastL l l.length o.parents) o.author = autN l l.length o.author))
def addE (l : List NodeD) (id : List Int) (o : OpD) : Int :=
 if rightG l = false then 1 else if rightO o = false then 1 else if (findN l l.length id).isSome = true then 13 else if l.length = 96 then 8 else if o.parents.all (fun p => (findN l l.length p).isSome) = false then 14 else if seqOk l o = false then 15 else 0
def addD (l : List NodeD) (id : List Int) (o : OpD) : NodeD := ⟨id, o, pastL l l.length o.parents⟩
def NewG (n : Nat) (H : AH) (v : Value) (l : List NodeD) : Prop := ∀ G, KeepN n H G → NdV G v l
def AddQ (l : List NodeD) (id : List Int) (o : OpD) (H : AH) (v' : Value) (H' : AH) : Prop :=
 Low H.length H H' ∧ ∃ sv, v' = .tuple #[sv, .int .i64 (addE l id o)] ∧ ((addE l id o = 0 ∧ NewG H.length H' sv (l ++ [addD l id o])) ∨ (addE l id o ≠ 0 ∧ sv = .slice none 0 0))
end
section
theorem AddQ.zero {l : List NodeD} {id : List Int} {o : OpD} {H : AH} {v' : Value} {H' : AH} {L : List NodeD} (h : AddQ l id o H v' H') (hz : addE l id o = 0 ∧ l ++ [addD l id o] = L) : Low H.length H H' ∧ ∃ sv, v' = .tuple #[sv, .int .i64 0] ∧ NewG H.length H' sv L := by
 obtain ⟨h1, sv, h2, h3⟩ := h
 rw [hz.1] at h2
 refine ⟨h1, sv, h2, ?_⟩
 rcases h3 with ⟨_, h3⟩ | ⟨h3, _⟩
 ·rw [← hz.2]; exact h3
 ·exact absurd hz.1 h3
theorem kr_ksv {G : AH} {v : Value} {F : List Nat} {ps : List (List Int)} (h : OwnF G v 28 32 (kr ps) F) (hk : K32 ps) : KsV G v ps := by
 rw [← ksC_kr] at h
 exact own_val (by omega) h (kd_len hk) (kd_flat ps)
end
section
def sE : Nat → List ByteArray → List (Value × Value)
 | _, [] => []
 | n, s :: L => (.string s, .int .i64 (n : Nat)) :: sE (n + 1) L
def idxS (s : ByteArray) : List ByteArray → Option Nat
 | [] => none
 | x :: L => if s = x then some 0 else (idxS s L).map (· + 1)
theorem idxS_some {s : ByteArray} : ∀ {L : List ByteArray} {i : Nat}, idxS s L = some i → L[i]? = some s
 | [], i, h => by cases h
 | x :: L, i, h => by
  unfold idxS at h
  by_cases e : s = x
  ·rw [if_pos e] at h
   cases h
   rw [e]; rfl
  ·rw [if_neg e] at h
   cases hr : idxS s L with
   | none => rw [hr] at h; cases h
   | some j =>
    rw [hr] at h
    cases h
    rw [List.getElem?_cons_succ]
    exact idxS_some hr
theorem ba_beq (a b : ByteArray) : (a == b) = decide (a = b) := by
 obtain ⟨a⟩ := a
 obtain ⟨b⟩ := b
 show (a == b) = _
 rw [Bool.eq_iff_iff]
 simp
theorem mfind_sE (s : ByteArray) : ∀ (L : List ByteArray) (n : Nat), mfind (.string s) (sE n L) = idxS s L
 | [], _ => rfl
 | x :: L, n => by
  have hm : mfind (.string s) (sE n (x :: L)) = if keyEq (.string s) (.string x) = true then some 0 else (mfind (.string s) (sE (n + 1) L)).map (· + 1) := rfl
  have hk : keyEq (.string s) (.string x) = (s == x) := rfl
  have hi : idxS s (x :: L) = if s = x then some 0 else (idxS s L).map (· + 1) := rfl
  rw [hm, hk, mfind_sE s L (n + 1), hi, ba_beq]
  by_cases e : s = x
  ·rw [if_pos e, if_pos (by simp [e])]
  ·rw [if_neg e, if_neg (by simp [e])]
theorem sE_get : ∀ (L : List ByteArray) (n i : Nat) (s : ByteArray), L[i]? = some s → (sE n L)[i]? = some (.string s, .int .i64 ((n + i : Nat) : Int))
 | [], _, i, s, h => by cases h
 | x :: L, n, 0, s, h => by cases h; rfl
 | x :: L, n, i + 1, s, h => by
  show (sE (n + 1) L)[i]? = _
  rw [sE_get L (n + 1) i s h]
  congr 4
  omega
theorem mget_sE (s : ByteArray) (L : List ByteArray) : mget (.string s) (sE 0 L) = (idxS s L).map fun i => .int .i64 (i : Nat) := by
 unfold mget
 rw [mfind_sE]
 cases h : idxS s L with
 | none => rfl
 | some i =>
  show ((sE 0 L)[i]?).map (·.2) = _
  rw [sE_get L 0 i s (idxS_some h), Nat.zero_add]; rfl
theorem sE_snoc : ∀ (L : List ByteArray) (n : Nat) (s : ByteArray), sE n (L ++ [s]) = sE n L ++ [(.string s, .int .i64 ((n + L.length : Nat) : Int))]
 | [], n, s => rfl
 | x :: L, n, s => by
  show (_ :: sE (n + 1) (L ++ [s])) = _ :: (sE (n + 1) L ++ _)
  rw [sE_snoc L (n + 1) s, show n + 1 + L.length = n + (x :: L).length by simp only [List.length_cons]; omega]
theorem mput_sE {s : ByteArray} {L : List ByteArray} (h : idxS s L = none) : mput (.string s) (.int .i64 (L.length : Nat)) (sE 0 L) = sE 0 (L ++ [s]) := by
 unfold mput
 rw [mfind_sE, h, sE_snoc, Nat.zero_add]
theorem str_ok (s : ByteArray) : keyOk Tryd.prog 9 (.string s) = true := by
 have h2 : und Tryd.prog 9 = .string := by kernel_rfl
 unfold keyOk
 simp only [h2]
theorem sE_ok : ∀ (L : List ByteArray) (n : Nat), mapOk Tryd.prog 9 (sE n L) = true
 | [], _ => rfl
 | x :: L, n => by
  show (keyOk Tryd.prog 9 (.string x) && mapOk Tryd.prog 9 (sE (n + 1) L)) = true
  rw [str_ok, sE_ok L (n + 1)]; rfl
theorem tm_make (H : AH) : xmakeMap Tryd.prog 73 none H = some (.map (some H.length), H ++ [some (mblk 73 (sE 0 []))]) := by
 have h1 : und Tryd.prog 73 = .map 9 3 := by kernel_rfl
 unfold xmakeMap
 simp only [h1]
 rfl
theorem tm_put {nro : Nat} {H : AH} {mb : Nat} {L : List ByteArray} {s : ByteArray} (hm : hget H mb = some (mblk 73 (sE 0 L))) (hn : nro ≤ mb) (h : idxS s L = none) : xmapUpd Tryd.prog nro 73 (.map (some mb)) (.string s) (.int .i64 (L.length : Nat)) H = some (undef, H.set mb (some (mblk 73 (sE 0 (L ++ [s]))))) := by
 have h1 : und Tryd.prog 73 = .map 9 3 := by kernel_rfl
 unfold xmapUpd
 simp only [h1, hm, ents_mblk, str_ok, sE_ok]
 rw [if_pos ⟨hn, trivial, trivial, rfl⟩, mblk_ty, mput_sE h]
theorem tm_look {H : AH} {mb : Nat} {L : List ByteArray} (hm : hget H mb = some (mblk 73 (sE 0 L))) (s : ByteArray) : xlookup Tryd.prog 73 (.map (some mb)) (.string s) true H = some (match idxS s L with | some i => .tuple #[.int .i64 (i : Nat), .bool true] | none => .tuple #[.int .i64 0, .bool false]) := by
 have h1 : und Tryd.prog 73 = .map 9 3 := by kernel_rfl
 have h4 : zer Tryd.prog 3 = some (.int .i64 0) := by kernel_rfl
 have h5 : plain2 (.int .i64 0) = true := rfl
 unfold xlookup
 simp only [h1, hm, Option.bind_some, ents_mblk, str_ok, sE_ok, mget_sE]
 cases idxS s L with
 | none => simp [h4, h5]
 | some i => simp
structure TermD where
 kind : Nat
 text : ByteArray
 keys : List (List Int)
structure TermD.Wf (x : TermD) : Prop where
 kind : x.kind ≤ 6
 text : x.text.size ≤ 100000000
 k32 : ∀ k ∈ x.keys, k.length = 32
 by_ : ∀ k ∈ x.keys, By k
 many : x.keys.length ≤ 1000000
 pub : x.kind = 3 → x.keys.length = 1
 agree : x.kind = 4 → x.keys.length = 2
 seal_ : x.kind = 6 → 2 ≤ x.keys.length
def TermD.rec_ (x : TermD) : ByteArray := tmRec x.kind x.text x.keys
theorem TermD.inj {x y : TermD} (hx : x.Wf) (hy : y.Wf) (h : x.rec_ = y.rec_) : x = y := by
 obtain ⟨a, b, c⟩ := x
 obtain ⟨a', b', c'⟩ := y
 obtain ⟨rfl, rfl, rfl⟩ := tmRec_inj hx.k32 hy.k32 hx.by_ hy.by_ h
 rfl
def placeT (x : TermD) (T : List TermD) : Option Nat := idxS x.rec_ (T.map TermD.rec_)
def addT (x : TermD) (T : List TermD) : List TermD := match placeT x T with | some _ => T | none => T ++ [x]
def nameT (x : TermD) (T : List TermD) : Nat := match placeT x T with | some i => i | none => T.length
theorem place_some {x : TermD} {T : List TermD} {i : Nat} (hx : x.Wf) (hT : ∀ y ∈ T, y.Wf) (h : placeT x T = some i) : T[i]? = some x := by
 have := idxS_some h
 rw [List.getElem?_map] at this
 cases hy : T[i]? with
 | none => rw [hy] at this; cases this
 | some y =>
  rw [hy] at this
  have e : y.rec_ = x.rec_ := Option.some.inj this
  rw [TermD.inj (hT y (List.mem_of_getElem? hy)) hx e]
def tmRow (kv : Value) (x : TermD) : List Value := [.int .i64 (x.kind : Nat), .string x.text, kv]
def tmRows (L : List (Value × TermD)) : List Value := (L.map fun p => tmRow p.1 p.2).flatten
structure TblF (H : AH) (b mb : Nat) (tv : Value) (Ft F : List Nat) (L : List (Value × TermD)) : Prop where
 hb : hget H b = some ⟨[tv, .map (some mb)], 81, none⟩
 hm : hget H mb = some (mblk 73 (sE 0 ((L.map (·.2)).map TermD.rec_)))
 rows : OwnF H tv 67 3 (tmRows L) Ft
 keys : ∀ p ∈ L, ∃ Fk, OwnF H p.1 28 32 (kr p.2.keys) Fk ∧ ∀ j ∈ Fk, j ∈ F
 wf : ∀ p ∈ L, p.2.Wf
 bm : b ≠ mb
 bt : b ∉ Ft
 mt : mb ∉ Ft
 fb : b ∉ F
 fm : mb ∉ F
 ft : ∀ j ∈ Ft, j ∉ F
def Tbl (H : AH) (b : Nat) (F : List Nat) (T : List TermD) : Prop := ∃ mb tv Ft Fk L, T = L.map (·.2) ∧ TblF H b mb tv Ft Fk L ∧ F = b :: mb :: (Ft ++ Fk) ∧ ∀ j ∈ F, j < H.length
theorem TblF.low {H G : AH} {b mb : Nat} {tv : Value} {Ft F : List Nat} {L : List (Value × TermD)} (h : TblF H b mb tv Ft F L) (hl : ∀ j ∈ b :: mb :: (Ft ++ F), hget G j = hget H j) : TblF G b mb tv Ft F L :=
 ⟨(hl b (by simp)).trans h.hb, (hl mb (by simp)).trans h.hm, h.rows.low (fun j hj => hl j (by simp [hj])), fun p hp => by
  obtain ⟨Fk, h1, h2⟩ := h.keys p hp
  exact ⟨Fk, h1.low (fun j hj => hl j (by simp [h2 j hj])), h2⟩, h.wf, h.bm, h.bt, h.mt, h.fb, h.fm, h.ft⟩
theorem Tbl.low {H G : AH} {b : Nat} {F : List Nat} {T : List TermD} (h : Tbl H b F T) (hl : ∀ j ∈ F, hget G j = hget H j) (hle : H.length ≤ G.length) : Tbl G b F T := by
 obtain ⟨mb, tv, Ft, Fk, L, h1, h2, h3, h4⟩ := h
 subst h3
 exact ⟨mb, tv, Ft, Fk, L, h1, h2.low hl, rfl, fun j hj => Nat.lt_of_lt_of_le (h4 j hj) hle⟩
end
section
theorem tmRows_rows (L : List (Value × TermD)) : ∀ r ∈ L.map (fun p => tmRow p.1 p.2), r.length = 3 := fun r hr => by
 obtain ⟨p, _, rfl⟩ := List.mem_map.1 hr
 rfl
theorem tmRows_len (L : List (Value × TermD)) : (tmRows L).length = L.length * 3 := by
 unfold tmRows
 rw [fl_len (tmRows_rows L), List.length_map]
theorem tmRows_get {L : List (Value × TermD)} {i : Nat} {p : Value × TermD} (h : L[i]? = some p) : ((tmRows L).drop (i * 3)).take 3 = tmRow p.1 p.2 :=
 fl_get (tmRows_rows L) (by rw [List.getElem?_map, h]; rfl)
theorem tmRows_snoc (L : List (Value × TermD)) (p : Value × TermD) : tmRows (L ++ [p]) = tmRows L ++ tmRow p.1 p.2 := by simp [tmRows]
theorem tm_addr {n b j : Nat} (hj : j < n) : xindexAddr Tryd.prog 56 (.slice (some ⟨b, 0, none⟩) n n) (.int .i64 (j : Nat)) = some (.pointer (some ⟨b, j * 3, none⟩)) := by
 have h1 : und Tryd.prog 56 = .slice 67 := by kernel_rfl
 have h2 : szt Tryd.prog 67 = 3 := by kernel_rfl
 unfold xindexAddr
 simp only [h1, h2]
 rw [if_pos ⟨by omega, by omega, by omega⟩]
 simp
theorem tm_load {G : AH} {b j : Nat} {L : List (Value × TermD)} {p : Value × TermD} (hj : L[j]? = some p) (hb : hget G b = some ⟨tmRows L, 67, some 3⟩) : xload Tryd.prog 67 (.pointer (some ⟨b, j * 3, none⟩)) G = some (.agg (tmRow p.1 p.2).toArray) := by
 have hl := (List.getElem?_eq_some_iff.1 hj).1
 refine load_at (sz := 3) hb (by kernel_rfl) (by omega) (by kernel_rfl) (tmRows_get hj).symm ?_
 show _ ≤ (tmRows L).length
 rw [tmRows_len]
 have : (j + 1) * 3 ≤ L.length * 3 := Nat.mul_le_mul_right _ hl
 omega
theorem TblF.at_ {H : AH} {b mb : Nat} {tv : Value} {Ft F : List Nat} {L : List (Value × TermD)} (h : TblF H b mb tv Ft F L) {i : Nat} {p : Value × TermD} (hi : L[i]? = some p) : ∃ q, xindexAddr Tryd.prog 56 tv (.int .i64 (i : Nat)) = some q ∧ notTuple q = true ∧ ∀ N : AH, xload Tryd.prog 67 q (H ++ N) = some (.agg (tmRow p.1 p.2).toArray) := by
 have hl := (List.getElem?_eq_some_iff.1 hi).1
 have hr := tmRows_len L
 rcases h.rows with ⟨_, h2, _⟩ | ⟨j, len, rfl, h2, h3, _⟩
 ·rw [h2] at hr
  simp at hr
  omega
 ·have : len = L.length := by omega
  subst this
  exact ⟨_, tm_addr hl, rfl, fun N => tm_load hi ((hget_left (hget_lt h2)).trans h2)⟩
theorem TblF.tvlen {H : AH} {b mb : Nat} {tv : Value} {Ft F : List Nat} {L : List (Value × TermD)} (h : TblF H b mb tv Ft F L) : xlen Tryd.prog 56 tv = some (.int .i64 (L.length : Nat)) ∧ notTuple tv = true ∧ tv.cells = #[tv] := by
 refine ⟨h.rows.len (by kernel_rfl) (tmRows_len L) (by omega), ?_, ?_⟩
 all_goals rcases h.rows with ⟨rfl, _, _⟩ | ⟨j, len, rfl, _, _, _⟩ <;> rfl
theorem TblF.key_nt {H : AH} {b mb : Nat} {tv : Value} {Ft F : List Nat} {L : List (Value × TermD)} (h : TblF H b mb tv Ft F L) {p : Value × TermD} (hp : p ∈ L) : notTuple p.1 = true ∧ p.1.cells = #[p.1] := by
 obtain ⟨Fk, h1, _⟩ := h.keys p hp
 rcases h1 with ⟨e, _, _⟩ | ⟨j, len, e, _, _, _⟩ <;> rw [e] <;> exact ⟨rfl, rfl⟩
attribute [local simp] wb_bool wb_undef with_lit XL_nil XL_cons XLc_val XLc_call step1_eq stepW_t stepW_f stepC_n stepC_s stepX_s stepX_n stepN_s calleeX xrecv oneV xop_eq xopR_s xopR_n wantedA_eq wantedG_n wantedG_s plain1_int plain1_bool plain1_string bits_i64 bits_u64 bits_u32 bits_u16 bits_u8 xeqA xagg xcmp xarr allK_iv num_iv calleeOf xread xeff xbin xint xnil xun xstr xload xconv xpart xfield xfieldAddr xindexAddr xindex bnd asInt? xslice xlen xmin xmax xbuild xfill xappend xapp2 xappstr xappmk xcap xcopy xcells eval_tmp eval_const put_at put_none fr0_at cells_agg cells_int cells_bool cells_string cells_ptr cells_slice notTuple tab iv_all hget_app hget_app0 hget_cons0 hget_cons set_app set_app0 setR setR_one QL_nil QL_cons QLc_val stepQ_t stepQ_f stepQC_n stepQC_s stepQX_s SL_nil SL_cons SLc_val stepS_t stepS_f ltT ltF leT leF eqT eqF ltTn ltFn leTn leFn eqTn eqFn beqT beqF bneT bneF wi64 wu64 wu32 wu16 wu8 tmodP tdivP hgetL hgetNe hgetEq setL nums_def nums_len Nat.succ_le_of_lt List.getElem?_cons_zero List.getElem?_cons_succ Option.getD_some Int.toNat_add Int.toNat_mul agM okM agB agI agS agP agL agA okB okI okS okP okSl okA
theorem tlen_rc {γ : Nat → Option Nat} {H : AH} {b mb n : Nat} {tv : Value} (hb : hget H b = some ⟨[tv, .map (some mb)], 81, none⟩) (hl : xlen Tryd.prog 56 tv = some (.int .i64 (n : Nat))) (hnt : notTuple tv = true) (hcs : tv.cells = #[tv]) : AC Tryd.prog H.length γ 12 #[.pointer (some ⟨b, 0, none⟩)] H (fun v' _ => v' = .int .i64 (n : Nat)) := by
 refine ac_of_aw Tryd.func12 rfl Tryd.ntmps12 Tryd.results12 (by simp) ?_
 refine aw_seq ?_
 (refine aw_ops (by kernel_rfl) (fun K hK => ?_); simp (disch := first | omega | (simp only [lnS]; try omega)) [-getElem?_pos, -getElem?_neg]; refine hK _ _ ?_; clear hK K)
 refine aw_seq ?_
 refine aw_seq ?_
 (refine aw_ops (by kernel_rfl) (fun K hK => ?_); simp (disch := first | omega | (simp only [lnS]; try omega)) [-getElem?_pos, -getElem?_neg]; refine hK _ _ ?_; clear hK K)
 refine aw_f (by (first | (simp [eval_tmp, put_at]; done) | (simp [eval_tmp, put_at]; omega))) (by kernel_rfl) ?_
 refine aw_skip ?_
 refine aw_seq ?_
 (refine aw_ops (by kernel_rfl) (fun K hK => ?_); simp (disch := first | omega | (simp only [lnS]; try omega)) [-getElem?_pos, -getElem?_neg, hb, -notTuple, hnt, -xlen, hl, nt_intG]; refine hK _ _ ?_; clear hK K)
 (refine aw_ret ?_; simp (disch := first | omega | (simp only [lnS]; try omega)) [-getElem?_pos, -getElem?_neg, thenQ_ret, scopeQ_ret, inBlockQ_ret, RQ, resL, resV])
theorem tnew_ac {nro : Nat} {γ : Nat → Option Nat} {H : AH} (hnro : nro ≤ H.length) : AC Tryd.prog nro γ 14 #[] H (fun v' H' => v' = .pointer (some ⟨H.length + 1, 0, none⟩) ∧ Low H.length H H' ∧ TblF H' (H.length + 1) H.length (.slice none 0 0) [] [] []) := by
 have hmk := tm_make
 refine ac_of_aw Tryd.func14 rfl Tryd.ntmps14 Tryd.results14 (by simp) ?_
 refine aw_seq ?_
 (refine aw_ops (by kernel_rfl) (fun K hK => ?_); simp (disch := first | omega | (simp only [lnS]; try omega)) [-getElem?_pos, -getElem?_neg]; refine hK _ _ ?_; clear hK K)
 refine aw_seq ?_
 (refine aw_ops (by kernel_rfl) (fun K hK => ?_); simp (disch := first | omega | (simp only [lnS]; try omega)) [-getElem?_pos, -getElem?_neg, hmk]; refine hK _ _ ?_; clear hK K)
 (refine aw_ret ?_; simp (disch := first | omega | (simp only [lnS]; try omega)) [-getElem?_pos, -getElem?_neg, thenQ_ret, scopeQ_ret, inBlockQ_ret, RQ, resL, resV])
 have e : setR [Value.slice none 0 0, Value.map none] 1 (Value.map (some H.length)).cells.toList = [.slice none 0 0, .map (some H.length)] := rfl
 rw [e]
 refine ⟨⟨fun j hj => hget_left hj, by simp⟩, ⟨?_, ?_, .inl ⟨rfl, rfl, rfl⟩, fun p hp => (by cases hp), fun p hp => (by cases hp), (by omega), (fun h => by cases h), (fun h => by cases h), (fun h => by cases h), (fun h => by cases h), (fun j h => by cases h)⟩⟩
 ·rw [hget_app]; rfl
 ·rw [hget_app0]; rfl
def zkey : Value := .agg #[.int .i64 0, .string ByteArray.empty, .slice none 0 0]
def findV (L : List (Value × TermD)) (k : List Int) : Value := if (decide (nmL (plN k) = k) && decide (plN k < L.length)) = true then (match L[(plN k).toNat]? with | some p => .tuple #[.agg (tmRow p.1 p.2).toArray, .bool true] | none => .tuple #[zkey, .bool false]) else .tuple #[zkey, .bool false]
def findT (T : List TermD) (k : List Int) : Option TermD := if (decide (nmL (plN k) = k) && decide (plN k < T.length)) = true then T[(plN k).toNat]? else none
theorem findV_T (L : List (Value × TermD)) (k : List Int) : (∃ p ∈ L, findV L k = .tuple #[.agg (tmRow p.1 p.2).toArray, .bool true] ∧ findT (L.map (·.2)) k = some p.2) ∨ (findV L k = .tuple #[zkey, .bool false] ∧ findT (L.map (·.2)) k = none) := by
 unfold findV findT
 rw [List.length_map]
 by_cases h : (decide (nmL (plN k) = k) && decide (plN k < L.length)) = true
 ·rw [if_pos h, if_pos h, List.getElem?_map]
  cases hp : L[(plN k).toNat]? with
  | none => exact .inr ⟨rfl, rfl⟩
  | some p => exact .inl ⟨p, List.mem_of_getElem? hp, rfl, rfl⟩
 ·rw [if_neg h, if_neg h]
  exact .inr ⟨rfl, rfl⟩
theorem find_rc {γ : Nat → Option Nat} {H : AH} {b mb : Nat} {tv : Value} {Ft F : List Nat} {L : List (Value × TermD)} (h : TblF H b mb tv Ft F L) {k : List Int} (hk : k.length = 32) (hb : By k) : AC Tryd.prog H.length γ 41 #[.pointer (some ⟨b, 0, none⟩), .agg (iv .u8 k).toArray] H (fun v' H' => v' = findV L k ∧ Low H.length H H') := by
 obtain ⟨hl, hnt, hcs⟩ := h.tvlen
 have hgb := h.hb
 have hbl := hget_lt hgb
 have htk : (iv .u8 k).take 32 = iv .u8 k := List.take_of_length_le (by simp [hk])
 have hpl := fun (G : AH) => place_rc (γ := γ) (H := G) hk hb
 have hp0 : 0 ≤ plN k := by
  have b4 := hb.get 4
  have b5 := hb.get 5
  have b6 := hb.get 6
  have b7 := hb.get 7
  unfold plN
  omega
 unfold findV
 have hat : ∀ p, L[(plN k).toNat]? = some p → ∃ q, xindexAddr Tryd.prog 56 tv (.int .i64 (plN k)) = some q ∧ notTuple q = true ∧ ∀ N : AH, xload Tryd.prog 67 q (H ++ N) = some (.agg (tmRow p.1 p.2).toArray) := fun p hp => by
  have := h.at_ hp
  rwa [Int.toNat_of_nonneg hp0] at this
 have hgl : plN k < L.length → ∃ p, L[(plN k).toNat]? = some p := fun hlt => ⟨_, List.getElem?_eq_getElem (by omega)⟩
 have hlen := fun (G : AH) (hG : hget G b = hget H b) => tlen_rc (γ := γ) (hG.trans hgb) hl hnt hcs
 have p1 : plain1 (.slice none 0 0) = true := rfl
 obtain ⟨ok, hok⟩ : ∃ ok, ok = decide (nmL (plN k) = k) := ⟨_, rfl⟩
 rw [← hok] at hpl
 rw [← hok]
 generalize plN k = p at *
 clear hok
 refine ac_of_aw Tryd.func41 rfl Tryd.ntmps41 Tryd.results41 (by simp) ?_
 refine aw_seq ?_
 (refine aw_ops (by kernel_rfl) (fun K hK => ?_); simp (disch := first | omega | (simp only [lnS]; try omega)) [-getElem?_pos, -getElem?_neg, htk]; refine hK _ _ ?_; clear hK K)
 refine aw_seq ?_
 refine aw_ops (by kernel_rfl) (fun K hK => ?_)
 simp (disch := first | omega | (simp only [lnS]; try omega)) [-getElem?_pos, -getElem?_neg, htk]
 refine ⟨by kernel_rfl, ac_of_rc (hpl _) (by simp [pv_iv, pv_int, pv_bool, pv_string, pv_tup2, pv_tup3, iv_plain, p2_int, p2_bool, p2_string]) ?_⟩
 try simp (disch := first | omega | (simp only [lnS]; try omega)) [-getElem?_pos, -getElem?_neg]
 refine hK _ _ ?_; clear hK K
 refine aw_seq ?_
 refine aw_seq ?_
 cases ok with
 | false =>
  refine aw_ops (by kernel_rfl) (fun K hK => ?_)
  simp (disch := first | omega | (simp only [lnS]; try omega)) [-getElem?_pos, -getElem?_neg]
  refine hK _ _ ?_; clear hK K
  refine aw_t (by (first | (simp [eval_tmp, put_at]; done) | (simp [eval_tmp, put_at]; omega))) (by kernel_rfl) ?_
  refine aw_seq ?_
  (refine aw_ops (by kernel_rfl) (fun K hK => ?_); simp (disch := first | omega | (simp only [lnS]; try omega)) [-getElem?_pos, -getElem?_neg, p1]; refine hK _ _ ?_; clear hK K)
  (refine aw_ret ?_; simp (disch := first | omega | (simp only [lnS]; try omega)) [-getElem?_pos, -getElem?_neg, thenQ_ret, scopeQ_ret, inBlockQ_ret, RQ, resL, resV])
  exact ⟨rfl, Low.push (Nat.le_refl _) _⟩
 | true =>
  refine aw_ops (by kernel_rfl) (fun K hK => ?_)
  simp (disch := first | omega | (simp only [lnS]; try omega)) [-getElem?_pos, -getElem?_neg]
  refine ⟨by kernel_rfl, ac_of_rc (hlen _ (hget_left hbl)) (by simp [pv_iv, pv_int, pv_bool, pv_string, pv_tup2, pv_tup3, iv_plain, p2_int, p2_bool, p2_string]) ?_⟩
  by_cases hlt : p < L.length
  ·have hn : ¬ ((L.length : Int) ≤ p) := by omega
   try simp (disch := first | omega | (simp only [lnS]; try omega)) [-getElem?_pos, -getElem?_neg, hn]
   refine hK _ _ ?_; clear hK K
   refine aw_f (by (first | (simp [eval_tmp, put_at]; done) | (simp [eval_tmp, put_at]; omega))) (by kernel_rfl) ?_
   refine aw_skip ?_
   refine aw_seq ?_
   obtain ⟨q, hq⟩ := hgl hlt
   obtain ⟨a, a1, a2, a3⟩ := hat q hq
   obtain ⟨k1, k2⟩ := h.key_nt (List.mem_of_getElem? hq)
   rw [hq, if_pos (by simp [hlt])]
   obtain ⟨kv, x⟩ := q
   unfold tmRow at *
   simp only at a3 k1 k2
   have ld : ∀ N : AH, xload Tryd.prog 56 (.pointer (some ⟨b, 0, none⟩)) (H ++ N) = some tv := fun N => by
    have := (hget_left (L := N) hbl).trans hgb
    simp [xload, this]
   (refine aw_ops (by kernel_rfl) (fun K hK => ?_); simp (disch := first | omega | (simp only [lnS]; try omega)) [-getElem?_pos, -getElem?_neg, -notTuple, hnt, a2, k1, k2, nt_aggG, nt_intG, -xload, ld, -xindexAddr, a1, a3]; refine hK _ _ ?_; clear hK K)
   (refine aw_ret ?_; simp (disch := first | omega | (simp only [lnS]; try omega)) [-getElem?_pos, -getElem?_neg, thenQ_ret, scopeQ_ret, inBlockQ_ret, RQ, resL, resV, k1, k2])
   exact Low.push (Nat.le_refl _) _
  ·have hn : (L.length : Int) ≤ p := by omega
   try simp (disch := first | omega | (simp only [lnS]; try omega)) [-getElem?_pos, -getElem?_neg, hn]
   refine hK _ _ ?_; clear hK K
   refine aw_t (by (first | (simp [eval_tmp, put_at]; done) | (simp [eval_tmp, put_at]; omega))) (by kernel_rfl) ?_
   refine aw_seq ?_
   (refine aw_ops (by kernel_rfl) (fun K hK => ?_); simp (disch := first | omega | (simp only [lnS]; try omega)) [-getElem?_pos, -getElem?_neg, p1]; refine hK _ _ ?_; clear hK K)
   (refine aw_ret ?_; simp (disch := first | omega | (simp only [lnS]; try omega)) [-getElem?_pos, -getElem?_neg, thenQ_ret, scopeQ_ret, inBlockQ_ret, RQ, resL, resV, hlt])
   exact ⟨rfl, Low.push (Nat.le_refl _) _⟩
end
section
def TermQ (H : AH) (b : Nat) (F : List Nat) (T : List TermD) (x : TermD) (v' : Value) (H' : AH) : Prop :=
 v' = .agg (iv .u8 (nmL (nameT x T))).toArray ∧ H.length ≤ H'.length ∧ (∀ j, j < H.length → j ∉ F → hget H' j = hget H j) ∧ ∃ F', Tbl H' b F' (addT x T) ∧ ∀ j ∈ F', j ∈ F ∨ H.length ≤ j
theorem ownF_nt {H : AH} {v : Value} {e : TypeId} {sz : Nat} {cells : List Value} {F : List Nat} (h : OwnF H v e sz cells F) : notTuple v = true ∧ v.cells = #[v] := by
 rcases h with ⟨rfl, _, _⟩ | ⟨j, len, rfl, _, _, _⟩ <;> exact ⟨rfl, rfl⟩
theorem TblF.lt {H : AH} {b mb : Nat} {tv : Value} {Ft F : List Nat} {L : List (Value × TermD)} (h : TblF H b mb tv Ft F L) : b < H.length ∧ mb < H.length ∧ ∀ j ∈ Ft, j < H.length := ⟨hget_lt h.hb, hget_lt h.hm, h.rows.lt⟩
attribute [local simp] wb_bool wb_undef with_lit XL_nil XL_cons XLc_val XLc_call step1_eq stepW_t stepW_f stepC_n stepC_s stepX_s stepX_n stepN_s calleeX xrecv oneV xop_eq xopR_s xopR_n wantedA_eq wantedG_n wantedG_s plain1_int plain1_bool plain1_string bits_i64 bits_u64 bits_u32 bits_u16 bits_u8 xeqA xagg xcmp xarr allK_iv num_iv calleeOf xread xeff xbin xint xnil xun xstr xload xconv xpart xfield xfieldAddr xindexAddr xindex bnd asInt? xslice xlen xmin xmax xbuild xfill xappend xapp2 xappstr xappmk xcap xcopy xcells eval_tmp eval_const put_at put_none fr0_at cells_agg cells_int cells_bool cells_string cells_ptr cells_slice notTuple tab iv_all hget_app hget_app0 hget_cons0 hget_cons set_app set_app0 setR setR_one QL_nil QL_cons QLc_val stepQ_t stepQ_f stepQC_n stepQC_s stepQX_s SL_nil SL_cons SLc_val stepS_t stepS_f ltT ltF leT leF eqT eqF ltTn ltFn leTn leFn eqTn eqFn beqT beqF bneT bneF wi64 wu64 wu32 wu16 wu8 tmodP tdivP hgetL hgetNe hgetEq setL nums_def nums_len Nat.succ_le_of_lt List.getElem?_cons_zero List.getElem?_cons_succ Option.getD_some Int.toNat_add Int.toNat_mul agM okM agB agI agS agP agL agA okB okI okS okP okSl okA
theorem term_ac {nro : Nat} {γ : Nat → Option Nat} {H : AH} (hp : Pw γ H) {b : Nat} {F : List Nat} {T : List TermD} (h : Tbl H b F T) (hnro : ∀ j ∈ F, nro ≤ j) (hnH : nro ≤ H.length)
  {x : TermD} (hx : x.Wf) {v : Value} (hK : ∀ G : AH, H.length ≤ G.length → (∀ j, j < H.length → j ∉ F → hget G j = hget H j) → KsV G v x.keys) (hT : T.length ≤ 1000000) :
  AC Tryd.prog nro γ 39 #[.pointer (some ⟨b, 0, none⟩), .int .i64 (x.kind : Nat), .string x.text, v] H (TermQ H b F T x) := by
 obtain ⟨mb, tv, Ft, Fk, L, rfl, hL, rfl, hFl⟩ := h
 obtain ⟨hl, hnt, hcs⟩ := hL.tvlen
 have hgb := hL.hb
 have hgm := hL.hm
 have hlt := hL.lt
 rw [List.length_map] at hT
 have hv := val_nt (hK H (Nat.le_refl _) (fun _ _ _ => rfl))
 obtain ⟨Z, hZ⟩ : ∃ Z : Blk, Z = ⟨iv .u8 (zl 32), 28, none⟩ := ⟨_, rfl⟩
 have hrec := fun (N : AH) => recipe_rc (γ := γ) (H := H ++ N) (hp.low ⟨fun j hj => hget_left hj, by simp⟩) (kind := (x.kind : Nat)) (by omega) (by have := hx.kind; omega) hx.text (hK _ (by simp) (fun j hj _ => hget_left hj)) hx.k32 hx.by_ hx.many
 have hr : tmRec (x.kind : Nat) x.text x.keys = x.rec_ := rfl
 rw [hr] at hrec
 have hlk := fun (N : AH) => tm_look ((hget_left (L := N) hlt.2.1).trans hgm) x.rec_
 have hnm := fun (G : AH) (hle : nameT x (L.map (·.2)) ≤ L.length) => name_rc (γ := γ) (H := G) (n := (nameT x (L.map (·.2)) : Nat)) ⟨by omega, by omega⟩
 refine ac_of_aw Tryd.func39 rfl Tryd.ntmps39 Tryd.results39 (by simp) ?_
 refine aw_seq ?_
 (refine aw_ops (by kernel_rfl) (fun K hK => ?_); simp (disch := first | omega | (simp only [lnS]; try omega)) [-getElem?_pos, -getElem?_neg]; refine hK _ _ ?_; clear hK K)
 refine aw_seq ?_
 refine aw_seq ?_
 (refine aw_ops (by kernel_rfl) (fun K hK => ?_); simp (disch := first | omega | (simp only [lnS]; try omega)) [-getElem?_pos, -getElem?_neg]; refine hK _ _ ?_; clear hK K)
 refine aw_f (by (first | (simp [eval_tmp, put_at]; done) | (simp [eval_tmp, put_at]; omega))) (by kernel_rfl) ?_
 refine aw_skip ?_
 refine aw_seq ?_
 refine aw_ops (by kernel_rfl) (fun K hK => ?_)
 simp (disch := first | omega | (simp only [lnS]; try omega)) [-getElem?_pos, -getElem?_neg, -notTuple, hv.1, nt_intG]
 refine ⟨by kernel_rfl, ac_of_rc (hrec _) (by simp [pv_iv, pv_int, pv_bool, pv_string, pv_tup2, pv_tup3, iv_plain, p2_int, p2_bool, p2_string]) ?_⟩
 try simp (disch := first | omega | (simp only [lnS]; try omega)) [-getElem?_pos, -getElem?_neg]
 refine hK _ _ ?_; clear hK K
 have hpl : placeT x (L.map (·.2)) = idxS x.rec_ ((L.map (·.2)).map TermD.rec_) := rfl
 refine aw_seq ?_
 cases hf : placeT x (L.map (·.2)) with
 | some i =>
  rw [← hpl, hf] at hlk
  have hnm1 : nameT x (L.map (·.2)) = i := by unfold nameT; rw [hf]
  have had : addT x (L.map (·.2)) = L.map (·.2) := by unfold addT; rw [hf]
  have hil : i ≤ L.length := by
   have := (List.getElem?_eq_some_iff.1 (idxS_some (hpl ▸ hf))).1
   simp at this
   omega
  rw [hnm1] at hnm
  (refine aw_ops (by kernel_rfl) (fun K hK => ?_); simp (disch := first | omega | (simp only [lnS]; try omega)) [-getElem?_pos, -getElem?_neg, hgb, hlt.1, hlk]; refine hK _ _ ?_; clear hK K)
  refine aw_seq ?_
  refine aw_seq ?_
  (refine aw_ops (by kernel_rfl) (fun K hK => ?_); simp (disch := first | omega | (simp only [lnS]; try omega)) [-getElem?_pos, -getElem?_neg]; refine hK _ _ ?_; clear hK K)
  refine aw_f (by (first | (simp [eval_tmp, put_at]; done) | (simp [eval_tmp, put_at]; omega))) (by kernel_rfl) ?_
  refine aw_skip ?_
  refine aw_seq ?_
  refine aw_ops (by kernel_rfl) (fun K hK => ?_)
  simp (disch := first | omega | (simp only [lnS]; try omega)) [-getElem?_pos, -getElem?_neg]
  refine ⟨by kernel_rfl, ac_of_rc (hnm _ hil) (by simp [pv_iv]) ?_⟩
  have fin : ∀ N : AH, TermQ H b (b :: mb :: (Ft ++ Fk)) (L.map (·.2)) x (.agg (iv .u8 (nmL (i : Nat))).toArray) (H ++ N) := fun N => by
   refine ⟨by rw [hnm1], by simp, fun j hj _ => hget_left hj, b :: mb :: (Ft ++ Fk), ?_, fun j hj => .inl hj⟩
   rw [had]
   exact ⟨mb, tv, Ft, Fk, L, rfl, hL.low (fun j hj => hget_left (hFl j hj)), rfl, fun j hj => by have := hFl j hj; simp; omega⟩
  have lN : (nmL (i : Nat)).length = 32 := rfl
  generalize nmL (i : Nat) = N at *
  have ht : (iv .u8 N).take 32 = iv .u8 N := List.take_of_length_le (by simp [lN])
  have hs : setR (iv .u8 (zl 32)) 0 (iv .u8 N) = iv .u8 N := setR_all _ _ (by simp [lN])
  try simp (disch := first | omega | (simp only [lnS]; try omega)) [-getElem?_pos, -getElem?_neg, hnH, lN, ht, hs]
  refine hK _ _ ?_; clear hK K
  (refine aw_ret ?_; simp (disch := first | omega | (simp only [lnS]; try omega)) [-getElem?_pos, -getElem?_neg, thenQ_ret, scopeQ_ret, inBlockQ_ret, RQ, resL, resV, lN, ht])
  exact fin _
 | none =>
  rw [← hpl, hf] at hlk
  (refine aw_ops (by kernel_rfl) (fun K hK => ?_); simp (disch := first | omega | (simp only [lnS]; try omega)) [-getElem?_pos, -getElem?_neg, hgb, hlt.1, hlk]; refine hK _ _ ?_; clear hK K)
  refine aw_seq ?_
  refine aw_seq ?_
  (refine aw_ops (by kernel_rfl) (fun K hK => ?_); simp (disch := first | omega | (simp only [lnS]; try omega)) [-getElem?_pos, -getElem?_neg]; refine hK _ _ ?_; clear hK K)
  refine aw_t (by (first | (simp [eval_tmp, put_at]; done) | (simp [eval_tmp, put_at]; omega))) (by kernel_rfl) ?_
  have hn0 : idxS x.rec_ ((L.map (·.2)).map TermD.rec_) = none := hpl ▸ hf
  obtain ⟨G, hput, hGl, hGm, hGo⟩ : ∃ G : AH, xmapUpd Tryd.prog nro 73 (.map (some mb)) (.string x.rec_) (.int .i64 (L.length : Nat)) (H ++ [some ⟨iv .u8 (zl 32), 28, none⟩]) = some (undef, G) ∧ G.length = H.length + 1 ∧
    hget G mb = some (mblk 73 (sE 0 (((L ++ [(v, x)]).map (·.2)).map TermD.rec_))) ∧ ∀ j, j ≠ mb → hget G j = hget (H ++ [some ⟨iv .u8 (zl 32), 28, none⟩]) j := by
   have := tm_put (nro := nro) ((hget_left (L := [some ⟨iv .u8 (zl 32), 28, none⟩]) hlt.2.1).trans hgm) (hnro mb (by simp)) hn0
   simp only [List.length_map] at this
   refine ⟨_, this, by simp, ?_, fun j hj => hget_set_ne (Ne.symm hj)⟩
   rw [hget_set_eq (by simp; have := hlt.2.1; omega)]
   simp
  refine aw_seq ?_
  (refine aw_ops (by kernel_rfl) (fun K hK => ?_); simp (disch := first | omega | (simp only [lnS]; try omega)) [-getElem?_pos, -getElem?_neg, hgb, hlt.1, -notTuple, hnt, -xlen, hl]; refine hK _ _ ?_; clear hK K)
  refine aw_seq ?_
  (refine aw_ops (by kernel_rfl) (fun K hK => ?_); simp (disch := first | omega | (simp only [lnS]; try omega)) [-getElem?_pos, -getElem?_neg, hgb, hlt.1, hput]; refine hK _ _ ?_; clear hK K)
  have hGb : hget G b = some ⟨[tv, .map (some mb)], 81, none⟩ := (hGo b hL.bm).trans ((hget_left hlt.1).trans hgb)
  have hGk : KsV G v x.keys := hK G (by omega) (fun j hj hn => (hGo j (fun e => hn (by simp [e]))).trans (hget_left hj))
  have hcl := cloneK_ac (nro := nro) (γ := γ) hGk hx.k32 (by omega) (by have := hx.many; omega)
  have hnr3 : nro ≤ b := hnro b (by simp)
  have p1 : plain1 (.slice none 0 0) = true := rfl
  have nt_strG : ∀ s : ByteArray, notTuple (.string s) = true := fun _ => rfl
  have hHb : H.length ≠ b := by have := hlt.1; omega
  have hHm : H.length ≠ mb := by have := hlt.2.1; omega
  have hHt : H.length ∉ Ft := fun hm => by have := hlt.2.2 _ hm; omega
  have hGH : hget G H.length = some ⟨iv .u8 (zl 32), 28, none⟩ := by rw [hGo _ hHm, hget_app0]; rfl
  have hGj : ∀ j, j < H.length → j ≠ mb → hget G j = hget H j := fun j hj hn => (hGo j hn).trans (hget_left hj)
  have hnm2 : nameT x (L.map (·.2)) = L.length := by unfold nameT; rw [hf, List.length_map]
  have had : addT x (L.map (·.2)) = (L ++ [(v, x)]).map (·.2) := by unfold addT; rw [hf]; simp
  have fin : ∀ (G1 : AH) (v1 : Value) (F1 : List Nat), Low G.length G G1 → OwnF G1 v1 28 32 (ksC x.keys) F1 → (∀ j ∈ F1, G.length ≤ j) → ∃ v' G3, xappend Tryd.prog nro 56 tv (.slice (some ⟨G1.length, 0, none⟩) 1 1) (G1 ++ [some ⟨[.int .i64 (x.kind : Nat), .string x.text, v1], 67, some 3⟩]) = some (v', G3) ∧
    notTuple v' = true ∧ v'.cells = #[v'] ∧ hget G3 b = some ⟨[tv, .map (some mb)], 81, none⟩ ∧ hget G3 H.length = some ⟨iv .u8 (zl 32), 28, none⟩ ∧
    ∀ X : Option Blk, TermQ H b (b :: mb :: (Ft ++ Fk)) (L.map (·.2)) x (.agg (iv .u8 (nmL (L.length : Nat))).toArray) ((G3.set b (some ⟨[v', .map (some mb)], 81, none⟩)).set H.length X) := by
   intro G1 v1 F1 lw1 ho1 hF1
   have hle1 := lw1.2
   obtain ⟨R, hR⟩ : ∃ R : Option Blk, R = some ⟨[.int .i64 (x.kind : Nat), .string x.text, v1], 67, some 3⟩ := ⟨_, rfl⟩
   rw [← hR]
   have hxc : xcells 3 (.slice (some ⟨G1.length, 0, none⟩) 1 1) (G1 ++ [R]) = some (tmRow v1 x) := by
    unfold xcells
    simp only [hget_app0]
    rw [hR]
    rfl
   have hF1l := ho1.lt
   obtain ⟨v', G3, hap, ho2, hl3, hk3⟩ := ownF_append (P := Tryd.prog) (nro := nro) (t := 56) (e := 67) (H := G1 ++ [R]) (v := tv) (x := .slice (some ⟨G1.length, 0, none⟩) 1 1) (sz := 3) (cells := tmRows L) (news := tmRow v1 x) (F := Ft) (by kernel_rfl) (by kernel_rfl) (by omega) (by kernel_rfl)
    (hL.rows.low (fun j hj => (hget_left (by have := hlt.2.2 j hj; omega)).trans ((lw1.1 j (by have := hlt.2.2 j hj; omega)).trans (hGj j (hlt.2.2 j hj) (fun e => hL.mt (e ▸ hj))))))
    (fun j hj => hnro j (by simp [hj])) (fun s e => by cases e) hxc (by simp [tmRow]) (by simp [tmRow]) (by rw [tmRows_len]; show (L.length * 3 + 3) * byt Tryd.prog 67 ≤ _; rw [show byt Tryd.prog 67 = 48 by kernel_rfl]; omega) (by rw [tmRows_len]; show L.length * 3 + 3 ≤ _; simp [maxLen]; omega)
   have hl2 : (G1 ++ [R]).length = G1.length + 1 := by simp
   rw [hl2] at ho2 hl3 hk3
   obtain ⟨n1, n2⟩ := ownF_nt ho2
   have h31 : ∀ j, j < G1.length → j ∉ Ft → hget G3 j = hget G1 j := fun j hj hn => (hk3 j (by omega) hn).trans (hget_left hj)
   have h3H : ∀ j, j < H.length → j ≠ mb → j ∉ Ft → hget G3 j = hget H j := fun j hj hm hn => (h31 j (by omega) hn).trans ((lw1.1 j (by omega)).trans (hGj j hj hm))
   refine ⟨v', G3, hap, n1, n2, (h3H b hlt.1 hL.bm hL.bt).trans hgb, (h31 _ (by omega) hHt).trans ((lw1.1 _ (by omega)).trans hGH), fun X => ?_⟩
   have hA : ∀ j, j ≠ b → j ≠ H.length → hget ((G3.set b (some ⟨[v', .map (some mb)], 81, none⟩)).set H.length X) j = hget G3 j := fun j h1 h2 => by rw [hget_set_ne (Ne.symm h2), hget_set_ne (Ne.symm h1)]
   have hAl : ((G3.set b (some ⟨[v', .map (some mb)], 81, none⟩)).set H.length X).length = G3.length := by simp
   have hbA : hget ((G3.set b (some ⟨[v', .map (some mb)], 81, none⟩)).set H.length X) b = some ⟨[v', .map (some mb)], 81, none⟩ := by rw [hget_set_ne hHb, hget_set_eq (by have := hlt.1; omega)]
   generalize (G3.set b (some ⟨[v', .map (some mb)], 81, none⟩)).set H.length X = A at *
   have hbl := hlt.1
   have hml := hlt.2.1
   have hFk : ∀ j ∈ Fk, j < H.length ∧ j ≠ b ∧ j ≠ mb ∧ j ∉ Ft := fun j hj => ⟨hFl j (by simp [hj]), fun e => hL.fb (e ▸ hj), fun e => hL.fm (e ▸ hj), fun ht => hL.ft j ht hj⟩
   refine ⟨by rw [hnm2], by omega, fun j hj hn => ?_, b :: mb :: ([G1.length + 1] ++ (Fk ++ F1)), ?_, fun j hj => ?_⟩
   ·have e1 : j ≠ b := fun e => hn (by simp [e])
    have e2 : j ≠ mb := fun e => hn (by simp [e])
    have e3 : j ∉ Ft := fun e => hn (by simp [e])
    exact (hA j e1 (by omega)).trans (h3H j hj e2 e3)
   ·rw [had]
    refine ⟨mb, v', [G1.length + 1], Fk ++ F1, L ++ [(v1, x)], by simp, ?_, rfl, fun j hj => ?_⟩
    ·refine ⟨hbA, ?_, ?_, fun p hp => ?_, fun p hp => ?_, hL.bm, by simp; omega, by simp; omega, ?_, ?_, ?_⟩
     ·rw [hA mb (Ne.symm hL.bm) (Ne.symm hHm), h31 mb (by omega) hL.mt, lw1.1 mb (by omega), hGm]
      simp
     ·rw [tmRows_snoc]
      exact ho2.low (fun j hj => hA j (by have := List.mem_singleton.1 hj; omega) (by have := List.mem_singleton.1 hj; omega))
     ·rcases List.mem_append.1 hp with hp | hp
      ·obtain ⟨F0, h1, h2⟩ := hL.keys p hp
       exact ⟨F0, h1.low (fun j hj => (hA j (hFk j (h2 j hj)).2.1 (by have := (hFk j (h2 j hj)).1; omega)).trans (h3H j (hFk j (h2 j hj)).1 (hFk j (h2 j hj)).2.2.1 (hFk j (h2 j hj)).2.2.2)), fun j hj => by simp [h2 j hj]⟩
      ·rw [List.mem_singleton] at hp
       subst hp
       refine ⟨F1, ?_, fun j hj => by simp [hj]⟩
       rw [← ksC_kr]
       exact ho1.low (fun j hj => (hA j (by have := hF1 j hj; omega) (by have := hF1 j hj; omega)).trans (h31 j (hF1l j hj) (fun ht => by have := hlt.2.2 j ht; have := hF1 j hj; omega)))
     ·rcases List.mem_append.1 hp with hp | hp
      ·exact hL.wf p hp
      ·rw [List.mem_singleton] at hp
       subst hp
       exact hx
     ·intro hm
      rcases List.mem_append.1 hm with hm | hm
      ·exact hL.fb hm
      ·have := hF1 _ hm; omega
     ·intro hm
      rcases List.mem_append.1 hm with hm | hm
      ·exact hL.fm hm
      ·have := hF1 _ hm; omega
     ·intro j hj hm
      rw [List.mem_singleton] at hj
      rcases List.mem_append.1 hm with hm | hm
      ·have := (hFk j hm).1; omega
      ·have := hF1l j hm; omega
    ·simp only [List.mem_cons, List.mem_append, List.not_mem_nil, or_false] at hj
     rcases hj with rfl | rfl | rfl | hj | hj
     ·omega
     ·omega
     ·omega
     ·have := (hFk j hj).1; omega
     ·have := hF1l j hj; omega
   ·simp only [List.mem_cons, List.mem_append, List.not_mem_nil, or_false] at hj ⊢
    rcases hj with h | h | h | h | h
    ·exact .inl (.inl h)
    ·exact .inl (.inr (.inl h))
    ·exact .inr (by omega)
    ·exact .inl (.inr (.inr (.inr h)))
    ·exact .inr (by have := hF1 j h; omega)
  rw [hnm2] at hnm
  have r3 : List.range 3 = [0, 1, 2] := rfl
  (refine aw_ptree [0, 1, 2, 3, 5, 6, 7] 8 [[4, 8, 9, 10, 11, 12, 13, 14], [8, 4, 9, 10, 11, 12, 13, 14], [8, 9, 4, 10, 11, 12, 13, 14], [8, 9, 10, 4, 11, 12, 13, 14]] (by kernel_rfl) (by kernel_rfl) (by kernel_rfl) (fun K hK => ?_)); simp only [sel, List.getElem?_cons_succ, List.getElem?_cons_zero]; simp (disch := first | omega | (simp only [lnS]; try omega)) [-getElem?_pos, -getElem?_neg, hGb, -notTuple, hnt, hv.1, nt_slG, nt_intG, nt_aggG, nt_ptrG, -xappend, XO_s, XO_z, XLk_val, XLk_call, headsO, behind, List.length_cons, List.length_nil, List.mem_cons, List.not_mem_nil, or_false, forall_eq_or_imp, forall_eq, List.contains_cons, List.contains_nil]
  refine ⟨⟨by kernel_rfl, hcl.mono ?_⟩, by kernel_rfl, hcl.mono ?_⟩
  ·rintro v1 G1 ⟨hv1, hG1l, lw1, F1, ho1, hF1⟩
   obtain ⟨n1, n2⟩ := ownF_nt ho1
   clear hv1 hG1l
   obtain ⟨v', G3, hap, n3, n4, g3b, g3H, hfin⟩ := fin G1 v1 F1 lw1 ho1 hF1
   have hbl3 := hget_lt g3b
   have hHl3 := hget_lt g3H
   try simp (disch := first | omega | (simp only [lnS]; try omega)) [-getElem?_pos, -getElem?_neg, -notTuple, hnt, n1, n2, n3, n4, p1, r3, nt_slG, nt_intG, nt_strG, nt_aggG, nt_ptrG, -xappend, hap, g3b, hnr3, hbl3, XO_s, XO_z, XLk_val, XLk_call, headsO, behind, List.length_cons, List.length_nil, List.mem_cons, List.not_mem_nil, or_false, forall_eq_or_imp, forall_eq, List.contains_cons, List.contains_nil]
   refine hK _ _ ?_; clear hK K
   refine aw_seq ?_
   refine aw_ops (by kernel_rfl) (fun K hK => ?_)
   simp (disch := first | omega | (simp only [lnS]; try omega)) [-getElem?_pos, -getElem?_neg]
   refine ⟨by kernel_rfl, ac_of_rc (hnm _ (by omega)) (by simp [pv_iv]) ?_⟩
   have lN : (nmL (L.length : Nat)).length = 32 := rfl
   generalize nmL (L.length : Nat) = N at *
   have ht : (iv .u8 N).take 32 = iv .u8 N := List.take_of_length_le (by simp [lN])
   have hs : setR (iv .u8 (zl 32)) 0 (iv .u8 N) = iv .u8 N := setR_all _ _ (by simp [lN])
   have g4H : hget (G3.set b (some ⟨[v', .map (some mb)], 81, none⟩)) H.length = some ⟨iv .u8 (zl 32), 28, none⟩ := (hget_set_ne hHb.symm).trans g3H
   try simp (disch := first | omega | (simp only [lnS]; try omega)) [-getElem?_pos, -getElem?_neg, hnH, lN, ht, hs, g4H, hHl3]
   refine hK _ _ ?_; clear hK K
   (refine aw_ret ?_; simp (disch := first | omega | (simp only [lnS]; try omega)) [-getElem?_pos, -getElem?_neg, thenQ_ret, scopeQ_ret, inBlockQ_ret, RQ, resL, resV, lN, ht, hHl3])
   exact hfin _
  ·rintro v1 G1 ⟨hv1, hG1l, lw1, F1, ho1, hF1⟩
   obtain ⟨n1, n2⟩ := ownF_nt ho1
   clear hv1 hG1l
   have hG1b := (lw1.1 b (hget_lt hGb)).trans hGb
   have hG1l := hget_lt hG1b
   obtain ⟨v', G3, hap, n3, n4, g3b, g3H, hfin⟩ := fin G1 v1 F1 lw1 ho1 hF1
   have hbl3 := hget_lt g3b
   have hHl3 := hget_lt g3H
   try simp (disch := first | omega | (simp only [lnS]; try omega)) [-getElem?_pos, -getElem?_neg, hG1b, hG1l, -notTuple, hnt, n1, n2, n3, n4, p1, r3, nt_slG, nt_intG, nt_strG, nt_aggG, nt_ptrG, -xappend, hap, g3b, hnr3, hbl3, XO_s, XO_z, XLk_val, XLk_call, headsO, behind, List.length_cons, List.length_nil, List.mem_cons, List.not_mem_nil, or_false, forall_eq_or_imp, forall_eq, List.contains_cons, List.contains_nil]
   refine ⟨?_, ?_, ?_⟩
   all_goals
    refine hK _ _ ?_; clear hK K
    refine aw_seq ?_
    refine aw_ops (by kernel_rfl) (fun K hK => ?_)
    simp (disch := first | omega | (simp only [lnS]; try omega)) [-getElem?_pos, -getElem?_neg]
    refine ⟨by kernel_rfl, ac_of_rc (hnm _ (by omega)) (by simp [pv_iv]) ?_⟩
    have lN : (nmL (L.length : Nat)).length = 32 := rfl
    generalize nmL (L.length : Nat) = N at *
    have ht : (iv .u8 N).take 32 = iv .u8 N := List.take_of_length_le (by simp [lN])
    have hs : setR (iv .u8 (zl 32)) 0 (iv .u8 N) = iv .u8 N := setR_all _ _ (by simp [lN])
    have g4H : hget (G3.set b (some ⟨[v', .map (some mb)], 81, none⟩)) H.length = some ⟨iv .u8 (zl 32), 28, none⟩ := (hget_set_ne hHb.symm).trans g3H
    try simp (disch := first | omega | (simp only [lnS]; try omega)) [-getElem?_pos, -getElem?_neg, hnH, lN, ht, hs, g4H, hHl3]
    refine hK _ _ ?_; clear hK K
    (refine aw_ret ?_; simp (disch := first | omega | (simp only [lnS]; try omega)) [-getElem?_pos, -getElem?_neg, thenQ_ret, scopeQ_ret, inBlockQ_ret, RQ, resL, resV, lN, ht, hHl3])
    exact hfin _
end
section
theorem TermQ.up {H N G A : AH} {b : Nat} {F : List Nat} {T : List TermD} {x : TermD} {v v2 : Value} (h : TermQ (H ++ N) b F T x v G) (hF : ∀ j ∈ F, j < H.length) (hv : v2 = v) (hA : A.length = G.length) (hk : ∀ j, (j < H.length ∨ (H ++ N).length ≤ j) → hget A j = hget G j) : TermQ H b F T x v2 A := by
 subst hv
 obtain ⟨h1, h2, h3, F', h4, h5⟩ := h
 have hl : (H ++ N).length = H.length + N.length := by simp
 refine ⟨h1, by omega, fun j hj hn => (hk j (.inl hj)).trans ((h3 j (by omega) hn).trans (hget_left hj)), F', h4.low (fun j hj => hk j ?_) (by omega), fun j hj => ?_⟩
 ·rcases h5 j hj with h | h
  ·exact .inl (hF j h)
  ·exact .inr h
 ·rcases h5 j hj with h | h
  ·exact .inl h
  ·exact .inr (by omega)
theorem Tbl.bound {H : AH} {b : Nat} {F : List Nat} {T : List TermD} (h : Tbl H b F T) : ∀ j ∈ F, j < H.length := by
 obtain ⟨_, _, _, _, _, _, _, _, h4⟩ := h
 exact h4
theorem Tbl.push {H : AH} {b : Nat} {F : List Nat} {T : List TermD} (h : Tbl H b F T) (N : AH) : Tbl (H ++ N) b F T := h.low (fun j hj => hget_left (h.bound j hj)) (by simp)
theorem Pw.push {γ : Nat → Option Nat} {H : AH} (h : Pw γ H) (N : AH) : Pw γ (H ++ N) := h.low ⟨fun j hj => hget_left hj, by simp⟩
theorem ks_nil (G : AH) : KsV G (.slice none 0 0) [] := .nil (fun x e => by cases e)
theorem wf_0 {k : Nat} (hk : k = 1 ∨ k = 2) {s : ByteArray} (hs : s.size ≤ 100000000) : TermD.Wf ⟨k, s, []⟩ := by
 refine ⟨?_, hs, fun k hk => (by cases hk), fun k hk => (by cases hk), (by show 0 ≤ 1000000; omega), fun h => ?_, fun h => ?_, fun h => ?_⟩
 ·show k ≤ 6; omega
 all_goals
  have h : k = _ := h
  omega
theorem TermQ.lay {H G : AH} {b : Nat} {F : List Nat} {T : List TermD} {x : TermD} {v : Value} (h : TermQ (H ++ [some ⟨iv .u8 (zl 32), 28, none⟩]) b F T x v G) (hF : ∀ j ∈ F, j < H.length) : ∃ N : List Int, N = nmL (nameT x T) ∧ N.length = 32 ∧ (iv .u8 N).take 32 = iv .u8 N ∧ setR (iv .u8 (zl 32)) 0 (iv .u8 N) = iv .u8 N ∧ v = .agg (iv .u8 N).toArray ∧ H.length < G.length ∧ hget G H.length = some ⟨iv .u8 (zl 32), 28, none⟩ ∧ ∀ X : Option Blk, TermQ H b F T x (.agg (iv .u8 N).toArray) (G.set H.length X) := by
 have h0 := h.1
 have hl : (H ++ ([some ⟨iv .u8 (zl 32), 28, none⟩] : AH)).length = H.length + 1 := by simp
 have hn : H.length ∉ F := fun e => by have := hF _ e; omega
 have hg := h.2.2.1 H.length (by omega) hn
 rw [hget_app0] at hg
 have hg : hget G H.length = some ⟨iv .u8 (zl 32), 28, none⟩ := hg
 refine ⟨nmL (nameT x T), rfl, rfl, rfl, ?_, h0, hget_lt hg, hg, fun X => ?_⟩
 ·exact setR_all _ _ (by simp [nmL_len])
 ·exact h.up hF h0.symm (by simp) (fun j hj => hget_set_ne (by omega))
attribute [local simp] wb_bool wb_undef with_lit XL_nil XL_cons XLc_val XLc_call step1_eq stepW_t stepW_f stepC_n stepC_s stepX_s stepX_n stepN_s calleeX xrecv oneV xop_eq xopR_s xopR_n wantedA_eq wantedG_n wantedG_s plain1_int plain1_bool plain1_string bits_i64 bits_u64 bits_u32 bits_u16 bits_u8 xeqA xagg xcmp xarr allK_iv num_iv calleeOf xread xeff xbin xint xnil xun xstr xload xconv xpart xfield xfieldAddr xindexAddr xindex bnd asInt? xslice xlen xmin xmax xbuild xfill xappend xapp2 xappstr xappmk xcap xcopy xcells eval_tmp eval_const put_at put_none fr0_at cells_agg cells_int cells_bool cells_string cells_ptr cells_slice notTuple tab iv_all hget_app hget_app0 hget_cons0 hget_cons set_app set_app0 setR setR_one QL_nil QL_cons QLc_val stepQ_t stepQ_f stepQC_n stepQC_s stepQX_s SL_nil SL_cons SLc_val stepS_t stepS_f ltT ltF leT leF eqT eqF ltTn ltFn leTn leFn eqTn eqFn beqT beqF bneT bneF wi64 wu64 wu32 wu16 wu8 tmodP tdivP hgetL hgetNe hgetEq setL nums_def nums_len Nat.succ_le_of_lt List.getElem?_cons_zero List.getElem?_cons_succ Option.getD_some Int.toNat_add Int.toNat_mul agM okM agB agI agS agP agL agA okB okI okS okP okSl okA
theorem hash_ac {nro : Nat} {γ : Nat → Option Nat} {H : AH} (hp : Pw γ H) {b : Nat} {F : List Nat} {T : List TermD} (h : Tbl H b F T) (hnro : ∀ j ∈ F, nro ≤ j) (hnH : nro ≤ H.length) {s : ByteArray} {ks : List (List Int)} (hx : TermD.Wf ⟨2, s, ks⟩) {v : Value}
  (hK : ∀ G : AH, H.length ≤ G.length → (∀ j, j < H.length → j ∉ F → hget G j = hget H j) → KsV G v ks) (hT : T.length ≤ 1000000) :
  AC Tryd.prog nro γ 16 #[.pointer (some ⟨b, 0, none⟩), .string s, v] H (TermQ H b F T ⟨2, s, ks⟩) := by
 have hv := val_nt (hK H (Nat.le_refl _) (fun _ _ _ => rfl))
 have hc := term_ac (nro := nro) (γ := γ) (hp.push [some ⟨iv .u8 (zl 32), 28, none⟩]) (h.push [some ⟨iv .u8 (zl 32), 28, none⟩]) hnro (by simp; omega) hx (v := v) (fun G hG hj => hK G (by simp at hG; omega) (fun j h1 h2 => (hj j (by simp; omega) h2).trans (hget_left h1))) hT
 refine ac_of_aw Tryd.func16 rfl Tryd.ntmps16 Tryd.results16 (by simp) ?_
 refine aw_seq ?_
 (refine aw_ops (by kernel_rfl) (fun K hK => ?_); simp (disch := first | omega | (simp only [lnS]; try omega)) [-getElem?_pos, -getElem?_neg]; refine hK _ _ ?_; clear hK K)
 refine aw_seq ?_
 refine aw_ops (by kernel_rfl) (fun K hK => ?_)
 simp (disch := first | omega | (simp only [lnS]; try omega)) [-getElem?_pos, -getElem?_neg, -notTuple, hv.1]
 refine ⟨by kernel_rfl, AC.mono hc ?_⟩
 intro v' G hQ
 obtain ⟨N, _, lN, ht, hs, rfl, hlt, hg, hfin⟩ := hQ.lay h.bound
 try simp (disch := first | omega | (simp only [lnS]; try omega)) [-getElem?_pos, -getElem?_neg, hnH, lN, ht, hs, hg, hlt]
 refine hK _ _ ?_; clear hK K
 (refine aw_ret ?_; simp (disch := first | omega | (simp only [lnS]; try omega)) [-getElem?_pos, -getElem?_neg, thenQ_ret, scopeQ_ret, inBlockQ_ret, RQ, resL, resV, lN, ht, hlt])
 exact hfin _
theorem draw_ac {nro : Nat} {γ : Nat → Option Nat} {H : AH} (hp : Pw γ H) {b : Nat} {F : List Nat} {T : List TermD} (h : Tbl H b F T) (hnro : ∀ j ∈ F, nro ≤ j) (hnH : nro ≤ H.length) {s : ByteArray} (hs : s.size ≤ 100000000) (hT : T.length ≤ 1000000) :
  AC Tryd.prog nro γ 15 #[.pointer (some ⟨b, 0, none⟩), .string s] H (TermQ H b F T ⟨1, s, []⟩) := by
 have hc := term_ac (nro := nro) (γ := γ) (hp.push [some ⟨iv .u8 (zl 32), 28, none⟩]) (h.push [some ⟨iv .u8 (zl 32), 28, none⟩]) hnro (by simp; omega) (x := ⟨1, s, []⟩) (wf_0 (.inl rfl) hs) (v := .slice none 0 0) (fun G _ _ => ks_nil G) hT
 refine ac_of_aw Tryd.func15 rfl Tryd.ntmps15 Tryd.results15 (by simp) ?_
 refine aw_seq ?_
 (refine aw_ops (by kernel_rfl) (fun K hK => ?_); simp (disch := first | omega | (simp only [lnS]; try omega)) [-getElem?_pos, -getElem?_neg]; refine hK _ _ ?_; clear hK K)
 refine aw_seq ?_
 refine aw_ops (by kernel_rfl) (fun K hK => ?_)
 simp (disch := first | omega | (simp only [lnS]; try omega)) [-getElem?_pos, -getElem?_neg]
 refine ⟨by kernel_rfl, AC.mono hc ?_⟩
 intro v' G hQ
 obtain ⟨N, _, lN, ht, hs, rfl, hlt, hg, hfin⟩ := hQ.lay h.bound
 try simp (disch := first | omega | (simp only [lnS]; try omega)) [-getElem?_pos, -getElem?_neg, hnH, lN, ht, hs, hg, hlt]
 refine hK _ _ ?_; clear hK K
 (refine aw_ret ?_; simp (disch := first | omega | (simp only [lnS]; try omega)) [-getElem?_pos, -getElem?_neg, thenQ_ret, scopeQ_ret, inBlockQ_ret, RQ, resL, resV, lN, ht, hlt])
 exact hfin _
end
section
theorem keys1 {G : AH} {b : Nat} {k : List Int} (hk : k.length = 32) (h : hget G b = some ⟨iv .u8 k, 28, some 32⟩) : KsV G (.slice (some ⟨b, 0, none⟩) 1 1) [k] :=
 kr_ksv (F := [b]) (.inr ⟨b, 1, rfl, by rw [kr_one]; exact h, by rw [kr_one, iv_length, hk], rfl⟩) (fun y hy => by rw [List.mem_singleton.1 hy]; exact hk)
theorem keys2 {G : AH} {b : Nat} {k l : List Int} (hk : k.length = 32) (hl : l.length = 32) (h : hget G b = some ⟨iv .u8 k ++ iv .u8 l, 28, some 32⟩) : KsV G (.slice (some ⟨b, 0, none⟩) 2 2) [k, l] :=
 kr_ksv (F := [b]) (.inr ⟨b, 2, rfl, by simpa [kr] using h, by simp [kr, hk, hl], rfl⟩) (fun y hy => by
  rcases List.mem_cons.1 hy with rfl | hy
  ·exact hk
  ·rw [List.mem_singleton.1 hy]; exact hl)
end
section
def pk (k : List Int) : Option Nat := if nmL (plN k) = k then some (plN k).toNat else none
theorem pk_nm {i : Nat} (h : i < 4294967296) : pk (nmL i) = some i := by
 unfold pk
 rw [plN_nm (by omega)]
 simp
def kw (kn : List Bool) (p : Nat) : Bool := kn.getD p false
def fol (kn : List Bool) (k : List Int) : Bool := match pk k with | none => true | some p => kw kn p
abbrev FSt := List Bool × List Nat
def lrn (s : FSt) (k : List Int) : FSt := match pk k with | none => s | some p => if p < s.1.length ∧ kw s.1 p = false then (s.1.set p true, s.2 ++ [p]) else s
def trm (T : List TermD) (i : Nat) : TermD := T.getD i ⟨0, ⟨#[]⟩, []⟩
def k0 (x : TermD) : List Int := x.keys.getD 0 []
def k1 (x : TermD) : List Int := x.keys.getD 1 []
def pubK (T : List TermD) (kn : List Bool) (k : List Int) : Bool := match placeT ⟨3, ⟨#[]⟩, [k]⟩ T with | none => false | some p => kw kn p
def agrS (T : List TermD) (kn : List Bool) (a b : List Int) : Bool := fol kn a && (fol kn b || pubK T kn b)
def mks (T : List TermD) (kn : List Bool) (x : TermD) : Bool :=
 if x.kind = 2 ∨ x.kind = 3 ∨ x.kind = 5 ∨ x.kind = 6 then x.keys.all (fol kn)
 else if x.kind = 4 then agrS T kn (k0 x) (k1 x) || agrS T kn (k1 x) (k0 x) else false
def tryS (T : List TermD) (s : FSt) (i : Nat) : FSt := if kw s.1 i = false ∧ mks T s.1 (trm T i) = true then lrn s (nmL i) else s
def opnS (T : List TermD) (s : FSt) (i : Nat) : FSt := if (trm T i).kind = 6 ∧ kw s.1 i = true ∧ fol s.1 (k0 (trm T i)) = true then ((trm T i).keys.drop 2).foldl lrn s else s
def usersF (k : List Int) : Nat → List TermD → List Nat
 | _, [] => []
 | n, x :: T => (x.keys.filter (· = k)).map (fun _ => n) ++ usersF k (n + 1) T
def useS (T : List TermD) (s : FSt) (i : Nat) : FSt :=
 let s2 := (usersF (nmL i) 0 T).foldl (fun s u => opnS T (tryS T s u) u) (opnS T s i)
 if (trm T i).kind = 3 then (usersF (k0 (trm T i)) 0 T).foldl (tryS T) s2 else s2
def runS (T : List TermD) : Nat → FSt → FSt
 | 0, s => s
 | f + 1, s => match s.2.getLast? with | none => s | some i => runS T f (useS T (s.1, s.2.dropLast) i)
def seedS (n : Nat) (seen : List (List Int)) : FSt := seen.foldl lrn (List.replicate n false, [])
def passS (T : List TermD) (seen : List (List Int)) : FSt := (List.range T.length).foldl (tryS T) (seedS T.length seen)
def folL (T : List TermD) (seen : List (List Int)) : List Bool := (runS T T.length (passS T seen)).1
def muF (s : FSt) : Nat := s.1.count false + s.2.length
structure FExt (s t : FSt) : Prop where
 len : t.1.length = s.1.length
 le : ∀ p, kw s.1 p = true → kw t.1 p = true
 new : ∃ L, t.2 = s.2 ++ L ∧ (∀ p, kw t.1 p = true → kw s.1 p = true ∨ p ∈ L) ∧ (∀ p ∈ L, kw t.1 p = true ∧ p < s.1.length)
 mu : muF t = muF s
theorem FExt.refl (s : FSt) : FExt s s := ⟨rfl, fun _ h => h, ⟨[], by simp, fun p h => .inl h, by simp⟩, rfl⟩
theorem FExt.trans {s t u : FSt} (h : FExt s t) (g : FExt t u) : FExt s u := by
 obtain ⟨L, e, f, a⟩ := h.new
 obtain ⟨M, e2, f2, a2⟩ := g.new
 refine ⟨g.len.trans h.len, fun p hp => g.le p (h.le p hp), ⟨L ++ M, by rw [e2, e, List.append_assoc], fun p hp => ?_, fun p hp => ?_⟩, g.mu.trans h.mu⟩
 ·rcases f2 p hp with h1 | h1
  ·rcases f p h1 with h2 | h2
   ·exact .inl h2
   ·exact .inr (by simp [h2])
  ·exact .inr (by simp [h1])
 ·rcases List.mem_append.1 hp with h1 | h1
  ·exact ⟨g.le p (a p h1).1, (a p h1).2⟩
  ·exact ⟨(a2 p h1).1, by have := (a2 p h1).2; rw [h.len] at this; exact this⟩
theorem kw_set {kn : List Bool} {p : Nat} (hp : p < kn.length) (q : Nat) : kw (kn.set p true) q = (decide (q = p) || kw kn q) := by
 unfold kw
 rw [List.getD_eq_getElem?_getD, List.getElem?_set, List.getD_eq_getElem?_getD]
 by_cases e : p = q
 ·subst e; simp [hp]
 ·simp [e, Ne.symm e]
theorem kw_lt {kn : List Bool} {p : Nat} (h : kw kn p = true) : p < kn.length := by
 unfold kw at h
 rw [List.getD_eq_getElem?_getD] at h
 by_cases e : p < kn.length
 ·exact e
 ·rw [List.getElem?_eq_none (by omega)] at h
  cases h
theorem count_set {kn : List Bool} : ∀ {p : Nat}, p < kn.length → kw kn p = false → (kn.set p true).count false + 1 = kn.count false := by
 induction kn with
 | nil => intro p hp; simp at hp
 | cons a kn ih =>
  intro p hp hf
  cases p with
  | zero =>
   have : a = false := by simpa [kw] using hf
   subst this
   simp
  | succ p =>
   have := ih (p := p) (by simpa using hp) (by simpa [kw] using hf)
   rw [List.set_cons_succ, List.count_cons, List.count_cons]
   omega
theorem lrn_ext (s : FSt) (k : List Int) : FExt s (lrn s k) := by
 unfold lrn
 cases hp : pk k with
 | none => exact FExt.refl s
 | some p =>
  dsimp only
  by_cases h : p < s.1.length ∧ kw s.1 p = false
  ·rw [if_pos h]
   refine ⟨by simp, fun q hq => by rw [kw_set h.1, hq]; simp, ⟨[p], rfl, fun q hq => ?_, fun q hq => ?_⟩, ?_⟩
   ·rw [kw_set h.1] at hq
    rcases Bool.or_eq_true _ _ ▸ hq with e | e
    ·exact .inr (by simpa using e)
    ·exact .inl e
   ·rw [List.mem_singleton] at hq
    subst hq
    exact ⟨by rw [kw_set h.1]; simp, h.1⟩
   ·show (s.1.set p true).count false + (s.2 ++ [p]).length = s.1.count false + s.2.length
    have := count_set h.1 h.2
    simp
    omega
  ·rw [if_neg h]
   exact FExt.refl s
theorem lrn_has {s : FSt} {k : List Int} {p : Nat} (hk : pk k = some p) (hp : p < s.1.length) : kw (lrn s k).1 p = true := by
 unfold lrn
 rw [hk]
 dsimp only
 by_cases h : kw s.1 p = false
 ·rw [if_pos ⟨hp, h⟩]
  rw [kw_set hp]
  simp
 ·rw [if_neg (fun c => h c.2)]
  simpa using h
theorem foldl_ext {α : Type} {f : FSt → α → FSt} (hf : ∀ s a, FExt s (f s a)) : ∀ (l : List α) (s : FSt), FExt s (l.foldl f s)
 | [], s => FExt.refl s
 | a :: l, s => (hf s a).trans (foldl_ext hf l (f s a))
theorem foldl_at {α : Type} {f : FSt → α → FSt} (hf : ∀ s a, FExt s (f s a)) : ∀ {l : List α} {a : α} (s : FSt), a ∈ l → ∃ t, FExt s t ∧ FExt (f t a) (l.foldl f s)
 | b :: l, a, s, h => by
  rcases List.mem_cons.1 h with rfl | h
  ·exact ⟨s, FExt.refl s, foldl_ext hf l _⟩
  ·obtain ⟨t, h1, h2⟩ := foldl_at hf (f s b) h
   exact ⟨t, (hf s b).trans h1, h2⟩
theorem tryS_ext (T : List TermD) (s : FSt) (i : Nat) : FExt s (tryS T s i) := by
 unfold tryS
 split
 ·exact lrn_ext _ _
 ·exact FExt.refl s
theorem opnS_ext (T : List TermD) (s : FSt) (i : Nat) : FExt s (opnS T s i) := by
 unfold opnS
 split
 ·exact foldl_ext lrn_ext _ _
 ·exact FExt.refl s
theorem step_ext (T : List TermD) (s : FSt) (u : Nat) : FExt s (opnS T (tryS T s u) u) := (tryS_ext T s u).trans (opnS_ext T _ u)
theorem useS_ext (T : List TermD) (s : FSt) (i : Nat) : FExt s (useS T s i) := by
 unfold useS
 dsimp only
 have h := (opnS_ext T s i).trans (foldl_ext (step_ext T) (usersF (nmL i) 0 T) _)
 split
 ·exact h.trans (foldl_ext (tryS_ext T) _ _)
 ·exact h
def kle (a b : List Bool) : Prop := ∀ p, kw a p = true → kw b p = true
theorem fol_mono {a b : List Bool} (h : kle a b) {k : List Int} (hk : fol a k = true) : fol b k = true := by
 unfold fol at *
 split <;> rename_i he <;> rw [he] at hk
 exact h _ hk
theorem pubK_mono {T : List TermD} {a b : List Bool} (h : kle a b) {k : List Int} (hk : pubK T a k = true) : pubK T b k = true := by
 unfold pubK at *
 split <;> rename_i he <;> rw [he] at hk
 ·cases hk
 ·exact h _ hk
theorem agrS_mono {T : List TermD} {a b : List Bool} (h : kle a b) {k l : List Int} (hk : agrS T a k l = true) : agrS T b k l = true := by
 unfold agrS at *
 simp only [Bool.and_eq_true, Bool.or_eq_true] at *
 exact ⟨fol_mono h hk.1, hk.2.elim (fun e => .inl (fol_mono h e)) (fun e => .inr (pubK_mono h e))⟩
theorem mks_mono {T : List TermD} {a b : List Bool} (h : kle a b) {x : TermD} (hk : mks T a x = true) : mks T b x = true := by
 unfold mks at *
 split <;> rename_i he
 ·rw [if_pos he] at hk
  exact List.all_eq_true.2 fun k hm => fol_mono h (List.all_eq_true.1 hk k hm)
 ·rw [if_neg he] at hk
  split <;> rename_i h4
  ·rw [if_pos h4] at hk
   simp only [Bool.or_eq_true] at *
   exact hk.elim (fun e => .inl (agrS_mono h e)) (fun e => .inr (agrS_mono h e))
  ·rw [if_neg h4] at hk
   cases hk
theorem users_lt {k : List Int} : ∀ {T : List TermD} {n u : Nat}, u ∈ usersF k n T → u < n + T.length
 | [], n, u, h => by simp [usersF] at h
 | x :: T, n, u, h => by
  unfold usersF at h
  rcases List.mem_append.1 h with h | h
  ·obtain ⟨_, _, rfl⟩ := List.mem_map.1 h
   simp
  ·have := users_lt h
   simp
   omega
theorem zero_le (n : Nat) (C : List Bool) : kle (List.replicate n false) C := fun p hp => by
 unfold kw at hp
 rw [List.getD_eq_getElem?_getD, List.getElem?_replicate] at hp
 split at hp <;> cases hp
theorem pass_len (T : List TermD) (seen : List (List Int)) : (passS T seen).1.length = T.length := by
 unfold passS seedS
 rw [(foldl_ext (tryS_ext T) _ _).len, (foldl_ext lrn_ext _ _).len]
 simp
def FDone (s : FSt) (D : List Bool) : Prop := ∀ p, kw D p = true ↔ kw s.1 p = true ∧ p ∉ s.2
structure FInv (T : List TermD) (s : FSt) : Prop where
 len : s.1.length = T.length
 wait : ∀ p ∈ s.2, kw s.1 p = true
 cons : ∀ D, FDone s D → (∀ i, i < T.length → mks T D (trm T i) = true → kw s.1 i = true) ∧ (∀ i, i < T.length → (trm T i).kind = 6 → kw D i = true → fol D (k0 (trm T i)) = true → ∀ k ∈ (trm T i).keys.drop 2, ∀ p, pk k = some p → p < T.length → kw s.1 p = true)
theorem trm_of {T : List TermD} {i : Nat} {x : TermD} (h : T[i]? = some x) : trm T i = x := by
 unfold trm
 rw [List.getD_eq_getElem?_getD, h]
 rfl
structure TWf (T : List TermD) : Prop where
 wf : ∀ x ∈ T, x.Wf
 len : T.length ≤ 1000000
 two : ∀ x ∈ T, x.kind = 4 → ∃ a b, x.keys = [a, b] ∧ TermD.Wf ⟨3, ⟨#[]⟩, [a]⟩ ∧ TermD.Wf ⟨3, ⟨#[]⟩, [b]⟩
theorem tryS_has {T : List TermD} (hm : T.length ≤ 1000000) {s : FSt} (hn : s.1.length = T.length) {i : Nat} (hi : i < T.length) (h : mks T s.1 (trm T i) = true) : kw (tryS T s i).1 i = true := by
 unfold tryS
 by_cases hk : kw s.1 i = false
 ·rw [if_pos ⟨hk, h⟩]
  exact lrn_has (pk_nm (by omega)) (by omega)
 ·rw [if_neg (fun c => hk c.1)]
  simpa using hk
theorem inv_pass {T : List TermD} (hT : TWf T) (seen : List (List Int)) : FInv T (passS T seen) ∧ muF (passS T seen) = T.length := by
 have hx : FExt (List.replicate T.length false, []) (passS T seen) := by
  unfold passS seedS
  exact (foldl_ext lrn_ext _ _).trans (foldl_ext (tryS_ext T) _ _)
 obtain ⟨L, hL1, hL2, hL3⟩ := hx.new
 have hno : ∀ p, kw (List.replicate T.length false) p = true → False := fun p hp => by
  have := zero_le T.length (List.replicate 0 false) p hp
  have := kw_lt this
  simp at this
 refine ⟨⟨pass_len T seen, fun p hp => ?_, fun D hD => ⟨fun i hi hmk => ?_, fun i hi h6 hd => ?_⟩⟩, ?_⟩
 ·rw [hL1] at hp
  exact (hL3 p (by simpa using hp)).1
 ·have hDe : ∀ p, kw D p = true → False := fun p hp => by
   obtain ⟨a, b⟩ := (hD p).1 hp
   rw [hL1] at b
   rcases hL2 p a with e | e
   ·exact hno p e
   ·exact b (by simpa using e)
  unfold passS
  obtain ⟨t, h1, h2⟩ := foldl_at (tryS_ext T) (seedS T.length seen) (List.mem_range.2 hi)
  refine h2.le i (tryS_has hT.len ?_ hi (mks_mono (fun p hp => (hDe p hp).elim) hmk))
  rw [h1.len]
  unfold seedS
  rw [(foldl_ext lrn_ext _ _).len]
  simp
 ·exfalso
  obtain ⟨a, b⟩ := (hD i).1 hd
  rw [hL1] at b
  rcases hL2 i a with e | e
  ·exact hno i e
  ·exact b (by simpa using e)
 ·rw [hx.mu]
  show (List.replicate T.length false).count false + 0 = _
  rw [List.count_replicate_self]
  rfl
theorem last_split {l : List Nat} {i : Nat} (h : l.getLast? = some i) : l = l.dropLast ++ [i] := by
 have hne : l ≠ [] := fun e => by rw [e] at h; cases h
 rw [List.getLast?_eq_some_getLast hne] at h
 cases h
 exact (List.dropLast_concat_getLast hne).symm
theorem runS_ext1 (T : List TermD) : ∀ (f : Nat) (s : FSt), (runS T f s).1.length = s.1.length ∧ kle s.1 (runS T f s).1
 | 0, s => ⟨rfl, fun _ h => h⟩
 | f + 1, s => by
  unfold runS
  split
  ·exact ⟨rfl, fun _ h => h⟩
  ·rename_i i e
   have h := runS_ext1 T f (useS T (s.1, s.2.dropLast) i)
   have hx := useS_ext T (s.1, s.2.dropLast) i
   exact ⟨h.1.trans hx.len, fun p hp => h.2 p (hx.le p hp)⟩
theorem fol_len (T : List TermD) (seen : List (List Int)) : (folL T seen).length = T.length := ((runS_ext1 T _ _).1).trans (pass_len T seen)
end
section
def bsC (l : List Bool) : List Value := l.map .bool
def tdC (l : List Nat) : List Value := l.map fun p => .int .i64 (p : Nat)
def Tdo (H : AH) (v : Value) (td : List Nat) (Fd : List Nat) : Prop :=
 (v = .slice none 0 0 ∧ td = [] ∧ Fd = []) ∨ ∃ j cs, Fd = [j] ∧ v = .slice (some ⟨j, 0, none⟩) td.length td.length ∧ hget H j = some ⟨cs, 3, some 1⟩ ∧ tdC td <+: cs
theorem Tdo.low {H G : AH} {v : Value} {td Fd : List Nat} (h : Tdo H v td Fd) (hl : ∀ j ∈ Fd, hget G j = hget H j) : Tdo G v td Fd := by
 rcases h with h | ⟨j, cs, rfl, h2, h3, h4⟩
 ·exact .inl h
 ·exact .inr ⟨j, cs, rfl, h2, (hl j (by simp)).trans h3, h4⟩
theorem Tdo.nt {H : AH} {v : Value} {td Fd : List Nat} (h : Tdo H v td Fd) : notTuple v = true ∧ v.cells = #[v] ∧ (∀ j ∈ Fd, j < H.length) ∧ xlen Tryd.prog 29 v = some (.int .i64 (td.length : Nat)) := by
 have hu : und Tryd.prog 29 = .slice 3 := by kernel_rfl
 rcases h with ⟨rfl, rfl, rfl⟩ | ⟨j, cs, rfl, rfl, h3, h4⟩
 ·refine ⟨rfl, rfl, by simp, ?_⟩
  unfold xlen
  simp only [hu]
  rfl
 ·refine ⟨rfl, rfl, fun i hi => ?_, ?_⟩
  ·rw [List.mem_singleton.1 hi]; exact hget_lt h3
  ·unfold xlen
   simp only [hu]
theorem tdC_len (l : List Nat) : (tdC l).length = l.length := by simp [tdC]
theorem bsC_get {l : List Bool} {p : Nat} {b : Bool} (h : l[p]? = some b) : (bsC l)[p]? = some (.bool b) := by simp [bsC, h]
theorem kw_get {l : List Bool} {p : Nat} (h : p < l.length) : l[p]? = some (kw l p) := by
 unfold kw
 rw [List.getD_eq_getElem?_getD, List.getElem?_eq_getElem h]
 rfl
theorem bsC_set (l : List Bool) (p : Nat) : setR (bsC l) p [.bool true] = bsC (l.set p true) := by
 unfold bsC
 rw [setR_one, List.map_set]
theorem tdo_push {nro : Nat} {H : AH} {v : Value} {td Fd : List Nat} (h : Tdo H v td Fd) (hnro : ∀ j ∈ Fd, nro ≤ j) (p : Nat) (hm : td.length ≤ 10000000000000) :
  ∃ v' G, xappend Tryd.prog nro 29 v (.slice (some ⟨H.length, 0, none⟩) 1 1) (H ++ [some ⟨[.int .i64 (p : Nat)], 3, some 1⟩]) = some (v', G) ∧ Tdo G v' (td ++ [p]) [H.length + 1] ∧ notTuple v' = true ∧ v'.cells = #[v'] ∧ G.length = H.length + 2 ∧ ∀ j, j < H.length → j ∉ Fd → hget G j = hget H j := by
 have hu : und Tryd.prog 29 = .slice 3 := by kernel_rfl
 have hs : szt Tryd.prog 3 = 1 := by kernel_rfl
 have hz : (zer Tryd.prog 3).map (·.cells.size) = some 1 := by kernel_rfl
 have hby : byt Tryd.prog 3 = 8 := by kernel_rfl
 have hx : xcells 1 (.slice (some ⟨H.length, 0, none⟩) 1 1) (H ++ [some ⟨[.int .i64 (p : Nat)], 3, some 1⟩]) = some [.int .i64 (p : Nat)] := by
  unfold xcells
  simp only [hget_app0]
  rfl
 have htd : tdC (td ++ [p]) = tdC td ++ [.int .i64 (p : Nat)] := by simp [tdC]
 have hl1 : (H ++ [some (⟨[.int .i64 (p : Nat)], 3, some 1⟩ : Blk)]).length = H.length + 1 := by simp
 rcases h with ⟨rfl, rfl, rfl⟩ | ⟨j, cs, rfl, rfl, h3, h4⟩
 ·refine ⟨.slice (some ⟨H.length + 1, 0, none⟩) 1 1, (H ++ [some ⟨[.int .i64 (p : Nat)], 3, some 1⟩]) ++ [some ⟨[.int .i64 (p : Nat)], 3, some 1⟩], ?_, .inr ⟨H.length + 1, _, rfl, rfl, ?_, List.prefix_rfl⟩, rfl, rfl, by simp, fun j hj _ => by rw [hget_left (by rw [hl1]; omega), hget_left hj]⟩
  ·unfold xappend
   simp only [hu, hs, hx]
   rw [if_pos ⟨by omega, hz, by rw [hby]; simp, by simp [maxLen]⟩, if_neg (by simp)]
   simp
  ·rw [← hl1, hget_app0]
   rfl
 ·have hj := hget_lt h3
  have hpl := h4.length_le
  rw [tdC_len] at hpl
  have hpt : cs.take td.length = tdC td := by
   obtain ⟨r, rfl⟩ := h4
   rw [← tdC_len td]; simp
  have h3' : hget (H ++ [some ⟨[.int .i64 (p : Nat)], 3, some 1⟩]) j = some ⟨cs, 3, some 1⟩ := (hget_left hj).trans h3
  refine ⟨.slice (some ⟨H.length + 1, 0, none⟩) (td.length + 1) (td.length + 1), (H ++ [some (⟨[.int .i64 (p : Nat)], 3, some 1⟩ : Blk)]).set j none ++ [some ⟨tdC td ++ [.int .i64 (p : Nat)], 3, some 1⟩], ?_, .inr ⟨H.length + 1, _, rfl, by simp, ?_, by rw [htd]; exact List.prefix_rfl⟩, rfl, rfl, by simp, fun i hi hn => ?_⟩
  ·have hc : True ∧ 0 < 1 ∧ (zer Tryd.prog 3).map (·.cells.size) = some 1 ∧ nro ≤ j ∧ True ∧ True ∧ td.length * 1 ≤ cs.length ∧ (td.length * 1 + [Value.int .i64 (p : Nat)].length) * byt Tryd.prog 3 ≤ 140737488355328 ∧ td.length * 1 + [Value.int .i64 (p : Nat)].length ≤ maxLen :=
    ⟨trivial, by omega, hz, hnro j (by simp), trivial, trivial, by omega, by rw [hby]; simp; omega, by simp [maxLen]; omega⟩
   unfold xappend
   simp only [hu, hs, hx, h3']
   rw [if_pos hc, Nat.mul_one, hpt]
   simp
  ·rw [show H.length + 1 = ((H ++ [some (⟨[.int .i64 (p : Nat)], 3, some 1⟩ : Blk)]).set j none).length by simp, hget_app0]
   rfl
  ·rw [hget_left (by simp; omega), hget_set_ne (fun e => hn (by simp [e])), hget_left hi]
def SrD (H : AH) (n sb kb mb ub : Nat) (tv : Value) (F : List Nat) (s : FSt) : Prop :=
 ∃ tdv Fd, F = sb :: kb :: Fd ∧ hget H sb = some ⟨[tv, .map (some mb), .map (some ub), .slice (some ⟨kb, 0, none⟩) n n, tdv], 77, none⟩ ∧ hget H kb = some ⟨bsC s.1, 4, some 1⟩ ∧ s.1.length = n ∧ Tdo H tdv s.2 Fd ∧ sb ≠ kb ∧ sb ∉ Fd ∧ kb ∉ Fd ∧ muF s ≤ 1000000
def SrQ (H : AH) (n sb kb mb ub : Nat) (tv : Value) (F : List Nat) (s : FSt) (v' : Value) (H' : AH) : Prop :=
 v' = .tuple #[] ∧ H.length ≤ H'.length ∧ (∀ j, j < H.length → j ∉ F → hget H' j = hget H j) ∧ ∃ F', SrD H' n sb kb mb ub tv F' s ∧ ∀ j ∈ F', j ∈ F ∨ H.length ≤ j
theorem SrD.bound {H : AH} {n sb kb mb ub : Nat} {tv : Value} {F : List Nat} {s : FSt} (h : SrD H n sb kb mb ub tv F s) : ∀ j ∈ F, j < H.length := by
 obtain ⟨tdv, Fd, rfl, h1, h2, _, h4, _⟩ := h
 intro j hj
 simp only [List.mem_cons] at hj
 rcases hj with rfl | rfl | hj
 ·exact hget_lt h1
 ·exact hget_lt h2
 ·exact h4.nt.2.2.1 j hj
theorem SrD.low {H G : AH} {n sb kb mb ub : Nat} {tv : Value} {F : List Nat} {s : FSt} (h : SrD H n sb kb mb ub tv F s) (hl : ∀ j ∈ F, hget G j = hget H j) : SrD G n sb kb mb ub tv F s := by
 obtain ⟨tdv, Fd, rfl, h1, h2, h3, h4, h5⟩ := h
 exact ⟨tdv, Fd, rfl, (hl sb (by simp)).trans h1, (hl kb (by simp)).trans h2, h3, h4.low (fun j hj => hl j (by simp [hj])), h5⟩
theorem SrD.same {H G : AH} {n sb kb mb ub : Nat} {tv : Value} {F : List Nat} {s : FSt} (h : SrD H n sb kb mb ub tv F s) (lw : Low H.length H G) : SrQ H n sb kb mb ub tv F s (.tuple #[]) G :=
 ⟨rfl, lw.2, fun j hj _ => lw.1 j hj, F, h.low (fun j hj => lw.1 j (h.bound j hj)), fun j hj => .inl hj⟩
theorem pk_cases (k : List Int) (hb : By k) (hk : k.length = 32) : ∃ p : Nat, plN k = (p : Int) ∧ ((decide (nmL (plN k) = k) = false ∧ pk k = none) ∨ (decide (nmL (plN k) = k) = true ∧ pk k = some p)) := by
 have h0 : 0 ≤ plN k := by
  have b4 := hb.get 4
  have b5 := hb.get 5
  have b6 := hb.get 6
  have b7 := hb.get 7
  unfold plN
  omega
 obtain ⟨p, hp⟩ := Int.eq_ofNat_of_zero_le h0
 refine ⟨p, hp, ?_⟩
 unfold pk
 by_cases e : nmL (plN k) = k
 ·exact .inr ⟨by simp [e], by rw [if_pos e, hp]; rfl⟩
 ·exact .inl ⟨by simp [e], by rw [if_neg e]⟩
theorem pl_bound {k : List Int} (hb : By k) : plN k < 4294967296 := by
 have b4 := hb.get 4
 have b5 := hb.get 5
 have b6 := hb.get 6
 have b7 := hb.get 7
 unfold plN
 omega
attribute [local simp] wb_bool wb_undef with_lit XL_nil XL_cons XLc_val XLc_call step1_eq stepW_t stepW_f stepC_n stepC_s stepX_s stepX_n stepN_s calleeX xrecv oneV xop_eq xopR_s xopR_n wantedA_eq wantedG_n wantedG_s plain1_int plain1_bool plain1_string bits_i64 bits_u64 bits_u32 bits_u16 bits_u8 xeqA xagg xcmp xarr allK_iv num_iv calleeOf xread xeff xbin xint xnil xun xstr xload xconv xpart xfield xfieldAddr xindexAddr xindex bnd asInt? xslice xlen xmin xmax xbuild xfill xappend xapp2 xappstr xappmk xcap xcopy xcells eval_tmp eval_const put_at put_none fr0_at cells_agg cells_int cells_bool cells_string cells_ptr cells_slice notTuple tab iv_all hget_app hget_app0 hget_cons0 hget_cons set_app set_app0 setR setR_one QL_nil QL_cons QLc_val stepQ_t stepQ_f stepQC_n stepQC_s stepQX_s SL_nil SL_cons SLc_val stepS_t stepS_f ltT ltF leT leF eqT eqF ltTn ltFn leTn leFn eqTn eqFn beqT beqF bneT bneF wi64 wu64 wu32 wu16 wu8 tmodP tdivP hgetL hgetNe hgetEq setL nums_def nums_len Nat.succ_le_of_lt List.getElem?_cons_zero List.getElem?_cons_succ Option.getD_some Int.toNat_add Int.toNat_mul agM okM agB agI agS agP agL agA okB okI okS okP okSl okA
theorem follows_rc {γ : Nat → Option Nat} {H : AH} {kb n : Nat} {kn : List Bool} (hg : hget H kb = some ⟨bsC kn, 4, some 1⟩) (hl : kn.length = n) (hn : n ≤ 1000000) {k : List Int} (hk : k.length = 32) (hb : By k) :
  AC Tryd.prog H.length γ 38 #[.slice (some ⟨kb, 0, none⟩) n n, .agg (iv .u8 k).toArray] H (fun v' _ => v' = .bool (fol kn k)) := by
 have htk : (iv .u8 k).take 32 = iv .u8 k := List.take_of_length_le (by simp [hk])
 have hpl := fun (G : AH) => place_rc (γ := γ) (H := G) hk hb
 have hbd := pl_bound hb
 have hgl := hget_lt hg
 have hbl : (bsC kn).length = n := by simp [bsC, hl]
 obtain ⟨p, hp, hc⟩ := pk_cases k hb hk
 unfold fol
 generalize decide (nmL (plN k) = k) = ok at *
 generalize plN k = pz at *
 subst hp
 rcases hc with ⟨rfl, hc⟩ | ⟨rfl, hc⟩
 ·rw [hc]
  refine ac_of_aw Tryd.func38 rfl Tryd.ntmps38 Tryd.results38 (by simp) ?_
  refine aw_seq ?_
  (refine aw_ops (by kernel_rfl) (fun K hK => ?_); simp (disch := first | omega | (simp only [lnS]; try omega)) [-getElem?_pos, -getElem?_neg, htk]; refine hK _ _ ?_; clear hK K)
  refine aw_seq ?_
  refine aw_ops (by kernel_rfl) (fun K hK => ?_)
  simp (disch := first | omega | (simp only [lnS]; try omega)) [-getElem?_pos, -getElem?_neg, htk]
  refine ⟨by kernel_rfl, ac_of_rc (hpl _) (by simp [pv_iv, pv_int, pv_bool, pv_string, pv_tup2, pv_tup3, iv_plain, p2_int, p2_bool, p2_string]) ?_⟩
  try simp (disch := first | omega | (simp only [lnS]; try omega)) [-getElem?_pos, -getElem?_neg]
  refine hK _ _ ?_; clear hK K
  refine aw_seq ?_
  (refine aw_ops (by kernel_rfl) (fun K hK => ?_); simp (disch := first | omega | (simp only [lnS]; try omega)) [-getElem?_pos, -getElem?_neg]; refine hK _ _ ?_; clear hK K)
  (refine aw_ret ?_; simp (disch := first | omega | (simp only [lnS]; try omega)) [-getElem?_pos, -getElem?_neg, thenQ_ret, scopeQ_ret, inBlockQ_ret, RQ, resL, resV])
 ·rw [hc]
  by_cases hlt : p < n
  ·have hcell : (bsC kn)[p]? = some (.bool (kw kn p)) := bsC_get (kw_get (by omega))
   dsimp only
   generalize kw kn p = b at *
   refine ac_of_aw Tryd.func38 rfl Tryd.ntmps38 Tryd.results38 (by simp) ?_
   refine aw_seq ?_
   (refine aw_ops (by kernel_rfl) (fun K hK => ?_); simp (disch := first | omega | (simp only [lnS]; try omega)) [-getElem?_pos, -getElem?_neg, htk]; refine hK _ _ ?_; clear hK K)
   refine aw_seq ?_
   refine aw_ops (by kernel_rfl) (fun K hK => ?_)
   simp (disch := first | omega | (simp only [lnS]; try omega)) [-getElem?_pos, -getElem?_neg, htk]
   refine ⟨by kernel_rfl, ac_of_rc (hpl _) (by simp [pv_iv, pv_int, pv_bool, pv_string, pv_tup2, pv_tup3, iv_plain, p2_int, p2_bool, p2_string]) ?_⟩
   try simp (disch := first | omega | (simp only [lnS]; try omega)) [-getElem?_pos, -getElem?_neg]
   refine hK _ _ ?_; clear hK K
   refine aw_seq ?_
   (refine aw_ops (by kernel_rfl) (fun K hK => ?_); simp (disch := first | omega | (simp only [lnS]; try omega)) [-getElem?_pos, -getElem?_neg, hlt, hg, hbl, hcell]; refine hK _ _ ?_; clear hK K)
   (refine aw_ret ?_; simp (disch := first | omega | (simp only [lnS]; try omega)) [-getElem?_pos, -getElem?_neg, thenQ_ret, scopeQ_ret, inBlockQ_ret, RQ, resL, resV])
  ·have hf : kw kn p = false := by
    cases h : kw kn p with
    | false => rfl
    | true => have := kw_lt h; omega
   dsimp only
   rw [hf]
   refine ac_of_aw Tryd.func38 rfl Tryd.ntmps38 Tryd.results38 (by simp) ?_
   refine aw_seq ?_
   (refine aw_ops (by kernel_rfl) (fun K hK => ?_); simp (disch := first | omega | (simp only [lnS]; try omega)) [-getElem?_pos, -getElem?_neg, htk]; refine hK _ _ ?_; clear hK K)
   refine aw_seq ?_
   refine aw_ops (by kernel_rfl) (fun K hK => ?_)
   simp (disch := first | omega | (simp only [lnS]; try omega)) [-getElem?_pos, -getElem?_neg, htk]
   refine ⟨by kernel_rfl, ac_of_rc (hpl _) (by simp [pv_iv, pv_int, pv_bool, pv_string, pv_tup2, pv_tup3, iv_plain, p2_int, p2_bool, p2_string]) ?_⟩
   try simp (disch := first | omega | (simp only [lnS]; try omega)) [-getElem?_pos, -getElem?_neg]
   refine hK _ _ ?_; clear hK K
   refine aw_seq ?_
   (refine aw_ops (by kernel_rfl) (fun K hK => ?_); simp (disch := first | omega | (simp only [lnS]; try omega)) [-getElem?_pos, -getElem?_neg, hlt, hg, hbl]; refine hK _ _ ?_; clear hK K)
   (refine aw_ret ?_; simp (disch := first | omega | (simp only [lnS]; try omega)) [-getElem?_pos, -getElem?_neg, thenQ_ret, scopeQ_ret, inBlockQ_ret, RQ, resL, resV])
theorem learn_ac {nro : Nat} {γ : Nat → Option Nat} {H : AH} {n sb kb mb ub : Nat} {tv : Value} {F : List Nat} {s : FSt} (h : SrD H n sb kb mb ub tv F s) (hnro : ∀ j ∈ F, nro ≤ j) (hnH : nro ≤ H.length) (hn : n ≤ 1000000) (htv : notTuple tv = true ∧ tv.cells = #[tv]) {k : List Int} (hk : k.length = 32) (hb : By k) :
  AC Tryd.prog nro γ 34 #[.pointer (some ⟨sb, 0, none⟩), .agg (iv .u8 k).toArray] H (SrQ H n sb kb mb ub tv F (lrn s k)) := by
 have hsame := fun (G : AH) (lw : Low H.length H G) => h.same lw
 have hmu := (lrn_ext s k).mu
 obtain ⟨tdv, Fd, rfl, hsb, hkb, hsl, htd, hne, hsF, hkF, hm⟩ := h
 have htk : (iv .u8 k).take 32 = iv .u8 k := List.take_of_length_le (by simp [hk])
 have hpl := fun (G : AH) => place_rc (γ := γ) (H := G) hk hb
 have hbd := pl_bound hb
 have hgs := hget_lt hsb
 have hgk := hget_lt hkb
 have hbl : (bsC s.1).length = n := by simp [bsC, hsl]
 have htn := htd.nt
 obtain ⟨p, hp, hc⟩ := pk_cases k hb hk
 unfold lrn
 generalize decide (nmL (plN k) = k) = ok at *
 generalize plN k = pz at *
 subst hp
 rcases hc with ⟨rfl, hc⟩ | ⟨rfl, hc⟩
 ·rw [hc]
  dsimp only
  refine ac_of_aw Tryd.func34 rfl Tryd.ntmps34 Tryd.results34 (by simp) ?_
  refine aw_seq ?_
  (refine aw_ops (by kernel_rfl) (fun K hK => ?_); simp (disch := first | omega | (simp only [lnS]; try omega)) [-getElem?_pos, -getElem?_neg, htk]; refine hK _ _ ?_; clear hK K)
  refine aw_seq ?_
  refine aw_ops (by kernel_rfl) (fun K hK => ?_)
  simp (disch := first | omega | (simp only [lnS]; try omega)) [-getElem?_pos, -getElem?_neg, htk]
  refine ⟨by kernel_rfl, ac_of_rc (hpl _) (by simp [pv_iv, pv_int, pv_bool, pv_string, pv_tup2, pv_tup3, iv_plain, p2_int, p2_bool, p2_string]) ?_⟩
  try simp (disch := first | omega | (simp only [lnS]; try omega)) [-getElem?_pos, -getElem?_neg]
  refine hK _ _ ?_; clear hK K
  refine aw_seq ?_
  (refine aw_ops (by kernel_rfl) (fun K hK => ?_); simp (disch := first | omega | (simp only [lnS]; try omega)) [-getElem?_pos, -getElem?_neg]; refine hK _ _ ?_; clear hK K)
  refine aw_f (by (first | (simp [eval_tmp, put_at]; done) | (simp [eval_tmp, put_at]; omega))) (by kernel_rfl) ?_
  refine aw_skip ?_
  exact ⟨[], _, rfl, rfl, hsame _ (Low.push (Nat.le_refl _) _)⟩
 ·rw [hc]
  dsimp only
  by_cases hlt : p < n
  ·have hcell : (bsC s.1)[p]? = some (.bool (kw s.1 p)) := bsC_get (kw_get (by omega))
   by_cases hkw : ¬ kw s.1 p = false
   ·have hkt : kw s.1 p = true := by simpa using hkw
    rw [hkt] at hcell
    rw [if_neg (fun c => hkw c.2)]
    refine ac_of_aw Tryd.func34 rfl Tryd.ntmps34 Tryd.results34 (by simp) ?_
    refine aw_seq ?_
    (refine aw_ops (by kernel_rfl) (fun K hK => ?_); simp (disch := first | omega | (simp only [lnS]; try omega)) [-getElem?_pos, -getElem?_neg, htk]; refine hK _ _ ?_; clear hK K)
    refine aw_seq ?_
    refine aw_ops (by kernel_rfl) (fun K hK => ?_)
    simp (disch := first | omega | (simp only [lnS]; try omega)) [-getElem?_pos, -getElem?_neg, htk]
    refine ⟨by kernel_rfl, ac_of_rc (hpl _) (by simp [pv_iv, pv_int, pv_bool, pv_string, pv_tup2, pv_tup3, iv_plain, p2_int, p2_bool, p2_string]) ?_⟩
    try simp (disch := first | omega | (simp only [lnS]; try omega)) [-getElem?_pos, -getElem?_neg]
    refine hK _ _ ?_; clear hK K
    refine aw_seq ?_
    (refine aw_ops (by kernel_rfl) (fun K hK => ?_); simp (disch := first | omega | (simp only [lnS]; try omega)) [-getElem?_pos, -getElem?_neg, hlt, hsb, hgs, hkb, hgk, hbl, hcell, -notTuple, htv.1, htn.1, nt_slG]; refine hK _ _ ?_; clear hK K)
    refine aw_f (by (first | (simp [eval_tmp, put_at]; done) | (simp [eval_tmp, put_at]; omega))) (by kernel_rfl) ?_
    refine aw_skip ?_
    exact ⟨[], _, rfl, rfl, hsame _ (Low.push (Nat.le_refl _) _)⟩
   ·have hkw : kw s.1 p = false := by simpa using hkw
    rw [hkw] at hcell
    rw [if_pos ⟨by omega, hkw⟩]
    refine ac_of_aw Tryd.func34 rfl Tryd.ntmps34 Tryd.results34 (by simp) ?_
    refine aw_seq ?_
    (refine aw_ops (by kernel_rfl) (fun K hK => ?_); simp (disch := first | omega | (simp only [lnS]; try omega)) [-getElem?_pos, -getElem?_neg, htk]; refine hK _ _ ?_; clear hK K)
    refine aw_seq ?_
    refine aw_ops (by kernel_rfl) (fun K hK => ?_)
    simp (disch := first | omega | (simp only [lnS]; try omega)) [-getElem?_pos, -getElem?_neg, htk]
    refine ⟨by kernel_rfl, ac_of_rc (hpl _) (by simp [pv_iv, pv_int, pv_bool, pv_string, pv_tup2, pv_tup3, iv_plain, p2_int, p2_bool, p2_string]) ?_⟩
    try simp (disch := first | omega | (simp only [lnS]; try omega)) [-getElem?_pos, -getElem?_neg]
    refine hK _ _ ?_; clear hK K
    refine aw_seq ?_
    (refine aw_ops (by kernel_rfl) (fun K hK => ?_); simp (disch := first | omega | (simp only [lnS]; try omega)) [-getElem?_pos, -getElem?_neg, hlt, hsb, hgs, hkb, hgk, hbl, hcell, -notTuple, htv.1, htn.1, nt_slG]; refine hK _ _ ?_; clear hK K)
    refine aw_t (by (first | (simp [eval_tmp, put_at]; done) | (simp [eval_tmp, put_at]; omega))) (by kernel_rfl) ?_
    refine aw_seq ?_
    have hnk : nro ≤ kb := hnro kb (by simp)
    (refine aw_ops (by kernel_rfl) (fun K hK => ?_); simp (disch := first | omega | (simp only [lnS]; try omega)) [-getElem?_pos, -getElem?_neg, hlt, hsb, hgs, hkb, hgk, hbl, hcell, -notTuple, htv.1, htn.1, nt_slG, nt_boolG]; refine hK _ _ ?_; clear hK K)
    obtain ⟨G, hG⟩ : ∃ G : AH, G = List.set H kb (some ⟨(bsC s.1).set p (.bool true), 4, some 1⟩) ++ [some (⟨iv .u8 k, 28, none⟩ : Blk)] := ⟨_, rfl⟩
    have hGl : G.length = H.length + 1 := by rw [hG]; simp
    have hGs : hget G sb = some ⟨[tv, .map (some mb), .map (some ub), .slice (some ⟨kb, 0, none⟩) n n, tdv], 77, none⟩ := by rw [hG, hget_left (by simp; omega), hget_set_ne (Ne.symm hne)]; exact hsb
    have hGk : hget G kb = some ⟨bsC (s.1.set p true), 4, some 1⟩ := by rw [hG, hget_left (by simp; omega), hget_set_eq hgk, ← setR_one, bsC_set]
    have hGj : ∀ j, j < H.length → j ≠ kb → hget G j = hget H j := fun j hj hn => by rw [hG, hget_left (by simp; omega), hget_set_ne (Ne.symm hn)]
    have hGt : Tdo G tdv s.2 Fd := htd.low (fun j hj => hGj j (htn.2.2.1 j hj) (fun e => hkF (e ▸ hj)))
    have hmt : s.2.length ≤ 1000000 := by unfold muF at hm; omega
    obtain ⟨v', G2, hap, ht2, hn2, hc2, hl2, hk2⟩ := tdo_push (nro := nro) hGt (fun j hj => hnro j (by simp [hj])) p (by omega)
    have hgs2 : G.length = H.length + 1 := hGl
    have h2s : hget G2 sb = some ⟨[tv, .map (some mb), .map (some ub), .slice (some ⟨kb, 0, none⟩) n n, tdv], 77, none⟩ := (hk2 sb (by omega) hsF).trans hGs
    have h2k := (hk2 kb (by omega) hkF).trans hGk
    have l2s := hget_lt h2s
    have hns : nro ≤ sb := hnro sb (by simp)
    have lGs := hget_lt hGs
    have r1 : List.range 1 = [0] := rfl
    rw [← hG]
    clear hG
    (refine aw_ops (by kernel_rfl) (fun K hK => ?_); simp (disch := first | omega | (simp only [lnS]; try omega)) [-getElem?_pos, -getElem?_neg, hGs, lGs, h2s, l2s, -notTuple, htv.1, htn.1, hn2, hc2, nt_slG, nt_boolG, nt_intG, -xappend, hap, r1]; refine hK _ _ ?_; clear hK K)
    have hns2 : sb < G2.length := l2s
    refine ⟨[], _, rfl, rfl, rfl, by simp; omega, fun j hj hn => ?_, sb :: kb :: [G.length + 1], ⟨v', [G.length + 1], rfl, hget_set_eq l2s, ?_, by simp [hsl], ht2.low (fun j hj => ?_), hne, by simp; omega, by simp; omega, ?_⟩, fun j hj => ?_⟩
    ·simp only [List.mem_cons, not_or] at hn
     rw [hget_set_ne (Ne.symm hn.1), hk2 j (by omega) hn.2.2]
     exact hGj j hj hn.2.1
    ·rw [hget_set_ne hne]
     exact h2k
    ·rw [hget_set_ne (by rw [List.mem_singleton.1 hj]; omega)]
    ·have e : lrn s k = (s.1.set p true, s.2 ++ [p]) := by
      unfold lrn
      rw [hc]
      exact if_pos ⟨by omega, hkw⟩
     rw [e] at hmu
     exact Nat.le_trans (Nat.le_of_eq hmu) hm
    ·simp only [List.mem_cons, List.not_mem_nil, or_false] at hj ⊢
     rcases hj with h | h | h
     ·exact .inl (.inl h)
     ·exact .inl (.inr (.inl h))
     ·exact .inr (by omega)
  ·have hf : kw s.1 p = false := by
    cases h : kw s.1 p with
    | false => rfl
    | true => have := kw_lt h; omega
   rw [if_neg (fun c => by have := c.1; omega)]
   refine ac_of_aw Tryd.func34 rfl Tryd.ntmps34 Tryd.results34 (by simp) ?_
   refine aw_seq ?_
   (refine aw_ops (by kernel_rfl) (fun K hK => ?_); simp (disch := first | omega | (simp only [lnS]; try omega)) [-getElem?_pos, -getElem?_neg, htk]; refine hK _ _ ?_; clear hK K)
   refine aw_seq ?_
   refine aw_ops (by kernel_rfl) (fun K hK => ?_)
   simp (disch := first | omega | (simp only [lnS]; try omega)) [-getElem?_pos, -getElem?_neg, htk]
   refine ⟨by kernel_rfl, ac_of_rc (hpl _) (by simp [pv_iv, pv_int, pv_bool, pv_string, pv_tup2, pv_tup3, iv_plain, p2_int, p2_bool, p2_string]) ?_⟩
   try simp (disch := first | omega | (simp only [lnS]; try omega)) [-getElem?_pos, -getElem?_neg]
   refine hK _ _ ?_; clear hK K
   refine aw_seq ?_
   (refine aw_ops (by kernel_rfl) (fun K hK => ?_); simp (disch := first | omega | (simp only [lnS]; try omega)) [-getElem?_pos, -getElem?_neg, hlt, hsb, hgs, -notTuple, htv.1, htn.1, nt_slG]; refine hK _ _ ?_; clear hK K)
   refine aw_f (by (first | (simp [eval_tmp, put_at]; done) | (simp [eval_tmp, put_at]; omega))) (by kernel_rfl) ?_
   refine aw_skip ?_
   exact ⟨[], _, rfl, rfl, hsame _ (Low.push (Nat.le_refl _) _)⟩
end
end Go.Proofs.YtecjhpamfkfilaaDoor
