/-
  Operations and nodes as data: boxes, operations, nodes; how a value shows one.
  Two keys, compared: by the machine's own comparison of bytes, and by the reference.
  Members, orders; what rises.
  What rises.
  Slices that come in: their elements by their addresses.
  frame's Right, part by part.
  frame's Right.
  Marks: places of a graph as bits.
  Places of ids: the map; nodes by their addresses.
  looked: parents, past, seq.
  looked: past and seq.
  looked: seq; a node's own operation, loaded.
-/
import Derived.Test.YtdeccbjdhcifiaaKC
import Derived.Test.YtdeccbjdhcifiaaKB
import Derived.Test.YtdeccbjdhcifiaaTabK
import Derived.Laws.Externs
import Derived.Lib.BytesEntry
namespace Go.Proofs.Ytdeccbjdhcifiaa
open Go Go.RowKit
set_option linter.unusedSimpArgs false
set_option linter.unusedVariables false
set_option maxRecDepth 100000
set_option maxHeartbeats 4000000
section
abbrev ByI (l : List Int) : Prop := By l
def Key32 (k : List Int) : Prop := k.length = 32 ∧ ByI k
def I64 (z : Int) : Prop := -9223372036854775808 ≤ z ∧ z ≤ 9223372036854775807
def U32 (z : Int) : Prop := 0 ≤ z ∧ z ≤ 4294967295
theorem wf_i64 {z : Int} (h : (Lit.int .i64 z).wf = true) : I64 z := by
 simpa [I64, Lit.wf, IntKind.min, IntKind.max, IntKind.bits, IntKind.signed] using h
theorem wf_u32 {z : Int} (h : (Lit.int .u32 z).wf = true) : U32 z := by
 simpa [U32, Lit.wf, IntKind.min, IntKind.max, IntKind.bits, IntKind.signed] using h
theorem wf_u8 {z : Int} (h : (Lit.int .u8 z).wf = true) : 0 ≤ z ∧ z ≤ 255 := by
 simpa [Lit.wf, IntKind.min, IntKind.max, IntKind.bits, IntKind.signed] using h
structure BoxD where
 to : Int
 pub : List Int
 n : Int
 prev : Int
 body : ByteArray
structure OpD where
 author : Int
 seq : Int
 parents : List (List Int)
 kind : Int
 who : List Int
 of : List Int
 check : List Int
 text : ByteArray
 boxes : List BoxD
structure NodeD where
 id : List Int
 op : OpD
 past : List Int
def kd (k : List Int) : List CD := k.map (.int .u8)
def BoxD.row (b : BoxD) : List CD := [CD.int .i64 b.to] ++ (kd b.pub ++ [CD.int .u32 b.n, .int .u32 b.prev, .str b.body])
def OpD.row (o : OpD) : List CD := [CD.int .i64 o.author, .int .u32 o.seq, .sl (o.parents.map kd), .int .i64 o.kind, .sl (o.who.map fun z => [.int .i64 z])] ++ (kd o.of ++ (kd o.check ++ [.str o.text, .sl (o.boxes.map BoxD.row)]))
def NodeD.row (x : NodeD) : List CD := kd x.id ++ (x.op.row ++ [.sl (x.past.map fun z => [.int .i64 z])])
def keyK : List CK := List.replicate 32 (.int .u8)
def boxK : List CK := [CK.int .i64] ++ (keyK ++ [CK.int .u32, .int .u32, .str])
def opK : List CK := [CK.int .i64, .int .u32, .sl keyK, .int .i64, .sl [.int .i64]] ++ (keyK ++ (keyK ++ [CK.str, .sl boxK]))
structure BoxD.Wf (b : BoxD) : Prop where
 to : I64 b.to
 pub : Key32 b.pub
 n : U32 b.n
 prev : U32 b.prev
 body : b.body.size ≤ maxLen
structure OpD.Wf (o : OpD) : Prop where
 author : I64 o.author
 seq : U32 o.seq
 parents : ∀ k ∈ o.parents, Key32 k
 plen : o.parents.length ≤ maxLen
 kind : I64 o.kind
 who : ∀ z ∈ o.who, I64 z
 wlen : o.who.length ≤ maxLen
 of : Key32 o.of
 check : Key32 o.check
 text : o.text.size ≤ maxLen
 boxes : ∀ b ∈ o.boxes, b.Wf
 blen : o.boxes.length ≤ maxLen
structure NodeD.Wf (x : NodeD) : Prop where
 id : Key32 x.id
 op : x.op.Wf
 past : ∀ z ∈ x.past, I64 z
 plen : x.past.length ≤ maxLen
theorem key_of {ds : List CD} (h : OkL keyK ds) : ∃ k, ds = kd k ∧ Key32 k := by
 obtain ⟨zs, rfl, hl, hz⟩ := OkL.ints h
 exact ⟨zs, rfl, hl, fun z hm => wf_u8 (hz z hm)⟩
theorem box_of {ds : List CD} (h : OkL boxK ds) : ∃ b : BoxD, ds = b.row ∧ b.Wf := by
 obtain ⟨a, r, rfl, h1, h2⟩ := OkL.split h
 obtain ⟨d, r1, rfl, o1, n1⟩ := h1.cons
 obtain rfl := n1.nil
 obtain ⟨to, rfl, w1⟩ := ok_int o1
 obtain ⟨c, r2, rfl, h3, h4⟩ := OkL.split h2
 obtain ⟨k, rfl, hk⟩ := key_of h3
 obtain ⟨d, r3, rfl, o2, h5⟩ := h4.cons
 obtain ⟨n, rfl, w2⟩ := ok_int o2
 obtain ⟨d, r4, rfl, o3, h6⟩ := h5.cons
 obtain ⟨p, rfl, w3⟩ := ok_int o3
 obtain ⟨d, r5, rfl, o4, h7⟩ := h6.cons
 obtain ⟨s, rfl, w4⟩ := ok_str o4
 obtain rfl := h7.nil
 exact ⟨⟨to, k, n, p, s⟩, rfl, wf_i64 w1, hk, wf_u32 w2, wf_u32 w3, w4⟩
theorem op_of {ds : List CD} (h : OkL opK ds) : ∃ o : OpD, ds = o.row ∧ o.Wf := by
 obtain ⟨a, r, rfl, h1, h2⟩ := OkL.split h
 obtain ⟨d1, r11, rfl, o11, g1⟩ := h1.cons
 obtain ⟨au, rfl, w1⟩ := ok_int o11
 obtain ⟨d2, r12, rfl, o12, g2⟩ := g1.cons
 obtain ⟨sq, rfl, w2⟩ := ok_int o12
 obtain ⟨d3, r13, rfl, o13, g3⟩ := g2.cons
 obtain ⟨ps, rfl, w3, l3⟩ := ok_keys o13
 obtain ⟨d4, r14, rfl, o14, g4⟩ := g3.cons
 obtain ⟨ki, rfl, w4⟩ := ok_int o14
 obtain ⟨d5, r15, rfl, o15, g5⟩ := g4.cons
 obtain ⟨wh, rfl, w5, l5⟩ := ok_ints o15
 obtain rfl := g5.nil
 obtain ⟨c, r2, rfl, h3, h4⟩ := OkL.split h2
 obtain ⟨kof, rfl, hof⟩ := key_of h3
 obtain ⟨c5, r5, rfl, h5, h6⟩ := OkL.split h4
 obtain ⟨kck, rfl, hck⟩ := key_of h5
 obtain ⟨d, r3, rfl, o2, h7⟩ := h6.cons
 obtain ⟨s, rfl, w6⟩ := ok_str o2
 obtain ⟨d8, r8, rfl, o8, h8⟩ := h7.cons
 obtain rfl := h8.nil
 obtain ⟨rows, rfl, hm, hr⟩ := ok_sl o8
 obtain ⟨bs, rfl, hb⟩ := rows_of (f := BoxD.row) (R := BoxD.Wf) rows (fun row hrow => box_of (hr row hrow))
 exact ⟨⟨au, sq, ps, ki, wh, kof, kck, s, bs⟩, rfl, wf_i64 w1, wf_u32 w2, fun k hk => ⟨(w3 k hk).1, fun z hz => wf_u8 ((w3 k hk).2 z hz)⟩, l3, wf_i64 w4, fun z hz => wf_i64 (w5 z hz), l5, hof, hck, w6, hb, by simpa using hm⟩
theorem ValL.key {H : AH} {k : List Int} {us : List Value} (h : ValL H (kd k) us) : us = iv .u8 k := ValL.ints h
def BxV (H : AH) (v : Value) (l : List BoxD) : Prop := CD.Val H (.sl (l.map BoxD.row)) v
def NdV (H : AH) (v : Value) (l : List NodeD) : Prop := CD.Val H (.sl (l.map NodeD.row)) v
def KsV (H : AH) (v : Value) (l : List (List Int)) : Prop := CD.Val H (.sl (l.map kd)) v
def InV (H : AH) (v : Value) (l : List Int) : Prop := CD.Val H (.sl (l.map fun z => [.int .i64 z])) v
structure BoxC (H : AH) (us : List Value) (b : BoxD) : Prop where
 len : us.length = 36
 c0 : us[0]? = some (.int .i64 b.to)
 pub : (us.drop 1).take 32 = iv .u8 b.pub
 c33 : us[33]? = some (.int .u32 b.n)
 c34 : us[34]? = some (.int .u32 b.prev)
 c35 : us[35]? = some (.string b.body)
structure OpC (H : AH) (us : List Value) (o : OpD) (pv wv bv : Value) : Prop where
 len : us.length = 71
 c0 : us[0]? = some (.int .i64 o.author)
 c1 : us[1]? = some (.int .u32 o.seq)
 c2 : us[2]? = some pv
 c3 : us[3]? = some (.int .i64 o.kind)
 c4 : us[4]? = some wv
 of : (us.drop 5).take 32 = iv .u8 o.of
 check : (us.drop 37).take 32 = iv .u8 o.check
 c69 : us[69]? = some (.string o.text)
 c70 : us[70]? = some bv
 parents : KsV H pv o.parents
 who : InV H wv o.who
 boxes : BxV H bv o.boxes
structure NodeC (H : AH) (us : List Value) (x : NodeD) (pv wv bv qv : Value) : Prop where
 len : us.length = 104
 id : us.take 32 = iv .u8 x.id
 op : OpC H ((us.drop 32).take 71) x.op pv wv bv
 c103 : us[103]? = some qv
 past : InV H qv x.past
theorem box_c {H : AH} {b : BoxD} (hw : b.Wf) {us : List Value} (h : ValL H b.row us) : BoxC H us b := by
 obtain ⟨a, r, rfl, h1, h2⟩ := ValL.split h
 obtain ⟨u, r1, rfl, v1, n1⟩ := h1.cons
 obtain rfl := n1.nil
 obtain ⟨c, r2, rfl, h3, h4⟩ := ValL.split h2
 have hk := h3.key
 obtain ⟨u2, r3, rfl, v2, h5⟩ := h4.cons
 obtain ⟨u3, r4, rfl, v3, h6⟩ := h5.cons
 obtain ⟨u4, r5, rfl, v4, h7⟩ := h6.cons
 obtain rfl := h7.nil
 rw [val_int v1, val_int v2, val_int v3, val_str v4, hk]
 have hl : (iv .u8 b.pub).length = 32 := by rw [iv_length]; exact hw.pub.1
 refine ⟨by simp [hl], rfl, ?_, ?_, ?_, ?_⟩
 ·show (iv .u8 b.pub ++ _).take 32 = _
  rw [List.take_append_of_le_length (by omega), List.take_of_length_le (by omega)]
 ·exact (List.getElem?_append_right (l₁ := iv .u8 b.pub) (i := 32) (by omega)).trans (by rw [hl]; rfl)
 ·exact (List.getElem?_append_right (l₁ := iv .u8 b.pub) (i := 33) (by omega)).trans (by rw [hl]; rfl)
 ·exact (List.getElem?_append_right (l₁ := iv .u8 b.pub) (i := 34) (by omega)).trans (by rw [hl]; rfl)
theorem op_c {H : AH} {o : OpD} (hw : o.Wf) {us : List Value} (h : ValL H o.row us) : ∃ pv wv bv, OpC H us o pv wv bv := by
 obtain ⟨a, r, rfl, h1, h2⟩ := ValL.split h
 obtain ⟨u0, r11, rfl, v0, g1⟩ := h1.cons
 obtain ⟨u1, r12, rfl, v1, g2⟩ := g1.cons
 obtain ⟨pv, r13, rfl, vp, g3⟩ := g2.cons
 obtain ⟨u3, r14, rfl, v3, g4⟩ := g3.cons
 obtain ⟨wv, r15, rfl, vw, g5⟩ := g4.cons
 obtain rfl := g5.nil
 obtain ⟨c, r2, rfl, h3, h4⟩ := ValL.split h2
 have hk := h3.key
 obtain ⟨c2, r3, rfl, h5, h6⟩ := ValL.split h4
 have hk2 := h5.key
 obtain ⟨u4, r4, rfl, v4, h7⟩ := h6.cons
 obtain ⟨bv, r5, rfl, vb, h8⟩ := h7.cons
 obtain rfl := h8.nil
 have hl : (iv .u8 o.of).length = 32 := by rw [iv_length]; exact hw.of.1
 have hl2 : (iv .u8 o.check).length = 32 := by rw [iv_length]; exact hw.check.1
 rw [val_int v0, val_int v1, val_int v3, val_str v4, hk, hk2]
 refine ⟨pv, wv, bv, ?_⟩
 have e1 := hw.of.1
 have e2 := hw.check.1
 have key : ∀ (X : List Value) (j : Nat), ([Value.int .i64 o.author, .int .u32 o.seq, pv, .int .i64 o.kind, wv] ++ (iv .u8 o.of ++ (iv .u8 o.check ++ X)))[69 + j]? = X[j]? := by
  intro X j
  rw [List.getElem?_append_right (by simp; omega), List.getElem?_append_right (by simp; omega), List.getElem?_append_right (by simp; omega)]
  congr 1
  simp
  omega
 refine ⟨by simp [hl, hl2], rfl, rfl, rfl, rfl, rfl, ?_, ?_, ?_, ?_, vp, vw, vb⟩
 ·show (iv .u8 o.of ++ _).take 32 = _
  rw [List.take_append_of_le_length (by omega), List.take_of_length_le (by omega)]
 ·show ((iv .u8 o.of ++ (iv .u8 o.check ++ _)).drop 32).take 32 = _
  rw [List.drop_append_of_le_length (by omega), List.drop_of_length_le (by omega), List.nil_append, List.take_append_of_le_length (by omega), List.take_of_length_le (by omega)]
 ·exact key _ 0
 ·exact key _ 1
theorem node_c {H : AH} {x : NodeD} (hw : x.Wf) {us : List Value} (h : ValL H x.row us) : ∃ pv wv bv qv, NodeC H us x pv wv bv qv := by
 obtain ⟨a, r, rfl, h1, h2⟩ := ValL.split h
 have hk := h1.key
 obtain ⟨c, r2, rfl, h3, h4⟩ := ValL.split h2
 obtain ⟨pv, wv, bv, hc⟩ := op_c hw.op h3
 obtain ⟨qv, r5, rfl, vq, h8⟩ := h4.cons
 obtain rfl := h8.nil
 have hl : (iv .u8 x.id).length = 32 := by rw [iv_length]; exact hw.id.1
 rw [hk]
 have hcl := hc.len
 refine ⟨pv, wv, bv, qv, ⟨by simp [hl, hcl], ?_, ?_, ?_, vq⟩⟩
 ·rw [List.take_append_of_le_length (by omega), List.take_of_length_le (by omega)]
 ·have : ((iv .u8 x.id ++ (c ++ [qv])).drop 32).take 71 = c := by
   rw [List.drop_append_of_le_length (by omega), List.drop_of_length_le (by omega), List.nil_append, List.take_append_of_le_length (by omega), List.take_of_length_le (by omega)]
  rw [this]
  exact hc
 ·rw [List.getElem?_append_right (by omega), List.getElem?_append_right (by omega), hl, hcl]
  rfl
theorem OpC.low {H H' : AH} {us : List Value} {o : OpD} {pv wv bv : Value} (h : OpC H us o pv wv bv) (hl : ∀ j, j < H.length → hget H' j = hget H j) : OpC H' us o pv wv bv :=
 ⟨h.len, h.c0, h.c1, h.c2, h.c3, h.c4, h.of, h.check, h.c69, h.c70, h.parents.low hl, h.who.low hl, h.boxes.low hl⟩
end
section
def bA (l : List Int) : ByteArray := ⟨(Lib.bytesOf l).toArray⟩
def cmpL (a b : List Int) : Int := Extern.BytealgCompare.cmp (bA a) (bA b)
theorem find_first {p : Nat → Bool} : ∀ (n s i : Nat), s ≤ i → i < s + n → (∀ k, s ≤ k → k < i → p k = false) → p i = true → (List.range' s n).find? p = some i
 | 0, s, i, h1, h2, _, _ => by omega
 | n + 1, s, i, h1, h2, h3, h4 => by
  rw [List.range'_succ, List.find?_cons]
  by_cases e : s = i
  ·subst e; rw [h4]
  ·rw [h3 s (Nat.le_refl _) (by omega)]
   exact find_first n (s + 1) i (by omega) (by omega) (fun k hk hk2 => h3 k (by omega) hk2) h4
theorem find_none {p : Nat → Bool} : ∀ (n s : Nat), (∀ k, s ≤ k → k < s + n → p k = false) → (List.range' s n).find? p = none
 | 0, s, _ => rfl
 | n + 1, s, h => by
  rw [List.range'_succ, List.find?_cons, h s (Nat.le_refl _) (by omega)]
  exact find_none n (s + 1) fun k hk hk2 => h k (by omega) (by omega)
theorem bA_size (l : List Int) : (bA l).size = l.length := by simp [bA, Lib.bytesOf, ByteArray.size]
theorem bA_get {l : List Int} {i : Nat} {x : Int} (h : l[i]? = some x) : (bA l)[i]! = x.toNat.toUInt8 := by
 have hi := (List.getElem?_eq_some_iff.1 h).1
 have hs : i < (bA l).size := by rw [bA_size]; exact hi
 rw [getElem!_pos (bA l) i hs]
 obtain ⟨_, rfl⟩ := List.getElem?_eq_some_iff.1 h
 simp [bA, Lib.bytesOf, ByteArray.getElem_eq_getElem_data]
theorem u8_ne {x y : Int} (hx : 0 ≤ x ∧ x ≤ 255) (hy : 0 ≤ y ∧ y ≤ 255) : (x.toNat.toUInt8 != y.toNat.toUInt8) = decide (x ≠ y) := by
 have h : ∀ a b : Nat, a < 256 → b < 256 → (a.toUInt8 = b.toUInt8 ↔ a = b) := fun a b ha hb => by
  constructor
  ·intro e
   have := congrArg UInt8.toNat e
   simp at this; omega
  ·rintro rfl; rfl
 by_cases e : x = y
 ·subst e; simp
 ·have : ¬ x.toNat.toUInt8 = y.toNat.toUInt8 := fun e2 => e (by have := (h _ _ (by omega) (by omega)).1 e2; omega)
  simp [this, e]
theorem u8_lt {x y : Int} (hx : 0 ≤ x ∧ x ≤ 255) (hy : 0 ≤ y ∧ y ≤ 255) : (x.toNat.toUInt8 < y.toNat.toUInt8) ↔ x < y := by
 rw [UInt8.lt_iff_toNat_lt]
 simp only [Nat.toUInt8, UInt8.toNat_ofNat']
 omega
theorem cmpL_at {a b : List Int} (ha : By a) (hb : By b) (hl : a.length = b.length) {i : Nat} {x y : Int} (hx : a[i]? = some x) (hy : b[i]? = some y) (hxy : x ≠ y) (hpre : a.take i = b.take i) : cmpL a b = if x < y then -1 else 1 := by
 have hi := (List.getElem?_eq_some_iff.1 hx).1
 have hxb := ha x (List.mem_of_getElem? hx)
 have hyb := hb y (List.mem_of_getElem? hy)
 unfold cmpL Extern.BytealgCompare.cmp
 rw [bA_size, bA_size, List.range_eq_range', find_first (p := fun i => (bA a)[i]! != (bA b)[i]!) (min a.length b.length) 0 i (by omega) (by omega) (fun k _ hk => ?_) ?_]
 ·simp only [bA_get hx, bA_get hy]
  by_cases h : x < y
  ·rw [if_pos h, if_pos ((u8_lt hxb hyb).2 h)]
  ·rw [if_neg h, if_neg (fun h2 => h ((u8_lt hxb hyb).1 h2))]
 ·simp only [bA_get hx, bA_get hy]
  rw [u8_ne hxb hyb]
  simpa using hxy
 ·obtain ⟨u, hu⟩ : ∃ u, a[k]? = some u := ⟨_, List.getElem?_eq_getElem (by omega)⟩
  have hv : b[k]? = some u := by
   have h1 : (a.take i)[k]? = some u := by rw [List.getElem?_take_of_lt hk, hu]
   rw [hpre, List.getElem?_take_of_lt hk] at h1
   exact h1
  simp only [bA_get hu, bA_get hv]
  simp
theorem cmpL_eq {a : List Int} : cmpL a a = 0 := by
 unfold cmpL Extern.BytealgCompare.cmp
 rw [List.range_eq_range', find_none _ 0 (fun k _ _ => by simp)]
 simp
attribute [local simp] wb_bool wb_undef with_lit XL_nil XL_cons XLc_val XLc_call step1_eq stepW_t stepW_f stepC_n stepC_s stepX_s stepX_n stepN_s calleeX xrecv oneV xop_eq xopR_s xopR_n wantedA_eq wantedG_n wantedG_s plain1_int plain1_bool plain1_string bits_i64 bits_u64 bits_u32 bits_u16 bits_u8 xeqA xagg xcmp xarr allK_iv num_iv calleeOf xread xeff xbin xint xnil xun xstr xload xconv xpart xfield xfieldAddr xindexAddr xindex bnd asInt? xslice xlen xmin xmax xbuild xfill xappend xapp2 xappstr xappmk xcap xcopy xcells eval_tmp eval_const put_at put_none fr0_at cells_agg cells_int cells_bool cells_string cells_ptr cells_slice notTuple tab iv_all hget_app hget_app0 hget_cons0 hget_cons set_app set_app0 setR setR_one QL_nil QL_cons QLc_val stepQ_t stepQ_f stepQC_n stepQC_s stepQX_s SL_nil SL_cons SLc_val stepS_t stepS_f ltT ltF leT leF eqT eqF ltTn ltFn leTn leFn eqTn eqFn beqT beqF bneT bneF wi64 wu64 wu32 wu16 wu8 tmodP tdivP hgetL hgetNe hgetEq setL nums_def nums_len Nat.succ_le_of_lt List.getElem?_cons_zero List.getElem?_cons_succ Option.getD_some Int.toNat_add Int.toNat_mul agM okM agB agI agS agP agL agA okB okI okS okP okSl okA
theorem cmp0_ac {H : AH} {γ : Nat → Option Nat} {nro i j n : Nat} {a b : List Int} {t1 t2 : TypeId} {e1 e2 : Option Nat} (ha : hget H i = some ⟨iv .u8 a, t1, e1⟩) (hb : hget H j = some ⟨iv .u8 b, t2, e2⟩) (hal : a.length = n) (hbl : b.length = n) :
  AC Try.prog nro γ 142 #[.slice (some ⟨i, 0, none⟩) n n, .slice (some ⟨j, 0, none⟩) n n] H (fun v' H' => v' = .int .i64 (cmpL a b) ∧ H' = H) := by
 intro m base w args' hR hsz hva
 obtain ⟨y0, hy0, hv0⟩ := hva 0 _ rfl
 obtain ⟨y1, hy1, hv1⟩ := hva 1 _ rfl
 obtain rfl : args' = #[y0, y1] := by
  have h2 : args'.size = 2 := hsz
  apply Array.ext_getElem?
  intro k
  match k with
  | 0 => rw [hy0]; rfl
  | 1 => rw [hy1]; rfl
  | k + 2 => rw [Array.getElem?_eq_none (by omega), Array.getElem?_eq_none (by simp)]
 obtain ⟨en0, c0, _, hm0, _, _, rfl⟩ := hv0.sl_
 obtain ⟨en1, c1, _, hm1, _, _, rfl⟩ := hv1.sl_
 have cell : ∀ (k : Nat) (l : List Int) (t : TypeId) (e : Option Nat) (en : Ent), hget H k = some ⟨iv .u8 l, t, e⟩ → m[k]? = some en → ∀ (q : Nat) (x : Int), l[q]? = some x → w.cell? ((⟨en.b, en.o + 0, none⟩ : Addr).add q) = some (.int .u8 x) := fun k l t e en hk hm q x hx => by
  obtain ⟨y, hy, hv⟩ := hR.cell hk hm (off := q) (x := .int .u8 x) (by simp [iv, hx])
  have := hv.eq rfl
  subst this
  have e : (⟨en.b, en.o + 0, none⟩ : Addr).add q = ⟨en.b, en.o + q, none⟩ := by unfold Addr.add; split <;> simp_all
  rw [e, hy]
 have l0 := Lib.run_loadBytesX (P := Try.prog) w a ⟨en0.b, en0.o + 0, none⟩ .empty (cell i a t1 e1 en0 ha hm0)
 have l1 := Lib.run_loadBytesX (P := Try.prog) w b ⟨en1.b, en1.o + 0, none⟩ .empty (cell j b t2 e2 en1 hb hm1)
 have he : ∀ l : List Int, (⟨ByteArray.empty.data ++ (Lib.bytesOf l).toArray⟩ : ByteArray) = bA l := fun l => by
  apply ByteArray.ext
  show (#[] : Array UInt8) ++ (Lib.bytesOf l).toArray = (Lib.bytesOf l).toArray
  simp
 rw [he, hal] at l0
 rw [he, hbl] at l1
 refine .inr ⟨.int .i64 (cmpL a b), ?_, m, .int .i64 (cmpL a b), .int .i64 (cmpL a b), H, rfl, List.prefix_rfl, plainV_mk rfl, hR, .refl _ _, rfl, rfl⟩
 rw [run_callFunc_extern (fn := Try.f142) (by kernel_rfl) (by kernel_rfl) (by kernel_rfl) (by kernel_rfl) (e := Extern.BytealgCompare.compare) (by kernel_rfl)]
 have : (Extern.BytealgCompare.compare #[.slice (some ⟨en0.b, en0.o + 0, none⟩) n c0, .slice (some ⟨en1.b, en1.o + 0, none⟩) n c1]).run Try.prog w = .ok (.int .i64 (cmpL a b)) w := by
  change Sem.run _ (do pure (goInt (Extern.BytealgCompare.cmp (← Extern.Bytes.bytesOf (.slice (some ⟨en0.b, en0.o + 0, none⟩) n c0)) (← Extern.Bytes.bytesOf (.slice (some ⟨en1.b, en1.o + 0, none⟩) n c1))))) w = _
  simp only [Extern.Bytes.bytesOf, Sem.run_bind, Sem.run_pure, l0, l1, Result.andThen]
  rfl
 rw [this]
 rfl
theorem compare_ac {H : AH} {γ : Nat → Option Nat} {nro i j n : Nat} {a b : List Int} {t1 t2 : TypeId} {e1 e2 : Option Nat} (ha : hget H i = some ⟨iv .u8 a, t1, e1⟩) (hb : hget H j = some ⟨iv .u8 b, t2, e2⟩) (hal : a.length = n) (hbl : b.length = n) :
  AC Try.prog nro γ 101 #[.slice (some ⟨i, 0, none⟩) n n, .slice (some ⟨j, 0, none⟩) n n] H (fun v' H' => v' = .int .i64 (cmpL a b) ∧ H' = H) := by
 refine ac_of_aw Try.func101 rfl Try.ntmps101 Try.results101 (by simp) ?_
 refine aw_seq ?_
 (refine aw_ops (by kernel_rfl) (fun K hK => ?_); simp (disch := first | omega | (simp only [lnS]; try omega)) [-getElem?_pos, -getElem?_neg]; refine hK _ _ ?_; clear hK K)
 refine aw_seq ?_
 refine aw_ops (by kernel_rfl) (fun K hK => ?_)
 simp (disch := first | omega | (simp only [lnS]; try omega)) [-getElem?_pos, -getElem?_neg]
 refine ⟨by kernel_rfl, (cmp0_ac ha hb hal hbl).mono ?_⟩
 rintro v1 G1 ⟨rfl, rfl⟩
 try simp (disch := first | omega | (simp only [lnS]; try omega)) [-getElem?_pos, -getElem?_neg]
 refine hK _ _ ?_; clear hK K
 (refine aw_ret ?_; simp (disch := first | omega | (simp only [lnS]; try omega)) [-getElem?_pos, -getElem?_neg, thenQ_ret, scopeQ_ret, inBlockQ_ret, RQ, resL, resV])
theorem less_vc (a b : List Int) (ha : a.length = 32) (hb : b.length = 32) (hab : By a) (hbb : By b) : VC Try.prog 113 #[.agg (iv .u8 a).toArray, .agg (iv .u8 b).toArray] (.bool (decide (0 < cmpL b a))) := by
 have hla : (iv .u8 a).length = 32 := by rw [iv_length, ha]
 have hlb : (iv .u8 b).length = 32 := by rw [iv_length, hb]
 refine vc_of_ac (by simp [pv_iv, pv_int, pv_bool, pv_string, pv_tup2, pv_tup3, iv_plain, p2_int, p2_bool, p2_string]) (by simp [pv_iv, pv_int, pv_bool, pv_string, pv_tup2, pv_tup3, iv_plain, p2_int, p2_bool, p2_string]) ?_
 refine ac_of_aw Try.func113 rfl Try.ntmps113 Try.results113 (by simp) ?_
 refine aw_seq ?_
 (refine aw_ops (by kernel_rfl) (fun K hK => ?_); simp (disch := first | omega | (simp only [lnS]; try omega)) [-getElem?_pos, -getElem?_neg, hla, hlb]; refine hK _ _ ?_; clear hK K)
 refine aw_seq ?_
 refine aw_seq ?_
 (refine aw_ops (by kernel_rfl) (fun K hK => ?_); simp (disch := first | omega | (simp only [lnS]; try omega)) [-getElem?_pos, -getElem?_neg]; refine hK _ _ ?_; clear hK K)
 refine aw_block ?_
 refine aw_loop (fun q α G => G = [some ⟨iv .u8 a, 38, none⟩, some ⟨iv .u8 b, 38, none⟩] ∧ ∃ i : Nat, i + q = 32 ∧ α 5 = .int .i64 (i : Nat) ∧ α 2 = .pointer (some ⟨0, 0, none⟩) ∧ α 3 = .pointer (some ⟨1, 0, none⟩) ∧ a.take i = b.take i) 32 ?_ ?_
 ·exact ⟨by simp, 0, by omega, by (first | (simp [put_at, put_none, fr0_at]; done) | rfl), by (first | (simp [put_at, put_none, fr0_at]; done) | rfl), by (first | (simp [put_at, put_none, fr0_at]; done) | rfl), by simp⟩
 rintro q α G ⟨rfl, i, hiq, h5, h2, h3, hpre⟩
 refine aw_seq ?_
 refine aw_seq ?_
 (refine aw_ops (by kernel_rfl) (fun K hK => ?_); simp (disch := first | omega | (simp only [lnS]; try omega)) [-getElem?_pos, -getElem?_neg, h5]; refine hK _ _ ?_; clear hK K)
 by_cases hi : i < 32
 case neg =>
  refine aw_f (by (first | (simp [eval_tmp, put_at, hi]; done) | (simp [eval_tmp, put_at, hi]; omega))) (by kernel_rfl) ?_
  refine aw_exit ?_
  obtain rfl : i = 32 := by omega
  rw [List.take_of_length_le (by omega), List.take_of_length_le (by omega)] at hpre
  subst hpre
  have := cmpL_eq (a := a)
  refine aw_seq ?_
  (refine aw_ops (by kernel_rfl) (fun K hK => ?_); simp (disch := first | omega | (simp only [lnS]; try omega)) [-getElem?_pos, -getElem?_neg]; refine hK _ _ ?_; clear hK K)
  (refine aw_ret ?_; simp (disch := first | omega | (simp only [lnS]; try omega)) [-getElem?_pos, -getElem?_neg, thenQ_ret, scopeQ_ret, inBlockQ_ret, RQ, resL, resV, this])
 refine aw_t (by (first | (simp [eval_tmp, put_at, hi]; done) | (simp [eval_tmp, put_at, hi]; omega))) (by kernel_rfl) ?_
 refine aw_skip ?_
 refine aw_seq ?_
 refine aw_block ?_
 obtain ⟨x, hx⟩ : ∃ x, a[i]? = some x := ⟨_, List.getElem?_eq_getElem (by omega)⟩
 obtain ⟨y, hy⟩ : ∃ y, b[i]? = some y := ⟨_, List.getElem?_eq_getElem (by omega)⟩
 have hxi : (iv .u8 a)[i]? = some (.int .u8 x) := by simp [iv, hx]
 have hyi : (iv .u8 b)[i]? = some (.int .u8 y) := by simp [iv, hy]
 refine aw_seq ?_
 (refine aw_quiet (by kernel_rfl) (by kernel_rfl) (by kernel_rfl) (fun K hK => ?_); simp (disch := first | omega | (simp only [lnS]; try omega)) [-getElem?_pos, -getElem?_neg, h5, h2, h3, hla, hlb, hxi, hyi]; refine hK _ ?_; clear hK K)
 by_cases hxy : x = y
 case neg =>
  have hc := cmpL_at hbb hab (by omega) hy hx (fun e => hxy e.symm) hpre.symm
  refine aw_t (by (first | (simp [eval_tmp, put_at, hxy]; done) | (simp [eval_tmp, put_at, hxy]; omega))) (by kernel_rfl) ?_
  refine aw_seq ?_
  (refine aw_quiet (by kernel_rfl) (by kernel_rfl) (by kernel_rfl) (fun K hK => ?_); simp (disch := first | omega | (simp only [lnS]; try omega)) [-getElem?_pos, -getElem?_neg, h5, h2, h3, hla, hlb, hxi, hyi]; refine hK _ ?_; clear hK K)
  by_cases hlt : x < y
  ·rw [if_neg (by omega)] at hc
   (refine aw_ret ?_; simp (disch := first | omega | (simp only [lnS]; try omega)) [-getElem?_pos, -getElem?_neg, thenQ_ret, scopeQ_ret, inBlockQ_ret, RQ, resL, resV, hc, hlt])
  ·rw [if_pos (by omega)] at hc
   (refine aw_ret ?_; simp (disch := first | omega | (simp only [lnS]; try omega)) [-getElem?_pos, -getElem?_neg, thenQ_ret, scopeQ_ret, inBlockQ_ret, RQ, resL, resV, hc, hlt])
 refine aw_f (by (first | (simp [eval_tmp, put_at, hxy]; done) | (simp [eval_tmp, put_at, hxy]; omega))) (by kernel_rfl) ?_
 refine aw_skip ?_
 (refine aw_ops (by kernel_rfl) (fun K hK => ?_); simp (disch := first | omega | (simp only [lnS]; try omega)) [-getElem?_pos, -getElem?_neg, h5]; refine hK _ _ ?_; clear hK K)
 exact ⟨q - 1, by omega, rfl, i + 1, by omega, by (first | (simp [put_at, put_none, fr0_at]; done) | rfl), by (first | (simp [put_at, put_none, fr0_at, h2]; done) | rfl), by (first | (simp [put_at, put_none, fr0_at, h3]; done) | rfl), by rw [List.take_add_one, List.take_add_one, hpre, hx, hy, hxy]⟩
end
section
def memI (z : Int) : Bool := decide (0 ≤ z) && decide (z < 8)
def cmpI (a b : Int) : Int := if a < b then -1 else if b < a then 1 else 0
attribute [local simp] wb_bool wb_undef with_lit XL_nil XL_cons XLc_val XLc_call step1_eq stepW_t stepW_f stepC_n stepC_s stepX_s stepX_n stepN_s calleeX xrecv oneV xop_eq xopR_s xopR_n wantedA_eq wantedG_n wantedG_s plain1_int plain1_bool plain1_string bits_i64 bits_u64 bits_u32 bits_u16 bits_u8 xeqA xagg xcmp xarr allK_iv num_iv calleeOf xread xeff xbin xint xnil xun xstr xload xconv xpart xfield xfieldAddr xindexAddr xindex bnd asInt? xslice xlen xmin xmax xbuild xfill xappend xapp2 xappstr xappmk xcap xcopy xcells eval_tmp eval_const put_at put_none fr0_at cells_agg cells_int cells_bool cells_string cells_ptr cells_slice notTuple tab iv_all hget_app hget_app0 hget_cons0 hget_cons set_app set_app0 setR setR_one QL_nil QL_cons QLc_val stepQ_t stepQ_f stepQC_n stepQC_s stepQX_s SL_nil SL_cons SLc_val stepS_t stepS_f ltT ltF leT leF eqT eqF ltTn ltFn leTn leFn eqTn eqFn beqT beqF bneT bneF wi64 wu64 wu32 wu16 wu8 tmodP tdivP hgetL hgetNe hgetEq setL nums_def nums_len Nat.succ_le_of_lt List.getElem?_cons_zero List.getElem?_cons_succ Option.getD_some Int.toNat_add Int.toNat_mul agM okM agB agI agS agP agL agA okB okI okS okP okSl okA
theorem isMember_vc (z : Int) : VC Try.prog 120 #[.int .i64 z] (.bool (memI z)) := by
 refine vc_of_ac (by simp [pv_iv, pv_int, pv_bool, pv_string, pv_tup2, pv_tup3, iv_plain, p2_int, p2_bool, p2_string]) (by simp [pv_iv, pv_int, pv_bool, pv_string, pv_tup2, pv_tup3, iv_plain, p2_int, p2_bool, p2_string]) ?_
 refine ac_of_aw Try.func120 rfl Try.ntmps120 Try.results120 (by simp) ?_
 refine aw_seq ?_
 (refine aw_ops (by kernel_rfl) (fun K hK => ?_); simp (disch := first | omega | (simp only [lnS]; try omega)) [-getElem?_pos, -getElem?_neg]; refine hK _ _ ?_; clear hK K)
 refine aw_seq ?_
 by_cases h : 0 ≤ z
 ·(refine aw_ops (by kernel_rfl) (fun K hK => ?_); simp (disch := first | omega | (simp only [lnS]; try omega)) [-getElem?_pos, -getElem?_neg, h]; refine hK _ _ ?_; clear hK K)
  (refine aw_ret ?_; simp (disch := first | omega | (simp only [lnS]; try omega)) [-getElem?_pos, -getElem?_neg, thenQ_ret, scopeQ_ret, inBlockQ_ret, RQ, resL, resV])
  simp [memI, h]
 ·(refine aw_ops (by kernel_rfl) (fun K hK => ?_); simp (disch := first | omega | (simp only [lnS]; try omega)) [-getElem?_pos, -getElem?_neg, h]; refine hK _ _ ?_; clear hK K)
  (refine aw_ret ?_; simp (disch := first | omega | (simp only [lnS]; try omega)) [-getElem?_pos, -getElem?_neg, thenQ_ret, scopeQ_ret, inBlockQ_ret, RQ, resL, resV])
  simp [memI, h]
theorem isNaN_vc (z : Int) : VC Try.prog 158 #[.int .i64 z] (.bool false) := by
 refine vc_of_ac (by simp [pv_iv, pv_int, pv_bool, pv_string, pv_tup2, pv_tup3, iv_plain, p2_int, p2_bool, p2_string]) (by simp [pv_iv, pv_int, pv_bool, pv_string, pv_tup2, pv_tup3, iv_plain, p2_int, p2_bool, p2_string]) ?_
 refine ac_of_aw Try.func158 rfl Try.ntmps158 Try.results158 (by simp) ?_
 refine aw_seq ?_
 (refine aw_ops (by kernel_rfl) (fun K hK => ?_); simp (disch := first | omega | (simp only [lnS]; try omega)) [-getElem?_pos, -getElem?_neg]; refine hK _ _ ?_; clear hK K)
 refine aw_seq ?_
 (refine aw_ops (by kernel_rfl) (fun K hK => ?_); simp (disch := first | omega | (simp only [lnS]; try omega)) [-getElem?_pos, -getElem?_neg]; refine hK _ _ ?_; clear hK K)
 (refine aw_ret ?_; simp (disch := first | omega | (simp only [lnS]; try omega)) [-getElem?_pos, -getElem?_neg, thenQ_ret, scopeQ_ret, inBlockQ_ret, RQ, resL, resV])
theorem cmpI_vc (a b : Int) : VC Try.prog 152 #[.int .i64 a, .int .i64 b] (.int .i64 (cmpI a b)) := by
 refine vc_of_ac (by simp [pv_iv, pv_int, pv_bool, pv_string, pv_tup2, pv_tup3, iv_plain, p2_int, p2_bool, p2_string]) (by simp [pv_iv, pv_int, pv_bool, pv_string, pv_tup2, pv_tup3, iv_plain, p2_int, p2_bool, p2_string]) ?_
 refine ac_of_aw Try.func152 rfl Try.ntmps152 Try.results152 (by simp) ?_
 refine aw_seq ?_
 (refine aw_ops (by kernel_rfl) (fun K hK => ?_); simp (disch := first | omega | (simp only [lnS]; try omega)) [-getElem?_pos, -getElem?_neg]; refine hK _ _ ?_; clear hK K)
 refine aw_seq ?_
 refine aw_ops (by kernel_rfl) (fun K hK => ?_)
 simp (disch := first | omega | (simp only [lnS]; try omega)) [-getElem?_pos, -getElem?_neg]
 refine ⟨by kernel_rfl, ac_of_vc (by simp [pv_iv, pv_int, pv_bool, pv_string, pv_tup2, pv_tup3, iv_plain, p2_int, p2_bool, p2_string]) (isNaN_vc a) ?_⟩
 try simp (disch := first | omega | (simp only [lnS]; try omega)) [-getElem?_pos, -getElem?_neg]
 refine hK _ _ ?_; clear hK K
 refine aw_seq ?_
 refine aw_ops (by kernel_rfl) (fun K hK => ?_)
 simp (disch := first | omega | (simp only [lnS]; try omega)) [-getElem?_pos, -getElem?_neg]
 refine ⟨by kernel_rfl, ac_of_vc (by simp [pv_iv, pv_int, pv_bool, pv_string, pv_tup2, pv_tup3, iv_plain, p2_int, p2_bool, p2_string]) (isNaN_vc b) ?_⟩
 try simp (disch := first | omega | (simp only [lnS]; try omega)) [-getElem?_pos, -getElem?_neg]
 refine hK _ _ ?_; clear hK K
 refine aw_seq ?_
 refine aw_seq ?_
 (refine aw_ops (by kernel_rfl) (fun K hK => ?_); simp (disch := first | omega | (simp only [lnS]; try omega)) [-getElem?_pos, -getElem?_neg]; refine hK _ _ ?_; clear hK K)
 refine aw_f (by (first | (simp [eval_tmp, put_at]; done) | (simp [eval_tmp, put_at]; omega))) (by kernel_rfl) ?_
 refine aw_skip ?_
 refine aw_seq ?_
 refine aw_seq ?_
 (refine aw_ops (by kernel_rfl) (fun K hK => ?_); simp (disch := first | omega | (simp only [lnS]; try omega)) [-getElem?_pos, -getElem?_neg]; refine hK _ _ ?_; clear hK K)
 refine aw_f (by (first | (simp [eval_tmp, put_at]; done) | (simp [eval_tmp, put_at]; omega))) (by kernel_rfl) ?_
 refine aw_skip ?_
 refine aw_seq ?_
 refine aw_seq ?_
 by_cases h1 : a < b
 ·(refine aw_ops (by kernel_rfl) (fun K hK => ?_); simp (disch := first | omega | (simp only [lnS]; try omega)) [-getElem?_pos, -getElem?_neg, h1]; refine hK _ _ ?_; clear hK K)
  refine aw_t (by (first | (simp [eval_tmp, put_at]; done) | (simp [eval_tmp, put_at]; omega))) (by kernel_rfl) ?_
  refine aw_seq ?_
  (refine aw_ops (by kernel_rfl) (fun K hK => ?_); simp (disch := first | omega | (simp only [lnS]; try omega)) [-getElem?_pos, -getElem?_neg]; refine hK _ _ ?_; clear hK K)
  (refine aw_ret ?_; simp (disch := first | omega | (simp only [lnS]; try omega)) [-getElem?_pos, -getElem?_neg, thenQ_ret, scopeQ_ret, inBlockQ_ret, RQ, resL, resV])
  simp [cmpI, h1]
 ·(refine aw_ops (by kernel_rfl) (fun K hK => ?_); simp (disch := first | omega | (simp only [lnS]; try omega)) [-getElem?_pos, -getElem?_neg, h1]; refine hK _ _ ?_; clear hK K)
  refine aw_f (by (first | (simp [eval_tmp, put_at]; done) | (simp [eval_tmp, put_at]; omega))) (by kernel_rfl) ?_
  refine aw_skip ?_
  refine aw_seq ?_
  refine aw_seq ?_
  by_cases h2 : b < a
  ·(refine aw_ops (by kernel_rfl) (fun K hK => ?_); simp (disch := first | omega | (simp only [lnS]; try omega)) [-getElem?_pos, -getElem?_neg, h2]; refine hK _ _ ?_; clear hK K)
   refine aw_t (by (first | (simp [eval_tmp, put_at]; done) | (simp [eval_tmp, put_at]; omega))) (by kernel_rfl) ?_
   refine aw_seq ?_
   (refine aw_ops (by kernel_rfl) (fun K hK => ?_); simp (disch := first | omega | (simp only [lnS]; try omega)) [-getElem?_pos, -getElem?_neg]; refine hK _ _ ?_; clear hK K)
   (refine aw_ret ?_; simp (disch := first | omega | (simp only [lnS]; try omega)) [-getElem?_pos, -getElem?_neg, thenQ_ret, scopeQ_ret, inBlockQ_ret, RQ, resL, resV])
   simp [cmpI, h1, h2]
  ·(refine aw_ops (by kernel_rfl) (fun K hK => ?_); simp (disch := first | omega | (simp only [lnS]; try omega)) [-getElem?_pos, -getElem?_neg, h2]; refine hK _ _ ?_; clear hK K)
   refine aw_f (by (first | (simp [eval_tmp, put_at]; done) | (simp [eval_tmp, put_at]; omega))) (by kernel_rfl) ?_
   refine aw_skip ?_
   refine aw_seq ?_
   (refine aw_ops (by kernel_rfl) (fun K hK => ?_); simp (disch := first | omega | (simp only [lnS]; try omega)) [-getElem?_pos, -getElem?_neg]; refine hK _ _ ?_; clear hK K)
   (refine aw_ret ?_; simp (disch := first | omega | (simp only [lnS]; try omega)) [-getElem?_pos, -getElem?_neg, thenQ_ret, scopeQ_ret, inBlockQ_ret, RQ, resL, resV])
   simp [cmpI, h1, h2]
theorem keyOrder_rc {γ : Nat → Option Nat} {H : AH} {a b : List Int} (ha : a.length = 32) (hb : b.length = 32) : AC Try.prog H.length γ 148 #[.agg (iv .u8 a).toArray, .agg (iv .u8 b).toArray] H (fun v' _ => v' = .int .i64 (cmpL a b)) := by
 have hla : (iv .u8 a).length = 32 := by rw [iv_length, ha]
 have hlb : (iv .u8 b).length = 32 := by rw [iv_length, hb]
 refine ac_of_aw Try.func148 rfl Try.ntmps148 Try.results148 (by simp) ?_
 refine aw_seq ?_
 (refine aw_ops (by kernel_rfl) (fun K hK => ?_); simp (disch := first | omega | (simp only [lnS]; try omega)) [-getElem?_pos, -getElem?_neg, hla, hlb]; refine hK _ _ ?_; clear hK K)
 obtain ⟨G, hG⟩ : ∃ G : AH, G = H ++ [some ⟨iv .u8 a, 38, none⟩, some ⟨iv .u8 b, 38, none⟩] := ⟨_, rfl⟩
 have g0 : hget G H.length = some ⟨iv .u8 a, 38, none⟩ := by rw [hG, hget_app0]; rfl
 have g1 : hget G (H.length + 1) = some ⟨iv .u8 b, 38, none⟩ := by rw [hG, hget_app]; rfl
 rw [← hG]
 clear hG
 refine aw_seq ?_
 (refine aw_plan [] [] [0, 1, 2, 3] 4 0 (by kernel_rfl) (by kernel_rfl) (by kernel_rfl) (fun K hK => ?_)); simp only [sel, List.getElem?_cons_succ, List.getElem?_cons_zero, List.drop_succ_cons, List.drop_zero]; simp (disch := first | omega | (simp only [lnS]; try omega)) [-getElem?_pos, -getElem?_neg, g0, g1, hla, hlb, PL_nil, plainB_lit, PL_cons, PLc_val, PLc_new, stepP_t, stepP_f, stepPC_n, stepPC_s, stepPX_s, stepPX_n, stepPV_n, stepPV_s, stepPA_t, stepPA_c, stepPA_l, stepPN_s, allocOp, reloc_sl, reloc_ptr, List.map_cons, List.map_nil, List.nil_append, List.append_assoc, List.cons_append, Nat.add_assoc]
 refine PLc_call (v := .int .i64 (cmpL a b)) (by kernel_rfl) (fun L hL => ?_) (by simp [pv_iv, pv_int, pv_bool, pv_string, pv_tup2, pv_tup3, iv_plain, p2_int, p2_bool, p2_string]) ?_
 ·exact (compare_ac (hget_left' g0) (hget_left' g1) ha hb).mono fun v' H' h => h.1
 simp (disch := first | omega | (simp only [lnS]; try omega)) [-getElem?_pos, -getElem?_neg, PL_nil, plainB_lit, PL_cons, PLc_val, PLc_new, stepP_t, stepP_f, stepPC_n, stepPC_s, stepPX_s, stepPX_n, stepPV_n, stepPV_s, stepPA_t, stepPA_c, stepPA_l, stepPN_s, allocOp, reloc_sl, reloc_ptr, List.map_cons, List.map_nil, List.nil_append, List.append_assoc, List.cons_append, Nat.add_assoc]
 refine hK _ _ ?_; clear hK K
 (refine aw_ret ?_; simp (disch := first | omega | (simp only [lnS]; try omega)) [-getElem?_pos, -getElem?_neg, thenQ_ret, scopeQ_ret, inBlockQ_ret, RQ, resL, resV])
theorem boxOrder_rc {γ : Nat → Option Nat} {H : AH} {a b : BoxD} {us ws : List Value} (ha : BoxC H us a) (hb : BoxC H ws b) : AC Try.prog H.length γ 151 #[.agg us.toArray, .agg ws.toArray] H (fun v' _ => v' = .int .i64 (cmpI a.to b.to)) := by
 have hla := ha.len
 have hlb := hb.len
 have c0 := ha.c0
 have d0 := hb.c0
 refine ac_of_aw Try.func151 rfl Try.ntmps151 Try.results151 (by simp) ?_
 refine aw_seq ?_
 (refine aw_ops (by kernel_rfl) (fun K hK => ?_); simp (disch := first | omega | (simp only [lnS]; try omega)) [-getElem?_pos, -getElem?_neg, hla, hlb]; refine hK _ _ ?_; clear hK K)
 refine aw_seq ?_
 refine aw_ops (by kernel_rfl) (fun K hK => ?_)
 simp (disch := first | omega | (simp only [lnS]; try omega)) [-getElem?_pos, -getElem?_neg, c0, d0]
 refine ⟨by kernel_rfl, ac_of_vc (by simp [pv_iv, pv_int, pv_bool, pv_string, pv_tup2, pv_tup3, iv_plain, p2_int, p2_bool, p2_string]) (cmpI_vc a.to b.to) ?_⟩
 try simp (disch := first | omega | (simp only [lnS]; try omega)) [-getElem?_pos, -getElem?_neg]
 refine hK _ _ ?_; clear hK K
 (refine aw_ret ?_; simp (disch := first | omega | (simp only [lnS]; try omega)) [-getElem?_pos, -getElem?_neg, thenQ_ret, scopeQ_ret, inBlockQ_ret, RQ, resL, resV])
end
section
theorem nt_ptrG (a : Option Addr) : notTuple (.pointer a) = true := rfl
theorem nt_intG (k : IntKind) (x : Int) : notTuple (.int k x) = true := rfl
theorem nt_slG (a : Option Addr) (n c : Nat) : notTuple (.slice a n c) = true := rfl
theorem nt_strG (s : ByteArray) : notTuple (.string s) = true := rfl
theorem nt_aggG (a : Array Value) : notTuple (.agg a) = true := rfl
theorem eval_fnG (γ : Nat → Option Nat) (α : Fm) (f : FuncId) : Fm.eval γ α (.func f) = .func (.func f) #[] #[] := rfl
attribute [local simp] wb_bool wb_undef with_lit XL_nil XL_cons XLc_val XLc_call step1_eq stepW_t stepW_f stepC_n stepC_s stepX_s stepX_n stepN_s calleeX xrecv oneV xop_eq xopR_s xopR_n wantedA_eq wantedG_n wantedG_s plain1_int plain1_bool plain1_string bits_i64 bits_u64 bits_u32 bits_u16 bits_u8 xeqA xagg xcmp xarr allK_iv num_iv calleeOf xread xeff xbin xint xnil xun xstr xload xconv xpart xfield xfieldAddr xindexAddr xindex bnd asInt? xslice xlen xmin xmax xbuild xfill xappend xapp2 xappstr xappmk xcap xcopy xcells eval_tmp eval_const put_at put_none fr0_at cells_agg cells_int cells_bool cells_string cells_ptr cells_slice notTuple tab iv_all hget_app hget_app0 hget_cons0 hget_cons set_app set_app0 setR setR_one QL_nil QL_cons QLc_val stepQ_t stepQ_f stepQC_n stepQC_s stepQX_s SL_nil SL_cons SLc_val stepS_t stepS_f ltT ltF leT leF eqT eqF ltTn ltFn leTn leFn eqTn eqFn beqT beqF bneT bneF wi64 wu64 wu32 wu16 wu8 tmodP tdivP hgetL hgetNe hgetEq setL nums_def nums_len Nat.succ_le_of_lt List.getElem?_cons_zero List.getElem?_cons_succ Option.getD_some Int.toNat_add Int.toNat_mul agM okM agB agI agS agP agL agA okB okI okS okP okSl okA
theorem risesK_rc {γ : Nat → Option Nat} {H : AH} {v : Value} {n f : Nat} {E : Nat → Value} {ord : Nat → Int} (hn0 : n ≤ 9223372036854775807) (hnt : notTuple v = true) (hvc : v.cells = #[v]) (hxl : xlen Try.prog 36 v = some (.int .i64 n))
  (hat : ∀ i, i < n → ∃ p, notTuple p = true ∧ xindexAddr Try.prog 36 v (.int .i64 (i : Nat)) = some p ∧ notTuple (E i) = true ∧ ∀ G : AH, Low H.length H G → xload Try.prog 38 p G = some (E i))
  (hcal : callable Try.prog f = true) (hf : ∀ (G : AH) (i : Nat), Low H.length H G → i + 1 < n → AC Try.prog G.length γ f #[E i, E (i + 1)] G (fun v' _ => v' = .int .i64 (ord i))) :
  AC Try.prog H.length γ 149 #[.agg #[v, .func (.func f) #[] #[]]] H (fun v' _ => v' = .bool ((List.range (n - 1)).all fun i => decide (ord i < 0))) := by
 have hfn : notTuple (.func (.func f) #[] #[]) = true := rfl
 have hfc : (Value.func (.func f) #[] #[]).cells = #[.func (.func f) #[] #[]] := rfl
 refine ac_of_aw Try.func149 rfl Try.ntmps149 Try.results149 (by simp) ?_
 refine aw_seq ?_
 (refine aw_ops (by kernel_rfl) (fun K hK => ?_); simp (disch := first | omega | (simp only [lnS]; try omega)) [-getElem?_pos, -getElem?_neg, -notTuple, hnt, hvc, hfn, hfc]; refine hK _ _ ?_; clear hK K)
 have hlow : Low H.length H (H ++ [some ⟨[v, .func (.func f) #[] #[]], 170, none⟩]) := Low.push (Nat.le_refl _) _
 have hb : hget (H ++ [some ⟨[v, .func (.func f) #[] #[]], 170, none⟩]) H.length = some ⟨[v, .func (.func f) #[] #[]], 170, none⟩ := by rw [hget_app0]; rfl
 generalize H ++ [some ⟨[v, .func (.func f) #[] #[]], 170, none⟩] = G at *
 have hx0 : xload Try.prog 36 (.pointer (some ⟨H.length, 0, none⟩)) G = some v := by simp [xload, hb]
 have hx1 : xload Try.prog 138 (.pointer (some ⟨H.length, 1, none⟩)) G = some (.func (.func f) #[] #[]) := by simp [xload, hb]
 generalize H.length = b at *
 refine aw_seq ?_
 refine aw_seq ?_
 (refine aw_ops (by kernel_rfl) (fun K hK => ?_); simp (disch := first | omega | (simp only [lnS]; try omega)) [-getElem?_pos, -getElem?_neg]; refine hK _ _ ?_; clear hK K)
 refine aw_block ?_
 refine aw_loop (fun c α G' => ∃ i : Nat, 1 ≤ i ∧ i + c = n + 1 ∧ G = G' ∧ α 1 = .pointer (some ⟨b, 0, none⟩) ∧ α 3 = .int .i64 (i : Nat) ∧ ∀ j, j + 1 < i → ord j < 0) n ?_ ?_
 ·exact ⟨1, by omega, by omega, rfl, by (first | (simp [put_at, put_none, fr0_at]; done) | rfl), by (first | (simp [put_at, put_none, fr0_at]; done) | rfl), fun j hj => by omega⟩
 rintro c α G' ⟨i, hi1, hic, rfl, h1, h3, hpre⟩
 refine aw_seq ?_
 refine aw_seq ?_
 by_cases hi : i < n
 case neg =>
  (refine aw_ops (by kernel_rfl) (fun K hK => ?_); simp (disch := first | omega | (simp only [lnS]; try omega)) [-getElem?_pos, -getElem?_neg, h1, h3, -notTuple, hnt, hvc, -xload, hx0, -xlen, hxl, hi]; refine hK _ _ ?_; clear hK K)
  refine aw_f (by (first | (simp [eval_tmp, put_at, hi]; done) | (simp [eval_tmp, put_at, hi]; omega))) (by kernel_rfl) ?_
  refine aw_exit ?_
  refine aw_seq ?_
  (refine aw_ops (by kernel_rfl) (fun K hK => ?_); simp (disch := first | omega | (simp only [lnS]; try omega)) [-getElem?_pos, -getElem?_neg]; refine hK _ _ ?_; clear hK K)
  (refine aw_ret ?_; simp (disch := first | omega | (simp only [lnS]; try omega)) [-getElem?_pos, -getElem?_neg, thenQ_ret, scopeQ_ret, inBlockQ_ret, RQ, resL, resV])
  exact fun j hj => hpre j (by omega)
 (refine aw_ops (by kernel_rfl) (fun K hK => ?_); simp (disch := first | omega | (simp only [lnS]; try omega)) [-getElem?_pos, -getElem?_neg, h1, h3, -notTuple, hnt, hvc, -xload, hx0, -xlen, hxl, hi]; refine hK _ _ ?_; clear hK K)
 refine aw_t (by (first | (simp [eval_tmp, put_at, hi]; done) | (simp [eval_tmp, put_at, hi]; omega))) (by kernel_rfl) ?_
 refine aw_skip ?_
 refine aw_seq ?_
 refine aw_block ?_
 obtain ⟨p0, q1, q2, q3, q4⟩ := hat (i - 1) (by omega)
 obtain ⟨p1, r1, r2, r3, r4⟩ := hat i hi
 have hsub : (i : Int) - 1 = ((i - 1 : Nat) : Int) := by omega
 have hcall := hf G (i - 1) hlow (by omega)
 rw [show i - 1 + 1 = i by omega] at hcall
 have q4 := q4 G hlow
 have r4 := r4 G hlow
 refine aw_seq ?_
 (refine aw_plan [] [] [0, 1, 2, 3, 4, 5, 6, 7, 8, 9, 10, 11, 12, 13, 14] 15 0 (by kernel_rfl) (by kernel_rfl) (by kernel_rfl) (fun K hK => ?_)); simp only [sel, List.getElem?_cons_succ, List.getElem?_cons_zero, List.drop_succ_cons, List.drop_zero]; simp (disch := first | omega | (simp only [lnS]; try omega)) [-getElem?_pos, -getElem?_neg, h1, h3, hsub, -notTuple, hnt, hvc, hfn, hfc, q1, q3, r1, r3, nt_ptrG, nt_intG, -xload, hx0, hx1, q4, r4, -xindexAddr, q2, r2, PL_nil, plainB_lit, PL_cons, PLc_val, PLc_new, stepP_t, stepP_f, stepPC_n, stepPC_s, stepPX_s, stepPX_n, stepPV_n, stepPV_s, stepPA_t, stepPA_c, stepPA_l, stepPN_s, allocOp, reloc_sl, reloc_ptr, List.map_cons, List.map_nil, List.nil_append, List.append_assoc, List.cons_append, Nat.add_assoc]
 refine PLc_callV (v := .int .i64 (ord (i - 1))) hcal (by simpa using hcall) (by simp [pv_iv, pv_int, pv_bool, pv_string, pv_tup2, pv_tup3, iv_plain, p2_int, p2_bool, p2_string]) ?_
 by_cases ho : ord (i - 1) < 0
 ·have ho2 : ¬ 0 ≤ ord (i - 1) := by omega
  simp (disch := first | omega | (simp only [lnS]; try omega)) [-getElem?_pos, -getElem?_neg, ho, ho2, PL_nil, plainB_lit, PL_cons, PLc_val, PLc_new, stepP_t, stepP_f, stepPC_n, stepPC_s, stepPX_s, stepPX_n, stepPV_n, stepPV_s, stepPA_t, stepPA_c, stepPA_l, stepPN_s, allocOp, reloc_sl, reloc_ptr, List.map_cons, List.map_nil, List.nil_append, List.append_assoc, List.cons_append, Nat.add_assoc]
  refine hK _ _ ?_; clear hK K
  refine aw_f (by (first | (simp [eval_tmp, put_at, ho]; done) | (simp [eval_tmp, put_at, ho]; omega))) (by kernel_rfl) ?_
  refine aw_skip ?_
  (refine aw_ops (by kernel_rfl) (fun K hK => ?_); simp (disch := first | omega | (simp only [lnS]; try omega)) [-getElem?_pos, -getElem?_neg, h3]; refine hK _ _ ?_; clear hK K)
  exact ⟨c - 1, by omega, i + 1, by omega, by omega, rfl, by (first | (simp [put_at, put_none, fr0_at, h1]; done) | rfl), by (first | (simp [put_at, put_none, fr0_at]; done) | rfl), fun j hj => by
   by_cases e : j = i - 1
   ·subst e; exact ho
   ·exact hpre j (by omega)⟩
 ·have ho2 : 0 ≤ ord (i - 1) := by omega
  simp (disch := first | omega | (simp only [lnS]; try omega)) [-getElem?_pos, -getElem?_neg, ho, ho2, PL_nil, plainB_lit, PL_cons, PLc_val, PLc_new, stepP_t, stepP_f, stepPC_n, stepPC_s, stepPX_s, stepPX_n, stepPV_n, stepPV_s, stepPA_t, stepPA_c, stepPA_l, stepPN_s, allocOp, reloc_sl, reloc_ptr, List.map_cons, List.map_nil, List.nil_append, List.append_assoc, List.cons_append, Nat.add_assoc]
  refine hK _ _ ?_; clear hK K
  refine aw_t (by (first | (simp [eval_tmp, put_at, ho]; done) | (simp [eval_tmp, put_at, ho]; omega))) (by kernel_rfl) ?_
  refine aw_seq ?_
  (refine aw_ops (by kernel_rfl) (fun K hK => ?_); simp (disch := first | omega | (simp only [lnS]; try omega)) [-getElem?_pos, -getElem?_neg]; refine hK _ _ ?_; clear hK K)
  (refine aw_ret ?_; simp (disch := first | omega | (simp only [lnS]; try omega)) [-getElem?_pos, -getElem?_neg, thenQ_ret, scopeQ_ret, inBlockQ_ret, RQ, resL, resV])
  exact ⟨i - 1, by omega, ho2⟩
theorem risesI_rc {γ : Nat → Option Nat} {H : AH} {v : Value} {n f : Nat} {E : Nat → Value} {ord : Nat → Int} (hn0 : n ≤ 9223372036854775807) (hnt : notTuple v = true) (hvc : v.cells = #[v]) (hxl : xlen Try.prog 23 v = some (.int .i64 n))
  (hat : ∀ i, i < n → ∃ p, notTuple p = true ∧ xindexAddr Try.prog 23 v (.int .i64 (i : Nat)) = some p ∧ notTuple (E i) = true ∧ ∀ G : AH, Low H.length H G → xload Try.prog 3 p G = some (E i))
  (hcal : callable Try.prog f = true) (hf : ∀ (G : AH) (i : Nat), Low H.length H G → i + 1 < n → AC Try.prog G.length γ f #[E i, E (i + 1)] G (fun v' _ => v' = .int .i64 (ord i))) :
  AC Try.prog H.length γ 159 #[.agg #[v, .func (.func f) #[] #[]]] H (fun v' _ => v' = .bool ((List.range (n - 1)).all fun i => decide (ord i < 0))) := by
 have hfn : notTuple (.func (.func f) #[] #[]) = true := rfl
 have hfc : (Value.func (.func f) #[] #[]).cells = #[.func (.func f) #[] #[]] := rfl
 refine ac_of_aw Try.func159 rfl Try.ntmps159 Try.results159 (by simp) ?_
 refine aw_seq ?_
 (refine aw_ops (by kernel_rfl) (fun K hK => ?_); simp (disch := first | omega | (simp only [lnS]; try omega)) [-getElem?_pos, -getElem?_neg, -notTuple, hnt, hvc, hfn, hfc]; refine hK _ _ ?_; clear hK K)
 have hlow : Low H.length H (H ++ [some ⟨[v, .func (.func f) #[] #[]], 181, none⟩]) := Low.push (Nat.le_refl _) _
 have hb : hget (H ++ [some ⟨[v, .func (.func f) #[] #[]], 181, none⟩]) H.length = some ⟨[v, .func (.func f) #[] #[]], 181, none⟩ := by rw [hget_app0]; rfl
 generalize H ++ [some ⟨[v, .func (.func f) #[] #[]], 181, none⟩] = G at *
 have hx0 : xload Try.prog 23 (.pointer (some ⟨H.length, 0, none⟩)) G = some v := by simp [xload, hb]
 have hx1 : xload Try.prog 172 (.pointer (some ⟨H.length, 1, none⟩)) G = some (.func (.func f) #[] #[]) := by simp [xload, hb]
 generalize H.length = b at *
 refine aw_seq ?_
 refine aw_seq ?_
 (refine aw_ops (by kernel_rfl) (fun K hK => ?_); simp (disch := first | omega | (simp only [lnS]; try omega)) [-getElem?_pos, -getElem?_neg]; refine hK _ _ ?_; clear hK K)
 refine aw_block ?_
 refine aw_loop (fun c α G' => ∃ i : Nat, 1 ≤ i ∧ i + c = n + 1 ∧ G = G' ∧ α 1 = .pointer (some ⟨b, 0, none⟩) ∧ α 3 = .int .i64 (i : Nat) ∧ ∀ j, j + 1 < i → ord j < 0) n ?_ ?_
 ·exact ⟨1, by omega, by omega, rfl, by (first | (simp [put_at, put_none, fr0_at]; done) | rfl), by (first | (simp [put_at, put_none, fr0_at]; done) | rfl), fun j hj => by omega⟩
 rintro c α G' ⟨i, hi1, hic, rfl, h1, h3, hpre⟩
 refine aw_seq ?_
 refine aw_seq ?_
 by_cases hi : i < n
 case neg =>
  (refine aw_ops (by kernel_rfl) (fun K hK => ?_); simp (disch := first | omega | (simp only [lnS]; try omega)) [-getElem?_pos, -getElem?_neg, h1, h3, -notTuple, hnt, hvc, -xload, hx0, -xlen, hxl, hi]; refine hK _ _ ?_; clear hK K)
  refine aw_f (by (first | (simp [eval_tmp, put_at, hi]; done) | (simp [eval_tmp, put_at, hi]; omega))) (by kernel_rfl) ?_
  refine aw_exit ?_
  refine aw_seq ?_
  (refine aw_ops (by kernel_rfl) (fun K hK => ?_); simp (disch := first | omega | (simp only [lnS]; try omega)) [-getElem?_pos, -getElem?_neg]; refine hK _ _ ?_; clear hK K)
  (refine aw_ret ?_; simp (disch := first | omega | (simp only [lnS]; try omega)) [-getElem?_pos, -getElem?_neg, thenQ_ret, scopeQ_ret, inBlockQ_ret, RQ, resL, resV])
  exact fun j hj => hpre j (by omega)
 (refine aw_ops (by kernel_rfl) (fun K hK => ?_); simp (disch := first | omega | (simp only [lnS]; try omega)) [-getElem?_pos, -getElem?_neg, h1, h3, -notTuple, hnt, hvc, -xload, hx0, -xlen, hxl, hi]; refine hK _ _ ?_; clear hK K)
 refine aw_t (by (first | (simp [eval_tmp, put_at, hi]; done) | (simp [eval_tmp, put_at, hi]; omega))) (by kernel_rfl) ?_
 refine aw_skip ?_
 refine aw_seq ?_
 refine aw_block ?_
 obtain ⟨p0, q1, q2, q3, q4⟩ := hat (i - 1) (by omega)
 obtain ⟨p1, r1, r2, r3, r4⟩ := hat i hi
 have hsub : (i : Int) - 1 = ((i - 1 : Nat) : Int) := by omega
 have hcall := hf G (i - 1) hlow (by omega)
 rw [show i - 1 + 1 = i by omega] at hcall
 have q4 := q4 G hlow
 have r4 := r4 G hlow
 refine aw_seq ?_
 (refine aw_plan [] [] [0, 1, 2, 3, 4, 5, 6, 7, 8, 9, 10, 11, 12, 13, 14] 15 0 (by kernel_rfl) (by kernel_rfl) (by kernel_rfl) (fun K hK => ?_)); simp only [sel, List.getElem?_cons_succ, List.getElem?_cons_zero, List.drop_succ_cons, List.drop_zero]; simp (disch := first | omega | (simp only [lnS]; try omega)) [-getElem?_pos, -getElem?_neg, h1, h3, hsub, -notTuple, hnt, hvc, hfn, hfc, q1, q3, r1, r3, nt_ptrG, nt_intG, -xload, hx0, hx1, q4, r4, -xindexAddr, q2, r2, PL_nil, plainB_lit, PL_cons, PLc_val, PLc_new, stepP_t, stepP_f, stepPC_n, stepPC_s, stepPX_s, stepPX_n, stepPV_n, stepPV_s, stepPA_t, stepPA_c, stepPA_l, stepPN_s, allocOp, reloc_sl, reloc_ptr, List.map_cons, List.map_nil, List.nil_append, List.append_assoc, List.cons_append, Nat.add_assoc]
 refine PLc_callV (v := .int .i64 (ord (i - 1))) hcal (by simpa using hcall) (by simp [pv_iv, pv_int, pv_bool, pv_string, pv_tup2, pv_tup3, iv_plain, p2_int, p2_bool, p2_string]) ?_
 by_cases ho : ord (i - 1) < 0
 ·have ho2 : ¬ 0 ≤ ord (i - 1) := by omega
  simp (disch := first | omega | (simp only [lnS]; try omega)) [-getElem?_pos, -getElem?_neg, ho, ho2, PL_nil, plainB_lit, PL_cons, PLc_val, PLc_new, stepP_t, stepP_f, stepPC_n, stepPC_s, stepPX_s, stepPX_n, stepPV_n, stepPV_s, stepPA_t, stepPA_c, stepPA_l, stepPN_s, allocOp, reloc_sl, reloc_ptr, List.map_cons, List.map_nil, List.nil_append, List.append_assoc, List.cons_append, Nat.add_assoc]
  refine hK _ _ ?_; clear hK K
  refine aw_f (by (first | (simp [eval_tmp, put_at, ho]; done) | (simp [eval_tmp, put_at, ho]; omega))) (by kernel_rfl) ?_
  refine aw_skip ?_
  (refine aw_ops (by kernel_rfl) (fun K hK => ?_); simp (disch := first | omega | (simp only [lnS]; try omega)) [-getElem?_pos, -getElem?_neg, h3]; refine hK _ _ ?_; clear hK K)
  exact ⟨c - 1, by omega, i + 1, by omega, by omega, rfl, by (first | (simp [put_at, put_none, fr0_at, h1]; done) | rfl), by (first | (simp [put_at, put_none, fr0_at]; done) | rfl), fun j hj => by
   by_cases e : j = i - 1
   ·subst e; exact ho
   ·exact hpre j (by omega)⟩
 ·have ho2 : 0 ≤ ord (i - 1) := by omega
  simp (disch := first | omega | (simp only [lnS]; try omega)) [-getElem?_pos, -getElem?_neg, ho, ho2, PL_nil, plainB_lit, PL_cons, PLc_val, PLc_new, stepP_t, stepP_f, stepPC_n, stepPC_s, stepPX_s, stepPX_n, stepPV_n, stepPV_s, stepPA_t, stepPA_c, stepPA_l, stepPN_s, allocOp, reloc_sl, reloc_ptr, List.map_cons, List.map_nil, List.nil_append, List.append_assoc, List.cons_append, Nat.add_assoc]
  refine hK _ _ ?_; clear hK K
  refine aw_t (by (first | (simp [eval_tmp, put_at, ho]; done) | (simp [eval_tmp, put_at, ho]; omega))) (by kernel_rfl) ?_
  refine aw_seq ?_
  (refine aw_ops (by kernel_rfl) (fun K hK => ?_); simp (disch := first | omega | (simp only [lnS]; try omega)) [-getElem?_pos, -getElem?_neg]; refine hK _ _ ?_; clear hK K)
  (refine aw_ret ?_; simp (disch := first | omega | (simp only [lnS]; try omega)) [-getElem?_pos, -getElem?_neg, thenQ_ret, scopeQ_ret, inBlockQ_ret, RQ, resL, resV])
  exact ⟨i - 1, by omega, ho2⟩
theorem risesB_rc {γ : Nat → Option Nat} {H : AH} {v : Value} {n f : Nat} {E : Nat → Value} {ord : Nat → Int} (hn0 : n ≤ 9223372036854775807) (hnt : notTuple v = true) (hvc : v.cells = #[v]) (hxl : xlen Try.prog 39 v = some (.int .i64 n))
  (hat : ∀ i, i < n → ∃ p, notTuple p = true ∧ xindexAddr Try.prog 39 v (.int .i64 (i : Nat)) = some p ∧ notTuple (E i) = true ∧ ∀ G : AH, Low H.length H G → xload Try.prog 107 p G = some (E i))
  (hcal : callable Try.prog f = true) (hf : ∀ (G : AH) (i : Nat), Low H.length H G → i + 1 < n → AC Try.prog G.length γ f #[E i, E (i + 1)] G (fun v' _ => v' = .int .i64 (ord i))) :
  AC Try.prog H.length γ 153 #[.agg #[v, .func (.func f) #[] #[]]] H (fun v' _ => v' = .bool ((List.range (n - 1)).all fun i => decide (ord i < 0))) := by
 have hfn : notTuple (.func (.func f) #[] #[]) = true := rfl
 have hfc : (Value.func (.func f) #[] #[]).cells = #[.func (.func f) #[] #[]] := rfl
 refine ac_of_aw Try.func153 rfl Try.ntmps153 Try.results153 (by simp) ?_
 refine aw_seq ?_
 (refine aw_ops (by kernel_rfl) (fun K hK => ?_); simp (disch := first | omega | (simp only [lnS]; try omega)) [-getElem?_pos, -getElem?_neg, -notTuple, hnt, hvc, hfn, hfc]; refine hK _ _ ?_; clear hK K)
 have hlow : Low H.length H (H ++ [some ⟨[v, .func (.func f) #[] #[]], 175, none⟩]) := Low.push (Nat.le_refl _) _
 have hb : hget (H ++ [some ⟨[v, .func (.func f) #[] #[]], 175, none⟩]) H.length = some ⟨[v, .func (.func f) #[] #[]], 175, none⟩ := by rw [hget_app0]; rfl
 generalize H ++ [some ⟨[v, .func (.func f) #[] #[]], 175, none⟩] = G at *
 have hx0 : xload Try.prog 39 (.pointer (some ⟨H.length, 0, none⟩)) G = some v := by simp [xload, hb]
 have hx1 : xload Try.prog 173 (.pointer (some ⟨H.length, 1, none⟩)) G = some (.func (.func f) #[] #[]) := by simp [xload, hb]
 generalize H.length = b at *
 refine aw_seq ?_
 refine aw_seq ?_
 (refine aw_ops (by kernel_rfl) (fun K hK => ?_); simp (disch := first | omega | (simp only [lnS]; try omega)) [-getElem?_pos, -getElem?_neg]; refine hK _ _ ?_; clear hK K)
 refine aw_block ?_
 refine aw_loop (fun c α G' => ∃ i : Nat, 1 ≤ i ∧ i + c = n + 1 ∧ G = G' ∧ α 1 = .pointer (some ⟨b, 0, none⟩) ∧ α 3 = .int .i64 (i : Nat) ∧ ∀ j, j + 1 < i → ord j < 0) n ?_ ?_
 ·exact ⟨1, by omega, by omega, rfl, by (first | (simp [put_at, put_none, fr0_at]; done) | rfl), by (first | (simp [put_at, put_none, fr0_at]; done) | rfl), fun j hj => by omega⟩
 rintro c α G' ⟨i, hi1, hic, rfl, h1, h3, hpre⟩
 refine aw_seq ?_
 refine aw_seq ?_
 by_cases hi : i < n
 case neg =>
  (refine aw_ops (by kernel_rfl) (fun K hK => ?_); simp (disch := first | omega | (simp only [lnS]; try omega)) [-getElem?_pos, -getElem?_neg, h1, h3, -notTuple, hnt, hvc, -xload, hx0, -xlen, hxl, hi]; refine hK _ _ ?_; clear hK K)
  refine aw_f (by (first | (simp [eval_tmp, put_at, hi]; done) | (simp [eval_tmp, put_at, hi]; omega))) (by kernel_rfl) ?_
  refine aw_exit ?_
  refine aw_seq ?_
  (refine aw_ops (by kernel_rfl) (fun K hK => ?_); simp (disch := first | omega | (simp only [lnS]; try omega)) [-getElem?_pos, -getElem?_neg]; refine hK _ _ ?_; clear hK K)
  (refine aw_ret ?_; simp (disch := first | omega | (simp only [lnS]; try omega)) [-getElem?_pos, -getElem?_neg, thenQ_ret, scopeQ_ret, inBlockQ_ret, RQ, resL, resV])
  exact fun j hj => hpre j (by omega)
 (refine aw_ops (by kernel_rfl) (fun K hK => ?_); simp (disch := first | omega | (simp only [lnS]; try omega)) [-getElem?_pos, -getElem?_neg, h1, h3, -notTuple, hnt, hvc, -xload, hx0, -xlen, hxl, hi]; refine hK _ _ ?_; clear hK K)
 refine aw_t (by (first | (simp [eval_tmp, put_at, hi]; done) | (simp [eval_tmp, put_at, hi]; omega))) (by kernel_rfl) ?_
 refine aw_skip ?_
 refine aw_seq ?_
 refine aw_block ?_
 obtain ⟨p0, q1, q2, q3, q4⟩ := hat (i - 1) (by omega)
 obtain ⟨p1, r1, r2, r3, r4⟩ := hat i hi
 have hsub : (i : Int) - 1 = ((i - 1 : Nat) : Int) := by omega
 have hcall := hf G (i - 1) hlow (by omega)
 rw [show i - 1 + 1 = i by omega] at hcall
 have q4 := q4 G hlow
 have r4 := r4 G hlow
 refine aw_seq ?_
 (refine aw_plan [] [] [0, 1, 2, 3, 4, 5, 6, 7, 8, 9, 10, 11, 12, 13, 14] 15 0 (by kernel_rfl) (by kernel_rfl) (by kernel_rfl) (fun K hK => ?_)); simp only [sel, List.getElem?_cons_succ, List.getElem?_cons_zero, List.drop_succ_cons, List.drop_zero]; simp (disch := first | omega | (simp only [lnS]; try omega)) [-getElem?_pos, -getElem?_neg, h1, h3, hsub, -notTuple, hnt, hvc, hfn, hfc, q1, q3, r1, r3, nt_ptrG, nt_intG, -xload, hx0, hx1, q4, r4, -xindexAddr, q2, r2, PL_nil, plainB_lit, PL_cons, PLc_val, PLc_new, stepP_t, stepP_f, stepPC_n, stepPC_s, stepPX_s, stepPX_n, stepPV_n, stepPV_s, stepPA_t, stepPA_c, stepPA_l, stepPN_s, allocOp, reloc_sl, reloc_ptr, List.map_cons, List.map_nil, List.nil_append, List.append_assoc, List.cons_append, Nat.add_assoc]
 refine PLc_callV (v := .int .i64 (ord (i - 1))) hcal (by simpa using hcall) (by simp [pv_iv, pv_int, pv_bool, pv_string, pv_tup2, pv_tup3, iv_plain, p2_int, p2_bool, p2_string]) ?_
 by_cases ho : ord (i - 1) < 0
 ·have ho2 : ¬ 0 ≤ ord (i - 1) := by omega
  simp (disch := first | omega | (simp only [lnS]; try omega)) [-getElem?_pos, -getElem?_neg, ho, ho2, PL_nil, plainB_lit, PL_cons, PLc_val, PLc_new, stepP_t, stepP_f, stepPC_n, stepPC_s, stepPX_s, stepPX_n, stepPV_n, stepPV_s, stepPA_t, stepPA_c, stepPA_l, stepPN_s, allocOp, reloc_sl, reloc_ptr, List.map_cons, List.map_nil, List.nil_append, List.append_assoc, List.cons_append, Nat.add_assoc]
  refine hK _ _ ?_; clear hK K
  refine aw_f (by (first | (simp [eval_tmp, put_at, ho]; done) | (simp [eval_tmp, put_at, ho]; omega))) (by kernel_rfl) ?_
  refine aw_skip ?_
  (refine aw_ops (by kernel_rfl) (fun K hK => ?_); simp (disch := first | omega | (simp only [lnS]; try omega)) [-getElem?_pos, -getElem?_neg, h3]; refine hK _ _ ?_; clear hK K)
  exact ⟨c - 1, by omega, i + 1, by omega, by omega, rfl, by (first | (simp [put_at, put_none, fr0_at, h1]; done) | rfl), by (first | (simp [put_at, put_none, fr0_at]; done) | rfl), fun j hj => by
   by_cases e : j = i - 1
   ·subst e; exact ho
   ·exact hpre j (by omega)⟩
 ·have ho2 : 0 ≤ ord (i - 1) := by omega
  simp (disch := first | omega | (simp only [lnS]; try omega)) [-getElem?_pos, -getElem?_neg, ho, ho2, PL_nil, plainB_lit, PL_cons, PLc_val, PLc_new, stepP_t, stepP_f, stepPC_n, stepPC_s, stepPX_s, stepPX_n, stepPV_n, stepPV_s, stepPA_t, stepPA_c, stepPA_l, stepPN_s, allocOp, reloc_sl, reloc_ptr, List.map_cons, List.map_nil, List.nil_append, List.append_assoc, List.cons_append, Nat.add_assoc]
  refine hK _ _ ?_; clear hK K
  refine aw_t (by (first | (simp [eval_tmp, put_at, ho]; done) | (simp [eval_tmp, put_at, ho]; omega))) (by kernel_rfl) ?_
  refine aw_seq ?_
  (refine aw_ops (by kernel_rfl) (fun K hK => ?_); simp (disch := first | omega | (simp only [lnS]; try omega)) [-getElem?_pos, -getElem?_neg]; refine hK _ _ ?_; clear hK K)
  (refine aw_ret ?_; simp (disch := first | omega | (simp only [lnS]; try omega)) [-getElem?_pos, -getElem?_neg, thenQ_ret, scopeQ_ret, inBlockQ_ret, RQ, resL, resV])
  exact ⟨i - 1, by omega, ho2⟩
end
section
structure Acc (H : AH) (t e : TypeId) (v : Value) (n : Nat) (E : Nat → Value → Prop) : Prop where
 nt : notTuple v = true
 cs : v.cells = #[v]
 len : xlen Try.prog t v = some (.int .i64 n)
 at_ : ∀ i, i < n → ∃ p x, notTuple p = true ∧ xindexAddr Try.prog t v (.int .i64 (i : Nat)) = some p ∧ notTuple x = true ∧ E i x ∧ ∀ G : AH, Low H.length H G → xload Try.prog e p G = some x
theorem Acc.low {H H' : AH} {t e : TypeId} {v : Value} {n : Nat} {E : Nat → Value → Prop} (h : Acc H t e v n E) (hl : Low H.length H H') : Acc H' t e v n E :=
 ⟨h.nt, h.cs, h.len, fun i hi => by
  obtain ⟨p, x, a, b, c, d, f⟩ := h.at_ i hi
  exact ⟨p, x, a, b, c, d, fun G hg => f G ⟨fun j hj => (hg.1 j (by have := hl.2; omega)).trans (hl.1 j hj), by have := hl.2; have := hg.2; omega⟩⟩⟩
attribute [local simp] wb_bool wb_undef with_lit XL_nil XL_cons XLc_val XLc_call step1_eq stepW_t stepW_f stepC_n stepC_s stepX_s stepX_n stepN_s calleeX xrecv oneV xop_eq xopR_s xopR_n wantedA_eq wantedG_n wantedG_s plain1_int plain1_bool plain1_string bits_i64 bits_u64 bits_u32 bits_u16 bits_u8 xeqA xagg xcmp xarr allK_iv num_iv calleeOf xread xeff xbin xint xnil xun xstr xload xconv xpart xfield xfieldAddr xindexAddr xindex bnd asInt? xslice xlen xmin xmax xbuild xfill xappend xapp2 xappstr xappmk xcap xcopy xcells eval_tmp eval_const put_at put_none fr0_at cells_agg cells_int cells_bool cells_string cells_ptr cells_slice notTuple tab iv_all hget_app hget_app0 hget_cons0 hget_cons set_app set_app0 setR setR_one QL_nil QL_cons QLc_val stepQ_t stepQ_f stepQC_n stepQC_s stepQX_s SL_nil SL_cons SLc_val stepS_t stepS_f ltT ltF leT leF eqT eqF ltTn ltFn leTn leFn eqTn eqFn beqT beqF bneT bneF wi64 wu64 wu32 wu16 wu8 tmodP tdivP hgetL hgetNe hgetEq setL nums_def nums_len Nat.succ_le_of_lt List.getElem?_cons_zero List.getElem?_cons_succ Option.getD_some Int.toNat_add Int.toNat_mul agM okM agB agI agS agP agL agA okB okI okS okP okSl okA
theorem InV.acc {H : AH} {v : Value} {l : List Int} (h : InV H v l) : Acc H 23 3 v l.length (fun i x => x = .int .i64 (l.getD i 0)) := by
 refine ⟨(val_nt h).1, (val_nt h).2, ?_, fun i hi => ?_⟩
 ·have := val_len (P := Try.prog) (t := 23) (e := 3) h (by simp)
  rw [List.length_map] at this
  exact this
 ·obtain ⟨z, hz⟩ : ∃ z, l[i]? = some z := ⟨_, List.getElem?_eq_getElem hi⟩
  obtain ⟨j, b, us, hv, hb, hle, hx, hus, hul, hle2, hc, hval⟩ := val_at (P := Try.prog) (t := 23) (e := 3) (sz := 1) h (by simp) (by simp) (by omega) (fun row hr => by
   obtain ⟨y, _, rfl⟩ := List.mem_map.1 hr; rfl) (i := i) (row := [.int .i64 z]) (by rw [List.getElem?_map, hz]; rfl)
  obtain ⟨u, r, rfl, v1, n1⟩ := hval.cons
  obtain rfl := n1.nil
  have hcell : b.cells[i]? = some (.int .i64 z) := by
   have := hc 0 (by omega)
   rw [Nat.mul_one, Nat.add_zero] at this
   rw [this, val_int v1]; rfl
  refine ⟨_, .int .i64 z, rfl, hx, rfl, by simp [List.getD_eq_getElem?_getD, hz], fun G hg => ?_⟩
  have hbG : hget G j = some b := (hg.1 j (hget_lt hb)).trans hb
  simp [xload, hbG, hcell]
theorem KsV.acc {H : AH} {v : Value} {l : List (List Int)} (h : KsV H v l) (hl : ∀ k ∈ l, k.length = 32) : Acc H 36 38 v l.length (fun i x => x = .agg (iv .u8 (l.getD i [])).toArray) := by
 refine ⟨(val_nt h).1, (val_nt h).2, ?_, fun i hi => ?_⟩
 ·have := val_len (P := Try.prog) (t := 36) (e := 38) h (by simp)
  rw [List.length_map] at this
  exact this
 ·obtain ⟨z, hz⟩ : ∃ z, l[i]? = some z := ⟨_, List.getElem?_eq_getElem hi⟩
  obtain ⟨j, b, us, hv, hb, hle, hx, hus, hul, hle2, hc, hval⟩ := val_at (P := Try.prog) (t := 36) (e := 38) (sz := 32) h (by simp) (by simp) (by omega) (fun row hr => by
   obtain ⟨y, hy, rfl⟩ := List.mem_map.1 hr
   unfold kd
   rw [List.length_map]
   exact hl y hy) (i := i) (row := kd z) (by rw [List.getElem?_map, hz]; rfl)
  refine ⟨_, .agg us.toArray, rfl, hx, rfl, by rw [hval.key]; simp [List.getD_eq_getElem?_getD, hz], fun G hg => ?_⟩
  have hbG : hget G j = some b := (hg.1 j (hget_lt hb)).trans hb
  exact load_at (P := Try.prog) (e := 38) (i := i) hbG (by simp) (by omega) (by simp) hus hle2
theorem BxV.acc {H : AH} {v : Value} {l : List BoxD} (h : BxV H v l) (hl : ∀ b ∈ l, b.Wf) : Acc H 39 107 v l.length (fun i x => ∃ us b, x = .agg us.toArray ∧ l[i]? = some b ∧ BoxC H us b) := by
 refine ⟨(val_nt h).1, (val_nt h).2, ?_, fun i hi => ?_⟩
 ·have := val_len (P := Try.prog) (t := 39) (e := 107) h (by simp)
  rw [List.length_map] at this
  exact this
 ·obtain ⟨z, hz⟩ : ∃ z, l[i]? = some z := ⟨_, List.getElem?_eq_getElem hi⟩
  have hzw := hl z (List.mem_of_getElem? hz)
  obtain ⟨j, b, us, hv, hb, hle, hx, hus, hul, hle2, hc, hval⟩ := val_at (P := Try.prog) (t := 39) (e := 107) (sz := 36) h (by simp) (by simp) (by omega) (fun row hr => by
   obtain ⟨y, hy, rfl⟩ := List.mem_map.1 hr
   have := (hl y hy).pub.1
   simp [BoxD.row, kd, this]) (i := i) (row := z.row) (by rw [List.getElem?_map, hz]; rfl)
  refine ⟨_, .agg us.toArray, rfl, hx, rfl, ⟨us, z, rfl, hz, box_c hzw hval⟩, fun G hg => ?_⟩
  have hbG : hget G j = some b := (hg.1 j (hget_lt hb)).trans hb
  exact load_at (P := Try.prog) (e := 107) (i := i) hbG (by simp) (by omega) (by simp) hus hle2
theorem NdV.acc {H : AH} {v : Value} {l : List NodeD} (h : NdV H v l) (hl : ∀ x ∈ l, x.Wf) : Acc H 22 50 v l.length (fun i x => ∃ us y pv wv bv qv, x = .agg us.toArray ∧ l[i]? = some y ∧ NodeC H us y pv wv bv qv) := by
 refine ⟨(val_nt h).1, (val_nt h).2, ?_, fun i hi => ?_⟩
 ·have := val_len (P := Try.prog) (t := 22) (e := 50) h (by simp)
  rw [List.length_map] at this
  exact this
 ·obtain ⟨z, hz⟩ : ∃ z, l[i]? = some z := ⟨_, List.getElem?_eq_getElem hi⟩
  have hzw := hl z (List.mem_of_getElem? hz)
  obtain ⟨j, b, us, hv, hb, hle, hx, hus, hul, hle2, hc, hval⟩ := val_at (P := Try.prog) (t := 22) (e := 50) (sz := 104) h (by simp) (by simp) (by omega) (fun row hr => by
   obtain ⟨y, hy, rfl⟩ := List.mem_map.1 hr
   have h1 := (hl y hy).id.1
   have h2 := (hl y hy).op.of.1
   have h3 := (hl y hy).op.check.1
   simp [NodeD.row, OpD.row, kd, h1, h2, h3]) (i := i) (row := z.row) (by rw [List.getElem?_map, hz]; rfl)
  obtain ⟨pv, wv, bv, qv, hcc⟩ := node_c hzw hval
  refine ⟨_, .agg us.toArray, rfl, hx, rfl, ⟨us, z, pv, wv, bv, qv, rfl, hz, hcc⟩, fun G hg => ?_⟩
  have hbG : hget G j = some b := (hg.1 j (hget_lt hb)).trans hb
  exact load_at (P := Try.prog) (e := 50) (i := i) hbG (by simp) (by omega) (by simp) hus hle2
def firstI (n : Nat) (p : Nat → Bool) : Int := match (List.range n).find? p with | some i => (i : Nat) | none => -1
theorem firstI_some {n i : Nat} {p : Nat → Bool} (hi : i < n) (h1 : ∀ k, k < i → p k = false) (h2 : p i = true) : firstI n p = (i : Nat) := by
 unfold firstI
 rw [List.range_eq_range', find_first n 0 i (by omega) (by omega) (fun k _ hk => h1 k hk) h2]
theorem firstI_none {n : Nat} {p : Nat → Bool} (h : ∀ k, k < n → p k = false) : firstI n p = -1 := by
 unfold firstI
 rw [List.range_eq_range', find_none n 0 (fun k _ hk => h k (by omega))]
theorem firstI_ge {n : Nat} {p : Nat → Bool} : 0 ≤ firstI n p ↔ ∃ k, k < n ∧ p k = true := by
 unfold firstI
 cases h : (List.range n).find? p with
 | some i =>
  have h1 := List.find?_some h
  have h2 := List.mem_of_find?_eq_some h
  rw [List.mem_range] at h2
  exact ⟨fun _ => ⟨i, h2, h1⟩, fun _ => by simp⟩
 | none =>
  rw [List.find?_eq_none] at h
  refine ⟨fun h0 => absurd h0 (by decide), fun ⟨k, hk, hp⟩ => absurd hp (h k (by rw [List.mem_range]; exact hk))⟩
theorem firstI_bd {n : Nat} {p : Nat → Bool} : -1 ≤ firstI n p ∧ firstI n p < n := by
 unfold firstI
 cases h : (List.range n).find? p with
 | some i =>
  have h2 := List.mem_of_find?_eq_some h
  rw [List.mem_range] at h2
  simp only []
  omega
 | none => simp only []; omega
theorem mem_iff_getD {l : List Int} {z : Int} : z ∈ l ↔ ∃ k, k < l.length ∧ (l.getD k 0 == z) = true := by
 constructor
 ·intro h
  obtain ⟨k, hk, rfl⟩ := List.mem_iff_getElem.1 h
  exact ⟨k, hk, by simp [List.getD_eq_getElem?_getD, hk]⟩
 ·rintro ⟨k, hk, h⟩
  rw [List.getD_eq_getElem?_getD, List.getElem?_eq_getElem hk] at h
  simp at h
  exact h ▸ List.getElem_mem hk
theorem index_rc {γ : Nat → Option Nat} {H : AH} {v : Value} {l : List Int} (h : InV H v l) (hm : l.length ≤ maxLen) (z : Int) : AC Try.prog H.length γ 136 #[v, .int .i64 z] H (fun v' _ => v' = .int .i64 (firstI l.length fun k => l.getD k 0 == z)) := by
 obtain ⟨hnt, hvc, hxl, hat⟩ := h.acc
 have hm63 : l.length ≤ 9223372036854775807 := by simp only [maxLen] at hm; omega
 refine ac_of_aw Try.func136 rfl Try.ntmps136 Try.results136 (by simp) ?_
 refine aw_seq ?_
 (refine aw_ops (by kernel_rfl) (fun K hK => ?_); simp (disch := first | omega | (simp only [lnS]; try omega)) [-getElem?_pos, -getElem?_neg]; refine hK _ _ ?_; clear hK K)
 refine aw_seq ?_
 refine aw_seq ?_
 (refine aw_ops (by kernel_rfl) (fun K hK => ?_); simp (disch := first | omega | (simp only [lnS]; try omega)) [-getElem?_pos, -getElem?_neg, -notTuple, hnt, hvc, nt_intG, -xlen, hxl]; refine hK _ _ ?_; clear hK K)
 refine aw_block ?_
 refine aw_loop (fun c α G => ∃ i : Nat, i + c = l.length ∧ H = G ∧ α 0 = v ∧ α 1 = .int .i64 z ∧ α 7 = .int .i64 (l.length : Nat) ∧ α 8 = .int .i64 (i : Nat) ∧ ∀ k, k < i → (l.getD k 0 == z) = false) l.length ?_ ?_
 ·exact ⟨0, by omega, rfl, by (first | (simp [put_at, put_none, fr0_at]; done) | rfl), by (first | (simp [put_at, put_none, fr0_at]; done) | rfl), by (first | (simp [put_at, put_none, fr0_at]; done) | rfl), by (first | (simp [put_at, put_none, fr0_at]; done) | rfl), fun k hk => by omega⟩
 rintro c α G ⟨i, hic, rfl, h0, h1, h7, h8, hpre⟩
 refine aw_seq ?_
 by_cases hi : i < l.length
 case neg =>
  (refine aw_ops (by kernel_rfl) (fun K hK => ?_); simp (disch := first | omega | (simp only [lnS]; try omega)) [-getElem?_pos, -getElem?_neg, h7, h8, hi]; refine hK _ _ ?_; clear hK K)
  refine aw_seq ?_
  refine aw_f (by (first | (simp [eval_tmp, put_at, hi]; done) | (simp [eval_tmp, put_at, hi]; omega))) (by kernel_rfl) ?_
  refine aw_exit ?_
  refine aw_seq ?_
  (refine aw_ops (by kernel_rfl) (fun K hK => ?_); simp (disch := first | omega | (simp only [lnS]; try omega)) [-getElem?_pos, -getElem?_neg]; refine hK _ _ ?_; clear hK K)
  (refine aw_ret ?_; simp (disch := first | omega | (simp only [lnS]; try omega)) [-getElem?_pos, -getElem?_neg, thenQ_ret, scopeQ_ret, inBlockQ_ret, RQ, resL, resV])
  exact (firstI_none (fun k hk => hpre k (by omega))).symm
 (refine aw_ops (by kernel_rfl) (fun K hK => ?_); simp (disch := first | omega | (simp only [lnS]; try omega)) [-getElem?_pos, -getElem?_neg, h7, h8, hi]; refine hK _ _ ?_; clear hK K)
 refine aw_seq ?_
 refine aw_t (by (first | (simp [eval_tmp, put_at, hi]; done) | (simp [eval_tmp, put_at, hi]; omega))) (by kernel_rfl) ?_
 refine aw_skip ?_
 refine aw_seq ?_
 refine aw_block ?_
 refine aw_seq ?_
 (refine aw_ops (by kernel_rfl) (fun K hK => ?_); simp (disch := first | omega | (simp only [lnS]; try omega)) [-getElem?_pos, -getElem?_neg, h8]; refine hK _ _ ?_; clear hK K)
 obtain ⟨p, x, q1, q2, q3, rfl, q4⟩ := hat i hi
 have q4 := q4 H (Low.refl (Nat.le_refl _))
 refine aw_seq ?_
 obtain ⟨y, hy⟩ : ∃ y, y = l.getD i 0 := ⟨_, rfl⟩
 rw [← hy] at q4
 by_cases hz : z = y
 ·subst hz
  (refine aw_ops (by kernel_rfl) (fun K hK => ?_); simp (disch := first | omega | (simp only [lnS]; try omega)) [-getElem?_pos, -getElem?_neg, h0, h1, -notTuple, hnt, hvc, q1, nt_intG, -xindexAddr, q2, -xload, q4]; refine hK _ _ ?_; clear hK K)
  refine aw_t (by (first | (simp [eval_tmp, put_at]; done) | (simp [eval_tmp, put_at]; omega))) (by kernel_rfl) ?_
  refine aw_seq ?_
  (refine aw_ops (by kernel_rfl) (fun K hK => ?_); simp (disch := first | omega | (simp only [lnS]; try omega)) [-getElem?_pos, -getElem?_neg]; refine hK _ _ ?_; clear hK K)
  (refine aw_ret ?_; simp (disch := first | omega | (simp only [lnS]; try omega)) [-getElem?_pos, -getElem?_neg, thenQ_ret, scopeQ_ret, inBlockQ_ret, RQ, resL, resV])
  exact (firstI_some hi hpre (by rw [← hy]; simp)).symm
 ·have hz2 : (z == y) = false := by simpa using hz
  (refine aw_ops (by kernel_rfl) (fun K hK => ?_); simp (disch := first | omega | (simp only [lnS]; try omega)) [-getElem?_pos, -getElem?_neg, h0, h1, -notTuple, hnt, hvc, q1, nt_intG, -xindexAddr, q2, -xload, q4, hz, hz2]; refine hK _ _ ?_; clear hK K)
  refine aw_f (by (first | (simp [eval_tmp, put_at, hz]; done) | (simp [eval_tmp, put_at, hz]; omega))) (by kernel_rfl) ?_
  refine aw_skip ?_
  (refine aw_ops (by kernel_rfl) (fun K hK => ?_); simp (disch := first | omega | (simp only [lnS]; try omega)) [-getElem?_pos, -getElem?_neg, h8]; refine hK _ _ ?_; clear hK K)
  refine ⟨c - 1, by omega, i + 1, by omega, rfl, by (first | (simp [put_at, put_none, fr0_at, h0]; done) | rfl), by (first | (simp [put_at, put_none, fr0_at, h1]; done) | rfl), by (first | (simp [put_at, put_none, fr0_at, h7]; done) | rfl), by (first | (simp [put_at, put_none, fr0_at]; done) | rfl), fun k hk => ?_⟩
  by_cases e : k = i
  ·subst e
   rw [← hy]
   simpa using fun e => hz e.symm
  ·exact hpre k (by omega)
theorem contains_rc {γ : Nat → Option Nat} {H : AH} {v : Value} {l : List Int} (h : InV H v l) (hm : l.length ≤ maxLen) (z : Int) : AC Try.prog H.length γ 84 #[v, .int .i64 z] H (fun v' _ => v' = .bool (decide (z ∈ l))) := by
 have hnt := h.acc.nt
 have hvc := h.acc.cs
 have hix := index_rc (γ := γ) h hm z
 have hiff : 0 ≤ firstI l.length (fun k => l.getD k 0 == z) ↔ z ∈ l := firstI_ge.trans mem_iff_getD.symm
 generalize firstI l.length (fun k => l.getD k 0 == z) = r at *
 refine ac_of_aw Try.func84 rfl Try.ntmps84 Try.results84 (by simp) ?_
 refine aw_seq ?_
 (refine aw_ops (by kernel_rfl) (fun K hK => ?_); simp (disch := first | omega | (simp only [lnS]; try omega)) [-getElem?_pos, -getElem?_neg]; refine hK _ _ ?_; clear hK K)
 refine aw_seq ?_
 refine aw_ops (by kernel_rfl) (fun K hK => ?_)
 simp (disch := first | omega | (simp only [lnS]; try omega)) [-getElem?_pos, -getElem?_neg, -notTuple, hnt, hvc, nt_intG]
 refine ⟨by kernel_rfl, ac_of_rc hix (by simp [pv_iv, pv_int, pv_bool, pv_string, pv_tup2, pv_tup3, iv_plain, p2_int, p2_bool, p2_string]) ?_⟩
 by_cases hc : 0 ≤ r
 ·try simp (disch := first | omega | (simp only [lnS]; try omega)) [-getElem?_pos, -getElem?_neg, hc]
  refine hK _ _ ?_; clear hK K
  (refine aw_ret ?_; simp (disch := first | omega | (simp only [lnS]; try omega)) [-getElem?_pos, -getElem?_neg, thenQ_ret, scopeQ_ret, inBlockQ_ret, RQ, resL, resV])
  exact hiff.1 hc
 ·try simp (disch := first | omega | (simp only [lnS]; try omega)) [-getElem?_pos, -getElem?_neg, hc]
  refine hK _ _ ?_; clear hK K
  (refine aw_ret ?_; simp (disch := first | omega | (simp only [lnS]; try omega)) [-getElem?_pos, -getElem?_neg, thenQ_ret, scopeQ_ret, inBlockQ_ret, RQ, resL, resV])
  exact fun hh => hc (hiff.2 hh)
def risesI (l : List Int) : Bool := (List.range (l.length - 1)).all fun i => decide (cmpI (l.getD i 0) (l.getD (i + 1) 0) < 0)
theorem cmpI_callable : callable Try.prog 152 = true := by kernel_rfl
theorem allMembers_rc {γ : Nat → Option Nat} {H : AH} {v : Value} {l : List Int} (h : InV H v l) (hm : l.length ≤ maxLen) : AC Try.prog H.length γ 150 #[v] H (fun v' _ => v' = .bool (l.all memI && risesI l)) := by
 obtain ⟨hnt, hvc, hxl, hat⟩ := h.acc
 have hm63 : l.length ≤ 9223372036854775807 := by simp only [maxLen] at hm; omega
 have hri := risesI_rc (γ := γ) (H := H) (v := v) (n := l.length) (f := 152) (E := fun i => .int .i64 (l.getD i 0)) (ord := fun i => cmpI (l.getD i 0) (l.getD (i + 1) 0)) hm63 hnt hvc hxl (fun i hi => by
  obtain ⟨p, x, q1, q2, q3, rfl, q4⟩ := hat i hi
  exact ⟨p, q1, q2, rfl, q4⟩) cmpI_callable (fun G i _ _ => ac_of_vc (by simp [pv_iv, pv_int, pv_bool, pv_string, pv_tup2, pv_tup3, iv_plain, p2_int, p2_bool, p2_string]) (cmpI_vc _ _) rfl)
 have hfn : notTuple (.func (.func 152) #[] #[]) = true := rfl
 have hfc : (Value.func (.func 152) #[] #[]).cells = #[.func (.func 152) #[] #[]] := rfl
 refine ac_of_aw Try.func150 rfl Try.ntmps150 Try.results150 (by simp) ?_
 refine aw_seq ?_
 (refine aw_ops (by kernel_rfl) (fun K hK => ?_); simp (disch := first | omega | (simp only [lnS]; try omega)) [-getElem?_pos, -getElem?_neg]; refine hK _ _ ?_; clear hK K)
 refine aw_seq ?_
 refine aw_seq ?_
 (refine aw_ops (by kernel_rfl) (fun K hK => ?_); simp (disch := first | omega | (simp only [lnS]; try omega)) [-getElem?_pos, -getElem?_neg, -notTuple, hnt, hvc, nt_intG, -xlen, hxl]; refine hK _ _ ?_; clear hK K)
 refine aw_block ?_
 refine aw_loop (fun c α G => ∃ i : Nat, i + c = l.length ∧ H = G ∧ α 0 = v ∧ α 5 = v ∧ α 6 = .int .i64 (l.length : Nat) ∧ α 7 = .int .i64 (i : Nat) ∧ ∀ k, k < i → memI (l.getD k 0) = true) l.length ?_ ?_
 ·exact ⟨0, by omega, rfl, by (first | (simp [put_at, put_none, fr0_at]; done) | rfl), by (first | (simp [put_at, put_none, fr0_at]; done) | rfl), by (first | (simp [put_at, put_none, fr0_at]; done) | rfl), by (first | (simp [put_at, put_none, fr0_at]; done) | rfl), fun k hk => by omega⟩
 rintro c α G ⟨i, hic, rfl, h0, h5, h6, h7, hpre⟩
 refine aw_seq ?_
 by_cases hi : i < l.length
 case neg =>
  (refine aw_ops (by kernel_rfl) (fun K hK => ?_); simp (disch := first | omega | (simp only [lnS]; try omega)) [-getElem?_pos, -getElem?_neg, h6, h7, hi]; refine hK _ _ ?_; clear hK K)
  refine aw_seq ?_
  refine aw_f (by (first | (simp [eval_tmp, put_at, hi]; done) | (simp [eval_tmp, put_at, hi]; omega))) (by kernel_rfl) ?_
  refine aw_exit ?_
  have hall : l.all memI = true := List.all_eq_true.2 fun z hz => by
   obtain ⟨k, hk, rfl⟩ := List.mem_iff_getElem.1 hz
   have := hpre k (by omega)
   rwa [List.getD_eq_getElem?_getD, List.getElem?_eq_getElem hk] at this
  refine aw_seq ?_
  refine aw_ops (by kernel_rfl) (fun K hK => ?_)
  simp (disch := first | omega | (simp only [lnS]; try omega)) [-getElem?_pos, -getElem?_neg, h0, eval_fnG, -notTuple, hnt, hvc, hfn, hfc, nt_intG]
  refine ⟨by kernel_rfl, ac_of_rc (by simpa using hri) (by simp [pv_iv, pv_int, pv_bool, pv_string, pv_tup2, pv_tup3, iv_plain, p2_int, p2_bool, p2_string]) ?_⟩
  try simp (disch := first | omega | (simp only [lnS]; try omega)) [-getElem?_pos, -getElem?_neg]
  refine hK _ _ ?_; clear hK K
  (refine aw_ret ?_; simp (disch := first | omega | (simp only [lnS]; try omega)) [-getElem?_pos, -getElem?_neg, thenQ_ret, scopeQ_ret, inBlockQ_ret, RQ, resL, resV])
  rw [hall, Bool.true_and]
  rfl
 (refine aw_ops (by kernel_rfl) (fun K hK => ?_); simp (disch := first | omega | (simp only [lnS]; try omega)) [-getElem?_pos, -getElem?_neg, h6, h7, hi]; refine hK _ _ ?_; clear hK K)
 refine aw_seq ?_
 refine aw_t (by (first | (simp [eval_tmp, put_at, hi]; done) | (simp [eval_tmp, put_at, hi]; omega))) (by kernel_rfl) ?_
 refine aw_skip ?_
 refine aw_seq ?_
 refine aw_block ?_
 obtain ⟨p, x, q1, q2, q3, rfl, q4⟩ := hat i hi
 have q4 := q4 H (Low.refl (Nat.le_refl _))
 obtain ⟨y, hy⟩ : ∃ y, y = l.getD i 0 := ⟨_, rfl⟩
 rw [← hy] at q4
 refine aw_seq ?_
 (refine aw_ops (by kernel_rfl) (fun K hK => ?_); simp (disch := first | omega | (simp only [lnS]; try omega)) [-getElem?_pos, -getElem?_neg, h5, h7, -notTuple, hnt, hvc, q1, nt_intG, -xindexAddr, q2, -xload, q4]; refine hK _ _ ?_; clear hK K)
 refine aw_seq ?_
 refine aw_ops (by kernel_rfl) (fun K hK => ?_)
 simp (disch := first | omega | (simp only [lnS]; try omega)) [-getElem?_pos, -getElem?_neg]
 refine ⟨by kernel_rfl, ac_of_vc (by simp [pv_iv, pv_int, pv_bool, pv_string, pv_tup2, pv_tup3, iv_plain, p2_int, p2_bool, p2_string]) (isMember_vc y) ?_⟩
 cases hme : memI y with
 | true =>
  try simp (disch := first | omega | (simp only [lnS]; try omega)) [-getElem?_pos, -getElem?_neg]
  refine hK _ _ ?_; clear hK K
  refine aw_f (by (first | (simp [eval_tmp, put_at]; done) | (simp [eval_tmp, put_at]; omega))) (by kernel_rfl) ?_
  refine aw_skip ?_
  (refine aw_ops (by kernel_rfl) (fun K hK => ?_); simp (disch := first | omega | (simp only [lnS]; try omega)) [-getElem?_pos, -getElem?_neg, h7]; refine hK _ _ ?_; clear hK K)
  refine ⟨c - 1, by omega, i + 1, by omega, rfl, by (first | (simp [put_at, put_none, fr0_at, h0]; done) | rfl), by (first | (simp [put_at, put_none, fr0_at, h5]; done) | rfl), by (first | (simp [put_at, put_none, fr0_at, h6]; done) | rfl), by (first | (simp [put_at, put_none, fr0_at]; done) | rfl), fun k hk => ?_⟩
  by_cases e : k = i
  ·subst e; rw [← hy]; exact hme
  ·exact hpre k (by omega)
 | false =>
  try simp (disch := first | omega | (simp only [lnS]; try omega)) [-getElem?_pos, -getElem?_neg]
  refine hK _ _ ?_; clear hK K
  refine aw_t (by (first | (simp [eval_tmp, put_at]; done) | (simp [eval_tmp, put_at]; omega))) (by kernel_rfl) ?_
  refine aw_seq ?_
  (refine aw_ops (by kernel_rfl) (fun K hK => ?_); simp (disch := first | omega | (simp only [lnS]; try omega)) [-getElem?_pos, -getElem?_neg]; refine hK _ _ ?_; clear hK K)
  (refine aw_ret ?_; simp (disch := first | omega | (simp only [lnS]; try omega)) [-getElem?_pos, -getElem?_neg, thenQ_ret, scopeQ_ret, inBlockQ_ret, RQ, resL, resV])
  intro hall
  have := hall y (by
   rw [hy, List.getD_eq_getElem?_getD, List.getElem?_eq_getElem hi]
   exact List.getElem_mem hi)
  rw [hme] at this
  cases this
end
section
def risesK (ps : List (List Int)) : Bool := (List.range (ps.length - 1)).all fun i => decide (cmpL (ps.getD i []) (ps.getD (i + 1) []) < 0)
def risesX (l : List BoxD) : Bool := (List.range (l.length - 1)).all fun i => decide (cmpI ((l.map BoxD.to).getD i 0) ((l.map BoxD.to).getD (i + 1) 0) < 0)
def placeB (o : OpD) : Bool := if o.kind = 1 then decide (o.seq = 1) && decide (o.parents.length = 0) else decide (o.seq ≠ 0) && (decide (0 < o.parents.length) && (decide (o.parents.length ≤ 8) && risesK o.parents))
def whoB (o : OpD) : Bool := if o.kind = 1 then (o.who.all memI && risesI o.who) && decide (o.author ∈ o.who) else if o.kind = 2 ∨ o.kind = 3 then decide (o.who.length = 1) && ((o.who.all memI && risesI o.who) && !decide (o.author ∈ o.who)) else decide (o.who.length = 0)
def keysB (o : OpD) : Bool := (decide (o.of ≠ zl 32) == decide (o.kind = 5 ∨ o.kind = 6)) && (decide (o.check = zl 32) == decide (o.kind = 7))
def textOk (o : OpD) : Bool := if o.kind = 7 then decide (0 < o.text.size) && decide (o.text.size ≤ 256) else decide (o.text.size = 0)
def boxB (a : Int) (b : BoxD) : Bool := memI b.to && (decide (b.to ≠ a) && decide (b.body.size ≤ 256))
def boxesB (o : OpD) : Bool := o.boxes.all (boxB o.author) && risesX o.boxes
def rightO (o : OpD) : Bool := decide (1 ≤ o.kind) && (decide (o.kind ≤ 7) && (memI o.author && (placeB o && (whoB o && (keysB o && (textOk o && boxesB o))))))
theorem boxed {H : AH} (us : List Value) (t : TypeId) : Low H.length H (H ++ [some ⟨us, t, none⟩]) ∧ hget (H ++ [some ⟨us, t, none⟩]) H.length = some ⟨us, t, none⟩ := ⟨Low.push (Nat.le_refl _) _, by rw [hget_app0]; rfl⟩
theorem empty_tl (s : ByteArray) : (s.toList == ByteArray.toList ⟨#[]⟩) = decide (s.size = 0) := by
 rw [ByteArray.toList_eq, ByteArray.toList_eq]
 have h : s.size = s.data.toList.length := Array.length_toList.symm
 rw [h]
 cases s.data.toList with
 | nil => rfl
 | cons x l => rfl
theorem all_zl (n : Nat) : (∀ (i : Nat) (x : i < n), plain1 ((iv IntKind.u8 (zl n))[i]'(by simpa using x)) = true) = True := by
 refine eq_true fun i x => ?_
 have := List.all_eq_true.1 (iv_all .u8 (zl n)) _ (List.getElem_mem (by simpa using x : i < (iv IntKind.u8 (zl n)).length))
 exact this
theorem tl_nil (s : ByteArray) : s.toList = [] ↔ s.size = 0 := by
 rw [ByteArray.toList_eq]
 have h : s.size = s.data.toList.length := Array.length_toList.symm
 rw [h]
 exact List.length_eq_zero_iff.symm
attribute [local simp] wb_bool wb_undef with_lit XL_nil XL_cons XLc_val XLc_call step1_eq stepW_t stepW_f stepC_n stepC_s stepX_s stepX_n stepN_s calleeX xrecv oneV xop_eq xopR_s xopR_n wantedA_eq wantedG_n wantedG_s plain1_int plain1_bool plain1_string bits_i64 bits_u64 bits_u32 bits_u16 bits_u8 xeqA xagg xcmp xarr allK_iv num_iv calleeOf xread xeff xbin xint xnil xun xstr xload xconv xpart xfield xfieldAddr xindexAddr xindex bnd asInt? xslice xlen xmin xmax xbuild xfill xappend xapp2 xappstr xappmk xcap xcopy xcells eval_tmp eval_const put_at put_none fr0_at cells_agg cells_int cells_bool cells_string cells_ptr cells_slice notTuple tab iv_all hget_app hget_app0 hget_cons0 hget_cons set_app set_app0 setR setR_one QL_nil QL_cons QLc_val stepQ_t stepQ_f stepQC_n stepQC_s stepQX_s SL_nil SL_cons SLc_val stepS_t stepS_f ltT ltF leT leF eqT eqF ltTn ltFn leTn leFn eqTn eqFn beqT beqF bneT bneF wi64 wu64 wu32 wu16 wu8 tmodP tdivP hgetL hgetNe hgetEq setL nums_def nums_len Nat.succ_le_of_lt List.getElem?_cons_zero List.getElem?_cons_succ Option.getD_some Int.toNat_add Int.toNat_mul agM okM agB agI agS agP agL agA okB okI okS okP okSl okA
theorem keyOrder_callable : callable Try.prog 148 = true := by kernel_rfl
theorem rightPlace_rc {γ : Nat → Option Nat} {H : AH} {us : List Value} {o : OpD} {pv wv bv : Value} (h : OpC H us o pv wv bv) (hw : o.Wf) : AC Try.prog H.length γ 121 #[.agg us.toArray] H (fun v' _ => v' = .bool (placeB o)) := by
 have hpa := h.parents.acc (fun k hk => (hw.parents k hk).1)
 obtain ⟨hnt, hvc, hxl, hat⟩ := hpa
 have hm63 : o.parents.length ≤ 9223372036854775807 := by have := hw.plen; simp only [maxLen] at this; omega
 have hlen := h.len
 have c1 := h.c1
 have c2 := h.c2
 have c3 := h.c3
 refine ac_of_aw Try.func121 rfl Try.ntmps121 Try.results121 (by simp) ?_
 refine aw_seq ?_
 (refine aw_ops (by kernel_rfl) (fun K hK => ?_); simp (disch := first | omega | (simp only [lnS]; try omega)) [-getElem?_pos, -getElem?_neg, hlen]; refine hK _ _ ?_; clear hK K)
 obtain ⟨hlow, hb⟩ := boxed (H := H) us 41
 generalize H ++ [some ⟨us, 41, none⟩] = G at *
 have hri := risesK_rc (γ := γ) (H := G) (v := pv) (n := o.parents.length) (f := 148) (E := fun i => .agg (iv .u8 (o.parents.getD i [])).toArray) (ord := fun i => cmpL (o.parents.getD i []) (o.parents.getD (i + 1) [])) hm63 hnt hvc hxl (fun i hi => by
  obtain ⟨p, x, q1, q2, q3, rfl, q4⟩ := hat i hi
  exact ⟨p, q1, q2, rfl, fun G' hg => q4 G' ⟨fun j hj => (hg.1 j (by have := hlow.2; omega)).trans (hlow.1 j hj), by have := hlow.2; have := hg.2; omega⟩⟩) keyOrder_callable (fun G' i _ hi => keyOrder_rc (by
   rw [List.getD_eq_getElem?_getD, List.getElem?_eq_getElem (show i < _ by omega)]
   exact (hw.parents _ (List.getElem_mem _)).1) (by
   rw [List.getD_eq_getElem?_getD, List.getElem?_eq_getElem (show i + 1 < _ by omega)]
   exact (hw.parents _ (List.getElem_mem _)).1))
 have hfn : notTuple (.func (.func 148) #[] #[]) = true := rfl
 have hfc : (Value.func (.func 148) #[] #[]).cells = #[.func (.func 148) #[] #[]] := rfl
 refine aw_seq ?_
 refine aw_seq ?_
 by_cases k1 : o.kind = 1
 ·(refine aw_ops (by kernel_rfl) (fun K hK => ?_); simp (disch := first | omega | (simp only [lnS]; try omega)) [-getElem?_pos, -getElem?_neg, hb, c3, k1]; refine hK _ _ ?_; clear hK K)
  refine aw_t (by (first | (simp [eval_tmp, put_at]; done) | (simp [eval_tmp, put_at]; omega))) (by kernel_rfl) ?_
  refine aw_seq ?_
  by_cases k2 : o.seq = 1
  ·by_cases k3 : o.parents.length = 0
   ·(refine aw_ops (by kernel_rfl) (fun K hK => ?_); simp (disch := first | omega | (simp only [lnS]; try omega)) [-getElem?_pos, -getElem?_neg, hb, c1, c2, k2, -notTuple, hnt, hvc, nt_intG, -xlen, hxl, k3]; refine hK _ _ ?_; clear hK K)
    (refine aw_ret ?_; simp (disch := first | omega | (simp only [lnS]; try omega)) [-getElem?_pos, -getElem?_neg, thenQ_ret, scopeQ_ret, inBlockQ_ret, RQ, resL, resV])
    simp [placeB, k1, k2, k3]
   ·(refine aw_ops (by kernel_rfl) (fun K hK => ?_); simp (disch := first | omega | (simp only [lnS]; try omega)) [-getElem?_pos, -getElem?_neg, hb, c1, c2, k2, -notTuple, hnt, hvc, nt_intG, -xlen, hxl, k3]; refine hK _ _ ?_; clear hK K)
    (refine aw_ret ?_; simp (disch := first | omega | (simp only [lnS]; try omega)) [-getElem?_pos, -getElem?_neg, thenQ_ret, scopeQ_ret, inBlockQ_ret, RQ, resL, resV])
    simp [placeB, k1, k2, k3]
  ·(refine aw_ops (by kernel_rfl) (fun K hK => ?_); simp (disch := first | omega | (simp only [lnS]; try omega)) [-getElem?_pos, -getElem?_neg, hb, c1, c2, k2]; refine hK _ _ ?_; clear hK K)
   (refine aw_ret ?_; simp (disch := first | omega | (simp only [lnS]; try omega)) [-getElem?_pos, -getElem?_neg, thenQ_ret, scopeQ_ret, inBlockQ_ret, RQ, resL, resV])
   simp [placeB, k1, k2]
 have k1' : (o.kind == 1) = false := by simp [k1]
 (refine aw_ops (by kernel_rfl) (fun K hK => ?_); simp (disch := first | omega | (simp only [lnS]; try omega)) [-getElem?_pos, -getElem?_neg, hb, c3, k1, k1']; refine hK _ _ ?_; clear hK K)
 refine aw_f (by (first | (simp [eval_tmp, put_at, k1]; done) | (simp [eval_tmp, put_at, k1]; omega))) (by kernel_rfl) ?_
 refine aw_skip ?_
 refine aw_seq ?_
 by_cases k2 : o.seq = 0
 ·(refine aw_ops (by kernel_rfl) (fun K hK => ?_); simp (disch := first | omega | (simp only [lnS]; try omega)) [-getElem?_pos, -getElem?_neg, hb, c1, c2, k2]; refine hK _ _ ?_; clear hK K)
  (refine aw_ret ?_; simp (disch := first | omega | (simp only [lnS]; try omega)) [-getElem?_pos, -getElem?_neg, thenQ_ret, scopeQ_ret, inBlockQ_ret, RQ, resL, resV])
  simp [placeB, k1, k2]
 have k2' : (o.seq == 0) = false := by simp [k2]
 by_cases k3 : 0 < o.parents.length
 case neg =>
  (refine aw_ops (by kernel_rfl) (fun K hK => ?_); simp (disch := first | omega | (simp only [lnS]; try omega)) [-getElem?_pos, -getElem?_neg, hb, c1, c2, k2, k2', -notTuple, hnt, hvc, nt_intG, -xlen, hxl, k3]; refine hK _ _ ?_; clear hK K)
  (refine aw_ret ?_; simp (disch := first | omega | (simp only [lnS]; try omega)) [-getElem?_pos, -getElem?_neg, thenQ_ret, scopeQ_ret, inBlockQ_ret, RQ, resL, resV])
  simp [placeB, k1, k2, k3]
 by_cases k4 : o.parents.length ≤ 8
 case neg =>
  (refine aw_ops (by kernel_rfl) (fun K hK => ?_); simp (disch := first | omega | (simp only [lnS]; try omega)) [-getElem?_pos, -getElem?_neg, hb, c1, c2, k2, k2', -notTuple, hnt, hvc, nt_intG, -xlen, hxl, k3, k4]; refine hK _ _ ?_; clear hK K)
  (refine aw_ret ?_; simp (disch := first | omega | (simp only [lnS]; try omega)) [-getElem?_pos, -getElem?_neg, thenQ_ret, scopeQ_ret, inBlockQ_ret, RQ, resL, resV])
  simp [placeB, k1, k2, k3, k4]
 refine aw_ops (by kernel_rfl) (fun K hK => ?_)
 simp (disch := first | omega | (simp only [lnS]; try omega)) [-getElem?_pos, -getElem?_neg, hb, c1, c2, k2, k2', eval_fnG, -notTuple, hnt, hvc, hfn, hfc, nt_intG, -xlen, hxl, k3, k4]
 refine ⟨by kernel_rfl, ac_of_rc (by simpa using hri) (by simp [pv_iv, pv_int, pv_bool, pv_string, pv_tup2, pv_tup3, iv_plain, p2_int, p2_bool, p2_string]) ?_⟩
 try simp (disch := first | omega | (simp only [lnS]; try omega)) [-getElem?_pos, -getElem?_neg]
 refine hK _ _ ?_; clear hK K
 (refine aw_ret ?_; simp (disch := first | omega | (simp only [lnS]; try omega)) [-getElem?_pos, -getElem?_neg, thenQ_ret, scopeQ_ret, inBlockQ_ret, RQ, resL, resV])
 have : risesK o.parents = (List.range (o.parents.length - 1)).all fun i => decide (cmpL (o.parents.getD i []) (o.parents.getD (i + 1) []) < 0) := rfl
 simp [placeB, k1, k2, k3, k4, this]
theorem rightText_rc {γ : Nat → Option Nat} {H : AH} {us : List Value} {o : OpD} {pv wv bv : Value} (h : OpC H us o pv wv bv) (hw : o.Wf) : AC Try.prog H.length γ 124 #[.agg us.toArray] H (fun v' _ => v' = .bool (textOk o)) := by
 have hlen := h.len
 have c3 := h.c3
 have c69 := h.c69
 have hm63 : o.text.size ≤ 9223372036854775807 := by have := hw.text; simp only [maxLen] at this; omega
 refine ac_of_aw Try.func124 rfl Try.ntmps124 Try.results124 (by simp) ?_
 refine aw_seq ?_
 (refine aw_ops (by kernel_rfl) (fun K hK => ?_); simp (disch := first | omega | (simp only [lnS]; try omega)) [-getElem?_pos, -getElem?_neg, hlen]; refine hK _ _ ?_; clear hK K)
 obtain ⟨hlow, hb⟩ := boxed (H := H) us 41
 generalize H ++ [some ⟨us, 41, none⟩] = G at *
 refine aw_seq ?_
 refine aw_seq ?_
 by_cases k1 : o.kind = 7
 ·(refine aw_ops (by kernel_rfl) (fun K hK => ?_); simp (disch := first | omega | (simp only [lnS]; try omega)) [-getElem?_pos, -getElem?_neg, hb, c3, k1]; refine hK _ _ ?_; clear hK K)
  refine aw_t (by (first | (simp [eval_tmp, put_at]; done) | (simp [eval_tmp, put_at]; omega))) (by kernel_rfl) ?_
  refine aw_seq ?_
  by_cases k2 : 0 < o.text.size
  ·by_cases k3 : o.text.size ≤ 256
   ·(refine aw_ops (by kernel_rfl) (fun K hK => ?_); simp (disch := first | omega | (simp only [lnS]; try omega)) [-getElem?_pos, -getElem?_neg, hb, c69, k2, k3]; refine hK _ _ ?_; clear hK K)
    (refine aw_ret ?_; simp (disch := first | omega | (simp only [lnS]; try omega)) [-getElem?_pos, -getElem?_neg, thenQ_ret, scopeQ_ret, inBlockQ_ret, RQ, resL, resV])
    simp [textOk, k1, k2, k3]
   ·(refine aw_ops (by kernel_rfl) (fun K hK => ?_); simp (disch := first | omega | (simp only [lnS]; try omega)) [-getElem?_pos, -getElem?_neg, hb, c69, k2, k3]; refine hK _ _ ?_; clear hK K)
    (refine aw_ret ?_; simp (disch := first | omega | (simp only [lnS]; try omega)) [-getElem?_pos, -getElem?_neg, thenQ_ret, scopeQ_ret, inBlockQ_ret, RQ, resL, resV])
    simp [textOk, k1, k2, k3]
  ·(refine aw_ops (by kernel_rfl) (fun K hK => ?_); simp (disch := first | omega | (simp only [lnS]; try omega)) [-getElem?_pos, -getElem?_neg, hb, c69, k2]; refine hK _ _ ?_; clear hK K)
   (refine aw_ret ?_; simp (disch := first | omega | (simp only [lnS]; try omega)) [-getElem?_pos, -getElem?_neg, thenQ_ret, scopeQ_ret, inBlockQ_ret, RQ, resL, resV])
   simp [textOk, k1, k2]
 have k1' : (o.kind == 7) = false := by simp [k1]
 (refine aw_ops (by kernel_rfl) (fun K hK => ?_); simp (disch := first | omega | (simp only [lnS]; try omega)) [-getElem?_pos, -getElem?_neg, hb, c3, k1, k1']; refine hK _ _ ?_; clear hK K)
 refine aw_f (by (first | (simp [eval_tmp, put_at, k1]; done) | (simp [eval_tmp, put_at, k1]; omega))) (by kernel_rfl) ?_
 refine aw_skip ?_
 refine aw_seq ?_
 have hem : (o.text.toList == ByteArray.toList ⟨#[]⟩) = decide (o.text.size = 0) := empty_tl o.text
 by_cases k2 : o.text.size = 0
 ·rw [decide_eq_true k2] at hem
  (refine aw_ops (by kernel_rfl) (fun K hK => ?_); simp (disch := first | omega | (simp only [lnS]; try omega)) [-getElem?_pos, -getElem?_neg, hb, c69, hem]; refine hK _ _ ?_; clear hK K)
  (refine aw_ret ?_; simp (disch := first | omega | (simp only [lnS]; try omega)) [-getElem?_pos, -getElem?_neg, thenQ_ret, scopeQ_ret, inBlockQ_ret, RQ, resL, resV])
  simp [textOk, k1, k2, tl_nil]
 ·rw [decide_eq_false k2] at hem
  (refine aw_ops (by kernel_rfl) (fun K hK => ?_); simp (disch := first | omega | (simp only [lnS]; try omega)) [-getElem?_pos, -getElem?_neg, hb, c69, hem]; refine hK _ _ ?_; clear hK K)
  (refine aw_ret ?_; simp (disch := first | omega | (simp only [lnS]; try omega)) [-getElem?_pos, -getElem?_neg, thenQ_ret, scopeQ_ret, inBlockQ_ret, RQ, resL, resV])
  simp [textOk, k1, k2, tl_nil]
theorem zl32_key (k : List Int) : (k == zl 32) = decide (k = zl 32) := by
 by_cases h : k = zl 32
 ·subst h; simp
 ·simp [h]
theorem rightKeys_rc {γ : Nat → Option Nat} {H : AH} {us : List Value} {o : OpD} {pv wv bv : Value} (h : OpC H us o pv wv bv) (hw : o.Wf) : AC Try.prog H.length γ 123 #[.agg us.toArray] H (fun v' _ => v' = .bool (keysB o)) := by
 have hlen := h.len
 have c3 := h.c3
 have c5 := h.of
 have c6 := h.check
 have l5 := hw.of.1
 have l6 := hw.check.1
 refine ac_of_aw Try.func123 rfl Try.ntmps123 Try.results123 (by simp) ?_
 refine aw_seq ?_
 (refine aw_ops (by kernel_rfl) (fun K hK => ?_); simp (disch := first | omega | (simp only [lnS]; try omega)) [-getElem?_pos, -getElem?_neg, hlen]; refine hK _ _ ?_; clear hK K)
 obtain ⟨hlow, hb⟩ := boxed (H := H) us 41
 generalize H ++ [some ⟨us, 41, none⟩] = G at *
 have hlowl := hlow.2
 refine aw_seq ?_
 have hz1 : setR (iv .u8 (zl 32)) 0 (iv .u8 (zl 32)) = iv .u8 (zl 32) := setR_all _ _ rfl
 (refine aw_ops (by kernel_rfl) (fun K hK => ?_); simp (disch := first | omega | (simp only [lnS]; try omega)) [-getElem?_pos, -getElem?_neg, all_zl, hz1]; refine hK _ _ ?_; clear hK K)
 have hb1 : hget (G ++ [some ⟨iv .u8 (zl 32), 38, none⟩]) H.length = some ⟨us, 41, none⟩ := hget_left' hb
 have hb2 : hget (G ++ [some ⟨iv .u8 (zl 32), 38, none⟩]) G.length = some ⟨iv .u8 (zl 32), 38, none⟩ := by rw [hget_app0]; rfl
 generalize G ++ [some ⟨iv .u8 (zl 32), 38, none⟩] = G2 at *
 generalize G.length = g at *
 have hz2 : (zl 32).length = 32 := rfl
 have hz3 : (iv .u8 (zl 32)).take 32 = iv .u8 (zl 32) := rfl
 refine aw_seq ?_
 obtain ⟨A, hA⟩ : ∃ A : Bool, A = decide (o.kind = 5 ∨ o.kind = 6) := ⟨_, rfl⟩
 refine aw_cut (fun α G' => G2 = G' ∧ α 1 = .pointer (some ⟨H.length, 0, none⟩) ∧ α 3 = .pointer (some ⟨g, 0, none⟩) ∧ α 4 = .bool A) ?_ ?_
 ·by_cases k5 : o.kind = 5
  ·(refine aw_ops (by kernel_rfl) (fun K hK => ?_); simp (disch := first | omega | (simp only [lnS]; try omega)) [-getElem?_pos, -getElem?_neg, hb1, c3, k5]; refine hK _ _ ?_; clear hK K)
   exact ⟨rfl, by (first | (simp [put_at, put_none, fr0_at]; done) | rfl), by (first | (simp [put_at, put_none, fr0_at]; done) | rfl), by simp [put_at, hA, k5]⟩
  ·have k5' : (o.kind == 5) = false := by simp [k5]
   by_cases k6 : o.kind = 6
   ·have k6' : (o.kind == 6) = true := by simp [k6]
    (refine aw_ops (by kernel_rfl) (fun K hK => ?_); simp (disch := first | omega | (simp only [lnS]; try omega)) [-getElem?_pos, -getElem?_neg, hb1, c3, k5, k5', k6']; refine hK _ _ ?_; clear hK K)
    exact ⟨rfl, by (first | (simp [put_at, put_none, fr0_at]; done) | rfl), by (first | (simp [put_at, put_none, fr0_at]; done) | rfl), by simp [put_at, hA, k6]⟩
   ·have k6' : (o.kind == 6) = false := by simp [k6]
    (refine aw_ops (by kernel_rfl) (fun K hK => ?_); simp (disch := first | omega | (simp only [lnS]; try omega)) [-getElem?_pos, -getElem?_neg, hb1, c3, k5, k5', k6']; refine hK _ _ ?_; clear hK K)
    exact ⟨rfl, by (first | (simp [put_at, put_none, fr0_at]; done) | rfl), by (first | (simp [put_at, put_none, fr0_at]; done) | rfl), by simp [put_at, hA, k5, k6]⟩
 rintro α G' ⟨rfl, h1, h3, h4⟩
 have e5 := zl32_key o.of
 have e6 := zl32_key o.check
 obtain ⟨B5, hB5⟩ : ∃ B, B = decide (o.of = zl 32) := ⟨_, rfl⟩
 obtain ⟨B6, hB6⟩ : ∃ B, B = decide (o.check = zl 32) := ⟨_, rfl⟩
 rw [← hB5] at e5
 rw [← hB6] at e6
 have hk : keysB o = (((!B5) == A) && (B6 == decide (o.kind = 7))) := by
  have e1 : decide (o.of ≠ zl 32) = !B5 := by rw [hB5]; simp
  simp only [keysB, e1, hA, hB6]
 rw [hk]
 clear hk hA hB5 hB6
 refine aw_seq ?_
 by_cases k7 : o.kind = 7
 ·cases A <;> cases B5 <;> cases B6 <;>
  ·(refine aw_plan [] [] [0, 1, 2, 3, 4, 5, 6, 7, 8, 9, 10, 11, 12, 13, 14, 15, 16] 17 0 (by kernel_rfl) (by kernel_rfl) (by kernel_rfl) (fun K hK => ?_)); simp only [sel, List.getElem?_cons_succ, List.getElem?_cons_zero, List.drop_succ_cons, List.drop_zero]; simp (disch := first | omega | (simp only [lnS]; try omega)) [-getElem?_pos, -getElem?_neg, h1, h3, h4, hb1, hb2, c3, c5, c6, l5, l6, hz2, hz3, e5, e6, k7, PL_nil, plainB_lit, PL_cons, PLc_val, PLc_new, stepP_t, stepP_f, stepPC_n, stepPC_s, stepPX_s, stepPX_n, stepPV_n, stepPV_s, stepPA_t, stepPA_c, stepPA_l, stepPN_s, allocOp, reloc_sl, reloc_ptr, List.map_cons, List.map_nil, List.nil_append, List.append_assoc, List.cons_append, Nat.add_assoc]
   refine hK _ _ ?_; clear hK K
   (refine aw_ret ?_; simp (disch := first | omega | (simp only [lnS]; try omega)) [-getElem?_pos, -getElem?_neg, thenQ_ret, scopeQ_ret, inBlockQ_ret, RQ, resL, resV])
   all_goals simp [k7]
 ·have k7' : (o.kind == 7) = false := by simp [k7]
  cases A <;> cases B5 <;> cases B6 <;>
  ·(refine aw_plan [] [] [0, 1, 2, 3, 4, 5, 6, 7, 8, 9, 10, 11, 12, 13, 14, 15, 16] 17 0 (by kernel_rfl) (by kernel_rfl) (by kernel_rfl) (fun K hK => ?_)); simp only [sel, List.getElem?_cons_succ, List.getElem?_cons_zero, List.drop_succ_cons, List.drop_zero]; simp (disch := first | omega | (simp only [lnS]; try omega)) [-getElem?_pos, -getElem?_neg, h1, h3, h4, hb1, hb2, c3, c5, c6, l5, l6, hz2, hz3, e5, e6, k7, k7', PL_nil, plainB_lit, PL_cons, PLc_val, PLc_new, stepP_t, stepP_f, stepPC_n, stepPC_s, stepPX_s, stepPX_n, stepPV_n, stepPV_s, stepPA_t, stepPA_c, stepPA_l, stepPN_s, allocOp, reloc_sl, reloc_ptr, List.map_cons, List.map_nil, List.nil_append, List.append_assoc, List.cons_append, Nat.add_assoc]
   refine hK _ _ ?_; clear hK K
   (refine aw_ret ?_; simp (disch := first | omega | (simp only [lnS]; try omega)) [-getElem?_pos, -getElem?_neg, thenQ_ret, scopeQ_ret, inBlockQ_ret, RQ, resL, resV])
   all_goals simp [k7]
theorem rightWho_rc {γ : Nat → Option Nat} {H : AH} {us : List Value} {o : OpD} {pv wv bv : Value} (h : OpC H us o pv wv bv) (hw : o.Wf) : AC Try.prog H.length γ 122 #[.agg us.toArray] H (fun v' _ => v' = .bool (whoB o)) := by
 have hlen := h.len
 have c0 := h.c0
 have c3 := h.c3
 have c4 := h.c4
 have hm63 : o.who.length ≤ 9223372036854775807 := by have := hw.wlen; simp only [maxLen] at this; omega
 refine ac_of_aw Try.func122 rfl Try.ntmps122 Try.results122 (by simp) ?_
 refine aw_seq ?_
 (refine aw_ops (by kernel_rfl) (fun K hK => ?_); simp (disch := first | omega | (simp only [lnS]; try omega)) [-getElem?_pos, -getElem?_neg, hlen]; refine hK _ _ ?_; clear hK K)
 obtain ⟨hlow, hb⟩ := boxed (H := H) us 41
 generalize H ++ [some ⟨us, 41, none⟩] = G at *
 have hwho : InV G wv o.who := h.who.low hlow.1
 obtain ⟨hnt, hvc, hxl, hat⟩ := hwho.acc
 have hall := allMembers_rc (γ := γ) hwho hw.wlen
 have hcon := contains_rc (γ := γ) hwho hw.wlen o.author
 obtain ⟨A, hA⟩ : ∃ A, A = (o.who.all memI && risesI o.who) := ⟨_, rfl⟩
 rw [← hA] at hall
 refine aw_seq ?_
 refine aw_seq ?_
 (refine aw_ops (by kernel_rfl) (fun K hK => ?_); simp (disch := first | omega | (simp only [lnS]; try omega)) [-getElem?_pos, -getElem?_neg, hb, c3]; refine hK _ _ ?_; clear hK K)
 refine aw_block ?_
 refine aw_seq ?_
 by_cases k1 : o.kind = 1
 ·(refine aw_ops (by kernel_rfl) (fun K hK => ?_); simp (disch := first | omega | (simp only [lnS]; try omega)) [-getElem?_pos, -getElem?_neg, k1]; refine hK _ _ ?_; clear hK K)
  refine aw_t (by (first | (simp [eval_tmp, put_at]; done) | (simp [eval_tmp, put_at]; omega))) (by kernel_rfl) ?_
  refine aw_seq ?_
  refine aw_ops (by kernel_rfl) (fun K hK => ?_)
  simp (disch := first | omega | (simp only [lnS]; try omega)) [-getElem?_pos, -getElem?_neg, hb, c0, c4, -notTuple, hnt, hvc, nt_intG]
  refine ⟨by kernel_rfl, ac_of_rc hall (by simp [pv_iv, pv_int, pv_bool, pv_string, pv_tup2, pv_tup3, iv_plain, p2_int, p2_bool, p2_string]) ?_⟩
  cases A with
  | true =>
   simp (disch := first | omega | (simp only [lnS]; try omega)) [-getElem?_pos, -getElem?_neg, hb, c0, c4, -notTuple, hnt, hvc, nt_intG]
   refine ⟨by kernel_rfl, ac_of_rc hcon (by simp [pv_iv, pv_int, pv_bool, pv_string, pv_tup2, pv_tup3, iv_plain, p2_int, p2_bool, p2_string]) ?_⟩
   try simp (disch := first | omega | (simp only [lnS]; try omega)) [-getElem?_pos, -getElem?_neg]
   refine hK _ _ ?_; clear hK K
   (refine aw_ret ?_; simp (disch := first | omega | (simp only [lnS]; try omega)) [-getElem?_pos, -getElem?_neg, thenQ_ret, scopeQ_ret, inBlockQ_ret, RQ, resL, resV])
   simp [whoB, k1, ← hA]
  | false =>
   simp (disch := first | omega | (simp only [lnS]; try omega)) [-getElem?_pos, -getElem?_neg, hb, c0, c4, -notTuple, hnt, hvc, nt_intG]
   refine hK _ _ ?_; clear hK K
   (refine aw_ret ?_; simp (disch := first | omega | (simp only [lnS]; try omega)) [-getElem?_pos, -getElem?_neg, thenQ_ret, scopeQ_ret, inBlockQ_ret, RQ, resL, resV])
   simp [whoB, k1, ← hA]
 have k1' : (o.kind == 1) = false := by simp [k1]
 (refine aw_ops (by kernel_rfl) (fun K hK => ?_); simp (disch := first | omega | (simp only [lnS]; try omega)) [-getElem?_pos, -getElem?_neg, k1, k1']; refine hK _ _ ?_; clear hK K)
 refine aw_f (by (first | (simp [eval_tmp, put_at, k1]; done) | (simp [eval_tmp, put_at, k1]; omega))) (by kernel_rfl) ?_
 refine aw_seq ?_
 obtain ⟨B, hB⟩ : ∃ B : Bool, B = decide (o.kind = 2 ∨ o.kind = 3) := ⟨_, rfl⟩
 refine aw_cut (fun α G' => G = G' ∧ α 1 = .pointer (some ⟨H.length, 0, none⟩) ∧ α 17 = .bool B) ?_ ?_
 ·refine aw_seq ?_
  by_cases k2 : o.kind = 2
  ·(refine aw_ops (by kernel_rfl) (fun K hK => ?_); simp (disch := first | omega | (simp only [lnS]; try omega)) [-getElem?_pos, -getElem?_neg, k2]; refine hK _ _ ?_; clear hK K)
   refine aw_t (by (first | (simp [eval_tmp, put_at]; done) | (simp [eval_tmp, put_at]; omega))) (by kernel_rfl) ?_
   refine aw_skip ?_
   exact ⟨rfl, by (first | (simp [put_at, put_none, fr0_at]; done) | rfl), by simp [put_at, hB, k2]⟩
  have k2' : (o.kind == 2) = false := by simp [k2]
  (refine aw_ops (by kernel_rfl) (fun K hK => ?_); simp (disch := first | omega | (simp only [lnS]; try omega)) [-getElem?_pos, -getElem?_neg, k2, k2']; refine hK _ _ ?_; clear hK K)
  refine aw_f (by (first | (simp [eval_tmp, put_at, k2]; done) | (simp [eval_tmp, put_at, k2]; omega))) (by kernel_rfl) ?_
  by_cases k3 : o.kind = 3
  ·have k3' : (o.kind == 3) = true := by simp [k3]
   (refine aw_ops (by kernel_rfl) (fun K hK => ?_); simp (disch := first | omega | (simp only [lnS]; try omega)) [-getElem?_pos, -getElem?_neg, k3, k3']; refine hK _ _ ?_; clear hK K)
   exact ⟨rfl, by (first | (simp [put_at, put_none, fr0_at]; done) | rfl), by simp [put_at, hB, k3]⟩
  ·have k3' : (o.kind == 3) = false := by simp [k3]
   (refine aw_ops (by kernel_rfl) (fun K hK => ?_); simp (disch := first | omega | (simp only [lnS]; try omega)) [-getElem?_pos, -getElem?_neg, k3, k3']; refine hK _ _ ?_; clear hK K)
   exact ⟨rfl, by (first | (simp [put_at, put_none, fr0_at]; done) | rfl), by simp [put_at, hB, k2, k3]⟩
 rintro α G' ⟨rfl, h1, h17⟩
 have hwh : whoB o = if B = true then decide (o.who.length = 1) && (A && !decide (o.author ∈ o.who)) else decide (o.who.length = 0) := by
  unfold whoB
  rw [if_neg k1, hB, ← hA]
  by_cases k23 : o.kind = 2 ∨ o.kind = 3
  ·rw [if_pos k23, if_pos (decide_eq_true k23)]
  ·rw [if_neg k23, if_neg (by simpa using k23)]
 rw [hwh]
 clear hwh hA hB
 cases B with
 | true =>
  rw [if_pos rfl]
  refine aw_t (by (first | (simp [eval_tmp, put_at, h17]; done) | (simp [eval_tmp, put_at, h17]; omega))) (by kernel_rfl) ?_
  refine aw_seq ?_
  by_cases hl1 : o.who.length = 1
  case neg =>
   (refine aw_ops (by kernel_rfl) (fun K hK => ?_); simp (disch := first | omega | (simp only [lnS]; try omega)) [-getElem?_pos, -getElem?_neg, h1, hb, c0, c4, -notTuple, hnt, hvc, nt_intG, -xlen, hxl, hl1]; refine hK _ _ ?_; clear hK K)
   (refine aw_ret ?_; simp (disch := first | omega | (simp only [lnS]; try omega)) [-getElem?_pos, -getElem?_neg, thenQ_ret, scopeQ_ret, inBlockQ_ret, RQ, resL, resV])
   all_goals simp [hl1]
  refine aw_ops (by kernel_rfl) (fun K hK => ?_)
  simp (disch := first | omega | (simp only [lnS]; try omega)) [-getElem?_pos, -getElem?_neg, h1, hb, c0, c4, -notTuple, hnt, hvc, nt_intG, -xlen, hxl, hl1]
  refine ⟨by kernel_rfl, ac_of_rc hall (by simp [pv_iv, pv_int, pv_bool, pv_string, pv_tup2, pv_tup3, iv_plain, p2_int, p2_bool, p2_string]) ?_⟩
  cases A with
  | true =>
   simp (disch := first | omega | (simp only [lnS]; try omega)) [-getElem?_pos, -getElem?_neg, hb, h1, c0, c4, -notTuple, hnt, hvc, nt_intG]
   refine ⟨by kernel_rfl, ac_of_rc hcon (by simp [pv_iv, pv_int, pv_bool, pv_string, pv_tup2, pv_tup3, iv_plain, p2_int, p2_bool, p2_string]) ?_⟩
   try simp (disch := first | omega | (simp only [lnS]; try omega)) [-getElem?_pos, -getElem?_neg]
   refine hK _ _ ?_; clear hK K
   (refine aw_ret ?_; simp (disch := first | omega | (simp only [lnS]; try omega)) [-getElem?_pos, -getElem?_neg, thenQ_ret, scopeQ_ret, inBlockQ_ret, RQ, resL, resV])
   all_goals simp [hl1]
  | false =>
   simp (disch := first | omega | (simp only [lnS]; try omega)) [-getElem?_pos, -getElem?_neg, hb, h1, c0, c4, -notTuple, hnt, hvc, nt_intG]
   refine hK _ _ ?_; clear hK K
   (refine aw_ret ?_; simp (disch := first | omega | (simp only [lnS]; try omega)) [-getElem?_pos, -getElem?_neg, thenQ_ret, scopeQ_ret, inBlockQ_ret, RQ, resL, resV])
   all_goals simp [hl1]
 | false =>
  rw [if_neg (by simp)]
  refine aw_f (by (first | (simp [eval_tmp, put_at, h17]; done) | (simp [eval_tmp, put_at, h17]; omega))) (by kernel_rfl) ?_
  refine aw_skip ?_
  refine aw_seq ?_
  by_cases hl1 : o.who.length = 0
  ·(refine aw_ops (by kernel_rfl) (fun K hK => ?_); simp (disch := first | omega | (simp only [lnS]; try omega)) [-getElem?_pos, -getElem?_neg, h1, hb, c0, c4, -notTuple, hnt, hvc, nt_intG, -xlen, hxl, hl1]; refine hK _ _ ?_; clear hK K)
   (refine aw_ret ?_; simp (disch := first | omega | (simp only [lnS]; try omega)) [-getElem?_pos, -getElem?_neg, thenQ_ret, scopeQ_ret, inBlockQ_ret, RQ, resL, resV])
   all_goals simp [hl1]
  ·(refine aw_ops (by kernel_rfl) (fun K hK => ?_); simp (disch := first | omega | (simp only [lnS]; try omega)) [-getElem?_pos, -getElem?_neg, h1, hb, c0, c4, -notTuple, hnt, hvc, nt_intG, -xlen, hxl, hl1]; refine hK _ _ ?_; clear hK K)
   (refine aw_ret ?_; simp (disch := first | omega | (simp only [lnS]; try omega)) [-getElem?_pos, -getElem?_neg, thenQ_ret, scopeQ_ret, inBlockQ_ret, RQ, resL, resV])
   all_goals simp [hl1]
end
section
theorem Acc.fn {H : AH} {t e : TypeId} {v : Value} {n : Nat} {E : Nat → Value → Prop} (h : Acc H t e v n E) : ∃ X : Nat → Value, ∀ i, i < n → E i (X i) ∧ notTuple (X i) = true ∧ ∃ p, notTuple p = true ∧ xindexAddr Try.prog t v (.int .i64 (i : Nat)) = some p ∧ ∀ G : AH, Low H.length H G → xload Try.prog e p G = some (X i) := by
 have h' : ∀ i, ∃ x, i < n → E i x ∧ notTuple x = true ∧ ∃ p, notTuple p = true ∧ xindexAddr Try.prog t v (.int .i64 (i : Nat)) = some p ∧ ∀ G : AH, Low H.length H G → xload Try.prog e p G = some x := fun i => by
  by_cases hi : i < n
  ·obtain ⟨p, x, q1, q2, q3, q4, q5⟩ := h.at_ i hi
   exact ⟨x, fun _ => ⟨q4, q3, p, q1, q2, q5⟩⟩
  ·exact ⟨.bool false, fun h => absurd h hi⟩
 exact ⟨fun i => (h' i).choose, fun i => (h' i).choose_spec⟩
attribute [local simp] wb_bool wb_undef with_lit XL_nil XL_cons XLc_val XLc_call step1_eq stepW_t stepW_f stepC_n stepC_s stepX_s stepX_n stepN_s calleeX xrecv oneV xop_eq xopR_s xopR_n wantedA_eq wantedG_n wantedG_s plain1_int plain1_bool plain1_string bits_i64 bits_u64 bits_u32 bits_u16 bits_u8 xeqA xagg xcmp xarr allK_iv num_iv calleeOf xread xeff xbin xint xnil xun xstr xload xconv xpart xfield xfieldAddr xindexAddr xindex bnd asInt? xslice xlen xmin xmax xbuild xfill xappend xapp2 xappstr xappmk xcap xcopy xcells eval_tmp eval_const put_at put_none fr0_at cells_agg cells_int cells_bool cells_string cells_ptr cells_slice notTuple tab iv_all hget_app hget_app0 hget_cons0 hget_cons set_app set_app0 setR setR_one QL_nil QL_cons QLc_val stepQ_t stepQ_f stepQC_n stepQC_s stepQX_s SL_nil SL_cons SLc_val stepS_t stepS_f ltT ltF leT leF eqT eqF ltTn ltFn leTn leFn eqTn eqFn beqT beqF bneT bneF wi64 wu64 wu32 wu16 wu8 tmodP tdivP hgetL hgetNe hgetEq setL nums_def nums_len Nat.succ_le_of_lt List.getElem?_cons_zero List.getElem?_cons_succ Option.getD_some Int.toNat_add Int.toNat_mul agM okM agB agI agS agP agL agA okB okI okS okP okSl okA
theorem boxOrder_callable : callable Try.prog 151 = true := by kernel_rfl
theorem rightBoxes_rc {γ : Nat → Option Nat} {H : AH} {us : List Value} {o : OpD} {pv wv bv : Value} (h : OpC H us o pv wv bv) (hw : o.Wf) : AC Try.prog H.length γ 125 #[.agg us.toArray] H (fun v' _ => v' = .bool (boxesB o)) := by
 have hac := h.boxes.acc hw.boxes
 obtain ⟨X, hX⟩ := hac.fn
 have hnt := hac.nt
 have hvc := hac.cs
 have hxl := hac.len
 have hm63 : o.boxes.length ≤ 9223372036854775807 := by have := hw.blen; simp only [maxLen] at this; omega
 have hlen := h.len
 have c0 := h.c0
 have c8 := h.c70
 refine ac_of_aw Try.func125 rfl Try.ntmps125 Try.results125 (by simp) ?_
 refine aw_seq ?_
 (refine aw_ops (by kernel_rfl) (fun K hK => ?_); simp (disch := first | omega | (simp only [lnS]; try omega)) [-getElem?_pos, -getElem?_neg, hlen]; refine hK _ _ ?_; clear hK K)
 obtain ⟨hlow, hb⟩ := boxed (H := H) us 41
 generalize H ++ [some ⟨us, 41, none⟩] = G at *
 have hlowl := hlow.2
 refine aw_seq ?_
 refine aw_seq ?_
 (refine aw_ops (by kernel_rfl) (fun K hK => ?_); simp (disch := first | omega | (simp only [lnS]; try omega)) [-getElem?_pos, -getElem?_neg, hb, c8, -notTuple, hnt, hvc, nt_intG, -xlen, hxl]; refine hK _ _ ?_; clear hK K)
 refine aw_block ?_
 refine aw_loop (fun c α G' => ∃ i : Nat, i + c = o.boxes.length ∧ Low G.length G G' ∧ α 1 = .pointer (some ⟨H.length, 0, none⟩) ∧ α 6 = bv ∧ α 7 = .int .i64 (o.boxes.length : Nat) ∧ α 8 = .int .i64 (i : Nat) ∧ ∀ (k : Nat) (b : BoxD), k < i → o.boxes[k]? = some b → boxB o.author b = true) o.boxes.length ?_ ?_
 ·exact ⟨0, by omega, Low.refl (Nat.le_refl _), by (first | (simp [put_at, put_none, fr0_at]; done) | rfl), by (first | (simp [put_at, put_none, fr0_at]; done) | rfl), by (first | (simp [put_at, put_none, fr0_at]; done) | rfl), by (first | (simp [put_at, put_none, fr0_at]; done) | rfl), fun k b hk => by omega⟩
 rintro c α G' ⟨i, hic, hlow', h1, h6, h7, h8, hpre⟩
 have hlowl' := hlow'.2
 have hltH := hget_lt hb
 have hb' : hget G' H.length = some ⟨us, 41, none⟩ := (hlow'.1 _ hltH).trans hb
 have hlowH : Low H.length H G' := ⟨fun j hj => (hlow'.1 j (by omega)).trans (hlow.1 j hj), by omega⟩
 refine aw_seq ?_
 by_cases hi : i < o.boxes.length
 case neg =>
  (refine aw_ops (by kernel_rfl) (fun K hK => ?_); simp (disch := first | omega | (simp only [lnS]; try omega)) [-getElem?_pos, -getElem?_neg, h7, h8, hi]; refine hK _ _ ?_; clear hK K)
  refine aw_seq ?_
  refine aw_f (by (first | (simp [eval_tmp, put_at, hi]; done) | (simp [eval_tmp, put_at, hi]; omega))) (by kernel_rfl) ?_
  refine aw_exit ?_
  have hall : o.boxes.all (boxB o.author) = true := List.all_eq_true.2 fun z hz => by
   obtain ⟨k, hk, rfl⟩ := List.mem_iff_getElem.1 hz
   exact hpre k _ (by omega) (List.getElem?_eq_getElem hk)
  have hfn : notTuple (.func (.func 151) #[] #[]) = true := rfl
  have hfc : (Value.func (.func 151) #[] #[]).cells = #[.func (.func 151) #[] #[]] := rfl
  have hri := risesB_rc (γ := γ) (H := G') (v := bv) (n := o.boxes.length) (f := 151) (E := X) (ord := fun i => cmpI ((o.boxes.map BoxD.to).getD i 0) ((o.boxes.map BoxD.to).getD (i + 1) 0)) hm63 hnt hvc hxl (fun k hk => by
   obtain ⟨q0, q3, p, q1, q2, q4⟩ := hX k hk
   exact ⟨p, q1, q2, q3, fun G2 hg => q4 G2 ⟨fun j hj => (hg.1 j (by omega)).trans (hlowH.1 j hj), by have := hg.2; omega⟩⟩) boxOrder_callable (fun G2 k _ hk => by
   obtain ⟨⟨u1, b1, e1, g1, cc1⟩, _⟩ := hX k (by omega)
   obtain ⟨⟨u2, b2, e2, g2, cc2⟩, _⟩ := hX (k + 1) hk
   rw [e1, e2]
   have := boxOrder_rc (γ := γ) (H := G2) (a := b1) (b := b2) (us := u1) (ws := u2) ⟨cc1.len, cc1.c0, cc1.pub, cc1.c33, cc1.c34, cc1.c35⟩ ⟨cc2.len, cc2.c0, cc2.pub, cc2.c33, cc2.c34, cc2.c35⟩
   have t1 : (o.boxes.map BoxD.to).getD k 0 = b1.to := by rw [List.getD_eq_getElem?_getD, List.getElem?_map, g1]; rfl
   have t2 : (o.boxes.map BoxD.to).getD (k + 1) 0 = b2.to := by rw [List.getD_eq_getElem?_getD, List.getElem?_map, g2]; rfl
   rw [t1, t2]
   exact this)
  refine aw_seq ?_
  refine aw_ops (by kernel_rfl) (fun K hK => ?_)
  simp (disch := first | omega | (simp only [lnS]; try omega)) [-getElem?_pos, -getElem?_neg, h1, hb', c8, eval_fnG, -notTuple, hnt, hvc, hfn, hfc, nt_intG]
  refine ⟨by kernel_rfl, ac_of_rc (by simpa using hri) (by simp [pv_iv, pv_int, pv_bool, pv_string, pv_tup2, pv_tup3, iv_plain, p2_int, p2_bool, p2_string]) ?_⟩
  try simp (disch := first | omega | (simp only [lnS]; try omega)) [-getElem?_pos, -getElem?_neg]
  refine hK _ _ ?_; clear hK K
  (refine aw_ret ?_; simp (disch := first | omega | (simp only [lnS]; try omega)) [-getElem?_pos, -getElem?_neg, thenQ_ret, scopeQ_ret, inBlockQ_ret, RQ, resL, resV])
  have e : risesX o.boxes = (List.range (o.boxes.length - 1)).all fun i => decide (cmpI ((o.boxes.map BoxD.to).getD i 0) ((o.boxes.map BoxD.to).getD (i + 1) 0) < 0) := rfl
  simp [boxesB, hall, e]
 (refine aw_ops (by kernel_rfl) (fun K hK => ?_); simp (disch := first | omega | (simp only [lnS]; try omega)) [-getElem?_pos, -getElem?_neg, h7, h8, hi]; refine hK _ _ ?_; clear hK K)
 refine aw_seq ?_
 refine aw_t (by (first | (simp [eval_tmp, put_at, hi]; done) | (simp [eval_tmp, put_at, hi]; omega))) (by kernel_rfl) ?_
 refine aw_skip ?_
 refine aw_seq ?_
 refine aw_block ?_
 obtain ⟨⟨ub, b, e1, g1, cc⟩, q3, p, q1, q2, q4⟩ := hX i hi
 have q4 := q4 G' hlowH
 rw [e1] at q4
 have hbl := cc.len
 have d0 := cc.c0
 have d35 := cc.c35
 have hbw := hw.boxes b (List.mem_of_getElem? g1)
 have hbs : b.body.size ≤ 9223372036854775807 := by have := hbw.body; simp only [maxLen] at this; omega
 refine aw_seq ?_
 have hzb : setR (Value.int .i64 0 :: (iv .u8 (zl 32) ++ [Value.int .u32 0, Value.int .u32 0, Value.string ByteArray.empty])) 0 ub = ub := setR_all _ _ (by simp [hbl])
 (refine aw_ops (by kernel_rfl) (fun K hK => ?_); simp (disch := first | omega | (simp only [lnS]; try omega)) [-getElem?_pos, -getElem?_neg, h6, h8, -notTuple, hnt, hvc, q1, nt_intG, nt_aggG, -xindexAddr, q2, -xload, q4, hbl, all_zl, hzb]; refine hK _ _ ?_; clear hK K)
 obtain ⟨hlow2, hb2⟩ := boxed (H := G') ub 107
 generalize G' ++ [some ⟨ub, 107, none⟩] = G2 at *
 have hlowG2 : Low G.length G G2 := ⟨fun j hj => (hlow2.1 j (by omega)).trans (hlow'.1 j hj), by have := hlow2.2; omega⟩
 have hb3 : hget G2 H.length = some ⟨us, 41, none⟩ := (hlow2.1 _ (by omega)).trans hb'
 have hg2 := hget_lt hb2
 generalize G'.length = g at *
 ·have bad : boxB o.author b = false → boxesB o = false := fun hf => by
   have : o.boxes.all (boxB o.author) = false := by
    rw [List.all_eq_false]
    exact ⟨b, List.mem_of_getElem? g1, by rw [hf]; decide⟩
   simp [boxesB, this]
  refine aw_seq ?_
  refine aw_ops (by kernel_rfl) (fun K hK => ?_)
  simp (disch := first | omega | (simp only [lnS]; try omega)) [-getElem?_pos, -getElem?_neg, hb2, d0]
  refine ⟨by kernel_rfl, ac_of_vc (by simp [pv_iv, pv_int, pv_bool, pv_string, pv_tup2, pv_tup3, iv_plain, p2_int, p2_bool, p2_string]) (isMember_vc b.to) ?_⟩
  cases hme : memI b.to with
  | false =>
   try simp (disch := first | omega | (simp only [lnS]; try omega)) [-getElem?_pos, -getElem?_neg]
   refine hK _ _ ?_; clear hK K
   refine aw_t (by (first | (simp [eval_tmp, put_at]; done) | (simp [eval_tmp, put_at]; omega))) (by kernel_rfl) ?_
   refine aw_seq ?_
   (refine aw_ops (by kernel_rfl) (fun K hK => ?_); simp (disch := first | omega | (simp only [lnS]; try omega)) [-getElem?_pos, -getElem?_neg]; refine hK _ _ ?_; clear hK K)
   (refine aw_ret ?_; simp (disch := first | omega | (simp only [lnS]; try omega)) [-getElem?_pos, -getElem?_neg, thenQ_ret, scopeQ_ret, inBlockQ_ret, RQ, resL, resV])
   rw [bad (by simp [boxB, hme])]
  | true =>
   by_cases hto : b.to = o.author
   ·simp (disch := first | omega | (simp only [lnS]; try omega)) [-getElem?_pos, -getElem?_neg, h1, hb2, hb3, d0, c0, d35, hto]
    refine hK _ _ ?_; clear hK K
    refine aw_t (by (first | (simp [eval_tmp, put_at]; done) | (simp [eval_tmp, put_at]; omega))) (by kernel_rfl) ?_
    refine aw_seq ?_
    (refine aw_ops (by kernel_rfl) (fun K hK => ?_); simp (disch := first | omega | (simp only [lnS]; try omega)) [-getElem?_pos, -getElem?_neg]; refine hK _ _ ?_; clear hK K)
    (refine aw_ret ?_; simp (disch := first | omega | (simp only [lnS]; try omega)) [-getElem?_pos, -getElem?_neg, thenQ_ret, scopeQ_ret, inBlockQ_ret, RQ, resL, resV])
    rw [bad (by simp [boxB, hto])]
   ·have hto' : (b.to == o.author) = false := by simp [hto]
    by_cases hbd : 256 < b.body.size
    ·simp (disch := first | omega | (simp only [lnS]; try omega)) [-getElem?_pos, -getElem?_neg, h1, hb2, hb3, d0, c0, d35, hto, hto', hbd]
     refine hK _ _ ?_; clear hK K
     refine aw_t (by (first | (simp [eval_tmp, put_at]; done) | (simp [eval_tmp, put_at]; omega))) (by kernel_rfl) ?_
     refine aw_seq ?_
     (refine aw_ops (by kernel_rfl) (fun K hK => ?_); simp (disch := first | omega | (simp only [lnS]; try omega)) [-getElem?_pos, -getElem?_neg]; refine hK _ _ ?_; clear hK K)
     (refine aw_ret ?_; simp (disch := first | omega | (simp only [lnS]; try omega)) [-getElem?_pos, -getElem?_neg, thenQ_ret, scopeQ_ret, inBlockQ_ret, RQ, resL, resV])
     rw [bad (by simp [boxB, hbd])]
    ·simp (disch := first | omega | (simp only [lnS]; try omega)) [-getElem?_pos, -getElem?_neg, h1, hb2, hb3, d0, c0, d35, hto, hto', hbd]
     refine hK _ _ ?_; clear hK K
     refine aw_f (by (first | (simp [eval_tmp, put_at]; done) | (simp [eval_tmp, put_at]; omega))) (by kernel_rfl) ?_
     refine aw_skip ?_
     have hbok : boxB o.author b = true := by simp [boxB, hme, hto]; omega
     (refine aw_ops (by kernel_rfl) (fun K hK => ?_); simp (disch := first | omega | (simp only [lnS]; try omega)) [-getElem?_pos, -getElem?_neg, h8]; refine hK _ _ ?_; clear hK K)
     refine ⟨c - 1, by omega, i + 1, by omega, hlowG2, by (first | (simp [put_at, put_none, fr0_at, h1]; done) | rfl), by (first | (simp [put_at, put_none, fr0_at, h6]; done) | rfl), by (first | (simp [put_at, put_none, fr0_at, h7]; done) | rfl), by (first | (simp [put_at, put_none, fr0_at]; done) | rfl), fun k b' hk hg => ?_⟩
     by_cases e : k = i
     ·subst e
      rw [g1] at hg
      cases hg
      exact hbok
     ·exact hpre k b' (by omega) hg
theorem right_rc {γ : Nat → Option Nat} {H : AH} {us : List Value} {o : OpD} {pv wv bv : Value} (h : OpC H us o pv wv bv) (hw : o.Wf) : AC Try.prog H.length γ 74 #[.agg us.toArray] H (fun v' _ => v' = .bool (rightO o)) := by
 have hlen := h.len
 have c0 := h.c0
 have c3 := h.c3
 refine ac_of_aw Try.func74 rfl Try.ntmps74 Try.results74 (by simp) ?_
 refine aw_seq ?_
 (refine aw_ops (by kernel_rfl) (fun K hK => ?_); simp (disch := first | omega | (simp only [lnS]; try omega)) [-getElem?_pos, -getElem?_neg, hlen]; refine hK _ _ ?_; clear hK K)
 obtain ⟨hlow, hb⟩ := boxed (H := H) us 41
 generalize H ++ [some ⟨us, 41, none⟩] = G at *
 have hG := h.low (H' := G) hlow.1
 have hta : us.take 71 = us := List.take_of_length_le (by omega)
 have r1 := rightPlace_rc (γ := γ) hG hw
 have r2 := rightWho_rc (γ := γ) hG hw
 have r3 := rightKeys_rc (γ := γ) hG hw
 have r4 := rightText_rc (γ := γ) hG hw
 have r5 := rightBoxes_rc (γ := γ) hG hw
 refine aw_seq ?_
 refine aw_ops (by kernel_rfl) (fun K hK => ?_)
 by_cases k1 : 1 ≤ o.kind
 case neg =>
  simp (disch := first | omega | (simp only [lnS]; try omega)) [-getElem?_pos, -getElem?_neg, hb, c3, k1]
  refine hK _ _ ?_; clear hK K
  (refine aw_ret ?_; simp (disch := first | omega | (simp only [lnS]; try omega)) [-getElem?_pos, -getElem?_neg, thenQ_ret, scopeQ_ret, inBlockQ_ret, RQ, resL, resV])
  all_goals simp [rightO, k1]
 by_cases k2 : o.kind ≤ 7
 case neg =>
  simp (disch := first | omega | (simp only [lnS]; try omega)) [-getElem?_pos, -getElem?_neg, hb, c3, k1, k2]
  refine hK _ _ ?_; clear hK K
  (refine aw_ret ?_; simp (disch := first | omega | (simp only [lnS]; try omega)) [-getElem?_pos, -getElem?_neg, thenQ_ret, scopeQ_ret, inBlockQ_ret, RQ, resL, resV])
  all_goals simp [rightO, k1, k2]
 simp (disch := first | omega | (simp only [lnS]; try omega)) [-getElem?_pos, -getElem?_neg, hb, c3, c0, k1, k2]
 refine ⟨by kernel_rfl, ac_of_vc (by simp [pv_iv, pv_int, pv_bool, pv_string, pv_tup2, pv_tup3, iv_plain, p2_int, p2_bool, p2_string]) (isMember_vc o.author) ?_⟩
 cases k3 : memI o.author with
 | false =>
  try simp (disch := first | omega | (simp only [lnS]; try omega)) [-getElem?_pos, -getElem?_neg]
  refine hK _ _ ?_; clear hK K
  (refine aw_ret ?_; simp (disch := first | omega | (simp only [lnS]; try omega)) [-getElem?_pos, -getElem?_neg, thenQ_ret, scopeQ_ret, inBlockQ_ret, RQ, resL, resV])
  all_goals simp [rightO, k3]
 | true =>
 simp (disch := first | omega | (simp only [lnS]; try omega)) [-getElem?_pos, -getElem?_neg, hb, hlen, hta]
 refine ⟨by kernel_rfl, ac_of_rc r1 (by simp [pv_iv, pv_int, pv_bool, pv_string, pv_tup2, pv_tup3, iv_plain, p2_int, p2_bool, p2_string]) ?_⟩
 cases k4 : placeB o with
 | false =>
  try simp (disch := first | omega | (simp only [lnS]; try omega)) [-getElem?_pos, -getElem?_neg]
  refine hK _ _ ?_; clear hK K
  (refine aw_ret ?_; simp (disch := first | omega | (simp only [lnS]; try omega)) [-getElem?_pos, -getElem?_neg, thenQ_ret, scopeQ_ret, inBlockQ_ret, RQ, resL, resV])
  all_goals simp [rightO, k4]
 | true =>
 simp (disch := first | omega | (simp only [lnS]; try omega)) [-getElem?_pos, -getElem?_neg, hb, hlen, hta]
 refine ⟨by kernel_rfl, ac_of_rc r2 (by simp [pv_iv, pv_int, pv_bool, pv_string, pv_tup2, pv_tup3, iv_plain, p2_int, p2_bool, p2_string]) ?_⟩
 cases k5 : whoB o with
 | false =>
  try simp (disch := first | omega | (simp only [lnS]; try omega)) [-getElem?_pos, -getElem?_neg]
  refine hK _ _ ?_; clear hK K
  (refine aw_ret ?_; simp (disch := first | omega | (simp only [lnS]; try omega)) [-getElem?_pos, -getElem?_neg, thenQ_ret, scopeQ_ret, inBlockQ_ret, RQ, resL, resV])
  all_goals simp [rightO, k5]
 | true =>
 simp (disch := first | omega | (simp only [lnS]; try omega)) [-getElem?_pos, -getElem?_neg, hb, hlen, hta]
 refine ⟨by kernel_rfl, ac_of_rc r3 (by simp [pv_iv, pv_int, pv_bool, pv_string, pv_tup2, pv_tup3, iv_plain, p2_int, p2_bool, p2_string]) ?_⟩
 cases k6 : keysB o with
 | false =>
  try simp (disch := first | omega | (simp only [lnS]; try omega)) [-getElem?_pos, -getElem?_neg]
  refine hK _ _ ?_; clear hK K
  (refine aw_ret ?_; simp (disch := first | omega | (simp only [lnS]; try omega)) [-getElem?_pos, -getElem?_neg, thenQ_ret, scopeQ_ret, inBlockQ_ret, RQ, resL, resV])
  all_goals simp [rightO, k6]
 | true =>
 simp (disch := first | omega | (simp only [lnS]; try omega)) [-getElem?_pos, -getElem?_neg, hb, hlen, hta]
 refine ⟨by kernel_rfl, ac_of_rc r4 (by simp [pv_iv, pv_int, pv_bool, pv_string, pv_tup2, pv_tup3, iv_plain, p2_int, p2_bool, p2_string]) ?_⟩
 cases k7 : textOk o with
 | false =>
  try simp (disch := first | omega | (simp only [lnS]; try omega)) [-getElem?_pos, -getElem?_neg]
  refine hK _ _ ?_; clear hK K
  (refine aw_ret ?_; simp (disch := first | omega | (simp only [lnS]; try omega)) [-getElem?_pos, -getElem?_neg, thenQ_ret, scopeQ_ret, inBlockQ_ret, RQ, resL, resV])
  all_goals simp [rightO, k7]
 | true =>
 simp (disch := first | omega | (simp only [lnS]; try omega)) [-getElem?_pos, -getElem?_neg, hb, hlen, hta]
 refine ⟨by kernel_rfl, ac_of_rc r5 (by simp [pv_iv, pv_int, pv_bool, pv_string, pv_tup2, pv_tup3, iv_plain, p2_int, p2_bool, p2_string]) ?_⟩
 try simp (disch := first | omega | (simp only [lnS]; try omega)) [-getElem?_pos, -getElem?_neg]
 refine hK _ _ ?_; clear hK K
 (refine aw_ret ?_; simp (disch := first | omega | (simp only [lnS]; try omega)) [-getElem?_pos, -getElem?_neg, thenQ_ret, scopeQ_ret, inBlockQ_ret, RQ, resL, resV])
 all_goals simp [rightO, k1, k2, k3, k4, k5, k6, k7]
end
section
def wv (W : List Nat) : List Value := W.map fun x : Nat => Value.int .u64 (x : Int)
theorem wv_len (W : List Nat) : (wv W).length = W.length := by simp [wv]
theorem wv_get {W : List Nat} {j : Nat} (h : j < W.length) : (wv W)[j]? = some (.int .u64 (W.getD j 0 : Nat)) := by
 unfold wv
 rw [List.getElem?_map, List.getElem?_eq_getElem h, List.getD_eq_getElem?_getD, List.getElem?_eq_getElem h]
 rfl
theorem wv_set (W : List Nat) (j x : Nat) : (wv W).set j (.int .u64 (x : Nat)) = wv (W.set j x) := by simp [wv, List.map_set]
theorem preW_set {pre : List Value} {W : List Nat} {p j x : Nat} (hp : pre.length = p) : (pre ++ wv W).set (p + j) (.int .u64 (x : Nat)) = pre ++ wv (W.set j x) := by
 rw [List.set_append_right _ _ (by omega), hp, Nat.add_sub_cancel_left, wv_set]
theorem preW_get {pre : List Value} {W : List Nat} {p j : Nat} (hp : pre.length = p) (h : j < W.length) : (pre ++ wv W)[p + j]? = some (.int .u64 (W.getD j 0 : Nat)) := by
 rw [List.getElem?_append_right (by omega), hp, Nat.add_sub_cancel_left, wv_get h]
def hasW (W : List Nat) (i k : Nat) : Bool := (W.getD (2 * i + k / 64) 0).testBit (k % 64)
def addW (W : List Nat) (i k : Nat) : List Nat := W.set (2 * i + k / 64) (W.getD (2 * i + k / 64) 0 ||| 2 ^ (k % 64))
def joinW (W : List Nat) (i a b : Nat) : List Nat := (W.set (2 * i) (W.getD (2 * i) 0 ||| a)).set (2 * i + 1) (W.getD (2 * i + 1) 0 ||| b)
def Wd (W : List Nat) : Prop := ∀ x ∈ W, x < 2 ^ 64
theorem Wd.get {W : List Nat} (h : Wd W) (j : Nat) : W.getD j 0 < 2 ^ 64 := by
 rw [List.getD_eq_getElem?_getD]
 cases hj : W[j]? with
 | none => simp
 | some x => exact h x (List.mem_of_getElem? hj)
theorem Wd.set {W : List Nat} (h : Wd W) {j x : Nat} (hx : x < 2 ^ 64) : Wd (W.set j x) := fun y hy => by
 rcases List.mem_or_eq_of_mem_set hy with hh | rfl
 ·exact h y hh
 ·exact hx
theorem Wd.add {W : List Nat} (h : Wd W) (i k : Nat) : Wd (addW W i k) := h.set (Nat.or_lt_two_pow (h.get _) (Nat.pow_lt_pow_right (by omega) (by omega)))
theorem Wd.join {W : List Nat} (h : Wd W) (i : Nat) {a b : Nat} (ha : a < 2 ^ 64) (hb : b < 2 ^ 64) : Wd (joinW W i a b) := (h.set (Nat.or_lt_two_pow (h.get _) ha)).set (Nat.or_lt_two_pow (h.get _) hb)
theorem addW_len (W : List Nat) (i k : Nat) : (addW W i k).length = W.length := by simp [addW]
theorem joinW_len (W : List Nat) (i a b : Nat) : (joinW W i a b).length = W.length := by simp [joinW]
theorem getD_set {W : List Nat} {j j' x : Nat} (h : j < W.length) : (W.set j x).getD j' 0 = if j = j' then x else W.getD j' 0 := by
 rw [List.getD_eq_getElem?_getD, List.getD_eq_getElem?_getD, List.getElem?_set]
 by_cases e : j = j'
 ·subst e; simp [h]
 ·simp [e]
theorem hasW_add {W : List Nat} {i k i' k' : Nat} (hk : k < 128) (hk' : k' < 128) (hl : 2 * i + 1 < W.length) : hasW (addW W i k) i' k' = (hasW W i' k' || (decide (i = i') && decide (k = k'))) := by
 unfold hasW addW
 rw [getD_set (by omega)]
 by_cases e : 2 * i + k / 64 = 2 * i' + k' / 64
 ·rw [if_pos e, Nat.testBit_or, e, Nat.testBit_two_pow]
  have e1 : i = i' := by omega
  have e2 : k / 64 = k' / 64 := by omega
  have e3 : decide (k % 64 = k' % 64) = decide (k = k') := by
   by_cases h : k = k'
   ·subst h; simp
   ·have : ¬ k % 64 = k' % 64 := by omega
    simp [h, this]
  rw [e3]
  simp [e1]
 ·rw [if_neg e]
  have : (decide (i = i') && decide (k = k')) = false := by
   by_cases h1 : i = i'
   ·by_cases h2 : k = k'
    ·subst h1 h2; exact absurd rfl e
    ·simp [h2]
   ·simp [h1]
  rw [this, Bool.or_false]
theorem hasW_join {W : List Nat} {i a b i' k' : Nat} (hk' : k' < 128) (hl : 2 * i + 1 < W.length) : hasW (joinW W i a b) i' k' = (hasW W i' k' || (decide (i = i') && (if k' < 64 then a.testBit k' else b.testBit (k' - 64)))) := by
 unfold hasW joinW
 rw [getD_set (by simpa using hl), getD_set (by omega)]
 by_cases h1 : i = i'
 ·subst h1
  by_cases h2 : k' < 64
  ·have e1 : k' / 64 = 0 := by omega
   have e2 : k' % 64 = k' := by omega
   rw [e1, e2, if_neg (by omega), if_pos (by omega), Nat.testBit_or]
   simp [h2]
  ·have e1 : k' / 64 = 1 := by omega
   have e2 : k' % 64 = k' - 64 := by omega
   rw [e1, e2, if_pos rfl, Nat.testBit_or]
   simp [h2]
 ·rw [if_neg (by omega), if_neg (by omega)]
  simp [h1]
theorem toNat64 {n : Nat} (h : n < 2 ^ 64) : (BitVec.ofInt 64 (n : Int)).toNat = n := by
 rw [BitVec.toNat_ofInt]; omega
theorem wrap64n {n : Nat} (h : n < 2 ^ 64) : IntKind.u64.wrap (n : Int) = (n : Int) := by
 simp only [IntKind.wrap, IntKind.bits, IntKind.signed]
 simp
 omega
theorem or_nat64 {a b : Nat} (ha : a < 2 ^ 64) (hb : b < 2 ^ 64) : bitsOf .or .u64 (a : Int) (b : Int) = ((a ||| b : Nat) : Int) := by
 show IntKind.u64.wrap ((BitVec.ofInt 64 (a : Int) ||| BitVec.ofInt 64 (b : Int)).toNat : Int) = _
 rw [BitVec.toNat_or, toNat64 ha, toNat64 hb]
 exact wrap64n (Nat.or_lt_two_pow ha hb)
theorem and_one64 {a : Nat} (ha : a < 2 ^ 64) : bitsOf .and .u64 (a : Int) 1 = ((a % 2 : Nat) : Int) := by
 show IntKind.u64.wrap ((BitVec.ofInt 64 (a : Int) &&& BitVec.ofInt 64 1).toNat : Int) = _
 rw [BitVec.toNat_and, toNat64 ha]
 have : (BitVec.ofInt 64 1).toNat = 1 := rfl
 rw [this, Nat.and_one_is_mod]
 exact wrap64n (by omega)
theorem xb_quo (k : Nat) (hk : k < 128) : xbin Try.prog .quo 3 (.int .i64 (k : Nat)) (.int .i64 64) = some (.int .i64 ((k / 64 : Nat) : Int)) := by
 have h : ((k : Nat) : Int).tdiv 64 = ((k / 64 : Nat) : Int) := by rw [Int.tdiv_eq_ediv_of_nonneg (by omega)]; omega
 simp only [xbin, xint]
 simp only [if_true]
 rw [if_neg (by omega), h, wi64 (by omega)]
theorem xb_rem (k : Nat) (hk : k < 128) : xbin Try.prog .rem 3 (.int .i64 (k : Nat)) (.int .i64 64) = some (.int .i64 ((k % 64 : Nat) : Int)) := by
 have h : ((k : Nat) : Int).tmod 64 = ((k % 64 : Nat) : Int) := by rw [Int.tmod_eq_emod_of_nonneg (by omega)]; omega
 simp only [xbin, xint]
 simp only [if_true]
 rw [if_neg (by omega), h]
theorem xb_shl (t : Nat) (ht : t < 64) : xbin Try.prog .shl 111 (.int .u64 1) (.int .i64 (t : Nat)) = some (.int .u64 ((2 ^ t : Nat) : Int)) := by
 simp only [xbin]
 rw [if_neg (by omega)]
 have h1 : min (t : Int).toNat IntKind.u64.bits = t := by show min (t : Int).toNat 64 = t; omega
 rw [h1, Int.one_mul]
 have h2 : (2 : Int) ^ t = ((2 ^ t : Nat) : Int) := by simp
 rw [h2, wrap64n (Nat.pow_lt_pow_right (by omega) ht)]
theorem xb_or {a b : Nat} (ha : a < 2 ^ 64) (hb : b < 2 ^ 64) : xbin Try.prog .or 111 (.int .u64 (a : Nat)) (.int .u64 (b : Nat)) = some (.int .u64 ((a ||| b : Nat) : Int)) := by
 simp only [xbin, xint, if_true]
 rw [or_nat64 ha hb]
theorem xb_shr {a t : Nat} (ht : t < 64) : xbin Try.prog .shr 111 (.int .u64 (a : Nat)) (.int .i64 (t : Nat)) = some (.int .u64 ((a / 2 ^ t : Nat) : Int)) := by
 simp only [xbin]
 rw [if_neg (by omega)]
 have h1 : min (t : Int).toNat IntKind.u64.bits = t := by show min (t : Int).toNat 64 = t; omega
 rw [h1]
 have h2 : (2 : Int) ^ t = ((2 ^ t : Nat) : Int) := by simp
 rw [h2, Int.fdiv_eq_ediv_of_nonneg _ (Int.natCast_nonneg _)]
 rfl
theorem xb_and {a : Nat} (ha : a < 2 ^ 64) : xbin Try.prog .and 111 (.int .u64 (a : Nat)) (.int .u64 1) = some (.int .u64 ((a % 2 : Nat) : Int)) := by
 simp only [xbin, xint, if_true]
 rw [and_one64 ha]
theorem xb_eql (a : Nat) : xbin Try.prog .eql 111 (.int .u64 ((a : Nat) : Int)) (.int .u64 1) = some (.bool (decide (a = 1))) := by
 simp only [xbin, xint, if_true]
 congr 2
 by_cases h : a = 1
 ·subst h; rfl
 ·have : ¬ (a : Int) = 1 := by omega
  simp [h, this]
theorem testBit_div (a t : Nat) : a.testBit t = decide (a / 2 ^ t % 2 = 1) := Nat.testBit_eq_decide_div_mod_eq
attribute [local simp] wb_bool wb_undef with_lit XL_nil XL_cons XLc_val XLc_call step1_eq stepW_t stepW_f stepC_n stepC_s stepX_s stepX_n stepN_s calleeX xrecv oneV xop_eq xopR_s xopR_n wantedA_eq wantedG_n wantedG_s plain1_int plain1_bool plain1_string bits_i64 bits_u64 bits_u32 bits_u16 bits_u8 xeqA xagg xcmp xarr allK_iv num_iv calleeOf xread xeff xbin xint xnil xun xstr xload xconv xpart xfield xfieldAddr xindexAddr xindex bnd asInt? xslice xlen xmin xmax xbuild xfill xappend xapp2 xappstr xappmk xcap xcopy xcells eval_tmp eval_const put_at put_none fr0_at cells_agg cells_int cells_bool cells_string cells_ptr cells_slice notTuple tab iv_all hget_app hget_app0 hget_cons0 hget_cons set_app set_app0 setR setR_one QL_nil QL_cons QLc_val stepQ_t stepQ_f stepQC_n stepQC_s stepQX_s SL_nil SL_cons SLc_val stepS_t stepS_f ltT ltF leT leF eqT eqF ltTn ltFn leTn leFn eqTn eqFn beqT beqF bneT bneF wi64 wu64 wu32 wu16 wu8 tmodP tdivP hgetL hgetNe hgetEq setL nums_def nums_len Nat.succ_le_of_lt List.getElem?_cons_zero List.getElem?_cons_succ Option.getD_some Int.toNat_add Int.toNat_mul agM okM agB agI agS agP agL agA okB okI okS okP okSl okA
theorem add_ac {nro : Nat} {γ : Nat → Option Nat} {H : AH} {b p i k off : Nat} {pre : List Value} {W : List Nat} {T : TypeId} (hb : hget H b = some ⟨pre ++ wv W, T, none⟩) (hnro : nro ≤ b) (hp : pre.length = p) (hoff : off = p + 2 * i) (hw : Wd W) (hl : 2 * i + 1 < W.length) (hk : k < 128) :
  AC Try.prog nro γ 126 #[.pointer (some ⟨b, off, none⟩), .int .i64 (k : Nat)] H (fun v' H' => H' = H.set b (some ⟨pre ++ wv (addW W i k), T, none⟩)) := by
 have h1 := xb_quo k hk
 have h2 := xb_rem k hk
 have h3 := xb_shl (k % 64) (by omega)
 have h4 := xb_or (a := W.getD (2 * i + k / 64) 0) (b := 2 ^ (k % 64)) (hw.get _) (Nat.pow_lt_pow_right (by omega) (by omega))
 have hd : k / 64 < 2 := by omega
 have hc : (pre ++ wv W)[off + k / 64]? = some (.int .u64 (W.getD (2 * i + k / 64) 0 : Nat)) := by
  rw [hoff, Nat.add_assoc]
  exact preW_get hp (by omega)
 have hst : setR (pre ++ wv W) (off + k / 64) [.int .u64 ((W.getD (2 * i + k / 64) 0 ||| 2 ^ (k % 64) : Nat) : Int)] = pre ++ wv (addW W i k) := by
  rw [setR_one, hoff, Nat.add_assoc]
  exact preW_set hp
 have hcl : (pre ++ wv W).length = p + W.length := by rw [List.length_append, hp, wv_len]
 generalize W.getD (2 * i + k / 64) 0 = w0 at *
 generalize w0 ||| 2 ^ (k % 64) = w1 at *
 generalize pre ++ wv W = C at *
 generalize pre ++ wv (addW W i k) = C' at *
 generalize 2 ^ (k % 64) = t0 at *
 generalize k / 64 = kq at *
 generalize k % 64 = kr at *
 refine ac_of_aw Try.func126 rfl Try.ntmps126 Try.results126 (by simp) ?_
 (refine aw_plan [] [] [0, 1, 2, 3, 4, 5, 6, 7, 8, 9, 10, 11] 12 1 (by kernel_rfl) (by kernel_rfl) (by kernel_rfl) (fun K hK => ?_)); simp only [sel, List.getElem?_cons_succ, List.getElem?_cons_zero, List.drop_succ_cons, List.drop_zero]; simp (disch := first | omega | (simp only [lnS]; try omega)) [-getElem?_pos, -getElem?_neg, h1, h2, h3, h4, -xbin, hb, hd, hc, hcl, hst, PL_nil, plainB_lit, PL_cons, PLc_val, PLc_new, stepP_t, stepP_f, stepPC_n, stepPC_s, stepPX_s, stepPX_n, stepPV_n, stepPV_s, stepPA_t, stepPA_c, stepPA_l, stepPN_s, allocOp, reloc_sl, reloc_ptr, List.map_cons, List.map_nil, List.nil_append, List.append_assoc, List.cons_append, Nat.add_assoc]
 refine hK _ _ ?_; clear hK K
 exact ⟨[], _, rfl, rfl, rfl⟩
theorem has_rc {nro : Nat} {γ : Nat → Option Nat} {H : AH} {b p i k off : Nat} {pre : List Value} {W : List Nat} {T : TypeId} (hb : hget H b = some ⟨pre ++ wv W, T, none⟩) (hp : pre.length = p) (hoff : off = p + 2 * i) (hw : Wd W) (hl : 2 * i + 1 < W.length) (hk : k < 128) :
  AC Try.prog nro γ 128 #[.pointer (some ⟨b, off, none⟩), .int .i64 (k : Nat)] H (fun v' H' => H' = H ∧ v' = .bool (hasW W i k)) := by
 have h1 := xb_quo k hk
 have h2 := xb_rem k hk
 have h3 := xb_shr (a := W.getD (2 * i + k / 64) 0) (t := k % 64) (by omega)
 have h4 := xb_and (a := W.getD (2 * i + k / 64) 0 / 2 ^ (k % 64)) (Nat.lt_of_le_of_lt (Nat.div_le_self _ _) (hw.get _))
 have h5 := xb_eql (W.getD (2 * i + k / 64) 0 / 2 ^ (k % 64) % 2)
 have hd : k / 64 < 2 := by omega
 have hc : (pre ++ wv W)[off + k / 64]? = some (.int .u64 (W.getD (2 * i + k / 64) 0 : Nat)) := by
  rw [hoff, Nat.add_assoc]
  exact preW_get hp (by omega)
 have hcl : (pre ++ wv W).length = p + W.length := by rw [List.length_append, hp, wv_len]
 have he : hasW W i k = decide (W.getD (2 * i + k / 64) 0 / 2 ^ (k % 64) % 2 = 1) := testBit_div _ _
 rw [he]
 generalize W.getD (2 * i + k / 64) 0 = w0 at *
 generalize w0 / 2 ^ (k % 64) % 2 = r at *
 generalize w0 / 2 ^ (k % 64) = q at *
 generalize pre ++ wv W = C at *
 generalize k / 64 = kq at *
 generalize k % 64 = kr at *
 clear he
 refine ac_of_aw Try.func128 rfl Try.ntmps128 Try.results128 (by simp) ?_
 refine aw_seq ?_
 (refine aw_ops (by kernel_rfl) (fun K hK => ?_); simp (disch := first | omega | (simp only [lnS]; try omega)) [-getElem?_pos, -getElem?_neg]; refine hK _ _ ?_; clear hK K)
 refine aw_seq ?_
 (refine aw_ops (by kernel_rfl) (fun K hK => ?_); simp (disch := first | omega | (simp only [lnS]; try omega)) [-getElem?_pos, -getElem?_neg, h1, h2, h3, h4, h5, -xbin, hb, hd, hc, hcl]; refine hK _ _ ?_; clear hK K)
 (refine aw_ret ?_; simp (disch := first | omega | (simp only [lnS]; try omega)) [-getElem?_pos, -getElem?_neg, thenQ_ret, scopeQ_ret, inBlockQ_ret, RQ, resL, resV])
def jn (W : List Nat) (i : Nat) (L : List Nat) : Nat → List Nat
 | 0 => W
 | t + 1 => (jn W i L t).set (2 * i + t) ((jn W i L t).getD (2 * i + t) 0 ||| L.getD t 0)
theorem jn_two {W : List Nat} {i a c : Nat} (hl : 2 * i + 1 < W.length) : jn W i [a, c] 2 = joinW W i a c := by
 have e : (W.set (2 * i) (W.getD (2 * i) 0 ||| a)).getD (2 * i + 1) 0 = W.getD (2 * i + 1) 0 := by rw [getD_set (by omega), if_neg (by omega)]
 show ((W.set (2 * i + 0) (W.getD (2 * i + 0) 0 ||| a)).set (2 * i + 1) ((W.set (2 * i + 0) (W.getD (2 * i + 0) 0 ||| a)).getD (2 * i + 1) 0 ||| c)) = _
 rw [Nat.add_zero, e]
 rfl
theorem jn_len (W : List Nat) (i : Nat) (L : List Nat) (t : Nat) : (jn W i L t).length = W.length := by
 induction t with
 | zero => rfl
 | succ t ih => rw [jn, List.length_set, ih]
theorem jn_wd {W : List Nat} {i : Nat} {L : List Nat} (hw : Wd W) (hL : Wd L) (t : Nat) : Wd (jn W i L t) := by
 induction t with
 | zero => exact hw
 | succ t ih => exact ih.set (Nat.or_lt_two_pow (ih.get _) (hL.get _))
theorem join_ac {nro : Nat} {γ : Nat → Option Nat} {H : AH} {b p i off a c : Nat} {pre : List Value} {W : List Nat} {T : TypeId} (hb : hget H b = some ⟨pre ++ wv W, T, none⟩) (hnro : nro ≤ b) (hp : pre.length = p) (hoff : off = p + 2 * i) (hw : Wd W) (hl : 2 * i + 1 < W.length) (ha : a < 2 ^ 64) (hc : c < 2 ^ 64) :
  AC Try.prog nro γ 127 #[.pointer (some ⟨b, off, none⟩), .agg (wv [a, c]).toArray] H (fun v' H' => ∃ A, H' = H.set b (some ⟨pre ++ wv (joinW W i a c), T, none⟩) ++ [some A]) := by
 have hL : Wd [a, c] := fun x hx => by rcases List.mem_cons.1 hx with rfl | hx; exact ha; rcases List.mem_cons.1 hx with rfl | hx; exact hc; cases hx
 have hbl := hget_lt hb
 obtain ⟨A, hA⟩ : ∃ A : Blk, A = ⟨wv [a, c], 113, none⟩ := ⟨_, rfl⟩
 obtain ⟨V, hV⟩ : ∃ V, V = wv [a, c] := ⟨_, rfl⟩
 have hVl : V.length = 2 := by rw [hV]; rfl
 rw [← hV] at hA ⊢
 refine ac_of_aw Try.func127 rfl Try.ntmps127 Try.results127 (by simp) ?_
 refine aw_seq ?_
 (refine aw_ops (by kernel_rfl) (fun K hK => ?_); simp (disch := first | omega | (simp only [lnS]; try omega)) [-getElem?_pos, -getElem?_neg, hVl]; refine hK _ _ ?_; clear hK K)
 rw [← hA]
 refine aw_seq ?_
 (refine aw_ops (by kernel_rfl) (fun K hK => ?_); simp (disch := first | omega | (simp only [lnS]; try omega)) [-getElem?_pos, -getElem?_neg]; refine hK _ _ ?_; clear hK K)
 refine aw_block ?_
 refine aw_loop (fun k α G => ∃ t : Nat, t + k = 2 ∧ α 0 = .pointer (some ⟨b, off, none⟩) ∧ α 3 = .pointer (some ⟨H.length, 0, none⟩) ∧ α 5 = .int .i64 (t : Nat) ∧ G = H.set b (some ⟨pre ++ wv (jn W i [a, c] t), T, none⟩) ++ [some A]) 2 ?_ ?_
 ·refine ⟨0, rfl, by (first | (simp [put_at, put_none, fr0_at]; done) | rfl), by (first | (simp [put_at, put_none, fr0_at]; done) | rfl), by (first | (simp [put_at, put_none, fr0_at]; done) | rfl), ?_⟩
  rw [jn, hset_self hb]
 rintro k α G ⟨t, htk, h0, h3, h5, rfl⟩
 refine aw_seq ?_
 by_cases ht : t < 2
 case neg =>
  (refine aw_ops (by kernel_rfl) (fun K hK => ?_); simp (disch := first | omega | (simp only [lnS]; try omega)) [-getElem?_pos, -getElem?_neg, h5, ht]; refine hK _ _ ?_; clear hK K)
  refine aw_seq ?_
  refine aw_f (by (first | (simp [eval_tmp, put_at, ht]; done) | (simp [eval_tmp, put_at, ht]; omega))) (by kernel_rfl) ?_
  refine aw_exit ?_
  obtain rfl : t = 2 := by omega
  rw [jn_two hl]
  exact ⟨[], _, rfl, rfl, A, rfl⟩
 (refine aw_ops (by kernel_rfl) (fun K hK => ?_); simp (disch := first | omega | (simp only [lnS]; try omega)) [-getElem?_pos, -getElem?_neg, h5, ht]; refine hK _ _ ?_; clear hK K)
 refine aw_seq ?_
 refine aw_t (by (first | (simp [eval_tmp, put_at, ht]; done) | (simp [eval_tmp, put_at, ht]; omega))) (by kernel_rfl) ?_
 refine aw_skip ?_
 refine aw_seq ?_
 refine aw_block ?_
 refine aw_seq ?_
 (refine aw_ops (by kernel_rfl) (fun K hK => ?_); simp (disch := first | omega | (simp only [lnS]; try omega)) [-getElem?_pos, -getElem?_neg, h5]; refine hK _ _ ?_; clear hK K)
 have hwt := jn_wd hw hL (i := i) t
 have hc1 : (pre ++ wv (jn W i [a, c] t))[off + t]? = some (.int .u64 ((jn W i [a, c] t).getD (2 * i + t) 0 : Nat)) := by
  rw [hoff, Nat.add_assoc]
  exact preW_get hp (by rw [jn_len]; omega)
 have hc2 : V[t]? = some (.int .u64 ([a, c].getD t 0 : Nat)) := by rw [hV]; exact wv_get (by simp; omega)
 have h4 := xb_or (a := (jn W i [a, c] t).getD (2 * i + t) 0) (b := [a, c].getD t 0) (hwt.get _) (hL.get _)
 have hst : setR (pre ++ wv (jn W i [a, c] t)) (off + t) [.int .u64 (((jn W i [a, c] t).getD (2 * i + t) 0 ||| [a, c].getD t 0 : Nat) : Int)] = pre ++ wv (jn W i [a, c] (t + 1)) := by
  rw [setR_one, hoff, Nat.add_assoc]
  exact preW_set hp
 have hcl : (pre ++ wv (jn W i [a, c] t)).length = p + W.length := by rw [List.length_append, hp, wv_len, jn_len]
 generalize (jn W i [a, c] t).getD (2 * i + t) 0 = w0 at *
 generalize [a, c].getD t 0 = w1 at *
 generalize w0 ||| w1 = w2 at *
 obtain ⟨C, hC⟩ : ∃ C, C = pre ++ wv (jn W i [a, c] t) := ⟨_, rfl⟩
 obtain ⟨C', hC'⟩ : ∃ C, C = pre ++ wv (jn W i [a, c] (t + 1)) := ⟨_, rfl⟩
 rw [← hC] at hc1 hst hcl ⊢
 rw [← hC'] at hst
 have hbG : hget (H.set b (some ⟨C, T, none⟩) ++ [some A]) b = some ⟨C, T, none⟩ := by rw [hget_left (by simpa using hbl), hget_set_eq hbl]
 have hnG : hget (H.set b (some ⟨C, T, none⟩) ++ [some A]) H.length = some ⟨V, 113, none⟩ := by
  have := hget_app0 (H.set b (some ⟨C, T, none⟩)) [some A]
  rw [List.length_set] at this
  rw [this, hA]; rfl
 have hgs : (H.set b (some ⟨C, T, none⟩) ++ [some A]).set b (some ⟨C', T, none⟩) = H.set b (some ⟨pre ++ wv (jn W i [a, c] (t + 1)), T, none⟩) ++ [some A] := by
  rw [List.set_append_left _ _ (by simpa using hbl), List.set_set, hC']
 generalize H.set b (some ⟨C, T, none⟩) ++ [some A] = G at *
 generalize H.length = hn at *
 (refine aw_plan [] [] [0, 1, 2, 3, 4, 5, 6, 7, 8, 9, 10] 11 1 (by kernel_rfl) (by kernel_rfl) (by kernel_rfl) (fun K hK => ?_)); simp only [sel, List.getElem?_cons_succ, List.getElem?_cons_zero, List.drop_succ_cons, List.drop_zero]; simp (disch := first | omega | (simp only [lnS]; try omega)) [-getElem?_pos, -getElem?_neg, h0, h3, h4, -xbin, hbG, hnG, ht, hc1, hc2, hcl, hVl, hst, PL_nil, plainB_lit, PL_cons, PLc_val, PLc_new, stepP_t, stepP_f, stepPC_n, stepPC_s, stepPX_s, stepPX_n, stepPV_n, stepPV_s, stepPA_t, stepPA_c, stepPA_l, stepPN_s, allocOp, reloc_sl, reloc_ptr, List.map_cons, List.map_nil, List.nil_append, List.append_assoc, List.cons_append, Nat.add_assoc]
 refine hK _ _ ?_; clear hK K
 (refine aw_ops (by kernel_rfl) (fun K hK => ?_); simp (disch := first | omega | (simp only [lnS]; try omega)) [-getElem?_pos, -getElem?_neg, h5]; refine hK _ _ ?_; clear hK K)
 exact ⟨k - 1, by omega, t + 1, by omega, by (first | (simp [put_at, put_none, fr0_at, h0]; done) | rfl), by (first | (simp [put_at, put_none, fr0_at, h3]; done) | rfl), by (first | (simp [put_at, put_none, fr0_at]; done) | rfl), hgs⟩
end
section
def OpD.no : OpD := ⟨0, 0, [], 0, [], [], [], ByteArray.empty, []⟩
def NodeD.no : NodeD := ⟨[], OpD.no, []⟩
def nd (l : List NodeD) (i : Nat) : NodeD := l.getD i NodeD.no
theorem nd_get {l : List NodeD} {i : Nat} (h : i < l.length) : l[i]? = some (nd l i) := by
 unfold nd
 rw [List.getD_eq_getElem?_getD, List.getElem?_eq_getElem h]; rfl
theorem nd_eq {l : List NodeD} {i : Nat} {x : NodeD} (h : l[i]? = some x) : nd l i = x := by
 unfold nd
 rw [List.getD_eq_getElem?_getD, h]; rfl
def findN (l : List NodeD) (i : Nat) (k : List Int) : Option Nat := (List.range i).find? fun a => (nd l a).id == k
theorem findN_lt {l : List NodeD} {i a : Nat} {k : List Int} (h : findN l i k = some a) : a < i := by
 have := List.mem_of_find?_eq_some h
 exact List.mem_range.1 this
theorem findN_id {l : List NodeD} {i a : Nat} {k : List Int} (h : findN l i k = some a) : (nd l a).id = k := by
 have := List.find?_some h
 simpa using this
theorem findN_zero (l : List NodeD) (k : List Int) : findN l 0 k = none := rfl
theorem findN_succ (l : List NodeD) (i : Nat) (k : List Int) : findN l (i + 1) k = match findN l i k with | some a => some a | none => if (nd l i).id = k then some i else none := by
 unfold findN
 rw [List.range_succ, List.find?_append]
 cases h : (List.range i).find? fun a => (nd l a).id == k with
 | some a => rfl
 | none =>
  simp only [Option.none_or, List.find?_cons, List.find?_nil]
  by_cases e : (nd l i).id = k
  ·simp [e]
  ·have : ((nd l i).id == k) = false := by simpa using e
   simp [this, e]
def kyv (k : List Int) : Value := .agg (iv .u8 k).toArray
theorem keyEq_kyv (a b : List Int) : keyEq (kyv a) (kyv b) = (a == b) := by
 show ((iv .u8 a).toArray.toList.map num == (iv .u8 b).toArray.toList.map num) = _
 rw [List.toList_toArray, List.toList_toArray, num_iv, num_iv]
theorem mfind_app (k : Value) (l : List (Value × Value)) (p : Value × Value) : mfind k (l ++ [p]) = match mfind k l with | some i => some i | none => if keyEq k p.1 = true then some l.length else none := by
 induction l with
 | nil => simp [mfind]
 | cons q l ih =>
  rw [List.cons_append, mfind, mfind]
  by_cases e : keyEq k q.1 = true
  ·rw [if_pos e, if_pos e]
  ·rw [if_neg e, if_neg e, ih]
   cases mfind k l with
   | some i => rfl
   | none =>
    by_cases e2 : keyEq k p.1 = true
    ·simp [e2]
    ·simp [e2]
structure MapP (E : List (Value × Value)) (l : List NodeD) (i : Nat) : Prop where
 ok : mapOk Try.prog 38 E = true
 get : ∀ k, mget (kyv k) E = (findN l i k).map fun a => .int .i64 ((a : Nat) : Int)
theorem MapP.zero (l : List NodeD) : MapP [] l 0 := ⟨rfl, fun k => rfl⟩
theorem iv_allK (l : List Int) : allK .u8 (iv .u8 l) = true := by
 induction l with
 | nil => rfl
 | cons z l ih => simp [iv, allK] at ih ⊢; try exact ih
theorem kyv_ok {k : List Int} (h : k.length = 32) : keyOk Try.prog 38 (kyv k) = true := by
 unfold keyOk kyv
 have : und Try.prog 38 = .array 32 5 := by kernel_rfl
 rw [this]
 have h2 : und Try.prog 5 = .int .u8 := by kernel_rfl
 simp only [h2]
 rw [iv_allK]
 have h3 : gl Try.prog 38 = true := by kernel_rfl
 have h4 : szt Try.prog 5 = 1 := by kernel_rfl
 rw [h3, h4]
 simp [h, iv_length]
theorem mfind_none {k : Value} {E : List (Value × Value)} (h : mget k E = none) : mfind k E = none := by
 unfold mget at h
 cases hm : mfind k E with
 | none => rfl
 | some j =>
  obtain ⟨hj, p, hp, _⟩ := mfind_lt hm
  rw [hm] at h
  simp [hp] at h
theorem MapP.put {E : List (Value × Value)} {l : List NodeD} {i : Nat} (h : MapP E l i) (hk : (nd l i).id.length = 32) (hn : findN l i (nd l i).id = none) : MapP (mput (kyv (nd l i).id) (.int .i64 (i : Nat)) E) l (i + 1) := by
 have hm : mfind (kyv (nd l i).id) E = none := mfind_none (by rw [h.get, hn]; rfl)
 have hp : mput (kyv (nd l i).id) (.int .i64 (i : Nat)) E = E ++ [(kyv (nd l i).id, .int .i64 (i : Nat))] := by simp [mput, hm]
 rw [hp]
 refine ⟨?_, fun k => ?_⟩
 ·have := h.ok
  unfold mapOk at this ⊢
  rw [List.all_append, this]
  simp [kyv_ok hk]
 ·have hg := h.get k
  unfold mget at hg ⊢
  rw [mfind_app, findN_succ]
  cases hf : findN l i k with
  | some a =>
   rw [hf] at hg
   cases hm2 : mfind (kyv k) E with
   | none => rw [hm2] at hg; cases hg
   | some j =>
    obtain ⟨hj, p, hpp, _⟩ := mfind_lt hm2
    rw [hm2] at hg
    simp only [Option.bind_some, Option.map_some] at hg ⊢
    rw [List.getElem?_append_left hj]
    exact hg
  | none =>
   rw [hf] at hg
   have hm2 : mfind (kyv k) E = none := mfind_none (by unfold mget; exact hg)
   rw [hm2]
   simp only []
   rw [keyEq_kyv]
   by_cases e : (nd l i).id = k
   ·subst e; simp
   ·have : (k == (nd l i).id) = false := by simpa using fun e2 => e e2.symm
    simp [this, e]
structure NdA (H : AH) (v : Value) (l : List NodeD) : Prop where
 nt : notTuple v = true
 cs : v.cells = #[v]
 len : xlen Try.prog 22 v = some (.int .i64 l.length)
 wf : ∀ x ∈ l, x.Wf
 at_ : ∀ i x, l[i]? = some x → ∃ j q b us pv wv bv qv, xindexAddr Try.prog 22 v (.int .i64 (i : Nat)) = some (.pointer (some ⟨j, q, none⟩)) ∧ hget H j = some b ∧ q + 104 ≤ b.cells.length ∧ (∀ c, c < 104 → b.cells[q + c]? = us[c]?) ∧ us = (b.cells.drop q).take 104 ∧ NodeC H us x pv wv bv qv
theorem NodeC.low {H H' : AH} {us : List Value} {x : NodeD} {pv wv bv qv : Value} (h : NodeC H us x pv wv bv qv) (hl : ∀ j, j < H.length → hget H' j = hget H j) : NodeC H' us x pv wv bv qv := by
 exact ⟨h.len, h.id, h.op.low hl, h.c103, h.past.low hl⟩
attribute [local simp] wb_bool wb_undef with_lit XL_nil XL_cons XLc_val XLc_call step1_eq stepW_t stepW_f stepC_n stepC_s stepX_s stepX_n stepN_s calleeX xrecv oneV xop_eq xopR_s xopR_n wantedA_eq wantedG_n wantedG_s plain1_int plain1_bool plain1_string bits_i64 bits_u64 bits_u32 bits_u16 bits_u8 xeqA xagg xcmp xarr allK_iv num_iv calleeOf xread xeff xbin xint xnil xun xstr xload xconv xpart xfield xfieldAddr xindexAddr xindex bnd asInt? xslice xlen xmin xmax xbuild xfill xappend xapp2 xappstr xappmk xcap xcopy xcells eval_tmp eval_const put_at put_none fr0_at cells_agg cells_int cells_bool cells_string cells_ptr cells_slice notTuple tab iv_all hget_app hget_app0 hget_cons0 hget_cons set_app set_app0 setR setR_one QL_nil QL_cons QLc_val stepQ_t stepQ_f stepQC_n stepQC_s stepQX_s SL_nil SL_cons SLc_val stepS_t stepS_f ltT ltF leT leF eqT eqF ltTn ltFn leTn leFn eqTn eqFn beqT beqF bneT bneF wi64 wu64 wu32 wu16 wu8 tmodP tdivP hgetL hgetNe hgetEq setL nums_def nums_len Nat.succ_le_of_lt List.getElem?_cons_zero List.getElem?_cons_succ Option.getD_some Int.toNat_add Int.toNat_mul agM okM agB agI agS agP agL agA okB okI okS okP okSl okA
theorem NdV.nda {H : AH} {v : Value} {l : List NodeD} (h : NdV H v l) (hl : ∀ x ∈ l, x.Wf) : NdA H v l := by
 refine ⟨(h.acc hl).nt, (h.acc hl).cs, (h.acc hl).len, hl, fun i z hz => ?_⟩
 have hzw := hl z (List.mem_of_getElem? hz)
 obtain ⟨j, b, us, hv, hb, hle, hx, hus, hul, hle2, hc, hval⟩ := val_at (P := Try.prog) (t := 22) (e := 50) (sz := 104) h (by simp) (by simp) (by omega) (fun row hr => by
  obtain ⟨y, hy, rfl⟩ := List.mem_map.1 hr
  have h1 := (hl y hy).id.1
  have h2 := (hl y hy).op.of.1
  have h3 := (hl y hy).op.check.1
  simp [NodeD.row, OpD.row, kd, h1, h2, h3]) (i := i) (row := z.row) (by rw [List.getElem?_map, hz]; rfl)
 obtain ⟨pv, wv, bv, qv, hcc⟩ := node_c hzw hval
 exact ⟨j, i * 104, b, us, pv, wv, bv, qv, hx, hb, hle2, hc, hus, hcc⟩
end
section
def lkC (nv : Value) (mi : Nat) (W : List Nat) : List Value := [nv, .map (some mi)] ++ wv W
def One (b : Nat) (H H' : AH) : Prop := H.length ≤ H'.length ∧ ∀ j, j < H.length → j ≠ b → hget H' j = hget H j
theorem One.refl (b : Nat) (H : AH) : One b H H := ⟨Nat.le_refl _, fun _ _ _ => rfl⟩
theorem One.trans {b : Nat} {A B C : AH} (h : One b A B) (h' : One b B C) : One b A C := ⟨Nat.le_trans h.1 h'.1, fun j hj hb => (h'.2 j (by have := h.1; omega) hb).trans (h.2 j hj hb)⟩
theorem One.set {b : Nat} (H : AH) (x : Option Blk) : One b H (H.set b x) := ⟨by simp, fun j hj hb => hget_set_ne (fun e => hb e.symm)⟩
theorem One.push {b : Nat} (H L : AH) : One b H (H ++ L) := ⟨by simp, fun j hj hb => hget_left hj⟩
theorem One.low {b n : Nat} {H0 H H' : AH} (hn : n ≤ b) (h0 : Low n H0 H) (h : One b H H') (hl : n ≤ H.length) : Low n H0 H' := ⟨fun j hj => (h.2 j (by omega) (by omega)).trans (h0.1 j hj), by have := h0.2; have := h.1; omega⟩
theorem look_some {H : AH} {mi : Nat} {E : List (Value × Value)} {l : List NodeD} {i a : Nat} {k : List Int} (hm : hget H mi = some (mblk 110 E)) (hE : MapP E l i) (hk : k.length = 32) (hf : findN l i k = some a) : xlookup Try.prog 110 (.map (some mi)) (.agg (iv .u8 k).toArray) true H = some (.tuple #[.int .i64 (a : Nat), .bool true]) := by
 have h1 : und Try.prog 110 = .map 38 3 := by kernel_rfl
 have h2 := hE.get k
 rw [hf] at h2
 have h3 := kyv_ok hk
 unfold kyv at h2 h3
 unfold xlookup
 simp only [h1, hm, Option.bind_some, ents_mblk, h2, h3, hE.ok, Option.map_some]
 simp
theorem look_none {H : AH} {mi : Nat} {E : List (Value × Value)} {l : List NodeD} {i : Nat} {k : List Int} (hm : hget H mi = some (mblk 110 E)) (hE : MapP E l i) (hk : k.length = 32) (hf : findN l i k = none) : xlookup Try.prog 110 (.map (some mi)) (.agg (iv .u8 k).toArray) true H = some (.tuple #[.int .i64 0, .bool false]) := by
 have h1 : und Try.prog 110 = .map 38 3 := by kernel_rfl
 have h2 := hE.get k
 rw [hf] at h2
 have h3 := kyv_ok hk
 have h4 : zer Try.prog 3 = some (.int .i64 0) := by kernel_rfl
 have h5 : plain2 (.int .i64 0) = true := rfl
 unfold kyv at h2 h3
 unfold xlookup
 simp only [h1, hm, Option.bind_some, ents_mblk, h2, h3, hE.ok, Option.map_none, h4, h5]
 simp
theorem wv_two {nv : Value} {mi a : Nat} {V : List Nat} (h : 2 * a + 1 < V.length) : ((lkC nv mi V).drop (2 + a * 2)).take 2 = wv [V.getD (2 * a) 0, V.getD (2 * a + 1) 0] := by
 have e : (lkC nv mi V).drop (2 + a * 2) = (wv V).drop (2 * a) := by
  show (([nv, Value.map (some mi)] : List Value) ++ wv V).drop _ = _
  rw [List.drop_append, List.drop_eq_nil_of_le (by simp), List.nil_append]
  congr 1
  simp; omega
 have hl := wv_len V
 rw [e, List.drop_eq_getElem_cons (by omega), List.take_succ_cons, List.drop_eq_getElem_cons (by omega), List.take_succ_cons, List.take_zero]
 have g1 := wv_get (W := V) (j := 2 * a) (by omega)
 have g2 := wv_get (W := V) (j := 2 * a + 1) h
 rw [List.getElem?_eq_getElem (by omega)] at g1 g2
 simp only [Option.some.injEq] at g1 g2
 rw [g1, g2]
 rfl
def ownB (l : List NodeD) (W : List Nat) (i : Nat) (ps : List (List Int)) (k : Nat) : Bool := ps.any fun p => match findN l i p with | some a => decide (a = k) || hasW W a k | none => false
theorem ownB_app (l : List NodeD) (W : List Nat) (i : Nat) (ps : List (List Int)) (p : List Int) (k : Nat) : ownB l W i (ps ++ [p]) k = (ownB l W i ps k || match findN l i p with | some a => decide (a = k) || hasW W a k | none => false) := by
 simp [ownB, List.any_append]
theorem hasW_words {W : List Nat} {a k : Nat} (hk : k < 128) : hasW W a k = (if k < 64 then (W.getD (2 * a) 0).testBit k else (W.getD (2 * a + 1) 0).testBit (k - 64)) := by
 unfold hasW
 by_cases h : k < 64
 ·have e1 : k / 64 = 0 := by omega
  have e2 : k % 64 = k := by omega
  rw [if_pos h, e1, e2, Nat.add_zero]
 ·have e1 : k / 64 = 1 := by omega
  have e2 : k % 64 = k - 64 := by omega
  rw [if_neg h, e1, e2]
theorem par_step {l : List NodeD} {W V : List Nat} {i a r k : Nat} {ps : List (List Int)} {pk : List Int} (hrel : ∀ r k, r < 96 → k < 128 → hasW V r k = (hasW W r k || (decide (r = i) && ownB l W i ps k))) (hf : findN l i pk = some a) (hai : a < i) (hi : i ≤ 95) (hl : V.length = 192) (hr : r < 96) (hk : k < 128) :
  hasW (joinW (addW V i a) i ((addW V i a).getD (2 * a) 0) ((addW V i a).getD (2 * a + 1) 0)) r k = (hasW W r k || (decide (r = i) && ownB l W i (ps ++ [pk]) k)) := by
 have e0 := hasW_join (W := addW V i a) (i := i) (a := (addW V i a).getD (2 * a) 0) (b := (addW V i a).getD (2 * a + 1) 0) (i' := r) (k' := k) hk (by rw [addW_len]; omega)
 rw [← hasW_words hk, hasW_add (by omega) hk (by omega), hasW_add (by omega) hk (by omega), hrel r k hr hk, hrel a k (by omega) hk] at e0
 have e1 : decide (a = i) = false := by simp; omega
 have e1' : decide (i = a) = false := by simp; omega
 rw [e0, ownB_app, hf, e1, e1']
 by_cases h : r = i
 ·subst h
  simp only [decide_true, Bool.true_and, Bool.false_and, Bool.or_false]
  cases hasW W r k <;> cases ownB l W r ps k <;> cases hasW W a k <;> cases decide (a = k) <;> rfl
 ·have e2 : decide (r = i) = false := by simpa using h
  have e3 : decide (i = r) = false := by simpa using fun e => h e.symm
  rw [e2, e3]
  simp
def ParQ (l : List NodeD) (i b : Nat) (nv : Value) (mi : Nat) (W : List Nat) (H : AH) (v' : Value) (H' : AH) : Prop := One b H H' ∧ ∃ ok : Bool, v' = .bool ok ∧ ok = (nd l i).op.parents.all (fun p => (findN l i p).isSome) ∧ (ok = true → ∃ W', hget H' b = some ⟨lkC nv mi W', 116, none⟩ ∧ Wd W' ∧ W'.length = 192 ∧ ∀ r k, r < 96 → k < 128 → hasW W' r k = (hasW W r k || (decide (r = i) && ownB l W i (nd l i).op.parents k)))
attribute [local simp] wb_bool wb_undef with_lit XL_nil XL_cons XLc_val XLc_call step1_eq stepW_t stepW_f stepC_n stepC_s stepX_s stepX_n stepN_s calleeX xrecv oneV xop_eq xopR_s xopR_n wantedA_eq wantedG_n wantedG_s plain1_int plain1_bool plain1_string bits_i64 bits_u64 bits_u32 bits_u16 bits_u8 xeqA xagg xcmp xarr allK_iv num_iv calleeOf xread xeff xbin xint xnil xun xstr xload xconv xpart xfield xfieldAddr xindexAddr xindex bnd asInt? xslice xlen xmin xmax xbuild xfill xappend xapp2 xappstr xappmk xcap xcopy xcells eval_tmp eval_const put_at put_none fr0_at cells_agg cells_int cells_bool cells_string cells_ptr cells_slice notTuple tab iv_all hget_app hget_app0 hget_cons0 hget_cons set_app set_app0 setR setR_one QL_nil QL_cons QLc_val stepQ_t stepQ_f stepQC_n stepQC_s stepQX_s SL_nil SL_cons SLc_val stepS_t stepS_f ltT ltF leT leF eqT eqF ltTn ltFn leTn leFn eqTn eqFn beqT beqF bneT bneF wi64 wu64 wu32 wu16 wu8 tmodP tdivP hgetL hgetNe hgetEq setL nums_def nums_len Nat.succ_le_of_lt List.getElem?_cons_zero List.getElem?_cons_succ Option.getD_some Int.toNat_add Int.toNat_mul agM okM agB agI agS agP agL agA okB okI okS okP okSl okA
theorem parents_ac {γ : Nat → Option Nat} {H0 H : AH} {nv : Value} {l : List NodeD} {b mi i : Nat} {W : List Nat} {E : List (Value × Value)} (hN : NdA H0 nv l) (hlow : Low H0.length H0 H) (hnb : H0.length ≤ b) (hbm : b ≠ mi) (hb : hget H b = some ⟨lkC nv mi W, 116, none⟩) (hm : hget H mi = some (mblk 110 E)) (hE : MapP E l i) (hw : Wd W) (hW : W.length = 192) (hi : i < l.length) (hl : l.length ≤ 96) :
  AC Try.prog H0.length γ 75 #[.pointer (some ⟨b, 0, none⟩), .int .i64 (i : Nat)] H (ParQ l i b nv mi W H) := by
 obtain ⟨hnt, hvc, hxl, hwf, hat⟩ := hN
 obtain ⟨j, q, bb, us, pv, wv', bv, qv, hx, hbb, hq, hcell, hus, hC⟩ := hat i _ (nd_get hi)
 have hwfi := hwf _ (List.mem_of_getElem? (nd_get hi))
 have hks : KsV H0 pv (nd l i).op.parents := hC.op.parents
 have hacc := hks.acc (fun k hk => (hwfi.op.parents k hk).1)
 have hjl := hget_lt hbb
 have hbG : hget H j = some bb := (hlow.1 j hjl).trans hbb
 have hcp : bb.cells[q + 34]? = some pv := by
  rw [hcell 34 (by omega)]
  have := hC.op.c2
  rwa [List.getElem?_take_of_lt (by omega), List.getElem?_drop] at this
 obtain ⟨C, hCe⟩ : ∃ C, C = lkC nv mi W := ⟨_, rfl⟩
 have hc0 : C[0]? = some nv := by rw [hCe]; rfl
 have hcl : C.length = 194 := by rw [hCe]; simp [lkC, wv_len, hW]
 have hb' := hb
 rw [← hCe] at hb'
 have hil : (i : Nat) ≤ 95 := by omega
 refine ac_of_aw Try.func75 rfl Try.ntmps75 Try.results75 (by simp) ?_
 refine aw_seq ?_
 (refine aw_ops (by kernel_rfl) (fun K hK => ?_); simp (disch := first | omega | (simp only [lnS]; try omega)) [-getElem?_pos, -getElem?_neg]; refine hK _ _ ?_; clear hK K)
 refine aw_seq ?_
 refine aw_seq ?_
 (refine aw_ops (by kernel_rfl) (fun K hK => ?_); simp (disch := first | omega | (simp only [lnS]; try omega)) [-getElem?_pos, -getElem?_neg, hb', hc0, hcl, -notTuple, hnt, hvc, hacc.nt, hacc.cs, nt_intG, -xindexAddr, hx, -xlen, hacc.len, hbG, hcp]; refine hK _ _ ?_; clear hK K)
 refine aw_block ?_
 refine aw_loop (fun c α G => ∃ (t : Nat) (V : List Nat), t + c = (nd l i).op.parents.length ∧ α 0 = .pointer (some ⟨b, 0, none⟩) ∧ α 1 = .int .i64 (i : Nat) ∧ α 17 = pv ∧ α 18 = .int .i64 ((nd l i).op.parents.length : Nat) ∧ α 19 = .int .i64 (t : Nat) ∧ One b H G ∧ hget G b = some ⟨lkC nv mi V, 116, none⟩ ∧ Wd V ∧ V.length = 192 ∧ ((nd l i).op.parents.take t).all (fun p => (findN l i p).isSome) = true ∧ ∀ r k, r < 96 → k < 128 → hasW V r k = (hasW W r k || (decide (r = i) && ownB l W i ((nd l i).op.parents.take t) k))) (nd l i).op.parents.length ?_ ?_
 ·exact ⟨0, W, by omega, by (first | (simp [put_at, put_none, fr0_at]; done) | rfl), by (first | (simp [put_at, put_none, fr0_at]; done) | rfl), by (first | (simp [put_at, put_none, fr0_at]; done) | rfl), by (first | (simp [put_at, put_none, fr0_at]; done) | rfl), by (first | (simp [put_at, put_none, fr0_at]; done) | rfl), One.refl _ _, hb, hw, hW, rfl, fun r k _ _ => by simp [ownB]⟩
 rintro c α G ⟨t, V, htc, h0, h1, h17, h18, h19, hone, hbV, hwV, hVl, hall, hrel⟩
 obtain ⟨n, hn⟩ : ∃ n, n = (nd l i).op.parents.length := ⟨_, rfl⟩
 rw [← hn] at htc h18
 refine aw_seq ?_
 by_cases ht : t < n
 case neg =>
  (refine aw_ops (by kernel_rfl) (fun K hK => ?_); simp (disch := first | omega | (simp only [lnS]; try omega)) [-getElem?_pos, -getElem?_neg, h18, h19, ht]; refine hK _ _ ?_; clear hK K)
  refine aw_seq ?_
  refine aw_f (by (first | (simp [eval_tmp, put_at, ht]; done) | (simp [eval_tmp, put_at, ht]; omega))) (by kernel_rfl) ?_
  refine aw_exit ?_
  obtain rfl : t = n := by omega
  rw [hn, List.take_length] at hall
  refine aw_seq ?_
  (refine aw_ops (by kernel_rfl) (fun K hK => ?_); simp (disch := first | omega | (simp only [lnS]; try omega)) [-getElem?_pos, -getElem?_neg]; refine hK _ _ ?_; clear hK K)
  (refine aw_ret ?_; simp (disch := first | omega | (simp only [lnS]; try omega)) [-getElem?_pos, -getElem?_neg, thenQ_ret, scopeQ_ret, inBlockQ_ret, RQ, resL, resV])
  refine ⟨hone, true, rfl, hall.symm, fun _ => ⟨V, hbV, hwV, hVl, fun r k hr hk => ?_⟩⟩
  have := hrel r k hr hk
  rw [hn, List.take_length] at this
  exact this
 have hlen : t < (nd l i).op.parents.length := by omega
 have hm63 : (nd l i).op.parents.length ≤ 9223372036854775807 := by have := hwfi.op.plen; simp only [maxLen] at this; omega
 obtain ⟨p, x, p1, p2, p3, p4, p5⟩ := hacc.at_ t hlen
 subst p4
 obtain ⟨pk, hpk⟩ : ∃ pk, pk = (nd l i).op.parents.getD t [] := ⟨_, rfl⟩
 rw [← hpk] at p5 p3
 have hpm : (nd l i).op.parents[t]? = some pk := by rw [hpk, List.getD_eq_getElem?_getD, List.getElem?_eq_getElem hlen]; rfl
 have hpl : pk.length = 32 := (hwfi.op.parents pk (List.mem_of_getElem? hpm)).1
 have htake : (nd l i).op.parents.take (t + 1) = (nd l i).op.parents.take t ++ [pk] := by rw [List.take_add_one, hpm]; rfl
 have hlowG : Low H0.length H0 G := hone.low hnb hlow hlow.2
 have p5 := p5 G hlowG
 have hivl : (iv .u8 pk).length = 32 := by rw [iv_length, hpl]
 have hzb : setR (iv .u8 (zl 32)) 0 (iv .u8 pk) = iv .u8 pk := setR_all _ _ (by simp [hivl])
 have hmG : hget G mi = some (mblk 110 E) := (hone.2 mi (hget_lt hm) (fun e => hbm e.symm)).trans hm
 (refine aw_ops (by kernel_rfl) (fun K hK => ?_); simp (disch := first | omega | (simp only [lnS]; try omega)) [-getElem?_pos, -getElem?_neg, h18, h19, ht]; refine hK _ _ ?_; clear hK K)
 refine aw_seq ?_
 refine aw_t (by (first | (simp [eval_tmp, put_at, ht]; done) | (simp [eval_tmp, put_at, ht]; omega))) (by kernel_rfl) ?_
 refine aw_skip ?_
 refine aw_seq ?_
 refine aw_block ?_
 refine aw_seq ?_
 have hlG := hlowG.2
 (refine aw_ops (by kernel_rfl) (fun K hK => ?_); simp (disch := first | omega | (simp only [lnS]; try omega)) [-getElem?_pos, -getElem?_neg, h17, h19, -notTuple, hacc.nt, hacc.cs, p1, p3, nt_intG, -xindexAddr, p2, -xload, p5, hivl, all_zl, hzb, hlG]; refine hK _ _ ?_; clear hK K)
 have hbl := hget_lt hbV
 obtain ⟨hlow2, hb2⟩ := boxed (H := G) (iv .u8 pk) 38
 have hone2 : One b H (G ++ [some ⟨iv .u8 pk, 38, none⟩]) := hone.trans (One.push G _)
 have hbV2 := hget_left' (L := [some ⟨iv .u8 pk, 38, none⟩]) hbV
 have hmG2 := hget_left' (L := [some ⟨iv .u8 pk, 38, none⟩]) hmG
 obtain ⟨g, hg⟩ : ∃ g, g = G.length := ⟨_, rfl⟩
 rw [← hg] at hb2 ⊢
 generalize G ++ [some ⟨iv .u8 pk, 38, none⟩] = G2 at *
 have hlowG2 : Low H0.length H0 G2 := hone2.low hnb hlow hlow.2
 have hlG2 := hlowG2.2
 have hko := kyv_ok hpl
 have hmo := hE.ok
 have hmg := hE.get pk
 have hta : (iv .u8 pk).take 32 = iv .u8 pk := List.take_of_length_le (by omega)
 obtain ⟨CV, hCV⟩ : ∃ C, C = lkC nv mi V := ⟨_, rfl⟩
 have hv1 : CV[1]? = some (.map (some mi)) := by rw [hCV]; rfl
 have hvl : CV.length = 194 := by rw [hCV]; simp [lkC, wv_len, hVl]
 have hbV3 := hbV2
 rw [← hCV] at hbV3
 refine aw_seq ?_
 cases hf : findN l i pk with
 | none =>
  have hlk := look_none hmG2 hE hpl hf
  (refine aw_plan [] [] [0, 1, 2, 3, 4, 5, 6, 7, 8, 9, 10] 11 0 (by kernel_rfl) (by kernel_rfl) (by kernel_rfl) (fun K hK => ?_)); simp only [sel, List.getElem?_cons_succ, List.getElem?_cons_zero, List.drop_succ_cons, List.drop_zero]; simp (disch := first | omega | (simp only [lnS]; try omega)) [-getElem?_pos, -getElem?_neg, h0, hbV3, hv1, hvl, hb2, hivl, hta, hlk, PL_nil, plainB_lit, PL_cons, PLc_val, PLc_new, stepP_t, stepP_f, stepPC_n, stepPC_s, stepPX_s, stepPX_n, stepPV_n, stepPV_s, stepPA_t, stepPA_c, stepPA_l, stepPN_s, allocOp, reloc_sl, reloc_ptr, List.map_cons, List.map_nil, List.nil_append, List.append_assoc, List.cons_append, Nat.add_assoc]
  refine hK _ _ ?_; clear hK K
  refine aw_seq ?_
  refine aw_seq ?_
  (refine aw_ops (by kernel_rfl) (fun K hK => ?_); simp (disch := first | omega | (simp only [lnS]; try omega)) [-getElem?_pos, -getElem?_neg]; refine hK _ _ ?_; clear hK K)
  refine aw_t (by (first | (simp [eval_tmp, put_at]; done) | (simp [eval_tmp, put_at]; omega))) (by kernel_rfl) ?_
  refine aw_seq ?_
  (refine aw_ops (by kernel_rfl) (fun K hK => ?_); simp (disch := first | omega | (simp only [lnS]; try omega)) [-getElem?_pos, -getElem?_neg]; refine hK _ _ ?_; clear hK K)
  (refine aw_ret ?_; simp (disch := first | omega | (simp only [lnS]; try omega)) [-getElem?_pos, -getElem?_neg, thenQ_ret, scopeQ_ret, inBlockQ_ret, RQ, resL, resV])
  refine ⟨hone2, false, rfl, ?_, fun h => by cases h⟩
  rw [eq_comm, List.all_eq_false]
  exact ⟨pk, List.mem_of_getElem? hpm, by rw [hf]; simp⟩
 | some a =>
  have hlk := look_some hmG2 hE hpl hf
  have hai := findN_lt hf
  (refine aw_plan [] [] [0, 1, 2, 3, 4, 5, 6, 7, 8, 9, 10] 11 0 (by kernel_rfl) (by kernel_rfl) (by kernel_rfl) (fun K hK => ?_)); simp only [sel, List.getElem?_cons_succ, List.getElem?_cons_zero, List.drop_succ_cons, List.drop_zero]; simp (disch := first | omega | (simp only [lnS]; try omega)) [-getElem?_pos, -getElem?_neg, h0, hbV3, hv1, hvl, hb2, hivl, hta, hlk, PL_nil, plainB_lit, PL_cons, PLc_val, PLc_new, stepP_t, stepP_f, stepPC_n, stepPC_s, stepPX_s, stepPX_n, stepPV_n, stepPV_s, stepPA_t, stepPA_c, stepPA_l, stepPN_s, allocOp, reloc_sl, reloc_ptr, List.map_cons, List.map_nil, List.nil_append, List.append_assoc, List.cons_append, Nat.add_assoc]
  refine hK _ _ ?_; clear hK K
  refine aw_seq ?_
  refine aw_seq ?_
  (refine aw_ops (by kernel_rfl) (fun K hK => ?_); simp (disch := first | omega | (simp only [lnS]; try omega)) [-getElem?_pos, -getElem?_neg]; refine hK _ _ ?_; clear hK K)
  refine aw_f (by (first | (simp [eval_tmp, put_at]; done) | (simp [eval_tmp, put_at]; omega))) (by kernel_rfl) ?_
  refine aw_skip ?_
  refine aw_seq ?_
  refine aw_ops (by kernel_rfl) (fun K hK => ?_)
  simp (disch := first | omega | (simp only [lnS]; try omega)) [-getElem?_pos, -getElem?_neg, h0, h1, hbV3, hvl, hil]
  refine ⟨by kernel_rfl, (add_ac (pre := [nv, .map (some mi)]) (W := V) (i := i) (p := 2) hbV2 (by omega) rfl (by omega) hwV (by omega) (by omega)).mono ?_⟩
  rintro _ _ rfl
  refine hK _ _ ?_; clear hK K
  have hone3 : One b H (G2.set b (some ⟨lkC nv mi (addW V i a), 116, none⟩)) := hone2.trans (One.set G2 _)
  have hbG3 : hget (G2.set b (some ⟨lkC nv mi (addW V i a), 116, none⟩)) b = some ⟨lkC nv mi (addW V i a), 116, none⟩ := hget_set_eq (hget_lt hbV2)
  have hle : (G2.set b (some ⟨lkC nv mi (addW V i a), 116, none⟩)).length = G2.length := by simp
  show AW _ _ _ _ _ _ _ (G2.set b (some ⟨lkC nv mi (addW V i a), 116, none⟩))
  generalize G2.set b (some ⟨lkC nv mi (addW V i a), 116, none⟩) = G3 at *
  have hwA : Wd (addW V i a) := hwV.add i a
  have hlA : (addW V i a).length = 192 := by rw [addW_len, hVl]
  have hst := fun r k hr hk => par_step (l := l) (W := W) (r := r) (k := k) hrel hf hai hil hVl hr hk
  generalize addW V i a = V1 at *
  have hld : ((lkC nv mi V1).drop (2 + a * 2)).take 2 = wv [V1.getD (2 * a) 0, V1.getD (2 * a + 1) 0] := wv_two (by omega)
  have hx1 := hwA.get (2 * a)
  have hx2 := hwA.get (2 * a + 1)
  have hbG4 := hbG3
  obtain ⟨C1, hC1⟩ : ∃ C, C = lkC nv mi V1 := ⟨_, rfl⟩
  have hc1l : C1.length = 194 := by rw [hC1]; simp [lkC, wv_len, hlA]
  rw [← hC1] at hbG4 hld
  generalize V1.getD (2 * a) 0 = x1 at *
  generalize V1.getD (2 * a + 1) 0 = x2 at *
  obtain ⟨XV, hXV⟩ : ∃ X, X = wv [x1, x2] := ⟨_, rfl⟩
  rw [← hXV] at hld
  have ha95 : a ≤ 95 := by omega
  have jc := join_ac (nro := H0.length) (γ := γ) (pre := [nv, .map (some mi)]) (W := V1) (i := i) (p := 2) (off := 2 + i * 2) hbG3 hnb rfl (by omega) hwA (by omega) hx1 hx2
  rw [← hXV] at jc
  (refine aw_plan [] [] [0, 1, 2, 3, 4, 5, 6, 7, 8, 9, 10] 11 1 (by kernel_rfl) (by kernel_rfl) (by kernel_rfl) (fun K hK => ?_)); simp only [sel, List.getElem?_cons_succ, List.getElem?_cons_zero, List.drop_succ_cons, List.drop_zero]; simp (disch := first | omega | (simp only [lnS]; try omega)) [-getElem?_pos, -getElem?_neg, h0, h1, hbG4, hc1l, hil, ha95, hld, PL_nil, plainB_lit, PL_cons, PLc_val, PLc_new, stepP_t, stepP_f, stepPC_n, stepPC_s, stepPX_s, stepPX_n, stepPV_n, stepPV_s, stepPA_t, stepPA_c, stepPA_l, stepPN_s, allocOp, reloc_sl, reloc_ptr, List.map_cons, List.map_nil, List.nil_append, List.append_assoc, List.cons_append, Nat.add_assoc]
  refine ⟨by kernel_rfl, jc.mono ?_⟩
  rintro _ _ ⟨A, rfl⟩
  try simp (disch := first | omega | (simp only [lnS]; try omega)) [-getElem?_pos, -getElem?_neg]
  refine hK _ _ ?_; clear hK K
  have hone4 : One b H (G3.set b (some ⟨lkC nv mi (joinW V1 i x1 x2), 116, none⟩) ++ [some A]) := (hone3.trans (One.set G3 _)).trans (One.push _ _)
  have hbG5 : hget (G3.set b (some ⟨lkC nv mi (joinW V1 i x1 x2), 116, none⟩) ++ [some A]) b = some ⟨lkC nv mi (joinW V1 i x1 x2), 116, none⟩ := by
   have := hget_lt hbG3
   rw [hget_left (by simpa using this), hget_set_eq this]
  show AW _ _ _ _ _ _ _ (G3.set b (some ⟨lkC nv mi (joinW V1 i x1 x2), 116, none⟩) ++ [some A])
  generalize G3.set b (some ⟨lkC nv mi (joinW V1 i x1 x2), 116, none⟩) ++ [some A] = G5 at *
  (refine aw_ops (by kernel_rfl) (fun K hK => ?_); simp (disch := first | omega | (simp only [lnS]; try omega)) [-getElem?_pos, -getElem?_neg, h19]; refine hK _ _ ?_; clear hK K)
  refine ⟨c - 1, by omega, t + 1, joinW V1 i x1 x2, by omega, by (first | (simp [put_at, put_none, fr0_at, h0]; done) | rfl), by (first | (simp [put_at, put_none, fr0_at, h1]; done) | rfl), by (first | (simp [put_at, put_none, fr0_at, h17]; done) | rfl), by rw [← hn]; (first | (simp [put_at, put_none, fr0_at, h18]; done) | rfl), by (first | (simp [put_at, put_none, fr0_at]; done) | rfl), hone4, hbG5, hwA.join i hx1 hx2, by rw [joinW_len, hlA], ?_, fun r k hr hk => ?_⟩
  ·rw [htake, List.all_append, hall]
   simp [hf]
  ·rw [htake]
   exact hst r k hr hk
end
section
structure Cut (H : AH) (v : Value) (l : List Int) (S : Nat → Value) : Prop where
 zero : S 0 = v
 nt : ∀ c, c ≤ l.length → notTuple (S c) = true ∧ (S c).cells = #[S c] ∧ xlen Try.prog 23 (S c) = some (.int .i64 ((l.length - c : Nat) : Int))
 at_ : ∀ c, c < l.length → (∃ p, notTuple p = true ∧ xindexAddr Try.prog 23 (S c) (.int .i64 0) = some p ∧ ∀ G : AH, Low H.length H G → xload Try.prog 3 p G = some (.int .i64 (l.getD c 0))) ∧ ∀ G : AH, xslice Try.prog 23 (S c) (some (.int .i64 1)) none G = some (S (c + 1))
attribute [local simp] wb_bool wb_undef with_lit XL_nil XL_cons XLc_val XLc_call step1_eq stepW_t stepW_f stepC_n stepC_s stepX_s stepX_n stepN_s calleeX xrecv oneV xop_eq xopR_s xopR_n wantedA_eq wantedG_n wantedG_s plain1_int plain1_bool plain1_string bits_i64 bits_u64 bits_u32 bits_u16 bits_u8 xeqA xagg xcmp xarr allK_iv num_iv calleeOf xread xeff xbin xint xnil xun xstr xload xconv xpart xfield xfieldAddr xindexAddr xindex bnd asInt? xslice xlen xmin xmax xbuild xfill xappend xapp2 xappstr xappmk xcap xcopy xcells eval_tmp eval_const put_at put_none fr0_at cells_agg cells_int cells_bool cells_string cells_ptr cells_slice notTuple tab iv_all hget_app hget_app0 hget_cons0 hget_cons set_app set_app0 setR setR_one QL_nil QL_cons QLc_val stepQ_t stepQ_f stepQC_n stepQC_s stepQX_s SL_nil SL_cons SLc_val stepS_t stepS_f ltT ltF leT leF eqT eqF ltTn ltFn leTn leFn eqTn eqFn beqT beqF bneT bneF wi64 wu64 wu32 wu16 wu8 tmodP tdivP hgetL hgetNe hgetEq setL nums_def nums_len Nat.succ_le_of_lt List.getElem?_cons_zero List.getElem?_cons_succ Option.getD_some Int.toNat_add Int.toNat_mul agM okM agB agI agS agP agL agA okB okI okS okP okSl okA
theorem InV.cut {H : AH} {v : Value} {l : List Int} (h : InV H v l) : ∃ S, Cut H v l S := by
 have hacc := h.acc
 by_cases h0 : l.length = 0
 ·refine ⟨fun _ => v, rfl, fun c hc => ⟨hacc.nt, hacc.cs, ?_⟩, fun c hc => by omega⟩
  rw [hacc.len]
  obtain rfl : c = 0 := by omega
  rfl
 ·have hsz : ∀ row ∈ l.map (fun z => [CD.int .i64 z]), row.length = 1 := fun row hr => by
   obtain ⟨y, _, rfl⟩ := List.mem_map.1 hr; rfl
  have hz : l[0]? = some (l.getD 0 0) := by rw [List.getD_eq_getElem?_getD, List.getElem?_eq_getElem (by omega)]; rfl
  obtain ⟨j, b, us, hv, hb, hle, hx, hus, hul, hle2, hc, hval⟩ := val_at (P := Try.prog) (t := 23) (e := 3) (sz := 1) h (by simp) (by simp) (by omega) hsz (i := 0) (row := [.int .i64 (l.getD 0 0)]) (by rw [List.getElem?_map, hz]; rfl)
  rw [List.length_map] at hv
  refine ⟨fun c => if c < l.length then .slice (some ⟨j, c, none⟩) (l.length - c) (l.length - c) else .slice (some ⟨j, l.length - 1, some 0⟩) 0 0, ?_, fun c hc => ?_, fun c hc => ⟨⟨.pointer (some ⟨j, c, none⟩), rfl, ?_, fun G hg => ?_⟩, fun G => ?_⟩⟩
  ·show (if 0 < l.length then _ else _) = v
   rw [if_pos (by omega), hv]
   rfl
  ·by_cases h : c < l.length
   ·simp only [h, if_true]
    refine ⟨rfl, rfl, ?_⟩
    unfold xlen
    simp
   ·simp only [h, if_false]
    refine ⟨rfl, rfl, ?_⟩
    unfold xlen
    simp
    omega
  ·simp only [hc, if_true]
   unfold xindexAddr
   simp
   omega
  ·have hzc : l[c]? = some (l.getD c 0) := by rw [List.getD_eq_getElem?_getD, List.getElem?_eq_getElem hc]; rfl
   obtain ⟨j', b', us', hv', hb', hle', hx', hus', hul', hle2', hc', hval'⟩ := val_at (P := Try.prog) (t := 23) (e := 3) (sz := 1) h (by simp) (by simp) (by omega) hsz (i := c) (row := [.int .i64 (l.getD c 0)]) (by rw [List.getElem?_map, hzc]; rfl)
   rw [List.length_map] at hv'
   rw [hv] at hv'
   cases hv'
   rw [hb] at hb'
   cases hb'
   obtain ⟨u, r, rfl, v1, n1⟩ := hval'.cons
   obtain rfl := n1.nil
   have hcell : b.cells[c]? = some (.int .i64 (l.getD c 0)) := by
    have := hc' 0 (by omega)
    rw [Nat.mul_one, Nat.add_zero] at this
    rw [this, val_int v1]; rfl
   have hbG : hget G j = some b := (hg.1 j (hget_lt hb)).trans hb
   simp [xload, hbG, hcell]
  ·simp only [hc, if_true]
   unfold xslice
   by_cases h1 : c + 1 < l.length
   ·simp [bnd, h1]
    have h2 : ¬ ((l.length - c : Nat) : Int) = 1 := by omega
    rw [if_neg h2]
    refine ⟨by omega, ?_⟩
    congr 1 <;> omega
   ·simp [bnd, h1]
    have h2 : ((l.length - c : Nat) : Int) = 1 := by omega
    rw [if_pos h2]
    refine ⟨by omega, ?_⟩
    have : c = l.length - 1 := by omega
    rw [this]
def markL (W : List Nat) (i : Nat) (n : Nat) : List Int := ((List.range n).filter (hasW W i)).map fun k : Nat => (k : Int)
theorem markL_succ (W : List Nat) (i n : Nat) : markL W i (n + 1) = markL W i n ++ (if hasW W i n = true then [(n : Int)] else []) := by
 unfold markL
 rw [List.range_succ, List.filter_append, List.map_append]
 by_cases h : hasW W i n = true
 ·simp [h]
 ·simp [h]
theorem markL_pre (W : List Nat) (i : Nat) {n m : Nat} (h : n ≤ m) : ∃ r, markL W i m = markL W i n ++ r := by
 induction m with
 | zero =>
  obtain rfl : n = 0 := by omega
  exact ⟨[], by simp⟩
 | succ m ih =>
  by_cases e : n = m + 1
  ·subst e; exact ⟨[], by simp⟩
  ·obtain ⟨r, hr⟩ := ih (by omega)
   rw [markL_succ, hr, List.append_assoc]
   exact ⟨_, rfl⟩
theorem past_rc {nro : Nat} {γ : Nat → Option Nat} {H0 H : AH} {nv : Value} {l : List NodeD} {b mi i : Nat} {W : List Nat} (hN : NdA H0 nv l) (hlow : Low H0.length H0 H) (hb : hget H b = some ⟨lkC nv mi W, 116, none⟩) (hw : Wd W) (hW : W.length = 192) (hi : i < l.length) (hl : l.length ≤ 96) :
  AC Try.prog nro γ 76 #[.pointer (some ⟨b, 0, none⟩), .int .i64 (i : Nat)] H (fun v' H' => H' = H ∧ v' = .bool (decide ((nd l i).past = markL W i i))) := by
 obtain ⟨hnt, hvc, hxl, hwf, hat⟩ := hN
 obtain ⟨j, q, bb, us, pv, wv', bv, qv, hx, hbb, hq, hcell, hus, hC⟩ := hat i _ (nd_get hi)
 have hwfi := hwf _ (List.mem_of_getElem? (nd_get hi))
 obtain ⟨P, hP⟩ : ∃ P, P = (nd l i).past := ⟨_, rfl⟩
 have hins : InV H0 qv P := hP ▸ hC.past
 obtain ⟨S, hS⟩ := hins.cut
 have hm63 : P.length ≤ 9223372036854775807 := by rw [hP]; have := hwfi.plen; simp only [maxLen] at this; omega
 have hjl := hget_lt hbb
 have hbG : hget H j = some bb := (hlow.1 j hjl).trans hbb
 have hcp : bb.cells[q + 103]? = some qv := by rw [hcell 103 (by omega)]; exact hC.c103
 obtain ⟨C, hCe⟩ : ∃ C, C = lkC nv mi W := ⟨_, rfl⟩
 have hc0 : C[0]? = some nv := by rw [hCe]; rfl
 have hcl : C.length = 194 := by rw [hCe]; simp [lkC, wv_len, hW]
 have hb' := hb
 rw [← hCe] at hb'
 have hil : (i : Nat) ≤ 95 := by omega
 have hnt0 := (hS.nt 0 (by omega)).1
 have hcs0 := (hS.nt 0 (by omega)).2.1
 rw [hS.zero] at hnt0 hcs0
 rw [← hP]
 refine ac_of_aw Try.func76 rfl Try.ntmps76 Try.results76 (by simp) ?_
 refine aw_seq ?_
 (refine aw_ops (by kernel_rfl) (fun K hK => ?_); simp (disch := first | omega | (simp only [lnS]; try omega)) [-getElem?_pos, -getElem?_neg]; refine hK _ _ ?_; clear hK K)
 refine aw_seq ?_
 (refine aw_ops (by kernel_rfl) (fun K hK => ?_); simp (disch := first | omega | (simp only [lnS]; try omega)) [-getElem?_pos, -getElem?_neg, hb', hc0, hcl, -notTuple, hnt, hvc, hnt0, hcs0, nt_intG, -xindexAddr, hx, hbG, hcp]; refine hK _ _ ?_; clear hK K)
 refine aw_seq ?_
 refine aw_seq ?_
 (refine aw_ops (by kernel_rfl) (fun K hK => ?_); simp (disch := first | omega | (simp only [lnS]; try omega)) [-getElem?_pos, -getElem?_neg]; refine hK _ _ ?_; clear hK K)
 refine aw_block ?_
 refine aw_loop (fun c α G => ∃ (t e : Nat), t + c = i ∧ H = G ∧ e ≤ P.length ∧ α 0 = .pointer (some ⟨b, 0, none⟩) ∧ α 1 = .int .i64 (i : Nat) ∧ α 5 = S e ∧ α 15 = .int .i64 (i : Nat) ∧ α 16 = .int .i64 (t : Nat) ∧ markL W i t = P.take e) i ?_ ?_
 ·exact ⟨0, 0, by omega, rfl, by omega, by (first | (simp [put_at, put_none, fr0_at]; done) | rfl), by (first | (simp [put_at, put_none, fr0_at]; done) | rfl), by (first | (simp [put_at, put_none, fr0_at, hS.zero]; done) | rfl), by (first | (simp [put_at, put_none, fr0_at]; done) | rfl), by (first | (simp [put_at, put_none, fr0_at]; done) | rfl), rfl⟩
 rintro c α G ⟨t, e, htc, rfl, he, h0, h1, h5, h15, h16, hpre⟩
 obtain ⟨n1, n2, n3⟩ := hS.nt e he
 refine aw_seq ?_
 by_cases ht : t < i
 case neg =>
  (refine aw_ops (by kernel_rfl) (fun K hK => ?_); simp (disch := first | omega | (simp only [lnS]; try omega)) [-getElem?_pos, -getElem?_neg, h15, h16, ht]; refine hK _ _ ?_; clear hK K)
  refine aw_seq ?_
  refine aw_f (by (first | (simp [eval_tmp, put_at, ht]; done) | (simp [eval_tmp, put_at, ht]; omega))) (by kernel_rfl) ?_
  refine aw_exit ?_
  obtain rfl : t = i := by omega
  refine aw_seq ?_
  have hdec : decide (P = markL W t t) = decide (((P.length - e : Nat) : Int) = 0) := by
   rw [hpre]
   by_cases h : e = P.length
   ·subst h; simp
   ·have h1 : ¬ P = P.take e := fun h2 => by
     have := congrArg List.length h2
     rw [List.length_take] at this; omega
    have h2 : ¬ ((P.length - e : Nat) : Int) = 0 := by omega
    simp only [h1, h2]
  rw [hdec]
  generalize P.length - e = pe at *
  (refine aw_ops (by kernel_rfl) (fun K hK => ?_); simp (disch := first | omega | (simp only [lnS]; try omega)) [-getElem?_pos, -getElem?_neg, h5, -notTuple, n1, n2, nt_intG, -xlen, n3]; refine hK _ _ ?_; clear hK K)
  (refine aw_ret ?_; simp (disch := first | omega | (simp only [lnS]; try omega)) [-getElem?_pos, -getElem?_neg, thenQ_ret, scopeQ_ret, inBlockQ_ret, RQ, resL, resV])
  rw [Bool.eq_iff_iff]
  simp
 (refine aw_ops (by kernel_rfl) (fun K hK => ?_); simp (disch := first | omega | (simp only [lnS]; try omega)) [-getElem?_pos, -getElem?_neg, h15, h16, ht]; refine hK _ _ ?_; clear hK K)
 refine aw_seq ?_
 refine aw_t (by (first | (simp [eval_tmp, put_at, ht]; done) | (simp [eval_tmp, put_at, ht]; omega))) (by kernel_rfl) ?_
 refine aw_skip ?_
 refine aw_seq ?_
 refine aw_block ?_
 refine aw_seq ?_
 (refine aw_ops (by kernel_rfl) (fun K hK => ?_); simp (disch := first | omega | (simp only [lnS]; try omega)) [-getElem?_pos, -getElem?_neg, h16]; refine hK _ _ ?_; clear hK K)
 refine aw_seq ?_
 refine aw_seq ?_
 refine aw_ops (by kernel_rfl) (fun K hK => ?_)
 simp (disch := first | omega | (simp only [lnS]; try omega)) [-getElem?_pos, -getElem?_neg, h0, h1, hb', hcl, hil]
 refine ⟨by kernel_rfl, (has_rc (nro := nro) (γ := γ) (pre := [nv, .map (some mi)]) (W := W) (i := i) (p := 2) (k := t) hb rfl (by omega) hw (by omega) (by omega)).mono ?_⟩
 rintro _ H9 ⟨e9, rfl⟩
 subst H9
 have hsu := markL_succ W i t
 obtain ⟨rest, hrest⟩ := markL_pre W i (n := t + 1) (m := i) (by omega)
 cases hh : hasW W i t with
 | false =>
  rw [hh] at hsu
  try simp (disch := first | omega | (simp only [lnS]; try omega)) [-getElem?_pos, -getElem?_neg]
  refine hK _ _ ?_; clear hK K
  refine aw_t (by (first | (simp [eval_tmp, put_at]; done) | (simp [eval_tmp, put_at]; omega))) (by kernel_rfl) ?_
  refine aw_exit ?_
  (refine aw_ops (by kernel_rfl) (fun K hK => ?_); simp (disch := first | omega | (simp only [lnS]; try omega)) [-getElem?_pos, -getElem?_neg, h16]; refine hK _ _ ?_; clear hK K)
  exact ⟨c - 1, by omega, t + 1, e, by omega, rfl, he, by (first | (simp [put_at, put_none, fr0_at, h0]; done) | rfl), by (first | (simp [put_at, put_none, fr0_at, h1]; done) | rfl), by (first | (simp [put_at, put_none, fr0_at, h5]; done) | rfl), by (first | (simp [put_at, put_none, fr0_at, h15]; done) | rfl), by (first | (simp [put_at, put_none, fr0_at]; done) | rfl), by rw [hsu, hpre]; simp⟩
 | true =>
  rw [hh, if_pos rfl, hpre] at hsu
  rw [hsu] at hrest
  try simp (disch := first | omega | (simp only [lnS]; try omega)) [-getElem?_pos, -getElem?_neg]
  refine hK _ _ ?_; clear hK K
  refine aw_f (by (first | (simp [eval_tmp, put_at]; done) | (simp [eval_tmp, put_at]; omega))) (by kernel_rfl) ?_
  refine aw_skip ?_
  refine aw_seq ?_
  refine aw_seq ?_
  by_cases h6 : e < P.length
  case neg =>
   have hz : P.length - e = 0 := by omega
   rw [hz] at n3
   (refine aw_ops (by kernel_rfl) (fun K hK => ?_); simp (disch := first | omega | (simp only [lnS]; try omega)) [-getElem?_pos, -getElem?_neg, h5, -notTuple, n1, n2, nt_intG, -xlen, n3]; refine hK _ _ ?_; clear hK K)
   refine aw_t (by (first | (simp [eval_tmp, put_at]; done) | (simp [eval_tmp, put_at]; omega))) (by kernel_rfl) ?_
   refine aw_seq ?_
   (refine aw_ops (by kernel_rfl) (fun K hK => ?_); simp (disch := first | omega | (simp only [lnS]; try omega)) [-getElem?_pos, -getElem?_neg]; refine hK _ _ ?_; clear hK K)
   (refine aw_ret ?_; simp (disch := first | omega | (simp only [lnS]; try omega)) [-getElem?_pos, -getElem?_neg, thenQ_ret, scopeQ_ret, inBlockQ_ret, RQ, resL, resV])
   intro hP2
   have := congrArg List.length (hP2.trans hrest)
   simp at this
   omega
  obtain ⟨⟨p, p1, p2, p3⟩, p4⟩ := hS.at_ e h6
  have p3 := p3 H hlow
  have p4 := p4 H
  obtain ⟨pe, hpe⟩ : ∃ pe : Nat, P.length - e = pe + 1 := ⟨P.length - e - 1, by omega⟩
  rw [hpe] at n3
  obtain ⟨y, hy⟩ : ∃ y, y = P.getD e 0 := ⟨_, rfl⟩
  rw [← hy] at p3
  have hPe : P[e]? = some y := by rw [hy, List.getD_eq_getElem?_getD, List.getElem?_eq_getElem h6]; rfl
  by_cases hyt : y = (t : Int)
  ·obtain ⟨n4, n5, n6⟩ := hS.nt (e + 1) (by omega)
   have hyb : (y == (t : Int)) = true := by simp [hyt]
   (refine aw_ops (by kernel_rfl) (fun K hK => ?_); simp (disch := first | omega | (simp only [lnS]; try omega)) [-getElem?_pos, -getElem?_neg, h5, -notTuple, n1, n2, nt_intG, -xlen, n3, p1, -xindexAddr, p2, -xload, p3, hyt, hyb]; refine hK _ _ ?_; clear hK K)
   refine aw_f (by (first | (simp [eval_tmp, put_at]; done) | (simp [eval_tmp, put_at]; omega))) (by kernel_rfl) ?_
   refine aw_skip ?_
   (refine aw_ops (by kernel_rfl) (fun K hK => ?_); simp (disch := first | omega | (simp only [lnS]; try omega)) [-getElem?_pos, -getElem?_neg, h5, -notTuple, n1, n2, nt_intG, -xslice, p4, n4, n5]; refine hK _ _ ?_; clear hK K)
   (refine aw_ops (by kernel_rfl) (fun K hK => ?_); simp (disch := first | omega | (simp only [lnS]; try omega)) [-getElem?_pos, -getElem?_neg, h16]; refine hK _ _ ?_; clear hK K)
   refine ⟨c - 1, by omega, t + 1, e + 1, by omega, rfl, by omega, by (first | (simp [put_at, put_none, fr0_at, h0]; done) | rfl), by (first | (simp [put_at, put_none, fr0_at, h1]; done) | rfl), by (first | (simp [put_at, put_none, fr0_at]; done) | rfl), by (first | (simp [put_at, put_none, fr0_at, h15]; done) | rfl), by (first | (simp [put_at, put_none, fr0_at]; done) | rfl), ?_⟩
   rw [hsu, List.take_add_one, hPe, hyt]
   rfl
  ·have hyb : (y == (t : Int)) = false := by simp [hyt]
   (refine aw_ops (by kernel_rfl) (fun K hK => ?_); simp (disch := first | omega | (simp only [lnS]; try omega)) [-getElem?_pos, -getElem?_neg, h5, -notTuple, n1, n2, nt_intG, -xlen, n3, p1, -xindexAddr, p2, -xload, p3, hyt, hyb]; refine hK _ _ ?_; clear hK K)
   refine aw_t (by (first | (simp [eval_tmp, put_at]; done) | (simp [eval_tmp, put_at]; omega))) (by kernel_rfl) ?_
   refine aw_seq ?_
   (refine aw_ops (by kernel_rfl) (fun K hK => ?_); simp (disch := first | omega | (simp only [lnS]; try omega)) [-getElem?_pos, -getElem?_neg]; refine hK _ _ ?_; clear hK K)
   (refine aw_ret ?_; simp (disch := first | omega | (simp only [lnS]; try omega)) [-getElem?_pos, -getElem?_neg, thenQ_ret, scopeQ_ret, inBlockQ_ret, RQ, resL, resV])
   intro hP2
   have := congrArg (fun x => x[e]?) (hP2.trans hrest)
   simp only [hPe] at this
   rw [List.append_assoc, List.getElem?_append_right (by simp; omega)] at this
   have hl2 : (P.take e).length = e := by simp; omega
   rw [hl2, Nat.sub_self] at this
   simp at this
   exact hyt this
end
section
theorem op_cut (L : List Value) (q : Nat) : (L.drop (q + 32)).take 71 = (((L.drop q).take 104).drop 32).take 71 := by
 rw [List.drop_take, List.drop_drop, List.take_take]
 rfl
def seqN (l : List NodeD) (i t : Nat) : Nat := ((List.range t).filter fun a => (nd l a).op.author == (nd l i).op.author).length
def seqA (l : List NodeD) (W : List Nat) (i t : Nat) : Bool := (List.range t).all fun a => !((nd l a).op.author == (nd l i).op.author) || hasW W i a
theorem seqN_succ (l : List NodeD) (i t : Nat) : seqN l i (t + 1) = seqN l i t + if (nd l t).op.author = (nd l i).op.author then 1 else 0 := by
 unfold seqN
 rw [List.range_succ, List.filter_append, List.length_append]
 by_cases h : (nd l t).op.author = (nd l i).op.author
 ·simp [h]
 ·have : ((nd l t).op.author == (nd l i).op.author) = false := by simpa using h
  simp [this, h]
theorem seqN_le (l : List NodeD) (i t : Nat) : seqN l i t ≤ t := by
 unfold seqN
 exact Nat.le_trans (List.length_filter_le _ _) (by simp)
theorem seqA_succ (l : List NodeD) (W : List Nat) (i t : Nat) : seqA l W i (t + 1) = (seqA l W i t && (!((nd l t).op.author == (nd l i).op.author) || hasW W i t)) := by
 unfold seqA
 rw [List.range_succ, List.all_append]
 simp
theorem seqA_down {l : List NodeD} {W : List Nat} {i t n : Nat} (htn : t < n) (h1 : (nd l t).op.author = (nd l i).op.author) (h2 : hasW W i t = false) : seqA l W i n = false := by
 unfold seqA
 rw [List.all_eq_false]
 exact ⟨t, List.mem_range.2 htn, by simp [h1, h2]⟩
def seqB (l : List NodeD) (W : List Nat) (i : Nat) : Bool := seqA l W i i && decide ((nd l i).op.seq = 1 + (seqN l i i : Nat))
attribute [local simp] wb_bool wb_undef with_lit XL_nil XL_cons XLc_val XLc_call step1_eq stepW_t stepW_f stepC_n stepC_s stepX_s stepX_n stepN_s calleeX xrecv oneV xop_eq xopR_s xopR_n wantedA_eq wantedG_n wantedG_s plain1_int plain1_bool plain1_string bits_i64 bits_u64 bits_u32 bits_u16 bits_u8 xeqA xagg xcmp xarr allK_iv num_iv calleeOf xread xeff xbin xint xnil xun xstr xload xconv xpart xfield xfieldAddr xindexAddr xindex bnd asInt? xslice xlen xmin xmax xbuild xfill xappend xapp2 xappstr xappmk xcap xcopy xcells eval_tmp eval_const put_at put_none fr0_at cells_agg cells_int cells_bool cells_string cells_ptr cells_slice notTuple tab iv_all hget_app hget_app0 hget_cons0 hget_cons set_app set_app0 setR setR_one QL_nil QL_cons QLc_val stepQ_t stepQ_f stepQC_n stepQC_s stepQX_s SL_nil SL_cons SLc_val stepS_t stepS_f ltT ltF leT leF eqT eqF ltTn ltFn leTn leFn eqTn eqFn beqT beqF bneT bneF wi64 wu64 wu32 wu16 wu8 tmodP tdivP hgetL hgetNe hgetEq setL nums_def nums_len Nat.succ_le_of_lt List.getElem?_cons_zero List.getElem?_cons_succ Option.getD_some Int.toNat_add Int.toNat_mul agM okM agB agI agS agP agL agA okB okI okS okP okSl okA
theorem seq_ac {γ : Nat → Option Nat} {H0 H : AH} {nv : Value} {l : List NodeD} {b mi i : Nat} {W : List Nat} (hN : NdA H0 nv l) (hlow : Low H0.length H0 H) (hb : hget H b = some ⟨lkC nv mi W, 116, none⟩) (hw : Wd W) (hW : W.length = 192) (hi : i < l.length) (hl : l.length ≤ 96) :
  AC Try.prog H0.length γ 77 #[.pointer (some ⟨b, 0, none⟩), .int .i64 (i : Nat)] H (fun v' H' => (∃ A, H' = H ++ [some A]) ∧ v' = .bool (seqB l W i)) := by
 obtain ⟨hnt, hvc, hxl, hwf, hat⟩ := hN
 obtain ⟨j, q, bb, us, pv, wv', bv, qv, hx, hbb, hq, hcell, hus, hC⟩ := hat i _ (nd_get hi)
 have hwfi := hwf _ (List.mem_of_getElem? (nd_get hi))
 have hjl := hget_lt hbb
 have hbG : hget H j = some bb := (hlow.1 j hjl).trans hbb
 obtain ⟨u7, hu7⟩ : ∃ u, u = (us.drop 32).take 71 := ⟨_, rfl⟩
 have hO : OpC H0 u7 (nd l i).op pv wv' bv := hu7 ▸ hC.op
 have hcut : (bb.cells.drop (q + 32)).take 71 = u7 := by rw [op_cut, ← hus, hu7]
 have hu7l := hO.len
 have o0 := hO.c0
 have o1 := hO.c1
 obtain ⟨C, hCe⟩ : ∃ C, C = lkC nv mi W := ⟨_, rfl⟩
 have hc0 : C[0]? = some nv := by rw [hCe]; rfl
 have hcl : C.length = 194 := by rw [hCe]; simp [lkC, wv_len, hW]
 have hb' := hb
 rw [← hCe] at hb'
 have hil : (i : Nat) ≤ 95 := by omega
 have hle0 := hlow.2
 refine ac_of_aw Try.func77 rfl Try.ntmps77 Try.results77 (by simp) ?_
 refine aw_seq ?_
 (refine aw_ops (by kernel_rfl) (fun K hK => ?_); simp (disch := first | omega | (simp only [lnS]; try omega)) [-getElem?_pos, -getElem?_neg]; refine hK _ _ ?_; clear hK K)
 refine aw_seq ?_
 have hp0 : plain1 (.slice none 0 0) = true := rfl
 have hset : ∀ Z : List Value, Z.length = 71 → setR Z 0 u7 = u7 := fun Z hZ => setR_all _ _ (by omega)
 (refine aw_ops (by kernel_rfl) (fun K hK => ?_); simp (disch := first | omega | (simp only [lnS]; try omega)) [-getElem?_pos, -getElem?_neg, hb', hc0, hcl, -notTuple, hnt, hvc, nt_intG, nt_aggG, -xindexAddr, hx, hbG, hcut, hu7l, hle0, hp0, all_zl, hset]; refine hK _ _ ?_; clear hK K)
 obtain ⟨hlow2, hb2⟩ := boxed (H := H) u7 41
 have hbV2 := hget_left' (L := [some ⟨u7, 41, none⟩]) hb
 have hb2' := hget_left' (L := [some ⟨u7, 41, none⟩]) hb'
 obtain ⟨A, hA⟩ : ∃ A : Blk, A = ⟨u7, 41, none⟩ := ⟨_, rfl⟩
 obtain ⟨g, hg⟩ : ∃ g, g = H.length := ⟨_, rfl⟩
 have hb3 : hget (H ++ [some A]) g = some ⟨u7, 41, none⟩ := by rw [hA, hg]; exact hb2
 rw [← hA] at hlow2 hbV2 hb2' ⊢
 rw [← hg]
 obtain ⟨G, hG⟩ : ∃ G, G = H ++ [some A] := ⟨_, rfl⟩
 rw [← hG] at hlow2 hb3 hbV2 hb2' ⊢
 have hlowG : Low H0.length H0 G := ⟨fun j hj => (hlow2.1 j (by omega)).trans (hlow.1 j hj), by have := hlow2.2; omega⟩
 refine aw_seq ?_
 (refine aw_ops (by kernel_rfl) (fun K hK => ?_); simp (disch := first | omega | (simp only [lnS]; try omega)) [-getElem?_pos, -getElem?_neg]; refine hK _ _ ?_; clear hK K)
 refine aw_seq ?_
 refine aw_seq ?_
 (refine aw_ops (by kernel_rfl) (fun K hK => ?_); simp (disch := first | omega | (simp only [lnS]; try omega)) [-getElem?_pos, -getElem?_neg]; refine hK _ _ ?_; clear hK K)
 refine aw_block ?_
 refine aw_loop (fun c α G' => ∃ t : Nat, t + c = i ∧ G = G' ∧ α 0 = .pointer (some ⟨b, 0, none⟩) ∧ α 1 = .int .i64 (i : Nat) ∧ α 5 = .pointer (some ⟨g, 0, none⟩) ∧ α 6 = .int .u64 ((1 + seqN l i t : Nat) : Int) ∧ α 16 = .int .i64 (i : Nat) ∧ α 17 = .int .i64 (t : Nat) ∧ seqA l W i t = true) i ?_ ?_
 ·exact ⟨0, by omega, rfl, by (first | (simp [put_at, put_none, fr0_at]; done) | rfl), by (first | (simp [put_at, put_none, fr0_at]; done) | rfl), by (first | (simp [put_at, put_none, fr0_at]; done) | rfl), by (first | (simp [put_at, put_none, fr0_at]; done) | rfl), by (first | (simp [put_at, put_none, fr0_at]; done) | rfl), by (first | (simp [put_at, put_none, fr0_at]; done) | rfl), rfl⟩
 rintro c α G' ⟨t, htc, rfl, h0, h1, h5, h6, h16, h17, hpre⟩
 have hsl := seqN_le l i t
 refine aw_seq ?_
 by_cases ht : t < i
 case neg =>
  (refine aw_ops (by kernel_rfl) (fun K hK => ?_); simp (disch := first | omega | (simp only [lnS]; try omega)) [-getElem?_pos, -getElem?_neg, h16, h17, ht]; refine hK _ _ ?_; clear hK K)
  refine aw_seq ?_
  refine aw_f (by (first | (simp [eval_tmp, put_at, ht]; done) | (simp [eval_tmp, put_at, ht]; omega))) (by kernel_rfl) ?_
  refine aw_exit ?_
  obtain rfl : t = i := by omega
  refine aw_seq ?_
  have hb4 : seqB l W t = decide ((nd l t).op.seq = 1 + (seqN l t t : Nat)) := by unfold seqB; rw [hpre, Bool.true_and]
  have hU := hwfi.op.seq
  rw [hb4]
  obtain ⟨z, hz⟩ : ∃ z, z = (nd l t).op.seq := ⟨_, rfl⟩
  obtain ⟨n, hn⟩ : ∃ n, n = seqN l t t := ⟨_, rfl⟩
  rw [← hz] at hU o1 ⊢
  rw [← hn] at hsl h6 ⊢
  have hU1 := hU.1
  have hU2 := hU.2
  have hwz : IntKind.u64.wrap z = z := wu64 (by omega)
  (refine aw_ops (by kernel_rfl) (fun K hK => ?_); simp (disch := first | omega | (simp only [lnS]; try omega)) [-getElem?_pos, -getElem?_neg, h5, h6, hb3, o1, hu7l, hwz]; refine hK _ _ ?_; clear hK K)
  (refine aw_ret ?_; simp (disch := first | omega | (simp only [lnS]; try omega)) [-getElem?_pos, -getElem?_neg, thenQ_ret, scopeQ_ret, inBlockQ_ret, RQ, resL, resV])
  refine ⟨?_, A, hG⟩
  rw [Bool.eq_iff_iff]
  simp
 obtain ⟨j2, q2, b2, us2, pv2, wv2, bv2, qv2, hx2, hbb2, hq2, hcell2, hus2, hC2⟩ := hat t _ (nd_get (by omega))
 have hbG2 : hget G j2 = some b2 := (hlowG.1 j2 (hget_lt hbb2)).trans hbb2
 have ha2 : b2.cells[q2 + 32]? = some (.int .i64 (nd l t).op.author) := by
  rw [hcell2 32 (by omega)]
  have := hC2.op.c0
  rwa [List.getElem?_take_of_lt (by omega), List.getElem?_drop] at this
 (refine aw_ops (by kernel_rfl) (fun K hK => ?_); simp (disch := first | omega | (simp only [lnS]; try omega)) [-getElem?_pos, -getElem?_neg, h16, h17, ht]; refine hK _ _ ?_; clear hK K)
 refine aw_seq ?_
 refine aw_t (by (first | (simp [eval_tmp, put_at, ht]; done) | (simp [eval_tmp, put_at, ht]; omega))) (by kernel_rfl) ?_
 refine aw_skip ?_
 refine aw_seq ?_
 refine aw_block ?_
 refine aw_seq ?_
 (refine aw_ops (by kernel_rfl) (fun K hK => ?_); simp (disch := first | omega | (simp only [lnS]; try omega)) [-getElem?_pos, -getElem?_neg, h17]; refine hK _ _ ?_; clear hK K)
 refine aw_seq ?_
 refine aw_seq ?_
 have hns := seqN_succ l i t
 have has := seqA_succ l W i t
 have hdn := seqA_down (l := l) (W := W) (i := i) ht
 obtain ⟨x, hxa⟩ : ∃ x, x = (nd l t).op.author := ⟨_, rfl⟩
 obtain ⟨y, hya⟩ : ∃ y, y = (nd l i).op.author := ⟨_, rfl⟩
 rw [← hxa] at ha2 hns has hdn
 rw [← hya] at o0 hns has hdn
 obtain ⟨n, hn⟩ : ∃ n, n = seqN l i t := ⟨_, rfl⟩
 rw [← hn] at hsl h6 hns
 by_cases hxy : x = y
 case neg =>
  have hxb : (x == y) = false := by simp [hxy]
  (refine aw_plan [] [] [0, 1, 2, 3, 4, 5, 6, 7, 8, 9, 10, 11] 12 0 (by kernel_rfl) (by kernel_rfl) (by kernel_rfl) (fun K hK => ?_)); simp only [sel, List.getElem?_cons_succ, List.getElem?_cons_zero, List.drop_succ_cons, List.drop_zero]; simp (disch := first | omega | (simp only [lnS]; try omega)) [-getElem?_pos, -getElem?_neg, h0, h5, hb2', hc0, hcl, -notTuple, hnt, hvc, nt_intG, -xindexAddr, hx2, hbG2, ha2, hq2, hb3, o0, hu7l, hxy, hxb, PL_nil, plainB_lit, PL_cons, PLc_val, PLc_new, stepP_t, stepP_f, stepPC_n, stepPC_s, stepPX_s, stepPX_n, stepPV_n, stepPV_s, stepPA_t, stepPA_c, stepPA_l, stepPN_s, allocOp, reloc_sl, reloc_ptr, List.map_cons, List.map_nil, List.nil_append, List.append_assoc, List.cons_append, Nat.add_assoc]
  refine hK _ _ ?_; clear hK K
  refine aw_t (by (first | (simp [eval_tmp, put_at]; done) | (simp [eval_tmp, put_at]; omega))) (by kernel_rfl) ?_
  refine aw_exit ?_
  (refine aw_ops (by kernel_rfl) (fun K hK => ?_); simp (disch := first | omega | (simp only [lnS]; try omega)) [-getElem?_pos, -getElem?_neg, h17]; refine hK _ _ ?_; clear hK K)
  exact ⟨c - 1, by omega, t + 1, by omega, rfl, by (first | (simp [put_at, put_none, fr0_at, h0]; done) | rfl), by (first | (simp [put_at, put_none, fr0_at, h1]; done) | rfl), by (first | (simp [put_at, put_none, fr0_at, h5]; done) | rfl), by (first | (simp [put_at, put_none, fr0_at, h6, hns, hxy]; done) | rfl), by (first | (simp [put_at, put_none, fr0_at, h16]; done) | rfl), by (first | (simp [put_at, put_none, fr0_at]; done) | rfl), by rw [has, hpre, hxb]; rfl⟩
 have hxb : (x == y) = true := by simp [hxy]
 (refine aw_plan [] [] [0, 1, 2, 3, 4, 5, 6, 7, 8, 9, 10, 11] 12 0 (by kernel_rfl) (by kernel_rfl) (by kernel_rfl) (fun K hK => ?_)); simp only [sel, List.getElem?_cons_succ, List.getElem?_cons_zero, List.drop_succ_cons, List.drop_zero]; simp (disch := first | omega | (simp only [lnS]; try omega)) [-getElem?_pos, -getElem?_neg, h0, h5, hb2', hc0, hcl, -notTuple, hnt, hvc, nt_intG, -xindexAddr, hx2, hbG2, ha2, hq2, hb3, o0, hu7l, hxy, hxb, PL_nil, plainB_lit, PL_cons, PLc_val, PLc_new, stepP_t, stepP_f, stepPC_n, stepPC_s, stepPX_s, stepPX_n, stepPV_n, stepPV_s, stepPA_t, stepPA_c, stepPA_l, stepPN_s, allocOp, reloc_sl, reloc_ptr, List.map_cons, List.map_nil, List.nil_append, List.append_assoc, List.cons_append, Nat.add_assoc]
 refine hK _ _ ?_; clear hK K
 refine aw_f (by (first | (simp [eval_tmp, put_at]; done) | (simp [eval_tmp, put_at]; omega))) (by kernel_rfl) ?_
 refine aw_skip ?_
 refine aw_seq ?_
 refine aw_seq ?_
 refine aw_ops (by kernel_rfl) (fun K hK => ?_)
 simp (disch := first | omega | (simp only [lnS]; try omega)) [-getElem?_pos, -getElem?_neg, h0, h1, hb2', hcl, hil]
 refine ⟨by kernel_rfl, (has_rc (nro := H0.length) (γ := γ) (pre := [nv, .map (some mi)]) (W := W) (i := i) (p := 2) (k := t) hbV2 rfl (by omega) hw (by omega) (by omega)).mono ?_⟩
 rintro _ H9 ⟨e9, rfl⟩
 subst H9
 cases hh : hasW W i t with
 | false =>
  try simp (disch := first | omega | (simp only [lnS]; try omega)) [-getElem?_pos, -getElem?_neg]
  refine hK _ _ ?_; clear hK K
  refine aw_t (by (first | (simp [eval_tmp, put_at]; done) | (simp [eval_tmp, put_at]; omega))) (by kernel_rfl) ?_
  refine aw_seq ?_
  (refine aw_ops (by kernel_rfl) (fun K hK => ?_); simp (disch := first | omega | (simp only [lnS]; try omega)) [-getElem?_pos, -getElem?_neg]; refine hK _ _ ?_; clear hK K)
  (refine aw_ret ?_; simp (disch := first | omega | (simp only [lnS]; try omega)) [-getElem?_pos, -getElem?_neg, thenQ_ret, scopeQ_ret, inBlockQ_ret, RQ, resL, resV])
  refine ⟨?_, A, hG⟩
  unfold seqB
  rw [hdn hxy hh]
  rfl
 | true =>
  try simp (disch := first | omega | (simp only [lnS]; try omega)) [-getElem?_pos, -getElem?_neg]
  refine hK _ _ ?_; clear hK K
  refine aw_f (by (first | (simp [eval_tmp, put_at]; done) | (simp [eval_tmp, put_at]; omega))) (by kernel_rfl) ?_
  refine aw_skip ?_
  have hwn : IntKind.u64.wrap (((1 + n : Nat) : Int) + 1) = ((1 + (n + 1) : Nat) : Int) := by rw [wu64 (by omega)]; omega
  (refine aw_ops (by kernel_rfl) (fun K hK => ?_); simp (disch := first | omega | (simp only [lnS]; try omega)) [-getElem?_pos, -getElem?_neg, h6, hwn]; refine hK _ _ ?_; clear hK K)
  (refine aw_ops (by kernel_rfl) (fun K hK => ?_); simp (disch := first | omega | (simp only [lnS]; try omega)) [-getElem?_pos, -getElem?_neg, h17]; refine hK _ _ ?_; clear hK K)
  refine ⟨c - 1, by omega, t + 1, by omega, rfl, by (first | (simp [put_at, put_none, fr0_at, h0]; done) | rfl), by (first | (simp [put_at, put_none, fr0_at, h1]; done) | rfl), by (first | (simp [put_at, put_none, fr0_at, h5]; done) | rfl), ?_, by (first | (simp [put_at, put_none, fr0_at, h16]; done) | rfl), by (first | (simp [put_at, put_none, fr0_at]; done) | rfl), by rw [has, hpre, hxb, hh]; rfl⟩
  rw [hns, if_pos hxy]
  (first | (simp [put_at, put_none, fr0_at]; done) | rfl)
end
end Go.Proofs.Ytdeccbjdhcifiaa
