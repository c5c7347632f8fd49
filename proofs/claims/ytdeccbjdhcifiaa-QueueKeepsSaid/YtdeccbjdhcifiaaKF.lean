/-
  graph.Add.
  The vector that every right program answers: three nodes, put behind one another.
  GraphOrder: the law, walked.
  slices.IndexFunc, ContainsFunc, BinarySearch over numbers; groups.
  roster: listed, ahead, removes.
  roster: admits, and the roster of a set.
  roster: the group of a set; a group's members.
  roster.look: which nodes count.
  roster.isSet, Of, All.
  roster.All.
  The vector of layer 16.
  The document's rosters: removal, lets.
  The document's rosters: Roster, Counts, All.
  The document's rosters: All, Set.
  RosterTells: the law, walked.
  RosterStrong: the law, walked.
  GraphHeads: the law, walked.
  The same operations in another order: what is ahead, and the heads.
  The roster hangs on the set alone: the same nodes in another order have the same roster; nodes that neither admit nor remove turn nothing.
  GraphShuffled: the law, walked.
  RosterStill: the law, walked.
  RosterShuffled: the law, walked.
  Held operations as data; how a value shows one; a queue by its addresses.
  queue.Find.
  The reference's Find; Right, both.
  Great of queues; IndexFunc and ContainsFunc on keys; Ready.
  The reference's Ready.
  Boxes, compared.
  slices.Equal at int, Key, Box.
  cabalref11.SameOp: are two operations the same?
  frame.sameOp: are two operations the same?
  frame.Same over frames of nothing but an operation; graph.Same's comparison of two nodes.
  cabalref15.Same: are two graphs the same?
  graph.Same: are two graphs the same?
  queue.Same.
  The reference's Same of queues.
-/
import Derived.Test.YtdeccbjdhcifiaaKE
import Derived.Test.YtdeccbjdhcifiaaKC
import Derived.Test.YtdeccbjdhcifiaaKD
namespace Go.Proofs.Ytdeccbjdhcifiaa
open Go Go.RowKit
set_option linter.unusedSimpArgs false
set_option linter.unusedVariables false
set_option maxRecDepth 100000
set_option maxHeartbeats 4000000
section
def aheadL (l : List NodeD) (P : List Int) (x : Int) : Nat := (P.filter fun z => (nd l z.toNat).op.author == x).length
theorem aheadL_pastL (l : List NodeD) (n : Nat) (ps : List (List Int)) (x : Int) : aheadL l (pastL l n ps) x = (((List.range n).filter fun a => (nd l a).op.author == x).filter (inB l n ps)).length := by
 unfold aheadL pastL
 rw [List.filter_map, List.length_map, List.filter_filter, List.filter_filter]
 congr 1
 refine List.filter_congr fun k _ => ?_
 show (_ && _) = (_ && _)
 rw [Bool.and_comm]
 rfl
theorem ahead_all (l : List NodeD) (n : Nat) (ps : List (List Int)) (x : Int) : aheadL l (pastL l n ps) x = autN l n x ↔ autA l n x (pastL l n ps) = true := by
 rw [aheadL_pastL]
 unfold autN autA
 rw [List.length_filter_eq_length_iff, List.all_eq_true]
 refine ⟨fun h k hk => ?_, fun h k hk => ?_⟩
 ·by_cases e : ((nd l k).op.author == x) = true
  ·have := h k (List.mem_filter.2 ⟨hk, e⟩)
   have h2 : (k : Int) ∈ pastL l n ps := mem_pastL.2 ⟨List.mem_range.1 hk, this⟩
   simp [h2]
  ·simp only [Bool.not_eq_true] at e
   simp [e]
 ·rw [List.mem_filter] at hk
  have := h k hk.1
  rw [hk.2] at this
  have h2 : (k : Int) ∈ pastL l n ps := by simpa using this
  exact (mem_pastL.1 h2).2
def seqOk (l : List NodeD) (o : OpD) : Bool := !(decide (o.kind = 1) && decide (0 < l.length)) && (decide (o.seq = 1 + (aheadL l (pastL l l.length o.parents) o.author : Nat)) && decide (aheadL l (pastL l l.length o.parents) o.author = autN l l.length o.author))
def addE (l : List NodeD) (id : List Int) (o : OpD) : Int :=
 if rightG l = false then 1 else if rightO o = false then 1 else if (findN l l.length id).isSome = true then 13 else if l.length = 96 then 8 else if o.parents.all (fun p => (findN l l.length p).isSome) = false then 14 else if seqOk l o = false then 15 else 0
def addD (l : List NodeD) (id : List Int) (o : OpD) : NodeD := ⟨id, o, pastL l l.length o.parents⟩
def NewG (n : Nat) (H : AH) (v : Value) (l : List NodeD) : Prop := ∀ G, KeepN n H G → NdV G v l
def AddQ (l : List NodeD) (id : List Int) (o : OpD) (H : AH) (v' : Value) (H' : AH) : Prop :=
 Low H.length H H' ∧ ∃ sv, v' = .tuple #[sv, .int .i64 (addE l id o)] ∧ ((addE l id o = 0 ∧ NewG H.length H' sv (l ++ [addD l id o])) ∨ (addE l id o ≠ 0 ∧ sv = .slice none 0 0))
theorem AddQ.bad {l : List NodeD} {id : List Int} {o : OpD} {H H' : AH} {z : Int} (hl : Low H.length H H') (h : addE l id o = z) (hz : z ≠ 0) : AddQ l id o H (.tuple #[.slice none 0 0, .int .i64 z]) H' :=
 ⟨hl, _, by rw [h], .inr ⟨by rw [h]; exact hz, rfl⟩⟩
end
section
def key1 (x : Int) : List Int := x :: zl 31
def opC1 (a s k : Int) (ps : List (List Int)) (who : List Int) : OpD := ⟨a, s, ps, k, who, zl 32, key1 1, ByteArray.empty, []⟩
theorem key1_32 (x : Int) : (key1 x).length = 32 := by simp [key1]
theorem key1_ok {x : Int} (h : 0 ≤ x ∧ x ≤ 255) : Key32 (key1 x) := ⟨key1_32 x, fun y hy => by
 rcases List.mem_cons.1 hy with rfl | hy
 ·exact h
 ·have : y = 0 := by
   unfold zl at hy
   exact (List.mem_replicate.1 hy).2
  omega⟩
theorem build_key (x : Int) : xbuild Try.prog 38 [(0, .int .u8 x)] = some (.agg (iv .u8 (key1 x)).toArray) := by
 kernel_rfl
theorem opRow_c1 (a s k : Int) (ps : List (List Int)) (who : List Int) (pv wv bv : Value) : opRow (opC1 a s k [] []) pv wv bv = opRow (opC1 a s k ps who) pv wv bv := rfl
attribute [local simp] wb_bool wb_undef with_lit XL_nil XL_cons XLc_val XLc_call step1_eq stepW_t stepW_f stepC_n stepC_s stepX_s stepX_n stepN_s calleeX xrecv oneV xop_eq xopR_s xopR_n wantedA_eq wantedG_n wantedG_s plain1_int plain1_bool plain1_string bits_i64 bits_u64 bits_u32 bits_u16 bits_u8 xeqA xagg xcmp xarr allK_iv num_iv calleeOf xread xeff xbin xint xnil xun xstr xload xconv xpart xfield xfieldAddr xindexAddr xindex bnd asInt? xslice xlen xmin xmax xbuild xfill xappend xapp2 xappstr xappmk xcap xcopy xcells eval_tmp eval_const put_at put_none fr0_at cells_agg cells_int cells_bool cells_string cells_ptr cells_slice notTuple tab iv_all hget_app hget_app0 hget_cons0 hget_cons set_app set_app0 setR setR_one QL_nil QL_cons QLc_val stepQ_t stepQ_f stepQC_n stepQC_s stepQX_s SL_nil SL_cons SLc_val stepS_t stepS_f ltT ltF leT leF eqT eqF ltTn ltFn leTn leFn eqTn eqFn beqT beqF bneT bneF wi64 wu64 wu32 wu16 wu8 tmodP tdivP hgetL hgetNe hgetEq setL nums_def nums_len Nat.succ_le_of_lt List.getElem?_cons_zero List.getElem?_cons_succ Option.getD_some Int.toNat_add Int.toNat_mul agM okM agB agI agS agP agL agA okB okI okS okP okSl okA
theorem opC1_wf {a s k : Int} {ps : List (List Int)} {who : List Int} (ha : I64 a) (hs : U32 s) (hk : I64 k) (hp : ∀ p ∈ ps, Key32 p) (hpl : ps.length ≤ 100) (hw : ∀ z ∈ who, I64 z) (hwl : who.length ≤ 100) : (opC1 a s k ps who).Wf := by
 refine ⟨ha, hs, hp, by simp only [maxLen]; show ps.length ≤ _; omega, hk, hw, by simp only [maxLen]; show who.length ≤ _; omega, ⟨by simp [opC1], fun y hy => ?_⟩, key1_ok (by omega), by simp [opC1], fun b hb => (by cases hb), by simp [opC1]⟩
 have : y = 0 := (List.mem_replicate.1 hy).2
 omega
theorem NewG.nda {n : Nat} {H G : AH} {v : Value} {l : List NodeD} (h : NewG n H v l) (hw : ∀ x ∈ l, x.Wf) (hk : KeepN n H G) : NdA G v l := (h G hk).nda hw
theorem nil_nda (H : AH) : NdA H (.slice none 0 0) [] := NdV.nda (CD.Val.nil (fun x e => by cases e)) (fun x hx => by cases hx)
theorem AddQ.zero {l : List NodeD} {id : List Int} {o : OpD} {H : AH} {v' : Value} {H' : AH} {L : List NodeD} (h : AddQ l id o H v' H') (hz : addE l id o = 0 ∧ l ++ [addD l id o] = L) : Low H.length H H' ∧ ∃ sv, v' = .tuple #[sv, .int .i64 0] ∧ NewG H.length H' sv L := by
 obtain ⟨h1, sv, h2, h3⟩ := h
 rw [hz.1] at h2
 refine ⟨h1, sv, h2, ?_⟩
 rcases h3 with ⟨_, h3⟩ | ⟨h3, _⟩
 ·rw [← hz.2]; exact h3
 ·exact absurd hz.1 h3
theorem NewG.sh {n : Nat} {H : AH} {v : Value} {l : List NodeD} (h : NewG n H v l) : notTuple v = true ∧ v.cells = #[v] := val_nt (h H (fun _ _ _ => rfl))
theorem kr_ksv {G : AH} {v : Value} {F : List Nat} {ps : List (List Int)} (h : OwnF G v 38 32 (kr ps) F) (hk : K32 ps) : KsV G v ps := by
 rw [← ksC_kr] at h
 exact own_val (by omega) h (kd_len hk) (kd_flat ps)
end
section
def Fun1 (γ : Nat → Option Nat) (H : AH) (f : Nat) (cs : Array Value) (P : Int → Bool) : Prop := callable Try.prog f = true ∧ ∀ (G : AH) (z : Int), Low H.length H G → AC Try.prog G.length γ f (#[.int .i64 z] ++ cs) G (fun v' _ => v' = .bool (P z))
def Grp (γ : Nat → Option Nat) (H : AH) (v : Value) (P : Int → Bool) : Prop := ∃ f cs, v = .agg #[.func (.func f) #[] cs] ∧ Fun1 γ H f cs P
theorem Low.both {A B C : AH} (h : Low A.length A B) (k : Low B.length B C) : Low A.length A C := ⟨fun j hj => (k.1 j (by have := h.2; omega)).trans (h.1 j hj), by have := h.2; have := k.2; omega⟩
theorem Fun1.low {γ : Nat → Option Nat} {H H' : AH} {f : Nat} {cs : Array Value} {P : Int → Bool} (h : Fun1 γ H f cs P) (hl : Low H.length H H') : Fun1 γ H' f cs P := ⟨h.1, fun G z hg => h.2 G z (hl.both hg)⟩
theorem Grp.low {γ : Nat → Option Nat} {H H' : AH} {v : Value} {P : Int → Bool} (h : Grp γ H v P) (hl : Low H.length H H') : Grp γ H' v P := by
 obtain ⟨f, cs, e, hf⟩ := h
 exact ⟨f, cs, e, hf.low hl⟩
theorem any_first {n : Nat} {p : Nat → Bool} : decide (0 ≤ firstI n p) = (List.range n).any p := by
 rw [Bool.eq_iff_iff, decide_eq_true_eq, firstI_ge, List.any_eq_true]
 exact ⟨fun ⟨k, h1, h2⟩ => ⟨k, List.mem_range.2 h1, h2⟩, fun ⟨k, h1, h2⟩ => ⟨k, List.mem_range.1 h1, h2⟩⟩
def Inc (l : List Int) : Prop := l.Pairwise (· < ·)
theorem Inc.at_ {l : List Int} (h : Inc l) {i j : Nat} (hij : i < j) (hj : j < l.length) : l.getD i 0 < l.getD j 0 := by
 rw [List.getD_eq_getElem?_getD, List.getD_eq_getElem?_getD, List.getElem?_eq_getElem hj, List.getElem?_eq_getElem (by omega)]
 exact List.pairwise_iff_getElem.1 h i j (by omega) hj hij
theorem Inc.le {l : List Int} (h : Inc l) {i j : Nat} (hij : i ≤ j) (hj : j < l.length) : l.getD i 0 ≤ l.getD j 0 := by
 rcases Nat.eq_or_lt_of_le hij with rfl | hlt
 ·exact Int.le_refl _
 ·exact Int.le_of_lt (h.at_ hlt hj)
end
section
abbrev CtA (H : AH) (v : Value) (c : List Bool) : Prop := Acc H 33 4 v c.length (fun i x => x = .bool (c.getD i false))
def ahB (l : List NodeD) (a b : Nat) : Bool := decide ((a : Int) ∈ (nd l b).past)
def remB (l : List NodeD) (c : List Bool) (r : Nat) (w : Int) : Bool := decide ((nd l r).op.kind = 3) && (c.getD r false && decide (w ∈ (nd l r).op.who))
theorem nt_fn (f : Fn) (a b : Array Value) : notTuple (.func f a b) = true := rfl
theorem cs_fn (f : Fn) (a b : Array Value) : (Value.func f a b).cells = #[.func f a b] := rfl
end
section
def besB (l : List NodeD) (c : List Bool) (S : List Int) (a : Nat) : Bool := S.any fun r => remB l c r.toNat (nd l a).op.author && (!ahB l r.toNat a && !ahB l a r.toNat)
def admB (l : List NodeD) (c : List Bool) (S : List Int) (a : Nat) (w : Int) : Bool := c.getD a false && (decide (w ∈ (nd l a).op.who) && (decide ((nd l a).op.kind = 1) || (decide ((nd l a).op.kind = 2) && !besB l c S a)))
def rosB (l : List NodeD) (c : List Bool) (S : List Int) (w : Int) : Bool := S.any fun a => admB l c S a.toNat w && !(S.any fun r => remB l c r.toNat w && !ahB l r.toNat a.toNat)
structure VwA (H : AH) (nv cv : Value) (l : List NodeD) (c : List Bool) : Prop where
 nodes : NdA H nv l
 counts : CtA H cv c
 len : c.length = l.length
 right : rightG l = true
theorem VwA.low {H G : AH} {nv cv : Value} {l : List NodeD} {c : List Bool} (h : VwA H nv cv l c) (hl : Low H.length H G) : VwA G nv cv l c := ⟨h.nodes.lowG hl, h.counts.low hl, h.len, h.right⟩
end
section
def membL (P : Int → Bool) (k : Nat) : List Int := ((List.range k).map fun n : Nat => (n : Int)).filter P
end
section
def cntP (l : List NodeD) : Nat → List Bool
 | 0 => []
 | i + 1 => cntP l i ++ [decide ((nd l i).op.kind = 1) || rosB l (cntP l i) (nd l i).past (nd l i).op.author]
def cntsB (l : List NodeD) : List Bool := cntP l l.length
theorem cntP_len (l : List NodeD) (i : Nat) : (cntP l i).length = i := by
 induction i with
 | zero => rfl
 | succ i ih => simp [cntP, ih]
def bv (c : List Bool) : List Value := c.map .bool
end
section
def InR (l : List NodeD) (S : List Int) : Prop := ∀ z ∈ S, 0 ≤ z ∧ z < l.length
def ClS (l : List NodeD) (S : List Int) : Prop := ∀ a ∈ S, ∀ z ∈ (nd l a.toNat).past, z ∈ S
instance (l : List NodeD) (S : List Int) : Decidable (InR l S) := by unfold InR; infer_instance
instance (S : List Int) : Decidable (Inc S) := by unfold Inc; infer_instance
instance (l : List NodeD) (S : List Int) : Decidable (ClS l S) := by unfold ClS; infer_instance
theorem Inc.take {S : List Int} (h : Inc S) (i : Nat) : Inc (S.take i) := List.Pairwise.sublist (List.take_sublist i S) h
theorem val_take {H : AH} {rows : List (List CD)} {v : Value} (h : CD.Val H (.sl rows) v) (h0 : 0 < rows.length) {i : Nat} (hi : i ≤ rows.length) : ∃ v', CD.Val H (.sl (rows.take i)) v' ∧ ∀ (P : Program) (t e : TypeId) (G : AH), und P t = .slice e → 0 < szt P e → xslice P t v none (some (.int .i64 (i : Nat))) G = some v' := by
 cases h with
 | nil => simp at h0
 | @sl sz j k _ h1 h2 h3 h4 =>
  have hlt : (rows.take i).length = i := by rw [List.length_take]; omega
  refine ⟨.slice (some ⟨j, 0, none⟩) i i, ?_, fun P t e G ht h0 => ?_⟩
  ·have := CD.Val.sl (H := H) (sz := sz) (j := j) (rows := rows.take i) h1 (by rw [hlt]; exact Nat.le_trans (Nat.mul_le_mul_right _ hi) h2) (fun row hr => h3 row (List.mem_of_mem_take hr)) (fun k' row c d x hr hc hx => h4 k' row c d x (by
    have hki : k' < i := by have := (List.getElem?_eq_some_iff.1 hr).1; omega
    rwa [List.getElem?_take_of_lt hki] at hr) hc hx)
   rwa [hlt] at this
  ·unfold xslice
   simp only [ht, bnd, asInt?]
   rw [if_pos ⟨by omega, by omega, by omega, h0⟩]
   simp
attribute [local simp] wb_bool wb_undef with_lit XL_nil XL_cons XLc_val XLc_call step1_eq stepW_t stepW_f stepC_n stepC_s stepX_s stepX_n stepN_s calleeX xrecv oneV xop_eq xopR_s xopR_n wantedA_eq wantedG_n wantedG_s plain1_int plain1_bool plain1_string bits_i64 bits_u64 bits_u32 bits_u16 bits_u8 xeqA xagg xcmp xarr allK_iv num_iv calleeOf xread xeff xbin xint xnil xun xstr xload xconv xpart xfield xfieldAddr xindexAddr xindex bnd asInt? xslice xlen xmin xmax xbuild xfill xappend xapp2 xappstr xappmk xcap xcopy xcells eval_tmp eval_const put_at put_none fr0_at cells_agg cells_int cells_bool cells_string cells_ptr cells_slice notTuple tab iv_all hget_app hget_app0 hget_cons0 hget_cons set_app set_app0 setR setR_one QL_nil QL_cons QLc_val stepQ_t stepQ_f stepQC_n stepQC_s stepQX_s SL_nil SL_cons SLc_val stepS_t stepS_f ltT ltF leT leF eqT eqF ltTn ltFn leTn leFn eqTn eqFn beqT beqF bneT bneF wi64 wu64 wu32 wu16 wu8 tmodP tdivP hgetL hgetNe hgetEq setL nums_def nums_len Nat.succ_le_of_lt List.getElem?_cons_zero List.getElem?_cons_succ Option.getD_some Int.toNat_add Int.toNat_mul agM okM agB agI agS agP agL agA okB okI okS okP okSl okA
theorem InV.take {H : AH} {v : Value} {S : List Int} (h : InV H v S) (h0 : 0 < S.length) {i : Nat} (hi : i ≤ S.length) : ∃ v', InV H v' (S.take i) ∧ ∀ G : AH, xslice Try.prog 23 v none (some (.int .i64 (i : Nat))) G = some v' := by
 obtain ⟨v', h1, h2⟩ := val_take h (by simpa using h0) (i := i) (by simpa using hi)
 exact ⟨v', by unfold InV; rw [List.map_take]; exact h1, fun G => h2 _ _ 3 G (by kernel_rfl) (by simp)⟩
end
section
def rgZ (n : Nat) : List Int := (List.range n).map fun k : Nat => (k : Int)
theorem rgZ_succ (n : Nat) : rgZ (n + 1) = rgZ n ++ [(n : Int)] := by unfold rgZ; rw [List.range_succ, List.map_append]; rfl
theorem mem_rgZ {n : Nat} {z : Int} : z ∈ rgZ n ↔ 0 ≤ z ∧ z < n := by
 unfold rgZ
 rw [List.mem_map]
 constructor
 ·rintro ⟨k, hk, rfl⟩
  rw [List.mem_range] at hk
  omega
 ·rintro ⟨h1, h2⟩
  exact ⟨z.toNat, List.mem_range.2 (by omega), by omega⟩
def allR (l : List NodeD) : List Int := if rightG l then membL (rosB l (cntsB l) (rgZ l.length)) 8 else []
end
section
theorem build_opc (w : Addr) (n : Nat) : xbuild Try.prog 41 [(1, .int .u32 1), (3, .int .i64 1), (4, .slice (some w) n n), (6, .agg (iv .u8 (key1 1)).toArray)] = some (.agg (opRow (opC1 0 1 1 [] []) (.slice none 0 0) (.slice (some w) n n) (.slice none 0 0)).toArray) := by kernel_rfl
attribute [local simp] wb_bool wb_undef with_lit XL_nil XL_cons XLc_val XLc_call step1_eq stepW_t stepW_f stepC_n stepC_s stepX_s stepX_n stepN_s calleeX xrecv oneV xop_eq xopR_s xopR_n wantedA_eq wantedG_n wantedG_s plain1_int plain1_bool plain1_string bits_i64 bits_u64 bits_u32 bits_u16 bits_u8 xeqA xagg xcmp xarr allK_iv num_iv calleeOf xread xeff xbin xint xnil xun xstr xload xconv xpart xfield xfieldAddr xindexAddr xindex bnd asInt? xslice xlen xmin xmax xbuild xfill xappend xapp2 xappstr xappmk xcap xcopy xcells eval_tmp eval_const put_at put_none fr0_at cells_agg cells_int cells_bool cells_string cells_ptr cells_slice notTuple tab iv_all hget_app hget_app0 hget_cons0 hget_cons set_app set_app0 setR setR_one QL_nil QL_cons QLc_val stepQ_t stepQ_f stepQC_n stepQC_s stepQX_s SL_nil SL_cons SLc_val stepS_t stepS_f ltT ltF leT leF eqT eqF ltTn ltFn leTn leFn eqTn eqFn beqT beqF bneT bneF wi64 wu64 wu32 wu16 wu8 tmodP tdivP hgetL hgetNe hgetEq setL nums_def nums_len Nat.succ_le_of_lt List.getElem?_cons_zero List.getElem?_cons_succ Option.getD_some Int.toNat_add Int.toNat_mul agM okM agB agI agS agP agL agA okB okI okS okP okSl okA
theorem boxed2 {H : AH} (us : List Value) (t : TypeId) (z : Nat) : Low H.length H (H ++ [some ⟨us, t, some z⟩]) ∧ hget (H ++ [some ⟨us, t, some z⟩]) H.length = some ⟨us, t, some z⟩ := ⟨Low.push (Nat.le_refl _) _, by rw [hget_app0]; rfl⟩
theorem ints_inv {G : AH} {b n : Nat} {L : List Int} (h : hget G b = some ⟨iv .i64 L, 3, some 1⟩) (hn : L.length = n) : InV G (.slice (some ⟨b, 0, none⟩) n n) L := own_inv (e := 3) (F := [b]) (.inr ⟨_, n, rfl, h, by rw [iv_length]; omega, rfl⟩)
theorem key1_ksv {G : AH} {b : Nat} {x : Int} (h : hget G b = some ⟨iv .u8 (key1 x), 38, some 32⟩) : KsV G (.slice (some ⟨b, 0, none⟩) 1 1) [key1 x] := kr_ksv (F := [b]) (.inr ⟨b, 1, rfl, by rw [kr_one]; exact h, by rw [kr_one, iv_length, key1_32], rfl⟩) (fun k hk => by simp at hk; subst hk; exact key1_32 x)
theorem nil3 (G : AH) : KsV G (.slice none 0 0) [] ∧ InV G (.slice none 0 0) [] ∧ BxV G (.slice none 0 0) [] := ⟨.nil (fun x e => by cases e), .nil (fun x e => by cases e), .nil (fun x e => by cases e)⟩
end
section
section
variable {l : List NodeD}
theorem cntP_pre (i : Nat) : ∀ n, i ≤ n → ∀ r, r < i → (cntP l n).getD r false = (cntP l i).getD r false := by
 intro n
 induction n with
 | zero =>
  intro h r hr
  omega
 | succ n ih =>
  intro h r hr
  rcases Nat.eq_or_lt_of_le h with rfl | hlt
  ·rfl
  ·rw [← ih (by omega) r hr]
   have e : cntP l (n + 1) = cntP l n ++ [decide ((nd l n).op.kind = 1) || rosB l (cntP l n) (nd l n).past (nd l n).op.author] := rfl
   rw [e, List.getD_eq_getElem?_getD, List.getElem?_append_left (by rw [cntP_len]; omega), ← List.getD_eq_getElem?_getD]
theorem ros_cong {c d : List Bool} {S : List Int} (h : ∀ z ∈ S, c.getD z.toNat false = d.getD z.toNat false) (w : Int) : rosB l c S w = rosB l d S w := by
 have h1 : ∀ z ∈ S, ∀ v, remB l c z.toNat v = remB l d z.toNat v := fun z hz v => by unfold remB; rw [h z hz]
 have h2 : ∀ a, besB l c S a = besB l d S a := fun a => by
  unfold besB
  rw [Bool.eq_iff_iff, List.any_eq_true, List.any_eq_true]
  exact exists_congr fun r => and_congr_right fun hr => by rw [h1 r hr]
 unfold rosB
 rw [Bool.eq_iff_iff, List.any_eq_true, List.any_eq_true]
 refine exists_congr fun a => and_congr_right fun ha => ?_
 have h3 : (S.any fun r => remB l c r.toNat w && !ahB l r.toNat a.toNat) = S.any fun r => remB l d r.toNat w && !ahB l r.toNat a.toNat := by
  rw [Bool.eq_iff_iff, List.any_eq_true, List.any_eq_true]
  exact exists_congr fun r => and_congr_right fun hr => by rw [h1 r hr]
 unfold admB
 rw [h3, h a ha, h2]
theorem cnts_at (h3 : rightG l = true) {i : Nat} (hi : i < l.length) : (cntsB l).getD i false = (decide ((nd l i).op.kind = 1) || rosB l (cntsB l) (nd l i).past (nd l i).op.author) := by
 unfold cntsB
 rw [cntP_pre (i + 1) l.length (by omega) i (by omega)]
 have e : cntP l (i + 1) = cntP l i ++ [decide ((nd l i).op.kind = 1) || rosB l (cntP l i) (nd l i).past (nd l i).op.author] := rfl
 rw [e, List.getD_eq_getElem?_getD, List.getElem?_append_right (by rw [cntP_len]; exact Nat.le_refl _), cntP_len, Nat.sub_self]
 refine congrArg (fun b => decide ((nd l i).op.kind = 1) || b) ?_
 refine ros_cong (fun z hz => ?_) _
 obtain ⟨k, rfl, hk⟩ := past_bd h3 hi hz
 rw [Int.toNat_natCast]
 exact (cntP_pre i l.length (by omega) k hk).symm
end
end
section
theorem nd_push {m : List NodeD} {x : NodeD} {a : Nat} (h : a < m.length) : nd (m ++ [x]) a = nd m a := by
 unfold nd
 rw [List.getD_eq_getElem?_getD, List.getD_eq_getElem?_getD, List.getElem?_append_left h]
theorem nd_last (m : List NodeD) (x : NodeD) : nd (m ++ [x]) m.length = x := nd_eq (by rw [List.getElem?_append_right (Nat.le_refl _)]; simp)
theorem findN_eq_none {l : List NodeD} {n : Nat} {k : List Int} (h : ∀ a, a < n → (nd l a).id ≠ k) : findN l n k = none := by
 unfold findN
 rw [List.find?_eq_none]
 intro a ha
 have := h a (List.mem_range.1 ha)
 simpa using this
theorem stepB_congr {l m : List NodeD} {i : Nat} (h : ∀ a, a ≤ i → nd l a = nd m a) : stepB l i = stepB m i := by
 have h' : ∀ a, a < i → nd l a = nd m a := fun a ha => h a (by omega)
 unfold stepB
 rw [h i (Nat.le_refl _), pastL_congr h', turnB_congr h']
 have : (fun p => (findN l i p).isSome) = fun p => (findN m i p).isSome := by
  funext p
  rw [find_congr h']
 rw [this, find_congr h']
section
variable {l m : List NodeD}
theorem add_facts {id : List Int} {o : OpD} (h : addE m id o = 0) : rightG m = true ∧ rightO o = true ∧ findN m m.length id = none ∧ m.length ≠ 96 ∧ o.parents.all (fun p => (findN m m.length p).isSome) = true ∧ seqOk m o = true := by
 unfold addE at h
 split at h
 ·cases h
 rename_i h1
 split at h
 ·cases h
 rename_i h2
 split at h
 ·cases h
 rename_i h3
 split at h
 ·cases h
 rename_i h4
 split at h
 ·cases h
 rename_i h5
 split at h
 ·cases h
 rename_i h6
 exact ⟨eq_true_of_ne_false h1, eq_true_of_ne_false h2, by simpa using h3, h4, eq_true_of_ne_false h5, eq_true_of_ne_false h6⟩
theorem rightO_first {o : OpD} (h : rightO o = true) (hk : o.kind ≠ 1) : 0 < o.parents.length := by
 unfold rightO at h
 simp only [Bool.and_eq_true] at h
 have := h.2.2.2.1
 unfold placeB at this
 rw [if_neg hk] at this
 simp only [Bool.and_eq_true, decide_eq_true_eq] at this
 exact this.2.1
theorem add_turn {id : List Int} {o : OpD} (h : addE m id o = 0) : turnB m m.length o (pastL m m.length o.parents) = true := by
 obtain ⟨h1, h2, h3, h4, h5, h6⟩ := add_facts h
 unfold seqOk at h6
 simp only [Bool.and_eq_true, Bool.not_eq_true', Bool.and_eq_false_iff, decide_eq_true_eq, decide_eq_false_iff_not] at h6
 obtain ⟨h7, h8, h9⟩ := h6
 unfold turnB
 rw [(ahead_all m m.length o.parents o.author).1 h9, Bool.true_and, Bool.and_eq_true, decide_eq_true_eq]
 refine ⟨?_, by rw [← h9]; exact h8⟩
 rw [beq_iff_eq, decide_eq_decide]
 constructor
 ·intro hk
  rcases h7 with h7 | h7
  ·exact absurd hk h7
  ·omega
 ·intro hn
  refine Decidable.byContradiction fun hk => ?_
  have hp := rightO_first h2 hk
  rw [List.all_eq_true] at h5
  obtain ⟨p, hp⟩ := List.exists_mem_of_length_pos hp
  have := h5 p hp
  rw [hn, findN_zero] at this
  cases this
theorem add_rightG {id : List Int} {o : OpD} (h : addE m id o = 0) : rightG (m ++ [addD m id o]) = true := by
 obtain ⟨h1, h2, h3, h4, h5, h6⟩ := add_facts h
 have hl := rightG_len h1
 have ht := add_turn h
 have hc : ∀ a, a < m.length → nd (m ++ [addD m id o]) a = nd m a := fun a ha => nd_push ha
 unfold rightG
 rw [Bool.and_eq_true, decide_eq_true_eq, List.all_eq_true]
 refine ⟨by simp; omega, fun i hi => ?_⟩
 rw [List.mem_range, List.length_append] at hi
 rcases Nat.lt_or_ge i m.length with hil | hil
 ·rw [stepB_congr (fun a ha => hc a (by omega))]
  exact right_step h1 hil
 ·have : i = m.length := by simp at hi; omega
  subst this
  rw [step_iff, nd_last]
  have hps : (fun p => (findN (m ++ [addD m id o]) m.length p).isSome) = fun p => (findN m m.length p).isSome := by
   funext p
   rw [find_congr hc]
  have e1 : (addD m id o).op = o := rfl
  have e2 : (addD m id o).id = id := rfl
  have e3 : (addD m id o).past = pastL m m.length o.parents := rfl
  rw [e1, e2, e3, hps, find_congr hc, pastL_congr hc, turnB_congr hc]
  exact ⟨h5, h2, h3, rfl, ht⟩
theorem ids_inj (h : rightG l = true) {i j : Nat} (hi : i < l.length) (hj : j < l.length) (e : (nd l i).id = (nd l j).id) : i = j := by
 rcases Nat.lt_trichotomy i j with hlt | rfl | hlt
 ·exact absurd e (ids_ne h hlt hj)
 ·rfl
 ·exact absurd e.symm (ids_ne h hlt hi)
structure Sub (l m : List NodeD) : Prop where
 left : rightG l = true
 right : rightG m = true
 at_ : ∀ j, j < m.length → ∃ i, i < l.length ∧ (nd m j).id = (nd l i).id ∧ (nd m j).op = (nd l i).op
theorem Sub.op (h : Sub l m) {i j : Nat} (hi : i < l.length) (hj : j < m.length) (e : (nd m j).id = (nd l i).id) : (nd m j).op = (nd l i).op := by
 obtain ⟨i', h1, h2, h3⟩ := h.at_ j hj
 obtain rfl : i = i' := ids_inj h.left hi h1 (e.symm.trans h2)
 exact h3
theorem in_past (h : rightG l = true) {i k : Nat} (hi : i < l.length) : (k : Int) ∈ (nd l i).past ↔ ∃ p ∈ (nd l i).op.parents, ∃ a, findN l i p = some a ∧ (a = k ∨ (k : Int) ∈ (nd l a).past) := by
 rw [right_past h hi, mem_pastL, inB_iff]
 refine ⟨fun h => h.2, fun hh => ⟨?_, hh⟩⟩
 obtain ⟨p, hp, a, ha, hor⟩ := hh
 have hal := findN_lt ha
 rcases hor with rfl | hor
 ·exact hal
 ·obtain ⟨k', e, hk⟩ := past_bd h (by omega) hor
  omega
theorem Sub.past (h : Sub l m) : ∀ (j : Nat), j < m.length → ∀ (i j' i' : Nat), i < l.length → (nd m j).id = (nd l i).id → j' < m.length → i' < l.length → (nd m j').id = (nd l i').id → ((j' : Int) ∈ (nd m j).past ↔ (i' : Int) ∈ (nd l i).past) := by
 intro j
 induction j using Nat.strongRecOn with
 | ind j ih =>
  intro hj i j' i' hi e hj' hi' e'
  have hop := h.op hi hj e
  rw [in_past h.right hj, in_past h.left hi, hop]
  refine exists_congr fun p => and_congr_right fun hp => ?_
  obtain ⟨a, ha⟩ := right_par h.right hj (by rw [hop]; exact hp)
  obtain ⟨b, hb⟩ := right_par h.left hi hp
  have hal := findN_lt ha
  have hbl := findN_lt hb
  have hia := findN_id ha
  have hib := findN_id hb
  rw [ha, hb]
  have eab : (nd m a).id = (nd l b).id := hia.trans hib.symm
  simp only [Option.some.injEq, exists_eq_left']
  refine or_congr ?_ (ih a hal (by omega) b j' i' (by omega) eab hj' hi' e')
  constructor
  ·rintro rfl
   exact ids_inj h.left (by omega) hi' (eab.symm.trans e')
  ·rintro rfl
   exact ids_inj h.right (by omega) hj' (eab.trans e'.symm)
theorem Sub.closed (h : Sub l m) : ∀ (j : Nat), j < m.length → ∀ (i i' : Nat), i < l.length → (nd m j).id = (nd l i).id → (i' : Int) ∈ (nd l i).past → ∃ j', j' < m.length ∧ (nd m j').id = (nd l i').id := by
 intro j
 induction j using Nat.strongRecOn with
 | ind j ih =>
  intro hj i i' hi e hp
  have hop := h.op hi hj e
  rw [in_past h.left hi] at hp
  obtain ⟨p, hp, b, hb, hor⟩ := hp
  obtain ⟨a, ha⟩ := right_par h.right hj (by rw [hop]; exact hp)
  have hal := findN_lt ha
  have hbl := findN_lt hb
  have eab : (nd m a).id = (nd l b).id := (findN_id ha).trans (findN_id hb).symm
  rcases hor with rfl | hor
  ·exact ⟨a, by omega, eab⟩
  ·exact ih a hal (by omega) b i' (by omega) eab hor
theorem ids_nodup (h : rightG l = true) (n : Nat) (hn : n ≤ l.length) (p : Nat → Bool) : (((List.range n).filter p).map fun k => (nd l k).id).Nodup := by
 rw [List.Nodup, List.pairwise_map]
 refine List.Pairwise.imp_of_mem ?_ (List.Pairwise.filter _ List.pairwise_lt_range)
 intro i j hi hj hij
 exact ids_ne h hij (by have := List.mem_range.1 (List.mem_filter.1 hj).1; omega)
theorem mem_ids {n : Nat} {p : Nat → Bool} {k : List Int} : k ∈ ((List.range n).filter p).map (fun k => (nd l k).id) ↔ ∃ i, i < n ∧ p i = true ∧ (nd l i).id = k := by
 rw [List.mem_map]
 refine exists_congr fun i => ?_
 rw [List.mem_filter, List.mem_range]
 exact and_assoc
theorem filtT (n : Nat) : (List.range n).filter (fun _ => true) = List.range n := List.filter_eq_self.2 (fun _ _ => rfl)
theorem leastG {P : Nat → Prop} : ∀ n, (∃ i, i < n ∧ P i) → ∃ i, i < n ∧ P i ∧ ∀ j, j < i → ¬ P j := by
 intro n
 induction n with
 | zero => rintro ⟨i, hi, _⟩; omega
 | succ n ih =>
  rintro ⟨i, hi, hp⟩
  by_cases h : ∃ i, i < n ∧ P i
  ·obtain ⟨i, a, b, c⟩ := ih h
   exact ⟨i, by omega, b, c⟩
  ·refine ⟨i, hi, hp, fun j hj hpj => h ⟨j, by omega, hpj⟩⟩
theorem Sub.len (h : Sub l m) : m.length ≤ l.length := by
 have := List.Nodup.length_le_of_subset (l₂ := ((List.range l.length).filter fun _ => true).map fun k => (nd l k).id) (ids_nodup h.right m.length (Nat.le_refl _) (fun _ => true)) (fun k hk => by
  obtain ⟨j, hj, _, rfl⟩ := mem_ids.1 hk
  obtain ⟨i, hi, e, _⟩ := h.at_ j hj
  exact mem_ids.2 ⟨i, hi, rfl, e.symm⟩)
 simpa [filtT] using this
theorem Sub.more (h : Sub l m) (hlt : m.length < l.length) (h40 : l.length ≤ 90) : ∃ i, i < l.length ∧ addE m (nd l i).id (nd l i).op = 0 := by
 obtain ⟨i, hi, hno, hle⟩ : ∃ i, i < l.length ∧ (∀ j, j < m.length → (nd m j).id ≠ (nd l i).id) ∧ ∀ i', i' < i → ¬ (∀ j, j < m.length → (nd m j).id ≠ (nd l i').id) := by
  refine leastG l.length ?_
  refine Classical.byContradiction fun hall => ?_
  have := List.Nodup.length_le_of_subset (l₂ := ((List.range m.length).filter fun _ => true).map fun k => (nd m k).id) (ids_nodup h.left l.length (Nat.le_refl _) (fun _ => true)) (fun k hk => by
   obtain ⟨i, hi, _, rfl⟩ := mem_ids.1 hk
   refine Classical.byContradiction fun hn => hall ⟨i, hi, fun j hj e => hn (mem_ids.2 ⟨j, hj, rfl, e⟩)⟩)
  simp [filtT] at this
  omega
 have hthere : ∀ i', i' < i → ∃ j, j < m.length ∧ (nd m j).id = (nd l i').id := fun i' hi' => by
  refine Classical.byContradiction fun hn => hle i' hi' fun j hj e => hn ⟨j, hj, e⟩
 refine ⟨i, hi, ?_⟩
 have hturn := right_turn h.left hi
 unfold turnB at hturn
 simp only [Bool.and_eq_true, decide_eq_true_eq, beq_iff_eq, decide_eq_decide] at hturn
 obtain ⟨hk1, hau, hsq⟩ := hturn
 have f1 := h.right
 have f2 := right_op h.left hi
 have f3 : findN m m.length (nd l i).id = none := findN_eq_none hno
 have hpar : ∀ p ∈ (nd l i).op.parents, ∀ a, findN l i p = some a → ∃ j, j < m.length ∧ findN m m.length p = some j ∧ (nd m j).id = (nd l a).id := fun p hp a ha => by
  obtain ⟨j, hj, e⟩ := hthere a (findN_lt ha)
  have hid := findN_id ha
  refine ⟨j, hj, ?_, e⟩
  rw [← hid, ← e]
  exact find_self h.right hj (Nat.le_refl _)
 have f5 : (nd l i).op.parents.all (fun p => (findN m m.length p).isSome) = true := by
  rw [List.all_eq_true]
  intro p hp
  obtain ⟨a, ha⟩ := right_par h.left hi hp
  obtain ⟨j, hj, e, _⟩ := hpar p hp a ha
  rw [e]; rfl
 have hbefore : ∀ j, j < m.length → ∀ i', i' < l.length → (nd m j).id = (nd l i').id → (nd l i').op.author = (nd l i).op.author → i' < i := fun j hj i' hi' e ea => by
  refine Classical.byContradiction fun hge => ?_
  rcases Nat.eq_or_lt_of_le (Nat.le_of_not_lt hge) with rfl | hgt
  ·exact hno j hj e
  ·obtain ⟨j', hj', e'⟩ := h.closed j hj i' i hi' e (author_ahead h.left hgt hi' ea.symm)
   exact hno j' hj' e'
 have hall : autA m m.length (nd l i).op.author (pastL m m.length (nd l i).op.parents) = true := by
  unfold autA at hau ⊢
  rw [List.all_eq_true] at hau ⊢
  intro j hj
  rw [List.mem_range] at hj
  by_cases ea : (nd m j).op.author = (nd l i).op.author
  ·obtain ⟨i', hi', e, eo⟩ := h.at_ j hj
   have hlt' := hbefore j hj i' hi' e (by rw [← eo]; exact ea)
   have := hau i' (List.mem_range.2 hlt')
   rw [← eo] at this
   have hin : (i' : Int) ∈ (nd l i).past := by simpa [ea] using this
   rw [in_past h.left hi] at hin
   obtain ⟨p, hp, a, ha, hor⟩ := hin
   have hal := findN_lt ha
   obtain ⟨b, hb, hfb, eb⟩ := hpar p hp a ha
   have hinm : (j : Int) ∈ pastL m m.length (nd l i).op.parents := by
    rw [mem_pastL, inB_iff]
    refine ⟨hj, p, hp, b, hfb, ?_⟩
    rcases hor with rfl | hor
    ·exact .inl (ids_inj h.right hb hj (eb.trans e.symm))
    ·exact .inr ((h.past b hb a j i' (by omega) eb hj hi' e).2 hor)
   simp [hinm]
  ·have : ((nd m j).op.author == (nd l i).op.author) = false := by simpa using ea
   simp [this]
 have hcnt : autN m m.length (nd l i).op.author = autN l i (nd l i).op.author := by
  unfold autN
  have hp := (List.perm_ext_iff_of_nodup (ids_nodup h.right m.length (Nat.le_refl _) (fun a => (nd m a).op.author == (nd l i).op.author)) (ids_nodup h.left i (by omega) (fun a => (nd l a).op.author == (nd l i).op.author))).2 (fun k => by
   rw [mem_ids, mem_ids]
   constructor
   ·rintro ⟨j, hj, ea, rfl⟩
    obtain ⟨i', hi', e, eo⟩ := h.at_ j hj
    rw [beq_iff_eq] at ea
    have ea' : (nd l i').op.author = (nd l i).op.author := by rw [← eo]; exact ea
    exact ⟨i', hbefore j hj i' hi' e ea', by simp [ea'], e.symm⟩
   ·rintro ⟨i', hi', ea, rfl⟩
    obtain ⟨j, hj, e⟩ := hthere i' hi'
    have eo := h.op (by omega) hj e
    exact ⟨j, hj, by rw [eo]; exact ea, e⟩)
  have := hp.length_eq
  simpa using this
 have f6 : seqOk m (nd l i).op = true := by
  have hah := (ahead_all m m.length (nd l i).op.parents (nd l i).op.author).2 hall
  unfold seqOk
  rw [hah, hcnt]
  simp only [decide_true, Bool.and_true, Bool.and_eq_true, Bool.not_eq_true', Bool.and_eq_false_iff, decide_eq_false_iff_not, decide_eq_true_eq]
  refine ⟨?_, hsq⟩
  by_cases hm0 : 0 < m.length
  ·refine .inl fun hk => ?_
   have hi0 := hk1.1 hk
   have t0 := right_turn h.right hm0
   unfold turnB at t0
   simp only [Bool.and_eq_true, beq_iff_eq, decide_eq_decide] at t0
   have hk0 := t0.1.2 trivial
   obtain ⟨i', hi', e, eo⟩ := h.at_ 0 hm0
   have t1 := right_turn h.left hi'
   unfold turnB at t1
   simp only [Bool.and_eq_true, beq_iff_eq, decide_eq_decide] at t1
   have := t1.1.1 (by rw [← eo]; exact hk0)
   subst this hi0
   exact hno 0 hm0 e
  ·exact .inr hm0
 unfold addE
 rw [f1, f2, f3, f5, f6, if_neg (by simp), if_neg (by simp), if_neg (by simp), if_neg (by omega), if_neg (by simp), if_neg (by simp)]
theorem Sub.nil (h : rightG l = true) : Sub l [] := ⟨h, rfl, fun j hj => by simp at hj⟩
theorem Sub.push (h : Sub l m) {i : Nat} (hi : i < l.length) (h0 : addE m (nd l i).id (nd l i).op = 0) : Sub l (m ++ [addD m (nd l i).id (nd l i).op]) := by
 refine ⟨h.left, add_rightG h0, fun j hj => ?_⟩
 rcases Nat.lt_or_ge j m.length with hjl | hjl
 ·rw [nd_push hjl]
  exact h.at_ j hjl
 ·have : j = m.length := by simp at hj; omega
  subst this
  rw [nd_last]
  exact ⟨i, hi, rfl, rfl⟩
theorem Sub.all (h : Sub l m) (he : m.length = l.length) : ∀ i, i < l.length → ∃ j, j < m.length ∧ (nd m j).id = (nd l i).id := fun i hi => by
 refine Classical.byContradiction fun hn => ?_
 have := List.Nodup.length_le_of_subset (l₁ := (nd l i).id :: ((List.range m.length).filter fun _ => true).map fun k => (nd m k).id) (l₂ := ((List.range l.length).filter fun _ => true).map fun k => (nd l k).id) (by
  rw [List.nodup_cons]
  exact ⟨fun hm => hn (by obtain ⟨j, hj, _, e⟩ := mem_ids.1 hm; exact ⟨j, hj, e⟩), ids_nodup h.right m.length (Nat.le_refl _) _⟩) (fun k hk => by
  rcases List.mem_cons.1 hk with rfl | hk
  ·exact mem_ids.2 ⟨i, hi, rfl, rfl⟩
  ·obtain ⟨j, hj, _, rfl⟩ := mem_ids.1 hk
   obtain ⟨i', hi', e, _⟩ := h.at_ j hj
   exact mem_ids.2 ⟨i', hi', rfl, e.symm⟩)
 simp [filtT] at this
 omega
end
end
section
section
variable {l m : List NodeD}
theorem rightG_takeO (h : rightG l = true) (k : Nat) : rightG (l.take k) = true := by
 have hl := rightG_len h
 unfold rightG
 rw [Bool.and_eq_true, decide_eq_true_eq, List.all_eq_true]
 refine ⟨by rw [List.length_take]; omega, fun i hi => ?_⟩
 rw [List.mem_range, List.length_take] at hi
 have hs := step_iff.1 (right_step h (i := i) (by omega))
 have hc : ∀ a, a < i → nd (l.take k) a = nd l a := fun a ha => nd_take (by omega)
 have hi2 : nd (l.take k) i = nd l i := nd_take (by omega)
 refine step_iff.2 ?_
 rw [hi2, find_congr hc, pastL_congr hc, turnB_congr hc]
 obtain ⟨h1, h2, h3, h4, h5⟩ := hs
 refine ⟨?_, h2, h3, h4, h5⟩
 rw [List.all_eq_true] at h1 ⊢
 intro p hp
 rw [find_congr hc]
 exact h1 p hp
theorem Sub.next (h : Sub l m) (hid : ∀ k, k < m.length → (nd m k).id = (nd l k).id) (hlt : m.length < l.length) (h40 : l.length ≤ 90) : addE m (nd l m.length).id (nd l m.length).op = 0 := by
 have hs : Sub (l.take (m.length + 1)) m := ⟨rightG_takeO h.left _, h.right, fun j hj => ⟨j, by rw [List.length_take]; omega, by rw [nd_take (by omega)]; exact hid j hj, by rw [nd_take (by omega)]; exact h.op (by omega) hj (hid j hj)⟩⟩
 obtain ⟨i, hi, h0⟩ := hs.more (by rw [List.length_take]; omega) (by rw [List.length_take]; omega)
 rw [List.length_take] at hi
 rw [nd_take (by omega)] at h0
 rcases Nat.lt_or_ge i m.length with hlt' | hge
 ·exact absurd (hid i hlt') (findN_none (add_facts h0).2.2.1 hlt')
 ·obtain rfl : i = m.length := by omega
  exact h0
def Sm (l m : List NodeD) (i j : Nat) : Prop := i < l.length ∧ j < m.length ∧ (nd m j).id = (nd l i).id
structure Cor (l m : List NodeD) (S T : List Int) : Prop where
 to : ∀ z ∈ S, ∃ i j : Nat, z = i ∧ Sm l m i j ∧ (j : Int) ∈ T
 fro : ∀ z ∈ T, ∃ i j : Nat, z = j ∧ Sm l m i j ∧ (i : Int) ∈ S
theorem Cor.any {S T : List Int} (h : Cor l m S T) (f g : Nat → Bool) (hfg : ∀ i j, Sm l m i j → (i : Int) ∈ S → (j : Int) ∈ T → f i = g j) : (S.any fun a => f a.toNat) = T.any fun a => g a.toNat := by
 rw [Bool.eq_iff_iff, List.any_eq_true, List.any_eq_true]
 constructor
 ·rintro ⟨z, hz, hf⟩
  obtain ⟨i, j, rfl, h1, h2⟩ := h.to z hz
  rw [Int.toNat_natCast] at hf
  exact ⟨j, h2, by rw [Int.toNat_natCast, ← hfg i j h1 hz h2]; exact hf⟩
 ·rintro ⟨z, hz, hf⟩
  obtain ⟨i, j, rfl, h1, h2⟩ := h.fro z hz
  rw [Int.toNat_natCast] at hf
  exact ⟨i, h2, by rw [Int.toNat_natCast, hfg i j h1 h2 hz]; exact hf⟩
theorem Cor.ros {S T : List Int} (h : Cor l m S T) (hs : Sub l m) {c d : List Bool} (hc : ∀ i j, Sm l m i j → (i : Int) ∈ S → c.getD i false = d.getD j false) (w : Int) : rosB l c S w = rosB m d T w := by
 have hrem : ∀ i j, Sm l m i j → (i : Int) ∈ S → ∀ v, remB l c i v = remB m d j v := fun i j e hi v => by
  unfold remB
  rw [hc i j e hi, hs.op e.1 e.2.1 e.2.2]
 have hah : ∀ a a' b b', Sm l m a a' → Sm l m b b' → ahB l a b = ahB m a' b' := fun a a' b b' ea eb => by
  unfold ahB
  rw [Bool.eq_iff_iff, decide_eq_true_eq, decide_eq_true_eq]
  exact (hs.past b' eb.2.1 b a' a eb.1 eb.2.2 ea.2.1 ea.1 ea.2.2).symm
 have hbes : ∀ a a', Sm l m a a' → besB l c S a = besB m d T a' := fun a a' ea => by
  unfold besB
  refine h.any (fun r => remB l c r (nd l a).op.author && (!ahB l r a && !ahB l a r)) (fun r => remB m d r (nd m a').op.author && (!ahB m r a' && !ahB m a' r)) fun i j e hi hj => ?_
  show (remB l c i (nd l a).op.author && (!ahB l i a && !ahB l a i)) = (remB m d j (nd m a').op.author && (!ahB m j a' && !ahB m a' j))
  rw [hrem i j e hi, hah i j a a' e ea, hah a a' i j ea e, hs.op ea.1 ea.2.1 ea.2.2]
 unfold rosB
 refine h.any (fun a => admB l c S a w && !(S.any fun r => remB l c r.toNat w && !ahB l r.toNat a)) (fun a => admB m d T a w && !(T.any fun r => remB m d r.toNat w && !ahB m r.toNat a)) fun a a' ea ha ha' => ?_
 show (admB l c S a w && !(S.any fun r => remB l c r.toNat w && !ahB l r.toNat a)) = (admB m d T a' w && !(T.any fun r => remB m d r.toNat w && !ahB m r.toNat a'))
 have h1 : (S.any fun r => remB l c r.toNat w && !ahB l r.toNat a) = T.any fun r => remB m d r.toNat w && !ahB m r.toNat a' := by
  refine h.any (fun r => remB l c r w && !ahB l r a) (fun r => remB m d r w && !ahB m r a') fun i j e hi hj => ?_
  show (remB l c i w && !ahB l i a) = (remB m d j w && !ahB m j a')
  rw [hrem i j e hi, hah i j a a' e ea]
 rw [h1]
 unfold admB
 rw [hc a a' ea ha, hbes a a' ea, hs.op ea.1 ea.2.1 ea.2.2]
theorem Sub.corPast (hs : Sub l m) {i j : Nat} (e : Sm l m i j) : Cor l m (nd l i).past (nd m j).past := by
 refine ⟨fun z hz => ?_, fun z hz => ?_⟩
 ·obtain ⟨k, rfl, hk⟩ := past_bd hs.left e.1 hz
  obtain ⟨j', hj', e'⟩ := hs.closed j e.2.1 i k e.1 e.2.2 hz
  exact ⟨k, j', rfl, ⟨by have := e.1; omega, hj', e'⟩, (hs.past j e.2.1 i j' k e.1 e.2.2 hj' (by have := e.1; omega) e').2 hz⟩
 ·obtain ⟨k, rfl, hk⟩ := past_bd hs.right e.2.1 hz
  have hkm : k < m.length := by have := e.2.1; omega
  obtain ⟨i', hi', e', _⟩ := hs.at_ k hkm
  exact ⟨i', k, rfl, ⟨hi', hkm, e'⟩, (hs.past j e.2.1 i k i' e.1 e.2.2 hkm hi' e').1 hz⟩
theorem Sub.cnts (hs : Sub l m) : ∀ i j, Sm l m i j → (cntsB l).getD i false = (cntsB m).getD j false := by
 intro i
 induction i using Nat.strongRecOn with
 | ind i ih =>
  intro j e
  rw [cnts_at hs.left e.1, cnts_at hs.right e.2.1, hs.op e.1 e.2.1 e.2.2, (hs.corPast e).ros hs (c := cntsB l) (d := cntsB m) (fun a b eab ha => by
   obtain ⟨k, ek, hk⟩ := past_bd hs.left e.1 ha
   exact ih a (by omega) b eab)]
theorem Sub.allR (hs : Sub l m) (he : m.length = l.length) : allR l = allR m := by
 unfold Go.Proofs.Ytdeccbjdhcifiaa.allR
 rw [hs.left, hs.right, if_pos rfl, if_pos rfl]
 congr 1
 funext w
 refine Cor.ros ⟨fun z hz => ?_, fun z hz => ?_⟩ hs (fun i j e _ => hs.cnts i j e) w
 ·obtain ⟨h1, h2⟩ := mem_rgZ.1 hz
  obtain ⟨j, hj, e⟩ := hs.all he z.toNat (by omega)
  exact ⟨z.toNat, j, by omega, ⟨by omega, hj, e⟩, mem_rgZ.2 (by omega)⟩
 ·obtain ⟨h1, h2⟩ := mem_rgZ.1 hz
  obtain ⟨i, hi, e, _⟩ := hs.at_ z.toNat (by omega)
  exact ⟨i, z.toNat, by omega, ⟨hi, by omega, e⟩, mem_rgZ.2 (by omega)⟩
theorem ros_drop {c : List Bool} {S : List Int} {a : Nat} (hk : 4 ≤ (nd l a).op.kind) (w : Int) : rosB l c (S ++ [(a : Int)]) w = rosB l c S w := by
 have hrem : ∀ v, remB l c a v = false := fun v => by
  unfold remB
  rw [decide_eq_false (by omega), Bool.false_and]
 have hbes : ∀ b, besB l c (S ++ [(a : Int)]) b = besB l c S b := fun b => by
  unfold besB
  rw [List.any_append]
  simp [hrem]
 have hadm : ∀ b v, admB l c (S ++ [(a : Int)]) b v = admB l c S b v := fun b v => by
  unfold admB
  rw [hbes]
 have hno : ∀ T v, admB l c T a v = false := fun T v => by
  unfold admB
  rw [decide_eq_false (show ¬ (nd l a).op.kind = 1 by omega), decide_eq_false (show ¬ (nd l a).op.kind = 2 by omega)]
  simp
 unfold rosB
 rw [List.any_append]
 simp [hrem, hadm, hno]
theorem still {x : NodeD} (h : rightG (m ++ [x]) = true) (hm : rightG m = true) (hk : 4 ≤ x.op.kind) : allR (m ++ [x]) = allR m := by
 have hs : Sub (m ++ [x]) m := ⟨h, hm, fun j hj => ⟨j, by simp; omega, by rw [nd_push hj], by rw [nd_push hj]⟩⟩
 unfold allR
 rw [h, hm, if_pos rfl, if_pos rfl]
 congr 1
 funext w
 rw [List.length_append, List.length_singleton, rgZ_succ, ros_drop (by rw [nd_last]; exact hk)]
 refine Cor.ros ⟨fun z hz => ?_, fun z hz => ?_⟩ hs (fun i j e _ => hs.cnts i j e) w
 ·obtain ⟨h1, h2⟩ := mem_rgZ.1 hz
  exact ⟨z.toNat, z.toNat, by omega, ⟨by simp; omega, by omega, by rw [nd_push (by omega)]⟩, mem_rgZ.2 (by omega)⟩
 ·obtain ⟨h1, h2⟩ := mem_rgZ.1 hz
  exact ⟨z.toNat, z.toNat, by omega, ⟨by simp; omega, by omega, by rw [nd_push (by omega)]⟩, mem_rgZ.2 (by omega)⟩
end
end
section
structure Took (n : Nat) (H : AH) (l : List NodeD) (G : AH) (mv : Value) (m : List NodeD) : Prop where
 low : Low n H G
 nda : NdA G mv m
 sub : Sub l m
theorem Took.keep {n : Nat} {H G K : AH} {l m : List NodeD} {mv : Value} (h : Took n H l G mv m) (hk : Low G.length G K) : Took n H l K mv m :=
 ⟨⟨fun j hj => (hk.1 j (by have := h.low.2; omega)).trans (h.low.1 j hj), by have := h.low.2; have := hk.2; omega⟩, h.nda.lowG hk, h.sub⟩
end
section
structure HeldD where
 id : List Int
 op : OpD
 got : List (List Int)
def HeldD.row (x : HeldD) : List CD := kd x.id ++ (x.op.row ++ [.sl (x.got.map kd)])
def heldK : List CK := keyK ++ (opK ++ [CK.sl keyK])
structure HeldD.Wf (x : HeldD) : Prop where
 id : Key32 x.id
 op : x.op.Wf
 got : ∀ k ∈ x.got, Key32 k
 glen : x.got.length ≤ maxLen
theorem held_of {ds : List CD} (h : OkL heldK ds) : ∃ x : HeldD, ds = x.row ∧ x.Wf := by
 obtain ⟨a, r, rfl, h1, h2⟩ := OkL.split h
 obtain ⟨kid, rfl, hid⟩ := key_of h1
 obtain ⟨c, r2, rfl, h3, h4⟩ := OkL.split h2
 obtain ⟨o, rfl, ho⟩ := op_of h3
 obtain ⟨d, r3, rfl, o2, h7⟩ := h4.cons
 obtain rfl := h7.nil
 obtain ⟨zs, rfl, hz, hl⟩ := ok_keys o2
 exact ⟨⟨kid, o, zs⟩, rfl, hid, ho, fun k hk => ⟨(hz k hk).1, fun z hm => wf_u8 ((hz k hk).2 z hm)⟩, hl⟩
theorem helds_of {d : CD} (h : CD.Ok (.sl heldK) d) : ∃ l : List HeldD, d = .sl (l.map HeldD.row) ∧ (∀ x ∈ l, x.Wf) ∧ l.length ≤ maxLen := by
 obtain ⟨rows, rfl, hm, hr⟩ := ok_sl h
 obtain ⟨l, rfl, hl⟩ := rows_of (f := HeldD.row) (R := HeldD.Wf) rows (fun row hrow => held_of (hr row hrow))
 exact ⟨l, rfl, hl, by simpa using hm⟩
def HdV (H : AH) (v : Value) (l : List HeldD) : Prop := CD.Val H (.sl (l.map HeldD.row)) v
structure HdC (H : AH) (us : List Value) (x : HeldD) (pv wv bv qv : Value) : Prop where
 len : us.length = 104
 id : us.take 32 = iv .u8 x.id
 op : OpC H ((us.drop 32).take 71) x.op pv wv bv
 c103 : us[103]? = some qv
 got : KsV H qv x.got
theorem held_c {H : AH} {x : HeldD} (hw : x.Wf) {us : List Value} (h : ValL H x.row us) : ∃ pv wv bv qv, HdC H us x pv wv bv qv := by
 obtain ⟨a, r, rfl, h1, h2⟩ := ValL.split h
 have hk := h1.key
 obtain ⟨c, r2, rfl, h3, h4⟩ := ValL.split h2
 obtain ⟨pv, wv, bv, hc⟩ := op_c hw.op h3
 obtain ⟨qv, r5, rfl, vq, h8⟩ := h4.cons
 obtain rfl := h8.nil
 have hl : (iv .u8 x.id).length = 32 := by rw [iv_length]; exact hw.id.1
 rw [hk]
 have hcl := hc.len
 refine ⟨pv, wv, bv, qv, ⟨by simp [hl, hcl], ?_, ?_, ?_, vq⟩⟩
 ·rw [List.take_append_of_le_length (by omega), List.take_of_length_le (by omega)]
 ·have : ((iv .u8 x.id ++ (c ++ [qv])).drop 32).take 71 = c := by
   rw [List.drop_append_of_le_length (by omega), List.drop_of_length_le (by omega), List.nil_append, List.take_append_of_le_length (by omega), List.take_of_length_le (by omega)]
  rw [this]
  exact hc
 ·rw [List.getElem?_append_right (by omega), List.getElem?_append_right (by omega), hl, hcl]
  rfl
def HeldD.no : HeldD := ⟨[], NodeD.no.op, []⟩
def hn (l : List HeldD) (i : Nat) : HeldD := l.getD i HeldD.no
theorem hn_get {l : List HeldD} {i : Nat} (h : i < l.length) : l[i]? = some (hn l i) := by
 unfold hn
 rw [List.getD_eq_getElem?_getD, List.getElem?_eq_getElem h]; rfl
theorem hn_eq {l : List HeldD} {i : Nat} {x : HeldD} (h : l[i]? = some x) : hn l i = x := by
 unfold hn
 rw [List.getD_eq_getElem?_getD, h]; rfl
def findH (l : List HeldD) (i : Nat) (k : List Int) : Option Nat := (List.range i).find? fun a => (hn l a).id == k
structure HdA (H : AH) (v : Value) (l : List HeldD) : Prop where
 nt : notTuple v = true
 cs : v.cells = #[v]
 len : xlen Try.prog 58 v = some (.int .i64 l.length)
 wf : ∀ x ∈ l, x.Wf
 at_ : ∀ i x, l[i]? = some x → ∃ j q b us pv wv bv qv, xindexAddr Try.prog 58 v (.int .i64 (i : Nat)) = some (.pointer (some ⟨j, q, none⟩)) ∧ hget H j = some b ∧ q + 104 ≤ b.cells.length ∧ (∀ c, c < 104 → b.cells[q + c]? = us[c]?) ∧ us = (b.cells.drop q).take 104 ∧ HdC H us x pv wv bv qv
theorem HdC.low {H H' : AH} {us : List Value} {x : HeldD} {pv wv bv qv : Value} (h : HdC H us x pv wv bv qv) (hl : ∀ j, j < H.length → hget H' j = hget H j) : HdC H' us x pv wv bv qv := by
 exact ⟨h.len, h.id, h.op.low hl, h.c103, h.got.low hl⟩
theorem HdA.lowG {H G : AH} {nv : Value} {l : List HeldD} (hN : HdA H nv l) (hlow : Low H.length H G) : HdA G nv l := ⟨hN.nt, hN.cs, hN.len, hN.wf, fun i x hx => by
 obtain ⟨j, q, bb, us, pv, wv', bv, qv, h1, h2, h3, h4, h5, h6⟩ := hN.at_ i x hx
 exact ⟨j, q, bb, us, pv, wv', bv, qv, h1, (hlow.1 j (hget_lt h2)).trans h2, h3, h4, h5, h6.low hlow.1⟩⟩
attribute [local simp] wb_bool wb_undef with_lit XL_nil XL_cons XLc_val XLc_call step1_eq stepW_t stepW_f stepC_n stepC_s stepX_s stepX_n stepN_s calleeX xrecv oneV xop_eq xopR_s xopR_n wantedA_eq wantedG_n wantedG_s plain1_int plain1_bool plain1_string bits_i64 bits_u64 bits_u32 bits_u16 bits_u8 xeqA xagg xcmp xarr allK_iv num_iv calleeOf xread xeff xbin xint xnil xun xstr xload xconv xpart xfield xfieldAddr xindexAddr xindex bnd asInt? xslice xlen xmin xmax xbuild xfill xappend xapp2 xappstr xappmk xcap xcopy xcells eval_tmp eval_const put_at put_none fr0_at cells_agg cells_int cells_bool cells_string cells_ptr cells_slice notTuple tab iv_all hget_app hget_app0 hget_cons0 hget_cons set_app set_app0 setR setR_one QL_nil QL_cons QLc_val stepQ_t stepQ_f stepQC_n stepQC_s stepQX_s SL_nil SL_cons SLc_val stepS_t stepS_f ltT ltF leT leF eqT eqF ltTn ltFn leTn leFn eqTn eqFn beqT beqF bneT bneF wi64 wu64 wu32 wu16 wu8 tmodP tdivP hgetL hgetNe hgetEq setL nums_def nums_len Nat.succ_le_of_lt List.getElem?_cons_zero List.getElem?_cons_succ Option.getD_some Int.toNat_add Int.toNat_mul agM okM agB agI agS agP agL agA okB okI okS okP okSl okA
theorem HdV.hda {H : AH} {v : Value} {l : List HeldD} (h : HdV H v l) (hl : ∀ x ∈ l, x.Wf) : HdA H v l := by
 refine ⟨(val_nt h).1, (val_nt h).2, ?_, hl, fun i z hz => ?_⟩
 ·have := val_len (P := Try.prog) (t := 58) (e := 60) h (by simp)
  rw [List.length_map] at this
  exact this
 have hzw := hl z (List.mem_of_getElem? hz)
 obtain ⟨j, b, us, hv, hb, hle, hx, hus, hul, hle2, hc, hval⟩ := val_at (P := Try.prog) (t := 58) (e := 60) (sz := 104) h (by simp) (by simp) (by omega) (fun row hr => by
  obtain ⟨y, hy, rfl⟩ := List.mem_map.1 hr
  have h1 := (hl y hy).id.1
  have h2 := (hl y hy).op.of.1
  have h3 := (hl y hy).op.check.1
  simp [HeldD.row, OpD.row, kd, h1, h2, h3]) (i := i) (row := z.row) (by rw [List.getElem?_map, hz]; rfl)
 obtain ⟨pv, wv, bv, qv, hcc⟩ := held_c hzw hval
 exact ⟨j, i * 104, b, us, pv, wv, bv, qv, hx, hb, hle2, hc, hus, hcc⟩
theorem helds_in {H : AH} {ds : List CD} {u : Value} (ho : OkL [.sl heldK] ds) (hv : ValL H ds [u]) : ∃ l, HdV H u l ∧ (∀ x ∈ l, x.Wf) ∧ l.length ≤ maxLen := by
 obtain ⟨d, r, rfl, h1, h2⟩ := ho.cons
 obtain rfl := h2.nil
 obtain ⟨l, rfl, h3, h4⟩ := helds_of h1
 obtain ⟨u', r', e, h5, h6⟩ := hv.cons
 cases e
 exact ⟨l, h5, h3, h4⟩
theorem held_in {H : AH} {ds : List CD} {us : List Value} (ho : OkL heldK ds) (hv : ValL H ds us) : ∃ x pv wv bv qv, HdC H us x pv wv bv qv ∧ x.Wf := by
 obtain ⟨x, rfl, hw⟩ := held_of ho
 obtain ⟨pv, wv, bv, qv, h⟩ := held_c hw hv
 exact ⟨x, pv, wv, bv, qv, h, hw⟩
end
section
attribute [local simp] wb_bool wb_undef with_lit XL_nil XL_cons XLc_val XLc_call step1_eq stepW_t stepW_f stepC_n stepC_s stepX_s stepX_n stepN_s calleeX xrecv oneV xop_eq xopR_s xopR_n wantedA_eq wantedG_n wantedG_s plain1_int plain1_bool plain1_string bits_i64 bits_u64 bits_u32 bits_u16 bits_u8 xeqA xagg xcmp xarr allK_iv num_iv calleeOf xread xeff xbin xint xnil xun xstr xload xconv xpart xfield xfieldAddr xindexAddr xindex bnd asInt? xslice xlen xmin xmax xbuild xfill xappend xapp2 xappstr xappmk xcap xcopy xcells eval_tmp eval_const put_at put_none fr0_at cells_agg cells_int cells_bool cells_string cells_ptr cells_slice notTuple tab iv_all hget_app hget_app0 hget_cons0 hget_cons set_app set_app0 setR setR_one QL_nil QL_cons QLc_val stepQ_t stepQ_f stepQC_n stepQC_s stepQX_s SL_nil SL_cons SLc_val stepS_t stepS_f ltT ltF leT leF eqT eqF ltTn ltFn leTn leFn eqTn eqFn beqT beqF bneT bneF wi64 wu64 wu32 wu16 wu8 tmodP tdivP hgetL hgetNe hgetEq setL nums_def nums_len Nat.succ_le_of_lt List.getElem?_cons_zero List.getElem?_cons_succ Option.getD_some Int.toNat_add Int.toNat_mul agM okM agB agI agS agP agL agA okB okI okS okP okSl okA
theorem qfind1_rc {nro : Nat} {γ : Nat → Option Nat} {G : AH} {us : List Value} {x : HeldD} {id : List Int} {g : Nat} (hul : us.length = 104) (hid : us.take 32 = iv .u8 x.id) (hxl : x.id.length = 32) (hil : id.length = 32) (hg : hget G g = some ⟨iv .u8 id, 38, none⟩) :
  AC Try.prog nro γ 89 #[.agg us.toArray, .pointer (some ⟨g, 0, none⟩)] G (fun v' H' => Low G.length G H' ∧ v' = .bool (decide (x.id = id))) := by
 have hgl := hget_lt hg
 have hivl : (iv .u8 id).length = 32 := by rw [iv_length, hil]
 have hta : (iv .u8 id).take 32 = iv .u8 id := List.take_of_length_le (by omega)
 have hivx : (iv .u8 x.id).length = 32 := by rw [iv_length, hxl]
 refine ac_of_aw Try.func89 rfl Try.ntmps89 Try.results89 (by simp) ?_
 refine aw_seq ?_
 (refine aw_ops (by kernel_rfl) (fun K hK => ?_); simp (disch := first | omega | (simp only [lnS]; try omega)) [-getElem?_pos, -getElem?_neg, hul]; refine hK _ _ ?_; clear hK K)
 obtain ⟨hlow2, hb2⟩ := boxed (H := G) us 60
 obtain ⟨b, hb⟩ : ∃ b, b = G.length := ⟨_, rfl⟩
 have hg2 := hget_left' (L := [some ⟨us, 60, none⟩]) hg
 rw [← hb] at hb2 ⊢
 generalize G ++ [some ⟨us, 60, none⟩] = G2 at *
 refine aw_seq ?_
 (refine aw_ops (by kernel_rfl) (fun K hK => ?_); simp (disch := first | omega | (simp only [lnS]; try omega)) [-getElem?_pos, -getElem?_neg, hb2, hul, hid, hivx, hg2, hta, hivl, nt_aggG]; refine hK _ _ ?_; clear hK K)
 have hd : decide (x.id = id) = (x.id == id) := by rw [Bool.eq_iff_iff]; simp
 rw [hd]
 (refine aw_ret ?_; simp (disch := first | omega | (simp only [lnS]; try omega)) [-getElem?_pos, -getElem?_neg, thenQ_ret, scopeQ_ret, inBlockQ_ret, RQ, resL, resV])
 all_goals (subst hb; exact hlow2)
theorem qfind1_callable : callable Try.prog 89 = true := by kernel_rfl
theorem indexHn_rc {γ : Nat → Option Nat} {H : AH} {nv : Value} {l : List HeldD} (hN : HdA H nv l) (hl : l.length ≤ maxLen) {f : Nat} {cs : Array Value} {p : Nat → Bool} (hcal : callable Try.prog f = true)
  (hf : ∀ (G : AH) (i : Nat) (us : List Value) (pv wv bv qv : Value), Low H.length H G → i < l.length → us.length = 104 → HdC H us (hn l i) pv wv bv qv → AC Try.prog G.length γ f (#[.agg us.toArray] ++ cs) G (fun v' _ => v' = .bool (p i))) :
  AC Try.prog H.length γ 88 #[nv, .func (.func f) #[] cs] H (fun v' _ => v' = .int .i64 (firstI l.length p)) := by
 obtain ⟨hnt, hvc, hxl, hwf, hat⟩ := hN
 have hm63 : l.length ≤ 9223372036854775807 := by simp only [maxLen] at hl; omega
 have hfn : notTuple (.func (.func f) #[] cs) = true := rfl
 have hfc : (Value.func (.func f) #[] cs).cells = #[.func (.func f) #[] cs] := rfl
 refine ac_of_aw Try.func88 rfl Try.ntmps88 Try.results88 (by simp) ?_
 refine aw_seq ?_
 (refine aw_ops (by kernel_rfl) (fun K hK => ?_); simp (disch := first | omega | (simp only [lnS]; try omega)) [-getElem?_pos, -getElem?_neg]; refine hK _ _ ?_; clear hK K)
 refine aw_seq ?_
 refine aw_seq ?_
 (refine aw_ops (by kernel_rfl) (fun K hK => ?_); simp (disch := first | omega | (simp only [lnS]; try omega)) [-getElem?_pos, -getElem?_neg, -notTuple, hnt, hvc, nt_intG, -xlen, hxl]; refine hK _ _ ?_; clear hK K)
 refine aw_block ?_
 refine aw_loop (fun c α G => ∃ i : Nat, i + c = l.length ∧ Low H.length H G ∧ α 0 = nv ∧ α 1 = .func (.func f) #[] cs ∧ α 7 = .int .i64 (l.length : Nat) ∧ α 8 = .int .i64 (i : Nat) ∧ ∀ k, k < i → p k = false) l.length ?_ ?_
 ·exact ⟨0, by omega, Low.refl (Nat.le_refl _), by (first | (simp [put_at, put_none, fr0_at]; done) | rfl), by (first | (simp [put_at, put_none, fr0_at]; done) | rfl), by (first | (simp [put_at, put_none, fr0_at]; done) | rfl), by (first | (simp [put_at, put_none, fr0_at]; done) | rfl), fun k hk => by omega⟩
 rintro c α G ⟨i, hic, hlow, h0, h1, h7, h8, hpre⟩
 refine aw_seq ?_
 by_cases hi : i < l.length
 case neg =>
  (refine aw_ops (by kernel_rfl) (fun K hK => ?_); simp (disch := first | omega | (simp only [lnS]; try omega)) [-getElem?_pos, -getElem?_neg, h7, h8, hi]; refine hK _ _ ?_; clear hK K)
  refine aw_seq ?_
  refine aw_f (by (first | (simp [eval_tmp, put_at, hi]; done) | (simp [eval_tmp, put_at, hi]; omega))) (by kernel_rfl) ?_
  refine aw_exit ?_
  refine aw_seq ?_
  (refine aw_ops (by kernel_rfl) (fun K hK => ?_); simp (disch := first | omega | (simp only [lnS]; try omega)) [-getElem?_pos, -getElem?_neg]; refine hK _ _ ?_; clear hK K)
  (refine aw_ret ?_; simp (disch := first | omega | (simp only [lnS]; try omega)) [-getElem?_pos, -getElem?_neg, thenQ_ret, scopeQ_ret, inBlockQ_ret, RQ, resL, resV])
  exact (firstI_none (fun k hk => hpre k (by omega))).symm
 obtain ⟨j, q, bb, us, pv, wv', bv, qv, hx, hbb, hq, hcell, hus, hC⟩ := hat i _ (hn_get hi)
 have hbG : hget G j = some bb := (hlow.1 j (hget_lt hbb)).trans hbb
 have hul := hC.len
 have hus' := hus.symm
 clear hus
 have hc := hf G i us pv wv' bv qv hlow hi hul hC
 (refine aw_ops (by kernel_rfl) (fun K hK => ?_); simp (disch := first | omega | (simp only [lnS]; try omega)) [-getElem?_pos, -getElem?_neg, h7, h8, hi]; refine hK _ _ ?_; clear hK K)
 refine aw_seq ?_
 refine aw_t (by (first | (simp [eval_tmp, put_at, hi]; done) | (simp [eval_tmp, put_at, hi]; omega))) (by kernel_rfl) ?_
 refine aw_skip ?_
 refine aw_seq ?_
 refine aw_block ?_
 refine aw_seq ?_
 (refine aw_ops (by kernel_rfl) (fun K hK => ?_); simp (disch := first | omega | (simp only [lnS]; try omega)) [-getElem?_pos, -getElem?_neg, h8]; refine hK _ _ ?_; clear hK K)
 refine aw_seq ?_
 refine aw_ops (by kernel_rfl) (fun K hK => ?_)
 simp (disch := first | omega | (simp only [lnS]; try omega)) [-getElem?_pos, -getElem?_neg, h0, h1, -notTuple, hnt, hvc, hfn, hfc, nt_intG, nt_aggG, -xindexAddr, hx, hbG, hus', hul, hq]
 refine ⟨hcal, ac_of_rc hc (by simp [pv_iv, pv_int, pv_bool, pv_string, pv_tup2, pv_tup3, iv_plain, p2_int, p2_bool, p2_string]) ?_⟩
 cases hp : p i with
 | true =>
  try simp (disch := first | omega | (simp only [lnS]; try omega)) [-getElem?_pos, -getElem?_neg]
  refine hK _ _ ?_; clear hK K
  refine aw_t (by (first | (simp [eval_tmp, put_at]; done) | (simp [eval_tmp, put_at]; omega))) (by kernel_rfl) ?_
  refine aw_seq ?_
  (refine aw_ops (by kernel_rfl) (fun K hK => ?_); simp (disch := first | omega | (simp only [lnS]; try omega)) [-getElem?_pos, -getElem?_neg]; refine hK _ _ ?_; clear hK K)
  (refine aw_ret ?_; simp (disch := first | omega | (simp only [lnS]; try omega)) [-getElem?_pos, -getElem?_neg, thenQ_ret, scopeQ_ret, inBlockQ_ret, RQ, resL, resV])
  exact (firstI_some hi hpre hp).symm
 | false =>
  try simp (disch := first | omega | (simp only [lnS]; try omega)) [-getElem?_pos, -getElem?_neg]
  refine hK _ _ ?_; clear hK K
  refine aw_f (by (first | (simp [eval_tmp, put_at]; done) | (simp [eval_tmp, put_at]; omega))) (by kernel_rfl) ?_
  refine aw_skip ?_
  (refine aw_ops (by kernel_rfl) (fun K hK => ?_); simp (disch := first | omega | (simp only [lnS]; try omega)) [-getElem?_pos, -getElem?_neg, h8]; refine hK _ _ ?_; clear hK K)
  refine ⟨c - 1, by omega, i + 1, by omega, hlow, by (first | (simp [put_at, put_none, fr0_at, h0]; done) | rfl), by (first | (simp [put_at, put_none, fr0_at, h1]; done) | rfl), by (first | (simp [put_at, put_none, fr0_at, h7]; done) | rfl), by (first | (simp [put_at, put_none, fr0_at]; done) | rfl), fun k hk => ?_⟩
  by_cases e : k = i
  ·subst e; exact hp
  ·exact hpre k (by omega)
def findIH (l : List HeldD) (n : Nat) (id : List Int) : Int := match findH l n id with | some a => (a : Nat) | none => -1
theorem findIH_first (l : List HeldD) (n : Nat) (id : List Int) : findIH l n id = firstI n fun a => decide ((hn l a).id = id) := by
 have : (fun a => decide ((hn l a).id = id)) = fun a => (hn l a).id == id := by
  funext a
  rw [Bool.eq_iff_iff]; simp
 rw [this]
 rfl
theorem qfind_rc {γ : Nat → Option Nat} {H : AH} {nv : Value} {l : List HeldD} (hN : HdA H nv l) (hl : l.length ≤ maxLen) {id : List Int} (hil : id.length = 32) : AC Try.prog H.length γ 43 #[nv, .agg (iv .u8 id).toArray] H (fun v' _ => v' = .int .i64 (findIH l l.length id)) := by
 have hnt := hN.nt
 have hvc := hN.cs
 have hivl : (iv .u8 id).length = 32 := by rw [iv_length, hil]
 refine ac_of_aw Try.func43 rfl Try.ntmps43 Try.results43 (by simp) ?_
 refine aw_seq ?_
 (refine aw_ops (by kernel_rfl) (fun K hK => ?_); simp (disch := first | omega | (simp only [lnS]; try omega)) [-getElem?_pos, -getElem?_neg, hivl]; refine hK _ _ ?_; clear hK K)
 obtain ⟨hlow2, hb2⟩ := boxed (H := H) (iv .u8 id) 38
 generalize H ++ [some ⟨iv .u8 id, 38, none⟩] = G at *
 have hNG : HdA G nv l := ⟨hN.nt, hN.cs, hN.len, hN.wf, fun i x hx => by
  obtain ⟨j, q, bb, us, pv, wv', bv, qv, h1, h2, h3, h4, h5, h6⟩ := hN.at_ i x hx
  exact ⟨j, q, bb, us, pv, wv', bv, qv, h1, (hlow2.1 j (hget_lt h2)).trans h2, h3, h4, h5, h6.low hlow2.1⟩⟩
 have hix := indexHn_rc (γ := γ) hNG hl (f := 89) (cs := #[.pointer (some ⟨H.length, 0, none⟩)]) (p := fun a => decide ((hn l a).id = id)) qfind1_callable (fun G2 i us pv wv' bv qv hg hi hul hC => (qfind1_rc (nro := G2.length) (γ := γ) hul hC.id (hN.wf _ (List.mem_of_getElem? (hn_get hi))).id.1 hil ((hg.1 _ (hget_lt hb2)).trans hb2)).mono (fun v' H' h => h.2))
 rw [← findIH_first] at hix
 refine aw_seq ?_
 refine aw_ops (by kernel_rfl) (fun K hK => ?_)
 simp (disch := first | omega | (simp only [lnS]; try omega)) [-getElem?_pos, -getElem?_neg, -notTuple, hnt, hvc, nt_intG]
 refine ⟨by kernel_rfl, ac_of_rc hix (by simp [pv_iv, pv_int, pv_bool, pv_string, pv_tup2, pv_tup3, iv_plain, p2_int, p2_bool, p2_string]) ?_⟩
 try simp (disch := first | omega | (simp only [lnS]; try omega)) [-getElem?_pos, -getElem?_neg]
 refine hK _ _ ?_; clear hK K
 (refine aw_ret ?_; simp (disch := first | omega | (simp only [lnS]; try omega)) [-getElem?_pos, -getElem?_neg, thenQ_ret, scopeQ_ret, inBlockQ_ret, RQ, resL, resV])
end
section
def oneQ (q : List HeldD) (i : Nat) : Bool := decide (findIH q q.length (hn q i).id = (i : Int)) && rightO (hn q i).op
def rightQ (q : List HeldD) : Bool := decide (q.length ≤ 24) && (List.range q.length).all (oneQ q)
theorem all_snoc {p : Nat → Bool} {i : Nat} (h : (List.range i).all p = true) : (List.range (i + 1)).all p = p i := by
 rw [List.range_succ, List.all_append, h]
 simp
theorem all_bad {p : Nat → Bool} {i n : Nat} (hi : i < n) (h : p i = false) : (List.range n).all p = false := by
 rw [List.all_eq_false]
 exact ⟨i, List.mem_range.2 hi, by rw [h]; simp⟩
attribute [local simp] wb_bool wb_undef with_lit XL_nil XL_cons XLc_val XLc_call step1_eq stepW_t stepW_f stepC_n stepC_s stepX_s stepX_n stepN_s calleeX xrecv oneV xop_eq xopR_s xopR_n wantedA_eq wantedG_n wantedG_s plain1_int plain1_bool plain1_string bits_i64 bits_u64 bits_u32 bits_u16 bits_u8 xeqA xagg xcmp xarr allK_iv num_iv calleeOf xread xeff xbin xint xnil xun xstr xload xconv xpart xfield xfieldAddr xindexAddr xindex bnd asInt? xslice xlen xmin xmax xbuild xfill xappend xapp2 xappstr xappmk xcap xcopy xcells eval_tmp eval_const put_at put_none fr0_at cells_agg cells_int cells_bool cells_string cells_ptr cells_slice notTuple tab iv_all hget_app hget_app0 hget_cons0 hget_cons set_app set_app0 setR setR_one QL_nil QL_cons QLc_val stepQ_t stepQ_f stepQC_n stepQC_s stepQX_s SL_nil SL_cons SLc_val stepS_t stepS_f ltT ltF leT leF eqT eqF ltTn ltFn leTn leFn eqTn eqFn beqT beqF bneT bneF wi64 wu64 wu32 wu16 wu8 tmodP tdivP hgetL hgetNe hgetEq setL nums_def nums_len Nat.succ_le_of_lt List.getElem?_cons_zero List.getElem?_cons_succ Option.getD_some Int.toNat_add Int.toNat_mul agM okM agB agI agS agP agL agA okB okI okS okP okSl okA
theorem qrFind_rc {γ : Nat → Option Nat} {H : AH} {nv : Value} {l : List HeldD} (hN : HdA H nv l) (hl : l.length ≤ maxLen) {id : List Int} (hil : id.length = 32) : AC Try.prog H.length γ 44 #[nv, .agg (iv .u8 id).toArray] H (fun v' _ => v' = .int .i64 (findIH l l.length id)) := by
 have hm63 : l.length ≤ 9223372036854775807 := by simp only [maxLen] at hl; omega
 have hivl : (iv .u8 id).length = 32 := by rw [iv_length, hil]
 have hta : (iv .u8 id).take 32 = iv .u8 id := List.take_of_length_le (by omega)
 rw [findIH_first]
 obtain ⟨hnt, hvc, hxl, hwf, hat⟩ := hN
 refine ac_of_aw Try.func44 rfl Try.ntmps44 Try.results44 (by simp) ?_
 refine aw_seq ?_
 (refine aw_ops (by kernel_rfl) (fun K hK => ?_); simp (disch := first | omega | (simp only [lnS]; try omega)) [-getElem?_pos, -getElem?_neg, hivl]; refine hK _ _ ?_; clear hK K)
 obtain ⟨hlow, hb⟩ := boxed (H := H) (iv .u8 id) 38
 obtain ⟨g, hg⟩ : ∃ g, g = H.length := ⟨_, rfl⟩
 rw [← hg] at hb ⊢
 generalize H ++ [some ⟨iv .u8 id, 38, none⟩] = G at *
 refine aw_seq ?_
 refine aw_seq ?_
 (refine aw_ops (by kernel_rfl) (fun K hK => ?_); simp (disch := first | omega | (simp only [lnS]; try omega)) [-getElem?_pos, -getElem?_neg]; refine hK _ _ ?_; clear hK K)
 refine aw_block ?_
 refine aw_loop (fun c α G' => ∃ i : Nat, i + c = l.length ∧ G = G' ∧ α 0 = nv ∧ α 3 = .pointer (some ⟨g, 0, none⟩) ∧ α 5 = .int .i64 (i : Nat) ∧ ∀ k, k < i → decide ((hn l k).id = id) = false) l.length ?_ ?_
 ·exact ⟨0, by omega, rfl, by (first | (simp [put_at, put_none, fr0_at]; done) | rfl), by (first | (simp [put_at, put_none, fr0_at]; done) | rfl), by (first | (simp [put_at, put_none, fr0_at]; done) | rfl), fun k hk => by omega⟩
 rintro c α G' ⟨i, hic, rfl, h0, h3, h5, hpre⟩
 refine aw_seq ?_
 refine aw_seq ?_
 by_cases hi : i < l.length
 case neg =>
  (refine aw_ops (by kernel_rfl) (fun K hK => ?_); simp (disch := first | omega | (simp only [lnS]; try omega)) [-getElem?_pos, -getElem?_neg, h0, h5, -notTuple, hnt, hvc, nt_intG, -xlen, hxl, hi]; refine hK _ _ ?_; clear hK K)
  refine aw_f (by (first | (simp [eval_tmp, put_at, hi]; done) | (simp [eval_tmp, put_at, hi]; omega))) (by kernel_rfl) ?_
  refine aw_exit ?_
  refine aw_seq ?_
  (refine aw_ops (by kernel_rfl) (fun K hK => ?_); simp (disch := first | omega | (simp only [lnS]; try omega)) [-getElem?_pos, -getElem?_neg]; refine hK _ _ ?_; clear hK K)
  (refine aw_ret ?_; simp (disch := first | omega | (simp only [lnS]; try omega)) [-getElem?_pos, -getElem?_neg, thenQ_ret, scopeQ_ret, inBlockQ_ret, RQ, resL, resV])
  exact (firstI_none (fun k hk => hpre k (by omega))).symm
 obtain ⟨j, q, bb, us, pv, wv', bv, qv, hx, hbb, hq, hcell, hus, hC⟩ := hat i _ (hn_get hi)
 have hbG : hget G j = some bb := (hlow.1 j (by have := hget_lt hbb; omega)).trans hbb
 have hwfi := hwf _ (List.mem_of_getElem? (hn_get hi))
 have hxid : (iv .u8 (hn l i).id).length = 32 := by rw [iv_length]; exact hwfi.id.1
 have hcut : (bb.cells.drop q).take 32 = iv .u8 (hn l i).id := by
  rw [← hC.id, hus, List.take_take]
  rfl
 obtain ⟨xid, hxi⟩ : ∃ x, x = (hn l i).id := ⟨_, rfl⟩
 rw [← hxi] at hxid hcut
 have hpi := hpre
 (refine aw_ops (by kernel_rfl) (fun K hK => ?_); simp (disch := first | omega | (simp only [lnS]; try omega)) [-getElem?_pos, -getElem?_neg, h0, h5, -notTuple, hnt, hvc, nt_intG, -xlen, hxl, hi]; refine hK _ _ ?_; clear hK K)
 refine aw_t (by (first | (simp [eval_tmp, put_at, hi]; done) | (simp [eval_tmp, put_at, hi]; omega))) (by kernel_rfl) ?_
 refine aw_skip ?_
 refine aw_seq ?_
 refine aw_block ?_
 refine aw_seq ?_
 have hq32 : q + 32 ≤ bb.cells.length := by omega
 by_cases hz : xid = id
 ·have hz2 : (xid == id) = true := by simp [hz]
  (refine aw_plan [] [] [0, 1, 2, 3, 4, 5, 6] 7 0 (by kernel_rfl) (by kernel_rfl) (by kernel_rfl) (fun K hK => ?_)); simp only [sel, List.getElem?_cons_succ, List.getElem?_cons_zero, List.drop_succ_cons, List.drop_zero]; simp (disch := first | omega | (simp only [lnS]; try omega)) [-getElem?_pos, -getElem?_neg, h0, h3, h5, -notTuple, hnt, hvc, nt_intG, nt_aggG, -xindexAddr, hx, hbG, hq32, hcut, hxid, hb, hta, hivl, hz2, PL_nil, plainB_lit, PL_cons, PLc_val, PLc_new, stepP_t, stepP_f, stepPC_n, stepPC_s, stepPX_s, stepPX_n, stepPV_n, stepPV_s, stepPA_t, stepPA_c, stepPA_l, stepPN_s, allocOp, reloc_sl, reloc_ptr, List.map_cons, List.map_nil, List.nil_append, List.append_assoc, List.cons_append, Nat.add_assoc]
  refine hK _ _ ?_; clear hK K
  refine aw_t (by (first | (simp [eval_tmp, put_at]; done) | (simp [eval_tmp, put_at]; omega))) (by kernel_rfl) ?_
  refine aw_seq ?_
  (refine aw_ops (by kernel_rfl) (fun K hK => ?_); simp (disch := first | omega | (simp only [lnS]; try omega)) [-getElem?_pos, -getElem?_neg, h5]; refine hK _ _ ?_; clear hK K)
  (refine aw_ret ?_; simp (disch := first | omega | (simp only [lnS]; try omega)) [-getElem?_pos, -getElem?_neg, thenQ_ret, scopeQ_ret, inBlockQ_ret, RQ, resL, resV])
  exact (firstI_some hi hpre (by rw [← hxi]; simpa using hz)).symm
 ·have hz2 : (xid == id) = false := by simpa using hz
  (refine aw_plan [] [] [0, 1, 2, 3, 4, 5, 6] 7 0 (by kernel_rfl) (by kernel_rfl) (by kernel_rfl) (fun K hK => ?_)); simp only [sel, List.getElem?_cons_succ, List.getElem?_cons_zero, List.drop_succ_cons, List.drop_zero]; simp (disch := first | omega | (simp only [lnS]; try omega)) [-getElem?_pos, -getElem?_neg, h0, h3, h5, -notTuple, hnt, hvc, nt_intG, nt_aggG, -xindexAddr, hx, hbG, hq32, hcut, hxid, hb, hta, hivl, hz2, PL_nil, plainB_lit, PL_cons, PLc_val, PLc_new, stepP_t, stepP_f, stepPC_n, stepPC_s, stepPX_s, stepPX_n, stepPV_n, stepPV_s, stepPA_t, stepPA_c, stepPA_l, stepPN_s, allocOp, reloc_sl, reloc_ptr, List.map_cons, List.map_nil, List.nil_append, List.append_assoc, List.cons_append, Nat.add_assoc]
  refine hK _ _ ?_; clear hK K
  refine aw_f (by (first | (simp [eval_tmp, put_at]; done) | (simp [eval_tmp, put_at]; omega))) (by kernel_rfl) ?_
  refine aw_skip ?_
  (refine aw_ops (by kernel_rfl) (fun K hK => ?_); simp (disch := first | omega | (simp only [lnS]; try omega)) [-getElem?_pos, -getElem?_neg, h5]; refine hK _ _ ?_; clear hK K)
  refine ⟨c - 1, by omega, i + 1, by omega, rfl, by (first | (simp [put_at, put_none, fr0_at, h0]; done) | rfl), by (first | (simp [put_at, put_none, fr0_at, h3]; done) | rfl), by (first | (simp [put_at, put_none, fr0_at]; done) | rfl), fun k hk => ?_⟩
  by_cases e : k = i
  ·subst e
   rw [← hxi]
   simpa using hz
  ·exact hpre k (by omega)
theorem qRight_rc {γ : Nat → Option Nat} {H : AH} {qv : Value} {l : List HeldD} (hN : HdA H qv l) (hl : l.length ≤ maxLen) : AC Try.prog H.length γ 41 #[qv] H (fun v' _ => v' = .bool (rightQ l)) := by
 have hN' := hN
 obtain ⟨hnt, hvc, hxl, hwf, hat⟩ := hN
 have hd : rightQ l = (decide (l.length ≤ 24) && (List.range l.length).all (oneQ l)) := rfl
 rw [hd]
 refine ac_of_aw Try.func41 rfl Try.ntmps41 Try.results41 (by simp) ?_
 refine aw_seq ?_
 (refine aw_ops (by kernel_rfl) (fun K hK => ?_); simp (disch := first | omega | (simp only [lnS]; try omega)) [-getElem?_pos, -getElem?_neg]; refine hK _ _ ?_; clear hK K)
 refine aw_seq ?_
 refine aw_seq ?_
 by_cases h24 : l.length ≤ 24
 case neg =>
  (refine aw_ops (by kernel_rfl) (fun K hK => ?_); simp (disch := first | omega | (simp only [lnS]; try omega)) [-getElem?_pos, -getElem?_neg, -notTuple, hnt, hvc, nt_intG, -xlen, hxl, h24]; refine hK _ _ ?_; clear hK K)
  refine aw_t (by (first | (simp [eval_tmp, put_at, h24]; done) | (simp [eval_tmp, put_at, h24]; omega))) (by kernel_rfl) ?_
  refine aw_seq ?_
  (refine aw_ops (by kernel_rfl) (fun K hK => ?_); simp (disch := first | omega | (simp only [lnS]; try omega)) [-getElem?_pos, -getElem?_neg]; refine hK _ _ ?_; clear hK K)
  (refine aw_ret ?_; simp (disch := first | omega | (simp only [lnS]; try omega)) [-getElem?_pos, -getElem?_neg, thenQ_ret, scopeQ_ret, inBlockQ_ret, RQ, resL, resV, h24])
 (refine aw_ops (by kernel_rfl) (fun K hK => ?_); simp (disch := first | omega | (simp only [lnS]; try omega)) [-getElem?_pos, -getElem?_neg, -notTuple, hnt, hvc, nt_intG, -xlen, hxl, h24]; refine hK _ _ ?_; clear hK K)
 refine aw_f (by (first | (simp [eval_tmp, put_at, h24]; done) | (simp [eval_tmp, put_at, h24]; omega))) (by kernel_rfl) ?_
 refine aw_skip ?_
 rw [decide_eq_true h24, Bool.true_and]
 refine aw_seq ?_
 refine aw_seq ?_
 (refine aw_ops (by kernel_rfl) (fun K hK => ?_); simp (disch := first | omega | (simp only [lnS]; try omega)) [-getElem?_pos, -getElem?_neg, -notTuple, hnt, hvc, nt_intG, -xlen, hxl]; refine hK _ _ ?_; clear hK K)
 refine aw_block ?_
 refine aw_loop (fun c α G => ∃ i : Nat, i + c = l.length ∧ Low H.length H G ∧ α 0 = qv ∧ α 8 = qv ∧ α 9 = .int .i64 (l.length : Nat) ∧ α 10 = .int .i64 (i : Nat) ∧ (List.range i).all (oneQ l) = true) l.length ?_ ?_
 ·exact ⟨0, by omega, Low.refl (Nat.le_refl _), by (first | (simp [put_at, put_none, fr0_at]; done) | rfl), by (first | (simp [put_at, put_none, fr0_at]; done) | rfl), by (first | (simp [put_at, put_none, fr0_at]; done) | rfl), by (first | (simp [put_at, put_none, fr0_at]; done) | rfl), rfl⟩
 rintro c α G ⟨i, hic, lw, q0, q8, q9, q10, hpre⟩
 refine aw_seq ?_
 by_cases hi : i < l.length
 case neg =>
  obtain rfl : i = l.length := by omega
  (refine aw_ops (by kernel_rfl) (fun K hK => ?_); simp (disch := first | omega | (simp only [lnS]; try omega)) [-getElem?_pos, -getElem?_neg, q9, q10]; refine hK _ _ ?_; clear hK K)
  refine aw_seq ?_
  refine aw_f (by (first | (simp [eval_tmp, put_at]; done) | (simp [eval_tmp, put_at]; omega))) (by kernel_rfl) ?_
  refine aw_exit ?_
  refine aw_seq ?_
  (refine aw_ops (by kernel_rfl) (fun K hK => ?_); simp (disch := first | omega | (simp only [lnS]; try omega)) [-getElem?_pos, -getElem?_neg]; refine hK _ _ ?_; clear hK K)
  (refine aw_ret ?_; simp (disch := first | omega | (simp only [lnS]; try omega)) [-getElem?_pos, -getElem?_neg, thenQ_ret, scopeQ_ret, inBlockQ_ret, RQ, resL, resV, hpre])
 obtain ⟨j, q, bb, us, pv, wv, bv, kv, hx, hbb, hq, hcell, hus, hC⟩ := hat i _ (hn_get hi)
 have hbG : hget G j = some bb := (lw.1 j (hget_lt hbb)).trans hbb
 have hul := hC.len
 have hus' := hus.symm
 clear hus
 have hw := hwf _ (List.mem_of_getElem? (hn_get hi))
 have hset : ∀ Z : List Value, Z.length = 104 → setR Z 0 us = us := fun Z hZ => setR_all _ _ (by omega)
 have hp0 : plain1 (.slice none 0 0) = true := rfl
 have hle := lw.2
 have hivl : (iv .u8 (hn l i).id).length = 32 := by rw [iv_length, hw.id.1]
 (refine aw_ops (by kernel_rfl) (fun K hK => ?_); simp (disch := first | omega | (simp only [lnS]; try omega)) [-getElem?_pos, -getElem?_neg, q9, q10, hi]; refine hK _ _ ?_; clear hK K)
 refine aw_seq ?_
 refine aw_t (by (first | (simp [eval_tmp, put_at, hi]; done) | (simp [eval_tmp, put_at, hi]; omega))) (by kernel_rfl) ?_
 refine aw_skip ?_
 refine aw_seq ?_
 refine aw_block ?_
 refine aw_seq ?_
 (refine aw_ops (by kernel_rfl) (fun K hK => ?_); simp (disch := first | omega | (simp only [lnS]; try omega)) [-getElem?_pos, -getElem?_neg, q8, q10, -notTuple, hnt, hvc, nt_intG, nt_aggG, -xindexAddr, hx, hbG, hus', hul, hq, hp0, all_zl, hset, hle]; refine hK _ _ ?_; clear hK K)
 obtain ⟨lw2, b4⟩ := boxed (H := G) us 60
 obtain ⟨g, hg⟩ : ∃ g, g = G.length := ⟨_, rfl⟩
 have lw3 := lw.both lw2
 rw [← hg] at b4 ⊢
 generalize G ++ [some ⟨us, 60, none⟩] = G2 at *
 have hC2 : HdC G2 us (hn l i) pv wv bv kv := hC.low lw3.1
 have hid := hC.id
 have fi := qfind_rc (γ := γ) (hN'.lowG lw3) hl hw.id.1
 have ri := right_rc (γ := γ) hC2.op hw.op
 have hone : oneQ l i = (decide (findIH l l.length (hn l i).id = (i : Int)) && rightO (hn l i).op) := rfl
 have hopl := hC2.op.len
 generalize findIH l l.length (hn l i).id = f at *
 refine aw_seq ?_
 refine aw_cut (fun α G3 => α 26 = .bool (!oneQ l i) ∧ α 0 = qv ∧ α 8 = qv ∧ α 9 = .int .i64 (l.length : Nat) ∧ α 10 = .int .i64 (i : Nat) ∧ G3 = G2) ?_ ?_
 ·refine aw_ops (by kernel_rfl) (fun K hK => ?_)
  simp (disch := first | omega | (simp only [lnS]; try omega)) [-getElem?_pos, -getElem?_neg, q0, b4, hul, hid, hivl, -notTuple, hnt, hvc, nt_intG, nt_aggG]
  refine ⟨by kernel_rfl, ac_of_rc fi (by simp [pv_iv, pv_int, pv_bool, pv_string, pv_tup2, pv_tup3, iv_plain, p2_int, p2_bool, p2_string]) ?_⟩
  by_cases hf : f = (i : Int)
  ·have hfb : (f == (i : Int)) = true := by simp [hf]
   rw [decide_eq_true hf, Bool.true_and] at hone
   simp (disch := first | omega | (simp only [lnS]; try omega)) [-getElem?_pos, -getElem?_neg, b4, hul, hf, hfb, hopl, -notTuple, nt_intG, nt_aggG]
   refine ⟨by kernel_rfl, ac_of_rc ri (by simp [pv_iv, pv_int, pv_bool, pv_string, pv_tup2, pv_tup3, iv_plain, p2_int, p2_bool, p2_string]) ?_⟩
   try simp (disch := first | omega | (simp only [lnS]; try omega)) [-getElem?_pos, -getElem?_neg]
   refine hK _ _ ?_; clear hK K
   exact ⟨by rw [hone]; (first | (simp [put_at, put_none, fr0_at]; done) | rfl), by (first | (simp [put_at, put_none, fr0_at, q0]; done) | rfl), by (first | (simp [put_at, put_none, fr0_at, q8]; done) | rfl), by (first | (simp [put_at, put_none, fr0_at, q9]; done) | rfl), by (first | (simp [put_at, put_none, fr0_at, q10]; done) | rfl), rfl⟩
  ·have hfb : (f == (i : Int)) = false := by simp [hf]
   rw [decide_eq_false hf, Bool.false_and] at hone
   simp (disch := first | omega | (simp only [lnS]; try omega)) [-getElem?_pos, -getElem?_neg, hf, hfb, -notTuple, nt_intG, nt_aggG]
   refine hK _ _ ?_; clear hK K
   exact ⟨by rw [hone]; (first | (simp [put_at, put_none, fr0_at]; done) | rfl), by (first | (simp [put_at, put_none, fr0_at, q0]; done) | rfl), by (first | (simp [put_at, put_none, fr0_at, q8]; done) | rfl), by (first | (simp [put_at, put_none, fr0_at, q9]; done) | rfl), by (first | (simp [put_at, put_none, fr0_at, q10]; done) | rfl), rfl⟩
 clear q0 q8 q9 q10
 rintro α G3 ⟨q26, q0, q8, q9, q10, rfl⟩
 cases ho : oneQ l i with
 | false =>
  rw [ho] at q26
  have hb := all_bad hi ho
  refine aw_t (by (first | (simp [eval_tmp, put_at, q26]; done) | (simp [eval_tmp, put_at, q26]; omega))) (by kernel_rfl) ?_
  refine aw_seq ?_
  (refine aw_ops (by kernel_rfl) (fun K hK => ?_); simp (disch := first | omega | (simp only [lnS]; try omega)) [-getElem?_pos, -getElem?_neg]; refine hK _ _ ?_; clear hK K)
  (refine aw_ret ?_; simp (disch := first | omega | (simp only [lnS]; try omega)) [-getElem?_pos, -getElem?_neg, thenQ_ret, scopeQ_ret, inBlockQ_ret, RQ, resL, resV])
  exact ⟨i, hi, ho⟩
 | true =>
 rw [ho] at q26
 refine aw_f (by (first | (simp [eval_tmp, put_at, q26]; done) | (simp [eval_tmp, put_at, q26]; omega))) (by kernel_rfl) ?_
 refine aw_skip ?_
 (refine aw_ops (by kernel_rfl) (fun K hK => ?_); simp (disch := first | omega | (simp only [lnS]; try omega)) [-getElem?_pos, -getElem?_neg, q10]; refine hK _ _ ?_; clear hK K)
 exact ⟨c - 1, by omega, i + 1, by omega, lw3, by (first | (simp [put_at, put_none, fr0_at, q0]; done) | rfl), by (first | (simp [put_at, put_none, fr0_at, q8]; done) | rfl), by (first | (simp [put_at, put_none, fr0_at, q9]; done) | rfl), by (first | (simp [put_at, put_none, fr0_at]; done) | rfl), by rw [all_snoc hpre]; exact ho⟩
theorem qrRight_rc {γ : Nat → Option Nat} {H : AH} {qv : Value} {l : List HeldD} (hN : HdA H qv l) (hl : l.length ≤ maxLen) : AC Try.prog H.length γ 42 #[qv] H (fun v' _ => v' = .bool (rightQ l)) := by
 have hN' := hN
 obtain ⟨hnt, hvc, hxl, hwf, hat⟩ := hN
 have hm63 : l.length ≤ 9223372036854775807 := by simp only [maxLen] at hl; omega
 have hd : rightQ l = (decide (l.length ≤ 24) && (List.range l.length).all (oneQ l)) := rfl
 rw [hd]
 refine ac_of_aw Try.func42 rfl Try.ntmps42 Try.results42 (by simp) ?_
 refine aw_seq ?_
 (refine aw_ops (by kernel_rfl) (fun K hK => ?_); simp (disch := first | omega | (simp only [lnS]; try omega)) [-getElem?_pos, -getElem?_neg]; refine hK _ _ ?_; clear hK K)
 refine aw_seq ?_
 refine aw_seq ?_
 (refine aw_ops (by kernel_rfl) (fun K hK => ?_); simp (disch := first | omega | (simp only [lnS]; try omega)) [-getElem?_pos, -getElem?_neg]; refine hK _ _ ?_; clear hK K)
 refine aw_block ?_
 refine aw_loop (fun c α G => ∃ i : Nat, i + c = l.length ∧ H = G ∧ α 0 = qv ∧ α 3 = .int .i64 (i : Nat) ∧ (List.range i).all (oneQ l) = true) l.length ?_ ?_
 ·exact ⟨0, by omega, rfl, by (first | (simp [put_at, put_none, fr0_at]; done) | rfl), by (first | (simp [put_at, put_none, fr0_at]; done) | rfl), rfl⟩
 rintro c α G ⟨i, hic, rfl, q0, q3, hpre⟩
 refine aw_seq ?_
 refine aw_seq ?_
 by_cases hi : i < l.length
 case neg =>
  obtain rfl : i = l.length := by omega
  (refine aw_ops (by kernel_rfl) (fun K hK => ?_); simp (disch := first | omega | (simp only [lnS]; try omega)) [-getElem?_pos, -getElem?_neg, q0, q3, -notTuple, hnt, hvc, nt_intG, -xlen, hxl, hi]; refine hK _ _ ?_; clear hK K)
  refine aw_f (by (first | (simp [eval_tmp, put_at]; done) | (simp [eval_tmp, put_at]; omega))) (by kernel_rfl) ?_
  refine aw_exit ?_
  refine aw_seq ?_
  rw [hpre, Bool.and_true]
  (refine aw_ops (by kernel_rfl) (fun K hK => ?_); simp (disch := first | omega | (simp only [lnS]; try omega)) [-getElem?_pos, -getElem?_neg, q0, -notTuple, hnt, hvc, nt_intG, -xlen, hxl]; refine hK _ _ ?_; clear hK K)
  (refine aw_ret ?_; simp (disch := first | omega | (simp only [lnS]; try omega)) [-getElem?_pos, -getElem?_neg, thenQ_ret, scopeQ_ret, inBlockQ_ret, RQ, resL, resV])
  omega
 obtain ⟨j, q, bb, us, pv, wv, bv, kv, hx, hbb, hq, hcell, hus, hC⟩ := hat i _ (hn_get hi)
 have hul := hC.len
 have hw := hwf _ (List.mem_of_getElem? (hn_get hi))
 have hivl : (iv .u8 (hn l i).id).length = 32 := by rw [iv_length, hw.id.1]
 have hcid : (bb.cells.drop q).take 32 = iv .u8 (hn l i).id := by
  have := hC.id
  rw [hus, List.take_take] at this
  simpa using this
 obtain ⟨u7, hu7⟩ : ∃ u7, (bb.cells.drop (q + 32)).take 71 = u7 := ⟨_, rfl⟩
 have hO := hC.op
 rw [hus, ← op_cut, hu7] at hO
 have hopl := hO.len
 have fi := qrFind_rc (γ := γ) hN' hl hw.id.1
 have ri := rRight_rc (γ := γ) hO hw.op
 rw [refO_eq] at ri
 have hone : oneQ l i = (decide (findIH l l.length (hn l i).id = (i : Int)) && rightO (hn l i).op) := rfl
 generalize findIH l l.length (hn l i).id = f at *
 (refine aw_ops (by kernel_rfl) (fun K hK => ?_); simp (disch := first | omega | (simp only [lnS]; try omega)) [-getElem?_pos, -getElem?_neg, q0, q3, -notTuple, hnt, hvc, nt_intG, -xlen, hxl, hi]; refine hK _ _ ?_; clear hK K)
 refine aw_t (by (first | (simp [eval_tmp, put_at, hi]; done) | (simp [eval_tmp, put_at, hi]; omega))) (by kernel_rfl) ?_
 refine aw_skip ?_
 refine aw_seq ?_
 refine aw_block ?_
 refine aw_seq ?_
 refine aw_cut (fun α G3 => α 27 = .bool (!oneQ l i) ∧ α 0 = qv ∧ α 3 = .int .i64 (i : Nat) ∧ G3 = H) ?_ ?_
 ·refine aw_ops (by kernel_rfl) (fun K hK => ?_)
  simp (disch := first | omega | (simp only [lnS]; try omega)) [-getElem?_pos, -getElem?_neg, q0, q3, -notTuple, hnt, hvc, nt_intG, nt_aggG, -xindexAddr, hx, hbb, hu7, hopl, hq]
  refine ⟨by kernel_rfl, ac_of_rc ri (by simp [pv_iv, pv_int, pv_bool, pv_string, pv_tup2, pv_tup3, iv_plain, p2_int, p2_bool, p2_string]) ?_⟩
  cases hro : rightO (hn l i).op with
  | false =>
   rw [hro, Bool.and_false] at hone
   try simp (disch := first | omega | (simp only [lnS]; try omega)) [-getElem?_pos, -getElem?_neg]
   refine hK _ _ ?_; clear hK K
   exact ⟨by rw [hone]; (first | (simp [put_at, put_none, fr0_at]; done) | rfl), by (first | (simp [put_at, put_none, fr0_at, q0]; done) | rfl), by (first | (simp [put_at, put_none, fr0_at, q3]; done) | rfl), rfl⟩
  | true =>
   rw [hro, Bool.and_true] at hone
   simp (disch := first | omega | (simp only [lnS]; try omega)) [-getElem?_pos, -getElem?_neg, q0, q3, -notTuple, hnt, hvc, nt_intG, nt_aggG, -xindexAddr, hx, hbb, hcid, hivl, hq]
   refine ⟨by kernel_rfl, ac_of_rc fi (by simp [pv_iv, pv_int, pv_bool, pv_string, pv_tup2, pv_tup3, iv_plain, p2_int, p2_bool, p2_string]) ?_⟩
   by_cases hf : f = (i : Int)
   ·have hfb : (f == (i : Int)) = true := by simp [hf]
    rw [decide_eq_true hf] at hone
    try simp (disch := first | omega | (simp only [lnS]; try omega)) [-getElem?_pos, -getElem?_neg, q3, hf, hfb, nt_intG]
    refine hK _ _ ?_; clear hK K
    exact ⟨by rw [hone]; (first | (simp [put_at, put_none, fr0_at]; done) | rfl), by (first | (simp [put_at, put_none, fr0_at, q0]; done) | rfl), by (first | (simp [put_at, put_none, fr0_at, q3]; done) | rfl), rfl⟩
   ·have hfb : (f == (i : Int)) = false := by simp [hf]
    rw [decide_eq_false hf] at hone
    try simp (disch := first | omega | (simp only [lnS]; try omega)) [-getElem?_pos, -getElem?_neg, q3, hf, hfb, nt_intG]
    refine hK _ _ ?_; clear hK K
    exact ⟨by rw [hone]; (first | (simp [put_at, put_none, fr0_at]; done) | rfl), by (first | (simp [put_at, put_none, fr0_at, q0]; done) | rfl), by (first | (simp [put_at, put_none, fr0_at, q3]; done) | rfl), rfl⟩
 clear q0 q3
 rintro α G3 ⟨q27, q0, q3, rfl⟩
 cases ho : oneQ l i with
 | false =>
  rw [ho] at q27
  have hb := all_bad hi ho
  refine aw_t (by (first | (simp [eval_tmp, put_at, q27]; done) | (simp [eval_tmp, put_at, q27]; omega))) (by kernel_rfl) ?_
  refine aw_seq ?_
  (refine aw_ops (by kernel_rfl) (fun K hK => ?_); simp (disch := first | omega | (simp only [lnS]; try omega)) [-getElem?_pos, -getElem?_neg]; refine hK _ _ ?_; clear hK K)
  (refine aw_ret ?_; simp (disch := first | omega | (simp only [lnS]; try omega)) [-getElem?_pos, -getElem?_neg, thenQ_ret, scopeQ_ret, inBlockQ_ret, RQ, resL, resV])
  exact fun _ => ⟨i, hi, ho⟩
 | true =>
 rw [ho] at q27
 refine aw_f (by (first | (simp [eval_tmp, put_at, q27]; done) | (simp [eval_tmp, put_at, q27]; omega))) (by kernel_rfl) ?_
 refine aw_skip ?_
 (refine aw_ops (by kernel_rfl) (fun K hK => ?_); simp (disch := first | omega | (simp only [lnS]; try omega)) [-getElem?_pos, -getElem?_neg, q3]; refine hK _ _ ?_; clear hK K)
 exact ⟨c - 1, by omega, i + 1, by omega, rfl, by (first | (simp [put_at, put_none, fr0_at, q0]; done) | rfl), by (first | (simp [put_at, put_none, fr0_at]; done) | rfl), by rw [all_snoc hpre]; exact ho⟩
end
section
theorem any_getDG {β : Type} (d : β) {l : List β} {P : β → Bool} : ((List.range l.length).any fun i => P (l.getD i d)) = l.any P := by
 rw [Bool.eq_iff_iff, List.any_eq_true, List.any_eq_true]
 constructor
 ·rintro ⟨i, hi, h⟩
  rw [List.mem_range] at hi
  refine ⟨l[i], List.getElem_mem hi, ?_⟩
  rwa [List.getD_eq_getElem?_getD, List.getElem?_eq_getElem hi] at h
 ·rintro ⟨x, hx, h⟩
  obtain ⟨i, hi, rfl⟩ := List.mem_iff_getElem.1 hx
  refine ⟨i, List.mem_range.2 hi, ?_⟩
  rwa [List.getD_eq_getElem?_getD, List.getElem?_eq_getElem hi]
def readyB (l : List NodeD) (x : HeldD) : Bool := x.op.parents.all fun p => decide (0 ≤ findI l l.length p)
def readyI (l : List NodeD) (q : List HeldD) : Int := firstI q.length fun i => readyB l (hn q i)
def greatQ (l : List HeldD) : Bool := decide (40 < l.length) || (List.range l.length).any fun k => greatO (hn l k).op || decide (20 < (hn l k).got.length)
attribute [local simp] wb_bool wb_undef with_lit XL_nil XL_cons XLc_val XLc_call step1_eq stepW_t stepW_f stepC_n stepC_s stepX_s stepX_n stepN_s calleeX xrecv oneV xop_eq xopR_s xopR_n wantedA_eq wantedG_n wantedG_s plain1_int plain1_bool plain1_string bits_i64 bits_u64 bits_u32 bits_u16 bits_u8 xeqA xagg xcmp xarr allK_iv num_iv calleeOf xread xeff xbin xint xnil xun xstr xload xconv xpart xfield xfieldAddr xindexAddr xindex bnd asInt? xslice xlen xmin xmax xbuild xfill xappend xapp2 xappstr xappmk xcap xcopy xcells eval_tmp eval_const put_at put_none fr0_at cells_agg cells_int cells_bool cells_string cells_ptr cells_slice notTuple tab iv_all hget_app hget_app0 hget_cons0 hget_cons set_app set_app0 setR setR_one QL_nil QL_cons QLc_val stepQ_t stepQ_f stepQC_n stepQC_s stepQX_s SL_nil SL_cons SLc_val stepS_t stepS_f ltT ltF leT leF eqT eqF ltTn ltFn leTn leFn eqTn eqFn beqT beqF bneT bneF wi64 wu64 wu32 wu16 wu8 tmodP tdivP hgetL hgetNe hgetEq setL nums_def nums_len Nat.succ_le_of_lt List.getElem?_cons_zero List.getElem?_cons_succ Option.getD_some Int.toNat_add Int.toNat_mul agM okM agB agI agS agP agL agA okB okI okS okP okSl okA
theorem greatQ_rc {γ : Nat → Option Nat} {H : AH} {nv : Value} {l : List HeldD} (hN : HdA H nv l) : AC Try.prog H.length γ 36 #[nv] H (fun v' _ => v' = .bool (greatQ l)) := by
 have hN' := hN
 obtain ⟨hnt, hvc, hxl, hwf, hat⟩ := hN
 unfold greatQ
 refine ac_of_aw Try.func36 rfl Try.ntmps36 Try.results36 (by simp) ?_
 refine aw_seq ?_
 (refine aw_ops (by kernel_rfl) (fun K hK => ?_); simp (disch := first | omega | (simp only [lnS]; try omega)) [-getElem?_pos, -getElem?_neg]; refine hK _ _ ?_; clear hK K)
 refine aw_seq ?_
 refine aw_seq ?_
 by_cases hl : 40 < l.length
 ·(refine aw_ops (by kernel_rfl) (fun K hK => ?_); simp (disch := first | omega | (simp only [lnS]; try omega)) [-getElem?_pos, -getElem?_neg, -notTuple, hnt, hvc, nt_intG, -xlen, hxl, hl]; refine hK _ _ ?_; clear hK K)
  refine aw_t (by (first | (simp [eval_tmp, put_at, hl]; done) | (simp [eval_tmp, put_at, hl]; omega))) (by kernel_rfl) ?_
  refine aw_seq ?_
  (refine aw_ops (by kernel_rfl) (fun K hK => ?_); simp (disch := first | omega | (simp only [lnS]; try omega)) [-getElem?_pos, -getElem?_neg]; refine hK _ _ ?_; clear hK K)
  (refine aw_ret ?_; simp (disch := first | omega | (simp only [lnS]; try omega)) [-getElem?_pos, -getElem?_neg, thenQ_ret, scopeQ_ret, inBlockQ_ret, RQ, resL, resV])
  all_goals simp [hl]
 have hlf : decide (40 < l.length) = false := by simpa using hl
 rw [hlf, Bool.false_or]
 (refine aw_ops (by kernel_rfl) (fun K hK => ?_); simp (disch := first | omega | (simp only [lnS]; try omega)) [-getElem?_pos, -getElem?_neg, -notTuple, hnt, hvc, nt_intG, -xlen, hxl, hl]; refine hK _ _ ?_; clear hK K)
 refine aw_f (by (first | (simp [eval_tmp, put_at, hl]; done) | (simp [eval_tmp, put_at, hl]; omega))) (by kernel_rfl) ?_
 refine aw_skip ?_
 refine aw_seq ?_
 refine aw_seq ?_
 (refine aw_ops (by kernel_rfl) (fun K hK => ?_); simp (disch := first | omega | (simp only [lnS]; try omega)) [-getElem?_pos, -getElem?_neg]; refine hK _ _ ?_; clear hK K)
 refine aw_block ?_
 obtain ⟨R, hR⟩ : ∃ R, R = ((List.range l.length).any fun k => greatO (hn l k).op || decide (20 < (hn l k).got.length)) := ⟨_, rfl⟩
 rw [← hR]
 refine aw_loop (fun c α G' => ∃ i : Nat, i + c = l.length ∧ H = G' ∧ α 0 = nv ∧ α 3 = .int .i64 (i : Nat) ∧ ∀ k, k < i → (greatO (hn l k).op || decide (20 < (hn l k).got.length)) = false) l.length ?_ ?_
 ·exact ⟨0, by omega, rfl, by (first | (simp [put_at, put_none, fr0_at]; done) | rfl), by (first | (simp [put_at, put_none, fr0_at]; done) | rfl), fun k hk => by omega⟩
 rintro c α G' ⟨i, hic, rfl, h0, h3, hpre⟩
 refine aw_seq ?_
 refine aw_seq ?_
 by_cases hi : i < l.length
 case neg =>
  (refine aw_ops (by kernel_rfl) (fun K hK => ?_); simp (disch := first | omega | (simp only [lnS]; try omega)) [-getElem?_pos, -getElem?_neg, h0, h3, -notTuple, hnt, hvc, nt_intG, -xlen, hxl, hi]; refine hK _ _ ?_; clear hK K)
  refine aw_f (by (first | (simp [eval_tmp, put_at, hi]; done) | (simp [eval_tmp, put_at, hi]; omega))) (by kernel_rfl) ?_
  refine aw_exit ?_
  have hRf : R = false := hR.trans (any_none (fun k hk => hpre k (by omega)))
  rw [hRf]
  refine aw_seq ?_
  (refine aw_ops (by kernel_rfl) (fun K hK => ?_); simp (disch := first | omega | (simp only [lnS]; try omega)) [-getElem?_pos, -getElem?_neg]; refine hK _ _ ?_; clear hK K)
  (refine aw_ret ?_; simp (disch := first | omega | (simp only [lnS]; try omega)) [-getElem?_pos, -getElem?_neg, thenQ_ret, scopeQ_ret, inBlockQ_ret, RQ, resL, resV])
 obtain ⟨j, q, bb, us, pv, wv', bv, qv, hx, hbb, hq, hcell, hus, hC⟩ := hat i _ (hn_get hi)
 have hwfi := hwf _ (List.mem_of_getElem? (hn_get hi))
 obtain ⟨u7, hu7⟩ : ∃ u, u = (us.drop 32).take 71 := ⟨_, rfl⟩
 have hO : OpC H u7 (hn l i).op pv wv' bv := hu7 ▸ hC.op
 have hcut : (bb.cells.drop (q + 32)).take 71 = u7 := by rw [op_cut, ← hus, hu7]
 have hu7l := hO.len
 have hgo := greatO_rc (γ := γ) hO hwfi.op
 have hqv : bb.cells[q + 103]? = some qv := (hcell 103 (by omega)).trans hC.c103
 have qa := hC.got.acc (fun k hk => (hwfi.got k hk).1)
 have q1 := qa.nt
 have q2 := qa.cs
 have q3 := qa.len
 have hRt : (greatO (hn l i).op || decide (20 < (hn l i).got.length)) = true → R = true := fun e => hR.trans (any_some hi e)
 (refine aw_ops (by kernel_rfl) (fun K hK => ?_); simp (disch := first | omega | (simp only [lnS]; try omega)) [-getElem?_pos, -getElem?_neg, h0, h3, -notTuple, hnt, hvc, nt_intG, -xlen, hxl, hi]; refine hK _ _ ?_; clear hK K)
 refine aw_t (by (first | (simp [eval_tmp, put_at, hi]; done) | (simp [eval_tmp, put_at, hi]; omega))) (by kernel_rfl) ?_
 refine aw_skip ?_
 refine aw_seq ?_
 refine aw_block ?_
 refine aw_seq ?_
 refine aw_ops (by kernel_rfl) (fun K hK => ?_)
 simp (disch := first | omega | (simp only [lnS]; try omega)) [-getElem?_pos, -getElem?_neg, h0, h3, -notTuple, hnt, hvc, nt_intG, nt_aggG, -xindexAddr, hx, hbb, hcut, hu7l]
 refine ⟨by kernel_rfl, ac_of_rc hgo (by simp [pv_iv, pv_int, pv_bool, pv_string, pv_tup2, pv_tup3, iv_plain, p2_int, p2_bool, p2_string]) ?_⟩
 cases h5 : greatO (hn l i).op with
 | true =>
  try simp (disch := first | omega | (simp only [lnS]; try omega)) [-getElem?_pos, -getElem?_neg]
  refine hK _ _ ?_; clear hK K
  refine aw_t (by (first | (simp [eval_tmp, put_at]; done) | (simp [eval_tmp, put_at]; omega))) (by kernel_rfl) ?_
  refine aw_seq ?_
  rw [hRt (by rw [h5]; rfl)]
  (refine aw_ops (by kernel_rfl) (fun K hK => ?_); simp (disch := first | omega | (simp only [lnS]; try omega)) [-getElem?_pos, -getElem?_neg]; refine hK _ _ ?_; clear hK K)
  (refine aw_ret ?_; simp (disch := first | omega | (simp only [lnS]; try omega)) [-getElem?_pos, -getElem?_neg, thenQ_ret, scopeQ_ret, inBlockQ_ret, RQ, resL, resV])
 | false =>
  by_cases h6 : 20 < (hn l i).got.length
  ·simp (disch := first | omega | (simp only [lnS]; try omega)) [-getElem?_pos, -getElem?_neg, h0, h3, -notTuple, hnt, hvc, q1, q2, nt_intG, -xindexAddr, hx, hbb, hqv, -xlen, q3, h6]
   refine hK _ _ ?_; clear hK K
   refine aw_t (by (first | (simp [eval_tmp, put_at]; done) | (simp [eval_tmp, put_at]; omega))) (by kernel_rfl) ?_
   refine aw_seq ?_
   rw [hRt (by rw [decide_eq_true h6, Bool.or_true])]
   (refine aw_ops (by kernel_rfl) (fun K hK => ?_); simp (disch := first | omega | (simp only [lnS]; try omega)) [-getElem?_pos, -getElem?_neg]; refine hK _ _ ?_; clear hK K)
   (refine aw_ret ?_; simp (disch := first | omega | (simp only [lnS]; try omega)) [-getElem?_pos, -getElem?_neg, thenQ_ret, scopeQ_ret, inBlockQ_ret, RQ, resL, resV])
  ·simp (disch := first | omega | (simp only [lnS]; try omega)) [-getElem?_pos, -getElem?_neg, h0, h3, -notTuple, hnt, hvc, q1, q2, nt_intG, -xindexAddr, hx, hbb, hqv, -xlen, q3, h6]
   refine hK _ _ ?_; clear hK K
   refine aw_f (by (first | (simp [eval_tmp, put_at]; done) | (simp [eval_tmp, put_at]; omega))) (by kernel_rfl) ?_
   refine aw_skip ?_
   (refine aw_ops (by kernel_rfl) (fun K hK => ?_); simp (disch := first | omega | (simp only [lnS]; try omega)) [-getElem?_pos, -getElem?_neg, h3]; refine hK _ _ ?_; clear hK K)
   refine ⟨c - 1, by omega, i + 1, by omega, rfl, by (first | (simp [put_at, put_none, fr0_at, h0]; done) | rfl), by (first | (simp [put_at, put_none, fr0_at]; done) | rfl), fun k hk => ?_⟩
   by_cases e : k = i
   ·subst e
    rw [h5, decide_eq_false h6]; rfl
   ·exact hpre k (by omega)
theorem indexK_rc {γ : Nat → Option Nat} {H : AH} {v : Value} {l : List (List Int)} (h : KsV H v l) (hk32 : ∀ k ∈ l, k.length = 32) (hm : l.length ≤ maxLen) {f : Nat} {cs : Array Value} {p : Nat → Bool} (hcal : callable Try.prog f = true)
  (hf : ∀ (G : AH) (i : Nat), Low H.length H G → i < l.length → AC Try.prog G.length γ f (#[.agg (iv .u8 (l.getD i [])).toArray] ++ cs) G (fun v' _ => v' = .bool (p i))) :
  AC Try.prog H.length γ 140 #[v, .func (.func f) #[] cs] H (fun v' _ => v' = .int .i64 (firstI l.length p)) := by
 have hacc := (h.acc hk32)
 have hnt := hacc.nt
 have hvc := hacc.cs
 have hxl := hacc.len
 have hm63 : l.length ≤ 9223372036854775807 := by simp only [maxLen] at hm; omega
 have hfn : notTuple (.func (.func f) #[] cs) = true := rfl
 have hfc : (Value.func (.func f) #[] cs).cells = #[.func (.func f) #[] cs] := rfl
 refine ac_of_aw Try.func140 rfl Try.ntmps140 Try.results140 (by simp) ?_
 refine aw_seq ?_
 (refine aw_ops (by kernel_rfl) (fun K hK => ?_); simp (disch := first | omega | (simp only [lnS]; try omega)) [-getElem?_pos, -getElem?_neg]; refine hK _ _ ?_; clear hK K)
 refine aw_seq ?_
 refine aw_seq ?_
 (refine aw_ops (by kernel_rfl) (fun K hK => ?_); simp (disch := first | omega | (simp only [lnS]; try omega)) [-getElem?_pos, -getElem?_neg, -notTuple, hnt, hvc, nt_intG, -xlen, hxl]; refine hK _ _ ?_; clear hK K)
 refine aw_block ?_
 refine aw_loop (fun c α G => ∃ i : Nat, i + c = l.length ∧ Low H.length H G ∧ α 0 = v ∧ α 1 = .func (.func f) #[] cs ∧ α 7 = .int .i64 (l.length : Nat) ∧ α 8 = .int .i64 (i : Nat) ∧ ∀ k, k < i → p k = false) l.length ?_ ?_
 ·exact ⟨0, by omega, Low.refl (Nat.le_refl _), by (first | (simp [put_at, put_none, fr0_at]; done) | rfl), by (first | (simp [put_at, put_none, fr0_at]; done) | rfl), by (first | (simp [put_at, put_none, fr0_at]; done) | rfl), by (first | (simp [put_at, put_none, fr0_at]; done) | rfl), fun k hk => by omega⟩
 rintro c α G ⟨i, hic, hlow, h0, h1, h7, h8, hpre⟩
 refine aw_seq ?_
 by_cases hi : i < l.length
 case neg =>
  (refine aw_ops (by kernel_rfl) (fun K hK => ?_); simp (disch := first | omega | (simp only [lnS]; try omega)) [-getElem?_pos, -getElem?_neg, h7, h8, hi]; refine hK _ _ ?_; clear hK K)
  refine aw_seq ?_
  refine aw_f (by (first | (simp [eval_tmp, put_at, hi]; done) | (simp [eval_tmp, put_at, hi]; omega))) (by kernel_rfl) ?_
  refine aw_exit ?_
  refine aw_seq ?_
  (refine aw_ops (by kernel_rfl) (fun K hK => ?_); simp (disch := first | omega | (simp only [lnS]; try omega)) [-getElem?_pos, -getElem?_neg]; refine hK _ _ ?_; clear hK K)
  (refine aw_ret ?_; simp (disch := first | omega | (simp only [lnS]; try omega)) [-getElem?_pos, -getElem?_neg, thenQ_ret, scopeQ_ret, inBlockQ_ret, RQ, resL, resV])
  exact (firstI_none (fun k hk => hpre k (by omega))).symm
 obtain ⟨q, x, r1, r2, r3, r4, r5⟩ := hacc.at_ i hi
 have r5 := r5 G hlow
 subst r4
 have hc := hf G i hlow hi
 obtain ⟨z, hz⟩ : ∃ z, z = l.getD i [] := ⟨_, rfl⟩
 have hzl : (iv .u8 z).length = 32 := by rw [iv_length, hz, List.getD_eq_getElem?_getD, List.getElem?_eq_getElem hi]; exact hk32 _ (List.getElem_mem hi)
 rw [← hz] at hc r5
 (refine aw_ops (by kernel_rfl) (fun K hK => ?_); simp (disch := first | omega | (simp only [lnS]; try omega)) [-getElem?_pos, -getElem?_neg, h7, h8, hi]; refine hK _ _ ?_; clear hK K)
 refine aw_seq ?_
 refine aw_t (by (first | (simp [eval_tmp, put_at, hi]; done) | (simp [eval_tmp, put_at, hi]; omega))) (by kernel_rfl) ?_
 refine aw_skip ?_
 refine aw_seq ?_
 refine aw_block ?_
 refine aw_seq ?_
 (refine aw_ops (by kernel_rfl) (fun K hK => ?_); simp (disch := first | omega | (simp only [lnS]; try omega)) [-getElem?_pos, -getElem?_neg, h8]; refine hK _ _ ?_; clear hK K)
 refine aw_seq ?_
 refine aw_ops (by kernel_rfl) (fun K hK => ?_)
 simp (disch := first | omega | (simp only [lnS]; try omega)) [-getElem?_pos, -getElem?_neg, h0, h1, -notTuple, hnt, hvc, hfn, hfc, nt_intG, nt_aggG, hzl, r1, -xindexAddr, r2, -xload, r5]
 refine ⟨hcal, ac_of_rc hc (by simp [pv_iv, pv_int, pv_bool, pv_string, pv_tup2, pv_tup3, iv_plain, p2_int, p2_bool, p2_string]) ?_⟩
 cases hp : p i with
 | true =>
  try simp (disch := first | omega | (simp only [lnS]; try omega)) [-getElem?_pos, -getElem?_neg]
  refine hK _ _ ?_; clear hK K
  refine aw_t (by (first | (simp [eval_tmp, put_at]; done) | (simp [eval_tmp, put_at]; omega))) (by kernel_rfl) ?_
  refine aw_seq ?_
  (refine aw_ops (by kernel_rfl) (fun K hK => ?_); simp (disch := first | omega | (simp only [lnS]; try omega)) [-getElem?_pos, -getElem?_neg]; refine hK _ _ ?_; clear hK K)
  (refine aw_ret ?_; simp (disch := first | omega | (simp only [lnS]; try omega)) [-getElem?_pos, -getElem?_neg, thenQ_ret, scopeQ_ret, inBlockQ_ret, RQ, resL, resV])
  exact (firstI_some hi hpre hp).symm
 | false =>
  try simp (disch := first | omega | (simp only [lnS]; try omega)) [-getElem?_pos, -getElem?_neg]
  refine hK _ _ ?_; clear hK K
  refine aw_f (by (first | (simp [eval_tmp, put_at]; done) | (simp [eval_tmp, put_at]; omega))) (by kernel_rfl) ?_
  refine aw_skip ?_
  (refine aw_ops (by kernel_rfl) (fun K hK => ?_); simp (disch := first | omega | (simp only [lnS]; try omega)) [-getElem?_pos, -getElem?_neg, h8]; refine hK _ _ ?_; clear hK K)
  refine ⟨c - 1, by omega, i + 1, by omega, hlow, by (first | (simp [put_at, put_none, fr0_at, h0]; done) | rfl), by (first | (simp [put_at, put_none, fr0_at, h1]; done) | rfl), by (first | (simp [put_at, put_none, fr0_at, h7]; done) | rfl), by (first | (simp [put_at, put_none, fr0_at]; done) | rfl), fun k hk => ?_⟩
  by_cases e : k = i
  ·subst e; exact hp
  ·exact hpre k (by omega)
theorem anyK_rc {γ : Nat → Option Nat} {H : AH} {v : Value} {l : List (List Int)} (h : KsV H v l) (hk32 : ∀ k ∈ l, k.length = 32) (hm : l.length ≤ maxLen) {f : Nat} {cs : Array Value} {P : List Int → Bool} (hcal : callable Try.prog f = true)
  (hf : ∀ (G : AH) (z : List Int), Low H.length H G → z ∈ l → AC Try.prog G.length γ f (#[.agg (iv .u8 z).toArray] ++ cs) G (fun v' _ => v' = .bool (P z))) :
  AC Try.prog H.length γ 96 #[v, .func (.func f) #[] cs] H (fun v' _ => v' = .bool (l.any P)) := by
 have hacc := (h.acc hk32)
 have hnt := hacc.nt
 have hvc := hacc.cs
 have hfn : notTuple (.func (.func f) #[] cs) = true := rfl
 have hfc : (Value.func (.func f) #[] cs).cells = #[.func (.func f) #[] cs] := rfl
 have hix := indexK_rc (γ := γ) h hk32 hm (p := fun i => P (l.getD i [])) hcal (fun G i hg hi => hf G _ hg (by
  rw [List.getD_eq_getElem?_getD, List.getElem?_eq_getElem hi]
  exact List.getElem_mem hi))
 have hb := firstI_bd (n := l.length) (p := fun i => P (l.getD i []))
 rw [← any_getDG [], ← any_first]
 generalize firstI l.length (fun i => P (l.getD i [])) = r at *
 refine ac_of_aw Try.func96 rfl Try.ntmps96 Try.results96 (by simp) ?_
 refine aw_seq ?_
 (refine aw_ops (by kernel_rfl) (fun K hK => ?_); simp (disch := first | omega | (simp only [lnS]; try omega)) [-getElem?_pos, -getElem?_neg]; refine hK _ _ ?_; clear hK K)
 refine aw_seq ?_
 refine aw_ops (by kernel_rfl) (fun K hK => ?_)
 simp (disch := first | omega | (simp only [lnS]; try omega)) [-getElem?_pos, -getElem?_neg, -notTuple, hnt, hvc, hfn, hfc, nt_intG]
 refine ⟨by kernel_rfl, ac_of_rc hix (by simp [pv_iv, pv_int, pv_bool, pv_string, pv_tup2, pv_tup3, iv_plain, p2_int, p2_bool, p2_string]) ?_⟩
 by_cases h0 : 0 ≤ r
 ·simp (disch := first | omega | (simp only [lnS]; try omega)) [-getElem?_pos, -getElem?_neg, h0]
  refine hK _ _ ?_; clear hK K
  (refine aw_ret ?_; simp (disch := first | omega | (simp only [lnS]; try omega)) [-getElem?_pos, -getElem?_neg, thenQ_ret, scopeQ_ret, inBlockQ_ret, RQ, resL, resV, h0])
 ·simp (disch := first | omega | (simp only [lnS]; try omega)) [-getElem?_pos, -getElem?_neg, h0]
  refine hK _ _ ?_; clear hK K
  (refine aw_ret ?_; simp (disch := first | omega | (simp only [lnS]; try omega)) [-getElem?_pos, -getElem?_neg, thenQ_ret, scopeQ_ret, inBlockQ_ret, RQ, resL, resV, h0])
theorem ready11_rc {γ : Nat → Option Nat} {H : AH} {nv : Value} {l : List NodeD} {p1 : Nat} (hN : NdA H nv l) (hl : l.length ≤ maxLen) (h1 : hget H p1 = some ⟨[nv], 22, none⟩) {k : List Int} (hk : k.length = 32) :
  AC Try.prog H.length γ 97 #[.agg (iv .u8 k).toArray, .pointer (some ⟨p1, 0, none⟩)] H (fun v' _ => v' = .bool (decide (findI l l.length k < 0))) := by
 have hnt := hN.nt
 have hvc := hN.cs
 have hkl : (iv .u8 k).length = 32 := by rw [iv_length, hk]
 have htk : (iv .u8 k).take 32 = iv .u8 k := List.take_of_length_le (by omega)
 refine ac_of_aw Try.func97 rfl Try.ntmps97 Try.results97 (by simp) ?_
 refine aw_seq ?_
 (refine aw_ops (by kernel_rfl) (fun K hK => ?_); simp (disch := first | omega | (simp only [lnS]; try omega)) [-getElem?_pos, -getElem?_neg, hkl, nt_aggG]; refine hK _ _ ?_; clear hK K)
 obtain ⟨lw, b2⟩ := boxed (H := H) (iv .u8 k) 38
 have h1 := (lw.1 _ (hget_lt h1)).trans h1
 generalize H ++ [some ⟨iv .u8 k, 38, none⟩] = G at *
 have fi := find_rc (γ := γ) (hN.lowG lw) hl hk
 generalize findI l l.length k = f at *
 refine aw_seq ?_
 refine aw_ops (by kernel_rfl) (fun K hK => ?_)
 simp (disch := first | omega | (simp only [lnS]; try omega)) [-getElem?_pos, -getElem?_neg, h1, b2, hkl, htk, -notTuple, hnt, hvc, nt_aggG]
 refine ⟨by kernel_rfl, ac_of_rc fi (by simp [pv_iv, pv_int, pv_bool, pv_string, pv_tup2, pv_tup3, iv_plain, p2_int, p2_bool, p2_string]) ?_⟩
 by_cases hf : f < 0
 ·try simp (disch := first | omega | (simp only [lnS]; try omega)) [-getElem?_pos, -getElem?_neg, hf]
  refine hK _ _ ?_; clear hK K
  (refine aw_ret ?_; simp (disch := first | omega | (simp only [lnS]; try omega)) [-getElem?_pos, -getElem?_neg, thenQ_ret, scopeQ_ret, inBlockQ_ret, RQ, resL, resV, hf])
 ·try simp (disch := first | omega | (simp only [lnS]; try omega)) [-getElem?_pos, -getElem?_neg, hf]
  refine hK _ _ ?_; clear hK K
  (refine aw_ret ?_; simp (disch := first | omega | (simp only [lnS]; try omega)) [-getElem?_pos, -getElem?_neg, thenQ_ret, scopeQ_ret, inBlockQ_ret, RQ, resL, resV, hf])
theorem ready11_callable : callable Try.prog 97 = true := by kernel_rfl
theorem ready1_rc {γ : Nat → Option Nat} {H : AH} {nv : Value} {l : List NodeD} {p1 : Nat} (hN : NdA H nv l) (hl : l.length ≤ maxLen) (h1 : hget H p1 = some ⟨[nv], 22, none⟩) {us : List Value} {x : HeldD} {pv wv bv kv : Value} (hC : HdC H us x pv wv bv kv) (hw : x.Wf) :
  AC Try.prog H.length γ 95 #[.agg us.toArray, .pointer (some ⟨p1, 0, none⟩)] H (fun v' _ => v' = .bool (readyB l x)) := by
 have hul := hC.len
 have hset : ∀ Z : List Value, Z.length = 104 → setR Z 0 us = us := fun Z hZ => setR_all _ _ (by omega)
 have hp0 : plain1 (.slice none 0 0) = true := rfl
 have htu : us.take 104 = us := List.take_of_length_le (by omega)
 have c34 : us[34]? = some pv := by
  have := hC.op.c2
  rwa [List.getElem?_take_of_lt (by omega), List.getElem?_drop] at this
 refine ac_of_aw Try.func95 rfl Try.ntmps95 Try.results95 (by simp) ?_
 refine aw_seq ?_
 (refine aw_ops (by kernel_rfl) (fun K hK => ?_); simp (disch := first | omega | (simp only [lnS]; try omega)) [-getElem?_pos, -getElem?_neg, hul, nt_aggG, hp0, all_zl, hset, htu]; refine hK _ _ ?_; clear hK K)
 obtain ⟨lw, b2⟩ := boxed (H := H) us 60
 have h1 := (lw.1 _ (hget_lt h1)).trans h1
 generalize H ++ [some ⟨us, 60, none⟩] = G at *
 have hKs := (hC.low lw.1).op.parents
 have hk32 : ∀ k ∈ x.op.parents, k.length = 32 := fun k hk => (hw.op.parents k hk).1
 have hacc := hKs.acc hk32
 have p1' := hacc.nt
 have p2' := hacc.cs
 have ak := anyK_rc (γ := γ) hKs hk32 hw.op.plen (f := 97) (cs := #[.pointer (some ⟨p1, 0, none⟩)]) (P := fun k => decide (findI l l.length k < 0)) ready11_callable (fun G4 z h4 hz => ready11_rc (γ := γ) (hN.lowG (lw.both h4)) hl ((h4.1 _ (hget_lt h1)).trans h1) (hk32 z hz))
 have hrb : readyB l x = !(x.op.parents.any fun k => decide (findI l l.length k < 0)) := by
  unfold readyB
  rw [List.all_eq_not_any_not]
  congr 2
  funext k
  by_cases h : findI l l.length k < 0
  ·rw [decide_eq_true h, decide_eq_false (by omega)]; rfl
  ·rw [decide_eq_false h, decide_eq_true (by omega)]; rfl
 rw [hrb]
 generalize (x.op.parents.any fun k => decide (findI l l.length k < 0)) = E at *
 refine aw_seq ?_
 refine aw_ops (by kernel_rfl) (fun K hK => ?_)
 simp (disch := first | omega | (simp only [lnS]; try omega)) [-getElem?_pos, -getElem?_neg, b2, c34, hul, -notTuple, p1', p2', nt_fn, cs_fn, nt_intG]
 refine ⟨by kernel_rfl, ac_of_rc ak (by simp [pv_iv, pv_int, pv_bool, pv_string, pv_tup2, pv_tup3, iv_plain, p2_int, p2_bool, p2_string]) ?_⟩
 try simp (disch := first | omega | (simp only [lnS]; try omega)) [-getElem?_pos, -getElem?_neg]
 refine hK _ _ ?_; clear hK K
 (refine aw_ret ?_; simp (disch := first | omega | (simp only [lnS]; try omega)) [-getElem?_pos, -getElem?_neg, thenQ_ret, scopeQ_ret, inBlockQ_ret, RQ, resL, resV])
theorem ready1_callable : callable Try.prog 95 = true := by kernel_rfl
theorem ready_rc {γ : Nat → Option Nat} {H : AH} {nv qv : Value} {l : List NodeD} {q : List HeldD} (hN : NdA H nv l) (hl : l.length ≤ maxLen) (hQ : HdA H qv q) (hq : q.length ≤ maxLen) : AC Try.prog H.length γ 47 #[nv, qv] H (fun v' _ => v' = .int .i64 (if rightG l && rightQ q then readyI l q else -1)) := by
 have hnt := hN.nt
 have hvc := hN.cs
 have q1 := hQ.nt
 have q2 := hQ.cs
 refine ac_of_aw Try.func47 rfl Try.ntmps47 Try.results47 (by simp) ?_
 refine aw_seq ?_
 (refine aw_ops (by kernel_rfl) (fun K hK => ?_); simp (disch := first | omega | (simp only [lnS]; try omega)) [-getElem?_pos, -getElem?_neg, -notTuple, hnt, hvc]; refine hK _ _ ?_; clear hK K)
 obtain ⟨lw, b2⟩ := boxed (H := H) [nv] 22
 obtain ⟨n, hn'⟩ : ∃ n, n = H.length := ⟨_, rfl⟩
 rw [← hn'] at b2 ⊢
 generalize H ++ [some ⟨[nv], 22, none⟩] = G at *
 have hNG := hN.lowG lw
 have hQG := hQ.lowG lw
 have gr := graph_right_rc (γ := γ) hNG
 have qr := qRight_rc (γ := γ) hQG hq
 have ix := indexHn_rc (γ := γ) hQG hq (f := 95) (cs := #[.pointer (some ⟨n, 0, none⟩)]) (p := fun i => readyB l (hn q i)) ready1_callable (fun G4 i us pv wv bv kv h4 hi hul hC => ready1_rc (γ := γ) (hNG.lowG h4) hl ((h4.1 _ (hget_lt b2)).trans b2) (hC.low h4.1) (hQ.wf _ (List.mem_of_getElem? (hn_get hi))))
 have hri : readyI l q = firstI q.length fun i => readyB l (hn q i) := rfl
 rw [← hri] at ix
 refine aw_seq ?_
 refine aw_seq ?_
 refine aw_cut (fun α G3 => α 12 = .bool (!(rightG l && rightQ q)) ∧ α 1 = qv ∧ α 2 = .pointer (some ⟨n, 0, none⟩) ∧ G3 = G) ?_ ?_
 ·refine aw_ops (by kernel_rfl) (fun K hK => ?_)
  simp (disch := first | omega | (simp only [lnS]; try omega)) [-getElem?_pos, -getElem?_neg, b2, -notTuple, hnt, hvc, nt_intG]
  refine ⟨by kernel_rfl, ac_of_rc gr (by simp [pv_iv, pv_int, pv_bool, pv_string, pv_tup2, pv_tup3, iv_plain, p2_int, p2_bool, p2_string]) ?_⟩
  cases h3 : rightG l with
  | false =>
   try simp (disch := first | omega | (simp only [lnS]; try omega)) [-getElem?_pos, -getElem?_neg]
   refine hK _ _ ?_; clear hK K
   exact ⟨by rw [h3]; (first | (simp [put_at, put_none, fr0_at]; done) | rfl), by (first | (simp [put_at, put_none, fr0_at]; done) | rfl), by (first | (simp [put_at, put_none, fr0_at]; done) | rfl), rfl⟩
  | true =>
   simp (disch := first | omega | (simp only [lnS]; try omega)) [-getElem?_pos, -getElem?_neg, -notTuple, q1, q2, nt_intG]
   refine ⟨by kernel_rfl, ac_of_rc qr (by simp [pv_iv, pv_int, pv_bool, pv_string, pv_tup2, pv_tup3, iv_plain, p2_int, p2_bool, p2_string]) ?_⟩
   try simp (disch := first | omega | (simp only [lnS]; try omega)) [-getElem?_pos, -getElem?_neg]
   refine hK _ _ ?_; clear hK K
   exact ⟨by rw [h3]; (first | (simp [put_at, put_none, fr0_at]; done) | rfl), by (first | (simp [put_at, put_none, fr0_at]; done) | rfl), by (first | (simp [put_at, put_none, fr0_at]; done) | rfl), rfl⟩
 rintro α G3 ⟨q12, qq1, qq2, rfl⟩
 cases hb : (rightG l && rightQ q) with
 | false =>
  rw [hb] at q12
  refine aw_t (by (first | (simp [eval_tmp, put_at, q12]; done) | (simp [eval_tmp, put_at, q12]; omega))) (by kernel_rfl) ?_
  refine aw_seq ?_
  (refine aw_ops (by kernel_rfl) (fun K hK => ?_); simp (disch := first | omega | (simp only [lnS]; try omega)) [-getElem?_pos, -getElem?_neg]; refine hK _ _ ?_; clear hK K)
  (refine aw_ret ?_; simp (disch := first | omega | (simp only [lnS]; try omega)) [-getElem?_pos, -getElem?_neg, thenQ_ret, scopeQ_ret, inBlockQ_ret, RQ, resL, resV])
 | true =>
 rw [hb] at q12
 refine aw_f (by (first | (simp [eval_tmp, put_at, q12]; done) | (simp [eval_tmp, put_at, q12]; omega))) (by kernel_rfl) ?_
 refine aw_skip ?_
 refine aw_seq ?_
 refine aw_ops (by kernel_rfl) (fun K hK => ?_)
 simp (disch := first | omega | (simp only [lnS]; try omega)) [-getElem?_pos, -getElem?_neg, qq1, qq2, -notTuple, q1, q2, nt_fn, cs_fn, nt_intG]
 refine ⟨by kernel_rfl, ac_of_rc ix (by simp [pv_iv, pv_int, pv_bool, pv_string, pv_tup2, pv_tup3, iv_plain, p2_int, p2_bool, p2_string]) ?_⟩
 try simp (disch := first | omega | (simp only [lnS]; try omega)) [-getElem?_pos, -getElem?_neg]
 refine hK _ _ ?_; clear hK K
 (refine aw_ret ?_; simp (disch := first | omega | (simp only [lnS]; try omega)) [-getElem?_pos, -getElem?_neg, thenQ_ret, scopeQ_ret, inBlockQ_ret, RQ, resL, resV])
end
section
theorem tl_eq (a b : ByteArray) : a.toList = b.toList ↔ a = b := by
 rw [ByteArray.toList_eq, ByteArray.toList_eq]
 exact ⟨fun h => ByteArray.ext (Array.toList_inj.1 h), fun h => by rw [h]⟩
theorem BoxD.ext {a b : BoxD} (h1 : a.to = b.to) (h2 : a.pub = b.pub) (h3 : a.n = b.n) (h4 : a.prev = b.prev) (h5 : a.body = b.body) : a = b := by
 cases a; cases b; simp only [BoxD.mk.injEq] at *; exact ⟨h1, h2, h3, h4, h5⟩
theorem OpD.ext {a b : OpD} (h1 : a.author = b.author) (h2 : a.seq = b.seq) (h3 : a.parents = b.parents) (h4 : a.kind = b.kind) (h5 : a.who = b.who) (h6 : a.of = b.of) (h7 : a.check = b.check) (h8 : a.text = b.text) (h9 : a.boxes = b.boxes) : a = b := by
 cases a; cases b; simp only [OpD.mk.injEq] at *; exact ⟨h1, h2, h3, h4, h5, h6, h7, h8, h9⟩
theorem NodeD.ext {a b : NodeD} (h1 : a.id = b.id) (h2 : a.op = b.op) (h3 : a.past = b.past) : a = b := by
 cases a; cases b; simp only [NodeD.mk.injEq] at *; exact ⟨h1, h2, h3⟩
noncomputable instance : DecidableEq BoxD := Classical.typeDecidableEq _
noncomputable instance : DecidableEq OpD := Classical.typeDecidableEq _
noncomputable instance : DecidableEq NodeD := Classical.typeDecidableEq _
def boxRow (b : BoxD) : List Value := .int .i64 b.to :: (iv .u8 b.pub ++ [.int .u32 b.n, .int .u32 b.prev, .string b.body])
theorem BoxC.row {H : AH} {us : List Value} {b : BoxD} (h : BoxC H us b) : us = boxRow b := by
 have hl := h.len
 have e1 : us.drop 1 = iv .u8 b.pub ++ us.drop 33 := by
  have := (List.take_append_drop 32 (us.drop 1)).symm
  rwa [h.pub, List.drop_drop] at this
 have e0 : us.take 1 = [.int .i64 b.to] := by
  apply List.ext_getElem?
  intro i
  match i with
  | 0 => rw [List.getElem?_take_of_lt (by omega), h.c0]; rfl
  | i + 1 => rw [List.getElem?_eq_none (by rw [List.length_take]; omega), List.getElem?_eq_none (by simp)]
 have e2 : us.drop 33 = [.int .u32 b.n, .int .u32 b.prev, .string b.body] := by
  apply List.ext_getElem?
  intro i
  match i with
  | 0 => rw [List.getElem?_drop, h.c33]; rfl
  | 1 => rw [List.getElem?_drop, h.c34]; rfl
  | 2 => rw [List.getElem?_drop, h.c35]; rfl
  | i + 3 => rw [List.getElem?_eq_none (by rw [List.length_drop]; omega), List.getElem?_eq_none (by simp)]
 have := (List.take_append_drop 1 us).symm
 rw [e0, e1, e2] at this
 exact this
theorem iv_p1 (k : IntKind) (l : List Int) : (iv k l).all plain1 = true := by
 rw [List.all_eq_true]
 intro x hx
 unfold iv at hx
 obtain ⟨z, _, rfl⟩ := List.mem_map.1 hx
 rfl
theorem three {fs : List Field} {n1 n2 n3 : String} {t1 t2 t3 o1 o2 o3 : Nat} (h : fs.map (fun f => (f.name, f.type, f.offset)) = [(n1, t1, o1), (n2, t2, o2), (n3, t3, o3)]) : ∃ f1 f2 f3 : Field, fs = [f1, f2, f3] ∧ (f1.name = n1 ∧ f1.type = t1 ∧ f1.offset = o1) ∧ (f2.name = n2 ∧ f2.type = t2 ∧ f2.offset = o2) ∧ (f3.name = n3 ∧ f3.type = t3 ∧ f3.offset = o3) := by
 match fs, h with
 | [f1, f2, f3], h =>
  simp only [List.map_cons, List.map_nil, List.cons.injEq, Prod.mk.injEq, and_true] at h
  exact ⟨f1, f2, f3, rfl, h.1, h.2.1, h.2.2⟩
theorem three_df {P : Program} {q : TypeId → Value → Value → Option Bool} {f1 f2 f3 : Field} {xs ys : Array Value} {u1 u2 u3 v1 v2 v3 : Value} {r1 r2 r3 : Bool} (n1 : f1.name ≠ "_") (n2 : f2.name ≠ "_") (n3 : f3.name ≠ "_") (a1 : xpartV P f1.type xs f1.offset = some u1) (a2 : xpartV P f2.type xs f2.offset = some u2) (a3 : xpartV P f3.type xs f3.offset = some u3) (b1 : xpartV P f1.type ys f1.offset = some v1) (b2 : xpartV P f2.type ys f2.offset = some v2) (b3 : xpartV P f3.type ys f3.offset = some v3) (e1 : q f1.type u1 v1 = some r1) (e2 : q f2.type u2 v2 = some r2) (e3 : q f3.type u3 v3 = some r3) : xdf P q [f1, f2, f3] xs ys = some (r1 && (r2 && (r3 && true))) := by
 unfold xdf
 rw [if_neg n1, a1, b1]
 simp only [e1]
 unfold xdf
 rw [if_neg n2, a2, b2]
 simp only [e2]
 unfold xdf
 rw [if_neg n3, a3, b3]
 simp only [e3]
 unfold xdf
 rfl
theorem part_at {P : Program} {t : TypeId} {xs : Array Value} {o : Nat} {v : Value} (h : isAggD (und P t) = false) (hx : xs[o]? = some v) : xpartV P t xs o = some v := by
 unfold xpartV
 rw [if_neg (by rw [h]; decide), hx]
theorem part_ag {P : Program} {t : TypeId} {xs : Array Value} {o n : Nat} {v : Array Value} (h : isAggD (und P t) = true) (hz : szt P t = n) (h0 : 0 < n) (hx : xs.extract o (o + n) = v) : xpartV P t xs o = some (.agg v) := by
 unfold xpartV
 rw [if_pos h, hz, if_pos h0, hx]
theorem dq_int {P : Program} {d : Nat} {t : TypeId} {k : IntKind} {a b : Int} {kk : IntKind} (h : und P t = .int kk) : xdq P (d + 1) t (.int k a) (.int k b) = some (a == b) := by
 unfold xdq
 rw [h]
 simp
theorem dq_str {P : Program} {d : Nat} {t : TypeId} {a b : ByteArray} (h : und P t = .string) : xdq P (d + 1) t (.string a) (.string b) = some (a.toList == b.toList) := by
 unfold xdq
 rw [h]
theorem dq_ints {P : Program} {d n : Nat} {t e : TypeId} {k : IntKind} {a b : List Int} (h : und P t = .array n e) (he : und P e = .int k) (hs : szt P e = 1) (ha : a.length = n) (hb : b.length = n) : xdq P (d + 1) t (.agg (iv k a).toArray) (.agg (iv k b).toArray) = some (a == b) := by
 unfold xdq
 rw [h]
 simp only [he]
 rw [if_pos ⟨allK_iv k a, allK_iv k b, by simpa [iv_length] using ha, by simpa [iv_length] using hb, hs⟩, num_iv, num_iv]
theorem head_row (b : BoxD) (hb : b.pub.length = 32) : (boxRow b).toArray.extract 1 (1 + 34) = (iv .u8 b.pub ++ [Value.int .u32 b.n, .int .u32 b.prev]).toArray := by
 apply Array.toList_inj.1
 rw [Array.toList_extract, List.extract_eq_take_drop, List.toList_toArray, List.toList_toArray]
 have hl : (iv .u8 b.pub).length = 32 := by rw [iv_length, hb]
 show ((iv .u8 b.pub ++ [Value.int .u32 b.n, .int .u32 b.prev, .string b.body]).take 34) = _
 rw [List.take_append, List.take_of_length_le (by omega), hl]
 rfl
theorem xdq_box {a b : BoxD} (X Y : Array Value) (hX : X = (boxRow a).toArray) (hY : Y = (boxRow b).toArray) (ha : a.pub.length = 32) (hb : b.pub.length = 32) : xdq Try.prog 6 107 (.agg X) (.agg Y) = some ((a.to == b.to) && (((a.pub == b.pub) && ((a.n == b.n) && ((a.prev == b.prev) && true))) && ((a.body.toList == b.body.toList) && true))) := by
 subst hX hY
 have u1 : und Try.prog 107 = .struct (Try.prog.fieldsOf 107) := by kernel_rfl
 have u2 : und Try.prog 105 = .struct (Try.prog.fieldsOf 105) := by kernel_rfl
 have g1 : Try.prog.stoodInHeld 107 = false := by kernel_rfl
 have g2 : Try.prog.stoodInHeld 105 = false := by kernel_rfl
 obtain ⟨f1, f2, f3, ef, ⟨a1, a2, a3⟩, ⟨b1, b2, b3⟩, c1, c2, c3⟩ := three (fs := (Try.prog.fieldsOf 107).toList) (n1 := "To") (t1 := 3) (o1 := 0) (n2 := "Head") (t2 := 105) (o2 := 1) (n3 := "Body") (t3 := 9) (o3 := 35) (by kernel_rfl)
 obtain ⟨h1, h2, h3, eh, ⟨d1, d2, d3⟩, ⟨e1, e2, e3⟩, k1, k2, k3⟩ := three (fs := (Try.prog.fieldsOf 105).toList) (n1 := "Pub") (t1 := 38) (o1 := 0) (n2 := "N") (t2 := 35) (o2 := 32) (n3 := "Prev") (t3 := 35) (o3 := 33) (by kernel_rfl)
 have la : (iv .u8 a.pub).length = 32 := by rw [iv_length, ha]
 have lb : (iv .u8 b.pub).length = 32 := by rw [iv_length, hb]
 have key : ∀ (x : BoxD), (iv .u8 x.pub).length = 32 → (iv .u8 x.pub ++ [Value.int .u32 x.n, .int .u32 x.prev]).toArray.extract 0 (0 + 32) = (iv .u8 x.pub).toArray := fun x hx => by
  apply Array.toList_inj.1
  rw [Array.toList_extract, List.extract_eq_take_drop, List.toList_toArray, List.toList_toArray]
  show (iv .u8 x.pub ++ _).take 32 = _
  rw [List.take_append_of_le_length (by omega), List.take_of_length_le (by omega)]
 have at32 : ∀ (x : BoxD), (iv .u8 x.pub).length = 32 → (iv .u8 x.pub ++ [Value.int .u32 x.n, .int .u32 x.prev]).toArray[32]? = some (.int .u32 x.n) ∧ (iv .u8 x.pub ++ [Value.int .u32 x.n, .int .u32 x.prev]).toArray[33]? = some (.int .u32 x.prev) := fun x hx => by
  constructor
  ·rw [List.getElem?_toArray, List.getElem?_append_right (by omega), hx]; rfl
  ·rw [List.getElem?_toArray, List.getElem?_append_right (by omega), hx]; rfl
 have at35 : ∀ (x : BoxD), (iv .u8 x.pub).length = 32 → (boxRow x).toArray[35]? = some (.string x.body) := fun x hx => by
  rw [List.getElem?_toArray]
  unfold boxRow
  rw [List.getElem?_cons_succ, List.getElem?_append_right (by omega), hx]; rfl
 have agk : isAggD (und Try.prog 38) = true := by kernel_rfl
 have agh : isAggD (und Try.prog 105) = true := by kernel_rfl
 have agi : isAggD (und Try.prog 3) = false := by kernel_rfl
 have agu : isAggD (und Try.prog 35) = false := by kernel_rfl
 have ags : isAggD (und Try.prog 9) = false := by kernel_rfl
 have sk : szt Try.prog 38 = 32 := by kernel_rfl
 have sh : szt Try.prog 105 = 34 := by kernel_rfl
 have hhead : xdq Try.prog 5 105 (.agg (iv .u8 a.pub ++ [Value.int .u32 a.n, .int .u32 a.prev]).toArray) (.agg (iv .u8 b.pub ++ [Value.int .u32 b.n, .int .u32 b.prev]).toArray) = some ((a.pub == b.pub) && ((a.n == b.n) && ((a.prev == b.prev) && true))) := by
  unfold xdq
  rw [u2]
  simp only [g2, if_true]
  rw [eh]
  refine three_df (by rw [d1]; decide) (by rw [e1]; decide) (by rw [k1]; decide) (by rw [d2, d3]; exact part_ag agk sk (by omega) (key a la)) (by rw [e2, e3]; exact part_at agu (at32 a la).1) (by rw [k2, k3]; exact part_at agu (at32 a la).2) (by rw [d2, d3]; exact part_ag agk sk (by omega) (key b lb)) (by rw [e2, e3]; exact part_at agu (at32 b lb).1) (by rw [k2, k3]; exact part_at agu (at32 b lb).2) ?_ ?_ ?_
  ·rw [d2]; exact dq_ints (e := 5) (n := 32) (by kernel_rfl) (by kernel_rfl) (by kernel_rfl) ha hb
  ·rw [e2]; exact dq_int (kk := .u32) (by kernel_rfl)
  ·rw [k2]; exact dq_int (kk := .u32) (by kernel_rfl)
 unfold xdq
 rw [u1]
 simp only [g1, if_true]
 rw [ef]
 refine three_df (by rw [a1]; decide) (by rw [b1]; decide) (by rw [c1]; decide) (by rw [a2, a3]; exact part_at agi rfl) (by rw [b2, b3]; exact part_ag agh sh (by omega) (head_row a ha)) (by rw [c2, c3]; exact part_at ags (at35 a la)) (by rw [a2, a3]; exact part_at agi rfl) (by rw [b2, b3]; exact part_ag agh sh (by omega) (head_row b hb)) (by rw [c2, c3]; exact part_at ags (at35 b lb)) ?_ ?_ ?_
 ·rw [a2]; exact dq_int (kk := .i64) (by kernel_rfl)
 ·rw [b2]; exact hhead
 ·rw [c2]; exact dq_str (by kernel_rfl)
theorem box_eq {a b : BoxD} (ha : a.pub.length = 32) (hb : b.pub.length = 32) : xagg Try.prog 107 (boxRow a) (boxRow b) = some (decide (a = b)) := by
 have c1 : cmpT Try.prog 107 = none := by kernel_rfl
 have c2 : ∀ xs ys, xarr Try.prog 107 xs ys = none := fun xs ys => by
  have : und Try.prog 107 = .struct (Try.prog.fieldsOf 107) := by kernel_rfl
  unfold xarr
  rw [this]
 have c3 : gl Try.prog 107 = true := by kernel_rfl
 have p : ∀ x : BoxD, (boxRow x).all plain1 = true := fun x => by
  unfold boxRow
  rw [List.all_cons, List.all_append, iv_p1]; rfl
 unfold xagg
 rw [c1]
 simp only [c2]
 unfold xdeep
 rw [if_pos ⟨c3, p a, p b⟩]
 rw [xdq_box _ _ rfl rfl ha hb]
 congr 1
 rw [Bool.eq_iff_iff, decide_eq_true_eq]
 simp only [Bool.and_eq_true, beq_iff_eq, Bool.and_true]
 rw [tl_eq]
 constructor
 ·rintro ⟨h1, ⟨h2, h3, h4⟩, h5⟩
  exact BoxD.ext h1 h2 h3 h4 h5
 ·rintro rfl
  exact ⟨rfl, ⟨rfl, rfl, rfl⟩, rfl⟩
end
section
attribute [local simp] wb_bool wb_undef with_lit XL_nil XL_cons XLc_val XLc_call step1_eq stepW_t stepW_f stepC_n stepC_s stepX_s stepX_n stepN_s calleeX xrecv oneV xop_eq xopR_s xopR_n wantedA_eq wantedG_n wantedG_s plain1_int plain1_bool plain1_string bits_i64 bits_u64 bits_u32 bits_u16 bits_u8 xeqA xagg xcmp xarr allK_iv num_iv calleeOf xread xeff xbin xint xnil xun xstr xload xconv xpart xfield xfieldAddr xindexAddr xindex bnd asInt? xslice xlen xmin xmax xbuild xfill xappend xapp2 xappstr xappmk xcap xcopy xcells eval_tmp eval_const put_at put_none fr0_at cells_agg cells_int cells_bool cells_string cells_ptr cells_slice notTuple tab iv_all hget_app hget_app0 hget_cons0 hget_cons set_app set_app0 setR setR_one QL_nil QL_cons QLc_val stepQ_t stepQ_f stepQC_n stepQC_s stepQX_s SL_nil SL_cons SLc_val stepS_t stepS_f ltT ltF leT leF eqT eqF ltTn ltFn leTn leFn eqTn eqFn beqT beqF bneT bneF wi64 wu64 wu32 wu16 wu8 tmodP tdivP hgetL hgetNe hgetEq setL nums_def nums_len Nat.succ_le_of_lt List.getElem?_cons_zero List.getElem?_cons_succ Option.getD_some Int.toNat_add Int.toNat_mul agM okM agB agI agS agP agL agA okB okI okS okP okSl okA
theorem sameOp_rc {γ : Nat → Option Nat} {H : AH} {us ws : List Value} {o o' : OpD} {pv wv bv pv' wv' bv' : Value} (h : OpC H us o pv wv bv) (h' : OpC H ws o' pv' wv' bv') (hw : o.Wf) (hw' : o'.Wf) (hs : o.parents.length ≤ 1000000 ∧ o.who.length ≤ 1000000 ∧ o.boxes.length ≤ 1000000) : AC Try.prog H.length γ 94 #[.agg us.toArray, .agg ws.toArray] H (fun v' _ => v' = .bool (decide (o = o'))) := by
 have hul := h.len
 have hwl := h'.len
 obtain ⟨m1, m2, m3⟩ := hs
 have hps := hw'.plen
 have hws := hw'.wlen
 have hbs := hw'.blen
 have hm63 : o'.parents.length ≤ 9223372036854775807 ∧ o'.who.length ≤ 9223372036854775807 ∧ o'.boxes.length ≤ 9223372036854775807 := by simp only [maxLen] at hps hws hbs; omega
 obtain ⟨m1', m2', m3'⟩ := hm63
 refine ac_of_aw Try.func94 rfl Try.ntmps94 Try.results94 (by simp) ?_
 refine aw_seq ?_
 (refine aw_ops (by kernel_rfl) (fun K hK => ?_); simp (disch := first | omega | (simp only [lnS]; try omega)) [-getElem?_pos, -getElem?_neg, hul, hwl, nt_aggG]; refine hK _ _ ?_; clear hK K)
 obtain ⟨G, hGe⟩ : ∃ G : AH, G = H ++ [some ⟨us, 41, none⟩, some ⟨ws, 41, none⟩] := ⟨_, rfl⟩
 have b2 : hget G H.length = some ⟨us, 41, none⟩ := by rw [hGe, hget_app0]; rfl
 have b3 : hget G (H.length + 1) = some ⟨ws, 41, none⟩ := by rw [hGe, hget_app]; rfl
 have lw : Low H.length H G := hGe ▸ Low.push (Nat.le_refl _) _
 rw [← hGe]
 clear hGe
 obtain ⟨n, hn⟩ : ∃ n, n = H.length := ⟨_, rfl⟩
 rw [← hn] at b2 b3 lw ⊢
 have hO : OpC G us o pv wv bv := h.low (fun j hj => lw.1 j (by omega))
 have hO' : OpC G ws o' pv' wv' bv' := h'.low (fun j hj => lw.1 j (by omega))
 have pa := hO.parents.acc (fun k hk => (hw.parents k hk).1)
 have wa := hO.who.acc
 have bn := val_nt hO.boxes
 have bl := val_len (P := Try.prog) (t := 39) (e := 107) hO.boxes (by kernel_rfl)
 rw [List.length_map] at bl
 have p1 := pa.nt
 have p2 := pa.cs
 have p3 := pa.len
 have w1 := wa.nt
 have w2 := wa.cs
 have w3 := wa.len
 obtain ⟨n1, n2⟩ := bn
 have c0 := hO.c0
 have c1 := hO.c1
 have c2 := hO.c2
 have c3 := hO.c3
 have c4 := hO.c4
 have cf := hO.of
 have cc := hO.check
 have c69 := hO.c69
 have c70 := hO.c70
 have lf : (iv .u8 o.of).length = 32 := by rw [iv_length, hw.of.1]
 have lc : (iv .u8 o.check).length = 32 := by rw [iv_length, hw.check.1]
 have pa' := hO'.parents.acc (fun k hk => (hw'.parents k hk).1)
 have wa' := hO'.who.acc
 have bn' := val_nt hO'.boxes
 have bl' := val_len (P := Try.prog) (t := 39) (e := 107) hO'.boxes (by kernel_rfl)
 rw [List.length_map] at bl'
 have p1' := pa'.nt
 have p2' := pa'.cs
 have p3' := pa'.len
 have w1' := wa'.nt
 have w2' := wa'.cs
 have w3' := wa'.len
 obtain ⟨n1', n2'⟩ := bn'
 have c0' := hO'.c0
 have c1' := hO'.c1
 have c2' := hO'.c2
 have c3' := hO'.c3
 have c4' := hO'.c4
 have cf' := hO'.of
 have cc' := hO'.check
 have c69' := hO'.c69
 have c70' := hO'.c70
 have lf' : (iv .u8 o'.of).length = 32 := by rw [iv_length, hw'.of.1]
 have lc' : (iv .u8 o'.check).length = 32 := by rw [iv_length, hw'.check.1]
 have x2 : xload Try.prog 36 (.pointer (some ⟨n, 2, none⟩)) G = some pv := by simp [xload, b2, c2]
 have x4 : xload Try.prog 23 (.pointer (some ⟨n, 4, none⟩)) G = some wv := by simp [xload, b2, c4]
 have x70 : xload Try.prog 39 (.pointer (some ⟨n, 70, none⟩)) G = some bv := by simp [xload, b2, c70]
 have x2' : xload Try.prog 36 (.pointer (some ⟨n + 1, 2, none⟩)) G = some pv' := by simp [xload, b3, c2']
 have x4' : xload Try.prog 23 (.pointer (some ⟨n + 1, 4, none⟩)) G = some wv' := by simp [xload, b3, c4']
 have x70' : xload Try.prog 39 (.pointer (some ⟨n + 1, 70, none⟩)) G = some bv' := by simp [xload, b3, c70']
 refine aw_seq ?_
 refine aw_seq ?_
 refine aw_cut (fun α G2 => α 2 = .pointer (some ⟨n, 0, none⟩) ∧ α 3 = .pointer (some ⟨n + 1, 0, none⟩) ∧ G2 = G ∧ ∃ b, α 74 = .bool b ∧ (b = true → ¬ o = o') ∧ (b = false → o.author = o'.author ∧ o.seq = o'.seq ∧ o.kind = o'.kind ∧ o.of = o'.of ∧ o.check = o'.check ∧ o.text = o'.text ∧ o.parents.length = o'.parents.length ∧ o.who.length = o'.who.length ∧ o.boxes.length = o'.boxes.length)) ?_ ?_
 ·by_cases e0 : o.author = o'.author
  case neg =>
   have q0 : (o.author == o'.author) = false := by rw [beq_eq_false_iff_ne]; exact e0
   (refine aw_ops (by kernel_rfl) (fun K hK => ?_); simp (disch := first | omega | (simp only [lnS]; try omega)) [-getElem?_pos, -getElem?_neg, b2, b3, hul, hwl, c0, c0', c1, c1', c2, c2', c3, c3', c4, c4', cf, cf', cc, cc', c69, c69', c70, c70', lf, lf', lc, lc', -notTuple, p1, p1', p2, p2', w1, w1', w2, w2', n1, n1', n2, n2', nt_intG, nt_ptrG, nt_strG, nt_aggG, -xlen, p3, p3', w3, w3', bl, bl', e0, q0]; refine hK _ _ ?_; clear hK K)
   exact ⟨by (first | (simp [put_at, put_none, fr0_at]; done) | rfl), by (first | (simp [put_at, put_none, fr0_at]; done) | rfl), rfl, true, by (first | (simp [put_at, put_none, fr0_at]; done) | rfl), fun _ => fun hh => e0 (by rw [hh]), fun hh => (by cases hh)⟩
  have q0 : (o.author == o'.author) = true := by rw [beq_iff_eq]; exact e0
  by_cases e1 : o.seq = o'.seq
  case neg =>
   have q1 : (o.seq == o'.seq) = false := by rw [beq_eq_false_iff_ne]; exact e1
   (refine aw_ops (by kernel_rfl) (fun K hK => ?_); simp (disch := first | omega | (simp only [lnS]; try omega)) [-getElem?_pos, -getElem?_neg, b2, b3, hul, hwl, c0, c0', c1, c1', c2, c2', c3, c3', c4, c4', cf, cf', cc, cc', c69, c69', c70, c70', lf, lf', lc, lc', -notTuple, p1, p1', p2, p2', w1, w1', w2, w2', n1, n1', n2, n2', nt_intG, nt_ptrG, nt_strG, nt_aggG, -xlen, p3, p3', w3, w3', bl, bl', e0, q0, e1, q1]; refine hK _ _ ?_; clear hK K)
   exact ⟨by (first | (simp [put_at, put_none, fr0_at]; done) | rfl), by (first | (simp [put_at, put_none, fr0_at]; done) | rfl), rfl, true, by (first | (simp [put_at, put_none, fr0_at]; done) | rfl), fun _ => fun hh => e1 (by rw [hh]), fun hh => (by cases hh)⟩
  have q1 : (o.seq == o'.seq) = true := by rw [beq_iff_eq]; exact e1
  by_cases e2 : o.kind = o'.kind
  case neg =>
   have q2 : (o.kind == o'.kind) = false := by rw [beq_eq_false_iff_ne]; exact e2
   (refine aw_ops (by kernel_rfl) (fun K hK => ?_); simp (disch := first | omega | (simp only [lnS]; try omega)) [-getElem?_pos, -getElem?_neg, b2, b3, hul, hwl, c0, c0', c1, c1', c2, c2', c3, c3', c4, c4', cf, cf', cc, cc', c69, c69', c70, c70', lf, lf', lc, lc', -notTuple, p1, p1', p2, p2', w1, w1', w2, w2', n1, n1', n2, n2', nt_intG, nt_ptrG, nt_strG, nt_aggG, -xlen, p3, p3', w3, w3', bl, bl', e0, q0, e1, q1, e2, q2]; refine hK _ _ ?_; clear hK K)
   exact ⟨by (first | (simp [put_at, put_none, fr0_at]; done) | rfl), by (first | (simp [put_at, put_none, fr0_at]; done) | rfl), rfl, true, by (first | (simp [put_at, put_none, fr0_at]; done) | rfl), fun _ => fun hh => e2 (by rw [hh]), fun hh => (by cases hh)⟩
  have q2 : (o.kind == o'.kind) = true := by rw [beq_iff_eq]; exact e2
  by_cases e3 : o.of = o'.of
  case neg =>
   have q3 : (o.of == o'.of) = false := by rw [beq_eq_false_iff_ne]; exact e3
   (refine aw_ops (by kernel_rfl) (fun K hK => ?_); simp (disch := first | omega | (simp only [lnS]; try omega)) [-getElem?_pos, -getElem?_neg, b2, b3, hul, hwl, c0, c0', c1, c1', c2, c2', c3, c3', c4, c4', cf, cf', cc, cc', c69, c69', c70, c70', lf, lf', lc, lc', -notTuple, p1, p1', p2, p2', w1, w1', w2, w2', n1, n1', n2, n2', nt_intG, nt_ptrG, nt_strG, nt_aggG, -xlen, p3, p3', w3, w3', bl, bl', e0, q0, e1, q1, e2, q2, e3, q3]; refine hK _ _ ?_; clear hK K)
   exact ⟨by (first | (simp [put_at, put_none, fr0_at]; done) | rfl), by (first | (simp [put_at, put_none, fr0_at]; done) | rfl), rfl, true, by (first | (simp [put_at, put_none, fr0_at]; done) | rfl), fun _ => fun hh => e3 (by rw [hh]), fun hh => (by cases hh)⟩
  have q3 : (o.of == o'.of) = true := by rw [beq_iff_eq]; exact e3
  by_cases e4 : o.check = o'.check
  case neg =>
   have q4 : (o.check == o'.check) = false := by rw [beq_eq_false_iff_ne]; exact e4
   (refine aw_ops (by kernel_rfl) (fun K hK => ?_); simp (disch := first | omega | (simp only [lnS]; try omega)) [-getElem?_pos, -getElem?_neg, b2, b3, hul, hwl, c0, c0', c1, c1', c2, c2', c3, c3', c4, c4', cf, cf', cc, cc', c69, c69', c70, c70', lf, lf', lc, lc', -notTuple, p1, p1', p2, p2', w1, w1', w2, w2', n1, n1', n2, n2', nt_intG, nt_ptrG, nt_strG, nt_aggG, -xlen, p3, p3', w3, w3', bl, bl', e0, q0, e1, q1, e2, q2, e3, q3, e4, q4]; refine hK _ _ ?_; clear hK K)
   exact ⟨by (first | (simp [put_at, put_none, fr0_at]; done) | rfl), by (first | (simp [put_at, put_none, fr0_at]; done) | rfl), rfl, true, by (first | (simp [put_at, put_none, fr0_at]; done) | rfl), fun _ => fun hh => e4 (by rw [hh]), fun hh => (by cases hh)⟩
  have q4 : (o.check == o'.check) = true := by rw [beq_iff_eq]; exact e4
  by_cases e5 : o.text = o'.text
  case neg =>
   have q5 : (o.text.toList == o'.text.toList) = false := by rw [beq_eq_false_iff_ne]; exact fun hh => e5 ((tl_eq _ _).1 hh)
   (refine aw_ops (by kernel_rfl) (fun K hK => ?_); simp (disch := first | omega | (simp only [lnS]; try omega)) [-getElem?_pos, -getElem?_neg, b2, b3, hul, hwl, c0, c0', c1, c1', c2, c2', c3, c3', c4, c4', cf, cf', cc, cc', c69, c69', c70, c70', lf, lf', lc, lc', -notTuple, p1, p1', p2, p2', w1, w1', w2, w2', n1, n1', n2, n2', nt_intG, nt_ptrG, nt_strG, nt_aggG, -xlen, p3, p3', w3, w3', bl, bl', e0, q0, e1, q1, e2, q2, e3, q3, e4, q4, q5]; refine hK _ _ ?_; clear hK K)
   exact ⟨by (first | (simp [put_at, put_none, fr0_at]; done) | rfl), by (first | (simp [put_at, put_none, fr0_at]; done) | rfl), rfl, true, by (first | (simp [put_at, put_none, fr0_at]; done) | rfl), fun _ => fun hh => e5 (by rw [hh]), fun hh => (by cases hh)⟩
  have q5 : (o.text.toList == o'.text.toList) = true := by rw [beq_iff_eq]; exact (tl_eq _ _).2 e5
  by_cases e6 : (o.parents.length : Int) = (o'.parents.length : Int)
  case neg =>
   have q6 : ((o.parents.length : Int) == (o'.parents.length : Int)) = false := by rw [beq_eq_false_iff_ne]; exact e6
   (refine aw_ops (by kernel_rfl) (fun K hK => ?_); simp (disch := first | omega | (simp only [lnS]; try omega)) [-getElem?_pos, -getElem?_neg, b2, b3, hul, hwl, c0, c0', c1, c1', c2, c2', c3, c3', c4, c4', cf, cf', cc, cc', c69, c69', c70, c70', lf, lf', lc, lc', -notTuple, p1, p1', p2, p2', w1, w1', w2, w2', n1, n1', n2, n2', nt_intG, nt_ptrG, nt_strG, nt_aggG, -xlen, p3, p3', w3, w3', bl, bl', e0, q0, e1, q1, e2, q2, e3, q3, e4, q4, q5, e6, q6]; refine hK _ _ ?_; clear hK K)
   exact ⟨by (first | (simp [put_at, put_none, fr0_at]; done) | rfl), by (first | (simp [put_at, put_none, fr0_at]; done) | rfl), rfl, true, by (first | (simp [put_at, put_none, fr0_at]; done) | rfl), fun _ => fun hh => e6 (by rw [hh]), fun hh => (by cases hh)⟩
  have q6 : ((o.parents.length : Int) == (o'.parents.length : Int)) = true := by rw [beq_iff_eq]; exact e6
  by_cases e7 : (o.who.length : Int) = (o'.who.length : Int)
  case neg =>
   have q7 : ((o.who.length : Int) == (o'.who.length : Int)) = false := by rw [beq_eq_false_iff_ne]; exact e7
   (refine aw_ops (by kernel_rfl) (fun K hK => ?_); simp (disch := first | omega | (simp only [lnS]; try omega)) [-getElem?_pos, -getElem?_neg, b2, b3, hul, hwl, c0, c0', c1, c1', c2, c2', c3, c3', c4, c4', cf, cf', cc, cc', c69, c69', c70, c70', lf, lf', lc, lc', -notTuple, p1, p1', p2, p2', w1, w1', w2, w2', n1, n1', n2, n2', nt_intG, nt_ptrG, nt_strG, nt_aggG, -xlen, p3, p3', w3, w3', bl, bl', e0, q0, e1, q1, e2, q2, e3, q3, e4, q4, q5, e6, q6, e7, q7]; refine hK _ _ ?_; clear hK K)
   exact ⟨by (first | (simp [put_at, put_none, fr0_at]; done) | rfl), by (first | (simp [put_at, put_none, fr0_at]; done) | rfl), rfl, true, by (first | (simp [put_at, put_none, fr0_at]; done) | rfl), fun _ => fun hh => e7 (by rw [hh]), fun hh => (by cases hh)⟩
  have q7 : ((o.who.length : Int) == (o'.who.length : Int)) = true := by rw [beq_iff_eq]; exact e7
  by_cases e8 : (o.boxes.length : Int) = (o'.boxes.length : Int)
  case neg =>
   have q8 : ((o.boxes.length : Int) == (o'.boxes.length : Int)) = false := by rw [beq_eq_false_iff_ne]; exact e8
   (refine aw_ops (by kernel_rfl) (fun K hK => ?_); simp (disch := first | omega | (simp only [lnS]; try omega)) [-getElem?_pos, -getElem?_neg, b2, b3, hul, hwl, c0, c0', c1, c1', c2, c2', c3, c3', c4, c4', cf, cf', cc, cc', c69, c69', c70, c70', lf, lf', lc, lc', -notTuple, p1, p1', p2, p2', w1, w1', w2, w2', n1, n1', n2, n2', nt_intG, nt_ptrG, nt_strG, nt_aggG, -xlen, p3, p3', w3, w3', bl, bl', e0, q0, e1, q1, e2, q2, e3, q3, e4, q4, q5, e6, q6, e7, q7, e8, q8]; refine hK _ _ ?_; clear hK K)
   exact ⟨by (first | (simp [put_at, put_none, fr0_at]; done) | rfl), by (first | (simp [put_at, put_none, fr0_at]; done) | rfl), rfl, true, by (first | (simp [put_at, put_none, fr0_at]; done) | rfl), fun _ => fun hh => e8 (by rw [hh]), fun hh => (by cases hh)⟩
  have q8 : ((o.boxes.length : Int) == (o'.boxes.length : Int)) = true := by rw [beq_iff_eq]; exact e8
  (refine aw_ops (by kernel_rfl) (fun K hK => ?_); simp (disch := first | omega | (simp only [lnS]; try omega)) [-getElem?_pos, -getElem?_neg, b2, b3, hul, hwl, c0, c0', c1, c1', c2, c2', c3, c3', c4, c4', cf, cf', cc, cc', c69, c69', c70, c70', lf, lf', lc, lc', -notTuple, p1, p1', p2, p2', w1, w1', w2, w2', n1, n1', n2, n2', nt_intG, nt_ptrG, nt_strG, nt_aggG, -xlen, p3, p3', w3, w3', bl, bl', e0, q0, e1, q1, e2, q2, e3, q3, e4, q4, q5, e6, q6, e7, q7, e8, q8]; refine hK _ _ ?_; clear hK K)
  exact ⟨by (first | (simp [put_at, put_none, fr0_at]; done) | rfl), by (first | (simp [put_at, put_none, fr0_at]; done) | rfl), rfl, false, by (first | (simp [put_at, put_none, fr0_at]; done) | rfl), fun hh => (by cases hh), fun _ => ⟨e0, e1, e2, e3, e4, e5, by omega, by omega, by omega⟩⟩
 rintro α G2 ⟨q2, q3, rfl, b, q74, hb1, hb2⟩
 cases b with
 | true =>
  have hne := hb1 rfl
  refine aw_t (by (first | (simp [eval_tmp, put_at, q74]; done) | (simp [eval_tmp, put_at, q74]; omega))) (by kernel_rfl) ?_
  refine aw_seq ?_
  (refine aw_ops (by kernel_rfl) (fun K hK => ?_); simp (disch := first | omega | (simp only [lnS]; try omega)) [-getElem?_pos, -getElem?_neg]; refine hK _ _ ?_; clear hK K)
  (refine aw_ret ?_; simp (disch := first | omega | (simp only [lnS]; try omega)) [-getElem?_pos, -getElem?_neg, thenQ_ret, scopeQ_ret, inBlockQ_ret, RQ, resL, resV])
  all_goals exact hne
 | false =>
 obtain ⟨e0, e1, e2, e3, e4, e5, e6, e7, e8⟩ := hb2 rfl
 refine aw_f (by (first | (simp [eval_tmp, put_at, q74]; done) | (simp [eval_tmp, put_at, q74]; omega))) (by kernel_rfl) ?_
 refine aw_skip ?_
 clear q74 hb1 hb2
 refine aw_seq ?_
 refine aw_seq ?_
 (refine aw_ops (by kernel_rfl) (fun K hK => ?_); simp (disch := first | omega | (simp only [lnS]; try omega)) [-getElem?_pos, -getElem?_neg]; refine hK _ _ ?_; clear hK K)
 refine aw_block ?_
 refine aw_loop (fun c α G => ∃ i : Nat, i + c = o.parents.length ∧ α 2 = .pointer (some ⟨n, 0, none⟩) ∧ α 3 = .pointer (some ⟨n + 1, 0, none⟩) ∧ α 5 = .int .i64 (i : Nat) ∧ G = G2 ∧ ∀ k, k < i → o.parents.getD k [] = o'.parents.getD k []) o.parents.length ?_ ?_
 ·exact ⟨0, by omega, by (first | (simp [put_at, put_none, fr0_at, q2]; done) | rfl), by (first | (simp [put_at, put_none, fr0_at, q3]; done) | rfl), by (first | (simp [put_at, put_none, fr0_at]; done) | rfl), rfl, fun k hk => by omega⟩
 clear q2 q3
 rintro c α G ⟨i, hic, q2, q3, q5, rfl, hpre⟩
 refine aw_seq ?_
 refine aw_seq ?_
 by_cases hi : i < o.parents.length
 case pos =>
  obtain ⟨z1, y1, s1, s2, s3, s4, s5⟩ := pa.at_ i hi
  obtain ⟨z2, y2, t1, t2, t3, t4, t5⟩ := pa'.at_ i (by omega)
  subst s4 t4
  have s5 := s5 G (Low.refl (Nat.le_refl _))
  have t5 := t5 G (Low.refl (Nat.le_refl _))
  have k1 : (iv .u8 (o.parents.getD i [])).length = 32 := by rw [iv_length]; exact key_getD (fun k hk => (hw.parents k hk).1) hi
  have k2 : (iv .u8 (o'.parents.getD i [])).length = 32 := by rw [iv_length]; exact key_getD (fun k hk => (hw'.parents k hk).1) (by omega)
  (refine aw_ops (by kernel_rfl) (fun K hK => ?_); simp (disch := first | omega | (simp only [lnS]; try omega)) [-getElem?_pos, -getElem?_neg, q2, q3, q5, b2, b3, hul, hwl, c2, c2', -notTuple, p1, p1', p2, p2', nt_intG, nt_ptrG, -xlen, p3, p3', hi]; refine hK _ _ ?_; clear hK K)
  refine aw_t (by (first | (simp [eval_tmp, put_at, hi]; done) | (simp [eval_tmp, put_at, hi]; omega))) (by kernel_rfl) ?_
  refine aw_skip ?_
  refine aw_seq ?_
  refine aw_block ?_
  refine aw_seq ?_
  generalize hA : o.parents.getD i [] = A at *
  generalize hB : o'.parents.getD i [] = B at *
  by_cases hAB : A = B
  ·have hq : (A == B) = true := by rw [beq_iff_eq]; exact hAB
   (refine aw_plan [] [] [0, 1, 2, 3, 4, 5, 6, 7, 8, 9, 10] 11 0 (by kernel_rfl) (by kernel_rfl) (by kernel_rfl) (fun K hK => ?_)); simp only [sel, List.getElem?_cons_succ, List.getElem?_cons_zero, List.drop_succ_cons, List.drop_zero]; simp (disch := first | omega | (simp only [lnS]; try omega)) [-getElem?_pos, -getElem?_neg, q2, q3, q5, -notTuple, p1, p1', p2, p2', s1, t1, s3, t3, nt_intG, nt_ptrG, nt_aggG, -xindexAddr, s2, t2, -xload, x2, x2', s5, t5, k1, k2, hq, hAB, PL_nil, plainB_lit, PL_cons, PLc_val, PLc_new, stepP_t, stepP_f, stepPC_n, stepPC_s, stepPX_s, stepPX_n, stepPV_n, stepPV_s, stepPA_t, stepPA_c, stepPA_l, stepPN_s, allocOp, reloc_sl, reloc_ptr, List.map_cons, List.map_nil, List.nil_append, List.append_assoc, List.cons_append, Nat.add_assoc]
   refine hK _ _ ?_; clear hK K
   refine aw_f (by (first | (simp [eval_tmp, put_at]; done) | (simp [eval_tmp, put_at]; omega))) (by kernel_rfl) ?_
   refine aw_skip ?_
   (refine aw_ops (by kernel_rfl) (fun K hK => ?_); simp (disch := first | omega | (simp only [lnS]; try omega)) [-getElem?_pos, -getElem?_neg, q5]; refine hK _ _ ?_; clear hK K)
   refine ⟨c - 1, by omega, i + 1, by omega, by (first | (simp [put_at, put_none, fr0_at, q2]; done) | rfl), by (first | (simp [put_at, put_none, fr0_at, q3]; done) | rfl), by (first | (simp [put_at, put_none, fr0_at]; done) | rfl), rfl, fun k hk => ?_⟩
   by_cases e : k = i
   ·subst e; rw [hA, hB, hAB]
   ·exact hpre k (by omega)
  ·have hq : (A == B) = false := by rw [beq_eq_false_iff_ne]; exact hAB
   (refine aw_plan [] [] [0, 1, 2, 3, 4, 5, 6, 7, 8, 9, 10] 11 0 (by kernel_rfl) (by kernel_rfl) (by kernel_rfl) (fun K hK => ?_)); simp only [sel, List.getElem?_cons_succ, List.getElem?_cons_zero, List.drop_succ_cons, List.drop_zero]; simp (disch := first | omega | (simp only [lnS]; try omega)) [-getElem?_pos, -getElem?_neg, q2, q3, q5, -notTuple, p1, p1', p2, p2', s1, t1, s3, t3, nt_intG, nt_ptrG, nt_aggG, -xindexAddr, s2, t2, -xload, x2, x2', s5, t5, k1, k2, hq, hAB, PL_nil, plainB_lit, PL_cons, PLc_val, PLc_new, stepP_t, stepP_f, stepPC_n, stepPC_s, stepPX_s, stepPX_n, stepPV_n, stepPV_s, stepPA_t, stepPA_c, stepPA_l, stepPN_s, allocOp, reloc_sl, reloc_ptr, List.map_cons, List.map_nil, List.nil_append, List.append_assoc, List.cons_append, Nat.add_assoc]
   refine hK _ _ ?_; clear hK K
   refine aw_t (by (first | (simp [eval_tmp, put_at]; done) | (simp [eval_tmp, put_at]; omega))) (by kernel_rfl) ?_
   refine aw_seq ?_
   (refine aw_ops (by kernel_rfl) (fun K hK => ?_); simp (disch := first | omega | (simp only [lnS]; try omega)) [-getElem?_pos, -getElem?_neg]; refine hK _ _ ?_; clear hK K)
   (refine aw_ret ?_; simp (disch := first | omega | (simp only [lnS]; try omega)) [-getElem?_pos, -getElem?_neg, thenQ_ret, scopeQ_ret, inBlockQ_ret, RQ, resL, resV])
   all_goals exact fun hh => hAB (by rw [← hA, ← hB, hh])
 (refine aw_ops (by kernel_rfl) (fun K hK => ?_); simp (disch := first | omega | (simp only [lnS]; try omega)) [-getElem?_pos, -getElem?_neg, q2, q3, q5, b2, b3, hul, hwl, c2, c2', -notTuple, p1, p1', p2, p2', nt_intG, nt_ptrG, -xlen, p3, p3', hi]; refine hK _ _ ?_; clear hK K)
 refine aw_f (by (first | (simp [eval_tmp, put_at, hi]; done) | (simp [eval_tmp, put_at, hi]; omega))) (by kernel_rfl) ?_
 refine aw_exit ?_
 have hP : o.parents = o'.parents := keys_getD_ext e6 (fun k hk => hpre k (by omega))
 refine aw_seq ?_
 refine aw_seq ?_
 (refine aw_ops (by kernel_rfl) (fun K hK => ?_); simp (disch := first | omega | (simp only [lnS]; try omega)) [-getElem?_pos, -getElem?_neg]; refine hK _ _ ?_; clear hK K)
 refine aw_block ?_
 refine aw_loop (fun c α G2 => ∃ i : Nat, i + c = o.who.length ∧ α 2 = .pointer (some ⟨n, 0, none⟩) ∧ α 3 = .pointer (some ⟨n + 1, 0, none⟩) ∧ α 6 = .int .i64 (i : Nat) ∧ G2 = G ∧ ∀ k, k < i → o.who.getD k 0 = o'.who.getD k 0) o.who.length ?_ ?_
 ·exact ⟨0, by omega, by (first | (simp [put_at, put_none, fr0_at, q2]; done) | rfl), by (first | (simp [put_at, put_none, fr0_at, q3]; done) | rfl), by (first | (simp [put_at, put_none, fr0_at]; done) | rfl), rfl, fun k hk => by omega⟩
 clear q2 q3 q5
 rintro c α G2 ⟨i, hic, q2, q3, q6, rfl, hpre⟩
 refine aw_seq ?_
 refine aw_seq ?_
 by_cases hi : i < o.who.length
 case pos =>
  obtain ⟨z1, y1, s1, s2, s3, s4, s5⟩ := wa.at_ i hi
  obtain ⟨z2, y2, t1, t2, t3, t4, t5⟩ := wa'.at_ i (by omega)
  subst s4 t4
  have s5 := s5 G2 (Low.refl (Nat.le_refl _))
  have t5 := t5 G2 (Low.refl (Nat.le_refl _))
  (refine aw_ops (by kernel_rfl) (fun K hK => ?_); simp (disch := first | omega | (simp only [lnS]; try omega)) [-getElem?_pos, -getElem?_neg, q2, q3, q6, b2, b3, hul, hwl, c4, c4', -notTuple, w1, w1', w2, w2', nt_intG, nt_ptrG, -xlen, w3, w3', hi]; refine hK _ _ ?_; clear hK K)
  refine aw_t (by (first | (simp [eval_tmp, put_at, hi]; done) | (simp [eval_tmp, put_at, hi]; omega))) (by kernel_rfl) ?_
  refine aw_skip ?_
  refine aw_seq ?_
  refine aw_block ?_
  refine aw_seq ?_
  generalize hA : o.who.getD i 0 = A at *
  generalize hB : o'.who.getD i 0 = B at *
  by_cases hAB : A = B
  ·have hq : (A == B) = true := by rw [beq_iff_eq]; exact hAB
   (refine aw_plan [] [] [0, 1, 2, 3, 4, 5, 6, 7, 8, 9, 10] 11 0 (by kernel_rfl) (by kernel_rfl) (by kernel_rfl) (fun K hK => ?_)); simp only [sel, List.getElem?_cons_succ, List.getElem?_cons_zero, List.drop_succ_cons, List.drop_zero]; simp (disch := first | omega | (simp only [lnS]; try omega)) [-getElem?_pos, -getElem?_neg, q2, q3, q6, -notTuple, w1, w1', w2, w2', s1, t1, s3, t3, nt_intG, nt_ptrG, nt_aggG, -xindexAddr, s2, t2, -xload, x4, x4', s5, t5, hq, hAB, PL_nil, plainB_lit, PL_cons, PLc_val, PLc_new, stepP_t, stepP_f, stepPC_n, stepPC_s, stepPX_s, stepPX_n, stepPV_n, stepPV_s, stepPA_t, stepPA_c, stepPA_l, stepPN_s, allocOp, reloc_sl, reloc_ptr, List.map_cons, List.map_nil, List.nil_append, List.append_assoc, List.cons_append, Nat.add_assoc]
   refine hK _ _ ?_; clear hK K
   refine aw_f (by (first | (simp [eval_tmp, put_at, hAB]; done) | (simp [eval_tmp, put_at, hAB]; omega))) (by kernel_rfl) ?_
   refine aw_skip ?_
   (refine aw_ops (by kernel_rfl) (fun K hK => ?_); simp (disch := first | omega | (simp only [lnS]; try omega)) [-getElem?_pos, -getElem?_neg, q6]; refine hK _ _ ?_; clear hK K)
   refine ⟨c - 1, by omega, i + 1, by omega, by (first | (simp [put_at, put_none, fr0_at, q2]; done) | rfl), by (first | (simp [put_at, put_none, fr0_at, q3]; done) | rfl), by (first | (simp [put_at, put_none, fr0_at]; done) | rfl), rfl, fun k hk => ?_⟩
   by_cases e : k = i
   ·subst e; rw [hA, hB, hAB]
   ·exact hpre k (by omega)
  ·have hq : (A == B) = false := by rw [beq_eq_false_iff_ne]; exact hAB
   (refine aw_plan [] [] [0, 1, 2, 3, 4, 5, 6, 7, 8, 9, 10] 11 0 (by kernel_rfl) (by kernel_rfl) (by kernel_rfl) (fun K hK => ?_)); simp only [sel, List.getElem?_cons_succ, List.getElem?_cons_zero, List.drop_succ_cons, List.drop_zero]; simp (disch := first | omega | (simp only [lnS]; try omega)) [-getElem?_pos, -getElem?_neg, q2, q3, q6, -notTuple, w1, w1', w2, w2', s1, t1, s3, t3, nt_intG, nt_ptrG, nt_aggG, -xindexAddr, s2, t2, -xload, x4, x4', s5, t5, hq, hAB, PL_nil, plainB_lit, PL_cons, PLc_val, PLc_new, stepP_t, stepP_f, stepPC_n, stepPC_s, stepPX_s, stepPX_n, stepPV_n, stepPV_s, stepPA_t, stepPA_c, stepPA_l, stepPN_s, allocOp, reloc_sl, reloc_ptr, List.map_cons, List.map_nil, List.nil_append, List.append_assoc, List.cons_append, Nat.add_assoc]
   refine hK _ _ ?_; clear hK K
   refine aw_t (by (first | (simp [eval_tmp, put_at, hAB]; done) | (simp [eval_tmp, put_at, hAB]; omega))) (by kernel_rfl) ?_
   refine aw_seq ?_
   (refine aw_ops (by kernel_rfl) (fun K hK => ?_); simp (disch := first | omega | (simp only [lnS]; try omega)) [-getElem?_pos, -getElem?_neg]; refine hK _ _ ?_; clear hK K)
   (refine aw_ret ?_; simp (disch := first | omega | (simp only [lnS]; try omega)) [-getElem?_pos, -getElem?_neg, thenQ_ret, scopeQ_ret, inBlockQ_ret, RQ, resL, resV])
   all_goals exact fun hh => hAB (by rw [← hA, ← hB, hh])
 (refine aw_ops (by kernel_rfl) (fun K hK => ?_); simp (disch := first | omega | (simp only [lnS]; try omega)) [-getElem?_pos, -getElem?_neg, q2, q3, q6, b2, b3, hul, hwl, c4, c4', -notTuple, w1, w1', w2, w2', nt_intG, nt_ptrG, -xlen, w3, w3', hi]; refine hK _ _ ?_; clear hK K)
 refine aw_f (by (first | (simp [eval_tmp, put_at, hi]; done) | (simp [eval_tmp, put_at, hi]; omega))) (by kernel_rfl) ?_
 refine aw_exit ?_
 have hW : o.who = o'.who := list_getD_ext e7 (fun k hk => hpre k (by omega))
 refine aw_seq ?_
 refine aw_seq ?_
 (refine aw_ops (by kernel_rfl) (fun K hK => ?_); simp (disch := first | omega | (simp only [lnS]; try omega)) [-getElem?_pos, -getElem?_neg]; refine hK _ _ ?_; clear hK K)
 refine aw_block ?_
 refine aw_loop (fun c α G => ∃ i : Nat, i + c = o.boxes.length ∧ α 2 = .pointer (some ⟨n, 0, none⟩) ∧ α 3 = .pointer (some ⟨n + 1, 0, none⟩) ∧ α 7 = .int .i64 (i : Nat) ∧ G = G2 ∧ ∀ k, k < i → o.boxes[k]? = o'.boxes[k]?) o.boxes.length ?_ ?_
 ·exact ⟨0, by omega, by (first | (simp [put_at, put_none, fr0_at, q2]; done) | rfl), by (first | (simp [put_at, put_none, fr0_at, q3]; done) | rfl), by (first | (simp [put_at, put_none, fr0_at]; done) | rfl), rfl, fun k hk => by omega⟩
 clear q2 q3 q6
 rintro c α G ⟨i, hic, q2, q3, q7, rfl, hpre⟩
 refine aw_seq ?_
 refine aw_seq ?_
 by_cases hi : i < o.boxes.length
 case pos =>
  obtain ⟨A, hA⟩ : ∃ A, o.boxes[i]? = some A := ⟨_, List.getElem?_eq_getElem hi⟩
  obtain ⟨B, hB⟩ : ∃ B, o'.boxes[i]? = some B := ⟨_, List.getElem?_eq_getElem (by omega)⟩
  obtain ⟨j1, g1, bb1, a1, s2, s3, s4, s5, s6, hC1⟩ := hO.boxes.row_at hw.boxes hA
  obtain ⟨j2, g2, bb2, a2, t2, t3, t4, t5, t6, hC2⟩ := hO'.boxes.row_at hw'.boxes hB
  have r1 := hC1.row
  have r2 := hC2.row
  have hbe := box_eq (a := A) (b := B) (hw.boxes A (List.mem_of_getElem? hA)).pub.1 (hw'.boxes B (List.mem_of_getElem? hB)).pub.1
  have lx : ∀ (j g : Nat) (bb : Blk) (a : List Value), hget G j = some bb → g + 36 ≤ bb.cells.length → a = (bb.cells.drop g).take 36 → xload Try.prog 107 (.pointer (some ⟨j, g, none⟩)) G = some (.agg a.toArray) := fun j g bb a h1 h2 h3 => by
   have h4 : isAggD (und Try.prog 107) = true := by kernel_rfl
   have h5 : szt Try.prog 107 = 36 := by kernel_rfl
   unfold xload
   simp only [h1, h4, h5, if_true]
   rw [if_pos ⟨by omega, h2⟩, h3]
  have l1 := lx j1 g1 bb1 _ s3 s4 s5
  have l2 := lx j2 g2 bb2 _ t3 t4 t5
  rw [r1] at l1
  rw [r2] at l2
  (refine aw_ops (by kernel_rfl) (fun K hK => ?_); simp (disch := first | omega | (simp only [lnS]; try omega)) [-getElem?_pos, -getElem?_neg, q2, q3, q7, b2, b3, hul, hwl, c70, c70', -notTuple, n1, n1', n2, n2', nt_intG, nt_ptrG, -xlen, bl, bl', hi]; refine hK _ _ ?_; clear hK K)
  refine aw_t (by (first | (simp [eval_tmp, put_at, hi]; done) | (simp [eval_tmp, put_at, hi]; omega))) (by kernel_rfl) ?_
  refine aw_skip ?_
  refine aw_seq ?_
  refine aw_block ?_
  refine aw_seq ?_
  generalize boxRow A = RA at *
  generalize boxRow B = RB at *
  by_cases hAB : A = B
  ·rw [decide_eq_true hAB] at hbe
   (refine aw_plan [] [] [0, 1, 2, 3, 4, 5, 6, 7, 8, 9, 10] 11 0 (by kernel_rfl) (by kernel_rfl) (by kernel_rfl) (fun K hK => ?_)); simp only [sel, List.getElem?_cons_succ, List.getElem?_cons_zero, List.drop_succ_cons, List.drop_zero]; simp (disch := first | omega | (simp only [lnS]; try omega)) [-getElem?_pos, -getElem?_neg, q2, q3, q7, -notTuple, n1, n1', n2, n2', nt_intG, nt_ptrG, nt_aggG, -xindexAddr, s2, t2, -xload, x70, x70', l1, l2, -xagg, hbe, PL_nil, plainB_lit, PL_cons, PLc_val, PLc_new, stepP_t, stepP_f, stepPC_n, stepPC_s, stepPX_s, stepPX_n, stepPV_n, stepPV_s, stepPA_t, stepPA_c, stepPA_l, stepPN_s, allocOp, reloc_sl, reloc_ptr, List.map_cons, List.map_nil, List.nil_append, List.append_assoc, List.cons_append, Nat.add_assoc]
   refine hK _ _ ?_; clear hK K
   refine aw_f (by (first | (simp [eval_tmp, put_at]; done) | (simp [eval_tmp, put_at]; omega))) (by kernel_rfl) ?_
   refine aw_skip ?_
   (refine aw_ops (by kernel_rfl) (fun K hK => ?_); simp (disch := first | omega | (simp only [lnS]; try omega)) [-getElem?_pos, -getElem?_neg, q7]; refine hK _ _ ?_; clear hK K)
   refine ⟨c - 1, by omega, i + 1, by omega, by (first | (simp [put_at, put_none, fr0_at, q2]; done) | rfl), by (first | (simp [put_at, put_none, fr0_at, q3]; done) | rfl), by (first | (simp [put_at, put_none, fr0_at]; done) | rfl), rfl, fun k hk => ?_⟩
   by_cases e : k = i
   ·subst e; rw [hA, hB, hAB]
   ·exact hpre k (by omega)
  ·rw [decide_eq_false hAB] at hbe
   (refine aw_plan [] [] [0, 1, 2, 3, 4, 5, 6, 7, 8, 9, 10] 11 0 (by kernel_rfl) (by kernel_rfl) (by kernel_rfl) (fun K hK => ?_)); simp only [sel, List.getElem?_cons_succ, List.getElem?_cons_zero, List.drop_succ_cons, List.drop_zero]; simp (disch := first | omega | (simp only [lnS]; try omega)) [-getElem?_pos, -getElem?_neg, q2, q3, q7, -notTuple, n1, n1', n2, n2', nt_intG, nt_ptrG, nt_aggG, -xindexAddr, s2, t2, -xload, x70, x70', l1, l2, -xagg, hbe, PL_nil, plainB_lit, PL_cons, PLc_val, PLc_new, stepP_t, stepP_f, stepPC_n, stepPC_s, stepPX_s, stepPX_n, stepPV_n, stepPV_s, stepPA_t, stepPA_c, stepPA_l, stepPN_s, allocOp, reloc_sl, reloc_ptr, List.map_cons, List.map_nil, List.nil_append, List.append_assoc, List.cons_append, Nat.add_assoc]
   refine hK _ _ ?_; clear hK K
   refine aw_t (by (first | (simp [eval_tmp, put_at]; done) | (simp [eval_tmp, put_at]; omega))) (by kernel_rfl) ?_
   refine aw_seq ?_
   (refine aw_ops (by kernel_rfl) (fun K hK => ?_); simp (disch := first | omega | (simp only [lnS]; try omega)) [-getElem?_pos, -getElem?_neg]; refine hK _ _ ?_; clear hK K)
   (refine aw_ret ?_; simp (disch := first | omega | (simp only [lnS]; try omega)) [-getElem?_pos, -getElem?_neg, thenQ_ret, scopeQ_ret, inBlockQ_ret, RQ, resL, resV])
   all_goals exact fun hh => hAB (by rw [hh] at hA; rw [hA] at hB; cases hB; rfl)
 (refine aw_ops (by kernel_rfl) (fun K hK => ?_); simp (disch := first | omega | (simp only [lnS]; try omega)) [-getElem?_pos, -getElem?_neg, q2, q3, q7, b2, b3, hul, hwl, c70, c70', -notTuple, n1, n1', n2, n2', nt_intG, nt_ptrG, -xlen, bl, bl', hi]; refine hK _ _ ?_; clear hK K)
 refine aw_f (by (first | (simp [eval_tmp, put_at, hi]; done) | (simp [eval_tmp, put_at, hi]; omega))) (by kernel_rfl) ?_
 refine aw_exit ?_
 have hB : o.boxes = o'.boxes := by
  apply List.ext_getElem?
  intro k
  rcases Nat.lt_or_ge k o.boxes.length with hk | hk
  ·exact hpre k (by omega)
  ·rw [List.getElem?_eq_none hk, List.getElem?_eq_none (by omega)]
 have hfin : o = o' := OpD.ext e0 e1 hP e2 hW e3 e4 e5 hB
 refine aw_seq ?_
 (refine aw_ops (by kernel_rfl) (fun K hK => ?_); simp (disch := first | omega | (simp only [lnS]; try omega)) [-getElem?_pos, -getElem?_neg]; refine hK _ _ ?_; clear hK K)
 (refine aw_ret ?_; simp (disch := first | omega | (simp only [lnS]; try omega)) [-getElem?_pos, -getElem?_neg, thenQ_ret, scopeQ_ret, inBlockQ_ret, RQ, resL, resV])
 all_goals exact hfin
end
section
theorem NdA.row {H : AH} {v : Value} {l : List NodeD} (h : NdA H v l) {i : Nat} (hi : i < l.length) : ∃ j q bb us pv wv bv qv, xindexAddr Try.prog 22 v (.int .i64 (i : Nat)) = some (.pointer (some ⟨j, q, none⟩)) ∧ hget H j = some bb ∧ q + 104 ≤ bb.cells.length ∧ (bb.cells.drop q).take 104 = us ∧ NodeC H us (nd l i) pv wv bv qv := by
 obtain ⟨j, q, bb, us, pv, wv', bv, qv, hx, hbb, hq, hcell, hus, hC⟩ := h.at_ i _ (nd_get hi)
 exact ⟨j, q, bb, us, pv, wv', bv, qv, hx, hbb, hq, hus.symm, hC⟩
end
section
theorem HeldD.ext {x y : HeldD} (h1 : x.id = y.id) (h2 : x.op = y.op) (h3 : x.got = y.got) : x = y := by
 cases x; cases y
 cases h1; cases h2; cases h3
 rfl
noncomputable instance : DecidableEq HeldD := Classical.typeDecidableEq _
theorem helds_ext {l m : List HeldD} (hl : l.length = m.length) (h : ∀ k, k < l.length → hn l k = hn m k) : l = m := by
 apply List.ext_getElem?
 intro k
 rcases Nat.lt_or_ge k l.length with hk | hk
 ·rw [hn_get hk, hn_get (show k < m.length by omega), h k hk]
 ·rw [List.getElem?_eq_none hk, List.getElem?_eq_none (by omega)]
theorem HdA.row {H : AH} {v : Value} {l : List HeldD} (h : HdA H v l) {i : Nat} (hi : i < l.length) : ∃ j q bb us pv wv bv qv, xindexAddr Try.prog 58 v (.int .i64 (i : Nat)) = some (.pointer (some ⟨j, q, none⟩)) ∧ hget H j = some bb ∧ q + 104 ≤ bb.cells.length ∧ (bb.cells.drop q).take 104 = us ∧ HdC H us (hn l i) pv wv bv qv := by
 obtain ⟨j, q, bb, us, pv, wv', bv, qv, hx, hbb, hq, hcell, hus, hC⟩ := h.at_ i _ (hn_get hi)
 exact ⟨j, q, bb, us, pv, wv', bv, qv, hx, hbb, hq, hus.symm, hC⟩
end
section
def Sm6H (l : List HeldD) : Prop := ∀ x ∈ l, x.op.parents.length ≤ 1000000 ∧ x.op.who.length ≤ 1000000 ∧ x.op.boxes.length ≤ 1000000
structure HeldAt (H : AH) (v : Value) (i : Nat) (x : HeldD) (j q : Nat) (bb : Blk) (us : List Value) (qv : Value) : Prop where
 addr : xindexAddr Try.prog 58 v (.int .i64 (i : Nat)) = some (.pointer (some ⟨j, q, none⟩))
 blk : hget H j = some bb
 le : q + 104 ≤ bb.cells.length
 id : (bb.cells.drop q).take 32 = iv .u8 x.id
 op : (bb.cells.drop (q + 32)).take 71 = us
 gt : bb.cells[q + 103]? = some qv
 inv : KsV H qv x.got
theorem HdA.held {H : AH} {v : Value} {l : List HeldD} (h : HdA H v l) {i : Nat} (hi : i < l.length) : ∃ j q bb us pv wv bv qv, HeldAt H v i (hn l i) j q bb us qv ∧ OpC H us (hn l i).op pv wv bv := by
 obtain ⟨j, q, bb, us, pv, wv', bv, qv, hx, hbb, hq, hcell, hus, hC⟩ := h.at_ i _ (hn_get hi)
 refine ⟨j, q, bb, (us.drop 32).take 71, pv, wv', bv, qv, ⟨hx, hbb, hq, ?_, by rw [op_cut, ← hus], (hcell 103 (by omega)).trans hC.c103, hC.got⟩, hC.op⟩
 have := hC.id
 rw [hus, List.take_take] at this
 simpa using this
attribute [local simp] wb_bool wb_undef with_lit XL_nil XL_cons XLc_val XLc_call step1_eq stepW_t stepW_f stepC_n stepC_s stepX_s stepX_n stepN_s calleeX xrecv oneV xop_eq xopR_s xopR_n wantedA_eq wantedG_n wantedG_s plain1_int plain1_bool plain1_string bits_i64 bits_u64 bits_u32 bits_u16 bits_u8 xeqA xagg xcmp xarr allK_iv num_iv calleeOf xread xeff xbin xint xnil xun xstr xload xconv xpart xfield xfieldAddr xindexAddr xindex bnd asInt? xslice xlen xmin xmax xbuild xfill xappend xapp2 xappstr xappmk xcap xcopy xcells eval_tmp eval_const put_at put_none fr0_at cells_agg cells_int cells_bool cells_string cells_ptr cells_slice notTuple tab iv_all hget_app hget_app0 hget_cons0 hget_cons set_app set_app0 setR setR_one QL_nil QL_cons QLc_val stepQ_t stepQ_f stepQC_n stepQC_s stepQX_s SL_nil SL_cons SLc_val stepS_t stepS_f ltT ltF leT leF eqT eqF ltTn ltFn leTn leFn eqTn eqFn beqT beqF bneT bneF wi64 wu64 wu32 wu16 wu8 tmodP tdivP hgetL hgetNe hgetEq setL nums_def nums_len Nat.succ_le_of_lt List.getElem?_cons_zero List.getElem?_cons_succ Option.getD_some Int.toNat_add Int.toNat_mul agM okM agB agI agS agP agL agA okB okI okS okP okSl okA
theorem qrSame_rc {γ : Nat → Option Nat} {H : AH} {u v : Value} {l m : List HeldD} (hU : HdA H u l) (hV : HdA H v m) (sl : Sm6H l) (sm : Sm6H m) (hl : l.length ≤ maxLen) : AC Try.prog H.length γ 46 #[u, v] H (fun v' _ => v' = .bool (decide (l = m))) := by
 have u1 := hU.nt
 have u2 := hU.cs
 have u3 := hU.len
 have v1 := hV.nt
 have v2 := hV.cs
 have v3 := hV.len
 have hm63 : l.length ≤ 9223372036854775807 := by simp only [maxLen] at hl; omega
 refine ac_of_aw Try.func46 rfl Try.ntmps46 Try.results46 (by simp) ?_
 refine aw_seq ?_
 (refine aw_ops (by kernel_rfl) (fun K hK => ?_); simp (disch := first | omega | (simp only [lnS]; try omega)) [-getElem?_pos, -getElem?_neg]; refine hK _ _ ?_; clear hK K)
 refine aw_seq ?_
 refine aw_seq ?_
 by_cases hab : l.length = m.length
 case neg =>
  have hne : ((l.length : Int) == (m.length : Int)) = false := by rw [beq_eq_false_iff_ne]; omega
  have hne2 : ¬ (l.length : Int) = (m.length : Int) := by omega
  (refine aw_ops (by kernel_rfl) (fun K hK => ?_); simp (disch := first | omega | (simp only [lnS]; try omega)) [-getElem?_pos, -getElem?_neg, -notTuple, u1, u2, v1, v2, nt_intG, -xlen, u3, v3, hne, hne2]; refine hK _ _ ?_; clear hK K)
  refine aw_t (by (first | (simp [eval_tmp, put_at]; done) | (simp [eval_tmp, put_at]; omega))) (by kernel_rfl) ?_
  refine aw_seq ?_
  (refine aw_ops (by kernel_rfl) (fun K hK => ?_); simp (disch := first | omega | (simp only [lnS]; try omega)) [-getElem?_pos, -getElem?_neg]; refine hK _ _ ?_; clear hK K)
  (refine aw_ret ?_; simp (disch := first | omega | (simp only [lnS]; try omega)) [-getElem?_pos, -getElem?_neg, thenQ_ret, scopeQ_ret, inBlockQ_ret, RQ, resL, resV])
  all_goals exact fun h => hab (congrArg List.length h)
 have heq : ((l.length : Int) == (m.length : Int)) = true := by rw [beq_iff_eq]; omega
 have heq2 : (l.length : Int) = (m.length : Int) := by omega
 (refine aw_ops (by kernel_rfl) (fun K hK => ?_); simp (disch := first | omega | (simp only [lnS]; try omega)) [-getElem?_pos, -getElem?_neg, -notTuple, u1, u2, v1, v2, nt_intG, -xlen, u3, v3, hab, heq, heq2]; refine hK _ _ ?_; clear hK K)
 refine aw_f (by (first | (simp [eval_tmp, put_at]; done) | (simp [eval_tmp, put_at]; omega))) (by kernel_rfl) ?_
 refine aw_skip ?_
 refine aw_seq ?_
 refine aw_seq ?_
 (refine aw_ops (by kernel_rfl) (fun K hK => ?_); simp (disch := first | omega | (simp only [lnS]; try omega)) [-getElem?_pos, -getElem?_neg]; refine hK _ _ ?_; clear hK K)
 refine aw_block ?_
 refine aw_loop (fun c α G => ∃ i : Nat, i + c = l.length ∧ α 0 = u ∧ α 1 = v ∧ α 5 = .int .i64 (i : Nat) ∧ G = H ∧ ∀ k, k < i → hn l k = hn m k) l.length ?_ ?_
 ·exact ⟨0, by omega, by (first | (simp [put_at, put_none, fr0_at]; done) | rfl), by (first | (simp [put_at, put_none, fr0_at]; done) | rfl), by (first | (simp [put_at, put_none, fr0_at]; done) | rfl), rfl, fun k hk => by omega⟩
 rintro c α G ⟨i, hic, q0, q1, q5, rfl, hpre⟩
 refine aw_seq ?_
 refine aw_seq ?_
 by_cases hi : i < l.length
 case neg =>
  (refine aw_ops (by kernel_rfl) (fun K hK => ?_); simp (disch := first | omega | (simp only [lnS]; try omega)) [-getElem?_pos, -getElem?_neg, q0, q5, -notTuple, u1, u2, nt_intG, -xlen, u3, hi]; refine hK _ _ ?_; clear hK K)
  refine aw_f (by (first | (simp [eval_tmp, put_at, hi]; done) | (simp [eval_tmp, put_at, hi]; omega))) (by kernel_rfl) ?_
  refine aw_exit ?_
  refine aw_seq ?_
  (refine aw_ops (by kernel_rfl) (fun K hK => ?_); simp (disch := first | omega | (simp only [lnS]; try omega)) [-getElem?_pos, -getElem?_neg]; refine hK _ _ ?_; clear hK K)
  (refine aw_ret ?_; simp (disch := first | omega | (simp only [lnS]; try omega)) [-getElem?_pos, -getElem?_neg, thenQ_ret, scopeQ_ret, inBlockQ_ret, RQ, resL, resV])
  all_goals exact helds_ext hab (fun k hk => hpre k (by omega))
 obtain ⟨j, q, bb, us, pv, wv', bv, qv, hn1, hO1⟩ := hU.held hi
 obtain ⟨j', q', bb', us', pv', wv'', bv', qv', hn2, hO2⟩ := hV.held (show i < m.length by omega)
 have xw := hU.wf _ (List.mem_of_getElem? (hn_get hi))
 have yw := hV.wf _ (List.mem_of_getElem? (hn_get (show i < m.length by omega)))
 obtain ⟨a1, a2, a3, a4, a5, a6, a7⟩ := hn1
 obtain ⟨d1, d2, d3, d4, d5, d6, d7⟩ := hn2
 have n1 := val_nt a7
 have n2 := val_nt d7
 have la : (iv .u8 (hn l i).id).length = 32 := by rw [iv_length, xw.id.1]
 have ld : (iv .u8 (hn m i).id).length = 32 := by rw [iv_length, yw.id.1]
 have hol := hO1.len
 have hol' := hO2.len
 (refine aw_ops (by kernel_rfl) (fun K hK => ?_); simp (disch := first | omega | (simp only [lnS]; try omega)) [-getElem?_pos, -getElem?_neg, q0, q5, -notTuple, u1, u2, nt_intG, -xlen, u3, hi]; refine hK _ _ ?_; clear hK K)
 refine aw_t (by (first | (simp [eval_tmp, put_at, hi]; done) | (simp [eval_tmp, put_at, hi]; omega))) (by kernel_rfl) ?_
 refine aw_skip ?_
 refine aw_seq ?_
 refine aw_block ?_
 refine aw_seq ?_
 refine aw_cut (fun α G2 => α 55 = .bool (!decide (hn l i = hn m i)) ∧ α 0 = u ∧ α 1 = v ∧ α 5 = .int .i64 (i : Nat) ∧ G2 = G) ?_ ?_
 ·by_cases e1 : (hn l i).id = (hn m i).id
  case neg =>
   have k1 : ((hn l i).id == (hn m i).id) = false := by rw [beq_eq_false_iff_ne]; exact e1
   have hd : decide (hn l i = hn m i) = false := decide_eq_false (fun hh => e1 (by rw [hh]))
   (refine aw_plan [] [] [0, 1, 2, 3, 4, 5, 6, 7, 8, 9, 10, 11, 12, 13, 14, 15, 16, 17, 18, 19, 20, 21, 22, 23, 24, 25, 26, 27, 28, 29, 30, 31, 32, 33, 34, 35, 36, 37, 38] 39 0 (by kernel_rfl) (by kernel_rfl) (by kernel_rfl) (fun K hK => ?_)); simp only [sel, List.getElem?_cons_succ, List.getElem?_cons_zero, List.drop_succ_cons, List.drop_zero]; simp (disch := first | omega | (simp only [lnS]; try omega)) [-getElem?_pos, -getElem?_neg, q0, q1, q5, -notTuple, u1, u2, v1, v2, n1.1, n1.2, n2.1, n2.2, nt_intG, nt_ptrG, nt_aggG, -xindexAddr, a1, d1, a2, d2, a4, d4, a5, d5, a6, d6, la, ld, k1, PL_nil, plainB_lit, PL_cons, PLc_val, PLc_new, stepP_t, stepP_f, stepPC_n, stepPC_s, stepPX_s, stepPX_n, stepPV_n, stepPV_s, stepPA_t, stepPA_c, stepPA_l, stepPN_s, allocOp, reloc_sl, reloc_ptr, List.map_cons, List.map_nil, List.nil_append, List.append_assoc, List.cons_append, Nat.add_assoc]
   refine hK _ _ ?_; clear hK K
   exact ⟨by rw [hd]; (first | (simp [put_at, put_none, fr0_at]; done) | rfl), by (first | (simp [put_at, put_none, fr0_at, q0]; done) | rfl), by (first | (simp [put_at, put_none, fr0_at, q1]; done) | rfl), by (first | (simp [put_at, put_none, fr0_at, q5]; done) | rfl), rfl⟩
  have k1 : ((hn l i).id == (hn m i).id) = true := by rw [beq_iff_eq]; exact e1
  (refine aw_plan [] [] [0, 1, 2, 3, 4, 5, 6, 7, 8, 9, 10, 11, 12, 13, 14, 15, 16, 17, 18, 19, 20, 21, 22, 23, 24, 25, 26, 27, 28, 29, 30, 31, 32, 33, 34, 35, 36, 37, 38] 39 0 (by kernel_rfl) (by kernel_rfl) (by kernel_rfl) (fun K hK => ?_)); simp only [sel, List.getElem?_cons_succ, List.getElem?_cons_zero, List.drop_succ_cons, List.drop_zero]; simp (disch := first | omega | (simp only [lnS]; try omega)) [-getElem?_pos, -getElem?_neg, q0, q1, q5, -notTuple, u1, u2, v1, v2, n1.1, n1.2, n2.1, n2.2, nt_intG, nt_ptrG, nt_aggG, -xindexAddr, a1, d1, a2, d2, a4, d4, a5, d5, a6, d6, la, ld, k1, PL_nil, plainB_lit, PL_cons, PLc_val, PLc_new, stepP_t, stepP_f, stepPC_n, stepPC_s, stepPX_s, stepPX_n, stepPV_n, stepPV_s, stepPA_t, stepPA_c, stepPA_l, stepPN_s, allocOp, reloc_sl, reloc_ptr, List.map_cons, List.map_nil, List.nil_append, List.append_assoc, List.cons_append, Nat.add_assoc]
  refine PLc_call (v := .bool (decide ((hn l i).op = (hn m i).op))) (by kernel_rfl) (fun L hL => sameOp_rc (hO1.low (fun j hj => hget_left hj)) (hO2.low (fun j hj => hget_left hj)) xw.op yw.op (sl _ (List.mem_of_getElem? (hn_get hi)))) (by simp [pv_iv, pv_int, pv_bool, pv_string, pv_tup2, pv_tup3, iv_plain, p2_int, p2_bool, p2_string]) ?_
  by_cases e3 : (hn l i).op = (hn m i).op
  case neg =>
   have hd : decide (hn l i = hn m i) = false := decide_eq_false (fun hh => e3 (by rw [hh]))
   simp (disch := first | omega | (simp only [lnS]; try omega)) [-getElem?_pos, -getElem?_neg, e3, PL_nil, plainB_lit, PL_cons, PLc_val, PLc_new, stepP_t, stepP_f, stepPC_n, stepPC_s, stepPX_s, stepPX_n, stepPV_n, stepPV_s, stepPA_t, stepPA_c, stepPA_l, stepPN_s, allocOp, reloc_sl, reloc_ptr, List.map_cons, List.map_nil, List.nil_append, List.append_assoc, List.cons_append, Nat.add_assoc]
   refine hK _ _ ?_; clear hK K
   exact ⟨by rw [hd]; (first | (simp [put_at, put_none, fr0_at]; done) | rfl), by (first | (simp [put_at, put_none, fr0_at, q0]; done) | rfl), by (first | (simp [put_at, put_none, fr0_at, q1]; done) | rfl), by (first | (simp [put_at, put_none, fr0_at, q5]; done) | rfl), rfl⟩
  simp (disch := first | omega | (simp only [lnS]; try omega)) [-getElem?_pos, -getElem?_neg, e3, q0, q1, q5, -notTuple, u1, u2, v1, v2, n1.1, n1.2, n2.1, n2.2, nt_intG, nt_ptrG, nt_aggG, -xindexAddr, a1, d1, a2, d2, a6, d6, PL_nil, plainB_lit, PL_cons, PLc_val, PLc_new, stepP_t, stepP_f, stepPC_n, stepPC_s, stepPX_s, stepPX_n, stepPV_n, stepPV_s, stepPA_t, stepPA_c, stepPA_l, stepPN_s, allocOp, reloc_sl, reloc_ptr, List.map_cons, List.map_nil, List.nil_append, List.append_assoc, List.cons_append, Nat.add_assoc]
  refine PLc_call (v := .bool (decide ((hn l i).got = (hn m i).got))) (by kernel_rfl) (fun L hL => sameKeys_rc (CD.Val.low (fun j hj => hget_left hj) a7) (CD.Val.low (fun j hj => hget_left hj) d7) (fun k hk => (xw.got k hk).1) (fun k hk => (yw.got k hk).1) xw.glen) (by simp [pv_iv, pv_int, pv_bool, pv_string, pv_tup2, pv_tup3, iv_plain, p2_int, p2_bool, p2_string]) ?_
  by_cases e2 : (hn l i).got = (hn m i).got
  case neg =>
   have hd : decide (hn l i = hn m i) = false := decide_eq_false (fun hh => e2 (by rw [hh]))
   simp (disch := first | omega | (simp only [lnS]; try omega)) [-getElem?_pos, -getElem?_neg, e2, PL_nil, plainB_lit, PL_cons, PLc_val, PLc_new, stepP_t, stepP_f, stepPC_n, stepPC_s, stepPX_s, stepPX_n, stepPV_n, stepPV_s, stepPA_t, stepPA_c, stepPA_l, stepPN_s, allocOp, reloc_sl, reloc_ptr, List.map_cons, List.map_nil, List.nil_append, List.append_assoc, List.cons_append, Nat.add_assoc]
   refine hK _ _ ?_; clear hK K
   exact ⟨by rw [hd]; (first | (simp [put_at, put_none, fr0_at]; done) | rfl), by (first | (simp [put_at, put_none, fr0_at, q0]; done) | rfl), by (first | (simp [put_at, put_none, fr0_at, q1]; done) | rfl), by (first | (simp [put_at, put_none, fr0_at, q5]; done) | rfl), rfl⟩
  have hd : decide (hn l i = hn m i) = true := decide_eq_true (HeldD.ext e1 e3 e2)
  simp (disch := first | omega | (simp only [lnS]; try omega)) [-getElem?_pos, -getElem?_neg, e2, PL_nil, plainB_lit, PL_cons, PLc_val, PLc_new, stepP_t, stepP_f, stepPC_n, stepPC_s, stepPX_s, stepPX_n, stepPV_n, stepPV_s, stepPA_t, stepPA_c, stepPA_l, stepPN_s, allocOp, reloc_sl, reloc_ptr, List.map_cons, List.map_nil, List.nil_append, List.append_assoc, List.cons_append, Nat.add_assoc]
  refine hK _ _ ?_; clear hK K
  exact ⟨by rw [hd]; (first | (simp [put_at, put_none, fr0_at]; done) | rfl), by (first | (simp [put_at, put_none, fr0_at, q0]; done) | rfl), by (first | (simp [put_at, put_none, fr0_at, q1]; done) | rfl), by (first | (simp [put_at, put_none, fr0_at, q5]; done) | rfl), rfl⟩
 clear q0 q1 q5
 rintro α G2 ⟨q55, q0, q1, q5, rfl⟩
 by_cases hd : hn l i = hn m i
 ·rw [decide_eq_true hd] at q55
  refine aw_f (by (first | (simp [eval_tmp, put_at, q55]; done) | (simp [eval_tmp, put_at, q55]; omega))) (by kernel_rfl) ?_
  refine aw_skip ?_
  (refine aw_ops (by kernel_rfl) (fun K hK => ?_); simp (disch := first | omega | (simp only [lnS]; try omega)) [-getElem?_pos, -getElem?_neg, q5]; refine hK _ _ ?_; clear hK K)
  refine ⟨c - 1, by omega, i + 1, by omega, by (first | (simp [put_at, put_none, fr0_at, q0]; done) | rfl), by (first | (simp [put_at, put_none, fr0_at, q1]; done) | rfl), by (first | (simp [put_at, put_none, fr0_at]; done) | rfl), rfl, fun k hk => ?_⟩
  by_cases e : k = i
  ·subst e; exact hd
  ·exact hpre k (by omega)
 ·rw [decide_eq_false hd] at q55
  refine aw_t (by (first | (simp [eval_tmp, put_at, q55]; done) | (simp [eval_tmp, put_at, q55]; omega))) (by kernel_rfl) ?_
  refine aw_seq ?_
  (refine aw_ops (by kernel_rfl) (fun K hK => ?_); simp (disch := first | omega | (simp only [lnS]; try omega)) [-getElem?_pos, -getElem?_neg]; refine hK _ _ ?_; clear hK K)
  (refine aw_ret ?_; simp (disch := first | omega | (simp only [lnS]; try omega)) [-getElem?_pos, -getElem?_neg, thenQ_ret, scopeQ_ret, inBlockQ_ret, RQ, resL, resV])
  all_goals exact fun hh => hd (by rw [hh])
end
end Go.Proofs.Ytdeccbjdhcifiaa
