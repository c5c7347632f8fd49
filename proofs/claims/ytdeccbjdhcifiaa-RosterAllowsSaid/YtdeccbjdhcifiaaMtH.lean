/-
  The roster hangs on the set alone: the same nodes in another order have the same roster; nodes that neither admit nor remove turn nothing.
  GraphShuffled: the law, walked.
  RosterStill: the law, walked.
  RosterShuffled: the law, walked.
  RosterAllows, the program's parts: isRight, wasThere.
  RosterAllows, the program: allowed, Allowed.
  RosterAllows, the program: Allowed, To.
  RosterAllows, the reference: Behind.
  RosterAllows, the reference: To.
  RosterAllows: the law, walked.
-/
import Derived.Test.YtdeccbjdhcifiaaMtG
import Derived.Test.YtdeccbjdhcifiaaMtE
namespace Go.Proofs.Ytdeccbjdhcifiaa
open Go Go.RowKit
set_option linter.unusedSimpArgs false
set_option linter.unusedVariables false
set_option maxRecDepth 100000
set_option maxHeartbeats 4000000
section
section
variable {l m : List NodeD}
theorem rightG_takeO (h : rightG l = true) (k : Nat) : rightG (l.take k) = true := by
 have hl := rightG_len h
 unfold rightG
 rw [Bool.and_eq_true, decide_eq_true_eq, List.all_eq_true]
 refine ⟨by rw [List.length_take]; omega, fun i hi => ?_⟩
 rw [List.mem_range, List.length_take] at hi
 have hs := step_iff.1 (right_step h (i := i) (by omega))
 have hc : ∀ a, a < i → nd (l.take k) a = nd l a := fun a ha => nd_take (by omega)
 have hi2 : nd (l.take k) i = nd l i := nd_take (by omega)
 refine step_iff.2 ?_
 rw [hi2, find_congr hc, pastL_congr hc, turnB_congr hc]
 obtain ⟨h1, h2, h3, h4, h5⟩ := hs
 refine ⟨?_, h2, h3, h4, h5⟩
 rw [List.all_eq_true] at h1 ⊢
 intro p hp
 rw [find_congr hc]
 exact h1 p hp
theorem Sub.next (h : Sub l m) (hid : ∀ k, k < m.length → (nd m k).id = (nd l k).id) (hlt : m.length < l.length) (h40 : l.length ≤ 90) : addE m (nd l m.length).id (nd l m.length).op = 0 := by
 have hs : Sub (l.take (m.length + 1)) m := ⟨rightG_takeO h.left _, h.right, fun j hj => ⟨j, by rw [List.length_take]; omega, by rw [nd_take (by omega)]; exact hid j hj, by rw [nd_take (by omega)]; exact h.op (by omega) hj (hid j hj)⟩⟩
 obtain ⟨i, hi, h0⟩ := hs.more (by rw [List.length_take]; omega) (by rw [List.length_take]; omega)
 rw [List.length_take] at hi
 rw [nd_take (by omega)] at h0
 rcases Nat.lt_or_ge i m.length with hlt' | hge
 ·exact absurd (hid i hlt') (findN_none (add_facts h0).2.2.1 hlt')
 ·obtain rfl : i = m.length := by omega
  exact h0
def Sm (l m : List NodeD) (i j : Nat) : Prop := i < l.length ∧ j < m.length ∧ (nd m j).id = (nd l i).id
structure Cor (l m : List NodeD) (S T : List Int) : Prop where
 to : ∀ z ∈ S, ∃ i j : Nat, z = i ∧ Sm l m i j ∧ (j : Int) ∈ T
 fro : ∀ z ∈ T, ∃ i j : Nat, z = j ∧ Sm l m i j ∧ (i : Int) ∈ S
theorem Cor.any {S T : List Int} (h : Cor l m S T) (f g : Nat → Bool) (hfg : ∀ i j, Sm l m i j → (i : Int) ∈ S → (j : Int) ∈ T → f i = g j) : (S.any fun a => f a.toNat) = T.any fun a => g a.toNat := by
 rw [Bool.eq_iff_iff, List.any_eq_true, List.any_eq_true]
 constructor
 ·rintro ⟨z, hz, hf⟩
  obtain ⟨i, j, rfl, h1, h2⟩ := h.to z hz
  rw [Int.toNat_natCast] at hf
  exact ⟨j, h2, by rw [Int.toNat_natCast, ← hfg i j h1 hz h2]; exact hf⟩
 ·rintro ⟨z, hz, hf⟩
  obtain ⟨i, j, rfl, h1, h2⟩ := h.fro z hz
  rw [Int.toNat_natCast] at hf
  exact ⟨i, h2, by rw [Int.toNat_natCast, hfg i j h1 h2 hz]; exact hf⟩
theorem Cor.ros {S T : List Int} (h : Cor l m S T) (hs : Sub l m) {c d : List Bool} (hc : ∀ i j, Sm l m i j → (i : Int) ∈ S → c.getD i false = d.getD j false) (w : Int) : rosB l c S w = rosB m d T w := by
 have hrem : ∀ i j, Sm l m i j → (i : Int) ∈ S → ∀ v, remB l c i v = remB m d j v := fun i j e hi v => by
  unfold remB
  rw [hc i j e hi, hs.op e.1 e.2.1 e.2.2]
 have hah : ∀ a a' b b', Sm l m a a' → Sm l m b b' → ahB l a b = ahB m a' b' := fun a a' b b' ea eb => by
  unfold ahB
  rw [Bool.eq_iff_iff, decide_eq_true_eq, decide_eq_true_eq]
  exact (hs.past b' eb.2.1 b a' a eb.1 eb.2.2 ea.2.1 ea.1 ea.2.2).symm
 have hbes : ∀ a a', Sm l m a a' → besB l c S a = besB m d T a' := fun a a' ea => by
  unfold besB
  refine h.any (fun r => remB l c r (nd l a).op.author && (!ahB l r a && !ahB l a r)) (fun r => remB m d r (nd m a').op.author && (!ahB m r a' && !ahB m a' r)) fun i j e hi hj => ?_
  show (remB l c i (nd l a).op.author && (!ahB l i a && !ahB l a i)) = (remB m d j (nd m a').op.author && (!ahB m j a' && !ahB m a' j))
  rw [hrem i j e hi, hah i j a a' e ea, hah a a' i j ea e, hs.op ea.1 ea.2.1 ea.2.2]
 unfold rosB
 refine h.any (fun a => admB l c S a w && !(S.any fun r => remB l c r.toNat w && !ahB l r.toNat a)) (fun a => admB m d T a w && !(T.any fun r => remB m d r.toNat w && !ahB m r.toNat a)) fun a a' ea ha ha' => ?_
 show (admB l c S a w && !(S.any fun r => remB l c r.toNat w && !ahB l r.toNat a)) = (admB m d T a' w && !(T.any fun r => remB m d r.toNat w && !ahB m r.toNat a'))
 have h1 : (S.any fun r => remB l c r.toNat w && !ahB l r.toNat a) = T.any fun r => remB m d r.toNat w && !ahB m r.toNat a' := by
  refine h.any (fun r => remB l c r w && !ahB l r a) (fun r => remB m d r w && !ahB m r a') fun i j e hi hj => ?_
  show (remB l c i w && !ahB l i a) = (remB m d j w && !ahB m j a')
  rw [hrem i j e hi, hah i j a a' e ea]
 rw [h1]
 unfold admB
 rw [hc a a' ea ha, hbes a a' ea, hs.op ea.1 ea.2.1 ea.2.2]
theorem Sub.corPast (hs : Sub l m) {i j : Nat} (e : Sm l m i j) : Cor l m (nd l i).past (nd m j).past := by
 refine ⟨fun z hz => ?_, fun z hz => ?_⟩
 ·obtain ⟨k, rfl, hk⟩ := past_bd hs.left e.1 hz
  obtain ⟨j', hj', e'⟩ := hs.closed j e.2.1 i k e.1 e.2.2 hz
  exact ⟨k, j', rfl, ⟨by have := e.1; omega, hj', e'⟩, (hs.past j e.2.1 i j' k e.1 e.2.2 hj' (by have := e.1; omega) e').2 hz⟩
 ·obtain ⟨k, rfl, hk⟩ := past_bd hs.right e.2.1 hz
  have hkm : k < m.length := by have := e.2.1; omega
  obtain ⟨i', hi', e', _⟩ := hs.at_ k hkm
  exact ⟨i', k, rfl, ⟨hi', hkm, e'⟩, (hs.past j e.2.1 i k i' e.1 e.2.2 hkm hi' e').1 hz⟩
theorem Sub.cnts (hs : Sub l m) : ∀ i j, Sm l m i j → (cntsB l).getD i false = (cntsB m).getD j false := by
 intro i
 induction i using Nat.strongRecOn with
 | ind i ih =>
  intro j e
  rw [cnts_at hs.left e.1, cnts_at hs.right e.2.1, hs.op e.1 e.2.1 e.2.2, (hs.corPast e).ros hs (c := cntsB l) (d := cntsB m) (fun a b eab ha => by
   obtain ⟨k, ek, hk⟩ := past_bd hs.left e.1 ha
   exact ih a (by omega) b eab)]
theorem Sub.allR (hs : Sub l m) (he : m.length = l.length) : allR l = allR m := by
 unfold Go.Proofs.Ytdeccbjdhcifiaa.allR
 rw [hs.left, hs.right, if_pos rfl, if_pos rfl]
 congr 1
 funext w
 refine Cor.ros ⟨fun z hz => ?_, fun z hz => ?_⟩ hs (fun i j e _ => hs.cnts i j e) w
 ·obtain ⟨h1, h2⟩ := mem_rgZ.1 hz
  obtain ⟨j, hj, e⟩ := hs.all he z.toNat (by omega)
  exact ⟨z.toNat, j, by omega, ⟨by omega, hj, e⟩, mem_rgZ.2 (by omega)⟩
 ·obtain ⟨h1, h2⟩ := mem_rgZ.1 hz
  obtain ⟨i, hi, e, _⟩ := hs.at_ z.toNat (by omega)
  exact ⟨i, z.toNat, by omega, ⟨hi, by omega, e⟩, mem_rgZ.2 (by omega)⟩
theorem ros_drop {c : List Bool} {S : List Int} {a : Nat} (hk : 4 ≤ (nd l a).op.kind) (w : Int) : rosB l c (S ++ [(a : Int)]) w = rosB l c S w := by
 have hrem : ∀ v, remB l c a v = false := fun v => by
  unfold remB
  rw [decide_eq_false (by omega), Bool.false_and]
 have hbes : ∀ b, besB l c (S ++ [(a : Int)]) b = besB l c S b := fun b => by
  unfold besB
  rw [List.any_append]
  simp [hrem]
 have hadm : ∀ b v, admB l c (S ++ [(a : Int)]) b v = admB l c S b v := fun b v => by
  unfold admB
  rw [hbes]
 have hno : ∀ T v, admB l c T a v = false := fun T v => by
  unfold admB
  rw [decide_eq_false (show ¬ (nd l a).op.kind = 1 by omega), decide_eq_false (show ¬ (nd l a).op.kind = 2 by omega)]
  simp
 unfold rosB
 rw [List.any_append]
 simp [hrem, hadm, hno]
theorem still {x : NodeD} (h : rightG (m ++ [x]) = true) (hm : rightG m = true) (hk : 4 ≤ x.op.kind) : allR (m ++ [x]) = allR m := by
 have hs : Sub (m ++ [x]) m := ⟨h, hm, fun j hj => ⟨j, by simp; omega, by rw [nd_push hj], by rw [nd_push hj]⟩⟩
 unfold allR
 rw [h, hm, if_pos rfl, if_pos rfl]
 congr 1
 funext w
 rw [List.length_append, List.length_singleton, rgZ_succ, ros_drop (by rw [nd_last]; exact hk)]
 refine Cor.ros ⟨fun z hz => ?_, fun z hz => ?_⟩ hs (fun i j e _ => hs.cnts i j e) w
 ·obtain ⟨h1, h2⟩ := mem_rgZ.1 hz
  exact ⟨z.toNat, z.toNat, by omega, ⟨by simp; omega, by omega, by rw [nd_push (by omega)]⟩, mem_rgZ.2 (by omega)⟩
 ·obtain ⟨h1, h2⟩ := mem_rgZ.1 hz
  exact ⟨z.toNat, z.toNat, by omega, ⟨by simp; omega, by omega, by rw [nd_push (by omega)]⟩, mem_rgZ.2 (by omega)⟩
end
end
section
structure Took (n : Nat) (H : AH) (l : List NodeD) (G : AH) (mv : Value) (m : List NodeD) : Prop where
 low : Low n H G
 nda : NdA G mv m
 sub : Sub l m
theorem Took.keep {n : Nat} {H G K : AH} {l m : List NodeD} {mv : Value} (h : Took n H l G mv m) (hk : Low G.length G K) : Took n H l K mv m :=
 ⟨⟨fun j hj => (hk.1 j (by have := h.low.2; omega)).trans (h.low.1 j hj), by have := h.low.2; have := hk.2; omega⟩, h.nda.lowG hk, h.sub⟩
end
section
def lsV (n : Nat) : Value := .agg #[.func (.func 119) #[] #[.pointer (some ⟨n, 0, none⟩)]]
def wasB (l : List NodeD) (a : Nat) (w : Int) : Bool := (decide ((nd l a).op.kind = 1) || decide ((nd l a).op.kind = 2)) && decide (w ∈ (nd l a).op.who)
theorem addE_nil (id : List Int) (o : OpD) : addE [] id o = 1 ↔ rightO o = false := by
 unfold addE
 have h1 : rightG [] = true := rfl
 rw [h1, if_neg (by simp)]
 cases rightO o with
 | false => simp
 | true =>
  rw [if_neg (by simp)]
  constructor
  ·intro h
   exfalso
   revert h
   split
   ·decide
   ·split
    ·decide
    ·split
     ·decide
     ·split <;> decide
  ·intro h; cases h
theorem build_key0 : xbuild Try.prog 38 [] = some (.agg (iv .u8 (List.replicate 32 0)).toArray) := by kernel_rfl
theorem key0_ok : Key32 (List.replicate 32 0) := ⟨rfl, fun z hz => by rw [List.eq_of_mem_replicate hz]; simp⟩
attribute [local simp] wb_bool wb_undef with_lit XL_nil XL_cons XLc_val XLc_call step1_eq stepW_t stepW_f stepC_n stepC_s stepX_s stepX_n stepN_s calleeX oneV xop_eq xopR_s xopR_n wantedA_eq wantedG_n wantedG_s plain1_int plain1_bool plain1_string bits_i64 bits_u64 bits_u32 bits_u16 bits_u8 xeqA xagg xcmp xarr allK_iv num_iv calleeOf xread xeff xbin xint xnil xun xstr xload xconv xpart xfield xfieldAddr xindexAddr xindex bnd asInt? xslice xlen xmin xmax xbuild xfill xappend xapp2 xappstr xappmk xcap xcopy xcells eval_tmp eval_const put_at put_none fr0_at cells_agg cells_int cells_bool cells_string cells_ptr cells_slice notTuple tab iv_all hget_app hget_app0 hget_cons0 hget_cons set_app set_app0 setR setR_one QL_nil QL_cons QLc_val stepQ_t stepQ_f stepQC_n stepQC_s stepQX_s SL_nil SL_cons SLc_val stepS_t stepS_f ltT ltF leT leF eqT eqF ltTn ltFn leTn leFn eqTn eqFn beqT beqF bneT bneF wi64 wu64 wu32 wu16 wu8 tmodP tdivP hgetL hgetNe hgetEq setL nums_def nums_len Nat.succ_le_of_lt List.getElem?_cons_zero List.getElem?_cons_succ Option.getD_some Int.toNat_add Int.toNat_mul agM okM agB agI agS agP agL agA okB okI okS okP okSl okA
theorem listedX_ac {γ : Nat → Option Nat} {nro : Nat} {H : AH} {lv : Value} {L : List Int} (hL : InV H lv L) (hm : L.length ≤ maxLen) (hnro : nro ≤ H.length) : AC Try.prog nro γ 71 #[lv] H (fun v' H' => v' = lsV H.length ∧ Low H.length H H' ∧ hget H' H.length = some ⟨[lv], 23, none⟩) := by
 have v1 := hL.acc.nt
 have v2 := hL.acc.cs
 refine ac_of_aw Try.func71 rfl Try.ntmps71 Try.results71 (by simp) ?_
 refine aw_seq ?_
 (refine aw_ops (by kernel_rfl) (fun K hK => ?_); simp (disch := first | omega | (simp only [lnS]; try omega)) [-getElem?_pos, -getElem?_neg, -notTuple, v1, v2]; refine hK _ _ ?_; clear hK K)
 refine aw_seq ?_
 (refine aw_ops (by kernel_rfl) (fun K hK => ?_); simp (disch := first | omega | (simp only [lnS]; try omega)) [-getElem?_pos, -getElem?_neg, -notTuple, v1, v2, pl_nilF, nt_fn, cs_fn]; refine hK _ _ ?_; clear hK K)
 (refine aw_ret ?_; simp (disch := first | omega | (simp only [lnS]; try omega)) [-getElem?_pos, -getElem?_neg, thenQ_ret, scopeQ_ret, inBlockQ_ret, RQ, resL, resV])
 exact ⟨rfl, Low.push (Nat.le_refl _) _⟩
theorem ls_fun {γ : Nat → Option Nat} {K : AH} {lv : Value} {L : List Int} {p : Nat} (hp : hget K p = some ⟨[lv], 23, none⟩) (hL : InV K lv L) (hm : L.length ≤ maxLen) : Fun1 γ K 119 #[.pointer (some ⟨p, 0, none⟩)] fun z => decide (z ∈ L) :=
 ⟨l1f_callable, fun G z hg => listed1_rc ((hg.1 _ (hget_lt hp)).trans hp) (hL.lowG hg) hm z⟩
theorem isRight_ac {γ : Nat → Option Nat} {nro : Nat} {H : AH} {us : List Value} {o : OpD} {pv wv bv : Value} (hO : OpC H us o pv wv bv) (hw : o.Wf) (hnro : nro ≤ H.length) : AC Try.prog nro γ 116 #[.agg us.toArray] H (fun v' H' => Low H.length H H' ∧ v' = .bool (rightO o)) := by
 have hul := hO.len
 have hset : ∀ Z : List Value, Z.length = 71 → setR Z 0 us = us := fun Z hZ => setR_all _ _ (by omega)
 have htu : us.take 71 = us := List.take_of_length_le (by omega)
 have hp0 : plain1 (.slice none 0 0) = true := rfl
 have k0 := build_key0
 have hivl : (iv .u8 (List.replicate 32 0)).length = 32 := by rw [iv_length, List.length_replicate]
 refine ac_of_aw Try.func116 rfl Try.ntmps116 Try.results116 (by simp) ?_
 refine aw_seq ?_
 (refine aw_ops (by kernel_rfl) (fun K hK => ?_); simp (disch := first | omega | (simp only [lnS]; try omega)) [-getElem?_pos, -getElem?_neg, hul, nt_aggG, hp0, all_zl, hset, htu]; refine hK _ _ ?_; clear hK K)
 obtain ⟨lw, b1⟩ := boxed (H := H) us 41
 obtain ⟨n, hn⟩ : ∃ n, n = H.length := ⟨_, rfl⟩
 rw [← hn] at b1 ⊢
 generalize H ++ [some ⟨us, 41, none⟩] = G at *
 have hle := lw.2
 have hadd := (add_rc (γ := γ) (nil_nda G) key0_ok (hO.low lw.1) hw).thaw (nro := nro) addQ_thaw
 refine aw_seq ?_
 refine aw_ops (by kernel_rfl) (fun K hK => ?_)
 simp (disch := first | omega | (simp only [lnS]; try omega)) [-getElem?_pos, -getElem?_neg, b1, hul, htu, -xbuild, k0, hivl, nt_aggG, nt_slG]
 refine ⟨by kernel_rfl, hadd.mono ?_⟩
 rintro v G2 ⟨low2, sv, rfl, h⟩
 have hsv : notTuple sv = true ∧ sv.cells = #[sv] := by
  rcases h with ⟨_, h⟩ | ⟨_, rfl⟩
  ·exact h.sh
  ·exact ⟨rfl, rfl⟩
 obtain ⟨s1, s2⟩ := hsv
 have ha := addE_nil (List.replicate 32 0) o
 generalize addE [] (List.replicate 32 0) o = z at *
 simp (disch := first | omega | (simp only [lnS]; try omega)) [-getElem?_pos, -getElem?_neg, -notTuple, s1, s2, nt_intG]
 refine hK _ _ ?_; clear hK K
 refine aw_seq ?_
 cases hr : rightO o with
 | false =>
  obtain rfl := ha.2 hr
  (refine aw_ops (by kernel_rfl) (fun K hK => ?_); simp (disch := first | omega | (simp only [lnS]; try omega)) [-getElem?_pos, -getElem?_neg]; refine hK _ _ ?_; clear hK K)
  (refine aw_ret ?_; simp (disch := first | omega | (simp only [lnS]; try omega)) [-getElem?_pos, -getElem?_neg, thenQ_ret, scopeQ_ret, inBlockQ_ret, RQ, resL, resV, hr])
  exact hn ▸ lw.both low2
 | true =>
  have hz : ¬ z = 1 := fun e => by rw [ha.1 e] at hr; cases hr
  have hzb : (z == 1) = false := by simp [hz]
  (refine aw_ops (by kernel_rfl) (fun K hK => ?_); simp (disch := first | omega | (simp only [lnS]; try omega)) [-getElem?_pos, -getElem?_neg, hz, hzb]; refine hK _ _ ?_; clear hK K)
  (refine aw_ret ?_; simp (disch := first | omega | (simp only [lnS]; try omega)) [-getElem?_pos, -getElem?_neg, thenQ_ret, scopeQ_ret, inBlockQ_ret, RQ, resL, resV, hr, hz, hzb])
  exact hn ▸ lw.both low2
theorem was1_rc {γ : Nat → Option Nat} {H : AH} {nv : Value} {l : List NodeD} {p1 p2 : Nat} {w : Int} (hN : NdA H nv l) (h1 : hget H p1 = some ⟨[nv], 22, none⟩) (h2 : hget H p2 = some ⟨[.int .i64 w], 3, none⟩) {a : Nat} (ha : a < l.length) :
  AC Try.prog H.length γ 147 #[.int .i64 (a : Nat), .pointer (some ⟨p1, 0, none⟩), .pointer (some ⟨p2, 0, none⟩)] H (fun v' _ => v' = .bool (wasB l a w)) := by
 have hnt := hN.nt
 have hvc := hN.cs
 obtain ⟨j, q, bb, u7, pv, wv, bv, hx, hb, hq, hcut, hu7, hO, hW⟩ := hN.op_at (Low.refl (Nat.le_refl _)) ha
 have hset : ∀ Z : List Value, Z.length = 71 → setR Z 0 u7 = u7 := fun Z hZ => setR_all _ _ (by omega)
 have hp0 : plain1 (.slice none 0 0) = true := rfl
 refine ac_of_aw Try.func147 rfl Try.ntmps147 Try.results147 (by simp) ?_
 refine aw_seq ?_
 (refine aw_ops (by kernel_rfl) (fun K hK => ?_); simp (disch := first | omega | (simp only [lnS]; try omega)) [-getElem?_pos, -getElem?_neg]; refine hK _ _ ?_; clear hK K)
 refine aw_seq ?_
 (refine aw_ops (by kernel_rfl) (fun K hK => ?_); simp (disch := first | omega | (simp only [lnS]; try omega)) [-getElem?_pos, -getElem?_neg, h1, -notTuple, hnt, hvc, nt_intG, nt_aggG, -xindexAddr, hx, hb, hcut, hu7, hp0, all_zl, hset]; refine hK _ _ ?_; clear hK K)
 obtain ⟨lw2, b7⟩ := boxed (H := H) u7 41
 obtain ⟨m, hm⟩ : ∃ m, m = H.length := ⟨_, rfl⟩
 have g2 := hget_lt h2
 have h2 := (lw2.1 _ g2).trans h2
 have hO := hO.low lw2.1
 have hmp : p2 < m := by omega
 rw [← hm] at b7 ⊢
 generalize H ++ [some ⟨u7, 41, none⟩] = G2 at *
 have hle := lw2.2
 have o3 := hO.c3
 have o4 := hO.c4
 have w1 := hO.who.acc.nt
 have w2 := hO.who.acc.cs
 have hli := listedX_ac (γ := γ) (nro := m) hO.who hW.wlen (by omega)
 have hd : wasB l a w = ((decide ((nd l a).op.kind = 1) || decide ((nd l a).op.kind = 2)) && decide (w ∈ (nd l a).op.who)) := rfl
 rw [hd]
 have hwl := hW.wlen
 have hwho := hO.who
 generalize (nd l a).op = op at *
 clear hO hW hd
 have hgm := hget_lt b7
 have hg2 := hget_lt h2
 refine aw_seq ?_
 refine aw_cut (fun α _ => α 4 = .bool ((decide (op.kind = 1) || decide (op.kind = 2)) && decide (w ∈ op.who)) ∧ True) ?_ ?_
 ·by_cases hno : ¬ op.kind = 1 ∧ ¬ op.kind = 2
  ·obtain ⟨k1, k2⟩ := hno
   have k1b : (op.kind == 1) = false := by simp [k1]
   have k2b : (op.kind == 2) = false := by simp [k2]
   (refine aw_plan [] [] [0, 1, 2, 3, 4, 5, 6, 7, 8, 9, 10, 11, 12, 13, 14, 15, 16] 17 0 (by kernel_rfl) (by kernel_rfl) (by kernel_rfl) (fun K hK => ?_)); simp only [sel, List.getElem?_cons_succ, List.getElem?_cons_zero, List.drop_succ_cons, List.drop_zero]; simp (disch := first | omega | (simp only [lnS]; try omega)) [-getElem?_pos, -getElem?_neg, b7, o3, hu7, k1, k1b, k2, k2b, PL_nil, plainB_lit, PL_cons, PLc_val, PLc_new, stepP_t, stepP_f, stepPC_n, stepPC_s, stepPX_s, stepPX_n, stepPV_n, stepPV_s, stepPA_t, stepPA_c, stepPA_l, stepPN_s, allocOp, reloc_sl, reloc_ptr, List.map_cons, List.map_nil, List.nil_append, List.append_assoc, List.cons_append, Nat.add_assoc]
   refine hK _ _ ?_; clear hK K
   exact ⟨by (first | (simp [put_at, put_none, fr0_at, k1, k2]; done) | rfl), trivial⟩
  have hyes : (decide (op.kind = 1) || decide (op.kind = 2)) = true := by
   by_cases e : op.kind = 1
   ·simp [e]
   ·by_cases e2 : op.kind = 2
    ·simp [e2]
    ·exact absurd ⟨e, e2⟩ hno
  rw [hyes, Bool.true_and]
  obtain ⟨Φ, e0, e1, e2, eS⟩ : ∃ Φ : Nat → AH → Prop, (∀ A, Φ 0 A ↔ A = G2) ∧ (∀ A, Φ 1 A ↔ (Low G2.length G2 A ∧ hget A G2.length = some ⟨[wv], 23, none⟩)) ∧ (∀ A, Φ 2 A ↔ (Low G2.length G2 A ∧ hget A G2.length = some ⟨[wv], 23, none⟩)) ∧ (∀ s A, Φ s A → Low G2.length G2 A) := by
   refine ⟨fun s A => match s with
    | 0 => A = G2
    | 1 => Low G2.length G2 A ∧ hget A G2.length = some ⟨[wv], 23, none⟩
    | _ => Low G2.length G2 A ∧ hget A G2.length = some ⟨[wv], 23, none⟩, fun _ => Iff.rfl, fun _ => Iff.rfl, fun _ => Iff.rfl, fun s A h =>
   match s, h with
   | 0, h => by cases h; exact Low.refl (Nat.le_refl _)
   | 1, h => h.1
   | s + 2, h => h.1⟩
  have hlv : lsV G2.length = .agg #[.func (.func 119) #[] #[.pointer (some ⟨G2.length, 0, none⟩)]] := rfl
  refine aw_chain (fun j => j == m || j == p2) Φ (by kernel_rfl) (by kernel_rfl) (by kernel_rfl) (fun s A h j hj => by
   have e : j = m ∨ j = p2 := by simpa using hj
   rcases e with rfl | rfl
   ·exact (eS s A h).1 _ hgm
   ·exact (eS s A h).1 _ hg2) ((e0 _).2 rfl) (fun K hK => ?_)
  have hkc : ∃ b : Bool, (op.kind == 1) = b ∧ (b = false → op.kind = 2) := ⟨op.kind == 1, rfl, fun h => by
   have h1 : ¬ op.kind = 1 := by simpa using h
   refine Classical.byContradiction fun h2 => hno ⟨h1, h2⟩⟩
  by_cases k1 : op.kind = 1
  ·have k1b : (op.kind == 1) = true := by simp [k1]
   simp (disch := first | omega | (simp only [lnS]; try omega)) [-getElem?_pos, -getElem?_neg, b7, h2, o3, o4, hu7, k1, k1b, -notTuple, w1, w2, nt_intG, nt_boolG, nt_slG, nt_ptrG, nt_aggG, CL_nil, CL_cons, CLc_val, CLc_skip, memS, inS, inSp, isCallH, isCallU, isCallF, calleeH_f, calleeH_t, effF]
   refine CLc_call (v := lsV G2.length) (by kernel_rfl) (fun A hA => ?_) ?_
   ·obtain rfl := (e0 _).1 hA
    exact hli.mono fun v' A' h => ⟨h.1, (e1 _).2 h.2⟩
   try simp (disch := first | omega | (simp only [lnS]; try omega)) [-getElem?_pos, -getElem?_neg, b7, h2, hlv, -notTuple, nt_fn, cs_fn, nt_intG, nt_slG, nt_ptrG, nt_aggG, CL_nil, CL_cons, CLc_val, CLc_skip, memS, inS, inSp, isCallH, isCallU, isCallF, calleeH_f, calleeH_t, effF]
   refine CLc_call (v := .bool (decide (w ∈ op.who))) (by kernel_rfl) (fun A hA => ?_) ?_
   ·have hA2 := (e1 _).1 hA
    exact ac_of_rc ((ls_fun (γ := γ) hA2.2 (hwho.lowG hA2.1) hwl).2 A w (Low.refl (Nat.le_refl _))) (by simp [pv_iv, pv_int, pv_bool, pv_string, pv_tup2, pv_tup3, iv_plain, p2_int, p2_bool, p2_string]) ⟨rfl, (e2 _).2 hA2⟩
   try simp (disch := first | omega | (simp only [lnS]; try omega)) [-getElem?_pos, -getElem?_neg, CL_nil, CL_cons, CLc_val, CLc_skip, memS, inS, inSp, isCallH, isCallU, isCallF, calleeH_f, calleeH_t, effF]
   intro A hA
   refine hK _ _ ?_; clear hK K
   exact ⟨by (first | (simp [put_at, put_none, fr0_at]; done) | rfl), trivial⟩
  ·have k1b : (op.kind == 1) = false := by simp [k1]
   have k2 : op.kind = 2 := by
    refine Classical.byContradiction fun h2 => hno ⟨k1, h2⟩
   have k2b : (op.kind == 2) = true := by simp [k2]
   simp (disch := first | omega | (simp only [lnS]; try omega)) [-getElem?_pos, -getElem?_neg, b7, h2, o3, o4, hu7, k1, k1b, k2, k2b, -notTuple, w1, w2, nt_intG, nt_boolG, nt_slG, nt_ptrG, nt_aggG, CL_nil, CL_cons, CLc_val, CLc_skip, memS, inS, inSp, isCallH, isCallU, isCallF, calleeH_f, calleeH_t, effF]
   refine CLc_call (v := lsV G2.length) (by kernel_rfl) (fun A hA => ?_) ?_
   ·obtain rfl := (e0 _).1 hA
    exact hli.mono fun v' A' h => ⟨h.1, (e1 _).2 h.2⟩
   try simp (disch := first | omega | (simp only [lnS]; try omega)) [-getElem?_pos, -getElem?_neg, b7, h2, hlv, -notTuple, nt_fn, cs_fn, nt_intG, nt_slG, nt_ptrG, nt_aggG, CL_nil, CL_cons, CLc_val, CLc_skip, memS, inS, inSp, isCallH, isCallU, isCallF, calleeH_f, calleeH_t, effF]
   refine CLc_call (v := .bool (decide (w ∈ op.who))) (by kernel_rfl) (fun A hA => ?_) ?_
   ·have hA2 := (e1 _).1 hA
    exact ac_of_rc ((ls_fun (γ := γ) hA2.2 (hwho.lowG hA2.1) hwl).2 A w (Low.refl (Nat.le_refl _))) (by simp [pv_iv, pv_int, pv_bool, pv_string, pv_tup2, pv_tup3, iv_plain, p2_int, p2_bool, p2_string]) ⟨rfl, (e2 _).2 hA2⟩
   try simp (disch := first | omega | (simp only [lnS]; try omega)) [-getElem?_pos, -getElem?_neg, CL_nil, CL_cons, CLc_val, CLc_skip, memS, inS, inSp, isCallH, isCallU, isCallF, calleeH_f, calleeH_t, effF]
   intro A hA
   refine hK _ _ ?_; clear hK K
   exact ⟨by (first | (simp [put_at, put_none, fr0_at]; done) | rfl), trivial⟩
 rintro α _ ⟨q4, _⟩
 (refine aw_ret ?_; simp (disch := first | omega | (simp only [lnS]; try omega)) [-getElem?_pos, -getElem?_neg, thenQ_ret, scopeQ_ret, inBlockQ_ret, RQ, resL, resV, q4])
theorem was1_callable : callable Try.prog 147 = true := by kernel_rfl
theorem was_rc {γ : Nat → Option Nat} {H : AH} {nv sv : Value} {l : List NodeD} {S : List Int} (hN : NdA H nv l) (hS : InV H sv S) (hSl : S.length ≤ maxLen) (hP : Plc l S) (w : Int) : AC Try.prog H.length γ 118 #[nv, sv, .int .i64 w] H (fun v' _ => v' = .bool (S.any fun a => wasB l a.toNat w)) := by
 have hnt := hN.nt
 have hvc := hN.cs
 have s1 := hS.acc.nt
 have s2 := hS.acc.cs
 refine ac_of_aw Try.func118 rfl Try.ntmps118 Try.results118 (by simp) ?_
 refine aw_seq ?_
 (refine aw_ops (by kernel_rfl) (fun K hK => ?_); simp (disch := first | omega | (simp only [lnS]; try omega)) [-getElem?_pos, -getElem?_neg, -notTuple, hnt, hvc, nt_intG]; refine hK _ _ ?_; clear hK K)
 obtain ⟨n, hn⟩ : ∃ n, n = H.length := ⟨_, rfl⟩
 obtain ⟨G, hG⟩ : ∃ G : AH, G = H ++ [some ⟨[nv], 22, none⟩, some ⟨[.int .i64 w], 3, none⟩] := ⟨_, rfl⟩
 have b1 : hget G n = some ⟨[nv], 22, none⟩ := by rw [hG, hn, hget_app0]; rfl
 have b2 : hget G (n + 1) = some ⟨[.int .i64 w], 3, none⟩ := by rw [hG, hn, hget_app]; rfl
 have lw : Low H.length H G := by rw [hG]; exact Low.push (Nat.le_refl _) _
 rw [← hG, ← hn]
 clear hG
 have k2 := anyI_rc (γ := γ) (hS.lowG lw) hSl (f := 147) (cs := #[.pointer (some ⟨n, 0, none⟩), .pointer (some ⟨n + 1, 0, none⟩)]) (P := fun a => wasB l a.toNat w) was1_callable (fun G4 z h4 hz => by
  obtain ⟨r, rfl, hr⟩ := hP z hz
  exact was1_rc (γ := γ) (hN.lowG (lw.both h4)) ((h4.1 _ (hget_lt b1)).trans b1) ((h4.1 _ (hget_lt b2)).trans b2) hr)
 generalize (S.any fun a => wasB l a.toNat w) = E at *
 refine aw_seq ?_
 refine aw_ops (by kernel_rfl) (fun K hK => ?_)
 simp (disch := first | omega | (simp only [lnS]; try omega)) [-getElem?_pos, -getElem?_neg, -notTuple, s1, s2, nt_fn, cs_fn]
 refine ⟨by kernel_rfl, ac_of_rc k2 (by simp [pv_iv, pv_int, pv_bool, pv_string, pv_tup2, pv_tup3, iv_plain, p2_int, p2_bool, p2_string]) ?_⟩
 try simp (disch := first | omega | (simp only [lnS]; try omega)) [-getElem?_pos, -getElem?_neg]
 refine hK _ _ ?_; clear hK K
 (refine aw_ret ?_; simp (disch := first | omega | (simp only [lnS]; try omega)) [-getElem?_pos, -getElem?_neg, thenQ_ret, scopeQ_ret, inBlockQ_ret, RQ, resL, resV])
end
section
def behR (l : List NodeD) (o : OpD) : Int → Bool := rosB l (cntsB l) (pastL l l.length o.parents)
def alwE (l : List NodeD) (o : OpD) : Int :=
 if (rightG l && rightO o) = false then 1 else if o.parents.all (fun p => (findN l l.length p).isSome) = false then 14 else if o.kind = 1 then 0 else if behR l o o.author = false then 16 else if o.kind = 2 ∧ (pastL l l.length o.parents).any (fun a => wasB l a.toNat (o.who.getD 0 0)) = true then 13 else if o.kind = 3 ∧ behR l o (o.who.getD 0 0) = false then 22 else 0
def alwR (l : List NodeD) (o : OpD) : Int → Bool := if alwE l o = 0 ∧ o.kind ≠ 1 then behR l o else fun _ => false
def AlwQ (γ : Nat → Option Nat) (l : List NodeD) (o : OpD) (H : AH) (v' : Value) (H' : AH) : Prop :=
 Low H.length H H' ∧ ∃ f cs, v' = .tuple #[.agg #[.func (.func f) #[] cs], .int .i64 (alwE l o)] ∧ Fun1 γ H' f cs (alwR l o)
theorem plc_past (l : List NodeD) (ps : List (List Int)) : Plc l (pastL l l.length ps) := fun z hz => by
 obtain ⟨k, e, hk, _⟩ := pastL_bd hz
 exact ⟨k, e, hk⟩
attribute [local simp] wb_bool wb_undef with_lit XL_nil XL_cons XLc_val XLc_call step1_eq stepW_t stepW_f stepC_n stepC_s stepX_s stepX_n stepN_s calleeX oneV xop_eq xopR_s xopR_n wantedA_eq wantedG_n wantedG_s plain1_int plain1_bool plain1_string bits_i64 bits_u64 bits_u32 bits_u16 bits_u8 xeqA xagg xcmp xarr allK_iv num_iv calleeOf xread xeff xbin xint xnil xun xstr xload xconv xpart xfield xfieldAddr xindexAddr xindex bnd asInt? xslice xlen xmin xmax xbuild xfill xappend xapp2 xappstr xappmk xcap xcopy xcells eval_tmp eval_const put_at put_none fr0_at cells_agg cells_int cells_bool cells_string cells_ptr cells_slice notTuple tab iv_all hget_app hget_app0 hget_cons0 hget_cons set_app set_app0 setR setR_one QL_nil QL_cons QLc_val stepQ_t stepQ_f stepQC_n stepQC_s stepQX_s SL_nil SL_cons SLc_val stepS_t stepS_f ltT ltF leT leF eqT eqF ltTn ltFn leTn leFn eqTn eqFn beqT beqF bneT bneF wi64 wu64 wu32 wu16 wu8 tmodP tdivP hgetL hgetNe hgetEq setL nums_def nums_len Nat.succ_le_of_lt List.getElem?_cons_zero List.getElem?_cons_succ Option.getD_some Int.toNat_add Int.toNat_mul agM okM agB agI agS agP agL agA okB okI okS okP okSl okA
theorem vrosterX_ac {γ : Nat → Option Nat} {nro : Nat} {H : AH} {nv cv sv : Value} {l : List NodeD} {c : List Bool} {S : List Int} (hV : VwA H nv cv l c) (hS : InV H sv S) (hnro : nro ≤ H.length) :
  AC Try.prog nro γ 63 #[.agg #[nv, cv], sv] H (fun v' H' => v' = rosV H.length ∧ Low H.length H H' ∧ hget H' H.length = some ⟨[nv, cv], 95, none⟩ ∧ hget H' (H.length + 1) = some ⟨[sv], 23, none⟩) := by
 have s1 := hS.acc.nt
 have s2 := hS.acc.cs
 have n1 := hV.nodes.nt
 have n2 := hV.nodes.cs
 have c1 := hV.counts.nt
 have c2 := hV.counts.cs
 refine ac_of_aw Try.func63 rfl Try.ntmps63 Try.results63 (by simp) ?_
 refine aw_seq ?_
 (refine aw_ops (by kernel_rfl) (fun K hK => ?_); simp (disch := first | omega | (simp only [lnS]; try omega)) [-getElem?_pos, -getElem?_neg, -notTuple, s1, s2, n1, n2, c1, c2, nt_aggG]; refine hK _ _ ?_; clear hK K)
 refine aw_seq ?_
 (refine aw_ops (by kernel_rfl) (fun K hK => ?_); simp (disch := first | omega | (simp only [lnS]; try omega)) [-getElem?_pos, -getElem?_neg, -notTuple, pl_nilF, nt_fn, cs_fn, nt_aggG]; refine hK _ _ ?_; clear hK K)
 (refine aw_ret ?_; simp (disch := first | omega | (simp only [lnS]; try omega)) [-getElem?_pos, -getElem?_neg, thenQ_ret, scopeQ_ret, inBlockQ_ret, RQ, resL, resV])
 exact ⟨rfl, Low.push (Nat.le_refl _) _⟩
theorem ros_fun {γ : Nat → Option Nat} {K : AH} {nv cv sv : Value} {l : List NodeD} {c : List Bool} {S : List Int} {p : Nat} (h1 : hget K (p + 1) = some ⟨[sv], 23, none⟩) (h2 : hget K p = some ⟨[nv, cv], 95, none⟩) (hV : VwA K nv cv l c) (hS : InV K sv S) (hSl : S.length ≤ maxLen) (hP : Plc l S) : Fun1 γ K 105 #[.pointer (some ⟨p + 1, 0, none⟩), .pointer (some ⟨p, 0, none⟩)] (rosB l c S) :=
 ⟨ros1_callable, fun G z hg => ros1_rc (hV.low hg) (hS.lowG hg) hSl hP ((hg.1 _ (hget_lt h1)).trans h1) ((hg.1 _ (hget_lt h2)).trans h2) z⟩
theorem none_fun {γ : Nat → Option Nat} {K : AH} {p : Nat} (h : hget K p = some ⟨[.slice none 0 0], 23, none⟩) : Fun1 γ K 119 #[.pointer (some ⟨p, 0, none⟩)] fun _ => false := by
 have := ls_fun (γ := γ) (L := []) h (nil3 K).2.1 (by simp)
 have e : (fun z : Int => decide (z ∈ ([] : List Int))) = fun _ => false := by funext z; simp
 rwa [e] at this
theorem allowed_ac {γ : Nat → Option Nat} {nro : Nat} {H : AH} {nv : Value} {us : List Value} {l : List NodeD} {o : OpD} {pv wv bv : Value} (hN : NdA H nv l) (hO : OpC H us o pv wv bv) (hw : o.Wf) (hnro : nro ≤ H.length) : AC Try.prog nro γ 70 #[nv, .agg us.toArray] H (AlwQ γ l o H) := by
 have hnt := hN.nt
 have hvc := hN.cs
 have hul := hO.len
 have hset : ∀ Z : List Value, Z.length = 71 → setR Z 0 us = us := fun Z hZ => setR_all _ _ (by omega)
 have htu : us.take 71 = us := List.take_of_length_le (by omega)
 have hp0 : plain1 (.slice none 0 0) = true := rfl
 obtain ⟨n, hn⟩ : ∃ n, n = H.length := ⟨_, rfl⟩
 refine ac_of_aw Try.func70 rfl Try.ntmps70 Try.results70 (by simp) ?_
 refine aw_seq ?_
 (refine aw_ops (by kernel_rfl) (fun K hK => ?_); simp (disch := first | omega | (simp only [lnS]; try omega)) [-getElem?_pos, -getElem?_neg, -notTuple, hnt, hvc, hul, nt_aggG, hp0, all_zl, hset, htu, pl_nilF]; refine hK _ _ ?_; clear hK K)
 obtain ⟨G, hG⟩ : ∃ G : AH, G = H ++ [some ⟨us, 41, none⟩, some ⟨[.nilFunc], 93, none⟩] := ⟨_, rfl⟩
 have b3 : hget G n = some ⟨us, 41, none⟩ := by rw [hG, hn, hget_app0]; rfl
 have b4 : hget G (n + 1) = some ⟨[.nilFunc], 93, none⟩ := by rw [hG, hn, hget_app]; rfl
 have lw : Low n H G := by rw [hG, hn]; exact Low.push (Nat.le_refl _) _
 have hGl : G.length = n + 2 := by rw [hG, hn]; simp
 rw [← hG, ← hn]
 clear hG
 rw [← hn] at hnro
 refine aw_seq ?_
 refine aw_ops (by kernel_rfl) (fun K hK => ?_)
 simp (disch := first | omega | (simp only [lnS]; try omega)) [-getElem?_pos, -getElem?_neg, nt_slG]
 refine ⟨by kernel_rfl, (listedX_ac (γ := γ) (nro := nro) (nil3 G).2.1 (by simp) (by omega)).mono ?_⟩
 rintro v G1 ⟨rfl, lw1, b5⟩
 have hle1 := lw1.2
 have hlv : lsV G.length = .agg #[.func (.func 119) #[] #[.pointer (some ⟨n + 2, 0, none⟩)]] := by rw [← hGl]; rfl
 rw [hGl] at b5
 simp (disch := first | omega | (simp only [lnS]; try omega)) [-getElem?_pos, -getElem?_neg, hlv, nt_aggG, nt_fn, cs_fn, pl_nilF]
 refine hK _ _ ?_; clear hK K
 obtain ⟨fn, hfn⟩ : ∃ fn : Value, fn = .func (.func 119) #[] #[.pointer (some ⟨n + 2, 0, none⟩)] := ⟨_, rfl⟩
 have hf1 : notTuple fn = true := by rw [hfn]; rfl
 have hf2 : fn.cells = #[fn] := by rw [hfn]; rfl
 rw [← hfn]
 obtain ⟨lw2, b6⟩ := boxed (H := G1) [fn] 93
 obtain ⟨g6, hg6⟩ : ∃ g, g = G1.length := ⟨_, rfl⟩
 have lw12 := lw1.both lw2
 have hle2 := lw2.2
 have b3 := (lw12.1 _ (hget_lt b3)).trans b3
 have b4 := (lw12.1 _ (hget_lt b4)).trans b4
 have h56 := hget_lt b5
 have b5 := (lw2.1 _ h56).trans b5
 rw [← hg6] at b6 ⊢
 have low2 : Low n H (G1 ++ [some ⟨[fn], 93, none⟩]) := ⟨fun j hj => (lw12.1 j (by omega)).trans (lw.1 j hj), by have := lw12.2; omega⟩
 clear hlv lw1 lw12 lw2
 generalize G1 ++ [some ⟨[fn], 93, none⟩] = G2 at *
 have h6 := hget_lt b6
 have fin0 : ∀ (K : AH) (e : Int), Low n H K → hget K (n + 2) = some ⟨[.slice none 0 0], 23, none⟩ → alwE l o = e → (e ≠ 0 ∨ o.kind = 1) → AlwQ γ l o H (.tuple #[.agg #[fn], .int .i64 e]) K := fun K e hK h5 he hor => by
  refine ⟨hn ▸ hK, _, _, by rw [hfn, he], ?_⟩
  have hr : alwR l o = fun _ => false := by
   unfold alwR
   rw [he, if_neg (fun h => hor.elim (fun h' => h' h.1) (fun h' => h.2 h'))]
  rw [hr]
  exact none_fun h5
 have hO2 : OpC G2 us o pv wv bv := hO.low (fun j hj => low2.1 j (by omega))
 have gr := graph_right_rc (γ := γ) (hN.lowG (hn ▸ low2))
 have ir := isRight_ac (γ := γ) (nro := nro) hO2 hw (by omega)
 refine aw_seq ?_
 refine aw_seq ?_
 refine aw_cut (fun α G3 => α 18 = .bool (!(rightG l && rightO o)) ∧ α 0 = nv ∧ α 3 = .pointer (some ⟨n, 0, none⟩) ∧ α 4 = .pointer (some ⟨n + 1, 0, none⟩) ∧ α 6 = .pointer (some ⟨g6, 0, none⟩) ∧ Low G2.length G2 G3) ?_ ?_
 ·refine aw_ops (by kernel_rfl) (fun K hK => ?_)
  simp (disch := first | omega | (simp only [lnS]; try omega)) [-getElem?_pos, -getElem?_neg, -notTuple, hnt, hvc, nt_intG]
  refine ⟨by kernel_rfl, ac_of_rc gr (by simp [pv_iv, pv_int, pv_bool, pv_string, pv_tup2, pv_tup3, iv_plain, p2_int, p2_bool, p2_string]) ?_⟩
  cases h3 : rightG l with
  | false =>
   try simp (disch := first | omega | (simp only [lnS]; try omega)) [-getElem?_pos, -getElem?_neg]
   refine hK _ _ ?_; clear hK K
   exact ⟨by rw [h3]; (first | (simp [put_at, put_none, fr0_at]; done) | rfl), by (first | (simp [put_at, put_none, fr0_at]; done) | rfl), by (first | (simp [put_at, put_none, fr0_at]; done) | rfl), by (first | (simp [put_at, put_none, fr0_at]; done) | rfl), by (first | (simp [put_at, put_none, fr0_at]; done) | rfl), Low.refl (Nat.le_refl _)⟩
  | true =>
   simp (disch := first | omega | (simp only [lnS]; try omega)) [-getElem?_pos, -getElem?_neg, b3, hul, htu, nt_aggG, nt_intG]
   refine ⟨by kernel_rfl, ir.mono ?_⟩
   rintro v G3 ⟨lw3, rfl⟩
   try simp (disch := first | omega | (simp only [lnS]; try omega)) [-getElem?_pos, -getElem?_neg]
   refine hK _ _ ?_; clear hK K
   exact ⟨by rw [h3]; (first | (simp [put_at, put_none, fr0_at]; done) | rfl), by (first | (simp [put_at, put_none, fr0_at]; done) | rfl), by (first | (simp [put_at, put_none, fr0_at]; done) | rfl), by (first | (simp [put_at, put_none, fr0_at]; done) | rfl), by (first | (simp [put_at, put_none, fr0_at]; done) | rfl), lw3⟩
 rintro α G3 ⟨q18, q0, q3, q4, q6, lw3⟩
 have hle3 := lw3.2
 have b3 := (lw3.1 _ (hget_lt b3)).trans b3
 have b4 := (lw3.1 _ (hget_lt b4)).trans b4
 have b5 := (lw3.1 _ (hget_lt b5)).trans b5
 have b6 := (lw3.1 _ h6).trans b6
 have low3 : Low n H G3 := ⟨fun j hj => (lw3.1 j (by have := low2.2; omega)).trans (low2.1 j hj), by have := low2.2; omega⟩
 have h6 := hget_lt b6
 have hsetK : ∀ (K : AH) (x : Option Blk), Low n H K → hget K (n + 2) = some ⟨[.slice none 0 0], 23, none⟩ → Low n H (K.set (n + 1) x) ∧ hget (K.set (n + 1) x) (n + 2) = some ⟨[.slice none 0 0], 23, none⟩ := fun K x hl h => ⟨⟨fun j hj => (hget_set_ne (by omega)).trans (hl.1 j hj), by rw [List.length_set]; exact hl.2⟩, (hget_set_ne (by omega)).trans h⟩
 cases hb : (rightG l && rightO o) with
 | false =>
  rw [hb] at q18
  refine aw_t (by (first | (simp [eval_tmp, put_at, q18]; done) | (simp [eval_tmp, put_at, q18]; omega))) (by kernel_rfl) ?_
  refine aw_seq ?_
  (refine aw_ops (by kernel_rfl) (fun K hK => ?_); simp (disch := first | omega | (simp only [lnS]; try omega)) [-getElem?_pos, -getElem?_neg, q4, q6, b4, b6, hf1, hf2, nt_aggG, -notTuple]; refine hK _ _ ?_; clear hK K)
  (refine aw_ret ?_; simp (disch := first | omega | (simp only [lnS]; try omega)) [-getElem?_pos, -getElem?_neg, thenQ_ret, scopeQ_ret, inBlockQ_ret, RQ, resL, resV, q4, b4])
  obtain ⟨k1, k2⟩ := hsetK G3 (some ⟨[fn], 93, none⟩) low3 b5
  exact fin0 _ 1 k1 k2 (by unfold alwE; rw [hb, if_pos rfl]) (.inl (by decide))
 | true =>
 rw [hb] at q18
 refine aw_f (by (first | (simp [eval_tmp, put_at, q18]; done) | (simp [eval_tmp, put_at, q18]; omega))) (by kernel_rfl) ?_
 refine aw_skip ?_
 obtain ⟨h3, hro⟩ := Bool.and_eq_true_iff.1 hb
 have hO3 : OpC G3 us o pv wv bv := hO.low (fun j hj => low3.1 j (by omega))
 have o0 := hO.c0
 have o2 := hO.c2
 have o3 := hO.c3
 have o4 := hO.c4
 have hpar := hO3.parents.acc (fun k hk => (hw.parents k hk).1)
 have p1 := hpar.nt
 have p2 := hpar.cs
 have w1 := hO.who.acc.nt
 have w2 := hO.who.acc.cs
 have rp := (pastE_rc (γ := γ) (hN.lowG (hn ▸ low3)) hO3.parents (fun k hk => (hw.parents k hk).1) hw.plen).thaw (nro := nro) (fun v G' h => by
  rcases h with ⟨_, h, _⟩ | ⟨_, rfl, _⟩
  ·exact ⟨h.2, h.1⟩
  ·exact ⟨Nat.le_refl _, fun j hj => rfl⟩)
 refine aw_seq ?_
 refine aw_ops (by kernel_rfl) (fun K hK => ?_)
 simp (disch := first | omega | (simp only [lnS]; try omega)) [-getElem?_pos, -getElem?_neg, q0, q3, b3, o2, hul, -notTuple, hnt, hvc, p1, p2, nt_aggG, nt_intG]
 refine ⟨by kernel_rfl, rp.mono ?_⟩
 rintro v G4 (⟨_, lw4, ⟨hall, sv, F, rfl, hown, hF⟩ | ⟨hall, rfl⟩⟩ | ⟨hbad, _, _⟩)
 rotate_left
 ·have hle4 := lw4.2
  have b4 := (lw4.1 _ (hget_lt b4)).trans b4
  have b5 := (lw4.1 _ (hget_lt b5)).trans b5
  have b6 := (lw4.1 _ h6).trans b6
  have low4 : Low n H G4 := ⟨fun j hj => (lw4.1 j (by have := low3.2; omega)).trans (low3.1 j hj), by have := low3.2; omega⟩
  simp (disch := first | omega | (simp only [lnS]; try omega)) [-getElem?_pos, -getElem?_neg, nt_slG, nt_intG]
  refine hK _ _ ?_; clear hK K
  refine aw_seq ?_
  refine aw_seq ?_
  (refine aw_ops (by kernel_rfl) (fun K hK => ?_); simp (disch := first | omega | (simp only [lnS]; try omega)) [-getElem?_pos, -getElem?_neg]; refine hK _ _ ?_; clear hK K)
  refine aw_t (by (first | (simp [eval_tmp, put_at]; done) | (simp [eval_tmp, put_at]; omega))) (by kernel_rfl) ?_
  refine aw_seq ?_
  (refine aw_ops (by kernel_rfl) (fun K hK => ?_); simp (disch := first | omega | (simp only [lnS]; try omega)) [-getElem?_pos, -getElem?_neg, q4, q6, b4, b6, hf1, hf2, nt_aggG, nt_intG, -notTuple]; refine hK _ _ ?_; clear hK K)
  (refine aw_ret ?_; simp (disch := first | omega | (simp only [lnS]; try omega)) [-getElem?_pos, -getElem?_neg, thenQ_ret, scopeQ_ret, inBlockQ_ret, RQ, resL, resV, q4, b4])
  obtain ⟨k1, k2⟩ := hsetK G4 (some ⟨[fn], 93, none⟩) low4 b5
  exact fin0 _ 14 k1 k2 (by unfold alwE; rw [hb, if_neg (by simp), hall, if_pos rfl]) (.inl (by decide))
 ·rw [h3] at hbad; cases hbad
 obtain ⟨S, hS⟩ : ∃ S, S = pastL l l.length o.parents := ⟨_, rfl⟩
 rw [← hS] at hown
 have hSl : S.length ≤ maxLen := by
  have h1 := pastL_length l l.length o.parents
  have h2 := rightG_len h3
  rw [hS]; simp only [maxLen]; omega
 have hSP : Plc l S := hS ▸ plc_past l o.parents
 have hle4 := lw4.2
 have b3 := (lw4.1 _ (hget_lt b3)).trans b3
 have b4 := (lw4.1 _ (hget_lt b4)).trans b4
 have b5 := (lw4.1 _ (hget_lt b5)).trans b5
 have b6 := (lw4.1 _ h6).trans b6
 have low4 : Low n H G4 := ⟨fun j hj => (lw4.1 j (by have := low3.2; omega)).trans (low3.1 j hj), by have := low3.2; omega⟩
 have h6 := hget_lt b6
 obtain ⟨s1, s2⟩ := own_nt hown
 simp (disch := first | omega | (simp only [lnS]; try omega)) [-getElem?_pos, -getElem?_neg, -notTuple, s1, s2, nt_intG]
 refine hK _ _ ?_; clear hK K
 refine aw_seq ?_
 refine aw_seq ?_
 (refine aw_ops (by kernel_rfl) (fun K hK => ?_); simp (disch := first | omega | (simp only [lnS]; try omega)) [-getElem?_pos, -getElem?_neg]; refine hK _ _ ?_; clear hK K)
 refine aw_f (by (first | (simp [eval_tmp, put_at]; done) | (simp [eval_tmp, put_at]; omega))) (by kernel_rfl) ?_
 refine aw_skip ?_
 refine aw_seq ?_
 refine aw_ops (by kernel_rfl) (fun K hK => ?_)
 simp (disch := first | omega | (simp only [lnS]; try omega)) [-getElem?_pos, -getElem?_neg, q0, -notTuple, hnt, hvc, nt_intG]
 refine ⟨by kernel_rfl, (look2_ac (γ := γ) (nro := nro) (hN.lowG (hn ▸ low4)) h3 (by omega)).mono ?_⟩
 rintro v G5 ⟨lw5, rfl, c5⟩
 have hle5 := lw5.2
 have low5 : Low n H G5 := ⟨fun j hj => (lw5.1 j (by have := low4.2; omega)).trans (low4.1 j hj), by have := low4.2; omega⟩
 try simp (disch := first | omega | (simp only [lnS]; try omega)) [-getElem?_pos, -getElem?_neg, -notTuple, s1, s2, nt_aggG, nt_intG]
 refine ⟨by kernel_rfl, (vrosterX_ac (γ := γ) (nro := nro) (vw_at (hN.lowG (hn ▸ low5)) h3 c5) (own_inv (hown.low (fun j hj => lw5.1 j (hown.lt j hj)))) (by omega)).mono ?_⟩
 rintro v G6 ⟨rfl, lw6, d6, e6⟩
 have hle6 := lw6.2
 obtain ⟨p, hp⟩ : ∃ p, p = G5.length := ⟨_, rfl⟩
 obtain ⟨fr, hfr⟩ : ∃ fr : Value, fr = .func (.func 105) #[] #[.pointer (some ⟨p + 1, 0, none⟩), .pointer (some ⟨p, 0, none⟩)] := ⟨_, rfl⟩
 have hrv : rosV G5.length = .agg #[fr] := by rw [hfr, hp]; rfl
 have fr1 : notTuple fr = true := by rw [hfr]; rfl
 have fr2 : fr.cells = #[fr] := by rw [hfr]; rfl
 rw [← hp] at d6 e6
 rw [hrv]
 simp (disch := first | omega | (simp only [lnS]; try omega)) [-getElem?_pos, -getElem?_neg, fr1, fr2, -notTuple, nt_aggG, pl_nilF]
 refine hK _ _ ?_; clear hK K
 obtain ⟨lw7, b9⟩ := boxed (H := G6) [fr] 93
 obtain ⟨g9, hg9⟩ : ∃ g, g = G6.length := ⟨_, rfl⟩
 rw [← hg9] at b9 ⊢
 have hle7 := lw7.2
 have d6l := hget_lt d6
 have e6l := hget_lt e6
 have d6 := (lw7.1 _ d6l).trans d6
 have e6 := (lw7.1 _ e6l).trans e6
 have c5l := hget_lt c5
 have c5 := ((lw7.1 _ (by omega)).trans (lw6.1 _ c5l)).trans c5
 have hk7 : ∀ j, j < G4.length → hget (G6 ++ [some ⟨[fr], 93, none⟩]) j = hget G4 j := fun j hj => ((lw7.1 j (by omega)).trans (lw6.1 j (by omega))).trans (lw5.1 j hj)
 have b3 := (hk7 _ (hget_lt b3)).trans b3
 have b4 := (hk7 _ (hget_lt b4)).trans b4
 have b5 := (hk7 _ (hget_lt b5)).trans b5
 have b6 := (hk7 _ h6).trans b6
 have low7 : Low n H (G6 ++ [some ⟨[fr], 93, none⟩]) := ⟨fun j hj => (hk7 j (by have := low4.2; omega)).trans (low4.1 j hj), by have := low4.2; omega⟩
 have hown7 := hown.low (H' := G6 ++ [some ⟨[fr], 93, none⟩]) (fun j hj => hk7 j (hown.lt j hj))
 clear lw7 lw6 lw5 lw4 hk7
 generalize G6 ++ [some ⟨[fr], 93, none⟩] = G7 at *
 have h9 := hget_lt b9
 have rosK : ∀ K, Low n H K → (∀ j, n + 1 < j → hget K j = hget G7 j) → Fun1 γ K 105 #[.pointer (some ⟨p + 1, 0, none⟩), .pointer (some ⟨p, 0, none⟩)] (behR l o) := fun K hl hk => by
  have := ros_fun (γ := γ) ((hk (p + 1) (by omega)).trans e6) ((hk p (by omega)).trans d6) (vw_at (hN.lowG (hn ▸ hl)) h3 ((hk _ (by omega)).trans c5)) (own_inv (hown7.low (fun j hj => hk j (by have := hF j hj; omega)))) hSl hSP
  rw [hS] at this
  exact this
 have ros7 := rosK G7 low7 (fun j hj => rfl)
 have hO7 : OpC G7 us o pv wv bv := hO.low (fun j hj => low7.1 j (by omega))
 have k0 : alwE l o = if o.kind = 1 then 0 else if behR l o o.author = false then 16 else if o.kind = 2 ∧ S.any (fun a => wasB l a.toNat (o.who.getD 0 0)) = true then 13 else if o.kind = 3 ∧ behR l o (o.who.getD 0 0) = false then 22 else 0 := by
  unfold alwE
  rw [hb, if_neg (by simp), hall, if_neg (by simp), hS]
 obtain ⟨k1, k2⟩ := hsetK G7 (some ⟨[fn], 93, none⟩) low7 b5
 refine aw_seq ?_
 refine aw_block ?_
 refine aw_seq ?_
 by_cases e1 : o.kind = 1
 ·have e1b : (o.kind == 1) = true := by simp [e1]
  (refine aw_ops (by kernel_rfl) (fun K hK => ?_); simp (disch := first | omega | (simp only [lnS]; try omega)) [-getElem?_pos, -getElem?_neg, q3, b3, o3, hul, e1, e1b]; refine hK _ _ ?_; clear hK K)
  refine aw_t (by (first | (simp [eval_tmp, put_at]; done) | (simp [eval_tmp, put_at]; omega))) (by kernel_rfl) ?_
  refine aw_seq ?_
  (refine aw_ops (by kernel_rfl) (fun K hK => ?_); simp (disch := first | omega | (simp only [lnS]; try omega)) [-getElem?_pos, -getElem?_neg, q4, q6, b4, b6, hf1, hf2, nt_aggG, -notTuple]; refine hK _ _ ?_; clear hK K)
  (refine aw_ret ?_; simp (disch := first | omega | (simp only [lnS]; try omega)) [-getElem?_pos, -getElem?_neg, thenQ_ret, scopeQ_ret, inBlockQ_ret, RQ, resL, resV, q4, b4])
  exact fin0 _ 0 k1 k2 (by rw [k0, if_pos e1]) (.inr e1)
 have e1b : (o.kind == 1) = false := by simp [e1]
 rw [if_neg e1] at k0
 (refine aw_ops (by kernel_rfl) (fun K hK => ?_); simp (disch := first | omega | (simp only [lnS]; try omega)) [-getElem?_pos, -getElem?_neg, q3, b3, o3, hul, e1, e1b]; refine hK _ _ ?_; clear hK K)
 refine aw_f (by (first | (simp [eval_tmp, put_at]; done) | (simp [eval_tmp, put_at]; omega))) (by kernel_rfl) ?_
 refine aw_seq ?_
 refine aw_cut (fun α G8 => α 40 = .bool (!behR l o o.author) ∧ α 0 = nv ∧ α 3 = .pointer (some ⟨n, 0, none⟩) ∧ α 4 = .pointer (some ⟨n + 1, 0, none⟩) ∧ α 6 = .pointer (some ⟨g6, 0, none⟩) ∧ α 7 = sv ∧ α 9 = .pointer (some ⟨g9, 0, none⟩) ∧ G8 = G7) ?_ ?_
 ·refine aw_ops (by kernel_rfl) (fun K hK => ?_)
  simp (disch := first | omega | (simp only [lnS]; try omega)) [-getElem?_pos, -getElem?_neg, q3, b3, b9, o0, hul, fr1, fr2, hfr, -notTuple, nt_fn, cs_fn, nt_intG]
  refine ⟨ros7.1, ac_of_rc (ros7.2 G7 o.author (Low.refl (Nat.le_refl _))) (by simp [pv_iv, pv_int, pv_bool, pv_string, pv_tup2, pv_tup3, iv_plain, p2_int, p2_bool, p2_string]) ?_⟩
  try simp (disch := first | omega | (simp only [lnS]; try omega)) [-getElem?_pos, -getElem?_neg]
  refine hK _ _ ?_; clear hK K
  exact ⟨by (first | (simp [put_at, put_none, fr0_at]; done) | rfl), by (first | (simp [put_at, put_none, fr0_at, q0]; done) | rfl), by (first | (simp [put_at, put_none, fr0_at, q3]; done) | rfl), by (first | (simp [put_at, put_none, fr0_at, q4]; done) | rfl), by (first | (simp [put_at, put_none, fr0_at, q6]; done) | rfl), by (first | (simp [put_at, put_none, fr0_at]; done) | rfl), by (first | (simp [put_at, put_none, fr0_at]; done) | rfl), rfl⟩
 clear q0 q3 q4 q6
 rintro α G8 ⟨q40, q0, q3, q4, q6, q7, q9, rfl⟩
 cases hau : behR l o o.author with
 | false =>
  rw [hau] at q40
  refine aw_t (by (first | (simp [eval_tmp, put_at, q40]; done) | (simp [eval_tmp, put_at, q40]; omega))) (by kernel_rfl) ?_
  refine aw_seq ?_
  (refine aw_ops (by kernel_rfl) (fun K hK => ?_); simp (disch := first | omega | (simp only [lnS]; try omega)) [-getElem?_pos, -getElem?_neg, q4, q6, b4, b6, hf1, hf2, nt_aggG, -notTuple]; refine hK _ _ ?_; clear hK K)
  (refine aw_ret ?_; simp (disch := first | omega | (simp only [lnS]; try omega)) [-getElem?_pos, -getElem?_neg, thenQ_ret, scopeQ_ret, inBlockQ_ret, RQ, resL, resV, q4, b4])
  exact fin0 _ 16 k1 k2 (by rw [k0, hau, if_pos rfl]) (.inl (by decide))
 | true =>
 rw [hau] at q40
 rw [hau, if_neg (by simp)] at k0
 refine aw_f (by (first | (simp [eval_tmp, put_at, q40]; done) | (simp [eval_tmp, put_at, q40]; omega))) (by kernel_rfl) ?_
 have xl3 : xload Try.prog 3 (.pointer (some ⟨n, 3, none⟩)) G8 = some (.int .i64 o.kind) := by simp [xload, b3, o3]
 have xl4 : xload Try.prog 23 (.pointer (some ⟨n, 4, none⟩)) G8 = some wv := by simp [xload, b3, o4]
 have xl9 : xload Try.prog 91 (.pointer (some ⟨g9, 0, none⟩)) G8 = some fr := by simp [xload, b9]
 have hw0 : (o.kind = 2 ∨ o.kind = 3) → ∃ x q, o.who.getD 0 0 = x ∧ notTuple q = true ∧ xindexAddr Try.prog 23 wv (.int .i64 0) = some q ∧ xload Try.prog 3 q G8 = some (.int .i64 x) := fun hor => by
  obtain ⟨x, hx⟩ := rightO_who1 hro hor
  have hwho := hO7.who
  rw [hx] at hwho ⊢
  obtain ⟨q, y, y1, y2, y3, y4, y5⟩ := hwho.acc.at_ 0 (by simp)
  have y5 := y5 G8 (Low.refl (Nat.le_refl _))
  subst y4
  exact ⟨x, q, rfl, y1, y2, y5⟩
 refine aw_seq ?_
 refine aw_cut (fun α G9 => α 48 = .bool (decide (o.kind = 2) && S.any (fun a => wasB l a.toNat (o.who.getD 0 0))) ∧ α 3 = .pointer (some ⟨n, 0, none⟩) ∧ α 4 = .pointer (some ⟨n + 1, 0, none⟩) ∧ α 6 = .pointer (some ⟨g6, 0, none⟩) ∧ α 9 = .pointer (some ⟨g9, 0, none⟩) ∧ G9 = G8) ?_ ?_
 ·by_cases e2 : o.kind = 2
  ·have e2b : (o.kind == 2) = true := by simp [e2]
   obtain ⟨x, q, hx, y1, y2, y5⟩ := hw0 (.inl e2)
   rw [hx]
   have wr := was_rc (γ := γ) (hN.lowG (hn ▸ low7)) (own_inv hown7) hSl hSP x
   refine aw_ops (by kernel_rfl) (fun K hK => ?_)
   simp (disch := first | omega | (simp only [lnS]; try omega)) [-getElem?_pos, -getElem?_neg, q0, q3, q7, -xload, xl3, xl4, y5, -xindexAddr, y2, e2, e2b, -notTuple, hnt, hvc, s1, s2, w1, w2, y1, nt_intG, nt_ptrG]
   refine ⟨by kernel_rfl, ac_of_rc wr (by simp [pv_iv, pv_int, pv_bool, pv_string, pv_tup2, pv_tup3, iv_plain, p2_int, p2_bool, p2_string]) ?_⟩
   try simp (disch := first | omega | (simp only [lnS]; try omega)) [-getElem?_pos, -getElem?_neg]
   refine hK _ _ ?_; clear hK K
   exact ⟨by rw [decide_eq_true e2]; (first | (simp [put_at, put_none, fr0_at]; done) | rfl), by (first | (simp [put_at, put_none, fr0_at, q3]; done) | rfl), by (first | (simp [put_at, put_none, fr0_at, q4]; done) | rfl), by (first | (simp [put_at, put_none, fr0_at, q6]; done) | rfl), by (first | (simp [put_at, put_none, fr0_at, q9]; done) | rfl), rfl⟩
  ·have e2b : (o.kind == 2) = false := by simp [e2]
   (refine aw_ops (by kernel_rfl) (fun K hK => ?_); simp (disch := first | omega | (simp only [lnS]; try omega)) [-getElem?_pos, -getElem?_neg, q3, -xload, xl3, e2, e2b, -notTuple, nt_intG]; refine hK _ _ ?_; clear hK K)
   exact ⟨by rw [decide_eq_false e2]; (first | (simp [put_at, put_none, fr0_at]; done) | rfl), by (first | (simp [put_at, put_none, fr0_at, q3]; done) | rfl), by (first | (simp [put_at, put_none, fr0_at, q4]; done) | rfl), by (first | (simp [put_at, put_none, fr0_at, q6]; done) | rfl), by (first | (simp [put_at, put_none, fr0_at, q9]; done) | rfl), rfl⟩
 clear q0 q3 q4 q6 q7 q9 q40
 rintro α G9 ⟨q48, q3, q4, q6, q9, rfl⟩
 cases hwas : (decide (o.kind = 2) && S.any (fun a => wasB l a.toNat (o.who.getD 0 0))) with
 | true =>
  rw [hwas] at q48
  refine aw_t (by (first | (simp [eval_tmp, put_at, q48]; done) | (simp [eval_tmp, put_at, q48]; omega))) (by kernel_rfl) ?_
  refine aw_seq ?_
  (refine aw_ops (by kernel_rfl) (fun K hK => ?_); simp (disch := first | omega | (simp only [lnS]; try omega)) [-getElem?_pos, -getElem?_neg, q4, q6, b4, b6, hf1, hf2, nt_aggG, -notTuple]; refine hK _ _ ?_; clear hK K)
  (refine aw_ret ?_; simp (disch := first | omega | (simp only [lnS]; try omega)) [-getElem?_pos, -getElem?_neg, thenQ_ret, scopeQ_ret, inBlockQ_ret, RQ, resL, resV, q4, b4])
  rw [Bool.and_eq_true, decide_eq_true_eq] at hwas
  exact fin0 _ 13 k1 k2 (by rw [k0, if_pos hwas]) (.inl (by decide))
 | false =>
 rw [hwas] at q48
 have k0 : alwE l o = if o.kind = 3 ∧ behR l o (o.who.getD 0 0) = false then 22 else 0 := by
  rw [k0, if_neg]
  intro h
  rw [decide_eq_true h.1, h.2] at hwas
  cases hwas
 refine aw_f (by (first | (simp [eval_tmp, put_at, q48]; done) | (simp [eval_tmp, put_at, q48]; omega))) (by kernel_rfl) ?_
 refine aw_seq ?_
 refine aw_cut (fun α G10 => α 62 = .bool (decide (o.kind = 3) && !behR l o (o.who.getD 0 0)) ∧ α 4 = .pointer (some ⟨n + 1, 0, none⟩) ∧ α 6 = .pointer (some ⟨g6, 0, none⟩) ∧ α 9 = .pointer (some ⟨g9, 0, none⟩) ∧ G10 = G9) ?_ ?_
 ·by_cases e3 : o.kind = 3
  ·have e3b : (o.kind == 3) = true := by simp [e3]
   obtain ⟨x, q, hx, y1, y2, y5⟩ := hw0 (.inr e3)
   rw [hx]
   have rc := ros7.2 G9 x (Low.refl (Nat.le_refl _))
   (refine aw_plan [] [] [0, 1, 2, 3, 4, 5, 6, 7, 8, 9, 10, 11, 12, 13] 14 0 (by kernel_rfl) (by kernel_rfl) (by kernel_rfl) (fun K hK => ?_)); simp only [sel, List.getElem?_cons_succ, List.getElem?_cons_zero, List.drop_succ_cons, List.drop_zero]; simp (disch := first | omega | (simp only [lnS]; try omega)) [-getElem?_pos, -getElem?_neg, q3, q9, -xload, xl3, xl4, xl9, y5, -xindexAddr, y2, e3, e3b, fr1, fr2, hfr, -notTuple, w1, w2, y1, nt_fn, cs_fn, nt_intG, nt_ptrG, PL_nil, plainB_lit, PL_cons, PLc_val, PLc_new, stepP_t, stepP_f, stepPC_n, stepPC_s, stepPX_s, stepPX_n, stepPV_n, stepPV_s, stepPA_t, stepPA_c, stepPA_l, stepPN_s, allocOp, reloc_sl, reloc_ptr, List.map_cons, List.map_nil, List.nil_append, List.append_assoc, List.cons_append, Nat.add_assoc]
   refine PLc_callV (v := .bool (behR l o x)) ros7.1 (by simpa using rc) (by simp [pv_iv, pv_int, pv_bool, pv_string, pv_tup2, pv_tup3, iv_plain, p2_int, p2_bool, p2_string]) ?_
   try simp (disch := first | omega | (simp only [lnS]; try omega)) [-getElem?_pos, -getElem?_neg, PL_nil, plainB_lit, PL_cons, PLc_val, PLc_new, stepP_t, stepP_f, stepPC_n, stepPC_s, stepPX_s, stepPX_n, stepPV_n, stepPV_s, stepPA_t, stepPA_c, stepPA_l, stepPN_s, allocOp, reloc_sl, reloc_ptr, List.map_cons, List.map_nil, List.nil_append, List.append_assoc, List.cons_append, Nat.add_assoc]
   refine hK _ _ ?_; clear hK K
   exact ⟨by rw [decide_eq_true e3]; (first | (simp [put_at, put_none, fr0_at]; done) | rfl), by (first | (simp [put_at, put_none, fr0_at, q4]; done) | rfl), by (first | (simp [put_at, put_none, fr0_at, q6]; done) | rfl), by (first | (simp [put_at, put_none, fr0_at, q9]; done) | rfl), rfl⟩
  ·have e3b : (o.kind == 3) = false := by simp [e3]
   (refine aw_plan [] [] [0, 1, 2, 3, 4, 5, 6, 7, 8, 9, 10, 11, 12, 13] 14 0 (by kernel_rfl) (by kernel_rfl) (by kernel_rfl) (fun K hK => ?_)); simp only [sel, List.getElem?_cons_succ, List.getElem?_cons_zero, List.drop_succ_cons, List.drop_zero]; simp (disch := first | omega | (simp only [lnS]; try omega)) [-getElem?_pos, -getElem?_neg, q3, -xload, xl3, e3, e3b, -notTuple, nt_intG, PL_nil, plainB_lit, PL_cons, PLc_val, PLc_new, stepP_t, stepP_f, stepPC_n, stepPC_s, stepPX_s, stepPX_n, stepPV_n, stepPV_s, stepPA_t, stepPA_c, stepPA_l, stepPN_s, allocOp, reloc_sl, reloc_ptr, List.map_cons, List.map_nil, List.nil_append, List.append_assoc, List.cons_append, Nat.add_assoc]
   refine hK _ _ ?_; clear hK K
   exact ⟨by rw [decide_eq_false e3]; (first | (simp [put_at, put_none, fr0_at]; done) | rfl), by (first | (simp [put_at, put_none, fr0_at, q4]; done) | rfl), by (first | (simp [put_at, put_none, fr0_at, q6]; done) | rfl), by (first | (simp [put_at, put_none, fr0_at, q9]; done) | rfl), rfl⟩
 clear q3 q4 q6 q9 q48
 rintro α G10 ⟨q62, q4, q6, q9, rfl⟩
 cases hno : (decide (o.kind = 3) && !behR l o (o.who.getD 0 0)) with
 | true =>
  rw [hno] at q62
  refine aw_t (by (first | (simp [eval_tmp, put_at, q62]; done) | (simp [eval_tmp, put_at, q62]; omega))) (by kernel_rfl) ?_
  refine aw_seq ?_
  (refine aw_ops (by kernel_rfl) (fun K hK => ?_); simp (disch := first | omega | (simp only [lnS]; try omega)) [-getElem?_pos, -getElem?_neg, q4, q6, b4, b6, hf1, hf2, nt_aggG, -notTuple]; refine hK _ _ ?_; clear hK K)
  (refine aw_ret ?_; simp (disch := first | omega | (simp only [lnS]; try omega)) [-getElem?_pos, -getElem?_neg, thenQ_ret, scopeQ_ret, inBlockQ_ret, RQ, resL, resV, q4, b4])
  rw [Bool.and_eq_true, decide_eq_true_eq, Bool.not_eq_true'] at hno
  exact fin0 _ 22 k1 k2 (by rw [k0, if_pos hno]) (.inl (by decide))
 | false =>
 rw [hno] at q62
 have k0 : alwE l o = 0 := by
  rw [k0, if_neg]
  intro h
  rw [decide_eq_true h.1, h.2] at hno
  cases hno
 refine aw_f (by (first | (simp [eval_tmp, put_at, q62]; done) | (simp [eval_tmp, put_at, q62]; omega))) (by kernel_rfl) ?_
 refine aw_skip ?_
 refine aw_seq ?_
 (refine aw_ops (by kernel_rfl) (fun K hK => ?_); simp (disch := first | omega | (simp only [lnS]; try omega)) [-getElem?_pos, -getElem?_neg, q4, q9, b4, b9, fr1, fr2, nt_aggG, -notTuple]; refine hK _ _ ?_; clear hK K)
 (refine aw_ret ?_; simp (disch := first | omega | (simp only [lnS]; try omega)) [-getElem?_pos, -getElem?_neg, thenQ_ret, scopeQ_ret, inBlockQ_ret, RQ, resL, resV, q4, b4])
 have hR : alwR l o = behR l o := by
  unfold alwR
  rw [if_pos ⟨k0, e1⟩]
 have k3 := (hsetK G10 (some ⟨[fr], 93, none⟩) low7 b5).1
 refine ⟨hn ▸ k3, _, _, by rw [hfr, k0], ?_⟩
 rw [hR]
 exact rosK _ k3 (fun j hj => hget_set_ne (by omega))
end
section
def toG (R : Int → Bool) (o : OpD) (w : Int) : Bool := !decide (w = o.author) && (if o.kind = 1 then decide (w ∈ o.who) else if o.kind = 2 then R w || decide (w ∈ o.who) else if o.kind = 3 then R w && !decide (w ∈ o.who) else R w)
def toL (l : List NodeD) (o : OpD) : List Int := if alwE l o = 0 then membL (toG (alwR l o) o) 8 else []
attribute [local simp] wb_bool wb_undef with_lit XL_nil XL_cons XLc_val XLc_call step1_eq stepW_t stepW_f stepC_n stepC_s stepX_s stepX_n stepN_s calleeX oneV xop_eq xopR_s xopR_n wantedA_eq wantedG_n wantedG_s plain1_int plain1_bool plain1_string bits_i64 bits_u64 bits_u32 bits_u16 bits_u8 xeqA xagg xcmp xarr allK_iv num_iv calleeOf xread xeff xbin xint xnil xun xstr xload xconv xpart xfield xfieldAddr xindexAddr xindex bnd asInt? xslice xlen xmin xmax xbuild xfill xappend xapp2 xappstr xappmk xcap xcopy xcells eval_tmp eval_const put_at put_none fr0_at cells_agg cells_int cells_bool cells_string cells_ptr cells_slice notTuple tab iv_all hget_app hget_app0 hget_cons0 hget_cons set_app set_app0 setR setR_one QL_nil QL_cons QLc_val stepQ_t stepQ_f stepQC_n stepQC_s stepQX_s SL_nil SL_cons SLc_val stepS_t stepS_f ltT ltF leT leF eqT eqF ltTn ltFn leTn leFn eqTn eqFn beqT beqF bneT bneF wi64 wu64 wu32 wu16 wu8 tmodP tdivP hgetL hgetNe hgetEq setL nums_def nums_len Nat.succ_le_of_lt List.getElem?_cons_zero List.getElem?_cons_succ Option.getD_some Int.toNat_add Int.toNat_mul agM okM agB agI agS agP agL agA okB okI okS okP okSl okA
theorem rAllowed_rc {γ : Nat → Option Nat} {H : AH} {nv : Value} {us : List Value} {l : List NodeD} {o : OpD} {pv wv bv : Value} (hN : NdA H nv l) (hO : OpC H us o pv wv bv) (hw : o.Wf) : AC Try.prog H.length γ 27 #[nv, .agg us.toArray] H (fun v' _ => v' = .int .i64 (alwE l o)) := by
 have hnt := hN.nt
 have hvc := hN.cs
 have hul := hO.len
 have hset : ∀ Z : List Value, Z.length = 71 → setR Z 0 us = us := fun Z hZ => setR_all _ _ (by omega)
 have htu : us.take 71 = us := List.take_of_length_le (by omega)
 have hp0 : plain1 (.slice none 0 0) = true := rfl
 refine ac_of_aw Try.func27 rfl Try.ntmps27 Try.results27 (by simp) ?_
 refine aw_seq ?_
 (refine aw_ops (by kernel_rfl) (fun K hK => ?_); simp (disch := first | omega | (simp only [lnS]; try omega)) [-getElem?_pos, -getElem?_neg, -notTuple, hnt, hvc, hul, nt_aggG, hp0, all_zl, hset, htu, pl_nilF]; refine hK _ _ ?_; clear hK K)
 obtain ⟨lw, b3⟩ := boxed (H := H) us 41
 obtain ⟨n, hn⟩ : ∃ n, n = H.length := ⟨_, rfl⟩
 rw [← hn] at b3 ⊢
 generalize H ++ [some ⟨us, 41, none⟩] = G at *
 have hle := lw.2
 have ha := allowed_ac (γ := γ) (nro := n) (hN.lowG lw) (hO.low lw.1) hw (by omega)
 refine aw_seq ?_
 refine aw_ops (by kernel_rfl) (fun K hK => ?_)
 simp (disch := first | omega | (simp only [lnS]; try omega)) [-getElem?_pos, -getElem?_neg, b3, hul, htu, -notTuple, hnt, hvc, nt_aggG, nt_intG]
 refine ⟨by kernel_rfl, ha.mono ?_⟩
 rintro v G2 ⟨lw2, f, cs, rfl, hf⟩
 obtain ⟨fr, hfr⟩ : ∃ fr : Value, fr = .func (.func f) #[] cs := ⟨_, rfl⟩
 have fr1 : notTuple fr = true := by rw [hfr]; rfl
 have fr2 : fr.cells = #[fr] := by rw [hfr]; rfl
 rw [← hfr]
 have hle2 := lw2.2
 have hn2 : n ≤ G2.length := by omega
 simp (disch := first | omega | (simp only [lnS]; try omega)) [-getElem?_pos, -getElem?_neg, hn2, fr1, fr2, -notTuple, nt_aggG, nt_intG, pl_nilF]
 refine hK _ _ ?_; clear hK K
 refine aw_seq ?_
 (refine aw_ops (by kernel_rfl) (fun K hK => ?_); simp (disch := first | omega | (simp only [lnS]; try omega)) [-getElem?_pos, -getElem?_neg, nt_intG]; refine hK _ _ ?_; clear hK K)
 (refine aw_ret ?_; simp (disch := first | omega | (simp only [lnS]; try omega)) [-getElem?_pos, -getElem?_neg, thenQ_ret, scopeQ_ret, inBlockQ_ret, RQ, resL, resV])
theorem to1_rc {γ : Nat → Option Nat} {H : AH} {us : List Value} {o : OpD} {pv wv bv : Value} {p3 p8 p6 : Nat} {f8 f6 : Nat} {c8 c6 : Array Value} {R : Int → Bool} (hO : OpC H us o pv wv bv) (h3 : hget H p3 = some ⟨us, 41, none⟩) (h8 : hget H p8 = some ⟨[.func (.func f8) #[] c8], 93, none⟩) (h6 : hget H p6 = some ⟨[.func (.func f6) #[] c6], 93, none⟩)
  (F8 : Fun1 γ H f8 c8 fun z => decide (z ∈ o.who)) (F6 : Fun1 γ H f6 c6 R) (w : Int) :
  AC Try.prog H.length γ 72 #[.int .i64 w, .pointer (some ⟨p3, 0, none⟩), .pointer (some ⟨p8, 0, none⟩), .pointer (some ⟨p6, 0, none⟩)] H (fun v' _ => v' = .bool (toG R o w)) := by
 have hul := hO.len
 have o0 := hO.c0
 have o3 := hO.c3
 have r8 := F8.2 H w (Low.refl (Nat.le_refl _))
 have r6 := F6.2 H w (Low.refl (Nat.le_refl _))
 obtain ⟨i, hi⟩ : ∃ i, i = decide (w ∈ o.who) := ⟨_, rfl⟩
 obtain ⟨r, hr⟩ : ∃ r, r = R w := ⟨_, rfl⟩
 have hd : toG R o w = (!decide (w = o.author) && (if o.kind = 1 then i else if o.kind = 2 then r || i else if o.kind = 3 then r && !i else r)) := by rw [hi, hr]; rfl
 rw [hd]
 have r8 : AC Try.prog H.length γ f8 (#[.int .i64 w] ++ c8) H (fun v' _ => v' = .bool i) := by rw [hi]; exact r8
 have r6 : AC Try.prog H.length γ f6 (#[.int .i64 w] ++ c6) H (fun v' _ => v' = .bool r) := by rw [hr]; exact r6
 have k8 := F8.1
 have k6 := F6.1
 clear F8 F6 hi hr hd
 have xl0 : xload Try.prog 3 (.pointer (some ⟨p3, 0, none⟩)) H = some (.int .i64 o.author) := by simp [xload, h3, o0]
 have xl3 : xload Try.prog 3 (.pointer (some ⟨p3, 3, none⟩)) H = some (.int .i64 o.kind) := by simp [xload, h3, o3]
 refine ac_of_aw Try.func72 rfl Try.ntmps72 Try.results72 (by simp) ?_
 refine aw_seq ?_
 (refine aw_ops (by kernel_rfl) (fun K hK => ?_); simp (disch := first | omega | (simp only [lnS]; try omega)) [-getElem?_pos, -getElem?_neg]; refine hK _ _ ?_; clear hK K)
 refine aw_seq ?_
 refine aw_block ?_
 refine aw_seq ?_
 by_cases e0 : w = o.author
 ·have e0b : (w == o.author) = true := by simp [e0]
  (refine aw_ops (by kernel_rfl) (fun K hK => ?_); simp (disch := first | omega | (simp only [lnS]; try omega)) [-getElem?_pos, -getElem?_neg, -xload, xl0, e0, e0b, nt_intG]; refine hK _ _ ?_; clear hK K)
  refine aw_t (by (first | (simp [eval_tmp, put_at]; done) | (simp [eval_tmp, put_at]; omega))) (by kernel_rfl) ?_
  refine aw_seq ?_
  (refine aw_ops (by kernel_rfl) (fun K hK => ?_); simp (disch := first | omega | (simp only [lnS]; try omega)) [-getElem?_pos, -getElem?_neg]; refine hK _ _ ?_; clear hK K)
  (refine aw_ret ?_; simp (disch := first | omega | (simp only [lnS]; try omega)) [-getElem?_pos, -getElem?_neg, thenQ_ret, scopeQ_ret, inBlockQ_ret, RQ, resL, resV, e0])
 have e0b : (w == o.author) = false := by simp [e0]
 (refine aw_ops (by kernel_rfl) (fun K hK => ?_); simp (disch := first | omega | (simp only [lnS]; try omega)) [-getElem?_pos, -getElem?_neg, -xload, xl0, e0, e0b, nt_intG]; refine hK _ _ ?_; clear hK K)
 refine aw_f (by (first | (simp [eval_tmp, put_at]; done) | (simp [eval_tmp, put_at]; omega))) (by kernel_rfl) ?_
 rw [decide_eq_false e0]
 refine aw_seq ?_
 by_cases e1 : o.kind = 1
 ·have e1b : (o.kind == 1) = true := by simp [e1]
  (refine aw_ops (by kernel_rfl) (fun K hK => ?_); simp (disch := first | omega | (simp only [lnS]; try omega)) [-getElem?_pos, -getElem?_neg, -xload, xl3, e1, e1b, nt_intG]; refine hK _ _ ?_; clear hK K)
  refine aw_t (by (first | (simp [eval_tmp, put_at]; done) | (simp [eval_tmp, put_at]; omega))) (by kernel_rfl) ?_
  refine aw_seq ?_
  refine aw_ops (by kernel_rfl) (fun K hK => ?_)
  simp (disch := first | omega | (simp only [lnS]; try omega)) [-getElem?_pos, -getElem?_neg, h8, -notTuple, nt_fn, cs_fn, nt_intG]
  refine ⟨k8, ac_of_rc r8 (by simp [pv_iv, pv_int, pv_bool, pv_string, pv_tup2, pv_tup3, iv_plain, p2_int, p2_bool, p2_string]) ?_⟩
  try simp (disch := first | omega | (simp only [lnS]; try omega)) [-getElem?_pos, -getElem?_neg]
  refine hK _ _ ?_; clear hK K
  (refine aw_ret ?_; simp (disch := first | omega | (simp only [lnS]; try omega)) [-getElem?_pos, -getElem?_neg, thenQ_ret, scopeQ_ret, inBlockQ_ret, RQ, resL, resV, e1])
 have e1b : (o.kind == 1) = false := by simp [e1]
 (refine aw_ops (by kernel_rfl) (fun K hK => ?_); simp (disch := first | omega | (simp only [lnS]; try omega)) [-getElem?_pos, -getElem?_neg, -xload, xl3, e1, e1b, nt_intG]; refine hK _ _ ?_; clear hK K)
 refine aw_f (by (first | (simp [eval_tmp, put_at]; done) | (simp [eval_tmp, put_at]; omega))) (by kernel_rfl) ?_
 rw [if_neg e1]
 refine aw_seq ?_
 by_cases e2 : o.kind = 2
 ·have e2b : (o.kind == 2) = true := by simp [e2]
  (refine aw_ops (by kernel_rfl) (fun K hK => ?_); simp (disch := first | omega | (simp only [lnS]; try omega)) [-getElem?_pos, -getElem?_neg, -xload, xl3, e2, e2b, nt_intG]; refine hK _ _ ?_; clear hK K)
  refine aw_t (by (first | (simp [eval_tmp, put_at]; done) | (simp [eval_tmp, put_at]; omega))) (by kernel_rfl) ?_
  refine aw_seq ?_
  refine aw_ops (by kernel_rfl) (fun K hK => ?_)
  simp (disch := first | omega | (simp only [lnS]; try omega)) [-getElem?_pos, -getElem?_neg, h6, -notTuple, nt_fn, cs_fn, nt_intG]
  refine ⟨k6, ac_of_rc r6 (by simp [pv_iv, pv_int, pv_bool, pv_string, pv_tup2, pv_tup3, iv_plain, p2_int, p2_bool, p2_string]) ?_⟩
  cases r with
  | true =>
   try simp (disch := first | omega | (simp only [lnS]; try omega)) [-getElem?_pos, -getElem?_neg]
   refine hK _ _ ?_; clear hK K
   (refine aw_ret ?_; simp (disch := first | omega | (simp only [lnS]; try omega)) [-getElem?_pos, -getElem?_neg, thenQ_ret, scopeQ_ret, inBlockQ_ret, RQ, resL, resV, e2])
  | false =>
   simp (disch := first | omega | (simp only [lnS]; try omega)) [-getElem?_pos, -getElem?_neg, h8, -notTuple, nt_fn, cs_fn, nt_intG]
   refine ⟨k8, ac_of_rc r8 (by simp [pv_iv, pv_int, pv_bool, pv_string, pv_tup2, pv_tup3, iv_plain, p2_int, p2_bool, p2_string]) ?_⟩
   try simp (disch := first | omega | (simp only [lnS]; try omega)) [-getElem?_pos, -getElem?_neg]
   refine hK _ _ ?_; clear hK K
   (refine aw_ret ?_; simp (disch := first | omega | (simp only [lnS]; try omega)) [-getElem?_pos, -getElem?_neg, thenQ_ret, scopeQ_ret, inBlockQ_ret, RQ, resL, resV, e2])
 have e2b : (o.kind == 2) = false := by simp [e2]
 (refine aw_ops (by kernel_rfl) (fun K hK => ?_); simp (disch := first | omega | (simp only [lnS]; try omega)) [-getElem?_pos, -getElem?_neg, -xload, xl3, e2, e2b, nt_intG]; refine hK _ _ ?_; clear hK K)
 refine aw_f (by (first | (simp [eval_tmp, put_at]; done) | (simp [eval_tmp, put_at]; omega))) (by kernel_rfl) ?_
 rw [if_neg e2]
 refine aw_seq ?_
 by_cases e3 : o.kind = 3
 ·have e3b : (o.kind == 3) = true := by simp [e3]
  (refine aw_ops (by kernel_rfl) (fun K hK => ?_); simp (disch := first | omega | (simp only [lnS]; try omega)) [-getElem?_pos, -getElem?_neg, -xload, xl3, e3, e3b, nt_intG]; refine hK _ _ ?_; clear hK K)
  refine aw_t (by (first | (simp [eval_tmp, put_at]; done) | (simp [eval_tmp, put_at]; omega))) (by kernel_rfl) ?_
  refine aw_seq ?_
  refine aw_ops (by kernel_rfl) (fun K hK => ?_)
  simp (disch := first | omega | (simp only [lnS]; try omega)) [-getElem?_pos, -getElem?_neg, h6, -notTuple, nt_fn, cs_fn, nt_intG]
  refine ⟨k6, ac_of_rc r6 (by simp [pv_iv, pv_int, pv_bool, pv_string, pv_tup2, pv_tup3, iv_plain, p2_int, p2_bool, p2_string]) ?_⟩
  cases r with
  | false =>
   try simp (disch := first | omega | (simp only [lnS]; try omega)) [-getElem?_pos, -getElem?_neg]
   refine hK _ _ ?_; clear hK K
   (refine aw_ret ?_; simp (disch := first | omega | (simp only [lnS]; try omega)) [-getElem?_pos, -getElem?_neg, thenQ_ret, scopeQ_ret, inBlockQ_ret, RQ, resL, resV, e3])
  | true =>
   simp (disch := first | omega | (simp only [lnS]; try omega)) [-getElem?_pos, -getElem?_neg, h8, -notTuple, nt_fn, cs_fn, nt_intG]
   refine ⟨k8, ac_of_rc r8 (by simp [pv_iv, pv_int, pv_bool, pv_string, pv_tup2, pv_tup3, iv_plain, p2_int, p2_bool, p2_string]) ?_⟩
   try simp (disch := first | omega | (simp only [lnS]; try omega)) [-getElem?_pos, -getElem?_neg]
   refine hK _ _ ?_; clear hK K
   (refine aw_ret ?_; simp (disch := first | omega | (simp only [lnS]; try omega)) [-getElem?_pos, -getElem?_neg, thenQ_ret, scopeQ_ret, inBlockQ_ret, RQ, resL, resV, e3])
 have e3b : (o.kind == 3) = false := by simp [e3]
 (refine aw_ops (by kernel_rfl) (fun K hK => ?_); simp (disch := first | omega | (simp only [lnS]; try omega)) [-getElem?_pos, -getElem?_neg, -xload, xl3, e3, e3b, nt_intG]; refine hK _ _ ?_; clear hK K)
 refine aw_f (by (first | (simp [eval_tmp, put_at]; done) | (simp [eval_tmp, put_at]; omega))) (by kernel_rfl) ?_
 rw [if_neg e3]
 refine aw_skip ?_
 refine aw_seq ?_
 refine aw_ops (by kernel_rfl) (fun K hK => ?_)
 simp (disch := first | omega | (simp only [lnS]; try omega)) [-getElem?_pos, -getElem?_neg, h6, -notTuple, nt_fn, cs_fn, nt_intG]
 refine ⟨k6, ac_of_rc r6 (by simp [pv_iv, pv_int, pv_bool, pv_string, pv_tup2, pv_tup3, iv_plain, p2_int, p2_bool, p2_string]) ?_⟩
 try simp (disch := first | omega | (simp only [lnS]; try omega)) [-getElem?_pos, -getElem?_neg]
 refine hK _ _ ?_; clear hK K
 (refine aw_ret ?_; simp (disch := first | omega | (simp only [lnS]; try omega)) [-getElem?_pos, -getElem?_neg, thenQ_ret, scopeQ_ret, inBlockQ_ret, RQ, resL, resV])
theorem to1_callable : callable Try.prog 72 = true := by kernel_rfl
theorem rTo_ac {γ : Nat → Option Nat} {nro : Nat} {H : AH} {nv : Value} {us : List Value} {l : List NodeD} {o : OpD} {pv wv bv : Value} (hN : NdA H nv l) (hO : OpC H us o pv wv bv) (hw : o.Wf) (hnro : nro ≤ H.length) : AC Try.prog nro γ 28 #[nv, .agg us.toArray] H (fun v' H' => Low H.length H H' ∧ ∃ sv F, OwnF H' sv 3 1 (iv .i64 (toL l o)) F ∧ (∀ j ∈ F, H.length ≤ j) ∧ v' = .tuple #[sv, .int .i64 (alwE l o)]) := by
 have hnt := hN.nt
 have hvc := hN.cs
 have hul := hO.len
 have hset : ∀ Z : List Value, Z.length = 71 → setR Z 0 us = us := fun Z hZ => setR_all _ _ (by omega)
 have htu : us.take 71 = us := List.take_of_length_le (by omega)
 have hp0 : plain1 (.slice none 0 0) = true := rfl
 refine ac_of_aw Try.func28 rfl Try.ntmps28 Try.results28 (by simp) ?_
 refine aw_seq ?_
 (refine aw_ops (by kernel_rfl) (fun K hK => ?_); simp (disch := first | omega | (simp only [lnS]; try omega)) [-getElem?_pos, -getElem?_neg, -notTuple, hnt, hvc, hul, nt_aggG, hp0, all_zl, hset, htu, pl_nilF]; refine hK _ _ ?_; clear hK K)
 obtain ⟨lw, b3⟩ := boxed (H := H) us 41
 obtain ⟨n, hn⟩ : ∃ n, n = H.length := ⟨_, rfl⟩
 rw [← hn] at b3 ⊢
 rw [← hn] at hnro
 generalize H ++ [some ⟨us, 41, none⟩] = G at *
 have hle := lw.2
 have hO1 := hO.low lw.1
 have ha := allowed_ac (γ := γ) (nro := nro) (hN.lowG lw) hO1 hw (by omega)
 refine aw_seq ?_
 refine aw_ops (by kernel_rfl) (fun K hK => ?_)
 simp (disch := first | omega | (simp only [lnS]; try omega)) [-getElem?_pos, -getElem?_neg, b3, hul, htu, -notTuple, hnt, hvc, nt_aggG, nt_intG]
 refine ⟨by kernel_rfl, ha.mono ?_⟩
 rintro v G2 ⟨lw2, f, cs, rfl, hf⟩
 obtain ⟨fr, hfr⟩ : ∃ fr : Value, fr = .func (.func f) #[] cs := ⟨_, rfl⟩
 have fr1 : notTuple fr = true := by rw [hfr]; rfl
 have fr2 : fr.cells = #[fr] := by rw [hfr]; rfl
 rw [← hfr]
 have hle2 := lw2.2
 have hn2 : nro ≤ G2.length := by omega
 simp (disch := first | omega | (simp only [lnS]; try omega)) [-getElem?_pos, -getElem?_neg, hn2, fr1, fr2, -notTuple, nt_aggG, nt_intG, pl_nilF]
 refine hK _ _ ?_; clear hK K
 obtain ⟨lw3, b6⟩ := boxed (H := G2) [fr] 93
 obtain ⟨g6, hg6⟩ : ∃ g, g = G2.length := ⟨_, rfl⟩
 have lw13 := lw2.both lw3
 rw [← hg6] at b6 ⊢
 have hf := hf.low lw3
 generalize G2 ++ [some ⟨[fr], 93, none⟩] = G3 at *
 have hle3 := lw13.2
 have b3 := (lw13.1 _ (hget_lt b3)).trans b3
 have low3 : Low n H G3 := ⟨fun j hj => (lw13.1 j (by omega)).trans (lw.1 j (by omega)), by omega⟩
 have hO3 := hO1.low lw13.1
 have o4 := hO.c4
 have w1 := hO.who.acc.nt
 have w2 := hO.who.acc.cs
 have hL : toL l o = if alwE l o = 0 then membL (toG (alwR l o) o) 8 else [] := rfl
 rw [hL]
 generalize alwR l o = R at *
 generalize alwE l o = e at *
 refine aw_seq ?_
 refine aw_seq ?_
 by_cases he : e = 0
 case neg =>
  have heb : (e == 0) = false := by simp [he]
  (refine aw_ops (by kernel_rfl) (fun K hK => ?_); simp (disch := first | omega | (simp only [lnS]; try omega)) [-getElem?_pos, -getElem?_neg, he, heb]; refine hK _ _ ?_; clear hK K)
  refine aw_t (by (first | (simp [eval_tmp, put_at]; done) | (simp [eval_tmp, put_at]; omega))) (by kernel_rfl) ?_
  refine aw_seq ?_
  (refine aw_ops (by kernel_rfl) (fun K hK => ?_); simp (disch := first | omega | (simp only [lnS]; try omega)) [-getElem?_pos, -getElem?_neg, nt_intG]; refine hK _ _ ?_; clear hK K)
  (refine aw_ret ?_; simp (disch := first | omega | (simp only [lnS]; try omega)) [-getElem?_pos, -getElem?_neg, thenQ_ret, scopeQ_ret, inBlockQ_ret, RQ, resL, resV, he])
  exact ⟨hn ▸ low3, _, [], .inl ⟨rfl, by simp [iv], rfl⟩, (fun j hj => by cases hj), rfl⟩
 have heb : (e == 0) = true := by simp [he]
 (refine aw_ops (by kernel_rfl) (fun K hK => ?_); simp (disch := first | omega | (simp only [lnS]; try omega)) [-getElem?_pos, -getElem?_neg, he, heb]; refine hK _ _ ?_; clear hK K)
 refine aw_f (by (first | (simp [eval_tmp, put_at]; done) | (simp [eval_tmp, put_at]; omega))) (by kernel_rfl) ?_
 refine aw_skip ?_
 have hli := listedX_ac (γ := γ) (nro := nro) hO3.who hw.wlen (by omega)
 refine aw_seq ?_
 refine aw_ops (by kernel_rfl) (fun K hK => ?_)
 simp (disch := first | omega | (simp only [lnS]; try omega)) [-getElem?_pos, -getElem?_neg, b3, hul, o4, -notTuple, w1, w2, nt_intG]
 refine ⟨by kernel_rfl, hli.mono ?_⟩
 rintro v G4 ⟨rfl, lw4, b5⟩
 have hle4 := lw4.2
 obtain ⟨q, hq⟩ : ∃ q, q = G3.length := ⟨_, rfl⟩
 obtain ⟨fl, hfl⟩ : ∃ fl : Value, fl = .func (.func 119) #[] #[.pointer (some ⟨q, 0, none⟩)] := ⟨_, rfl⟩
 have hlv : lsV G3.length = .agg #[fl] := by rw [hfl, hq]; rfl
 have fl1 : notTuple fl = true := by rw [hfl]; rfl
 have fl2 : fl.cells = #[fl] := by rw [hfl]; rfl
 rw [← hq] at b5
 rw [hlv]
 simp (disch := first | omega | (simp only [lnS]; try omega)) [-getElem?_pos, -getElem?_neg, fl1, fl2, -notTuple, nt_aggG, pl_nilF]
 refine hK _ _ ?_; clear hK K
 obtain ⟨lw5, b8⟩ := boxed (H := G4) [fl] 93
 obtain ⟨g8, hg8⟩ : ∃ g, g = G4.length := ⟨_, rfl⟩
 have lw45 := lw4.both lw5
 rw [← hg8] at b8 ⊢
 have b5 := (lw5.1 _ (hget_lt b5)).trans b5
 have hf := hf.low lw45
 generalize G4 ++ [some ⟨[fl], 93, none⟩] = G5 at *
 have hle5 := lw45.2
 have b3 := (lw45.1 _ (hget_lt b3)).trans b3
 have b6 := (lw45.1 _ (hget_lt b6)).trans b6
 have low5 : Low n H G5 := ⟨fun j hj => (lw45.1 j (by omega)).trans (low3.1 j hj), by omega⟩
 have hO5 := hO3.low lw45.1
 have hfw := ls_fun (γ := γ) b5 hO5.who hw.wlen
 have r3 : ∃ ft : Value, ft = .func (.func 72) #[] #[.pointer (some ⟨n, 0, none⟩), .pointer (some ⟨g8, 0, none⟩), .pointer (some ⟨g6, 0, none⟩)] := ⟨_, rfl⟩
 refine aw_seq ?_
 (refine aw_ops (by kernel_rfl) (fun K hK => ?_); simp (disch := first | omega | (simp only [lnS]; try omega)) [-getElem?_pos, -getElem?_neg, -notTuple, pl_nilF, nt_fn, cs_fn, nt_aggG]; refine hK _ _ ?_; clear hK K)
 obtain ⟨ft, hft⟩ := r3
 rw [← hft]
 have ft1 : notTuple ft = true := by rw [hft]; rfl
 have ft2 : ft.cells = #[ft] := by rw [hft]; rfl
 obtain ⟨lw6, b9⟩ := boxed (H := G5) [ft] 93
 generalize G5 ++ [some ⟨[ft], 93, none⟩] = G6 at *
 have hle6 := lw6.2
 have b3 := (lw6.1 _ (hget_lt b3)).trans b3
 have b6 := (lw6.1 _ (hget_lt b6)).trans b6
 have b8 := (lw6.1 _ (hget_lt b8)).trans b8
 have low6 : Low n H G6 := ⟨fun j hj => (lw6.1 j (by omega)).trans (low5.1 j hj), by omega⟩
 have hgr : Grp γ G6 (.agg #[ft]) (toG R o) := ⟨_, _, by rw [hft], to1_callable, fun G z hg => by
  rw [hfr] at b6
  rw [hfl] at b8
  exact to1_rc (γ := γ) ((hO5.low lw6.1).low hg.1) ((hg.1 _ (hget_lt b3)).trans b3) ((hg.1 _ (hget_lt b8)).trans b8) ((hg.1 _ (hget_lt b6)).trans b6) ((hfw.low lw6).low hg) ((hf.low lw6).low hg) z⟩
 have hme := members_ac (γ := γ) (nro := nro) hgr (by omega)
 refine aw_seq ?_
 refine aw_ops (by kernel_rfl) (fun K hK => ?_)
 simp (disch := first | omega | (simp only [lnS]; try omega)) [-getElem?_pos, -getElem?_neg, b9, ft1, ft2, -notTuple, nt_aggG]
 refine ⟨by kernel_rfl, hme.mono ?_⟩
 rintro v G7 ⟨lw7, F, hF, hFl⟩
 obtain ⟨s1, s2⟩ := own_nt hF
 try simp (disch := first | omega | (simp only [lnS]; try omega)) [-getElem?_pos, -getElem?_neg, -notTuple, s1, s2, nt_intG]
 refine hK _ _ ?_; clear hK K
 (refine aw_ret ?_; simp (disch := first | omega | (simp only [lnS]; try omega)) [-getElem?_pos, -getElem?_neg, thenQ_ret, scopeQ_ret, inBlockQ_ret, RQ, resL, resV, he])
 have hle7 := lw7.2
 refine ⟨_, ⟨s1, rfl⟩, ?_⟩
 exact ⟨⟨fun j hj => (lw7.1 j (by omega)).trans (low6.1 j (by omega)), by omega⟩, _, F, hF, (fun j hj => by have := hFl j hj; omega), rfl⟩
end
section
def behL (l : List NodeD) (o : OpD) : List Int := if alwE l o = 0 then (if o.kind = 1 then o.who else membL (behR l o) 8) else []
theorem kind_le2 {l : List NodeD} (h3 : rightG l = true) {a : Nat} (ha : a < l.length) : decide ((nd l a).op.kind ≤ 2) = (decide ((nd l a).op.kind = 1) || decide ((nd l a).op.kind = 2)) := by
 have := (rightO_kind (right_op h3 ha)).1
 by_cases e1 : (nd l a).op.kind = 1
 ·simp [e1]
 ·by_cases e2 : (nd l a).op.kind = 2
  ·simp [e2]
  ·have : ¬ (nd l a).op.kind ≤ 2 := by omega
   simp [e1, e2, this]
theorem who_mem {o : OpD} (h : rightO o = true) {x : Int} (hx : x ∈ o.who) : 0 ≤ x ∧ x < 8 := by
 unfold rightO at h
 simp only [Bool.and_eq_true] at h
 have hw := h.2.2.2.2.1
 unfold whoB at hw
 have : o.who.all memI = true := by
  split at hw
  ·simp only [Bool.and_eq_true] at hw
   exact hw.1.1
  ·split at hw
   ·simp only [Bool.and_eq_true] at hw
    exact hw.2.1.1
   ·rw [decide_eq_true_eq, List.length_eq_zero_iff] at hw
    rw [hw] at hx
    cases hx
 have := List.all_eq_true.1 this x hx
 unfold memI at this
 simpa using this
attribute [local simp] wb_bool wb_undef with_lit XL_nil XL_cons XLc_val XLc_call step1_eq stepW_t stepW_f stepC_n stepC_s stepX_s stepX_n stepN_s calleeX oneV xop_eq xopR_s xopR_n wantedA_eq wantedG_n wantedG_s plain1_int plain1_bool plain1_string bits_i64 bits_u64 bits_u32 bits_u16 bits_u8 xeqA xagg xcmp xarr allK_iv num_iv calleeOf xread xeff xbin xint xnil xun xstr xload xconv xpart xfield xfieldAddr xindexAddr xindex bnd asInt? xslice xlen xmin xmax xbuild xfill xappend xapp2 xappstr xappmk xcap xcopy xcells eval_tmp eval_const put_at put_none fr0_at cells_agg cells_int cells_bool cells_string cells_ptr cells_slice notTuple tab iv_all hget_app hget_app0 hget_cons0 hget_cons set_app set_app0 setR setR_one QL_nil QL_cons QLc_val stepQ_t stepQ_f stepQC_n stepQC_s stepQX_s SL_nil SL_cons SLc_val stepS_t stepS_f ltT ltF leT leF eqT eqF ltTn ltFn leTn leFn eqTn eqFn beqT beqF bneT bneF wi64 wu64 wu32 wu16 wu8 tmodP tdivP hgetL hgetNe hgetEq setL nums_def nums_len Nat.succ_le_of_lt List.getElem?_cons_zero List.getElem?_cons_succ Option.getD_some Int.toNat_add Int.toNat_mul agM okM agB agI agS agP agL agA okB okI okS okP okSl okA
theorem rBeh_ac {γ : Nat → Option Nat} {nro : Nat} {H : AH} {nv : Value} {us : List Value} {l : List NodeD} {o : OpD} {pv wv bv : Value} (hN : NdA H nv l) (h3 : rightG l = true) (hO : OpC H us o pv wv bv) (hw : o.Wf) (hnro : nro ≤ H.length) : AC Try.prog nro γ 73 #[nv, .agg us.toArray] H (fun v' H' => Low H.length H H' ∧ ∃ sv, InV H' sv (behL l o) ∧ v' = .tuple #[sv, .int .i64 (alwE l o)]) := by
 have hnt := hN.nt
 have hvc := hN.cs
 have hul := hO.len
 have hl96 := rightG_len h3
 have hset : ∀ Z : List Value, Z.length = 71 → setR Z 0 us = us := fun Z hZ => setR_all _ _ (by omega)
 have htu : us.take 71 = us := List.take_of_length_le (by omega)
 have hp0 : plain1 (.slice none 0 0) = true := rfl
 have fin0 : ∀ (K : AH) (e : Int), Low H.length H K → alwE l o = e → e ≠ 0 → Low H.length H K ∧ ∃ sv, InV K sv (behL l o) ∧ Value.slice none 0 0 = sv ∧ e = alwE l o := fun K e hK he h0 => by
  refine ⟨hK, .slice none 0 0, ?_, rfl, he.symm⟩
  unfold behL
  rw [he, if_neg h0]
  exact (nil3 K).2.1
 obtain ⟨n, hn⟩ : ∃ n, n = H.length := ⟨_, rfl⟩
 rw [← hn] at fin0 hnro ⊢
 refine ac_of_aw Try.func73 rfl Try.ntmps73 Try.results73 (by simp) ?_
 refine aw_seq ?_
 (refine aw_ops (by kernel_rfl) (fun K hK => ?_); simp (disch := first | omega | (simp only [lnS]; try omega)) [-getElem?_pos, -getElem?_neg, -notTuple, hnt, hvc, hul, nt_aggG, hp0, all_zl, hset, htu, ← hn]; refine hK _ _ ?_; clear hK K)
 obtain ⟨lw, b3⟩ := boxed (H := H) us 41
 rw [← hn] at b3 lw
 generalize H ++ [some ⟨us, 41, none⟩] = G at *
 have hle := lw.2
 have hO1 : OpC G us o pv wv bv := hO.low (fun j hj => lw.1 j (by omega))
 have hN1 : NdA G nv l := hN.lowG (hn ▸ lw)
 have rr := rRight_rc (γ := γ) hO1 hw
 rw [refO_eq] at rr
 have o0 := hO.c0
 have o2 := hO.c2
 have o3 := hO.c3
 have o4 := hO.c4
 have hpar := hO1.parents.acc (fun k hk => (hw.parents k hk).1)
 have p1 := hpar.nt
 have p2 := hpar.cs
 have w1 := hO.who.acc.nt
 have w2 := hO.who.acc.cs
 have k0 : alwE l o = if rightO o = false then 1 else if o.parents.all (fun p => (findN l l.length p).isSome) = false then 14 else if o.kind = 1 then 0 else if behR l o o.author = false then 16 else if o.kind = 2 ∧ (pastL l l.length o.parents).any (fun a => wasB l a.toNat (o.who.getD 0 0)) = true then 13 else if o.kind = 3 ∧ behR l o (o.who.getD 0 0) = false then 22 else 0 := by
  unfold alwE
  rw [h3, Bool.true_and]
 refine aw_seq ?_
 refine aw_seq ?_
 refine aw_ops (by kernel_rfl) (fun K hK => ?_)
 simp (disch := first | omega | (simp only [lnS]; try omega)) [-getElem?_pos, -getElem?_neg, b3, hul, htu, nt_aggG]
 refine ⟨by kernel_rfl, ac_of_rc rr (by simp [pv_iv, pv_int, pv_bool, pv_string, pv_tup2, pv_tup3, iv_plain, p2_int, p2_bool, p2_string]) ?_⟩
 cases hro : rightO o with
 | false =>
  try simp (disch := first | omega | (simp only [lnS]; try omega)) [-getElem?_pos, -getElem?_neg]
  refine hK _ _ ?_; clear hK K
  refine aw_t (by (first | (simp [eval_tmp, put_at]; done) | (simp [eval_tmp, put_at]; omega))) (by kernel_rfl) ?_
  refine aw_seq ?_
  (refine aw_ops (by kernel_rfl) (fun K hK => ?_); simp (disch := first | omega | (simp only [lnS]; try omega)) [-getElem?_pos, -getElem?_neg, nt_slG, nt_intG]; refine hK _ _ ?_; clear hK K)
  (refine aw_ret ?_; simp (disch := first | omega | (simp only [lnS]; try omega)) [-getElem?_pos, -getElem?_neg, thenQ_ret, scopeQ_ret, inBlockQ_ret, RQ, resL, resV])
  exact fin0 G 1 lw (by rw [k0, hro, if_pos rfl]) (by decide)
 | true =>
 try simp (disch := first | omega | (simp only [lnS]; try omega)) [-getElem?_pos, -getElem?_neg]
 refine hK _ _ ?_; clear hK K
 refine aw_f (by (first | (simp [eval_tmp, put_at]; done) | (simp [eval_tmp, put_at]; omega))) (by kernel_rfl) ?_
 refine aw_skip ?_
 rw [hro, if_neg (by simp)] at k0
 have rp := (rPast_rc (γ := γ) hN1 (by omega) hO1.parents (fun k hk => (hw.parents k hk).1) hw.plen).thaw (nro := nro) (fun v G' h => ⟨h.1.2, h.1.1⟩)
 refine aw_seq ?_
 refine aw_ops (by kernel_rfl) (fun K hK => ?_)
 simp (disch := first | omega | (simp only [lnS]; try omega)) [-getElem?_pos, -getElem?_neg, b3, o2, hul, -notTuple, hnt, hvc, p1, p2, nt_aggG, nt_intG]
 refine ⟨by kernel_rfl, rp.mono ?_⟩
 rintro v G4 ⟨lw4, ⟨hall, sv, F, rfl, hown, hF⟩ | ⟨hall, rfl⟩⟩
 rotate_left
 ·have low4 : Low n H G4 := ⟨fun j hj => (lw4.1 j (by omega)).trans (lw.1 j hj), by have := lw4.2; omega⟩
  simp (disch := first | omega | (simp only [lnS]; try omega)) [-getElem?_pos, -getElem?_neg, nt_slG, nt_boolG]
  refine hK _ _ ?_; clear hK K
  refine aw_seq ?_
  refine aw_seq ?_
  (refine aw_ops (by kernel_rfl) (fun K hK => ?_); simp (disch := first | omega | (simp only [lnS]; try omega)) [-getElem?_pos, -getElem?_neg]; refine hK _ _ ?_; clear hK K)
  refine aw_t (by (first | (simp [eval_tmp, put_at]; done) | (simp [eval_tmp, put_at]; omega))) (by kernel_rfl) ?_
  refine aw_seq ?_
  (refine aw_ops (by kernel_rfl) (fun K hK => ?_); simp (disch := first | omega | (simp only [lnS]; try omega)) [-getElem?_pos, -getElem?_neg, nt_slG, nt_intG]; refine hK _ _ ?_; clear hK K)
  (refine aw_ret ?_; simp (disch := first | omega | (simp only [lnS]; try omega)) [-getElem?_pos, -getElem?_neg, thenQ_ret, scopeQ_ret, inBlockQ_ret, RQ, resL, resV])
  exact fin0 G4 14 low4 (by rw [k0, hall, if_pos rfl]) (by decide)
 obtain ⟨S, hS⟩ : ∃ S, S = pastL l l.length o.parents := ⟨_, rfl⟩
 rw [← hS] at hown
 have hSl : S.length ≤ maxLen := by
  have h1 := pastL_length l l.length o.parents
  rw [hS]; simp only [maxLen]; omega
 have hS96 : S.length ≤ 96 := by
  have h1 := pastL_length l l.length o.parents
  rw [hS]; omega
 have hSP : Plc l S := hS ▸ plc_past l o.parents
 have hle4 := lw4.2
 have b3 := (lw4.1 _ (hget_lt b3)).trans b3
 have low4 : Low n H G4 := ⟨fun j hj => (lw4.1 j (by omega)).trans (lw.1 j hj), by omega⟩
 obtain ⟨s1, s2⟩ := own_nt hown
 rw [hall, if_neg (by simp), ← hS] at k0
 simp (disch := first | omega | (simp only [lnS]; try omega)) [-getElem?_pos, -getElem?_neg, -notTuple, s1, s2, nt_boolG]
 refine hK _ _ ?_; clear hK K
 refine aw_seq ?_
 refine aw_seq ?_
 (refine aw_ops (by kernel_rfl) (fun K hK => ?_); simp (disch := first | omega | (simp only [lnS]; try omega)) [-getElem?_pos, -getElem?_neg]; refine hK _ _ ?_; clear hK K)
 refine aw_f (by (first | (simp [eval_tmp, put_at]; done) | (simp [eval_tmp, put_at]; omega))) (by kernel_rfl) ?_
 refine aw_skip ?_
 refine aw_seq ?_
 refine aw_seq ?_
 by_cases e1 : o.kind = 1
 ·have e1b : (o.kind == 1) = true := by simp [e1]
  (refine aw_ops (by kernel_rfl) (fun K hK => ?_); simp (disch := first | omega | (simp only [lnS]; try omega)) [-getElem?_pos, -getElem?_neg, b3, o3, hul, e1, e1b]; refine hK _ _ ?_; clear hK K)
  refine aw_t (by (first | (simp [eval_tmp, put_at]; done) | (simp [eval_tmp, put_at]; omega))) (by kernel_rfl) ?_
  refine aw_seq ?_
  (refine aw_ops (by kernel_rfl) (fun K hK => ?_); simp (disch := first | omega | (simp only [lnS]; try omega)) [-getElem?_pos, -getElem?_neg, b3, o4, hul, -notTuple, w1, w2, nt_intG]; refine hK _ _ ?_; clear hK K)
  (refine aw_ret ?_; simp (disch := first | omega | (simp only [lnS]; try omega)) [-getElem?_pos, -getElem?_neg, thenQ_ret, scopeQ_ret, inBlockQ_ret, RQ, resL, resV])
  rw [if_pos e1] at k0
  refine ⟨_, ⟨w1, rfl⟩, low4, wv, ?_, by rw [k0]⟩
  unfold behL
  rw [k0, if_pos rfl, if_pos e1]
  exact hO.who.lowG (hn ▸ low4)
 have e1b : (o.kind == 1) = false := by simp [e1]
 rw [if_neg e1] at k0
 (refine aw_ops (by kernel_rfl) (fun K hK => ?_); simp (disch := first | omega | (simp only [lnS]; try omega)) [-getElem?_pos, -getElem?_neg, b3, o3, hul, e1, e1b]; refine hK _ _ ?_; clear hK K)
 refine aw_f (by (first | (simp [eval_tmp, put_at]; done) | (simp [eval_tmp, put_at]; omega))) (by kernel_rfl) ?_
 refine aw_skip ?_
 have hN4 : NdA G4 nv l := hN.lowG (hn ▸ low4)
 refine aw_seq ?_
 refine aw_ops (by kernel_rfl) (fun K hK => ?_)
 simp (disch := first | omega | (simp only [lnS]; try omega)) [-getElem?_pos, -getElem?_neg, -notTuple, hnt, hvc, nt_intG]
 refine ⟨by kernel_rfl, (rCounts_ac (γ := γ) (nro := nro) hN4 h3 (by omega)).mono ?_⟩
 rintro cv G5 ⟨lw5, F5, hF5, _⟩
 obtain ⟨c1, c2⟩ := own_nt hF5
 have hle5 := lw5.2
 have hown5 := hown.low (H' := G5) (fun j hj => lw5.1 j (hown.lt j hj))
 try simp (disch := first | omega | (simp only [lnS]; try omega)) [-getElem?_pos, -getElem?_neg, -notTuple, c1, c2, s1, s2, nt_intG]
 refine ⟨by kernel_rfl, (rRoster_ac (γ := γ) (nro := nro) (hN4.lowG lw5) (own_cta hF5) h3 (by rw [cnts_len]; omega) (own_inv hown5) hSl (fun z hz => by
  obtain ⟨k, e, hk⟩ := hSP z hz
  exact ⟨k, e, by rw [cnts_len]; exact hk⟩) (by omega)).mono ?_⟩
 rintro iv6 G6 ⟨_, _, lw6, F6, hF6, _⟩
 obtain ⟨i1, i2⟩ := own_nt hF6
 have lw46 := lw5.both lw6
 have hbr : rosB l (cntsB l) S = behR l o := by rw [hS]; rfl
 rw [hbr] at hF6
 have hinv := own_inv hF6
 have hown6 := hown.low (H' := G6) (fun j hj => lw46.1 j (hown.lt j hj))
 have b3 := (lw46.1 _ (hget_lt b3)).trans b3
 have low6 : Low n H G6 := ⟨fun j hj => (lw46.1 j (by omega)).trans (low4.1 j hj), by have := lw46.2; omega⟩
 have hle6 := lw46.2
 have hml := membL_le (behR l o) 8
 have hml2 : (membL (behR l o) 8).length ≤ maxLen := by simp only [maxLen]; omega
 have hO6 : OpC G6 us o pv wv bv := hO.low (fun j hj => low6.1 j (by omega))
 try simp (disch := first | omega | (simp only [lnS]; try omega)) [-getElem?_pos, -getElem?_neg, -notTuple, i1, i2, nt_intG]
 refine hK _ _ ?_; clear hK K
 have hmem : ∀ w : Int, 0 ≤ w → w < 8 → decide (w ∈ membL (behR l o) 8) = behR l o w := fun w h0 h8 => by
  rw [Bool.eq_iff_iff, decide_eq_true_eq, mem_membL]
  exact ⟨fun h => h.2, fun h => ⟨⟨h0, h8⟩, h⟩⟩
 have hau := rightO_author hro
 have in1 := rIn_rc (γ := γ) hinv hml2 o.author
 rw [hmem _ hau.1 hau.2] at in1
 refine aw_seq ?_
 refine aw_seq ?_
 refine aw_ops (by kernel_rfl) (fun K hK => ?_)
 simp (disch := first | omega | (simp only [lnS]; try omega)) [-getElem?_pos, -getElem?_neg, b3, o0, hul, -notTuple, i1, i2, nt_intG]
 refine ⟨by kernel_rfl, ac_of_rc in1 (by simp [pv_iv, pv_int, pv_bool, pv_string, pv_tup2, pv_tup3, iv_plain, p2_int, p2_bool, p2_string]) ?_⟩
 cases hra : behR l o o.author with
 | false =>
  try simp (disch := first | omega | (simp only [lnS]; try omega)) [-getElem?_pos, -getElem?_neg]
  refine hK _ _ ?_; clear hK K
  refine aw_t (by (first | (simp [eval_tmp, put_at]; done) | (simp [eval_tmp, put_at]; omega))) (by kernel_rfl) ?_
  refine aw_seq ?_
  (refine aw_ops (by kernel_rfl) (fun K hK => ?_); simp (disch := first | omega | (simp only [lnS]; try omega)) [-getElem?_pos, -getElem?_neg, nt_slG, nt_intG]; refine hK _ _ ?_; clear hK K)
  (refine aw_ret ?_; simp (disch := first | omega | (simp only [lnS]; try omega)) [-getElem?_pos, -getElem?_neg, thenQ_ret, scopeQ_ret, inBlockQ_ret, RQ, resL, resV])
  exact fin0 G6 16 low6 (by rw [k0, hra, if_pos rfl]) (by decide)
 | true =>
 try simp (disch := first | omega | (simp only [lnS]; try omega)) [-getElem?_pos, -getElem?_neg]
 refine hK _ _ ?_; clear hK K
 refine aw_f (by (first | (simp [eval_tmp, put_at]; done) | (simp [eval_tmp, put_at]; omega))) (by kernel_rfl) ?_
 refine aw_skip ?_
 rw [hra, if_neg (by simp)] at k0
 have hw0 : ∀ K, Low G6.length G6 K → (o.kind = 2 ∨ o.kind = 3) → ∃ x q, o.who = [x] ∧ notTuple q = true ∧ xindexAddr Try.prog 23 wv (.int .i64 0) = some q ∧ xload Try.prog 3 q K = some (.int .i64 x) := fun K hlk hor => by
  obtain ⟨x, hx⟩ := rightO_who1 hro hor
  have hwho := hO6.who
  rw [hx] at hwho
  obtain ⟨q, y, y1, y2, y3, y4, y5⟩ := hwho.acc.at_ 0 (by simp)
  have y5 := y5 K hlk
  subst y4
  exact ⟨x, q, hx, y1, y2, y5⟩
 refine aw_seq ?_
 refine aw_cut (fun α G => ¬ (o.kind = 2 ∧ S.any (fun a => wasB l a.toNat (o.who.getD 0 0)) = true) ∧ α 3 = .pointer (some ⟨n, 0, none⟩) ∧ α 8 = iv6 ∧ Low G6.length G6 G) ?_ ?_
 ·refine aw_seq ?_
  by_cases e2 : o.kind = 2
  case neg =>
   have e2b : (o.kind == 2) = false := by simp [e2]
   (refine aw_ops (by kernel_rfl) (fun K hK => ?_); simp (disch := first | omega | (simp only [lnS]; try omega)) [-getElem?_pos, -getElem?_neg, b3, o3, hul, e2, e2b]; refine hK _ _ ?_; clear hK K)
   refine aw_f (by (first | (simp [eval_tmp, put_at]; done) | (simp [eval_tmp, put_at]; omega))) (by kernel_rfl) ?_
   refine aw_skip ?_
   exact ⟨fun h => e2 h.1, by (first | (simp [put_at, put_none, fr0_at]; done) | rfl), by (first | (simp [put_at, put_none, fr0_at]; done) | rfl), Low.refl (Nat.le_refl _)⟩
  have e2b : (o.kind == 2) = true := by simp [e2]
  obtain ⟨x, q0, hx, _, _, _⟩ := hw0 G6 (Low.refl (Nat.le_refl _)) (.inl e2)
  have hx0 : o.who.getD 0 0 = x := by rw [hx]; rfl
  rw [hx0] at k0 ⊢
  (refine aw_ops (by kernel_rfl) (fun K hK => ?_); simp (disch := first | omega | (simp only [lnS]; try omega)) [-getElem?_pos, -getElem?_neg, b3, o3, hul, e2, e2b]; refine hK _ _ ?_; clear hK K)
  refine aw_t (by (first | (simp [eval_tmp, put_at]; done) | (simp [eval_tmp, put_at]; omega))) (by kernel_rfl) ?_
  refine aw_seq ?_
  (refine aw_ops (by kernel_rfl) (fun K hK => ?_); simp (disch := first | omega | (simp only [lnS]; try omega)) [-getElem?_pos, -getElem?_neg]; refine hK _ _ ?_; clear hK K)
  refine aw_block ?_
  refine aw_loop (fun c α G => ∃ i : Nat, i + c = S.length ∧ α 0 = nv ∧ α 3 = .pointer (some ⟨n, 0, none⟩) ∧ α 6 = sv ∧ α 8 = iv6 ∧ α 9 = .int .i64 (i : Nat) ∧ Low G6.length G6 G ∧ (List.range i).any (fun k => wasB l (S.getD k 0).toNat x) = false) S.length ?_ ?_
  ·exact ⟨0, by omega, by (first | (simp [put_at, put_none, fr0_at]; done) | rfl), by (first | (simp [put_at, put_none, fr0_at]; done) | rfl), by (first | (simp [put_at, put_none, fr0_at]; done) | rfl), by (first | (simp [put_at, put_none, fr0_at]; done) | rfl), by (first | (simp [put_at, put_none, fr0_at]; done) | rfl), Low.refl (Nat.le_refl _), rfl⟩
  rintro c α G7 ⟨i, hic, q0', q3, q6, q8, q9, lw7, hpre⟩
  have hacc := (own_inv hown6).acc
  have sxl := hacc.len
  have hle7 := lw7.2
  refine aw_seq ?_
  refine aw_seq ?_
  by_cases hi : i < S.length
  case neg =>
   obtain rfl : i = S.length := by omega
   (refine aw_ops (by kernel_rfl) (fun K hK => ?_); simp (disch := first | omega | (simp only [lnS]; try omega)) [-getElem?_pos, -getElem?_neg, q6, q9, -notTuple, s1, s2, nt_intG, -xlen, sxl, hi]; refine hK _ _ ?_; clear hK K)
   refine aw_f (by (first | (simp [eval_tmp, put_at, hi]; done) | (simp [eval_tmp, put_at, hi]; omega))) (by kernel_rfl) ?_
   refine aw_exit ?_
   have hnw : ¬ (o.kind = 2 ∧ S.any (fun a => wasB l a.toNat x) = true) := fun h => by
    have h2 := h.2
    rw [any_getD (P := fun a => wasB l a.toNat x)] at hpre
    rw [hpre] at h2
    cases h2
   exact ⟨hnw, by (first | (simp [put_at, put_none, fr0_at, q3]; done) | rfl), by (first | (simp [put_at, put_none, fr0_at, q8]; done) | rfl), lw7⟩
  have hpre2 : (List.range (i + 1)).any (fun k => wasB l (S.getD k 0).toNat x) = wasB l (S.getD i 0).toNat x := by
   have := orTo_succ (fun k => wasB l (S.getD k 0).toNat x) i
   unfold orTo at this
   rw [this, hpre, Bool.false_or]
  obtain ⟨a1, a2, r1, r2, r3, r4, r5⟩ := hacc.at_ i hi
  have r5 := r5 G7 lw7
  subst r4
  have hmi : S.getD i 0 ∈ S := by
   rw [List.getD_eq_getElem?_getD, List.getElem?_eq_getElem hi]
   exact List.getElem_mem hi
  obtain ⟨k, hk, hkl⟩ := hSP _ hmi
  rw [hk] at r5 hpre2
  rw [Int.toNat_natCast] at hpre2
  have low7 : Low n H G7 := ⟨fun j hj => (lw7.1 j (by have := low6.2; omega)).trans (low6.1 j hj), by have := low6.2; omega⟩
  obtain ⟨j, q, bb, u7, pv7, wv7, bv7, hx7, hb7, hq7, hcut, hu7, hO7, hW7⟩ := hN.op_at (hn ▸ low7) hkl
  have hset7 : ∀ Z : List Value, Z.length = 71 → setR Z 0 u7 = u7 := fun Z hZ => setR_all _ _ (by omega)
  have hn7 : nro ≤ G7.length := by have := low7.2; omega
  have b37 := (lw7.1 _ (hget_lt b3)).trans b3
  (refine aw_ops (by kernel_rfl) (fun K hK => ?_); simp (disch := first | omega | (simp only [lnS]; try omega)) [-getElem?_pos, -getElem?_neg, q6, q9, -notTuple, s1, s2, nt_intG, -xlen, sxl, hi]; refine hK _ _ ?_; clear hK K)
  refine aw_t (by (first | (simp [eval_tmp, put_at, hi]; done) | (simp [eval_tmp, put_at, hi]; omega))) (by kernel_rfl) ?_
  refine aw_skip ?_
  refine aw_seq ?_
  refine aw_block ?_
  refine aw_seq ?_
  have xq : xload Try.prog 41 (.pointer (some ⟨j, q + 32, none⟩)) G7 = some (.agg u7.toArray) := by simp [xload, hb7, hcut, hu7, show q + 32 + 71 ≤ bb.cells.length by omega]
  (refine aw_ops (by kernel_rfl) (fun K hK => ?_); simp (disch := first | omega | (simp only [lnS]; try omega)) [-getElem?_pos, -getElem?_neg, q0', q6, q9, -notTuple, hnt, hvc, s1, s2, nt_intG, nt_aggG, r1, -xindexAddr, r2, hx7, -xload, r5, xq, hu7, hp0, all_zl, hset7, hn7]; refine hK _ _ ?_; clear hK K)
  obtain ⟨lw8, b10⟩ := boxed (H := G7) u7 41
  obtain ⟨g, hg⟩ : ∃ g, g = G7.length := ⟨_, rfl⟩
  have b38 := (lw8.1 _ (hget_lt b37)).trans b37
  have hO8 := hO7.low lw8.1
  have lw68 := lw7.both lw8
  rw [← hg] at b10 ⊢
  generalize G7 ++ [some ⟨u7, 41, none⟩] = G8 at *
  obtain ⟨x', q1, hx', y1, y2, y5⟩ := hw0 G8 lw68 (.inl e2)
  obtain rfl : x = x' := by rw [hx] at hx'; cases hx'; rfl
  have o38 := hO8.c3
  have o48 := hO8.c4
  have w81 := hO8.who.acc.nt
  have w82 := hO8.who.acc.cs
  have xl3 : xload Try.prog 3 (.pointer (some ⟨g, 3, none⟩)) G8 = some (.int .i64 (nd l k).op.kind) := by simp [xload, b10, o38]
  have xl4 : xload Try.prog 23 (.pointer (some ⟨g, 4, none⟩)) G8 = some wv7 := by simp [xload, b10, o48]
  have xo4 : xload Try.prog 23 (.pointer (some ⟨n, 4, none⟩)) G8 = some wv := by simp [xload, b38, o4]
  have hwk : wasB l k x = (decide ((nd l k).op.kind ≤ 2) && decide (x ∈ (nd l k).op.who)) := by
   unfold wasB
   rw [kind_le2 h3 hkl]
  refine aw_seq ?_
  refine aw_cut (fun α G => α 66 = .bool (wasB l k x) ∧ α 0 = nv ∧ α 3 = .pointer (some ⟨n, 0, none⟩) ∧ α 6 = sv ∧ α 8 = iv6 ∧ α 9 = .int .i64 (i : Nat) ∧ G = G8) ?_ ?_
  ·by_cases ek : (nd l k).op.kind ≤ 2
   ·(refine aw_plan [] [] [0, 1, 2, 3, 4, 5, 6, 7, 8, 9, 10, 11] 12 0 (by kernel_rfl) (by kernel_rfl) (by kernel_rfl) (fun K hK => ?_)); simp only [sel, List.getElem?_cons_succ, List.getElem?_cons_zero, List.drop_succ_cons, List.drop_zero]; simp (disch := first | omega | (simp only [lnS]; try omega)) [-getElem?_pos, -getElem?_neg, q3, -xload, xl3, xl4, xo4, y5, ek, -xindexAddr, y2, y1, -notTuple, w1, w2, w81, w82, nt_intG, nt_ptrG, PL_nil, plainB_lit, PL_cons, PLc_val, PLc_new, stepP_t, stepP_f, stepPC_n, stepPC_s, stepPX_s, stepPX_n, stepPV_n, stepPV_s, stepPA_t, stepPA_c, stepPA_l, stepPN_s, allocOp, reloc_sl, reloc_ptr, List.map_cons, List.map_nil, List.nil_append, List.append_assoc, List.cons_append, Nat.add_assoc]
    refine PLc_call (v := .bool (decide (x ∈ (nd l k).op.who))) (by kernel_rfl) (fun L hL => rIn_rc (hO8.who.lowG (Low.push (Nat.le_refl _) L)) hW7.wlen x) (by simp [pv_iv, pv_int, pv_bool, pv_string, pv_tup2, pv_tup3, iv_plain, p2_int, p2_bool, p2_string]) ?_
    try simp (disch := first | omega | (simp only [lnS]; try omega)) [-getElem?_pos, -getElem?_neg, PL_nil, plainB_lit, PL_cons, PLc_val, PLc_new, stepP_t, stepP_f, stepPC_n, stepPC_s, stepPX_s, stepPX_n, stepPV_n, stepPV_s, stepPA_t, stepPA_c, stepPA_l, stepPN_s, allocOp, reloc_sl, reloc_ptr, List.map_cons, List.map_nil, List.nil_append, List.append_assoc, List.cons_append, Nat.add_assoc]
    refine hK _ _ ?_; clear hK K
    exact ⟨by rw [hwk, decide_eq_true ek]; (first | (simp [put_at, put_none, fr0_at]; done) | rfl), by (first | (simp [put_at, put_none, fr0_at, q0']; done) | rfl), by (first | (simp [put_at, put_none, fr0_at, q3]; done) | rfl), by (first | (simp [put_at, put_none, fr0_at, q6]; done) | rfl), by (first | (simp [put_at, put_none, fr0_at, q8]; done) | rfl), by (first | (simp [put_at, put_none, fr0_at, q9]; done) | rfl), rfl⟩
   ·(refine aw_plan [] [] [0, 1, 2, 3, 4, 5, 6, 7, 8, 9, 10, 11] 12 0 (by kernel_rfl) (by kernel_rfl) (by kernel_rfl) (fun K hK => ?_)); simp only [sel, List.getElem?_cons_succ, List.getElem?_cons_zero, List.drop_succ_cons, List.drop_zero]; simp (disch := first | omega | (simp only [lnS]; try omega)) [-getElem?_pos, -getElem?_neg, q3, -xload, xl3, ek, -notTuple, nt_intG, nt_ptrG, PL_nil, plainB_lit, PL_cons, PLc_val, PLc_new, stepP_t, stepP_f, stepPC_n, stepPC_s, stepPX_s, stepPX_n, stepPV_n, stepPV_s, stepPA_t, stepPA_c, stepPA_l, stepPN_s, allocOp, reloc_sl, reloc_ptr, List.map_cons, List.map_nil, List.nil_append, List.append_assoc, List.cons_append, Nat.add_assoc]
    refine hK _ _ ?_; clear hK K
    exact ⟨by rw [hwk, decide_eq_false ek]; (first | (simp [put_at, put_none, fr0_at]; done) | rfl), by (first | (simp [put_at, put_none, fr0_at, q0']; done) | rfl), by (first | (simp [put_at, put_none, fr0_at, q3]; done) | rfl), by (first | (simp [put_at, put_none, fr0_at, q6]; done) | rfl), by (first | (simp [put_at, put_none, fr0_at, q8]; done) | rfl), by (first | (simp [put_at, put_none, fr0_at, q9]; done) | rfl), rfl⟩
  clear q0' q3 q6 q8 q9
  rintro α G9 ⟨q66, q0', q3, q6, q8, q9, rfl⟩
  cases hwb : wasB l k x with
  | true =>
   rw [hwb] at q66
   refine aw_t (by (first | (simp [eval_tmp, put_at, q66]; done) | (simp [eval_tmp, put_at, q66]; omega))) (by kernel_rfl) ?_
   refine aw_seq ?_
   (refine aw_ops (by kernel_rfl) (fun K hK => ?_); simp (disch := first | omega | (simp only [lnS]; try omega)) [-getElem?_pos, -getElem?_neg, nt_slG, nt_intG]; refine hK _ _ ?_; clear hK K)
   (refine aw_ret ?_; simp (disch := first | omega | (simp only [lnS]; try omega)) [-getElem?_pos, -getElem?_neg, thenQ_ret, scopeQ_ret, inBlockQ_ret, RQ, resL, resV])
   have hany : S.any (fun a => wasB l a.toNat x) = true := List.any_eq_true.2 ⟨_, hmi, by rw [hk, Int.toNat_natCast]; exact hwb⟩
   have low8 : Low n H G9 := ⟨fun j hj => (lw68.1 j (by have := low6.2; omega)).trans (low6.1 j hj), by have := low6.2; have := lw68.2; omega⟩
   exact fin0 G9 13 low8 (by rw [k0, if_pos ⟨e2, hany⟩]) (by decide)
  | false =>
  rw [hwb] at q66
  refine aw_f (by (first | (simp [eval_tmp, put_at, q66]; done) | (simp [eval_tmp, put_at, q66]; omega))) (by kernel_rfl) ?_
  refine aw_skip ?_
  (refine aw_ops (by kernel_rfl) (fun K hK => ?_); simp (disch := first | omega | (simp only [lnS]; try omega)) [-getElem?_pos, -getElem?_neg, q9]; refine hK _ _ ?_; clear hK K)
  exact ⟨c - 1, by omega, i + 1, by omega, by (first | (simp [put_at, put_none, fr0_at, q0']; done) | rfl), by (first | (simp [put_at, put_none, fr0_at, q3]; done) | rfl), by (first | (simp [put_at, put_none, fr0_at, q6]; done) | rfl), by (first | (simp [put_at, put_none, fr0_at, q8]; done) | rfl), by (first | (simp [put_at, put_none, fr0_at]; done) | rfl), lw68, by rw [hpre2]; exact hwb⟩
 rintro α G7 ⟨hnw, q3, q8, lw7⟩
 rw [if_neg hnw] at k0
 have hle7 := lw7.2
 have b37 := (lw7.1 _ (hget_lt b3)).trans b3
 have low7 : Low n H G7 := ⟨fun j hj => (lw7.1 j (by have := low6.2; omega)).trans (low6.1 j hj), by have := low6.2; omega⟩
 have hinv7 := hinv.lowG lw7
 have xo3 : xload Try.prog 3 (.pointer (some ⟨n, 3, none⟩)) G7 = some (.int .i64 o.kind) := by simp [xload, b37, o3]
 have xo4 : xload Try.prog 23 (.pointer (some ⟨n, 4, none⟩)) G7 = some wv := by simp [xload, b37, o4]
 have hend : alwE l o = 0 → behL l o = membL (behR l o) 8 := fun h => by
  unfold behL
  rw [h, if_pos rfl, if_neg e1]
 refine aw_seq ?_
 refine aw_seq ?_
 by_cases e3 : o.kind = 3
 case neg =>
  have e3b : (o.kind == 3) = false := by simp [e3]
  rw [if_neg (fun h => e3 h.1)] at k0
  (refine aw_ops (by kernel_rfl) (fun K hK => ?_); simp (disch := first | omega | (simp only [lnS]; try omega)) [-getElem?_pos, -getElem?_neg, q3, -xload, xo3, e3, e3b, -notTuple, nt_intG]; refine hK _ _ ?_; clear hK K)
  refine aw_f (by (first | (simp [eval_tmp, put_at]; done) | (simp [eval_tmp, put_at]; omega))) (by kernel_rfl) ?_
  refine aw_skip ?_
  refine aw_seq ?_
  (refine aw_ops (by kernel_rfl) (fun K hK => ?_); simp (disch := first | omega | (simp only [lnS]; try omega)) [-getElem?_pos, -getElem?_neg, q8, -notTuple, i1, i2, nt_intG]; refine hK _ _ ?_; clear hK K)
  (refine aw_ret ?_; simp (disch := first | omega | (simp only [lnS]; try omega)) [-getElem?_pos, -getElem?_neg, thenQ_ret, scopeQ_ret, inBlockQ_ret, RQ, resL, resV])
  refine ⟨_, ⟨i1, rfl⟩, low7, iv6, ?_, by rw [k0]⟩
  rw [hend k0]
  exact hinv7
 have e3b : (o.kind == 3) = true := by simp [e3]
 obtain ⟨x, q1, hx, y1, y2, y5⟩ := hw0 G7 lw7 (.inr e3)
 have hx0 : o.who.getD 0 0 = x := by rw [hx]; rfl
 have hxm := who_mem hro (x := x) (by rw [hx]; exact List.mem_singleton.2 rfl)
 rw [hx0] at k0
 have in2 := rIn_rc (γ := γ) hinv7 hml2 x
 rw [hmem x hxm.1 hxm.2] at in2
 refine aw_ops (by kernel_rfl) (fun K hK => ?_)
 simp (disch := first | omega | (simp only [lnS]; try omega)) [-getElem?_pos, -getElem?_neg, q3, q8, -xload, xo3, xo4, y5, -xindexAddr, y2, e3, e3b, -notTuple, i1, i2, w1, w2, y1, nt_intG, nt_ptrG]
 refine ⟨by kernel_rfl, ac_of_rc in2 (by simp [pv_iv, pv_int, pv_bool, pv_string, pv_tup2, pv_tup3, iv_plain, p2_int, p2_bool, p2_string]) ?_⟩
 cases hrx : behR l o x with
 | false =>
  try simp (disch := first | omega | (simp only [lnS]; try omega)) [-getElem?_pos, -getElem?_neg]
  refine hK _ _ ?_; clear hK K
  refine aw_t (by (first | (simp [eval_tmp, put_at]; done) | (simp [eval_tmp, put_at]; omega))) (by kernel_rfl) ?_
  refine aw_seq ?_
  (refine aw_ops (by kernel_rfl) (fun K hK => ?_); simp (disch := first | omega | (simp only [lnS]; try omega)) [-getElem?_pos, -getElem?_neg, nt_slG, nt_intG]; refine hK _ _ ?_; clear hK K)
  (refine aw_ret ?_; simp (disch := first | omega | (simp only [lnS]; try omega)) [-getElem?_pos, -getElem?_neg, thenQ_ret, scopeQ_ret, inBlockQ_ret, RQ, resL, resV])
  exact fin0 G7 22 low7 (by rw [k0, if_pos ⟨e3, hrx⟩]) (by decide)
 | true =>
  rw [if_neg (fun h => by rw [hrx] at h; cases h.2)] at k0
  try simp (disch := first | omega | (simp only [lnS]; try omega)) [-getElem?_pos, -getElem?_neg]
  refine hK _ _ ?_; clear hK K
  refine aw_f (by (first | (simp [eval_tmp, put_at]; done) | (simp [eval_tmp, put_at]; omega))) (by kernel_rfl) ?_
  refine aw_skip ?_
  refine aw_seq ?_
  (refine aw_ops (by kernel_rfl) (fun K hK => ?_); simp (disch := first | omega | (simp only [lnS]; try omega)) [-getElem?_pos, -getElem?_neg, q8, -notTuple, i1, i2, nt_intG]; refine hK _ _ ?_; clear hK K)
  (refine aw_ret ?_; simp (disch := first | omega | (simp only [lnS]; try omega)) [-getElem?_pos, -getElem?_neg, thenQ_ret, scopeQ_ret, inBlockQ_ret, RQ, resL, resV])
  refine ⟨_, ⟨i1, rfl⟩, low7, iv6, ?_, by rw [k0]⟩
  rw [hend k0]
  exact hinv7
end
section
def toR (l : List NodeD) (o : OpD) (w : Int) : Bool := (decide (w ∈ behL l o) || (decide (o.kind = 2) && decide (o.who.getD 0 0 = w))) && (!decide (w = o.author) && !(decide (o.kind = 3) && decide (o.who.getD 0 0 = w)))
theorem alwE_op {l : List NodeD} {o : OpD} (h : alwE l o = 0) : rightO o = true := by
 unfold alwE at h
 by_cases hb : (rightG l && rightO o) = false
 ·rw [if_pos hb] at h; cases h
 ·simp only [Bool.not_eq_false, Bool.and_eq_true] at hb
  exact hb.2
theorem to_eq {l : List NodeD} {o : OpD} (h : alwE l o = 0) {w : Int} (h0 : 0 ≤ w) (h8 : w < 8) : toR l o w = toG (alwR l o) o w := by
 have hro := alwE_op h
 unfold toR toG behL alwR
 rw [h, if_pos rfl]
 by_cases e1 : o.kind = 1
 ·rw [if_pos e1, if_pos e1]
  simp [e1, Bool.and_comm]
 ·have hR : (if (0 : Int) = 0 ∧ o.kind ≠ 1 then behR l o else fun _ => false) = behR l o := if_pos ⟨rfl, e1⟩
  rw [hR, if_neg e1, if_neg e1]
  have hm : decide (w ∈ membL (behR l o) 8) = behR l o w := by
   rw [Bool.eq_iff_iff, decide_eq_true_eq, mem_membL]
   exact ⟨fun h => h.2, fun h => ⟨⟨h0, h8⟩, h⟩⟩
  rw [hm]
  by_cases e2 : o.kind = 2
  ·obtain ⟨x, hx⟩ := rightO_who1 hro (.inl e2)
   rw [hx, if_pos e2]
   have : decide (w ∈ [x]) = decide (x = w) := by simp [eq_comm]
   simp [e2, this, Bool.and_comm, eq_comm]
  ·rw [if_neg e2]
   by_cases e3 : o.kind = 3
   ·obtain ⟨x, hx⟩ := rightO_who1 hro (.inr e3)
    rw [hx, if_pos e3]
    have : decide (w ∈ [x]) = decide (x = w) := by simp [eq_comm]
    simp [e3, this, Bool.and_comm, Bool.and_left_comm, Bool.and_assoc, eq_comm]
   ·rw [if_neg e3]
    simp [e2, e3, Bool.and_comm]
theorem membL_congr {P Q : Int → Bool} {k : Nat} (h : ∀ w : Int, 0 ≤ w → w < k → P w = Q w) : membL P k = membL Q k := by
 unfold membL
 refine List.filter_congr fun z hz => ?_
 have := mem_rgZ.1 (show z ∈ rgZ k from hz)
 exact h z this.1 this.2
attribute [local simp] wb_bool wb_undef with_lit XL_nil XL_cons XLc_val XLc_call step1_eq stepW_t stepW_f stepC_n stepC_s stepX_s stepX_n stepN_s calleeX oneV xop_eq xopR_s xopR_n wantedA_eq wantedG_n wantedG_s plain1_int plain1_bool plain1_string bits_i64 bits_u64 bits_u32 bits_u16 bits_u8 xeqA xagg xcmp xarr allK_iv num_iv calleeOf xread xeff xbin xint xnil xun xstr xload xconv xpart xfield xfieldAddr xindexAddr xindex bnd asInt? xslice xlen xmin xmax xbuild xfill xappend xapp2 xappstr xappmk xcap xcopy xcells eval_tmp eval_const put_at put_none fr0_at cells_agg cells_int cells_bool cells_string cells_ptr cells_slice notTuple tab iv_all hget_app hget_app0 hget_cons0 hget_cons set_app set_app0 setR setR_one QL_nil QL_cons QLc_val stepQ_t stepQ_f stepQC_n stepQC_s stepQX_s SL_nil SL_cons SLc_val stepS_t stepS_f ltT ltF leT leF eqT eqF ltTn ltFn leTn leFn eqTn eqFn beqT beqF bneT bneF wi64 wu64 wu32 wu16 wu8 tmodP tdivP hgetL hgetNe hgetEq setL nums_def nums_len Nat.succ_le_of_lt List.getElem?_cons_zero List.getElem?_cons_succ Option.getD_some Int.toNat_add Int.toNat_mul agM okM agB agI agS agP agL agA okB okI okS okP okSl okA
theorem rRefTo_ac {γ : Nat → Option Nat} {nro : Nat} {H : AH} {nv : Value} {us : List Value} {l : List NodeD} {o : OpD} {pv wv bv : Value} (hN : NdA H nv l) (h3 : rightG l = true) (hO : OpC H us o pv wv bv) (hw : o.Wf) (hnro : nro ≤ H.length) : AC Try.prog nro γ 29 #[nv, .agg us.toArray] H (fun v' H' => Low H.length H H' ∧ ∃ sv F, OwnF H' sv 3 1 (iv .i64 (toL l o)) F ∧ (∀ j ∈ F, H.length ≤ j) ∧ v' = .tuple #[sv, .int .i64 (alwE l o)]) := by
 have hnt := hN.nt
 have hvc := hN.cs
 have hul := hO.len
 have hset : ∀ Z : List Value, Z.length = 71 → setR Z 0 us = us := fun Z hZ => setR_all _ _ (by omega)
 have htu : us.take 71 = us := List.take_of_length_le (by omega)
 have hp0 : plain1 (.slice none 0 0) = true := rfl
 obtain ⟨n, hn⟩ : ∃ n, n = H.length := ⟨_, rfl⟩
 rw [← hn] at hnro ⊢
 refine ac_of_aw Try.func29 rfl Try.ntmps29 Try.results29 (by simp) ?_
 refine aw_seq ?_
 (refine aw_ops (by kernel_rfl) (fun K hK => ?_); simp (disch := first | omega | (simp only [lnS]; try omega)) [-getElem?_pos, -getElem?_neg, -notTuple, hnt, hvc, hul, nt_aggG, hp0, all_zl, hset, htu, ← hn]; refine hK _ _ ?_; clear hK K)
 obtain ⟨lw, b3⟩ := boxed (H := H) us 41
 rw [← hn] at b3 lw
 generalize H ++ [some ⟨us, 41, none⟩] = G at *
 have hle := lw.2
 have hO1 : OpC G us o pv wv bv := hO.low (fun j hj => lw.1 j (by omega))
 have hN1 : NdA G nv l := hN.lowG (hn ▸ lw)
 have rb := rBeh_ac (γ := γ) (nro := nro) hN1 h3 hO1 hw (by omega)
 have o0 := hO.c0
 have o3 := hO.c3
 have o4 := hO.c4
 have w1 := hO.who.acc.nt
 have w2 := hO.who.acc.cs
 refine aw_seq ?_
 refine aw_ops (by kernel_rfl) (fun K hK => ?_)
 simp (disch := first | omega | (simp only [lnS]; try omega)) [-getElem?_pos, -getElem?_neg, b3, hul, htu, -notTuple, hnt, hvc, nt_aggG, nt_intG]
 refine ⟨by kernel_rfl, rb.mono ?_⟩
 rintro v G2 ⟨lw2, sv, hinv, rfl⟩
 have s1 := hinv.acc.nt
 have s2 := hinv.acc.cs
 have low2 : Low n H G2 := ⟨fun j hj => (lw2.1 j (by omega)).trans (lw.1 j hj), by have := lw2.2; omega⟩
 have b3 := (lw2.1 _ (hget_lt b3)).trans b3
 have hO2 := hO1.low lw2.1
 have hle2 := lw2.2
 simp (disch := first | omega | (simp only [lnS]; try omega)) [-getElem?_pos, -getElem?_neg, -notTuple, s1, s2, nt_intG]
 refine hK _ _ ?_; clear hK K
 refine aw_seq ?_
 refine aw_seq ?_
 by_cases he : alwE l o = 0
 case neg =>
  have heb : (alwE l o == 0) = false := by simp [he]
  have hL : toL l o = [] := by unfold toL; rw [if_neg he]
  rw [hL]
  (refine aw_ops (by kernel_rfl) (fun K hK => ?_); simp (disch := first | omega | (simp only [lnS]; try omega)) [-getElem?_pos, -getElem?_neg, he, heb]; refine hK _ _ ?_; clear hK K)
  refine aw_t (by (first | (simp [eval_tmp, put_at]; done) | (simp [eval_tmp, put_at]; omega))) (by kernel_rfl) ?_
  refine aw_seq ?_
  (refine aw_ops (by kernel_rfl) (fun K hK => ?_); simp (disch := first | omega | (simp only [lnS]; try omega)) [-getElem?_pos, -getElem?_neg, nt_intG]; refine hK _ _ ?_; clear hK K)
  (refine aw_ret ?_; simp (disch := first | omega | (simp only [lnS]; try omega)) [-getElem?_pos, -getElem?_neg, thenQ_ret, scopeQ_ret, inBlockQ_ret, RQ, resL, resV, he])
  exact ⟨low2, _, [], .inl ⟨rfl, by simp [iv], rfl⟩, (fun j hj => by cases hj), rfl⟩
 have heb : (alwE l o == 0) = true := by simp [he]
 have hro := alwE_op he
 have hL : toL l o = membL (toR l o) 8 := by
  unfold toL
  rw [if_pos he]
  exact (membL_congr fun w h0 h8 => to_eq he h0 (by omega)).symm
 have hBl : (behL l o).length ≤ maxLen := by
  unfold behL
  rw [if_pos he]
  split
  ·exact hw.wlen
  ·have := membL_le (behR l o) 8
   simp only [maxLen]; omega
 rw [hL, he]
 (refine aw_ops (by kernel_rfl) (fun K hK => ?_); simp (disch := first | omega | (simp only [lnS]; try omega)) [-getElem?_pos, -getElem?_neg, he, heb]; refine hK _ _ ?_; clear hK K)
 refine aw_f (by (first | (simp [eval_tmp, put_at]; done) | (simp [eval_tmp, put_at]; omega))) (by kernel_rfl) ?_
 refine aw_skip ?_
 refine aw_seq ?_
 (refine aw_ops (by kernel_rfl) (fun K hK => ?_); simp (disch := first | omega | (simp only [lnS]; try omega)) [-getElem?_pos, -getElem?_neg]; refine hK _ _ ?_; clear hK K)
 refine aw_seq ?_
 refine aw_seq ?_
 (refine aw_ops (by kernel_rfl) (fun K hK => ?_); simp (disch := first | omega | (simp only [lnS]; try omega)) [-getElem?_pos, -getElem?_neg]; refine hK _ _ ?_; clear hK K)
 refine aw_block ?_
 refine aw_loop (fun c α G => ∃ (k : Nat) (x : Value) (F : List Nat), k + c = 8 ∧ Low G2.length G2 G ∧ α 3 = .pointer (some ⟨n, 0, none⟩) ∧ α 6 = sv ∧ α 8 = x ∧ α 9 = .int .i64 (k : Nat) ∧ OwnF G x 3 1 (iv .i64 (membL (toR l o) k)) F ∧ ∀ j ∈ F, n ≤ j ∧ G2.length ≤ j) 8 ?_ ?_
 ·exact ⟨0, .slice none 0 0, [], by omega, Low.refl (Nat.le_refl _), by (first | (simp [put_at, put_none, fr0_at]; done) | rfl), by (first | (simp [put_at, put_none, fr0_at]; done) | rfl), by (first | (simp [put_at, put_none, fr0_at]; done) | rfl), by (first | (simp [put_at, put_none, fr0_at]; done) | rfl), .inl ⟨rfl, rfl, rfl⟩, fun j hj => by cases hj⟩
 rintro c α G3 ⟨k, x, F, hkc, lw3, q3, q6, q8, q9, hF, hFl⟩
 obtain ⟨x1, x2⟩ := own_nt hF
 have hle3 := lw3.2
 have b33 := (lw3.1 _ (hget_lt b3)).trans b3
 have low3 : Low n H G3 := ⟨fun j hj => (lw3.1 j (by have := low2.2; omega)).trans (low2.1 j hj), by have := low2.2; omega⟩
 refine aw_seq ?_
 refine aw_seq ?_
 by_cases hk : k < 8
 case neg =>
  obtain rfl : k = 8 := by omega
  (refine aw_ops (by kernel_rfl) (fun K hK => ?_); simp (disch := first | omega | (simp only [lnS]; try omega)) [-getElem?_pos, -getElem?_neg, q9]; refine hK _ _ ?_; clear hK K)
  refine aw_f (by (first | (simp [eval_tmp, put_at]; done) | (simp [eval_tmp, put_at]; omega))) (by kernel_rfl) ?_
  refine aw_exit ?_
  refine aw_seq ?_
  (refine aw_ops (by kernel_rfl) (fun K hK => ?_); simp (disch := first | omega | (simp only [lnS]; try omega)) [-getElem?_pos, -getElem?_neg, q8, -notTuple, x1, x2, nt_intG]; refine hK _ _ ?_; clear hK K)
  (refine aw_ret ?_; simp (disch := first | omega | (simp only [lnS]; try omega)) [-getElem?_pos, -getElem?_neg, thenQ_ret, scopeQ_ret, inBlockQ_ret, RQ, resL, resV])
  refine ⟨_, ⟨x1, rfl⟩, ?_⟩
  exact ⟨low3, _, F, hF, (fun j hj => (hFl j hj).1), rfl⟩
 have xl0 : xload Try.prog 3 (.pointer (some ⟨n, 0, none⟩)) G3 = some (.int .i64 o.author) := by simp [xload, b33, o0]
 have xl3 : xload Try.prog 3 (.pointer (some ⟨n, 3, none⟩)) G3 = some (.int .i64 o.kind) := by simp [xload, b33, o3]
 have xl4 : xload Try.prog 23 (.pointer (some ⟨n, 4, none⟩)) G3 = some wv := by simp [xload, b33, o4]
 have hw0 : (o.kind = 2 ∨ o.kind = 3) → ∃ y q, o.who.getD 0 0 = y ∧ notTuple q = true ∧ xindexAddr Try.prog 23 wv (.int .i64 0) = some q ∧ xload Try.prog 3 q G3 = some (.int .i64 y) := fun hor => by
  obtain ⟨y, hy⟩ := rightO_who1 hro hor
  have hwho := hO2.who
  rw [hy] at hwho ⊢
  obtain ⟨q, z, y1, y2, y3, y4, y5⟩ := hwho.acc.at_ 0 (by simp)
  have y5 := y5 G3 lw3
  subst y4
  exact ⟨y, q, rfl, y1, y2, y5⟩
 have in1 := rIn_rc (γ := γ) (hinv.lowG lw3) hBl (k : Int)
 have hsu := membL_succ (toR l o) k
 have hle8 := membL_le (toR l o) k
 have hT : toR l o (k : Int) = ((decide ((k : Int) ∈ behL l o) || (decide (o.kind = 2) && decide (o.who.getD 0 0 = (k : Int)))) && (!decide ((k : Int) = o.author) && !(decide (o.kind = 3) && decide (o.who.getD 0 0 = (k : Int))))) := rfl
 obtain ⟨b, hb⟩ : ∃ b, b = (decide ((k : Int) ∈ behL l o) || (decide (o.kind = 2) && decide (o.who.getD 0 0 = (k : Int)))) := ⟨_, rfl⟩
 rw [← hb] at hT
 (refine aw_ops (by kernel_rfl) (fun K hK => ?_); simp (disch := first | omega | (simp only [lnS]; try omega)) [-getElem?_pos, -getElem?_neg, q9, hk]; refine hK _ _ ?_; clear hK K)
 refine aw_t (by (first | (simp [eval_tmp, put_at]; done) | (simp [eval_tmp, put_at]; omega))) (by kernel_rfl) ?_
 refine aw_skip ?_
 refine aw_seq ?_
 refine aw_block ?_
 refine aw_seq ?_
 refine aw_cut (fun α G => α 10 = .bool b ∧ α 3 = .pointer (some ⟨n, 0, none⟩) ∧ α 6 = sv ∧ α 8 = x ∧ α 9 = .int .i64 (k : Nat) ∧ G = G3) ?_ ?_
 ·refine aw_ops (by kernel_rfl) (fun K hK => ?_)
  simp (disch := first | omega | (simp only [lnS]; try omega)) [-getElem?_pos, -getElem?_neg, q6, q9, -notTuple, s1, s2, nt_intG]
  refine ⟨by kernel_rfl, ac_of_rc in1 (by simp [pv_iv, pv_int, pv_bool, pv_string, pv_tup2, pv_tup3, iv_plain, p2_int, p2_bool, p2_string]) ?_⟩
  cases hin : decide ((k : Int) ∈ behL l o) with
  | true =>
   try simp (disch := first | omega | (simp only [lnS]; try omega)) [-getElem?_pos, -getElem?_neg]
   refine hK _ _ ?_; clear hK K
   exact ⟨by rw [hb, hin]; (first | (simp [put_at, put_none, fr0_at]; done) | rfl), by (first | (simp [put_at, put_none, fr0_at, q3]; done) | rfl), by (first | (simp [put_at, put_none, fr0_at, q6]; done) | rfl), by (first | (simp [put_at, put_none, fr0_at, q8]; done) | rfl), by (first | (simp [put_at, put_none, fr0_at, q9]; done) | rfl), rfl⟩
  | false =>
   rw [hin, Bool.false_or] at hb
   by_cases e2 : o.kind = 2
   ·have e2b : (o.kind == 2) = true := by simp [e2]
    obtain ⟨y, q, hy, y1, y2, y5⟩ := hw0 (.inl e2)
    rw [hy, decide_eq_true e2, Bool.true_and] at hb
    by_cases ey : y = (k : Int)
    ·have eyb : (y == (k : Int)) = true := by simp [ey]
     rw [decide_eq_true ey] at hb
     simp (disch := first | omega | (simp only [lnS]; try omega)) [-getElem?_pos, -getElem?_neg, q3, q9, -xload, xl3, xl4, y5, -xindexAddr, y2, e2, e2b, ey, eyb, -notTuple, y1, w1, w2, nt_intG, nt_ptrG]
     refine hK _ _ ?_; clear hK K
     exact ⟨by rw [hb]; (first | (simp [put_at, put_none, fr0_at]; done) | rfl), by (first | (simp [put_at, put_none, fr0_at, q3]; done) | rfl), by (first | (simp [put_at, put_none, fr0_at, q6]; done) | rfl), by (first | (simp [put_at, put_none, fr0_at, q8]; done) | rfl), by (first | (simp [put_at, put_none, fr0_at, q9]; done) | rfl), rfl⟩
    ·have eyb : (y == (k : Int)) = false := by simp [ey]
     rw [decide_eq_false ey] at hb
     simp (disch := first | omega | (simp only [lnS]; try omega)) [-getElem?_pos, -getElem?_neg, q3, q9, -xload, xl3, xl4, y5, -xindexAddr, y2, e2, e2b, ey, eyb, -notTuple, y1, w1, w2, nt_intG, nt_ptrG]
     refine hK _ _ ?_; clear hK K
     exact ⟨by rw [hb]; (first | (simp [put_at, put_none, fr0_at]; done) | rfl), by (first | (simp [put_at, put_none, fr0_at, q3]; done) | rfl), by (first | (simp [put_at, put_none, fr0_at, q6]; done) | rfl), by (first | (simp [put_at, put_none, fr0_at, q8]; done) | rfl), by (first | (simp [put_at, put_none, fr0_at, q9]; done) | rfl), rfl⟩
   ·have e2b : (o.kind == 2) = false := by simp [e2]
    rw [decide_eq_false e2, Bool.false_and] at hb
    simp (disch := first | omega | (simp only [lnS]; try omega)) [-getElem?_pos, -getElem?_neg, q3, -xload, xl3, e2, e2b, -notTuple, nt_intG, nt_ptrG]
    refine hK _ _ ?_; clear hK K
    exact ⟨by rw [hb]; (first | (simp [put_at, put_none, fr0_at]; done) | rfl), by (first | (simp [put_at, put_none, fr0_at, q3]; done) | rfl), by (first | (simp [put_at, put_none, fr0_at, q6]; done) | rfl), by (first | (simp [put_at, put_none, fr0_at, q8]; done) | rfl), by (first | (simp [put_at, put_none, fr0_at, q9]; done) | rfl), rfl⟩
 clear q3 q6 q8 q9
 rintro α G4 ⟨q10, q3, q6, q8, q9, rfl⟩
 refine aw_seq ?_
 refine aw_cut (fun α G => α 60 = .bool (toR l o (k : Int)) ∧ α 3 = .pointer (some ⟨n, 0, none⟩) ∧ α 6 = sv ∧ α 8 = x ∧ α 9 = .int .i64 (k : Nat) ∧ G = G4) ?_ ?_
 ·clear hb in1
  rw [hT]
  cases b with
  | false =>
   (refine aw_ops (by kernel_rfl) (fun K hK => ?_); simp (disch := first | omega | (simp only [lnS]; try omega)) [-getElem?_pos, -getElem?_neg, q10]; refine hK _ _ ?_; clear hK K)
   exact ⟨by (first | (simp [put_at, put_none, fr0_at]; done) | rfl), by (first | (simp [put_at, put_none, fr0_at, q3]; done) | rfl), by (first | (simp [put_at, put_none, fr0_at, q6]; done) | rfl), by (first | (simp [put_at, put_none, fr0_at, q8]; done) | rfl), by (first | (simp [put_at, put_none, fr0_at, q9]; done) | rfl), rfl⟩
  | true =>
  by_cases ea : (k : Int) = o.author
  ·have eab : ((k : Int) == o.author) = true := by simp [ea]
   (refine aw_ops (by kernel_rfl) (fun K hK => ?_); simp (disch := first | omega | (simp only [lnS]; try omega)) [-getElem?_pos, -getElem?_neg, q10, q3, q9, -xload, xl0, ea, eab, -notTuple, nt_intG, nt_ptrG]; refine hK _ _ ?_; clear hK K)
   exact ⟨by rw [decide_eq_true ea]; (first | (simp [put_at, put_none, fr0_at]; done) | rfl), by (first | (simp [put_at, put_none, fr0_at, q3]; done) | rfl), by (first | (simp [put_at, put_none, fr0_at, q6]; done) | rfl), by (first | (simp [put_at, put_none, fr0_at, q8]; done) | rfl), by (first | (simp [put_at, put_none, fr0_at, q9]; done) | rfl), rfl⟩
  have eab : ((k : Int) == o.author) = false := by simp [ea]
  rw [decide_eq_false ea]
  by_cases e3 : o.kind = 3
  ·have e3b : (o.kind == 3) = true := by simp [e3]
   obtain ⟨y, q, hy, y1, y2, y5⟩ := hw0 (.inr e3)
   rw [hy, decide_eq_true e3]
   by_cases ey : y = (k : Int)
   ·have eyb : (y == (k : Int)) = true := by simp [ey]
    rw [decide_eq_true ey]
    (refine aw_ops (by kernel_rfl) (fun K hK => ?_); simp (disch := first | omega | (simp only [lnS]; try omega)) [-getElem?_pos, -getElem?_neg, q10, q3, q9, -xload, xl0, xl3, xl4, y5, -xindexAddr, y2, ea, eab, e3, e3b, ey, eyb, -notTuple, y1, w1, w2, nt_intG, nt_ptrG]; refine hK _ _ ?_; clear hK K)
    exact ⟨by (first | (simp [put_at, put_none, fr0_at]; done) | rfl), by (first | (simp [put_at, put_none, fr0_at, q3]; done) | rfl), by (first | (simp [put_at, put_none, fr0_at, q6]; done) | rfl), by (first | (simp [put_at, put_none, fr0_at, q8]; done) | rfl), by (first | (simp [put_at, put_none, fr0_at, q9]; done) | rfl), rfl⟩
   ·have eyb : (y == (k : Int)) = false := by simp [ey]
    rw [decide_eq_false ey]
    (refine aw_ops (by kernel_rfl) (fun K hK => ?_); simp (disch := first | omega | (simp only [lnS]; try omega)) [-getElem?_pos, -getElem?_neg, q10, q3, q9, -xload, xl0, xl3, xl4, y5, -xindexAddr, y2, ea, eab, e3, e3b, ey, eyb, -notTuple, y1, w1, w2, nt_intG, nt_ptrG]; refine hK _ _ ?_; clear hK K)
    exact ⟨by (first | (simp [put_at, put_none, fr0_at]; done) | rfl), by (first | (simp [put_at, put_none, fr0_at, q3]; done) | rfl), by (first | (simp [put_at, put_none, fr0_at, q6]; done) | rfl), by (first | (simp [put_at, put_none, fr0_at, q8]; done) | rfl), by (first | (simp [put_at, put_none, fr0_at, q9]; done) | rfl), rfl⟩
  ·have e3b : (o.kind == 3) = false := by simp [e3]
   rw [decide_eq_false e3]
   (refine aw_ops (by kernel_rfl) (fun K hK => ?_); simp (disch := first | omega | (simp only [lnS]; try omega)) [-getElem?_pos, -getElem?_neg, q10, q3, q9, -xload, xl0, xl3, ea, eab, e3, e3b, -notTuple, nt_intG, nt_ptrG]; refine hK _ _ ?_; clear hK K)
   exact ⟨by (first | (simp [put_at, put_none, fr0_at]; done) | rfl), by (first | (simp [put_at, put_none, fr0_at, q3]; done) | rfl), by (first | (simp [put_at, put_none, fr0_at, q6]; done) | rfl), by (first | (simp [put_at, put_none, fr0_at, q8]; done) | rfl), by (first | (simp [put_at, put_none, fr0_at, q9]; done) | rfl), rfl⟩
 clear q3 q6 q8 q9 q10
 rintro α G5 ⟨q60, q3, q6, q8, q9, rfl⟩
 cases hTk : toR l o (k : Int) with
 | false =>
  rw [hTk] at q60 hsu
  refine aw_f (by (first | (simp [eval_tmp, put_at, q60]; done) | (simp [eval_tmp, put_at, q60]; omega))) (by kernel_rfl) ?_
  refine aw_skip ?_
  (refine aw_ops (by kernel_rfl) (fun K hK => ?_); simp (disch := first | omega | (simp only [lnS]; try omega)) [-getElem?_pos, -getElem?_neg, q9]; refine hK _ _ ?_; clear hK K)
  exact ⟨c - 1, by omega, k + 1, x, F, by omega, lw3, by (first | (simp [put_at, put_none, fr0_at, q3]; done) | rfl), by (first | (simp [put_at, put_none, fr0_at, q6]; done) | rfl), by (first | (simp [put_at, put_none, fr0_at, q8]; done) | rfl), by (first | (simp [put_at, put_none, fr0_at]; done) | rfl), by rw [hsu]; exact hF, hFl⟩
 | true =>
  rw [hTk, if_pos rfl] at hsu
  rw [hTk] at q60
  refine aw_t (by (first | (simp [eval_tmp, put_at, q60]; done) | (simp [eval_tmp, put_at, q60]; omega))) (by kernel_rfl) ?_
  generalize membL (toR l o) k = out at *
  have hxc : xcells 1 (.slice (some ⟨G5.length, 0, none⟩) 1 1) (G5 ++ [some ⟨[.int .i64 (k : Nat)], 3, some 1⟩]) = some (iv .i64 [(k : Int)]) := by simp [xcells, iv, hget_app0]
  obtain ⟨v', G6, hap, ho3, hl3, hk3⟩ := ownF_append (P := Try.prog) (nro := nro) (t := 23) (e := 3) (H := G5 ++ [some ⟨[.int .i64 (k : Nat)], 3, some 1⟩]) (v := x) (x := .slice (some ⟨G5.length, 0, none⟩) 1 1) (sz := 1) (cells := iv .i64 out) (news := iv .i64 [(k : Int)]) (F := F) (by simp) (by simp) (by omega) (by simp) (hF.low (fun j hj => hget_left (hF.lt j hj)))
   (fun j hj => by have := (hFl j hj).1; omega) (fun s e => by cases e) hxc (by simp [iv]) (Nat.mod_one _) (by rw [iv_length, iv_length]; simp; omega) (by rw [iv_length, iv_length]; simp [maxLen]; omega)
  (refine aw_ops (by kernel_rfl) (fun K hK => ?_); simp (disch := first | omega | (simp only [lnS]; try omega)) [-getElem?_pos, -getElem?_neg, q8, q9, -notTuple, x1, x2, nt_intG, nt_slG, -xappend, hap]; refine hK _ _ ?_; clear hK K)
  (refine aw_ops (by kernel_rfl) (fun K hK => ?_); simp (disch := first | omega | (simp only [lnS]; try omega)) [-getElem?_pos, -getElem?_neg, q9]; refine hK _ _ ?_; clear hK K)
  have lw5 : Low G2.length G2 G6 := ⟨fun j hj => (hk3 j (by simp; omega) (fun h => by have := (hFl _ h).2; omega)).trans ((hget_left (by omega)).trans (lw3.1 j hj)), by rw [hl3]; simp; omega⟩
  refine ⟨c - 1, by omega, k + 1, v', _, by omega, lw5, by (first | (simp [put_at, put_none, fr0_at, q3]; done) | rfl), by (first | (simp [put_at, put_none, fr0_at, q6]; done) | rfl), by (first | (simp [put_at, put_none, fr0_at]; done) | rfl), by (first | (simp [put_at, put_none, fr0_at]; done) | rfl), by rw [hsu, iv_append]; exact ho3, fun j hj => ?_⟩
  rw [List.mem_singleton] at hj
  rw [hj]
  simp
  omega
end
section
attribute [local simp] wb_bool wb_undef with_lit XL_nil XL_cons XLc_val XLc_call step1_eq stepW_t stepW_f stepC_n stepC_s stepX_s stepX_n stepN_s calleeX oneV xop_eq xopR_s xopR_n wantedA_eq wantedG_n wantedG_s plain1_int plain1_bool plain1_string bits_i64 bits_u64 bits_u32 bits_u16 bits_u8 xeqA xagg xcmp xarr allK_iv num_iv calleeOf xread xeff xbin xint xnil xun xstr xload xconv xpart xfield xfieldAddr xindexAddr xindex bnd asInt? xslice xlen xmin xmax xbuild xfill xappend xapp2 xappstr xappmk xcap xcopy xcells eval_tmp eval_const put_at put_none fr0_at cells_agg cells_int cells_bool cells_string cells_ptr cells_slice notTuple tab iv_all hget_app hget_app0 hget_cons0 hget_cons set_app set_app0 setR setR_one QL_nil QL_cons QLc_val stepQ_t stepQ_f stepQC_n stepQC_s stepQX_s SL_nil SL_cons SLc_val stepS_t stepS_f ltT ltF leT leF eqT eqF ltTn ltFn leTn leFn eqTn eqFn beqT beqF bneT bneF wi64 wu64 wu32 wu16 wu8 tmodP tdivP hgetL hgetNe hgetEq setL nums_def nums_len Nat.succ_le_of_lt List.getElem?_cons_zero List.getElem?_cons_succ Option.getD_some Int.toNat_add Int.toNat_mul agM okM agB agI agS agP agL agA okB okI okS okP okSl okA
theorem allows_law {γ : Nat → Option Nat} {H : AH} {ds dso : List CD} {u : Value} {us : List Value} (ho : OkL [.sl nodeK] ds) (hv : ValL H ds [u]) (hoo : OkL opK dso) (hvo : ValL H dso us) : AC Try.prog H.length γ 4 #[u, .agg us.toArray] H (fun v' _ => v' = .bool true) := by
 obtain ⟨l, hV, hw, hm⟩ := nodes_in ho hv
 obtain ⟨o, pv, wv, bv, hO, hwo⟩ := op_in hoo hvo
 have hN := hV.nda hw
 obtain ⟨v1, v2⟩ := val_nt hV
 have hul := hO.len
 have htu : us.take 71 = us := List.take_of_length_le (by omega)
 have hset : ∀ Z : List Value, Z.length = 71 → setR Z 0 us = us := fun Z hZ => setR_all _ _ (by omega)
 have hp0 : plain1 (.slice none 0 0) = true := rfl
 refine ac_of_aw Try.func4 rfl Try.ntmps4 Try.results4 (by simp) ?_
 refine aw_seq ?_
 (refine aw_ops (by kernel_rfl) (fun K hK => ?_); simp (disch := first | omega | (simp only [lnS]; try omega)) [-getElem?_pos, -getElem?_neg, -notTuple, v1, v2, hul, nt_aggG, hp0, all_zl, hset, htu]; refine hK _ _ ?_; clear hK K)
 obtain ⟨lw, b3⟩ := boxed (H := H) us 41
 obtain ⟨n, hn⟩ : ∃ n, n = H.length := ⟨_, rfl⟩
 rw [← hn] at b3 lw ⊢
 generalize H ++ [some ⟨us, 41, none⟩] = G at *
 have hle := lw.2
 have hNG : NdA G u l := hN.lowG (hn ▸ lw)
 have hOG : OpC G us o pv wv bv := hO.low (fun j hj => lw.1 j (by omega))
 have al := ralive_rc (γ := γ) (H := G)
 have gr := greatG_rc (γ := γ) hNG
 have go := greatO_rc (γ := γ) hOG hwo
 refine aw_seq ?_
 refine aw_seq ?_
 refine aw_ops (by kernel_rfl) (fun K hK => ?_)
 simp (disch := first | omega | (simp only [lnS]; try omega)) [-getElem?_pos, -getElem?_neg]
 refine ⟨by kernel_rfl, ac_of_rc al (by simp [pv_iv, pv_int, pv_bool, pv_string, pv_tup2, pv_tup3, iv_plain, p2_int, p2_bool, p2_string]) ?_⟩
 try simp (disch := first | omega | (simp only [lnS]; try omega)) [-getElem?_pos, -getElem?_neg]
 refine hK _ _ ?_; clear hK K
 refine aw_f (by (first | (simp [eval_tmp, put_at]; done) | (simp [eval_tmp, put_at]; omega))) (by kernel_rfl) ?_
 refine aw_skip ?_
 refine aw_seq ?_
 refine aw_seq ?_
 refine aw_cut (fun α G2 => α 17 = .bool (greatG l || greatO o) ∧ α 0 = u ∧ α 3 = .pointer (some ⟨n, 0, none⟩) ∧ G2 = G) ?_ ?_
 ·refine aw_ops (by kernel_rfl) (fun K hK => ?_)
  simp (disch := first | omega | (simp only [lnS]; try omega)) [-getElem?_pos, -getElem?_neg, -notTuple, v1, v2, nt_intG]
  refine ⟨by kernel_rfl, ac_of_rc gr (by simp [pv_iv, pv_int, pv_bool, pv_string, pv_tup2, pv_tup3, iv_plain, p2_int, p2_bool, p2_string]) ?_⟩
  cases hg : greatG l with
  | true =>
   try simp (disch := first | omega | (simp only [lnS]; try omega)) [-getElem?_pos, -getElem?_neg]
   refine hK _ _ ?_; clear hK K
   exact ⟨by rw [hg]; (first | (simp [put_at, put_none, fr0_at]; done) | rfl), by (first | (simp [put_at, put_none, fr0_at]; done) | rfl), by (first | (simp [put_at, put_none, fr0_at]; done) | rfl), rfl⟩
  | false =>
   simp (disch := first | omega | (simp only [lnS]; try omega)) [-getElem?_pos, -getElem?_neg, b3, hul, htu, nt_aggG]
   refine ⟨by kernel_rfl, ac_of_rc go (by simp [pv_iv, pv_int, pv_bool, pv_string, pv_tup2, pv_tup3, iv_plain, p2_int, p2_bool, p2_string]) ?_⟩
   cases hg2 : greatO o with
   | true =>
    try simp (disch := first | omega | (simp only [lnS]; try omega)) [-getElem?_pos, -getElem?_neg]
    refine hK _ _ ?_; clear hK K
    exact ⟨by rw [hg, hg2]; (first | (simp [put_at, put_none, fr0_at]; done) | rfl), by (first | (simp [put_at, put_none, fr0_at]; done) | rfl), by (first | (simp [put_at, put_none, fr0_at]; done) | rfl), rfl⟩
   | false =>
    try simp (disch := first | omega | (simp only [lnS]; try omega)) [-getElem?_pos, -getElem?_neg]
    refine hK _ _ ?_; clear hK K
    exact ⟨by rw [hg, hg2]; (first | (simp [put_at, put_none, fr0_at]; done) | rfl), by (first | (simp [put_at, put_none, fr0_at]; done) | rfl), by (first | (simp [put_at, put_none, fr0_at]; done) | rfl), rfl⟩
 rintro α G2 ⟨q17, q0, q3, rfl⟩
 cases hb : (greatG l || greatO o) with
 | true =>
  rw [hb] at q17
  refine aw_t (by (first | (simp [eval_tmp, put_at, q17]; done) | (simp [eval_tmp, put_at, q17]; omega))) (by kernel_rfl) ?_
  refine aw_seq ?_
  refine aw_ops (by kernel_rfl) (fun K hK => ?_)
  simp (disch := first | omega | (simp only [lnS]; try omega)) [-getElem?_pos, -getElem?_neg]
  refine ⟨by kernel_rfl, ac_of_rc al (by simp [pv_iv, pv_int, pv_bool, pv_string, pv_tup2, pv_tup3, iv_plain, p2_int, p2_bool, p2_string]) ?_⟩
  try simp (disch := first | omega | (simp only [lnS]; try omega)) [-getElem?_pos, -getElem?_neg]
  refine hK _ _ ?_; clear hK K
  (refine aw_ret ?_; simp (disch := first | omega | (simp only [lnS]; try omega)) [-getElem?_pos, -getElem?_neg, thenQ_ret, scopeQ_ret, inBlockQ_ret, RQ, resL, resV])
 | false =>
 rw [hb] at q17
 refine aw_f (by (first | (simp [eval_tmp, put_at, q17]; done) | (simp [eval_tmp, put_at, q17]; omega))) (by kernel_rfl) ?_
 refine aw_skip ?_
 have ra := rAllowed_rc (γ := γ) hNG hOG hwo
 refine aw_seq ?_
 refine aw_ops (by kernel_rfl) (fun K hK => ?_)
 simp (disch := first | omega | (simp only [lnS]; try omega)) [-getElem?_pos, -getElem?_neg, q0, q3, b3, hul, htu, -notTuple, v1, v2, nt_intG, nt_aggG]
 refine ⟨by kernel_rfl, ac_of_rc ra (by simp [pv_iv, pv_int, pv_bool, pv_string, pv_tup2, pv_tup3, iv_plain, p2_int, p2_bool, p2_string]) ?_⟩
 try simp (disch := first | omega | (simp only [lnS]; try omega)) [-getElem?_pos, -getElem?_neg]
 refine hK _ _ ?_; clear hK K
 refine aw_seq ?_
 refine aw_ops (by kernel_rfl) (fun K hK => ?_)
 simp (disch := first | omega | (simp only [lnS]; try omega)) [-getElem?_pos, -getElem?_neg, q0, q3, b3, hul, htu, -notTuple, v1, v2, nt_intG, nt_aggG]
 refine ⟨by kernel_rfl, (rTo_ac (γ := γ) (nro := n) hNG hOG hwo (by omega)).mono ?_⟩
 rintro v G3 ⟨lw3, sv, F, hF, hFl, rfl⟩
 obtain ⟨s1, s2⟩ := own_nt hF
 have hle3 := lw3.2
 simp (disch := first | omega | (simp only [lnS]; try omega)) [-getElem?_pos, -getElem?_neg, -notTuple, s1, s2, nt_intG]
 refine hK _ _ ?_; clear hK K
 have low3 : Low n H G3 := ⟨fun j hj => (lw3.1 j (by omega)).trans (lw.1 j hj), by omega⟩
 have hrg := rRightG_rc (γ := γ) (hV.low (fun j hj => low3.1 j (by omega))) hw hm
 have al3 := ralive_rc (γ := γ) (H := G3)
 have hN3 : NdA G3 u l := hN.lowG (hn ▸ low3)
 have b33 := (lw3.1 _ (hget_lt b3)).trans b3
 have hO3 := hOG.low lw3.1
 refine aw_seq ?_
 refine aw_seq ?_
 refine aw_ops (by kernel_rfl) (fun K hK => ?_)
 simp (disch := first | omega | (simp only [lnS]; try omega)) [-getElem?_pos, -getElem?_neg, q0, -notTuple, v1, v2, nt_intG]
 refine ⟨by kernel_rfl, ac_of_rc hrg (by simp [pv_iv, pv_int, pv_bool, pv_string, pv_tup2, pv_tup3, iv_plain, p2_int, p2_bool, p2_string]) ?_⟩
 cases h3 : rightG l with
 | false =>
  have e1 : alwE l o = 1 := by unfold alwE; rw [h3, Bool.false_and, if_pos rfl]
  have eL : toL l o = [] := by unfold toL; rw [e1, if_neg (by decide)]
  rw [eL] at hF
  have hsn := (own_inv hF).acc.len
  try simp (disch := first | omega | (simp only [lnS]; try omega)) [-getElem?_pos, -getElem?_neg]
  refine hK _ _ ?_; clear hK K
  refine aw_t (by (first | (simp [eval_tmp, put_at]; done) | (simp [eval_tmp, put_at]; omega))) (by kernel_rfl) ?_
  refine aw_seq ?_
  refine aw_ops (by kernel_rfl) (fun K hK => ?_)
  simp (disch := first | omega | (simp only [lnS]; try omega)) [-getElem?_pos, -getElem?_neg]
  refine ⟨by kernel_rfl, ac_of_rc al3 (by simp [pv_iv, pv_int, pv_bool, pv_string, pv_tup2, pv_tup3, iv_plain, p2_int, p2_bool, p2_string]) ?_⟩
  simp (disch := first | omega | (simp only [lnS]; try omega)) [-getElem?_pos, -getElem?_neg, e1, -notTuple, s1, s2, nt_intG, -xlen, hsn]
  refine hK _ _ ?_; clear hK K
  (refine aw_ret ?_; simp (disch := first | omega | (simp only [lnS]; try omega)) [-getElem?_pos, -getElem?_neg, thenQ_ret, scopeQ_ret, inBlockQ_ret, RQ, resL, resV])
 | true =>
 try simp (disch := first | omega | (simp only [lnS]; try omega)) [-getElem?_pos, -getElem?_neg]
 refine hK _ _ ?_; clear hK K
 refine aw_f (by (first | (simp [eval_tmp, put_at]; done) | (simp [eval_tmp, put_at]; omega))) (by kernel_rfl) ?_
 refine aw_skip ?_
 refine aw_seq ?_
 refine aw_ops (by kernel_rfl) (fun K hK => ?_)
 simp (disch := first | omega | (simp only [lnS]; try omega)) [-getElem?_pos, -getElem?_neg, q0, q3, b33, hul, htu, -notTuple, v1, v2, nt_intG, nt_aggG]
 refine ⟨by kernel_rfl, (rRefTo_ac (γ := γ) (nro := n) hN3 h3 hO3 hwo (by omega)).mono ?_⟩
 rintro v G4 ⟨lw4, tv, F4, hF4, hFl4, rfl⟩
 obtain ⟨t1, t2⟩ := own_nt hF4
 have hle4 := lw4.2
 simp (disch := first | omega | (simp only [lnS]; try omega)) [-getElem?_pos, -getElem?_neg, -notTuple, t1, t2, nt_intG]
 refine hK _ _ ?_; clear hK K
 have al4 := ralive_rc (γ := γ) (H := G4)
 have hLl : (toL l o).length ≤ maxLen := by
  unfold toL
  split
  ·have := membL_le (toG (alwR l o) o) 8
   simp only [maxLen]; omega
  ·exact Nat.zero_le _
 have si := sameInts_rc (γ := γ) ((own_inv hF).lowG lw4) (own_inv hF4) hLl
 rw [decide_eq_true rfl] at si
 generalize alwE l o = e at *
 refine aw_seq ?_
 refine aw_ops (by kernel_rfl) (fun K hK => ?_)
 simp (disch := first | omega | (simp only [lnS]; try omega)) [-getElem?_pos, -getElem?_neg]
 refine ⟨by kernel_rfl, ac_of_rc al4 (by simp [pv_iv, pv_int, pv_bool, pv_string, pv_tup2, pv_tup3, iv_plain, p2_int, p2_bool, p2_string]) ?_⟩
 simp (disch := first | omega | (simp only [lnS]; try omega)) [-getElem?_pos, -getElem?_neg, -notTuple, s1, s2, t1, t2, nt_intG]
 refine ⟨by kernel_rfl, ac_of_rc si (by simp [pv_iv, pv_int, pv_bool, pv_string, pv_tup2, pv_tup3, iv_plain, p2_int, p2_bool, p2_string]) ?_⟩
 try simp (disch := first | omega | (simp only [lnS]; try omega)) [-getElem?_pos, -getElem?_neg]
 refine hK _ _ ?_; clear hK K
 (refine aw_ret ?_; simp (disch := first | omega | (simp only [lnS]; try omega)) [-getElem?_pos, -getElem?_neg, thenQ_ret, scopeQ_ret, inBlockQ_ret, RQ, resL, resV])
end
end Go.Proofs.Ytdeccbjdhcifiaa
