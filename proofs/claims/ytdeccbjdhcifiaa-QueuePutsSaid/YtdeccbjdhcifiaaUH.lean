/-
  The law's update: an operation behind another one.
  The law's first queues, as data.
  What is wanted of queue.Without; the first queues, well-formed.
  slices.Delete of one, at a queue of the call's own.
  queue.Without.
  The vector of layer 19.
  QueuePuts: the law, walked.
-/
import Derived.Test.YtdeccbjdhcifiaaUG
import Derived.Test.YtdeccbjdhcifiaaUF
import Derived.Test.YtdeccbjdhcifiaaUC
namespace Go.Proofs.Ytdeccbjdhcifiaa
open Go Go.RowKit
set_option linter.unusedSimpArgs false
set_option linter.unusedVariables false
set_option maxRecDepth 100000
set_option maxHeartbeats 4000000
section
theorem build_updq (d : Addr) (n : Nat) : xbuild Try.prog 41 [(0, .int .i64 1), (1, .int .u32 1), (3, .int .i64 4), (2, .slice (some d) n n), (6, .agg (iv .u8 (key1 1)).toArray)] = some (.agg (opRow (opC1 1 1 4 [] []) (.slice (some d) n n) (.slice none 0 0) (.slice none 0 0)).toArray) := by kernel_rfl
attribute [local simp] wb_bool wb_undef with_lit XL_nil XL_cons XLc_val XLc_call step1_eq stepW_t stepW_f stepC_n stepC_s stepX_s stepX_n stepN_s calleeX xrecv oneV xop_eq xopR_s xopR_n wantedA_eq wantedG_n wantedG_s plain1_int plain1_bool plain1_string bits_i64 bits_u64 bits_u32 bits_u16 bits_u8 xeqA xagg xcmp xarr allK_iv num_iv calleeOf xread xeff xbin xint xnil xun xstr xload xconv xpart xfield xfieldAddr xindexAddr xindex bnd asInt? xslice xlen xmin xmax xbuild xfill xappend xapp2 xappstr xappmk xcap xcopy xcells eval_tmp eval_const put_at put_none fr0_at cells_agg cells_int cells_bool cells_string cells_ptr cells_slice notTuple tab iv_all hget_app hget_app0 hget_cons0 hget_cons set_app set_app0 setR setR_one QL_nil QL_cons QLc_val stepQ_t stepQ_f stepQC_n stepQC_s stepQX_s SL_nil SL_cons SLc_val stepS_t stepS_f ltT ltF leT leF eqT eqF ltTn ltFn leTn leFn eqTn eqFn beqT beqF bneT bneF wi64 wu64 wu32 wu16 wu8 tmodP tdivP hgetL hgetNe hgetEq setL nums_def nums_len Nat.succ_le_of_lt List.getElem?_cons_zero List.getElem?_cons_succ Option.getD_some Int.toNat_add Int.toNat_mul agM okM agB agI agS agP agL agA okB okI okS okP okSl okA
theorem updateQ_ac {nro : Nat} {γ : Nat → Option Nat} {H : AH} {k : List Int} (hk32 : k.length = 32) (hnro : nro ≤ H.length) : AC Try.prog nro γ 85 #[.agg (iv .u8 k).toArray] H (fun v' H' => Low H.length H H' ∧ v' = .agg (opRow (opC1 1 1 4 [k] []) (.slice (some ⟨H.length + 2, 0, none⟩) 1 1) (.slice none 0 0) (.slice none 0 0)).toArray ∧ hget H' (H.length + 2) = some ⟨iv .u8 k, 38, some 32⟩) := by
 have hb := build_updq ⟨H.length + 2, 0, none⟩ 1
 have hkk := build_key 1
 rw [opRow_c1 1 1 4 [k] []] at hb
 have hrl : (opRow (opC1 1 1 4 [k] []) (.slice (some ⟨H.length + 2, 0, none⟩) 1 1) (.slice none 0 0) (.slice none 0 0)).length = 71 := rfl
 generalize iv .u8 (key1 1) = kk at *
 generalize opRow (opC1 1 1 4 [k] []) (.slice (some ⟨H.length + 2, 0, none⟩) 1 1) (.slice none 0 0) (.slice none 0 0) = R at *
 have hset : ∀ Z : List Value, Z.length = 71 → setR Z 0 R = R := fun Z hZ => setR_all _ _ (by omega)
 have htk : R.take 71 = R := List.take_of_length_le (by omega)
 have hkl : (iv .u8 k).length = 32 := by rw [iv_length, hk32]
 have htz : (iv .u8 k).take 32 = iv .u8 k := List.take_of_length_le (by omega)
 have fk := fill_keyG (k := .u8) (x := k) (n := 32) (zl 32) hkl
 generalize iv .u8 k = kc at *
 refine ac_of_aw Try.func85 rfl Try.ntmps85 Try.results85 (by simp) ?_
 refine aw_seq ?_
 (refine aw_ops (by kernel_rfl) (fun K hK => ?_); simp (disch := first | omega | (simp only [lnS]; try omega)) [-getElem?_pos, -getElem?_neg, all_zl, hkl, nt_aggG]; refine hK _ _ ?_; clear hK K)
 obtain ⟨ZZ, hZZ, hZl⟩ : ∃ ZZ : List Value, (Value.int .i64 0 :: .int .u32 0 :: .slice none 0 0 :: .int .i64 0 :: .slice none 0 0 :: (iv .u8 (zl 64) ++ [.string ByteArray.empty, .slice none 0 0])) = ZZ ∧ ZZ.length = 71 := ⟨_, rfl, by simp⟩
 rw [hZZ]
 have hset := hset ZZ hZl
 obtain ⟨n, hn⟩ : ∃ n, n = H.length := ⟨_, rfl⟩
 obtain ⟨G, hG⟩ : ∃ G : AH, G = H ++ [some ⟨kc, 38, none⟩, some ⟨ZZ, 41, none⟩] := ⟨_, rfl⟩
 have b1 : hget G n = some ⟨kc, 38, none⟩ := by rw [hG, hn, hget_app0]; rfl
 have b2 : hget G (n + 1) = some ⟨ZZ, 41, none⟩ := by rw [hG, hn, hget_app]; rfl
 have lw : Low n H G := by rw [hG, hn]; exact Low.push (Nat.le_refl _) _
 have gl : G.length = n + 2 := by rw [hG, hn]; simp
 rw [← hG, ← hn]
 rw [← hn] at hb hnro
 clear hG
 rw [← gl] at hb
 have hn2 : nro ≤ n + 1 := by omega
 refine aw_seq ?_
 refine aw_cut (fun α G2 => α 2 = .pointer (some ⟨n + 1, 0, none⟩) ∧ hget G2 (n + 1) = some ⟨R, 41, none⟩ ∧ Low n H G2 ∧ hget G2 (n + 2) = some ⟨kc, 38, some 32⟩) ?_ ?_
 ·obtain ⟨lw3, b3⟩ := boxed2 (H := G) kc 38 32
  rw [gl] at b3
  have c2 := (lw3.1 _ (hget_lt b2)).trans b2
  (refine aw_ops (by kernel_rfl) (fun K hK => ?_); simp (disch := first | omega | (simp only [lnS]; try omega)) [-getElem?_pos, -getElem?_neg, b1, hkl, htz, -xbuild, hkk, -xfill, fk, nt_aggG, nt_slG, all_zl, hb, b2, c2, hrl, hZl, hset, hn2]; refine hK _ _ ?_; clear hK K)
  exact ⟨by (first | (simp [put_at, put_none, fr0_at]; done) | rfl), by rw [hget_left (by rw [List.length_set]; omega), hget_set_eq (hget_lt b2)], ⟨fun j hj => (hget_left (by rw [List.length_set]; omega)).trans ((hget_set_ne (by omega)).trans (lw.1 j hj)), by simp; omega⟩, by rw [show n + 2 = (G.set (n + 1) (some ⟨R, 41, none⟩)).length by rw [List.length_set]; omega, hget_app0]; rfl⟩
 rintro α G2 ⟨q2, b2', lw2, b3⟩
 (refine aw_ret ?_; simp (disch := first | omega | (simp only [lnS]; try omega)) [-getElem?_pos, -getElem?_neg, thenQ_ret, scopeQ_ret, inBlockQ_ret, RQ, resL, resV, q2, b2', hrl, htk])
 exact ⟨lw2, b3⟩
end
section
def hO1 : OpD := opC1 1 1 4 [key1 2] []
def hO2 : OpD := opC1 0 1 1 [] [0]
def hD1 : HeldD := ⟨key1 3, hO1, []⟩
def hD2 : HeldD := ⟨key1 2, hO2, []⟩
theorem hO1_wf : hO1.Wf := opC1_wf (by unfold I64; omega) (by unfold U32; omega) (by unfold I64; omega) (fun p hp => by simp at hp; subst hp; exact key1_ok (by omega)) (by simp) (by simp) (Nat.zero_le _)
theorem hO2_wf : hO2.Wf := opC1_wf (by unfold I64; omega) (by unfold U32; omega) (by unfold I64; omega) (by simp) (Nat.zero_le _) (by unfold I64; simp) (by simp)
theorem hD1_wf : hD1.Wf := ⟨key1_ok (by omega), hO1_wf, fun k hk => (by cases hk), Nat.zero_le _⟩
theorem hD2_wf : hD2.Wf := ⟨key1_ok (by omega), hO2_wf, fun k hk => (by cases hk), Nat.zero_le _⟩
theorem qdat1 : putE [] hD1 = 0 ∧ putE [hD1] hD2 = 0 := by decide +kernel
theorem qdat2 : wantsL [] [hD1] 1 = [key1 2] := by decide +kernel
theorem qdat3 : readyI [] [hD1] = -1 ∧ readyI [] [hD1, hD2] = 1 ∧ rightQ [hD1] = true ∧ rightQ [hD1, hD2] = true ∧ findIH [hD1, hD2] 2 (key1 2) = 1 := by decide +kernel
theorem sortK_one (k : List Int) : sortK [k] = [k] := List.perm_singleton.1 (sortK_perm [k])
theorem build_h1 (d : Addr) : xbuild Try.prog 60 [(0, .agg (iv .u8 (key1 3)).toArray), (1, .agg (opRow hO1 (.slice (some d) 1 1) (.slice none 0 0) (.slice none 0 0)).toArray)] = some (.agg (heldRow hD1 (.slice (some d) 1 1) (.slice none 0 0) (.slice none 0 0) (.slice none 0 0)).toArray) := by kernel_rfl
theorem build_h2 (d : Addr) : xbuild Try.prog 60 [(0, .agg (iv .u8 (key1 2)).toArray), (1, .agg (opRow hO2 (.slice none 0 0) (.slice (some d) 1 1) (.slice none 0 0)).toArray)] = some (.agg (heldRow hD2 (.slice none 0 0) (.slice (some d) 1 1) (.slice none 0 0) (.slice none 0 0)).toArray) := by kernel_rfl
theorem held_hc {G : AH} {x : HeldD} {pv wv bv kv : Value} (hw : x.Wf) (h1 : KsV G pv x.op.parents) (h2 : InV G wv x.op.who) (h3 : BxV G bv x.op.boxes) (h4 : KsV G kv x.got) : ∃ pv' wv' bv' kv', HdC G (heldRow x pv wv bv kv) x pv' wv' bv' kv' := held_c hw (held_val h1 h2 h3 h4)
end
section
def WithoutOK : Prop := ∀ (γ : Nat → Option Nat) (nro : Nat) (H : AH) (qv : Value) (l : List HeldD) (z : Int), HdA H qv l → l.length ≤ maxLen → (∀ y ∈ l, y.got.length ≤ 1000) → nro ≤ H.length →
 AC Try.prog nro γ 39 #[qv, .int .i64 z] H (fun v' H' => Low H.length H H' ∧ ∃ sv, v' = .tuple #[sv, .int .i64 (witE l z)] ∧ ((witE l z = 0 ∧ NewGH H.length H' sv (withoutL l z.toNat)) ∨ (witE l z ≠ 0 ∧ sv = .slice none 0 0)))
theorem nil_hda (H : AH) : HdA H (.slice none 0 0) [] := HdV.hda (CD.Val.nil (fun x e => by cases e)) (fun x hx => by cases hx)
theorem NewGH.hda {n : Nat} {H G : AH} {v : Value} {l : List HeldD} (h : NewGH n H v l) (hw : ∀ x ∈ l, x.Wf) (hk : KeepN n H G) : HdA G v l := (h G hk).hda hw
theorem wit0 : witE [hD1, hD2] 0 = 0 ∧ withoutL [hD1, hD2] 0 = [hD2] := ⟨by decide +kernel, rfl⟩
theorem q1_wf : ∀ x ∈ [hD1], x.Wf := fun x hx => by rw [List.mem_singleton] at hx; subst hx; exact hD1_wf
theorem q2_wf : ∀ x ∈ [hD1, hD2], x.Wf := fun x hx => by
 simp at hx
 rcases hx with rfl | rfl
 ·exact hD1_wf
 ·exact hD2_wf
end
section
theorem cut_rows {R : List (List Value)} {Z : List Value} {a : Nat} (hR : ∀ r ∈ R, r.length = 104) (ha : a < R.length) (hZ : Z.length = 104) :
  setR (setR R.flatten (a * 104) (R.drop (a + 1)).flatten) ((R.length - 1) * 104) Z = (R.take a ++ R.drop (a + 1)).flatten ++ Z := by
 obtain ⟨x, hx⟩ : ∃ x, R[a]? = some x := ⟨_, List.getElem?_eq_getElem ha⟩
 have hxl := hR x (List.mem_of_getElem? hx)
 have hsplit : R = R.take a ++ x :: R.drop (a + 1) := by
  have h1 : R.drop a = x :: R.drop (a + 1) := by
   obtain ⟨h, e⟩ := List.getElem?_eq_some_iff.1 hx
   rw [List.drop_eq_getElem_cons h, e]
  rw [← h1, List.take_append_drop]
 have hA : (R.take a).flatten.length = a * 104 := by
  rw [fl_len (n := 104) (fun r hr => hR r (List.mem_of_mem_take hr)), List.length_take, Nat.min_eq_left (by omega)]
 have hB : (R.drop (a + 1)).flatten.length = (R.length - (a + 1)) * 104 := by
  rw [fl_len (n := 104) (fun r hr => hR r (List.mem_of_mem_drop hr)), List.length_drop]
 have hflat : R.flatten = (R.take a).flatten ++ (x ++ (R.drop (a + 1)).flatten) := by
  have := congrArg List.flatten hsplit
  rw [List.flatten_append, List.flatten_cons] at this
  exact this
 rw [hflat, List.flatten_append]
 generalize (R.take a).flatten = A at *
 generalize (R.drop (a + 1)).flatten = B at *
 have e1 : setR (A ++ (x ++ B)) (a * 104) B = A ++ (B ++ (x ++ B).drop B.length) := by
  rw [← hA, ← Nat.add_zero A.length, setR_right _ _ _ _ (by simp), setR_frontF _ _ (by simp)]
 rw [e1, ← List.append_assoc]
 have hD : ((x ++ B).drop B.length).length = 104 := by simp [hxl]
 generalize (x ++ B).drop B.length = D at *
 have hAB : (A ++ B).length = (R.length - 1) * 104 := by
  rw [List.length_append, hA, hB, ← Nat.add_mul]
  congr 1
  omega
 rw [← hAB, ← Nat.add_zero (A ++ B).length, setR_right _ _ _ _ (by omega), setR_all _ _ (by omega)]
attribute [local simp] wb_bool wb_undef with_lit XL_nil XL_cons XLc_val XLc_call step1_eq stepW_t stepW_f stepC_n stepC_s stepX_s stepX_n stepN_s calleeX xrecv oneV xop_eq xopR_s xopR_n wantedA_eq wantedG_n wantedG_s plain1_int plain1_bool plain1_string bits_i64 bits_u64 bits_u32 bits_u16 bits_u8 xeqA xagg xcmp xarr allK_iv num_iv calleeOf xread xeff xbin xint xnil xun xstr xload xconv xpart xfield xfieldAddr xindexAddr xindex bnd asInt? xslice xlen xmin xmax xbuild xfill xappend xapp2 xappstr xappmk xcap xcopy xcells eval_tmp eval_const put_at put_none fr0_at cells_agg cells_int cells_bool cells_string cells_ptr cells_slice notTuple tab iv_all hget_app hget_app0 hget_cons0 hget_cons set_app set_app0 setR setR_one QL_nil QL_cons QLc_val stepQ_t stepQ_f stepQC_n stepQC_s stepQX_s SL_nil SL_cons SLc_val stepS_t stepS_f ltT ltF leT leF eqT eqF ltTn ltFn leTn leFn eqTn eqFn beqT beqF bneT bneF wi64 wu64 wu32 wu16 wu8 tmodP tdivP hgetL hgetNe hgetEq setL nums_def nums_len Nat.succ_le_of_lt List.getElem?_cons_zero List.getElem?_cons_succ Option.getD_some Int.toNat_add Int.toNat_mul agM okM agB agI agS agP agL agA okB okI okS okP okSl okA
theorem deleteH_ac {nro : Nat} {γ : Nat → Option Nat} {H : AH} {b a : Nat} {R : List (List Value)} (hb : hget H b = some ⟨R.flatten, 60, some 104⟩) (hnro : nro ≤ b) (hR : ∀ r ∈ R, r.length = 104) (ha : a < R.length) (hl : R.length ≤ 1000) :
  AC Try.prog nro γ 87 #[.slice (some ⟨b, 0, none⟩) R.length R.length, .int .i64 (a : Nat), .int .i64 ((a + 1 : Nat) : Int)] H (fun v' H' => v' = .slice (some ⟨b, 0, none⟩) (R.length - 1) (R.length - 1) ∧ ∃ Z, H' = H.set b (some ⟨(R.take a ++ R.drop (a + 1)).flatten ++ Z, 60, some 104⟩)) := by
 have ht : und Try.prog 58 = .slice 60 := by kernel_rfl
 have hs : szt Try.prog 60 = 104 := by kernel_rfl
 have hbl := hget_lt hb
 have hfl := fl_len hR
 obtain ⟨z, hz⟩ : ∃ z, zer Try.prog 60 = some z := by
  have : (zer Try.prog 60).isSome = true := by kernel_rfl
  exact Option.isSome_iff_exists.1 this
 have hzl : z.cells.size = 104 := by
  have : (zer Try.prog 60).map (fun z => z.cells.size) = some 104 := by kernel_rfl
  rw [hz] at this
  simpa using this
 have hzp : z.cells.toList.all plain1 = true := by
  have : (zer Try.prog 60).map (fun z => z.cells.toList.all plain1) = some true := by kernel_rfl
  rw [hz] at this
  simpa using this
 obtain ⟨x2, hx2⟩ : ∃ x2, x2 = if a + 1 = R.length then Value.slice (some ⟨b, 0, some 0⟩) 0 0 else .slice (some ⟨b, (a + 1) * 104, none⟩) (R.length - (a + 1)) (R.length - (a + 1)) := ⟨_, rfl⟩
 have f1 : xslice Try.prog 58 (.slice (some ⟨b, 0, none⟩) R.length R.length) none (some (.int .i64 (a : Nat))) H = some (.slice (some ⟨b, 0, none⟩) a a) := by
  unfold xslice
  simp only [ht, bnd, asInt?, hs]
  rw [if_pos ⟨by omega, by omega, by omega, by omega⟩]
  simp
 have f2 : xslice Try.prog 58 (.slice (some ⟨b, 0, none⟩) R.length R.length) (some (.int .i64 ((a + 1 : Nat) : Int))) none H = some x2 := by
  unfold xslice
  simp only [ht, bnd, asInt?, hs]
  rw [if_pos ⟨by omega, by omega, by omega, by omega⟩, hx2]
  by_cases e : a + 1 = R.length
  ·rw [if_pos ⟨by omega, by omega⟩, if_pos e]
  ·rw [if_neg (by omega), if_neg e]
   simp
 obtain ⟨_, c2⟩ := fl_cut hR (show a + 1 ≤ R.length by omega)
 have f3 : xcells 104 x2 H = some (R.drop (a + 1)).flatten := by
  rw [hx2]
  by_cases e : a + 1 = R.length
  ·rw [if_pos e, List.drop_of_length_le (by omega)]
   rfl
  ·rw [if_neg e]
   unfold xcells
   simp only [hb]
   rw [if_pos (by omega), ← c2, List.take_of_length_le (by rw [List.length_drop]; omega)]
 have f4 : ∀ s, x2 ≠ .string s := fun s e => by rw [hx2] at e; split at e <;> cases e
 have f5 : notTuple x2 = true ∧ x2.cells = #[x2] := by rw [hx2]; split <;> exact ⟨rfl, rfl⟩
 have hBl : (R.drop (a + 1)).flatten.length = (R.length - (a + 1)) * 104 := by
  rw [fl_len (n := 104) (fun r hr => hR r (List.mem_of_mem_drop hr)), List.length_drop]
 have hcut := fun Z hZ => cut_rows (Z := Z) hR ha hZ
 clear hx2
 have ha1 : ((a + 1 : Nat) : Int) = (a : Int) + 1 := by omega
 obtain ⟨n, hn⟩ : ∃ n, R.length = n := ⟨_, rfl⟩
 rw [hn] at ha hl hfl f1 f2 hBl hcut ⊢
 obtain ⟨a', ha'⟩ : ∃ a', a + 1 = a' := ⟨_, rfl⟩
 rw [ha'] at f2 f3 hBl hcut ⊢
 have hne : ((a : Int) == (a' : Int)) = false := by simp; omega
 refine ac_of_aw Try.func87 rfl Try.ntmps87 Try.results87 (by simp) ?_
 refine aw_seq ?_
 (refine aw_ops (by kernel_rfl) (fun K hK => ?_); simp (disch := first | omega | (simp only [lnS]; try omega)) [-getElem?_pos, -getElem?_neg]; refine hK _ _ ?_; clear hK K)
 refine aw_seq ?_
 refine aw_opsA 5 (by kernel_rfl) ?_
 simp only [List.take_succ_cons, List.take_zero, List.drop_succ_cons, List.drop_zero]
 simp (disch := first | omega | (simp only [lnS]; try omega)) [-getElem?_pos, -getElem?_neg, nt_slG]
 refine al_step (v := ?v1) (H' := ?hh1) (by kernel_rfl) ?a1 (al_nil ?b1)
 case a1 =>
  refine av_slice3 (x := .tmp 8) (lo := .tmp 9) (hi := .tmp 10) (mx := .tmp 12) (l := (a : Int)) (h := ((a' : Nat) : Int)) (mm := (n : Int)) (off := 0) (i := b) (len := n) (c := n) (k1 := .i64) (k2 := .i64) (k3 := .i64) ?_ ?_ ht ?_ ?_ ?_ ?_ ?_ ?_ ?_ ?_ ?_
  ·rfl
  ·kernel_rfl
  ·(first | (simp [put_at, put_none, fr0_at]; done) | rfl)
  ·(first | (simp [put_at, put_none, fr0_at]; done) | rfl)
  ·(first | (simp [put_at, put_none, fr0_at]; done) | rfl)
  ·(first | (simp [put_at, put_none, fr0_at]; done) | rfl)
  ·simp [hs]
  ·omega
  ·omega
  ·omega
  ·omega
 refine aw_seq ?_
 refine aw_seq ?_
 (refine aw_ops (by kernel_rfl) (fun K hK => ?_); simp (disch := first | omega | (simp only [lnS]; try omega)) [-getElem?_pos, -getElem?_neg, hne]; refine hK _ _ ?_; clear hK K)
 refine aw_f (by (first | (simp [eval_tmp, put_at, hne]; done) | (simp [eval_tmp, put_at, hne]; omega))) (by kernel_rfl) ?_
 refine aw_skip ?_
 refine aw_seq ?_
 (refine aw_ops (by kernel_rfl) (fun K hK => ?_); simp (disch := first | omega | (simp only [lnS]; try omega)) [-getElem?_pos, -getElem?_neg]; refine hK _ _ ?_; clear hK K)
 refine aw_seq ?_
 refine aw_tailA 6 (by kernel_rfl) (by kernel_rfl) (by kernel_rfl) ?_
 simp only [List.take_succ_cons, List.take_zero, List.drop_succ_cons, List.drop_zero]
 simp (disch := first | omega | (simp only [lnS]; try omega)) [-getElem?_pos, -getElem?_neg, nt_slG, -xslice, f1, f2]
 have hdv : (R.drop a').flatten.length / 104 = n - a' := by rw [hBl]; exact Nat.mul_div_cancel _ (by omega)
 refine al_step (v := ?v2) (H' := ?hh2) (by kernel_rfl) ?a2 ?b2
 case a2 =>
  refine av_append_in (s := .tmp 22) (x := .tmp 25) (i := b) (len := a) (k := ⟨R.flatten, 60, some 104⟩) (news := (R.drop a').flatten) ?_ ?_ ht ?_ ?_ ?_ hb hnro ?_ ?_ ?_ ?_
  ·rfl
  ·kernel_rfl
  ·simp [eval_tmp, put_at]
  ·simp [eval_tmp, put_at, hs, -xcells, f3]
  ·simpa [eval_tmp, put_at] using f4
  ·rw [hs]
  ·rfl
  ·rw [hs]; omega
  ·rw [hs, hBl]; show _ ≤ R.flatten.length; rw [hfl, ← Nat.add_mul]; exact Nat.mul_le_mul_right _ (by omega)
 refine al_xl (by kernel_rfl) (fun K hK => ?_)
 simp only [hs, hdv, show a + (n - a') = n - 1 by omega]
 simp (disch := first | omega | (simp only [lnS]; try omega)) [-getElem?_pos, -getElem?_neg, nt_slG]
 refine hK _ _ ?_; clear hK K
 have hc1 : (setR R.flatten (a * 104) (R.drop a').flatten).length = n * 104 := by rw [setR_length, hfl]
 obtain ⟨C1, hC1⟩ : ∃ C1, C1 = setR R.flatten (a * 104) (R.drop a').flatten := ⟨_, rfl⟩
 rw [← hC1] at hc1 hcut ⊢
 have hb1 : hget (H.set b (some ⟨C1, 60, some 104⟩)) b = some ⟨C1, 60, some 104⟩ := hget_set_eq hbl
 refine aw_seq ?_
 refine aw_opsA 4 (by kernel_rfl) ?_
 simp only [List.take_succ_cons, List.take_zero, List.drop_succ_cons, List.drop_zero]
 simp (disch := first | omega | (simp only [lnS]; try omega)) [-getElem?_pos, -getElem?_neg, nt_slG]
 refine al_step (v := ?v3) (H' := ?hh3) (by kernel_rfl) ?a3 ?b3
 case a3 =>
  refine av_slice_room (x := .tmp 27) (lo := some (.tmp 29)) (hi := some (.tmp 30)) (i := b) (len := n - 1) (l := ((n - 1 : Nat) : Int)) (h := ((n : Nat) : Int)) (k := ⟨C1, 60, some 104⟩) ?_ ?_ ht ?_ ?_ ?_ hb1 hnro ?_ ?_ ?_ ?_ ?_
  ·rfl
  ·kernel_rfl
  ·simp [eval_tmp, put_at]
  ·simp [bnd, asInt?, eval_tmp, put_at]
  ·simp [bnd, asInt?, eval_tmp, put_at]
  ·rw [hs]
  ·rw [hs]; omega
  ·omega
  ·omega
  ·rw [hs]; show _ ≤ C1.length; rw [hc1]; simp
 rw [if_neg (by omega), hs, Int.toNat_natCast, Int.toNat_natCast, show n - (n - 1) = 1 by omega]
 refine al_step (v := ?v4) (H' := ?hh4) (by kernel_rfl) ?a4 (al_nil ?b4)
 case a4 =>
  refine av_clear (x := .tmp 31) (i := b) (off := (n - 1) * 104) (len := 1) (c := 2) (k := ⟨C1, 60, some 104⟩) (z := z) ?_ ?_ ht ?_ hb1 hnro ?_ ?_ hz ?_ hzp ?_
  ·rfl
  ·kernel_rfl
  ·simp [eval_tmp, put_at]
  ·rfl
  ·rw [hs]; omega
  ·rw [hs, hzl]
  ·rw [hs]; show _ ≤ C1.length; rw [hc1, ← Nat.add_mul]; exact Nat.mul_le_mul_right _ (by omega)
 simp only [hs]
 rw [hcut _ (by simp), List.set_set]
 refine aw_seq ?_
 (refine aw_ops (by kernel_rfl) (fun K hK => ?_); simp (disch := first | omega | (simp only [lnS]; try omega)) [-getElem?_pos, -getElem?_neg, nt_slG]; refine hK _ _ ?_; clear hK K)
 (refine aw_ret ?_; simp (disch := first | omega | (simp only [lnS]; try omega)) [-getElem?_pos, -getElem?_neg, thenQ_ret, scopeQ_ret, inBlockQ_ret, RQ, resL, resV])
 exact ⟨_, rfl⟩
end
section
theorem rows_valHt {D : AH} {b : Nat} {T : TypeId} {es : Option Nat} {R : List (List Value)} {Z : List Value} {L : List HeldD} (hb : hget D b = some ⟨R.flatten ++ Z, T, es⟩) (hl : R.length = L.length) (hw : ∀ x ∈ L, x.Wf) (h : ∀ (k : Nat) (us : List Value) (x : HeldD), R[k]? = some us → L[k]? = some x → us.length = 104 ∧ ValL D x.row us) : HdV D (.slice (some ⟨b, 0, none⟩) L.length L.length) L := by
 have hR : ∀ r ∈ R, r.length = 104 := fun r hr => by
  obtain ⟨k, hk⟩ := List.getElem?_of_mem hr
  have hkl := (List.getElem?_eq_some_iff.1 hk).1
  exact (h k r _ hk (List.getElem?_eq_getElem (show k < L.length by omega))).1
 have := CD.Val.sl (H := D) (sz := 104) (rows := L.map HeldD.row) hb (by rw [List.length_map]; show _ ≤ (R.flatten ++ Z).length; rw [List.length_append, fl_len hR, hl]; omega) (fun row hr => by
  obtain ⟨x, hx, rfl⟩ := List.mem_map.1 hr
  exact held_row_len (hw x hx)) (fun i row c d v hi hc hv => by
  rw [List.getElem?_map] at hi
  cases hx : L[i]? with
  | none => rw [hx] at hi; cases hi
  | some x =>
   rw [hx] at hi
   cases hi
   have hil := (List.getElem?_eq_some_iff.1 hx).1
   obtain ⟨us, hus⟩ : ∃ us, R[i]? = some us := ⟨_, List.getElem?_eq_getElem (by omega)⟩
   obtain ⟨h1, h2⟩ := h i us x hus hx
   have hcl := (List.getElem?_eq_some_iff.1 hc).1
   have h2l := h2.1
   obtain ⟨u, hu⟩ : ∃ u, us[c]? = some u := ⟨_, List.getElem?_eq_getElem (by omega)⟩
   have hat := fl_at hR hus hu
   have hv' : (R.flatten ++ Z)[i * 104 + c]? = some v := hv
   rw [List.getElem?_append_left (List.getElem?_eq_some_iff.1 hat).1, hat] at hv'
   cases hv'
   exact h2.2 c d _ hc hu)
 rw [List.length_map] at this
 exact this
def WithR (l : List HeldD) (z : Int) (H : AH) (v' : Value) (H' : AH) : Prop :=
 Low H.length H H' ∧ ∃ sv, v' = .tuple #[sv, .int .i64 (witE l z)] ∧ ((witE l z = 0 ∧ NewGH H.length H' sv (withoutL l z.toNat)) ∨ (witE l z ≠ 0 ∧ sv = .slice none 0 0))
theorem WithR.bad {l : List HeldD} {y : Int} {H H' : AH} {z : Int} (hl : Low H.length H H') (h : witE l y = z) (hz : z ≠ 0) : WithR l y H (.tuple #[.slice none 0 0, .int .i64 z]) H' :=
 ⟨hl, _, by rw [h], .inr ⟨by rw [h]; exact hz, rfl⟩⟩
attribute [local simp] wb_bool wb_undef with_lit XL_nil XL_cons XLc_val XLc_call step1_eq stepW_t stepW_f stepC_n stepC_s stepX_s stepX_n stepN_s calleeX xrecv oneV xop_eq xopR_s xopR_n wantedA_eq wantedG_n wantedG_s plain1_int plain1_bool plain1_string bits_i64 bits_u64 bits_u32 bits_u16 bits_u8 xeqA xagg xcmp xarr allK_iv num_iv calleeOf xread xeff xbin xint xnil xun xstr xload xconv xpart xfield xfieldAddr xindexAddr xindex bnd asInt? xslice xlen xmin xmax xbuild xfill xappend xapp2 xappstr xappmk xcap xcopy xcells eval_tmp eval_const put_at put_none fr0_at cells_agg cells_int cells_bool cells_string cells_ptr cells_slice notTuple tab iv_all hget_app hget_app0 hget_cons0 hget_cons set_app set_app0 setR setR_one QL_nil QL_cons QLc_val stepQ_t stepQ_f stepQC_n stepQC_s stepQX_s SL_nil SL_cons SLc_val stepS_t stepS_f ltT ltF leT leF eqT eqF ltTn ltFn leTn leFn eqTn eqFn beqT beqF bneT bneF wi64 wu64 wu32 wu16 wu8 tmodP tdivP hgetL hgetNe hgetEq setL nums_def nums_len Nat.succ_le_of_lt List.getElem?_cons_zero List.getElem?_cons_succ Option.getD_some Int.toNat_add Int.toNat_mul agM okM agB agI agS agP agL agA okB okI okS okP okSl okA
theorem without_ac {γ : Nat → Option Nat} {nro : Nat} {H : AH} {qv : Value} {l : List HeldD} {z : Int} (hQ : HdA H qv l) (hl : l.length ≤ maxLen) (hg : ∀ y ∈ l, y.got.length ≤ 1000) (hnro : nro ≤ H.length) : AC Try.prog nro γ 39 #[qv, .int .i64 z] H (WithR l z H) := by
 have q1 := hQ.nt
 have q2 := hQ.cs
 have hxl := hQ.len
 have qr := qRight_rc (γ := γ) hQ hl
 have k0 : witE l z = if rightQ l = false then 1 else if z < 0 ∨ (l.length : Int) ≤ z then 22 else 0 := rfl
 refine ac_of_aw Try.func39 rfl Try.ntmps39 Try.results39 (by simp) ?_
 refine aw_seq ?_
 (refine aw_ops (by kernel_rfl) (fun K hK => ?_); simp (disch := first | omega | (simp only [lnS]; try omega)) [-getElem?_pos, -getElem?_neg]; refine hK _ _ ?_; clear hK K)
 refine aw_seq ?_
 refine aw_seq ?_
 refine aw_ops (by kernel_rfl) (fun K hK => ?_)
 simp (disch := first | omega | (simp only [lnS]; try omega)) [-getElem?_pos, -getElem?_neg, -notTuple, q1, q2, nt_intG]
 refine ⟨by kernel_rfl, ac_of_rc qr (by simp [pv_iv, pv_int, pv_bool, pv_string, pv_tup2, pv_tup3, iv_plain, p2_int, p2_bool, p2_string]) ?_⟩
 cases hq : rightQ l with
 | false =>
  try simp (disch := first | omega | (simp only [lnS]; try omega)) [-getElem?_pos, -getElem?_neg]
  refine hK _ _ ?_; clear hK K
  refine aw_t (by (first | (simp [eval_tmp, put_at]; done) | (simp [eval_tmp, put_at]; omega))) (by kernel_rfl) ?_
  refine aw_seq ?_
  (refine aw_ops (by kernel_rfl) (fun K hK => ?_); simp (disch := first | omega | (simp only [lnS]; try omega)) [-getElem?_pos, -getElem?_neg, nt_slG, nt_intG]; refine hK _ _ ?_; clear hK K)
  (refine aw_ret ?_; simp (disch := first | omega | (simp only [lnS]; try omega)) [-getElem?_pos, -getElem?_neg, thenQ_ret, scopeQ_ret, inBlockQ_ret, RQ, resL, resV])
  exact WithR.bad (Low.refl (Nat.le_refl _)) (by rw [k0, if_pos hq]) (by decide)
 | true =>
 rw [hq, if_neg (by simp)] at k0
 try simp (disch := first | omega | (simp only [lnS]; try omega)) [-getElem?_pos, -getElem?_neg]
 refine hK _ _ ?_; clear hK K
 refine aw_f (by (first | (simp [eval_tmp, put_at]; done) | (simp [eval_tmp, put_at]; omega))) (by kernel_rfl) ?_
 refine aw_skip ?_
 refine aw_seq ?_
 refine aw_seq ?_
 refine aw_cut (fun α G => α 16 = .bool (decide (z < 0 ∨ (l.length : Int) ≤ z)) ∧ α 0 = qv ∧ α 1 = .int .i64 z ∧ H = G) ?_ ?_
 ·by_cases h0 : z < 0
  ·(refine aw_ops (by kernel_rfl) (fun K hK => ?_); simp (disch := first | omega | (simp only [lnS]; try omega)) [-getElem?_pos, -getElem?_neg, h0, nt_intG]; refine hK _ _ ?_; clear hK K)
   exact ⟨by rw [decide_eq_true (.inl h0)]; (first | (simp [put_at, put_none, fr0_at]; done) | rfl), by (first | (simp [put_at, put_none, fr0_at]; done) | rfl), by (first | (simp [put_at, put_none, fr0_at]; done) | rfl), rfl⟩
  ·by_cases h1 : (l.length : Int) ≤ z
   ·(refine aw_ops (by kernel_rfl) (fun K hK => ?_); simp (disch := first | omega | (simp only [lnS]; try omega)) [-getElem?_pos, -getElem?_neg, h0, h1, -notTuple, q1, q2, nt_intG, -xlen, hxl]; refine hK _ _ ?_; clear hK K)
    exact ⟨by rw [decide_eq_true (.inr h1)]; (first | (simp [put_at, put_none, fr0_at]; done) | rfl), by (first | (simp [put_at, put_none, fr0_at]; done) | rfl), by (first | (simp [put_at, put_none, fr0_at]; done) | rfl), rfl⟩
   ·(refine aw_ops (by kernel_rfl) (fun K hK => ?_); simp (disch := first | omega | (simp only [lnS]; try omega)) [-getElem?_pos, -getElem?_neg, h0, h1, -notTuple, q1, q2, nt_intG, -xlen, hxl]; refine hK _ _ ?_; clear hK K)
    exact ⟨by rw [decide_eq_false (fun h => h.elim h0 h1)]; (first | (simp [put_at, put_none, fr0_at]; done) | rfl), by (first | (simp [put_at, put_none, fr0_at]; done) | rfl), by (first | (simp [put_at, put_none, fr0_at]; done) | rfl), rfl⟩
 rintro α _ ⟨q17, q0, q1', rfl⟩
 by_cases hz : z < 0 ∨ (l.length : Int) ≤ z
 ·rw [decide_eq_true hz] at q17
  rw [if_pos hz] at k0
  refine aw_t (by (first | (simp [eval_tmp, put_at, q17]; done) | (simp [eval_tmp, put_at, q17]; omega))) (by kernel_rfl) ?_
  refine aw_seq ?_
  (refine aw_ops (by kernel_rfl) (fun K hK => ?_); simp (disch := first | omega | (simp only [lnS]; try omega)) [-getElem?_pos, -getElem?_neg, nt_slG, nt_intG]; refine hK _ _ ?_; clear hK K)
  (refine aw_ret ?_; simp (disch := first | omega | (simp only [lnS]; try omega)) [-getElem?_pos, -getElem?_neg, thenQ_ret, scopeQ_ret, inBlockQ_ret, RQ, resL, resV])
  exact WithR.bad (Low.refl (Nat.le_refl _)) k0 (by decide)
 rw [decide_eq_false hz] at q17
 rw [if_neg hz] at k0
 refine aw_f (by (first | (simp [eval_tmp, put_at, q17]; done) | (simp [eval_tmp, put_at, q17]; omega))) (by kernel_rfl) ?_
 refine aw_skip ?_
 obtain ⟨a, rfl⟩ : ∃ a : Nat, z = (a : Int) := ⟨z.toNat, by omega⟩
 have ha : a < l.length := by omega
 have hl24 := rightQ_len hq
 obtain ⟨N, hc1⟩ := deepHeld_ac (nro := nro) (γ := γ) hQ (by omega) (rightQ_smH hq hg) hnro
 obtain ⟨n, hn0⟩ : ∃ n, n = H.length := ⟨_, rfl⟩
 refine aw_seq ?_
 refine aw_ops (by kernel_rfl) (fun K hK => ?_)
 simp (disch := first | omega | (simp only [lnS]; try omega)) [-getElem?_pos, -getElem?_neg, q0, -notTuple, q1, q2, nt_intG]
 refine ⟨by kernel_rfl, hc1.mono ?_⟩
 rintro v G1 ⟨rfl, hN, lw1, R, hR, bR⟩
 have hRl := hR.1
 have hle1 := lw1.2
 have hdel := deleteH_ac (nro := nro) (γ := γ) (H := G1) (b := H.length) (a := a) bR hnro hR.len (by omega) (by omega)
 rw [hRl] at hdel
 have hai : (a : Int) + 1 = ((a + 1 : Nat) : Int) := by omega
 obtain ⟨a', ha'⟩ : ∃ a' : Nat, a' = a + 1 := ⟨_, rfl⟩
 rw [← ha'] at hdel hai
 have hai2 : IntKind.i64.wrap (a' : Int) = (a' : Int) := wi64 (by omega)
 try simp (disch := first | omega | (simp only [lnS]; try omega)) [-getElem?_pos, -getElem?_neg, q1', hai, hai2, nt_slG, nt_intG]
 refine ⟨by kernel_rfl, hdel.mono ?_⟩
 rintro v G2 ⟨rfl, Z, rfl⟩
 try simp (disch := first | omega | (simp only [lnS]; try omega)) [-getElem?_pos, -getElem?_neg, nt_slG, nt_intG]
 refine hK _ _ ?_; clear hK K
 (refine aw_ret ?_; simp (disch := first | omega | (simp only [lnS]; try omega)) [-getElem?_pos, -getElem?_neg, thenQ_ret, scopeQ_ret, inBlockQ_ret, RQ, resL, resV, nt_slG, nt_intG])
 refine ⟨⟨fun j hj => (hget_set_ne (by omega)).trans (lw1.1 j hj), by rw [List.length_set]; omega⟩, _, by rw [k0], .inl ⟨k0, fun D hD => ?_⟩⟩
 rw [Int.toNat_natCast]
 unfold withoutL
 have hL : (l.take a ++ l.drop (a + 1)).length = l.length - 1 := by
  rw [List.length_append, List.length_take, List.length_drop]; omega
 have hRL : (R.take a ++ R.drop (a + 1)).length = l.length - 1 := by
  rw [List.length_append, List.length_take, List.length_drop]; omega
 have hbD : hget D H.length = some ⟨(R.take a ++ R.drop (a + 1)).flatten ++ Z, 60, some 104⟩ := by
  rw [hD _ (Nat.le_refl _) (by rw [List.length_set]; exact hget_lt bR), hget_set_eq (hget_lt bR), ha', List.flatten_append, List.append_assoc]
 rw [← hL]
 refine rows_valHt hbD (by rw [hRL, hL]) (fun y hy => ?_) (fun k us y hk hy => ?_)
 ·rcases List.mem_append.1 hy with hy | hy
  ·exact hQ.wf y (List.mem_of_mem_take hy)
  ·exact hQ.wf y (List.mem_of_mem_drop hy)
 ·have hrow : ∀ (k : Nat) (us : List Value) (y : HeldD), R[k]? = some us → l[k]? = some y → us.length = 104 ∧ ValL D y.row us := fun k us y hk hy => by
   have := hR.2 k us y hk hy
   refine ⟨this.1, this.2 D (fun j h1 h2 => (hD j (by omega) (by rw [List.length_set]; exact h2)).trans (hget_set_ne (by omega)))⟩
  have h1 : (R.take a).length = a := by rw [List.length_take]; omega
  have h2 : (l.take a).length = a := by rw [List.length_take]; omega
  rcases Nat.lt_or_ge k a with hka | hka
  ·rw [List.getElem?_append_left (by omega), List.getElem?_take_of_lt hka] at hk hy
   exact hrow k us y hk hy
  ·rw [List.getElem?_append_right (by omega), List.getElem?_drop] at hk hy
   rw [h1] at hk
   rw [h2] at hy
   exact hrow _ us y hk hy
theorem withoutOK : WithoutOK := fun γ nro H qv l z hQ hl hg hnro => without_ac hQ hl hg hnro
end
section
attribute [local simp] wb_bool wb_undef with_lit XL_nil XL_cons XLc_val XLc_call step1_eq stepW_t stepW_f stepC_n stepC_s stepX_s stepX_n stepN_s calleeX xrecv oneV xop_eq xopR_s xopR_n wantedA_eq wantedG_n wantedG_s plain1_int plain1_bool plain1_string bits_i64 bits_u64 bits_u32 bits_u16 bits_u8 xeqA xagg xcmp xarr allK_iv num_iv calleeOf xread xeff xbin xint xnil xun xstr xload xconv xpart xfield xfieldAddr xindexAddr xindex bnd asInt? xslice xlen xmin xmax xbuild xfill xappend xapp2 xappstr xappmk xcap xcopy xcells eval_tmp eval_const put_at put_none fr0_at cells_agg cells_int cells_bool cells_string cells_ptr cells_slice notTuple tab iv_all hget_app hget_app0 hget_cons0 hget_cons set_app set_app0 setR setR_one QL_nil QL_cons QLc_val stepQ_t stepQ_f stepQC_n stepQC_s stepQX_s SL_nil SL_cons SLc_val stepS_t stepS_f ltT ltF leT leF eqT eqF ltTn ltFn leTn leFn eqTn eqFn beqT beqF bneT bneF wi64 wu64 wu32 wu16 wu8 tmodP tdivP hgetL hgetNe hgetEq setL nums_def nums_len Nat.succ_le_of_lt List.getElem?_cons_zero List.getElem?_cons_succ Option.getD_some Int.toNat_add Int.toNat_mul agM okM agB agI agS agP agL agA okB okI okS okP okSl okA
theorem qalive_rc {γ : Nat → Option Nat} {H : AH} : AC Try.prog H.length γ 35 #[] H (fun v' _ => v' = .bool true) := by
 have k1 := build_key 1
 have k2 := build_key 2
 have k3 := build_key 3
 have p2 : (iv .u8 (key1 2)).length = 32 := by rw [iv_length, key1_32]
 have t2 : (iv .u8 (key1 2)).take 32 = iv .u8 (key1 2) := List.take_of_length_le (by omega)
 have x0 : notTuple (.slice none 0 0) = true := rfl
 have x1 : (Value.slice none 0 0).cells = #[.slice none 0 0] := rfl
 obtain ⟨n, hn⟩ : ∃ n, n = H.length := ⟨_, rfl⟩
 rw [← hn]
 refine ac_of_aw Try.func35 rfl Try.ntmps35 Try.results35 (by simp) ?_
 refine aw_seq ?_
 (refine aw_ops (by kernel_rfl) (fun K hK => ?_); simp (disch := first | omega | (simp only [lnS]; try omega)) [-getElem?_pos, -getElem?_neg]; refine hK _ _ ?_; clear hK K)
 refine aw_seq ?_
 refine aw_ops (by kernel_rfl) (fun K hK => ?_)
 simp (disch := first | omega | (simp only [lnS]; try omega)) [-getElem?_pos, -getElem?_neg, -xbuild, k2, k3, nt_aggG]
 refine ⟨by kernel_rfl, (updateQ_ac (nro := n) (γ := γ) (H := H) (k := key1 2) (key1_32 2) (by omega)).mono ?_⟩
 rintro v G1 ⟨lw1, rfl, b1⟩
 have hle1 := lw1.2
 have hb := build_h1 ⟨H.length + 2, 0, none⟩
 have hO1e : opRow (opC1 1 1 4 [key1 2] []) (.slice (some ⟨H.length + 2, 0, none⟩) 1 1) (.slice none 0 0) (.slice none 0 0) = opRow hO1 (.slice (some ⟨H.length + 2, 0, none⟩) 1 1) (.slice none 0 0) (.slice none 0 0) := rfl
 rw [hO1e]
 obtain ⟨pv, wv, bv, kv, hC1⟩ := held_hc (G := G1) (x := hD1) (pv := .slice (some ⟨H.length + 2, 0, none⟩) 1 1) (wv := .slice none 0 0) (bv := .slice none 0 0) (kv := .slice none 0 0) hD1_wf (key1_ksv b1) (nil3 G1).2.1 (nil3 G1).2.2 (nil3 G1).1
 have hr1 := heldRow_len hD1_wf (.slice (some ⟨H.length + 2, 0, none⟩) 1 1) (.slice none 0 0) (.slice none 0 0) (.slice none 0 0)
 have hpt := (put_rc (γ := γ) (nil_hda G1) hC1 hD1_wf (Nat.zero_le _) (fun y hy => by cases hy) (Nat.zero_le _)).thaw (nro := n) (fun v G' h => ⟨h.1.2, h.1.1⟩)
 generalize heldRow hD1 (.slice (some ⟨H.length + 2, 0, none⟩) 1 1) (.slice none 0 0) (.slice none 0 0) (.slice none 0 0) = R1 at *
 generalize opRow hO1 (.slice (some ⟨H.length + 2, 0, none⟩) 1 1) (.slice none 0 0) (.slice none 0 0) = RO at *
 simp (disch := first | omega | (simp only [lnS]; try omega)) [-getElem?_pos, -getElem?_neg, -xbuild, hb, nt_aggG]
 refine ⟨by kernel_rfl, hpt.mono ?_⟩
 rintro v G2 ⟨lw2, sv, rfl, ⟨_, hnew⟩ | ⟨hbad, _⟩⟩
 case inr => exact absurd qdat1.1 hbad
 obtain ⟨v1, v2⟩ := hnew.sh
 have N1 : HdA G2 sv [hD1] := hnew.hda q1_wf (fun _ _ _ => rfl)
 have low2 : Low n H G2 := ⟨fun j hj => (lw2.1 j (by omega)).trans (lw1.1 j (by omega)), by have := lw2.2; omega⟩
 rw [qdat1.1]
 clear hnew lw2 hpt hC1 b1 lw1 hb
 simp (disch := first | omega | (simp only [lnS]; try omega)) [-getElem?_pos, -getElem?_neg, -notTuple, v1, v2, nt_intG]
 refine hK _ _ ?_; clear hK K
 have hle2 := low2.2
 have wa := wanted_ac (γ := γ) (nro := n) (nil_nda G2) (Nat.zero_le _) N1 (by simp [maxLen]) (by rw [show ([hD1] : List HeldD).length = 1 from rfl, qdat2]; simp) (by rw [show ([hD1] : List HeldD).length = 1 from rfl, qdat2]; simp) (by omega)
 refine aw_seq ?_
 refine aw_ops (by kernel_rfl) (fun K hK => ?_)
 simp (disch := first | omega | (simp only [lnS]; try omega)) [-getElem?_pos, -getElem?_neg, -notTuple, v1, v2, x0, x1]
 refine ⟨by kernel_rfl, wa.mono ?_⟩
 rintro w G3 ⟨lw3, F, hF, hFl⟩
 rw [show (rightG [] && rightQ [hD1]) = true by rw [qdat3.2.2.1]; rfl, if_pos rfl, show ([hD1] : List HeldD).length = 1 from rfl, qdat2, sortK_one, kr_one] at hF
 obtain ⟨w1, w2⟩ := own_nt hF
 try simp (disch := first | omega | (simp only [lnS]; try omega)) [-getElem?_pos, -getElem?_neg, -notTuple, w1, w2]
 refine hK _ _ ?_; clear hK K
 have hle3 := lw3.2
 have N1 := N1.lowG lw3
 have low3 : Low n H G3 := ⟨fun j hj => (lw3.1 j (by omega)).trans (low2.1 j hj), by omega⟩
 have hKw : KsV G3 w [key1 2] := kr_ksv (by rw [kr_one]; exact hF) (fun k hk => by rw [List.mem_singleton] at hk; subst hk; exact key1_32 2)
 have r1 : List.range 1 = [0] := rfl
 have bo := build_opc ⟨G3.length, 0, none⟩ 1
 rw [opRow_c1 0 1 1 [] [0]] at bo
 have hO2e : opRow (opC1 0 1 1 [] [0]) (.slice none 0 0) (.slice (some ⟨G3.length, 0, none⟩) 1 1) (.slice none 0 0) = opRow hO2 (.slice none 0 0) (.slice (some ⟨G3.length, 0, none⟩) 1 1) (.slice none 0 0) := rfl
 rw [hO2e] at bo
 have hb := build_h2 ⟨G3.length, 0, none⟩
 obtain ⟨RO2, hRO2⟩ : ∃ r, r = opRow hO2 (.slice none 0 0) (.slice (some ⟨G3.length, 0, none⟩) 1 1) (.slice none 0 0) := ⟨_, rfl⟩
 rw [← hRO2] at bo hb
 obtain ⟨lw4, b4⟩ := boxed2 (H := G3) (iv .i64 [0]) 3 1
 have hle4 := lw4.2
 have hGe : G3 ++ [some ⟨[.int .i64 0], 3, some 1⟩] = G3 ++ [some ⟨iv .i64 [0], 3, some 1⟩] := rfl
 obtain ⟨R2, hR2⟩ : ∃ R2, R2 = heldRow hD2 (.slice none 0 0) (.slice (some ⟨G3.length, 0, none⟩) 1 1) (.slice none 0 0) (.slice none 0 0) := ⟨_, rfl⟩
 rw [← hR2] at hb
 refine aw_seq ?_
 refine aw_ops (by kernel_rfl) (fun K hK => ?_)
 simp (disch := first | omega | (simp only [lnS]; try omega)) [-getElem?_pos, -getElem?_neg, -xbuild, k1, k2, bo, hb, -notTuple, v1, v2, nt_intG, nt_slG, nt_aggG, r1]
 try rw [hGe]
 generalize G3 ++ [some ⟨iv .i64 [0], 3, some 1⟩] = G4 at *
 obtain ⟨pv, wv, bv, kv, hC2⟩ := held_hc (G := G4) (x := hD2) (pv := .slice none 0 0) (wv := .slice (some ⟨G3.length, 0, none⟩) 1 1) (bv := .slice none 0 0) (kv := .slice none 0 0) hD2_wf (nil3 G4).1 (ints_inv (n := 1) b4 rfl) (nil3 G4).2.2 (nil3 G4).1
 rw [← hR2] at hC2
 have hpt := (put_rc (γ := γ) (N1.lowG lw4) hC2 hD2_wf (by simp [maxLen]) (fun y hy => by rw [List.mem_singleton] at hy; subst hy; exact Nat.zero_le _) (Nat.zero_le _)).thaw (nro := n) (fun v G' h => ⟨h.1.2, h.1.1⟩)
 refine ⟨by kernel_rfl, hpt.mono ?_⟩
 rintro v G5 ⟨lw5, su, rfl, ⟨_, hnew⟩ | ⟨hbad, _⟩⟩
 case inr => exact absurd qdat1.2 hbad
 obtain ⟨u1, u2⟩ := hnew.sh
 have N2 : HdA G5 su [hD1, hD2] := hnew.hda q2_wf (fun _ _ _ => rfl)
 have lw35 := lw4.both lw5
 have low5 : Low n H G5 := ⟨fun j hj => (lw35.1 j (by omega)).trans (low3.1 j hj), by have := lw35.2; omega⟩
 have N1 := N1.lowG lw35
 have hKw := hKw.low lw35.1
 rw [qdat1.2]
 clear hnew lw5 hpt hC2 b4 lw4 hb bo
 simp (disch := first | omega | (simp only [lnS]; try omega)) [-getElem?_pos, -getElem?_neg, -notTuple, u1, u2, nt_intG]
 refine hK _ _ ?_; clear hK K
 have hle5 := low5.2
 refine aw_seq ?_
 refine aw_ops (by kernel_rfl) (fun K hK => ?_)
 simp (disch := first | omega | (simp only [lnS]; try omega)) [-getElem?_pos, -getElem?_neg, -notTuple, u1, u2, nt_intG]
 refine ⟨by kernel_rfl, (withoutOK γ n G5 su [hD1, hD2] 0 N2 (by simp [maxLen]) (fun y hy => by simp at hy; rcases hy with rfl | rfl <;> exact Nat.zero_le _) (by omega)).mono ?_⟩
 rintro v G6 ⟨lw6, st, rfl, ⟨_, hnew⟩ | ⟨hbad, _⟩⟩
 case inr => exact absurd wit0.1 hbad
 obtain ⟨t1, t2'⟩ := hnew.sh
 rw [show withoutL [hD1, hD2] (0 : Int).toNat = [hD2] from wit0.2] at hnew
 have N3 : HdA G6 st [hD2] := hnew.hda (fun x hx => by rw [List.mem_singleton] at hx; subst hx; exact hD2_wf) (fun _ _ _ => rfl)
 rw [wit0.1]
 have low6 : Low n H G6 := ⟨fun j hj => (lw6.1 j (by omega)).trans (low5.1 j hj), by have := lw6.2; omega⟩
 have N1 := N1.lowG lw6
 have N2 := N2.lowG lw6
 have hKw := hKw.low lw6.1
 clear hnew
 simp (disch := first | omega | (simp only [lnS]; try omega)) [-getElem?_pos, -getElem?_neg, -notTuple, t1, t2', nt_intG]
 refine hK _ _ ?_; clear hK K
 have hle6 := low6.2
 have aW := KsV.acc hKw (fun k hk => by rw [List.mem_singleton] at hk; subst hk; exact key1_32 2)
 obtain ⟨aw1, aw2, awl, awa⟩ := aW
 obtain ⟨wp, wx, wpn, wi, wxn, we, wl⟩ := awa 0 (by simp)
 have wl := wl G6 (Low.refl (Nat.le_refl _))
 obtain rfl : wx = .agg (iv .u8 (key1 2)).toArray := we
 have rd1 := ready_rc (γ := γ) (nil_nda G6) (Nat.zero_le _) N1 (by simp [maxLen])
 have rd2 := ready_rc (γ := γ) (nil_nda G6) (Nat.zero_le _) N2 (by simp [maxLen])
 have fi := qfind_rc (γ := γ) N2 (by simp [maxLen]) (key1_32 2)
 have ri := qRight_rc (γ := γ) N2 (by simp [maxLen])
 have xl3 := N3.len
 rw [show ([hD1, hD2] : List HeldD).length = 2 from rfl, qdat3.2.2.2.2] at fi
 rw [qdat3.2.2.2.1] at ri
 rw [show (rightG [] && rightQ [hD1]) = true by rw [qdat3.2.2.1]; rfl, if_pos rfl, qdat3.1] at rd1
 rw [show (rightG [] && rightQ [hD1, hD2]) = true by rw [qdat3.2.2.2.1]; rfl, if_pos rfl, qdat3.2.1] at rd2
 have wi : xindexAddr Try.prog 36 w (.int .i64 0) = some wp := wi
 have awl : xlen Try.prog 36 w = some (.int .i64 1) := awl
 have xl3 : xlen Try.prog 58 st = some (.int .i64 1) := xl3
 refine aw_seq ?_
 refine aw_ops (by kernel_rfl) (fun K hK => ?_)
 simp (disch := first | omega | (simp only [lnS]; try omega)) [-getElem?_pos, -getElem?_neg, -notTuple, nt_intG, nt_aggG, v1, v2, u1, u2, t1, t2', aw1, aw2, wpn, wxn, -xlen, awl, xl3, -xindexAddr, wi, -xload, wl, k2, -xbuild, x0, x1, p2, key1_32]
 refine ⟨by kernel_rfl, ac_of_rc rd1 (by simp [pv_iv, pv_int, pv_bool, pv_string, pv_tup2, pv_tup3, iv_plain, p2_int, p2_bool, p2_string]) ?_⟩
 simp (disch := first | omega | (simp only [lnS]; try omega)) [-getElem?_pos, -getElem?_neg, -notTuple, nt_intG, u1, u2, x0, x1]
 refine ⟨by kernel_rfl, ac_of_rc rd2 (by simp [pv_iv, pv_int, pv_bool, pv_string, pv_tup2, pv_tup3, iv_plain, p2_int, p2_bool, p2_string]) ?_⟩
 simp (disch := first | omega | (simp only [lnS]; try omega)) [-getElem?_pos, -getElem?_neg, -notTuple, nt_intG, nt_aggG, u1, u2, t1, t2', -xlen, xl3, k2, -xbuild]
 refine ⟨by kernel_rfl, ac_of_rc fi (by simp [pv_iv, pv_int, pv_bool, pv_string, pv_tup2, pv_tup3, iv_plain, p2_int, p2_bool, p2_string]) ?_⟩
 simp (disch := first | omega | (simp only [lnS]; try omega)) [-getElem?_pos, -getElem?_neg, -notTuple, nt_intG, u1, u2]
 refine ⟨by kernel_rfl, ac_of_rc ri (by simp [pv_iv, pv_int, pv_bool, pv_string, pv_tup2, pv_tup3, iv_plain, p2_int, p2_bool, p2_string]) ?_⟩
 try simp (disch := first | omega | (simp only [lnS]; try omega)) [-getElem?_pos, -getElem?_neg]
 refine hK _ _ ?_; clear hK K
 (refine aw_ret ?_; simp (disch := first | omega | (simp only [lnS]; try omega)) [-getElem?_pos, -getElem?_neg, thenQ_ret, scopeQ_ret, inBlockQ_ret, RQ, resL, resV])
end
section
def putL (l : List HeldD) (x : HeldD) : List HeldD := if putE l x = 0 then l ++ [x] else []
def witL (l : List HeldD) (z : Int) : List HeldD := if witE l z = 0 then withoutL l z.toNat else []
theorem putL_all {l : List HeldD} {x : HeldD} {R : HeldD → Prop} (h : ∀ y ∈ l, R y) (hx : R x) : ∀ y ∈ putL l x, R y := fun y hy => by
 unfold putL at hy
 split at hy
 ·rcases List.mem_append.1 hy with hy | hy
  ·exact h y hy
  ·rw [List.mem_singleton] at hy; subst hy; exact hx
 ·cases hy
theorem witL_all {l : List HeldD} {z : Int} {R : HeldD → Prop} (h : ∀ y ∈ l, R y) : ∀ y ∈ witL l z, R y := fun y hy => by
 unfold witL withoutL at hy
 split at hy
 ·rcases List.mem_append.1 hy with hy | hy
  ·exact h y (List.mem_of_mem_take hy)
  ·exact h y (List.mem_of_mem_drop hy)
 ·cases hy
theorem putL_len {l : List HeldD} {x : HeldD} : (putL l x).length ≤ l.length + 1 := by
 unfold putL
 split <;> simp
theorem witL_len {l : List HeldD} {z : Int} : (witL l z).length ≤ l.length := by
 unfold witL withoutL
 split
 ·rw [List.length_append, List.length_take, List.length_drop]; omega
 ·simp
theorem greatO_le {o : OpD} (h : greatO o = false) : o.parents.length ≤ 30 ∧ o.who.length ≤ 30 ∧ o.boxes.length ≤ 30 := by
 unfold greatO at h
 simp only [Bool.or_eq_false_iff, decide_eq_false_iff_not] at h
 omega
theorem greatQ_le {l : List HeldD} (h : greatQ l = false) : l.length ≤ 40 ∧ (∀ y ∈ l, greatO y.op = false ∧ y.got.length ≤ 20) := by
 unfold greatQ at h
 rw [Bool.or_eq_false_iff, decide_eq_false_iff_not] at h
 refine ⟨by omega, fun y hy => ?_⟩
 obtain ⟨k, hk, rfl⟩ := List.mem_iff_getElem.1 hy
 have h2 := h.2
 rw [List.any_eq_false] at h2
 have := h2 k (List.mem_range.2 hk)
 have e : hn l k = l[k] := hn_eq (List.getElem?_eq_getElem hk)
 rw [e] at this
 simp only [Bool.or_eq_true, decide_eq_true_eq, not_or, Bool.not_eq_true] at this
 exact ⟨this.1, by omega⟩
theorem sm6_of {l : List HeldD} (h : ∀ y ∈ l, greatO y.op = false) : Sm6H l := fun x hx => by
 have := greatO_le (h x hx)
 omega
structure Ansd (H' : AH) (v' : Value) (e : Int) (L : List HeldD) : Prop where
 is : ∃ sv, v' = .tuple #[sv, .int .i64 e] ∧ notTuple sv = true ∧ sv.cells = #[sv] ∧ ∀ G, Low H'.length H' G → HdA G sv L
theorem PutR.ans {l : List HeldD} {x : HeldD} {H : AH} {v' : Value} {H' : AH} (h : PutR l x H v' H') (hwf : ∀ y ∈ putL l x, y.Wf) : Ansd H' v' (putE l x) (putL l x) := by
 obtain ⟨h1, sv, h2, h3⟩ := h
 refine ⟨sv, h2, ?_⟩
 rcases h3 with ⟨h0, h3⟩ | ⟨h0, rfl⟩
 ·have e : putL l x = l ++ [x] := if_pos h0
  rw [e] at hwf ⊢
  have hs := h3.sh
  exact ⟨hs.1, hs.2, fun G hG => h3.hda hwf (fun j _ hj => hG.1 j hj)⟩
 ·have e : putL l x = [] := if_neg h0
  rw [e]
  exact ⟨rfl, rfl, fun G _ => nil_hda G⟩
theorem WithR.ans {l : List HeldD} {z : Int} {H : AH} {v' : Value} {H' : AH} (h : WithR l z H v' H') (hwf : ∀ y ∈ witL l z, y.Wf) : Ansd H' v' (witE l z) (witL l z) := by
 obtain ⟨h1, sv, h2, h3⟩ := h
 refine ⟨sv, h2, ?_⟩
 rcases h3 with ⟨h0, h3⟩ | ⟨h0, rfl⟩
 ·have e : witL l z = withoutL l z.toNat := if_pos h0
  rw [e] at hwf ⊢
  have hs := h3.sh
  exact ⟨hs.1, hs.2, fun G hG => h3.hda hwf (fun j _ hj => hG.1 j hj)⟩
 ·have e : witL l z = [] := if_neg h0
  rw [e]
  exact ⟨rfl, rfl, fun G _ => nil_hda G⟩
theorem RPutQ.ans {l : List HeldD} {x : HeldD} {H0 H : AH} {v' : Value} {H' : AH} (h : RPutQ l x H0 H v' H') (hwf : ∀ y ∈ putL l x, y.Wf) (hlow : Low H0.length H0 H') : Ansd H' v' (putE l x) (putL l x) := by
 obtain ⟨h1, sv, h2, n1, n2, h3⟩ := h
 refine ⟨sv, h2, n1, n2, ?_⟩
 rcases h3 with ⟨h0, h3⟩ | ⟨h0, rfl⟩
 ·have e : putL l x = l ++ [x] := if_pos h0
  rw [e] at hwf ⊢
  refine fun G hG => (h3 G ⟨fun j hj => (hG.1 j (by have := hlow.2; omega)).trans (hlow.1 j hj), by have := hlow.2; have := hG.2; omega⟩ (fun j _ hj => hG.1 j hj)).hda hwf
 ·have e : putL l x = [] := if_neg h0
  rw [e]
  exact fun G _ => nil_hda G
theorem RWithQ.ans {l : List HeldD} {z : Int} {H0 H : AH} {v' : Value} {H' : AH} (h : RWithQ l z H0 H v' H') (hwf : ∀ y ∈ witL l z, y.Wf) (hlow : Low H0.length H0 H') : Ansd H' v' (witE l z) (witL l z) := by
 obtain ⟨h1, sv, h2, n1, n2, h3⟩ := h
 refine ⟨sv, h2, n1, n2, ?_⟩
 rcases h3 with ⟨h0, h3⟩ | ⟨h0, rfl⟩
 ·have e : witL l z = withoutL l z.toNat := if_pos h0
  rw [e] at hwf ⊢
  refine fun G hG => (h3 G ⟨fun j hj => (hG.1 j (by have := hlow.2; omega)).trans (hlow.1 j hj), by have := hlow.2; have := hG.2; omega⟩ (fun j _ hj => hG.1 j hj)).hda hwf
 ·have e : witL l z = [] := if_neg h0
  rw [e]
  exact fun G _ => nil_hda G
attribute [local simp] wb_bool wb_undef with_lit XL_nil XL_cons XLc_val XLc_call step1_eq stepW_t stepW_f stepC_n stepC_s stepX_s stepX_n stepN_s calleeX xrecv oneV xop_eq xopR_s xopR_n wantedA_eq wantedG_n wantedG_s plain1_int plain1_bool plain1_string bits_i64 bits_u64 bits_u32 bits_u16 bits_u8 xeqA xagg xcmp xarr allK_iv num_iv calleeOf xread xeff xbin xint xnil xun xstr xload xconv xpart xfield xfieldAddr xindexAddr xindex bnd asInt? xslice xlen xmin xmax xbuild xfill xappend xapp2 xappstr xappmk xcap xcopy xcells eval_tmp eval_const put_at put_none fr0_at cells_agg cells_int cells_bool cells_string cells_ptr cells_slice notTuple tab iv_all hget_app hget_app0 hget_cons0 hget_cons set_app set_app0 setR setR_one QL_nil QL_cons QLc_val stepQ_t stepQ_f stepQC_n stepQC_s stepQX_s SL_nil SL_cons SLc_val stepS_t stepS_f ltT ltF leT leF eqT eqF ltTn ltFn leTn leFn eqTn eqFn beqT beqF bneT bneF wi64 wu64 wu32 wu16 wu8 tmodP tdivP hgetL hgetNe hgetEq setL nums_def nums_len Nat.succ_le_of_lt List.getElem?_cons_zero List.getElem?_cons_succ Option.getD_some Int.toNat_add Int.toNat_mul agM okM agB agI agS agP agL agA okB okI okS okP okSl okA
theorem puts_law {γ : Nat → Option Nat} {H : AH} {dq dp dh : List CD} {u w : Value} {us : List Value} {z : Int} (oq : OkL [.sl heldK] dq) (vq : ValL H dq [u]) (op : OkL [.sl heldK] dp) (vp : ValL H dp [w]) (oh : OkL heldK dh) (vh : ValL H dh us) : AC Try.prog H.length γ 9 #[u, w, .agg us.toArray, .int .i64 z] H (fun v' _ => v' = .bool true) := by
 obtain ⟨l, hV, hwl, hml⟩ := helds_in oq vq
 obtain ⟨m, hM, hwm, hmm⟩ := helds_in op vp
 obtain ⟨x, pv, wv, bv, kv, hC, hwx⟩ := held_in oh vh
 have hN := hV.hda hwl
 have hP := hM.hda hwm
 obtain ⟨v1, v2⟩ := val_nt hV
 obtain ⟨w1, w2⟩ := val_nt hM
 have hul := hC.len
 have htu : us.take 104 = us := List.take_of_length_le (by omega)
 have c103 := hC.c103
 have hid := hC.id
 have hivl : (iv .u8 x.id).length = 32 := by rw [iv_length, hwx.id.1]
 have hcop := hC.op.len
 have gk := val_nt hC.got
 have gkl := val_len (P := Try.prog) (t := 36) (e := 38) hC.got (by kernel_rfl)
 rw [List.length_map] at gkl
 refine ac_of_aw Try.func9 rfl Try.ntmps9 Try.results9 (by simp) ?_
 refine aw_seq ?_
 (refine aw_ops (by kernel_rfl) (fun K hK => ?_); simp (disch := first | omega | (simp only [lnS]; try omega)) [-getElem?_pos, -getElem?_neg, hul, nt_aggG]; refine hK _ _ ?_; clear hK K)
 obtain ⟨lw, b6⟩ := boxed (H := H) us 60
 obtain ⟨n, hn⟩ : ∃ n, n = H.length := ⟨_, rfl⟩
 rw [← hn] at b6 lw ⊢
 have gl : (H ++ ([some ⟨us, 60, none⟩] : AH)).length = n + 1 := by simp [hn]
 generalize H ++ [some ⟨us, 60, none⟩] = G at *
 have lwH : Low H.length H G := hn ▸ lw
 have hNG := hN.lowG lwH
 have hPG := hP.lowG lwH
 have hCG := hC.low lwH.1
 have al := qalive_rc (γ := γ) (H := G)
 have g1 := greatQ_rc (γ := γ) hNG
 have g2 := greatQ_rc (γ := γ) hPG
 have g3 := greatO_rc (γ := γ) hCG.op hwx.op
 refine aw_seq ?_
 refine aw_seq ?_
 refine aw_ops (by kernel_rfl) (fun K hK => ?_)
 simp (disch := first | omega | (simp only [lnS]; try omega)) [-getElem?_pos, -getElem?_neg]
 refine ⟨by kernel_rfl, ac_of_rc al (by simp [pv_iv, pv_int, pv_bool, pv_string, pv_tup2, pv_tup3, iv_plain, p2_int, p2_bool, p2_string]) ?_⟩
 try simp (disch := first | omega | (simp only [lnS]; try omega)) [-getElem?_pos, -getElem?_neg]
 refine hK _ _ ?_; clear hK K
 refine aw_f (by (first | (simp [eval_tmp, put_at]; done) | (simp [eval_tmp, put_at]; omega))) (by kernel_rfl) ?_
 refine aw_skip ?_
 refine aw_seq ?_
 refine aw_seq ?_
 refine aw_cut (fun α G2 => α 35 = .bool (greatQ l || greatQ m || greatO x.op || decide (20 < x.got.length)) ∧ α 0 = u ∧ α 1 = w ∧ α 3 = .int .i64 z ∧ α 6 = .pointer (some ⟨n, 0, none⟩) ∧ G2 = G) ?_ ?_
 ·refine aw_ops (by kernel_rfl) (fun K hK => ?_)
  simp (disch := first | omega | (simp only [lnS]; try omega)) [-getElem?_pos, -getElem?_neg, -notTuple, v1, v2, nt_intG]
  refine ⟨by kernel_rfl, ac_of_rc g1 (by simp [pv_iv, pv_int, pv_bool, pv_string, pv_tup2, pv_tup3, iv_plain, p2_int, p2_bool, p2_string]) ?_⟩
  cases hg : greatQ l with
  | true =>
   try simp (disch := first | omega | (simp only [lnS]; try omega)) [-getElem?_pos, -getElem?_neg]
   refine hK _ _ ?_; clear hK K
   exact ⟨by (first | (simp [put_at, put_none, fr0_at, hg]; done) | rfl), by (first | (simp [put_at, put_none, fr0_at]; done) | rfl), by (first | (simp [put_at, put_none, fr0_at]; done) | rfl), by (first | (simp [put_at, put_none, fr0_at]; done) | rfl), by (first | (simp [put_at, put_none, fr0_at]; done) | rfl), rfl⟩
  | false =>
  simp (disch := first | omega | (simp only [lnS]; try omega)) [-getElem?_pos, -getElem?_neg, -notTuple, w1, w2, nt_intG]
  refine ⟨by kernel_rfl, ac_of_rc g2 (by simp [pv_iv, pv_int, pv_bool, pv_string, pv_tup2, pv_tup3, iv_plain, p2_int, p2_bool, p2_string]) ?_⟩
  cases hg2 : greatQ m with
  | true =>
   try simp (disch := first | omega | (simp only [lnS]; try omega)) [-getElem?_pos, -getElem?_neg]
   refine hK _ _ ?_; clear hK K
   exact ⟨by (first | (simp [put_at, put_none, fr0_at, hg, hg2]; done) | rfl), by (first | (simp [put_at, put_none, fr0_at]; done) | rfl), by (first | (simp [put_at, put_none, fr0_at]; done) | rfl), by (first | (simp [put_at, put_none, fr0_at]; done) | rfl), by (first | (simp [put_at, put_none, fr0_at]; done) | rfl), rfl⟩
  | false =>
  simp (disch := first | omega | (simp only [lnS]; try omega)) [-getElem?_pos, -getElem?_neg, b6, hul, hcop, nt_intG, nt_aggG]
  refine ⟨by kernel_rfl, ac_of_rc g3 (by simp [pv_iv, pv_int, pv_bool, pv_string, pv_tup2, pv_tup3, iv_plain, p2_int, p2_bool, p2_string]) ?_⟩
  cases hg3 : greatO x.op with
  | true =>
   try simp (disch := first | omega | (simp only [lnS]; try omega)) [-getElem?_pos, -getElem?_neg]
   refine hK _ _ ?_; clear hK K
   exact ⟨by (first | (simp [put_at, put_none, fr0_at, hg, hg2, hg3]; done) | rfl), by (first | (simp [put_at, put_none, fr0_at]; done) | rfl), by (first | (simp [put_at, put_none, fr0_at]; done) | rfl), by (first | (simp [put_at, put_none, fr0_at]; done) | rfl), by (first | (simp [put_at, put_none, fr0_at]; done) | rfl), rfl⟩
  | false =>
  by_cases h20 : 20 < x.got.length
  ·have h20i : (20 : Int) < x.got.length := by omega
   try simp (disch := first | omega | (simp only [lnS]; try omega)) [-getElem?_pos, -getElem?_neg, b6, c103, -notTuple, gk.1, gk.2, -xlen, gkl, nt_intG, h20i]
   refine hK _ _ ?_; clear hK K
   exact ⟨by (first | (simp [put_at, put_none, fr0_at, hg, hg2, hg3, h20]; done) | rfl), by (first | (simp [put_at, put_none, fr0_at]; done) | rfl), by (first | (simp [put_at, put_none, fr0_at]; done) | rfl), by (first | (simp [put_at, put_none, fr0_at]; done) | rfl), by (first | (simp [put_at, put_none, fr0_at]; done) | rfl), rfl⟩
  ·have h20i : ¬ (20 : Int) < x.got.length := by omega
   try simp (disch := first | omega | (simp only [lnS]; try omega)) [-getElem?_pos, -getElem?_neg, b6, c103, -notTuple, gk.1, gk.2, -xlen, gkl, nt_intG, h20i]
   refine hK _ _ ?_; clear hK K
   exact ⟨by (first | (simp [put_at, put_none, fr0_at, hg, hg2, hg3, h20]; done) | rfl), by (first | (simp [put_at, put_none, fr0_at]; done) | rfl), by (first | (simp [put_at, put_none, fr0_at]; done) | rfl), by (first | (simp [put_at, put_none, fr0_at]; done) | rfl), by (first | (simp [put_at, put_none, fr0_at]; done) | rfl), rfl⟩
 rintro α G2 ⟨q35, q0, q1, q3, q6, rfl⟩
 cases hb : (greatQ l || greatQ m || greatO x.op || decide (20 < x.got.length)) with
 | true =>
  rw [hb] at q35
  refine aw_t (by (first | (simp [eval_tmp, put_at, q35]; done) | (simp [eval_tmp, put_at, q35]; omega))) (by kernel_rfl) ?_
  refine aw_seq ?_
  refine aw_ops (by kernel_rfl) (fun K hK => ?_)
  simp (disch := first | omega | (simp only [lnS]; try omega)) [-getElem?_pos, -getElem?_neg]
  refine ⟨by kernel_rfl, ac_of_rc al (by simp [pv_iv, pv_int, pv_bool, pv_string, pv_tup2, pv_tup3, iv_plain, p2_int, p2_bool, p2_string]) ?_⟩
  try simp (disch := first | omega | (simp only [lnS]; try omega)) [-getElem?_pos, -getElem?_neg]
  refine hK _ _ ?_; clear hK K
  (refine aw_ret ?_; simp (disch := first | omega | (simp only [lnS]; try omega)) [-getElem?_pos, -getElem?_neg, thenQ_ret, scopeQ_ret, inBlockQ_ret, RQ, resL, resV])
 | false =>
 rw [hb] at q35
 refine aw_f (by (first | (simp [eval_tmp, put_at, q35]; done) | (simp [eval_tmp, put_at, q35]; omega))) (by kernel_rfl) ?_
 refine aw_skip ?_
 simp only [Bool.or_eq_false_iff, decide_eq_false_iff_not] at hb
 obtain ⟨⟨⟨hg1, hg2⟩, hg3⟩, hg4⟩ := hb
 obtain ⟨l40, ly⟩ := greatQ_le hg1
 obtain ⟨m40, my⟩ := greatQ_le hg2
 have hlm : l.length ≤ maxLen := by simp only [maxLen]; omega
 have hwP := putL_all (l := l) (x := x) hwl hwx
 have hwW := witL_all (l := l) (z := z) hwl
 have gy : ∀ y ∈ l, y.got.length ≤ 1000 := fun y hy => by have := (ly y hy).2; omega
 refine aw_seq ?_
 refine aw_ops (by kernel_rfl) (fun K hK => ?_)
 simp (disch := first | omega | (simp only [lnS]; try omega)) [-getElem?_pos, -getElem?_neg, q0, q6, b6, hul, htu, -notTuple, v1, v2, nt_intG, nt_aggG]
 refine ⟨by kernel_rfl, ((put_rc (γ := γ) hNG hCG hwx hlm gy (by omega)).thaw (nro := n) (fun v G' h => ⟨h.1.2, h.1.1⟩)).mono ?_⟩
 intro va G3 hqa
 have low3 := hqa.1
 obtain ⟨⟨a, rfl, a1, a2, aA⟩⟩ := hqa.ans hwP
 simp (disch := first | omega | (simp only [lnS]; try omega)) [-getElem?_pos, -getElem?_neg, -notTuple, a1, a2, nt_intG]
 refine hK _ _ ?_; clear hK K
 have lowH3 : Low H.length H G3 := ⟨fun j hj => (low3.1 j (by omega)).trans (lw.1 j (by omega)), by have := low3.2; omega⟩
 have e6 := (low3.1 n (by omega)).trans b6
 refine aw_seq ?_
 refine aw_ops (by kernel_rfl) (fun K hK => ?_)
 simp (disch := first | omega | (simp only [lnS]; try omega)) [-getElem?_pos, -getElem?_neg, q0, q6, e6, hul, htu, -notTuple, v1, v2, nt_intG, nt_aggG]
 refine ⟨by kernel_rfl, ((qrPut_rc (γ := γ) hV hwl hC hwx hlm lowH3).thaw (nro := n) (fun v G' h => ⟨h.1.2, h.1.1⟩)).mono ?_⟩
 intro vb G4 hqb
 have low4 := hqb.1
 have le3 := low3.2
 have le4 := low4.2
 have lowH4 : Low H.length H G4 := ⟨fun j hj => (low4.1 j (by omega)).trans (lowH3.1 j hj), by omega⟩
 obtain ⟨⟨b, rfl, b1, b2, bA⟩⟩ := hqb.ans hwP lowH4
 simp (disch := first | omega | (simp only [lnS]; try omega)) [-getElem?_pos, -getElem?_neg, -notTuple, b1, b2, nt_intG]
 refine hK _ _ ?_; clear hK K
 have f6 := (low4.1 n (by omega)).trans e6
 refine aw_seq ?_
 refine aw_ops (by kernel_rfl) (fun K hK => ?_)
 simp (disch := first | omega | (simp only [lnS]; try omega)) [-getElem?_pos, -getElem?_neg, q0, q3, -notTuple, v1, v2, nt_intG]
 refine ⟨by kernel_rfl, (without_ac (γ := γ) (nro := n) (z := z) (hN.lowG lowH4) hlm gy (by omega)).mono ?_⟩
 intro vc G5 hqc
 have low5 := hqc.1
 obtain ⟨⟨c, rfl, c1, c2, cA⟩⟩ := hqc.ans hwW
 simp (disch := first | omega | (simp only [lnS]; try omega)) [-getElem?_pos, -getElem?_neg, -notTuple, c1, c2, nt_intG]
 refine hK _ _ ?_; clear hK K
 have le5 := low5.2
 have lowH5 : Low H.length H G5 := ⟨fun j hj => (low5.1 j (by omega)).trans (lowH4.1 j hj), by omega⟩
 have g6 := (low5.1 n (by omega)).trans f6
 refine aw_seq ?_
 refine aw_ops (by kernel_rfl) (fun K hK => ?_)
 simp (disch := first | omega | (simp only [lnS]; try omega)) [-getElem?_pos, -getElem?_neg, q0, q3, -notTuple, v1, v2, nt_intG]
 refine ⟨by kernel_rfl, ((qrWithout_rc (γ := γ) (z := z) hV hwl hlm lowH5).thaw (nro := n) (fun v G' h => ⟨h.1.2, h.1.1⟩)).mono ?_⟩
 intro vd G6 hqd
 have low6 := hqd.1
 have le6 := low6.2
 have lowH6 : Low H.length H G6 := ⟨fun j hj => (low6.1 j (by omega)).trans (lowH5.1 j hj), by omega⟩
 obtain ⟨⟨d, rfl, d1, d2, dA⟩⟩ := hqd.ans hwW lowH6
 simp (disch := first | omega | (simp only [lnS]; try omega)) [-getElem?_pos, -getElem?_neg, -notTuple, d1, d2, nt_intG]
 refine hK _ _ ?_; clear hK K
 have h6 := (low6.1 n (by omega)).trans g6
 have A6 := aA G6 ⟨fun j hj => (low6.1 j (by omega)).trans ((low5.1 j (by omega)).trans (low4.1 j hj)), by omega⟩
 have B6 := bA G6 ⟨fun j hj => (low6.1 j (by omega)).trans (low5.1 j hj), by omega⟩
 have C6 := cA G6 low6
 have D6 := dA G6 (Low.refl (Nat.le_refl _))
 have N6 := hN.lowG lowH6
 have P6 := hP.lowG lowH6
 have smL : Sm6H l := sm6_of fun y hy => (ly y hy).1
 have smM : Sm6H m := sm6_of fun y hy => (my y hy).1
 have smP : Sm6H (putL l x) := sm6_of (putL_all (fun y hy => (ly y hy).1) hg3)
 have smW : Sm6H (witL l z) := sm6_of (witL_all (fun y hy => (ly y hy).1))
 have hpl := putL_len (l := l) (x := x)
 have hwlen := witL_len (l := l) (z := z)
 have hlP : (putL l x).length ≤ maxLen := by simp only [maxLen]; omega
 have hlW : (witL l z).length ≤ maxLen := by simp only [maxLen]; omega
 generalize putL l x = PL at *
 generalize witL l z = WL at *
 generalize putE l x = pe at *
 generalize witE l z = we at *
 clear hqa hqb hqc hqd
 refine aw_seq ?_
 (refine aw_plan [] [] [0, 1, 2, 3, 4, 5, 6, 7, 8, 9, 10, 11, 12, 13, 14, 15, 16, 17, 18, 19, 20, 21, 22, 23, 24, 25, 26, 27, 28, 29, 30, 31, 32, 33, 34, 35, 36, 37, 38, 39, 40, 41, 42, 43, 44, 45, 46, 47, 48, 49, 50, 51, 52, 53] 54 0 (by kernel_rfl) (by kernel_rfl) (by kernel_rfl) (fun K hK => ?_)); simp only [sel, List.getElem?_cons_succ, List.getElem?_cons_zero, List.drop_succ_cons, List.drop_zero]; simp (disch := first | omega | (simp only [lnS]; try omega)) [-getElem?_pos, -getElem?_neg, q0, q1, q6, h6, hul, hid, hivl, -notTuple, v1, v2, w1, w2, a1, a2, b1, b2, c1, c2, d1, d2, nt_intG, nt_ptrG, nt_aggG, nt_boolG, PL_nil, plainB_lit, PL_cons, PLc_val, PLc_new, stepP_t, stepP_f, stepPC_n, stepPC_s, stepPX_s, stepPX_n, stepPV_n, stepPV_s, stepPA_t, stepPA_c, stepPA_l, stepPN_s, allocOp, reloc_sl, reloc_ptr, List.map_cons, List.map_nil, List.nil_append, List.append_assoc, List.cons_append, Nat.add_assoc]
 refine PLc_call (v := .bool true) (by kernel_rfl) (fun L hL => qalive_rc) (by simp [pv_iv, pv_int, pv_bool, pv_string, pv_tup2, pv_tup3, iv_plain, p2_int, p2_bool, p2_string]) ?_
 simp (disch := first | omega | (simp only [lnS]; try omega)) [-getElem?_pos, -getElem?_neg, q0, q1, q6, h6, hul, hid, hivl, -notTuple, v1, v2, w1, w2, a1, a2, b1, b2, c1, c2, d1, d2, nt_intG, nt_ptrG, nt_aggG, nt_boolG, PL_nil, plainB_lit, PL_cons, PLc_val, PLc_new, stepP_t, stepP_f, stepPC_n, stepPC_s, stepPX_s, stepPX_n, stepPV_n, stepPV_s, stepPA_t, stepPA_c, stepPA_l, stepPN_s, allocOp, reloc_sl, reloc_ptr, List.map_cons, List.map_nil, List.nil_append, List.append_assoc, List.cons_append, Nat.add_assoc]
 refine PLc_call (v := .bool (rightQ l)) (by kernel_rfl) (fun L hL => qRight_rc (N6.lowG (Low.push (Nat.le_refl _) L)) hlm) (by simp [pv_iv, pv_int, pv_bool, pv_string, pv_tup2, pv_tup3, iv_plain, p2_int, p2_bool, p2_string]) ?_
 simp (disch := first | omega | (simp only [lnS]; try omega)) [-getElem?_pos, -getElem?_neg, q0, q1, q6, h6, hul, hid, hivl, -notTuple, v1, v2, w1, w2, a1, a2, b1, b2, c1, c2, d1, d2, nt_intG, nt_ptrG, nt_aggG, nt_boolG, PL_nil, plainB_lit, PL_cons, PLc_val, PLc_new, stepP_t, stepP_f, stepPC_n, stepPC_s, stepPX_s, stepPX_n, stepPV_n, stepPV_s, stepPA_t, stepPA_c, stepPA_l, stepPN_s, allocOp, reloc_sl, reloc_ptr, List.map_cons, List.map_nil, List.nil_append, List.append_assoc, List.cons_append, Nat.add_assoc]
 refine PLc_call (v := .bool (rightQ l)) (by kernel_rfl) (fun L hL => qrRight_rc (N6.lowG (Low.push (Nat.le_refl _) L)) hlm) (by simp [pv_iv, pv_int, pv_bool, pv_string, pv_tup2, pv_tup3, iv_plain, p2_int, p2_bool, p2_string]) ?_
 simp (disch := first | omega | (simp only [lnS]; try omega)) [-getElem?_pos, -getElem?_neg, q0, q1, q6, h6, hul, hid, hivl, -notTuple, v1, v2, w1, w2, a1, a2, b1, b2, c1, c2, d1, d2, nt_intG, nt_ptrG, nt_aggG, nt_boolG, PL_nil, plainB_lit, PL_cons, PLc_val, PLc_new, stepP_t, stepP_f, stepPC_n, stepPC_s, stepPX_s, stepPX_n, stepPV_n, stepPV_s, stepPA_t, stepPA_c, stepPA_l, stepPN_s, allocOp, reloc_sl, reloc_ptr, List.map_cons, List.map_nil, List.nil_append, List.append_assoc, List.cons_append, Nat.add_assoc]
 refine PLc_call (v := .int .i64 (findIH l l.length x.id)) (by kernel_rfl) (fun L hL => qfind_rc (N6.lowG (Low.push (Nat.le_refl _) L)) hlm hwx.id.1) (by simp [pv_iv, pv_int, pv_bool, pv_string, pv_tup2, pv_tup3, iv_plain, p2_int, p2_bool, p2_string]) ?_
 simp (disch := first | omega | (simp only [lnS]; try omega)) [-getElem?_pos, -getElem?_neg, q0, q1, q6, h6, hul, hid, hivl, -notTuple, v1, v2, w1, w2, a1, a2, b1, b2, c1, c2, d1, d2, nt_intG, nt_ptrG, nt_aggG, nt_boolG, PL_nil, plainB_lit, PL_cons, PLc_val, PLc_new, stepP_t, stepP_f, stepPC_n, stepPC_s, stepPX_s, stepPX_n, stepPV_n, stepPV_s, stepPA_t, stepPA_c, stepPA_l, stepPN_s, allocOp, reloc_sl, reloc_ptr, List.map_cons, List.map_nil, List.nil_append, List.append_assoc, List.cons_append, Nat.add_assoc]
 refine PLc_call (v := .int .i64 (findIH l l.length x.id)) (by kernel_rfl) (fun L hL => qrFind_rc (N6.lowG (Low.push (Nat.le_refl _) L)) hlm hwx.id.1) (by simp [pv_iv, pv_int, pv_bool, pv_string, pv_tup2, pv_tup3, iv_plain, p2_int, p2_bool, p2_string]) ?_
 simp (disch := first | omega | (simp only [lnS]; try omega)) [-getElem?_pos, -getElem?_neg, q0, q1, q6, h6, hul, hid, hivl, -notTuple, v1, v2, w1, w2, a1, a2, b1, b2, c1, c2, d1, d2, nt_intG, nt_ptrG, nt_aggG, nt_boolG, PL_nil, plainB_lit, PL_cons, PLc_val, PLc_new, stepP_t, stepP_f, stepPC_n, stepPC_s, stepPX_s, stepPX_n, stepPV_n, stepPV_s, stepPA_t, stepPA_c, stepPA_l, stepPN_s, allocOp, reloc_sl, reloc_ptr, List.map_cons, List.map_nil, List.nil_append, List.append_assoc, List.cons_append, Nat.add_assoc]
 refine PLc_call (v := .bool (decide (l = m))) (by kernel_rfl) (fun L hL => qSame_rc (N6.lowG (Low.push (Nat.le_refl _) L)) (P6.lowG (Low.push (Nat.le_refl _) L)) hlm) (by simp [pv_iv, pv_int, pv_bool, pv_string, pv_tup2, pv_tup3, iv_plain, p2_int, p2_bool, p2_string]) ?_
 simp (disch := first | omega | (simp only [lnS]; try omega)) [-getElem?_pos, -getElem?_neg, q0, q1, q6, h6, hul, hid, hivl, -notTuple, v1, v2, w1, w2, a1, a2, b1, b2, c1, c2, d1, d2, nt_intG, nt_ptrG, nt_aggG, nt_boolG, PL_nil, plainB_lit, PL_cons, PLc_val, PLc_new, stepP_t, stepP_f, stepPC_n, stepPC_s, stepPX_s, stepPX_n, stepPV_n, stepPV_s, stepPA_t, stepPA_c, stepPA_l, stepPN_s, allocOp, reloc_sl, reloc_ptr, List.map_cons, List.map_nil, List.nil_append, List.append_assoc, List.cons_append, Nat.add_assoc]
 refine PLc_call (v := .bool (decide (l = m))) (by kernel_rfl) (fun L hL => qrSame_rc (N6.lowG (Low.push (Nat.le_refl _) L)) (P6.lowG (Low.push (Nat.le_refl _) L)) smL smM hlm) (by simp [pv_iv, pv_int, pv_bool, pv_string, pv_tup2, pv_tup3, iv_plain, p2_int, p2_bool, p2_string]) ?_
 simp (disch := first | omega | (simp only [lnS]; try omega)) [-getElem?_pos, -getElem?_neg, q0, q1, q6, h6, hul, hid, hivl, -notTuple, v1, v2, w1, w2, a1, a2, b1, b2, c1, c2, d1, d2, nt_intG, nt_ptrG, nt_aggG, nt_boolG, PL_nil, plainB_lit, PL_cons, PLc_val, PLc_new, stepP_t, stepP_f, stepPC_n, stepPC_s, stepPX_s, stepPX_n, stepPV_n, stepPV_s, stepPA_t, stepPA_c, stepPA_l, stepPN_s, allocOp, reloc_sl, reloc_ptr, List.map_cons, List.map_nil, List.nil_append, List.append_assoc, List.cons_append, Nat.add_assoc]
 refine PLc_call (v := .bool true) (by kernel_rfl) (fun L hL => by have h := qSame_rc (γ := γ) (N6.lowG (Low.push (Nat.le_refl _) L)) (N6.lowG (Low.push (Nat.le_refl _) L)) hlm; rwa [decide_eq_true rfl] at h) (by simp [pv_iv, pv_int, pv_bool, pv_string, pv_tup2, pv_tup3, iv_plain, p2_int, p2_bool, p2_string]) ?_
 simp (disch := first | omega | (simp only [lnS]; try omega)) [-getElem?_pos, -getElem?_neg, q0, q1, q6, h6, hul, hid, hivl, -notTuple, v1, v2, w1, w2, a1, a2, b1, b2, c1, c2, d1, d2, nt_intG, nt_ptrG, nt_aggG, nt_boolG, PL_nil, plainB_lit, PL_cons, PLc_val, PLc_new, stepP_t, stepP_f, stepPC_n, stepPC_s, stepPX_s, stepPX_n, stepPV_n, stepPV_s, stepPA_t, stepPA_c, stepPA_l, stepPN_s, allocOp, reloc_sl, reloc_ptr, List.map_cons, List.map_nil, List.nil_append, List.append_assoc, List.cons_append, Nat.add_assoc]
 refine PLc_call (v := .bool true) (by kernel_rfl) (fun L hL => by have h := qrSame_rc (γ := γ) (A6.lowG (Low.push (Nat.le_refl _) L)) (B6.lowG (Low.push (Nat.le_refl _) L)) smP smP hlP; rwa [decide_eq_true rfl] at h) (by simp [pv_iv, pv_int, pv_bool, pv_string, pv_tup2, pv_tup3, iv_plain, p2_int, p2_bool, p2_string]) ?_
 simp (disch := first | omega | (simp only [lnS]; try omega)) [-getElem?_pos, -getElem?_neg, q0, q1, q6, h6, hul, hid, hivl, -notTuple, v1, v2, w1, w2, a1, a2, b1, b2, c1, c2, d1, d2, nt_intG, nt_ptrG, nt_aggG, nt_boolG, PL_nil, plainB_lit, PL_cons, PLc_val, PLc_new, stepP_t, stepP_f, stepPC_n, stepPC_s, stepPX_s, stepPX_n, stepPV_n, stepPV_s, stepPA_t, stepPA_c, stepPA_l, stepPN_s, allocOp, reloc_sl, reloc_ptr, List.map_cons, List.map_nil, List.nil_append, List.append_assoc, List.cons_append, Nat.add_assoc]
 refine PLc_call (v := .bool true) (by kernel_rfl) (fun L hL => by have h := qrSame_rc (γ := γ) (C6.lowG (Low.push (Nat.le_refl _) L)) (D6.lowG (Low.push (Nat.le_refl _) L)) smW smW hlW; rwa [decide_eq_true rfl] at h) (by simp [pv_iv, pv_int, pv_bool, pv_string, pv_tup2, pv_tup3, iv_plain, p2_int, p2_bool, p2_string]) ?_
 try simp (disch := first | omega | (simp only [lnS]; try omega)) [-getElem?_pos, -getElem?_neg, q0, q1, q6, h6, hul, hid, hivl, -notTuple, v1, v2, w1, w2, a1, a2, b1, b2, c1, c2, d1, d2, nt_intG, nt_ptrG, nt_aggG, nt_boolG, PL_nil, plainB_lit, PL_cons, PLc_val, PLc_new, stepP_t, stepP_f, stepPC_n, stepPC_s, stepPX_s, stepPX_n, stepPV_n, stepPV_s, stepPA_t, stepPA_c, stepPA_l, stepPN_s, allocOp, reloc_sl, reloc_ptr, List.map_cons, List.map_nil, List.nil_append, List.append_assoc, List.cons_append, Nat.add_assoc]
 refine hK _ _ ?_; clear hK K
 (refine aw_ret ?_; simp (disch := first | omega | (simp only [lnS]; try omega)) [-getElem?_pos, -getElem?_neg, thenQ_ret, scopeQ_ret, inBlockQ_ret, RQ, resL, resV])
end
end Go.Proofs.Ytdeccbjdhcifiaa
