/-
  The reference's Add.
-/
import Derived.Test.YtecjhpamfkfilaaDoorMzF
import Derived.Test.YtecjhpamfkfilaaDoorMzE
namespace Go.Proofs.YtecjhpamfkfilaaDoor
open Go Go.RowKit
set_option linter.unusedSimpArgs false
set_option linter.unusedVariables false
set_option maxRecDepth 100000
set_option maxHeartbeats 8000000
section
attribute [local simp] wb_bool wb_undef with_lit XL_nil XL_cons XLc_val XLc_call step1_eq stepW_t stepW_f stepC_n stepC_s stepX_s stepX_n stepN_s calleeX xrecv oneV xop_eq xopR_s xopR_n wantedA_eq wantedG_n wantedG_s plain1_int plain1_bool plain1_string bits_i64 bits_u64 bits_u32 bits_u16 bits_u8 xeqA xagg xcmp xarr allK_iv num_iv calleeOf xread xeff xbin xint xnil xun xstr xload xconv xpart xfield xfieldAddr xindexAddr xindex bnd asInt? xslice xlen xmin xmax xbuild xfill xappend xapp2 xappstr xappmk xcap xcopy xcells eval_tmp eval_const put_at put_none fr0_at cells_agg cells_int cells_bool cells_string cells_ptr cells_slice notTuple tab iv_all hget_app hget_app0 hget_cons0 hget_cons set_app set_app0 setR setR_one QL_nil QL_cons QLc_val stepQ_t stepQ_f stepQC_n stepQC_s stepQX_s SL_nil SL_cons SLc_val stepS_t stepS_f ltT ltF leT leF eqT eqF ltTn ltFn leTn leFn eqTn eqFn beqT beqF bneT bneF wi64 wu64 wu32 wu16 wu8 tmodP tdivP hgetL hgetNe hgetEq setL nums_def nums_len Nat.succ_le_of_lt List.getElem?_cons_zero List.getElem?_cons_succ Option.getD_some Int.toNat_add Int.toNat_mul agM okM agB agI agS agP agL agA okB okI okS okP okSl okA nt_strG nt_boolG nt_aggG nt_intG nt_ptrG nt_slG XO_s XO_z XLk_val XLk_call headsO behind List.length_cons List.length_nil List.mem_cons List.not_mem_nil or_false forall_eq_or_imp forall_eq List.contains_cons List.contains_nil
section
theorem radd_ac {nro : Nat} {γ : Nat → Option Nat} {H : AH} {b : Nat} {tv sv : Value} {Ft Fs F : List Nat} {L : List (Value × TermD)} (h : RTblF H b tv sv Ft Fs F L) (hnH : nro ≤ H.length) (hnro : ∀ j ∈ b :: (Ft ++ Fs), nro ≤ j) {kv : Value} {x : TermD} (hx : x.Wf) {Fx : List Nat} (hkv : ∀ G : AH, (∀ j ∈ Fx, hget G j = hget H j) → KsV G kv x.keys) (hFx : ∀ j ∈ Fx, j < H.length ∧ j ≠ b ∧ j ∉ Ft ∧ j ∉ Fs) (hL : L.length ≤ 1000000) :
  AC Tryd.prog nro γ 45 #[.pointer (some ⟨b, 0, none⟩), .agg (tmRow kv x).toArray] H (fun v' H' => v' = .tuple #[] ∧ H.length ≤ H'.length ∧ (∀ j, j < H.length → j ≠ b → j ∉ Ft → j ∉ Fs → hget H' j = hget H j) ∧ ∃ tv' sv' Ft' Fs', RTblF H' b tv' sv' Ft' Fs' (F ++ Fx) (L ++ [(kv, x)]) ∧ ∀ j ∈ Ft' ++ Fs', H.length ≤ j) := by
 obtain ⟨hsl, htl⟩ := h.slen
 have hv : KsV H kv x.keys := hkv H (fun _ _ => rfl)
 obtain ⟨hnt, hvc⟩ := val_nt hv
 have hs1 := ownF_nt h.sums
 have hs2 := ownF_nt h.rows
 have hxt := hx.text
 have hxm : x.keys.length ≤ maxLen := by have := hx.many; simp only [maxLen]; omega
 have hsum := fun (G : AH) (hG : KsV G kv x.keys) => sum_rc (γ := γ) (H := G) hG hx.k32 (by omega) hxm
 have hrow : tmRow kv x = [.int .i64 (x.kind : Nat), .string x.text, kv] := rfl
 have hgb := h.hb
 have hlb := hget_lt hgb
 have hFtl := h.rows.lt
 have hFsl := h.sums.lt
 rw [hrow] at hsum ⊢
 refine ac_of_aw Tryd.func45 rfl Tryd.ntmps45 Tryd.results45 (by simp) ?_
 (refine aw_seq (aoo fun K hK => ?_); simp (disch := first | omega | (simp only [lnS]; try omega)) [-notTuple, hnt, hvc]; refine hK _ _ ?_; clear hK K)
 obtain ⟨B, hB⟩ : ∃ B : AH, B = H ++ [some ⟨[.int .i64 (x.kind : Nat), .string x.text, kv], 67, none⟩] := ⟨_, rfl⟩
 have hgx : hget B H.length = some ⟨[.int .i64 (x.kind : Nat), .string x.text, kv], 67, none⟩ := by rw [hB, hget_app0]; rfl
 have hlx := hget_lt hgx
 have hBl : B.length = H.length + 1 := by rw [hB]; simp
 have lwB : ∀ j, j < H.length → hget B j = hget H j := fun j hj => by rw [hB]; exact hget_left hj
 rw [← hB]
 clear hB
 have hgB := (lwB b hlb).trans hgb
 have hlB := hget_lt hgB
 obtain ⟨R, hR⟩ : ∃ R : Option Blk, R = some ⟨[.int .i64 (x.kind : Nat), .string x.text, kv], 67, some 3⟩ := ⟨_, rfl⟩
 have hxc : xcells 3 (.slice (some ⟨B.length, 0, none⟩) 1 1) (B ++ [R]) = some (tmRow kv x) := by
  unfold xcells
  simp only [hget_app0]
  rw [hR]
  rfl
 obtain ⟨tv', G3, hap, ho2, hl3, hk3⟩ := ownF_append (P := Tryd.prog) (nro := nro) (t := 56) (e := 67) (H := B ++ [R]) (v := tv) (x := .slice (some ⟨B.length, 0, none⟩) 1 1) (sz := 3) (cells := tmRows L) (news := tmRow kv x) (F := Ft) (by kernel_rfl) (by kernel_rfl) (by omega) (by kernel_rfl)
  (h.rows.low (fun j hj => (hget_left (by have := hFtl j hj; omega)).trans (lwB j (hFtl j hj)))) (fun j hj => hnro j (by simp [hj])) (fun s e => by cases e) hxc (by simp [tmRow]) (by simp [tmRow]) (by rw [tmRows_len]; show (L.length * 3 + 3) * byt Tryd.prog 67 ≤ _; rw [show byt Tryd.prog 67 = 48 by kernel_rfl]; omega) (by rw [tmRows_len]; show L.length * 3 + 3 ≤ _; simp [maxLen]; omega)
 have hl2 : (B ++ [R]).length = B.length + 1 := by simp
 rw [hl2] at ho2 hl3 hk3
 obtain ⟨n1, n2⟩ := ownF_nt ho2
 have k3 : ∀ j, j < B.length → j ∉ Ft → hget G3 j = hget B j := fun j hj hn => (hk3 j (by omega) hn).trans (hget_left hj)
 have g3b := (k3 b hlB h.bt).trans hgB
 have l3b := hget_lt g3b
 have hnb : nro ≤ b := hnro b (by simp)
 have hBt : ∀ G : AH, hget G b = some ⟨[tv, sv], 59, none⟩ → xload Tryd.prog 56 (.pointer (some ⟨b, 0, none⟩)) G = some tv := fun G hG => by simp [xload, hG]
 have r1 : List.range 3 = [0, 1, 2] := rfl
 have p1 : plain1 (.slice none 0 0) = true := rfl
 subst hR
 obtain ⟨A, hA⟩ : ∃ A : AH, A = G3.set b (some ⟨[tv', sv], 59, none⟩) := ⟨_, rfl⟩
 refine aw_seq ?_
 refine aw_cut (fun α G' => α 0 = .pointer (some ⟨b, 0, none⟩) ∧ α 3 = .pointer (some ⟨H.length, 0, none⟩) ∧ G' = A) ?_ ?_
 ·rw [hA]
  (refine aw_ptree [0, 1, 2, 3] 7 [[4, 5, 6, 7, 8, 9, 10], [5, 4, 6, 7, 8, 9, 10], [5, 6, 4, 7, 8, 9, 10]] (by kernel_rfl) (by kernel_rfl) (by kernel_rfl) (fun K hK => ?_)); simp only [sel, List.getElem?_cons_succ, List.getElem?_cons_zero]; simp (disch := first | omega | (simp only [lnS]; try omega)) [hgB, hlB, hgx, hlx, -notTuple, hnt, hvc, hs2.1, hs2.2, p1, r1, -xappend, hap, g3b, l3b, hnb, n1, n2]
  refine ⟨?_, ?_, ?_⟩
  all_goals
   refine hK _ _ ?_; clear hK K
   exact ⟨by (first | (simp; done) | rfl), by (first | (simp; done) | rfl), rfl⟩
 rintro α G' ⟨h0, h3, rfl⟩
 obtain ⟨A, hAG⟩ : ∃ A, A = G' := ⟨_, rfl⟩
 rw [← hAG] at hA ⊢
 clear hAG
 have hgA : hget A b = some ⟨[tv', sv], 59, none⟩ := by rw [hA, hget_set_eq l3b]
 have hAl : A.length = H.length + 3 := by rw [hA, List.length_set]; omega
 have hAj : ∀ j, j < B.length → j ≠ b → j ∉ Ft → hget A j = hget B j := fun j hj h1 h2 => by rw [hA, hget_set_ne (Ne.symm h1)]; exact k3 j hj h2
 have hAH : ∀ j, j < H.length → j ≠ b → j ∉ Ft → hget A j = hget H j := fun j hj h1 h2 => (hAj j (by omega) h1 h2).trans (lwB j hj)
 have hgxA := (hAj H.length hlx (by omega) (fun e => by have := hFtl _ e; omega)).trans hgx
 have ho2A : OwnF A tv' 67 3 (tmRows L ++ tmRow kv x) [B.length + 1] := ho2.low (fun j hj => by rw [hA, hget_set_ne (by have := List.mem_singleton.1 hj; omega)])
 clear hA hap k3 hk3 g3b l3b hgB hlB hgx hlx ho2 hxc lwB hAj hl3 hl2
 have hlA := hget_lt hgA
 have hlxA := hget_lt hgxA
 have hvA : KsV A kv x.keys := hkv A (fun j hj => hAH j (hFx j hj).1 (hFx j hj).2.1 (hFx j hj).2.2.1)
 have hsA : OwnF A sv 99 1 (iv .u32 (L.map fun p => sumR p.2)) Fs := h.sums.low (fun j hj => hAH j (hFsl j hj) (fun e => h.bs (e ▸ hj)) (fun e => h.ts j e hj))
 obtain ⟨sx, hsx⟩ : ∃ sx, sx = sumR x := ⟨_, rfl⟩
 rw [← hsx] at hsum
 have hxc : xcells 1 (.slice (some ⟨A.length, 0, none⟩) 1 1) (A ++ [some ⟨[.int .u32 sx], 99, some 1⟩]) = some [.int .u32 sx] := by
  unfold xcells
  simp only [hget_app0]
  rfl
 obtain ⟨sv', G4, hap, ho4, hl4, hk4⟩ := ownF_append (P := Tryd.prog) (nro := nro) (t := 57) (e := 99) (H := A ++ [some ⟨[.int .u32 sx], 99, some 1⟩]) (v := sv) (x := .slice (some ⟨A.length, 0, none⟩) 1 1) (sz := 1) (cells := iv .u32 (L.map fun p => sumR p.2)) (news := [.int .u32 sx]) (F := Fs) (by kernel_rfl) (by kernel_rfl) (by omega) (by kernel_rfl)
  (hsA.low (fun j hj => hget_left (by have := hFsl j hj; omega))) (fun j hj => hnro j (by simp [hj])) (fun s e => by cases e) hxc (by simp) (by simp) (by rw [iv_length, List.length_map]; show (L.length + 1) * byt Tryd.prog 99 ≤ _; rw [show byt Tryd.prog 99 = 4 by kernel_rfl]; omega) (by rw [iv_length, List.length_map]; show L.length + 1 ≤ _; simp [maxLen]; omega)
 have hl5 : (A ++ [(some ⟨[.int .u32 sx], 99, some 1⟩ : Option Blk)]).length = A.length + 1 := by simp
 rw [hl5] at ho4 hl4 hk4
 obtain ⟨n3, n4⟩ := ownF_nt ho4
 have k4 : ∀ j, j < A.length → j ∉ Fs → hget G4 j = hget A j := fun j hj hn => (hk4 j (by omega) hn).trans (hget_left hj)
 have g4b := (k4 b hlA h.bs).trans hgA
 have l4b := hget_lt g4b
 have r1 : List.range 1 = [0] := rfl
 have fin : H.length ≤ (G4.set b (some ⟨[tv', sv'], 59, none⟩)).length ∧ (∀ j, j < H.length → j ≠ b → j ∉ Ft → j ∉ Fs → hget (G4.set b (some ⟨[tv', sv'], 59, none⟩)) j = hget H j) ∧ ∃ tv2 sv2 Ft2 Fs2, RTblF (G4.set b (some ⟨[tv', sv'], 59, none⟩)) b tv2 sv2 Ft2 Fs2 (F ++ Fx) (L ++ [(kv, x)]) ∧ ∀ j ∈ Ft2 ++ Fs2, H.length ≤ j := by
  obtain ⟨M, hM⟩ : ∃ M : AH, M = G4.set b (some ⟨[tv', sv'], 59, none⟩) := ⟨_, rfl⟩
  rw [← hM]
  have hMb : hget M b = some ⟨[tv', sv'], 59, none⟩ := by rw [hM, hget_set_eq l4b]
  have hMl : M.length = H.length + 5 := by rw [hM, List.length_set]; omega
  have hMj : ∀ j, j ≠ b → hget M j = hget G4 j := fun j hj => by rw [hM, hget_set_ne (Ne.symm hj)]
  have hMH : ∀ j, j < H.length → j ≠ b → j ∉ Ft → j ∉ Fs → hget M j = hget H j := fun j hj h1 h2 h3 => (hMj j h1).trans ((k4 j (by omega) h3).trans (hAH j hj h1 h2))
  refine ⟨by omega, hMH, tv', sv', [B.length + 1], [A.length + 1], ⟨hMb, ?_, ?_, ?_, ?_, ?_, ?_, ?_, ?_, ?_, ?_, ?_⟩, ?_⟩
  ·rw [tmRows_snoc]
   exact ho2A.low (fun j hj => by
    have := List.mem_singleton.1 hj
    exact (hMj j (by omega)).trans (k4 j (by omega) (fun e => by have := hFsl j e; omega)))
  ·rw [List.map_append, show iv .u32 ((L.map fun p => sumR p.2) ++ [(kv, x)].map fun p => sumR p.2) = iv .u32 (L.map fun p => sumR p.2) ++ [.int .u32 sx] by simp [iv, hsx]]
   exact ho4.low (fun j hj => hMj j (by have := List.mem_singleton.1 hj; omega))
  ·intro p hp D hD
   rcases List.mem_append.1 hp with hp | hp
   ·exact h.keys p hp D (fun j hj => (hD j (by simp [hj])).trans (hMH j (h.lt j hj) (fun e => h.bf (e ▸ hj)) (fun e => h.tf j e hj) (fun e => h.sf j e hj)))
   ·rw [List.mem_singleton.1 hp]
    exact hkv D (fun j hj => (hD j (by simp [hj])).trans (hMH j (hFx j hj).1 (hFx j hj).2.1 (hFx j hj).2.2.1 (hFx j hj).2.2.2))
  ·intro p hp
   rcases List.mem_append.1 hp with hp | hp
   ·exact h.wf p hp
   ·rw [List.mem_singleton.1 hp]; exact hx
  ·intro j hj
   rcases List.mem_append.1 hj with hj | hj
   ·have := h.lt j hj; omega
   ·have := (hFx j hj).1; omega
  ·rw [List.mem_singleton]; omega
  ·rw [List.mem_singleton]; omega
  ·intro e
   rcases List.mem_append.1 e with e | e
   ·exact h.bf e
   ·exact (hFx b e).2.1 rfl
  ·intro j hj e
   have := List.mem_singleton.1 hj
   have := List.mem_singleton.1 e
   omega
  ·intro j hj e
   have h1 := List.mem_singleton.1 hj
   rcases List.mem_append.1 e with e | e
   ·have := h.lt j e; omega
   ·have := (hFx j e).1; omega
  ·intro j hj e
   have h1 := List.mem_singleton.1 hj
   rcases List.mem_append.1 e with e | e
   ·have := h.lt j e; omega
   ·have := (hFx j e).1; omega
  ·intro j hj
   simp only [List.mem_append, List.mem_singleton] at hj
   omega
 (refine aw_ptree [0, 1, 2, 3] 8 [[4, 5, 6, 7, 8, 9, 10, 11], [5, 4, 6, 7, 8, 9, 10, 11], [5, 6, 4, 7, 8, 9, 10, 11], [5, 6, 7, 4, 8, 9, 10, 11]] (by kernel_rfl) (by kernel_rfl) (by kernel_rfl) (fun K hK => ?_)); simp only [sel, List.getElem?_cons_succ, List.getElem?_cons_zero]; simp (disch := first | omega | (simp only [lnS]; try omega)) [h0, h3, hgA, hlA, hgxA, hlxA, -notTuple, hnt, hvc, hs1.1, hs1.2, n1, n2, p1, r1, -xappend, hap, g4b, l4b, hnb, n3, n4]
 refine ⟨⟨by kernel_rfl, ac_of_rc (hsum _ hvA) (by simp [pv_iv, pv_int, pv_bool, pv_string, pv_tup2, pv_tup3, iv_plain, p2_int, p2_bool, p2_string]) ?_⟩, ⟨by kernel_rfl, ac_of_rc (hsum _ hvA) (by simp [pv_iv, pv_int, pv_bool, pv_string, pv_tup2, pv_tup3, iv_plain, p2_int, p2_bool, p2_string]) ?_⟩, by kernel_rfl, ac_of_rc (hsum _ hvA) (by simp [pv_iv, pv_int, pv_bool, pv_string, pv_tup2, pv_tup3, iv_plain, p2_int, p2_bool, p2_string]) ?_⟩
 all_goals try simp (disch := first | omega | (simp only [lnS]; try omega)) [h0, h3, hgA, hlA, hgxA, hlxA, -notTuple, hnt, hvc, hs1.1, hs1.2, n1, n2, p1, r1, -xappend, hap, g4b, l4b, hnb, n3, n4]
 ·refine hK _ _ ?_; clear hK K
  exact ⟨[], _, rfl, rfl, rfl, fin⟩
 ·refine hK _ _ ?_; clear hK K
  exact ⟨[], _, rfl, rfl, rfl, fin⟩
 ·refine ⟨?_, ?_⟩
  all_goals
   refine hK _ _ ?_; clear hK K
   exact ⟨[], _, rfl, rfl, rfl, fin⟩
end
section
theorem ownF_appQ {P : Program} {nro : Nat} {t e : TypeId} {H : AH} {v x : Value} {sz : Nat} {cells news : List Value} {F : List Nat} (hu : und P t = .slice e) (hs : szt P e = sz) (h0 : 0 < sz) (hz : (zer P e).map (·.cells.size) = some sz)
  (hv : OwnF H v e sz cells F) (hnro : ∀ j ∈ F, nro ≤ j) (hstr : ∀ s, x ≠ .string s) (hx : xcells sz x H = some news) (hd : news.length % sz = 0) (hb : (cells.length + news.length) * byt P e ≤ 140737488355328) (hm : cells.length + news.length ≤ maxLen) :
  ∃ v' H' F', xappend P nro t v x H = some (v', H') ∧ OwnF H' v' e sz (cells ++ news) F' ∧ H.length ≤ H'.length ∧ (∀ j, j < H.length → j ∉ F → hget H' j = hget H j) ∧ ∀ j ∈ F', H.length ≤ j := by
 by_cases hn : news = []
 ·subst hn
  rcases hv with ⟨rfl, rfl, rfl⟩ | ⟨j, len, rfl, h3, h4, rfl⟩
  ·refine ⟨.slice none 0 0, H, [], ?_, .inl ⟨rfl, rfl, rfl⟩, Nat.le_refl _, fun _ _ _ => rfl, fun j hj => (by cases hj)⟩
   subst hs
   unfold xappend
   cases x <;> first | (exact absurd rfl (hstr _)) | (simp only [hu, hx]; rw [if_pos ⟨h0, hz, by simp, by simp⟩]; first | rw [if_pos rfl] | rw [if_pos trivial])
  ·subst hs
   have hj := hget_lt h3
   refine ⟨.slice (some ⟨H.length, 0, none⟩) len len, H.set j none ++ [some ⟨cells, e, some (szt P e)⟩], [H.length], ?_, .inr ⟨H.length, len, rfl, ?_, by simpa using h4, rfl⟩, by simp, fun i hi hni => ?_, fun j hj => by simp at hj; omega⟩
   ·have hc : True ∧ 0 < szt P e ∧ (zer P e).map (·.cells.size) = some (szt P e) ∧ nro ≤ j ∧ True ∧ True ∧ len * szt P e ≤ cells.length ∧ (len * szt P e + 0) * byt P e ≤ 140737488355328 ∧ len * szt P e + 0 ≤ maxLen :=
     ⟨trivial, h0, hz, hnro j (by simp), trivial, trivial, by omega, by rw [← h4]; exact hb, by rw [← h4]; exact hm⟩
    have e2 : cells.take (len * szt P e) = cells := List.take_of_length_le (by omega)
    unfold xappend
    cases x <;> first | (exact absurd rfl (hstr _)) | (simp only [hu, hx, h3, List.length_nil]; rw [if_pos hc, e2]; simp)
   ·have : (H.set j none).length = H.length := by simp
    rw [← this, hget_app0, hget_cons0, List.append_nil]
   ·rw [hget_left (by simp; omega), hget_set_ne (fun e => hni (by simp [e]))]
 ·obtain ⟨v', H', h1, h2, h3, h4⟩ := ownF_append (P := P) (nro := nro) (t := t) hu hs h0 hz hv hnro hstr hx hn hd hb hm
  exact ⟨v', H', _, h1, h2, by omega, h4, fun j hj => by simp at hj; omega⟩
def RMkQ (H : AH) (b : Nat) (Ft Fs F : List Nat) (L : List (Value × TermD)) (x : TermD) (v' : Value) (H' : AH) : Prop :=
 v' = .agg (iv .u8 (nmL (nameT x (L.map (·.2)) : Nat))).toArray ∧ H.length ≤ H'.length ∧ (∀ j, j < H.length → j ≠ b → j ∉ Ft → j ∉ Fs → hget H' j = hget H j) ∧ ∃ tv' sv' Ft' Fs' F' L', RTblF H' b tv' sv' Ft' Fs' F' L' ∧ L'.map (·.2) = addT x (L.map (·.2)) ∧ ∀ j ∈ Ft' ++ Fs' ++ F', j ∈ Ft ++ Fs ++ F ∨ H.length ≤ j
theorem rmake_ac {nro : Nat} {γ : Nat → Option Nat} {H : AH} {b : Nat} {tv sv : Value} {Ft Fs F : List Nat} {L : List (Value × TermD)} (h : RTblF H b tv sv Ft Fs F L) (hnH : nro ≤ H.length) (hnro : ∀ j ∈ b :: (Ft ++ Fs), nro ≤ j) {x : TermD} (hx : x.Wf) {v : Value} (hv : KsV H v x.keys) (hL : L.length ≤ 900000) :
  AC Tryd.prog nro γ 25 #[.pointer (some ⟨b, 0, none⟩), .int .i64 (x.kind : Nat), .string x.text, v] H (RMkQ H b Ft Fs F L x) := by
 obtain ⟨hnt, hvc⟩ := val_nt hv
 have hFb := h.bound
 have hlb := hget_lt h.hb
 have hstr : ∀ s, v ≠ .string s := fun s e => by
  have hv' : CD.Val H (.sl (x.keys.map kd)) v := hv
  generalize x.keys.map kd = rows at hv'
  rw [e] at hv'
  cases hv'
 obtain ⟨G0, hG0⟩ : ∃ G0 : AH, G0 = H ++ [some ⟨iv .u8 (zl 32), 28, none⟩, some ⟨[], 28, some 32⟩] := ⟨_, rfl⟩
 have g00 : hget G0 H.length = some ⟨iv .u8 (zl 32), 28, none⟩ := by rw [hG0, hget_app0]; rfl
 have g01 : hget G0 (H.length + 1) = some ⟨[], 28, some 32⟩ := by rw [hG0, hget_app]; rfl
 have hG0l : G0.length = H.length + 2 := by rw [hG0]; simp
 have hG0j : ∀ j, j < H.length → hget G0 j = hget H j := fun j hj => by rw [hG0]; exact hget_left hj
 have hxc : xcells 32 v G0 = some (ksC x.keys) := val_cells (by omega) (CD.Val.low (fun j hj => hG0j j hj) hv) (kd_len hx.k32) (kd_flat _)
 have hkl := ksC_len hx.k32
 have hmany := hx.many
 obtain ⟨v1, G1, F1, hap, ho1, hl1, hk1, hF1⟩ := ownF_appQ (P := Tryd.prog) (nro := nro) (t := 33) (e := 28) (H := G0) (v := .slice (some ⟨H.length + 1, 0, none⟩) 0 0) (x := v) (sz := 32) (cells := []) (news := ksC x.keys) (F := [H.length + 1]) (by kernel_rfl) (by kernel_rfl) (by omega) (by kernel_rfl)
  (.inr ⟨H.length + 1, 0, rfl, g01, rfl, rfl⟩) (fun j hj => by have := List.mem_singleton.1 hj; omega) hstr hxc (by rw [hkl]; omega) (by rw [hkl]; show (0 + x.keys.length * 32) * byt Tryd.prog 28 ≤ _; rw [show byt Tryd.prog 28 = 32 by kernel_rfl]; omega) (by rw [hkl]; show 0 + _ ≤ _; simp only [maxLen]; omega)
 obtain ⟨n1, n2⟩ := ownF_nt ho1
 have g10 := (hk1 H.length (by omega) (by simp)).trans g00
 have hG1j : ∀ j, j < H.length → hget G1 j = hget H j := fun j hj => (hk1 j (by omega) (by simp; omega)).trans (hG0j j hj)
 have p1 : plain1 (.slice none 0 0) = true := rfl
 have r3 : List.range 3 = [0, 1, 2] := rfl
 have hn1 : nro ≤ G1.length := by omega
 subst hG0
 refine ac_of_aw Tryd.func25 rfl Tryd.ntmps25 Tryd.results25 (by simp) ?_
 (refine aw_seq (aoo fun K hK => ?_); simp (disch := first | omega | (simp only [lnS]; try omega)) []; refine hK _ _ ?_; clear hK K)
 (refine aw_seq (aoo fun K hK => ?_); simp (disch := first | omega | (simp only [lnS]; try omega)) [-notTuple, hnt, hvc, n1, n2, hn1, p1, r3, -xappend, hap, List.range_zero, List.map_nil]; refine hK _ _ ?_; clear hK K)
 obtain ⟨G2, hG2⟩ : ∃ G2 : AH, G2 = G1 ++ [some ⟨[.int .i64 (x.kind : Nat), .string x.text, v1], 67, none⟩] := ⟨_, rfl⟩
 have gx2 : hget G2 G1.length = some ⟨[.int .i64 (x.kind : Nat), .string x.text, v1], 67, none⟩ := by rw [hG2, hget_app0]; rfl
 have k2 : ∀ j, j < G1.length → hget G2 j = hget G1 j := fun j hj => by rw [hG2]; exact hget_left hj
 have hG2l : G2.length = G1.length + 1 := by rw [hG2]; simp
 rw [← hG2]
 clear hG2
 have hF1l := ho1.lt
 have ho2 : OwnF G2 v1 28 32 (kr x.keys) F1 := by
  rw [← ksC_kr]
  exact ho1.low (fun j hj => k2 j (hF1l j hj))
 have hT2 : RTblF G2 b tv sv Ft Fs F L := h.low (fun j hj => (k2 j (by have := hFb j hj; omega)).trans (hG1j j (hFb j hj))) (by omega)
 have g20 := (k2 H.length (by omega)).trans g10
 have lx2 := hget_lt gx2
 have hrow : tmRow v1 x = [.int .i64 (x.kind : Nat), .string x.text, v1] := rfl
 have hfd := rfind_ac (nro := nro) (γ := γ) hT2 (by omega) hx (kr_ksv ho2 hx.k32) (by omega)
 rw [hrow] at hfd
 refine aw_seq (aoo fun K hK => ?_)
 simp (disch := first | omega | (simp only [lnS]; try omega)) [gx2, lx2, -notTuple, n1, n2]
 refine ⟨by kernel_rfl, AC.mono hfd ?_⟩
 rintro _ G3 ⟨rfl, lw3⟩
 try simp (disch := first | omega | (simp only [lnS]; try omega)) []
 refine hK _ _ ?_; clear hK K
 have hl3 := lw3.2
 have gx3 := (lw3.1 _ lx2).trans gx2
 have g30 := (lw3.1 _ (hget_lt g20)).trans g20
 have hT3 : RTblF G3 b tv sv Ft Fs F L := hT2.low (fun j hj => lw3.1 j (by have := hFb j hj; omega)) (by omega)
 have hH3 : ∀ j, j < H.length → hget G3 j = hget H j := fun j hj => (lw3.1 j (by omega)).trans ((k2 j (by omega)).trans (hG1j j hj))
 have ho3 : OwnF G3 v1 28 32 (kr x.keys) F1 := ho2.low (fun j hj => lw3.1 j (by have := hF1l j hj; omega))
 clear hfd lw3 hT2 ho2 g20 gx2 lx2 k2 hap hk1 ho1 g10 g01 hxc hkl
 have lx3 := hget_lt gx3
 have l30 := hget_lt g30
 refine aw_seq (aw_seq ?_)
 unfold posI
 have hnm := fun (G : AH) (hle : nameT x (L.map (·.2)) ≤ L.length) => rname_rc (γ := γ) (H := G) (n := (nameT x (L.map (·.2)) : Nat)) ⟨by omega, by omega⟩
 have hnn : nro ≤ H.length := hnH
 cases hf : placeT x (L.map (·.2)) with
 | some i =>
  have hnm1 : nameT x (L.map (·.2)) = i := by unfold nameT; rw [hf]
  have had : addT x (L.map (·.2)) = L.map (·.2) := by unfold addT; rw [hf]
  have hil : i ≤ L.length := by
   have := (List.getElem?_eq_some_iff.1 (idxS_some hf)).1
   simp at this
   omega
  rw [hnm1] at hnm
  have h0 : ¬ ((i : Nat) : Int) < 0 := by omega
  (refine aoo fun K hK => ?_; simp (disch := first | omega | (simp only [lnS]; try omega)) [h0]; refine hK _ _ ?_; clear hK K)
  refine aw_f (by (first | (simp [h0]; done) | (simp [h0]; omega))) (by kernel_rfl) ?_
  refine aw_skip (aw_seq ?_)
  refine aoo fun K hK => ?_
  simp (disch := first | omega | (simp only [lnS]; try omega)) []
  refine ⟨by kernel_rfl, ac_of_rc (hnm _ hil) (by simp [pv_iv]) ?_⟩
  have lN : (nmL (i : Nat)).length = 32 := rfl
  obtain ⟨N, hN⟩ : ∃ N : List Int, N = nmL (i : Nat) := ⟨_, rfl⟩
  rw [← hN] at lN ⊢
  have htN : (iv .u8 N).take 32 = iv .u8 N := List.take_of_length_le (by simp [lN])
  have hsN : setR (iv .u8 (zl 32)) 0 (iv .u8 N) = iv .u8 N := setR_all _ _ (by simp [lN])
  have fin : RMkQ H b Ft Fs F L x (.agg (iv .u8 N).toArray) (G3.set H.length (some ⟨iv .u8 N, 28, none⟩)) := by
   refine ⟨by rw [hnm1, ← hN], by simp; omega, fun j hj _ _ _ => (hget_set_ne (by omega)).trans (hH3 j hj), tv, sv, Ft, Fs, F, L, hT3.low (fun j hj => hget_set_ne (by have := hFb j hj; omega)) (by simp), had.symm, fun j hj => .inl hj⟩
  try simp (disch := first | omega | (simp only [lnS]; try omega)) [lN, htN, hsN, g30, l30, hnn]
  refine hK _ _ ?_; clear hK K
  (refine aw_ret ?_; simp (disch := first | omega | (simp only [lnS]; try omega)) [thenQ_ret, scopeQ_ret, inBlockQ_ret, RQ, resL, resV, lN, htN, l30])
  exact fin
 | none =>
  have hnm1 : nameT x (L.map (·.2)) = L.length := by unfold nameT; rw [hf, List.length_map]
  have had : addT x (L.map (·.2)) = (L ++ [(v1, x)]).map (·.2) := by unfold addT; rw [hf]; simp
  rw [hnm1] at hnm
  have hF3 : ∀ j ∈ F1, j < G3.length ∧ j ≠ b ∧ j ∉ Ft ∧ j ∉ Fs := fun j hj => by
   have h1 := hF1 j hj
   have h2 := hF1l j hj
   refine ⟨by omega, by omega, fun e => ?_, fun e => ?_⟩
   ·have := hFb j (by simp [e]); omega
   ·have := hFb j (by simp [e]); omega
  have hadd := radd_ac (nro := nro) (γ := γ) hT3 (by omega) hnro hx (Fx := F1) (fun D hD => kr_ksv (ho3.low hD) hx.k32) hF3 (by omega)
  rw [hrow] at hadd
  (refine aoo fun K hK => ?_; simp (disch := first | omega | (simp only [lnS]; try omega)) []; refine hK _ _ ?_; clear hK K)
  refine aw_t (by (first | (simp; done) | (simp; omega))) (by kernel_rfl) ?_
  refine aw_seq (aoo fun K hK => ?_)
  simp (disch := first | omega | (simp only [lnS]; try omega)) [gx3, lx3, -notTuple, n1, n2]
  refine ⟨by kernel_rfl, AC.mono hadd ?_⟩
  rintro _ G4 ⟨rfl, hl4, hk4, tv', sv', Ft', Fs', hT4, hF4⟩
  try simp (disch := first | omega | (simp only [lnS]; try omega)) []
  refine hK _ _ ?_; clear hK K
  have hbH : H.length ≠ b := by omega
  have hHt : H.length ∉ Ft := fun e => by have := hFb _ (show H.length ∈ b :: (Ft ++ Fs ++ F) by simp [e]); omega
  have hHs : H.length ∉ Fs := fun e => by have := hFb _ (show H.length ∈ b :: (Ft ++ Fs ++ F) by simp [e]); omega
  have g40 := (hk4 H.length (by omega) hbH hHt hHs).trans g30
  have l40 := hget_lt g40
  have hgb4 := hT4.hb
  have hlb4 := hget_lt hgb4
  obtain ⟨_, htl4⟩ := hT4.slen
  have hlen : (L ++ [(v1, x)]).length = L.length + 1 := by simp
  rw [hlen] at htl4
  have ht4 := ownF_nt hT4.rows
  have ldt : xload Tryd.prog 56 (.pointer (some ⟨b, 0, none⟩)) G4 = some tv' := by simp [xload, hgb4]
  have hw : IntKind.i64.wrap (((L.length + 1 : Nat) : Int) - 1) = (L.length : Nat) := by
   rw [show ((L.length + 1 : Nat) : Int) - 1 = (L.length : Nat) by omega]
   exact w64 (by omega)
  (refine aoo fun K hK => ?_; simp (disch := first | omega | (simp only [lnS]; try omega)) [hgb4, hlb4, -xload, ldt, -notTuple, ht4.1, ht4.2, -xlen, htl4, hw]; refine hK _ _ ?_; clear hK K)
  refine aw_seq (aoo fun K hK => ?_)
  simp (disch := first | omega | (simp only [lnS]; try omega)) []
  refine ⟨by kernel_rfl, ac_of_rc (hnm _ (Nat.le_refl _)) (by simp [pv_iv]) ?_⟩
  have lN : (nmL (L.length : Nat)).length = 32 := rfl
  obtain ⟨N, hN⟩ : ∃ N : List Int, N = nmL (L.length : Nat) := ⟨_, rfl⟩
  rw [← hN] at lN ⊢
  have htN : (iv .u8 N).take 32 = iv .u8 N := List.take_of_length_le (by simp [lN])
  have hsN : setR (iv .u8 (zl 32)) 0 (iv .u8 N) = iv .u8 N := setR_all _ _ (by simp [lN])
  have hb4 := hT4.bound
  have fin : RMkQ H b Ft Fs F L x (.agg (iv .u8 N).toArray) (G4.set H.length (some ⟨iv .u8 N, 28, none⟩)) := by
   refine ⟨by rw [hnm1, ← hN], by simp; omega, fun j hj h1 h2 h3 => (hget_set_ne (by omega)).trans ((hk4 j (by omega) h1 h2 h3).trans (hH3 j hj)), tv', sv', Ft', Fs', F ++ F1, L ++ [(v1, x)], hT4.low (fun j hj => hget_set_ne (fun e => ?_)) (by simp), had.symm, fun j hj => ?_⟩
   ·rw [← e] at hj
    simp only [List.mem_cons, List.mem_append] at hj
    rcases hj with hj | (hj | hj) | hj | hj
    ·exact hbH hj
    ·have := hF4 _ (List.mem_append.2 (.inl hj)); omega
    ·have := hF4 _ (List.mem_append.2 (.inr hj)); omega
    ·have := hFb _ (show H.length ∈ b :: (Ft ++ Fs ++ F) by simp [hj]); omega
    ·have := hF1 _ hj; omega
   ·simp only [List.mem_append] at hj ⊢
    rcases hj with (hj | hj) | hj | hj
    ·have := hF4 _ (List.mem_append.2 (.inl hj)); exact .inr (by omega)
    ·have := hF4 _ (List.mem_append.2 (.inr hj)); exact .inr (by omega)
    ·exact .inl (.inr hj)
    ·have := hF1 _ hj; exact .inr (by omega)
  try simp (disch := first | omega | (simp only [lnS]; try omega)) [lN, htN, hsN, g40, l40, hnn]
  refine hK _ _ ?_; clear hK K
  (refine aw_ret ?_; simp (disch := first | omega | (simp only [lnS]; try omega)) [thenQ_ret, scopeQ_ret, inBlockQ_ret, RQ, resL, resV, lN, htN, l40])
  exact fin
end
section
def RLookQ (H : AH) (x : TermD) (v' : Value) (H' : AH) : Prop := ∃ kv, v' = .agg (tmRow kv x).toArray ∧ Low H.length H H' ∧ KsV H' kv x.keys
theorem num_at {T : List TermD} {k : List Int} (hb : By k) : (∃ (i : Nat) (y : TermD), T[i]? = some y ∧ numR T.length k = (i : Nat) ∧ lookT T k = y) ∨ (numR T.length k = -1 ∧ lookT T k = ⟨0, ⟨#[]⟩, [k]⟩) := by
 have hp0 : 0 ≤ plN k := by
  have b4 := hb.get 4
  have b5 := hb.get 5
  have b6 := hb.get 6
  have b7 := hb.get 7
  unfold plN
  omega
 unfold numR lookT findT
 by_cases h1 : nmL (plN k) = k
 ·by_cases h2 : plN k < T.length
  ·have hi : (plN k).toNat < T.length := by omega
   refine .inl ⟨(plN k).toNat, T[(plN k).toNat], List.getElem?_eq_getElem hi, ?_, ?_⟩
   ·rw [if_pos (by simp [h1, h2])]; omega
   ·rw [if_pos (by simp [h1, h2]), List.getElem?_eq_getElem hi]
  ·exact .inr ⟨by rw [if_neg (by simp [h2])], by rw [if_neg (by simp [h2])]⟩
 ·exact .inr ⟨by rw [if_neg (by simp [h1])], by rw [if_neg (by simp [h1])]⟩
theorem rlook_ac {nro : Nat} {γ : Nat → Option Nat} {H : AH} {b : Nat} {tv sv : Value} {Ft Fs F : List Nat} {L : List (Value × TermD)} (h : RTblF H b tv sv Ft Fs F L) (hnH : nro ≤ H.length) {k : List Int} (hk : k.length = 32) (hb : By k) :
  AC Tryd.prog nro γ 32 #[.pointer (some ⟨b, 0, none⟩), .agg (iv .u8 k).toArray] H (RLookQ H (lookT (L.map (·.2)) k)) := by
 obtain ⟨hsl, htl⟩ := h.slen
 have hs2 := ownF_nt h.rows
 have hFb := h.bound
 have hlb := hget_lt h.hb
 have htk : (iv .u8 k).take 32 = iv .u8 k := List.take_of_length_le (by simp [hk])
 have p1 : plain1 (.slice none 0 0) = true := rfl
 have r3 : List.range 3 = [0, 1, 2] := rfl
 have hrow1 : setR (List.map (fun j => (iv .u8 (zl 32))[j % 32]?.getD undef) (List.range 32)) 0 (iv .u8 k) = iv .u8 k := setR_all _ _ (by simp [hk])
 have hcase := num_at (T := L.map (·.2)) hb
 rw [List.length_map] at hcase
 obtain ⟨G0, hG0⟩ : ∃ G0 : AH, G0 = H ++ [some ⟨iv .u8 k, 28, none⟩, some ⟨[.int .i64 0, .string ByteArray.empty, .slice none 0 0], 67, none⟩] := ⟨_, rfl⟩
 have hT0 : RTblF G0 b tv sv Ft Fs F L := h.low (fun j hj => by rw [hG0]; exact hget_left (hFb j hj)) (by rw [hG0]; simp)
 have hgb0 := hT0.hb
 have ldt : xload Tryd.prog 56 (.pointer (some ⟨b, 0, none⟩)) G0 = some tv := by simp [xload, hgb0]
 have gk : hget G0 H.length = some ⟨iv .u8 k, 28, none⟩ := by rw [hG0, hget_app0]; rfl
 have gz : hget G0 (H.length + 1) = some ⟨[.int .i64 0, .string ByteArray.empty, .slice none 0 0], 67, none⟩ := by rw [hG0, hget_app]; rfl
 have lk := hget_lt gk
 have lz := hget_lt gz
 have hn1 : nro ≤ H.length + 1 := by omega
 refine ac_of_aw Tryd.func32 rfl Tryd.ntmps32 Tryd.results32 (by simp) ?_
 (refine aw_seq (aoo fun K hK => ?_); simp (disch := first | omega | (simp only [lnS]; try omega)) [-getElem?_pos, -getElem?_neg, htk]; refine hK _ _ ?_; clear hK K)
 rw [← hG0]
 have hG0l : G0.length = H.length + 2 := by rw [hG0]; simp
 have hG0j : ∀ j, j < H.length → hget G0 j = hget H j := fun j hj => by rw [hG0]; exact hget_left hj
 clear hG0
 have hnum := rnum_rc (γ := γ) (H := G0) hgb0 htl hs2.1 hs2.2 hk hb
 refine aw_seq (aoo fun K hK => ?_)
 simp (disch := first | omega | (simp only [lnS]; try omega)) [-getElem?_pos, -getElem?_neg, gk, lk, htk]
 refine ⟨by kernel_rfl, ac_of_rc hnum (by simp [pv_iv, pv_int, pv_bool, pv_string, pv_tup2, pv_tup3, iv_plain, p2_int, p2_bool, p2_string]) ?_⟩
 try simp (disch := first | omega | (simp only [lnS]; try omega)) [-getElem?_pos, -getElem?_neg]
 refine hK _ _ ?_; clear hK K
 generalize lookT (L.map (·.2)) k = y at *
 refine aw_seq (aw_seq ?_)
 rcases hcase with ⟨i, y', hi, hn, rfl⟩ | ⟨hn, rfl⟩
 ·rw [hn]
  rw [List.getElem?_map] at hi
  cases hp : L[i]? with
  | none => rw [hp] at hi; cases hi
  | some p =>
   rw [hp] at hi
   obtain rfl := Option.some.inj hi
   obtain ⟨kv, y⟩ := p
   have hym := List.mem_of_getElem? hp
   obtain ⟨a1, a2, a3, a4⟩ := hT0.at_ hp
   have hvy : KsV G0 kv y.keys := hT0.keys _ hym G0 (fun _ _ => rfl)
   obtain ⟨hnt2, hvc2⟩ := val_nt hvy
   simp only at a4
   have hrow2 : tmRow kv y = [.int .i64 (y.kind : Nat), .string y.text, kv] := rfl
   rw [hrow2] at a4
   have h0 : ¬ ((i : Nat) : Int) < 0 := by omega
   have fin : RLookQ H y (.agg (tmRow kv y).toArray) (G0.set (H.length + 1) (some ⟨[.int .i64 (y.kind : Nat), .string y.text, kv], 67, none⟩)) :=
    ⟨kv, rfl, ⟨fun j hj => (hget_set_ne (by omega)).trans (hG0j j hj), by simp; omega⟩, h.keys _ hym _ (fun j hj => (hget_set_ne (by have := h.lt j hj; omega)).trans (hG0j j (h.lt j hj)))⟩
   (refine aoo fun K hK => ?_; simp (disch := first | omega | (simp only [lnS]; try omega)) [-getElem?_pos, -getElem?_neg, h0]; refine hK _ _ ?_; clear hK K)
   refine aw_f (by (first | (simp [h0]; done) | (simp [h0]; omega))) (by kernel_rfl) ?_
   refine aw_skip (aw_seq ?_)
   (refine aoo fun K hK => ?_; simp (disch := first | omega | (simp only [lnS]; try omega)) [-getElem?_pos, -getElem?_neg, -notTuple, hs2.1, hs2.2, hnt2, hvc2, -xload, ldt, a4, -xindexAddr, a2, a3, gz, lz, hn1, p1, r3]; refine hK _ _ ?_; clear hK K)
   (refine aw_ret ?_; simp (disch := first | omega | (simp only [lnS]; try omega)) [-getElem?_pos, -getElem?_neg, thenQ_ret, scopeQ_ret, inBlockQ_ret, RQ, resL, resV, hnt2, hvc2, lz])
   exact fin
 ·rw [hn]
  (refine aoo fun K hK => ?_; simp (disch := first | omega | (simp only [lnS]; try omega)) [-getElem?_pos, -getElem?_neg]; refine hK _ _ ?_; clear hK K)
  refine aw_t (by (first | (simp; done) | (simp; omega))) (by kernel_rfl) ?_
  refine aw_seq ?_
  obtain ⟨G1, hG1⟩ : ∃ G1 : AH, G1 = G0 ++ [some ⟨iv .u8 k, 28, some 32⟩] := ⟨_, rfl⟩
  have gz1 : hget G1 (H.length + 1) = some ⟨[.int .i64 0, .string ByteArray.empty, .slice none 0 0], 67, none⟩ := by rw [hG1]; exact (hget_left lz).trans gz
  have lz1 := hget_lt gz1
  have gr : hget G1 G0.length = some ⟨iv .u8 k, 28, some 32⟩ := by rw [hG1, hget_app0]; rfl
  have fin : RLookQ H ⟨0, ⟨#[]⟩, [k]⟩ (.agg (tmRow (.slice (some ⟨G0.length, 0, none⟩) 1 1) ⟨0, ⟨#[]⟩, [k]⟩).toArray) (G1.set (H.length + 1) (some ⟨[.int .i64 0, .string ByteArray.empty, .slice (some ⟨G0.length, 0, none⟩) 1 1], 67, none⟩)) :=
   ⟨_, rfl, ⟨fun j hj => (hget_set_ne (by omega)).trans (by rw [hG1]; exact (hget_left (by omega)).trans (hG0j j hj)), by rw [List.length_set, hG1]; simp; omega⟩, keys1 hk ((hget_set_ne (by omega)).trans gr)⟩
  have lz2 : H.length + 1 < G0.length + 1 := by omega
  have hgs := hget_set_eq (x := some ⟨[.int .i64 0, .string ByteArray.empty, .slice (some ⟨G0.length, 0, none⟩) 1 1], 67, none⟩) lz1
  subst hG1
  (refine aoo fun K hK => ?_; simp (disch := first | omega | (simp only [lnS]; try omega)) [-getElem?_pos, -getElem?_neg, gk, lk, htk, hrow1, hn1, p1, r3, gz1, lz1, lz2, List.range_one]; refine hK _ _ ?_; clear hK K)
  (refine aw_ret ?_; simp (disch := first | omega | (simp only [lnS]; try omega)) [-getElem?_pos, -getElem?_neg, thenQ_ret, scopeQ_ret, inBlockQ_ret, RQ, resL, resV, lz1, lz2, hgs])
  rw [List.set_append_left _ _ lz] at fin
  exact fin
end
section
theorem RMkQ.up {H G A A' : AH} {b : Nat} {Ft Fs F : List Nat} {L : List (Value × TermD)} {x : TermD} {v : Value} (h : RMkQ G b Ft Fs F L x v A) (lw : Low H.length H G) (la : Low A.length A A') : RMkQ H b Ft Fs F L x v A' := by
 obtain ⟨h1, h2, h3, tv', sv', Ft', Fs', F', L', h4, h5, h6⟩ := h
 have e1 := lw.2
 have e2 := la.2
 exact ⟨h1, by omega, fun j hj a b c => (la.1 j (by omega)).trans ((h3 j (by omega) a b c).trans (lw.1 j hj)), tv', sv', Ft', Fs', F', L', h4.low (fun j hj => la.1 j (h4.bound j hj)) e2, h5, fun j hj => (h6 j hj).imp id (fun h => by omega)⟩
def RSealQ (H : AH) (b : Nat) (Ft Fs F : List Nat) (L : List (Value × TermD)) (x : TermD) (v' : Value) (H' : AH) : Prop :=
 v' = .string (strOfNums (nmL (nameT x (L.map (·.2)) : Nat))) ∧ RMkQ H b Ft Fs F L x (.agg (iv .u8 (nmL (nameT x (L.map (·.2)) : Nat))).toArray) H'
theorem rseal_ac {nro : Nat} {γ : Nat → Option Nat} {H : AH} {b : Nat} {tv sv : Value} {Ft Fs F : List Nat} {L : List (Value × TermD)} (h : RTblF H b tv sv Ft Fs F L) (hnH : nro ≤ H.length) (hnro : ∀ j ∈ b :: (Ft ++ Fs), nro ≤ j) {k y : List Int} (hk : k.length = 32) (hy : y.length = 32) {s : ByteArray} {ks : List (List Int)} (hx : TermD.Wf ⟨6, s, k :: y :: ks⟩) {v : Value} (hv : KsV H v ks) (hL : L.length ≤ 900000) :
  AC Tryd.prog nro γ 28 #[.pointer (some ⟨b, 0, none⟩), .agg (iv .u8 k).toArray, .agg (iv .u8 y).toArray, .string s, v] H (RSealQ H b Ft Fs F L ⟨6, s, k :: y :: ks⟩) := by
 unfold RSealQ
 obtain ⟨hnt, hvc⟩ := val_nt hv
 have hFb := h.bound
 have hlb := hget_lt h.hb
 have hks : ∀ z ∈ ks, z.length = 32 := fun z hz => hx.k32 z (by simp [hz])
 have hmany := hx.many
 have hmk : ks.length + 2 ≤ 1000000 := hmany
 have hstr : ∀ s, v ≠ .string s := fun s e => by
  have hv' : CD.Val H (.sl (ks.map kd)) v := hv
  generalize ks.map kd = rows at hv'
  rw [e] at hv'
  cases hv'
 have htk : (iv .u8 k).take 32 = iv .u8 k := List.take_of_length_le (by simp [hk])
 have hty : (iv .u8 y).take 32 = iv .u8 y := List.take_of_length_le (by simp [hy])
 have hrow2 : setR (setR (List.map (fun j => (iv .u8 (zl 32))[j % 32]?.getD undef) (List.range 64)) 0 (iv .u8 k)) 32 (iv .u8 y) = iv .u8 k ++ iv .u8 y := row2 (by simp) (by simp [hk]) (by simp [hy])
 obtain ⟨G0, hG0⟩ : ∃ G0 : AH, G0 = H ++ [some ⟨iv .u8 k, 28, none⟩, some ⟨iv .u8 y, 28, none⟩] := ⟨_, rfl⟩
 have gk : hget G0 H.length = some ⟨iv .u8 k, 28, none⟩ := by rw [hG0, hget_app0]; rfl
 have gy : hget G0 (H.length + 1) = some ⟨iv .u8 y, 28, none⟩ := by rw [hG0, hget_app]; rfl
 have hG0l : G0.length = H.length + 2 := by rw [hG0]; simp
 have hG0j : ∀ j, j < H.length → hget G0 j = hget H j := fun j hj => by rw [hG0]; exact hget_left hj
 have lk := hget_lt gk
 have ly := hget_lt gy
 obtain ⟨R, hR⟩ : ∃ R : Option Blk, R = some ⟨iv .u8 k ++ iv .u8 y, 28, some 32⟩ := ⟨_, rfl⟩
 have hxc : xcells 32 (.slice (some ⟨G0.length, 0, none⟩) 2 2) (G0 ++ [R]) = some (iv .u8 k ++ iv .u8 y) := by
  have ht : (iv .u8 k ++ iv .u8 y).take 64 = iv .u8 k ++ iv .u8 y := List.take_of_length_le (by simp [hk, hy])
  rw [hR]
  simp [xcells, hget_app0, hk, hy, ht]
 obtain ⟨v1, G1, F1, hap, ho1, hl1, hk1, hF1⟩ := ownF_appQ (P := Tryd.prog) (nro := nro) (t := 33) (e := 28) (H := G0 ++ [R]) (v := .slice none 0 0) (x := .slice (some ⟨G0.length, 0, none⟩) 2 2) (sz := 32) (cells := []) (news := iv .u8 k ++ iv .u8 y) (F := []) (by kernel_rfl) (by kernel_rfl) (by omega) (by kernel_rfl)
  (.inl ⟨rfl, rfl, rfl⟩) (fun j hj => by cases hj) (fun s e => by cases e) hxc (by simp [hk, hy]) (by show (0 + (iv .u8 k ++ iv .u8 y).length) * byt Tryd.prog 28 ≤ _; rw [show byt Tryd.prog 28 = 32 by kernel_rfl]; simp [hk, hy]) (by simp [hk, hy, maxLen])
 have hRl : (G0 ++ [R]).length = G0.length + 1 := by simp
 rw [hRl] at hl1 hk1 hF1
 have hG1j : ∀ j, j < H.length → hget G1 j = hget H j := fun j hj => (hk1 j (by omega) (by simp)).trans ((hget_left (by omega)).trans (hG0j j hj))
 have hv1 : KsV G1 v ks := CD.Val.low (fun j hj => hG1j j hj) hv
 have hxc2 : xcells 32 v G1 = some (ksC ks) := val_cells (by omega) hv1 (kd_len hks) (kd_flat _)
 have hkl := ksC_len hks
 have hF1l := ho1.lt
 obtain ⟨v2, G2, F2, hap2, ho2, hl2, hk2, hF2⟩ := ownF_appQ (P := Tryd.prog) (nro := nro) (t := 33) (e := 28) (H := G1) (v := v1) (x := v) (sz := 32) (cells := [] ++ (iv .u8 k ++ iv .u8 y)) (news := ksC ks) (F := F1) (by kernel_rfl) (by kernel_rfl) (by omega) (by kernel_rfl)
  ho1 (fun j hj => by have := hF1 j hj; omega) hstr hxc2 (by rw [hkl]; omega) (by rw [hkl]; simp only [List.nil_append, List.length_append, iv_length, hk, hy]; rw [show byt Tryd.prog 28 = 32 by kernel_rfl]; omega) (by rw [hkl]; simp only [List.nil_append, List.length_append, iv_length, hk, hy, maxLen]; omega)
 have hG2j : ∀ j, j < H.length → hget G2 j = hget H j := fun j hj => (hk2 j (by omega) (fun e => by have := hF1 j e; omega)).trans (hG1j j hj)
 have lw2 : Low H.length H G2 := ⟨hG2j, by omega⟩
 have hv2 : KsV G2 v2 (k :: y :: ks) := kr_ksv (F := F2) (by rw [show kr (k :: y :: ks) = [] ++ (iv .u8 k ++ iv .u8 y) ++ ksC ks by rw [ksC_kr]; simp [kr]]; exact ho2) hx.k32
 have hmk := rmake_ac (nro := nro) (γ := γ) (h.low (fun j hj => hG2j j (hFb j hj)) (by omega)) (by omega) hnro hx hv2 hL
 obtain ⟨n1, n2⟩ := ownF_nt ho1
 obtain ⟨n3, n4⟩ := ownF_nt ho2
 subst hR
 clear hxc hxc2
 refine ac_of_aw Tryd.func28 rfl Tryd.ntmps28 Tryd.results28 (by simp) ?_
 (refine aw_seq (aoo fun K hK => ?_); simp (disch := first | omega | (simp only [lnS]; try omega)) [-getElem?_pos, -getElem?_neg, htk, hty]; refine hK _ _ ?_; clear hK K)
 rw [← hG0]
 clear hG0
 (refine aw_seq (aoo fun K hK => ?_); simp (disch := first | omega | (simp only [lnS]; try omega)) [-getElem?_pos, -getElem?_neg]; refine hK _ _ ?_; clear hK K)
 (refine aw_seq (aoo fun K hK => ?_); simp (disch := first | omega | (simp only [lnS]; try omega)) [-getElem?_pos, -getElem?_neg, gk, gy, lk, ly, htk, hty, hrow2, -notTuple, n1, n2, -xappend, hap]; refine hK _ _ ?_; clear hK K)
 (refine aw_seq (aoo fun K hK => ?_); simp (disch := first | omega | (simp only [lnS]; try omega)) [-getElem?_pos, -getElem?_neg, -notTuple, hnt, hvc, n1, n2, n3, n4, -xappend, hap2]; refine hK _ _ ?_; clear hK K)
 refine aw_seq (aoo fun K hK => ?_)
 simp (disch := first | omega | (simp only [lnS]; try omega)) [-getElem?_pos, -getElem?_neg, -notTuple, n3, n4]
 refine ⟨by kernel_rfl, AC.mono hmk ?_⟩
 intro v3 G3 hQ
 have hv3 := hQ.1
 have hn3 : nro ≤ G3.length := by have := hQ.2.1; omega
 have fin := fun (N : AH) => hQ.up lw2 (A' := G3 ++ N) (Low.push (Nat.le_refl _) N)
 subst hv3
 have lN : (nmL (nameT ⟨6, s, k :: y :: ks⟩ (L.map (·.2)) : Nat)).length = 32 := rfl
 generalize nmL (nameT ⟨6, s, k :: y :: ks⟩ (L.map (·.2)) : Nat) = N at *
 have htN : (iv .u8 N).take 32 = iv .u8 N := List.take_of_length_le (by simp [lN])
 have hsN : setR (iv .u8 (zl 32)) 0 (iv .u8 N) = iv .u8 N := setR_all _ _ (by simp [lN])
 try simp (disch := first | omega | (simp only [lnS]; try omega)) [-getElem?_pos, -getElem?_neg, hn3, lN, htN, hsN]
 refine hK _ _ ?_; clear hK K
 refine aw_seq ?_
 have hbl := byteList_iv N
 (refine aoo fun K hK => ?_; simp (disch := first | omega | (simp only [lnS]; try omega)) [-getElem?_pos, -getElem?_neg, lN, htN, hbl]; refine hK _ _ ?_; clear hK K)
 (refine aw_ret ?_; simp (disch := first | omega | (simp only [lnS]; try omega)) [-getElem?_pos, -getElem?_neg, thenQ_ret, scopeQ_ret, inBlockQ_ret, RQ, resL, resV])
 exact fin _
end
section
theorem rmark1_ac {nro : Nat} {γ : Nat → Option Nat} {H : AH} {b : Nat} {tv sv : Value} {Ft Fs F : List Nat} {L : List (Value × TermD)} (h : RTblF H b tv sv Ft Fs F L) (hnH : nro ≤ H.length) (hnro : ∀ j ∈ b :: (Ft ++ Fs), nro ≤ j) {s : ByteArray} (hs1 : s.size ≤ 10000000) (h32 : ¬ s.size = 32) (hL : L.length ≤ 900000) :
  AC Tryd.prog nro γ 24 #[.pointer (some ⟨b, 0, none⟩), .string s] H (RMkQ H b Ft Fs F L ⟨2, tmBox ++ s, []⟩) := by
 have hs9 : s.size ≤ 9223372036854775807 := by omega
 have hFb := h.bound
 have hb32 : ((s.size : Int) == 32) = false := by rw [beq_eq_false_iff_ne]; omega
 have hi32 : ¬ (s.size : Int) = 32 := by omega
 have hba : (⟨#[98, 111, 120]⟩ : ByteArray).size + s.size ≤ 9223372036854775807 := by show 3 + s.size ≤ _; omega
 have hbs : (tmBox ++ s).size ≤ 100000000 := by rw [ByteArray.size_append]; show 3 + s.size ≤ _; omega
 have hbx : (⟨#[98, 111, 120]⟩ : ByteArray) ++ s = tmBox ++ s := rfl
 generalize tmBox ++ s = t at *
 have hx : TermD.Wf ⟨2, t, []⟩ := ⟨(by show 2 ≤ 6; omega), hbs, fun y hy => (by cases hy), fun y hy => (by cases hy), (by show 0 ≤ 1000000; omega), fun h => (by cases h), fun h => (by cases h), fun h => (by cases h)⟩
 have lw0 : Low H.length H (H ++ [some ⟨iv .u8 (zl 32), 28, none⟩]) := Low.push (Nat.le_refl _) _
 have hmk := rmake_ac (nro := nro) (γ := γ) (H := H ++ [some ⟨iv .u8 (zl 32), 28, none⟩]) (h.low (fun j hj => hget_left (hFb j hj)) (by simp)) (by simp; omega) hnro hx (v := .slice none 0 0) (kr_ksv (F := []) (.inl ⟨rfl, rfl, rfl⟩) (fun y hy => by cases hy)) hL
 have hlb := hget_lt h.hb
 have hbH : H.length ≠ b := by omega
 have hHt : H.length ∉ Ft := fun e => by have := hFb _ (show H.length ∈ b :: (Ft ++ Fs ++ F) by simp [e]); omega
 have hHs : H.length ∉ Fs := fun e => by have := hFb _ (show H.length ∈ b :: (Ft ++ Fs ++ F) by simp [e]); omega
 have hHF : H.length ∉ F := fun e => by have := hFb _ (show H.length ∈ b :: (Ft ++ Fs ++ F) by simp [e]); omega
 refine ac_of_aw Tryd.func24 rfl Tryd.ntmps24 Tryd.results24 (by simp) ?_
 (refine aw_seq (aoo fun K hK => ?_); simp (disch := first | omega | (simp only [lnS]; try omega)) []; refine hK _ _ ?_; clear hK K)
 refine aw_seq (aw_seq ?_)
 (refine aoo fun K hK => ?_; simp (disch := first | omega | (simp only [lnS]; try omega)) [hs9, hi32, hb32]; refine hK _ _ ?_; clear hK K)
 refine aw_t (by (first | (simp; done) | (simp; omega))) (by kernel_rfl) ?_
 refine aw_seq (aoo fun K hK => ?_)
 simp (disch := first | omega | (simp only [lnS]; try omega)) [hs9, hba, hbx]
 refine ⟨by kernel_rfl, AC.mono hmk ?_⟩
 intro v3 G3 hQ
 obtain ⟨hv3, hl3, hk3, tv', sv', Ft', Fs', F', L', hT3, hL3, hF3⟩ := hQ
 have hl3' : H.length + 1 ≤ G3.length := by simpa using hl3
 have g3 : hget G3 H.length = some ⟨iv .u8 (zl 32), 28, none⟩ := (hk3 H.length (by simp) hbH hHt hHs).trans (by rw [hget_app0]; rfl)
 have l3 := hget_lt g3
 have hn3 : nro ≤ H.length := hnH
 have hF4 : H.length ∉ b :: (Ft' ++ Fs' ++ F') := fun e => by
  rcases List.mem_cons.1 e with e | e
  ·exact hbH e
  ·rcases hF3 _ e with e | e
   ·simp only [List.mem_append] at e
    rcases e with (e | e) | e
    ·exact hHt e
    ·exact hHs e
    ·exact hHF e
   ·simp at e
 have fin : RMkQ H b Ft Fs F L ⟨2, t, []⟩ v3 (G3.set H.length (some ⟨iv .u8 (nmL (nameT ⟨2, t, []⟩ (L.map (·.2)) : Nat)), 28, none⟩)) :=
  ⟨hv3, by simp; omega, fun j hj a b c => (hget_set_ne (by omega)).trans ((hk3 j (by simp; omega) a b c).trans (hget_left hj)), tv', sv', Ft', Fs', F', L', hT3.low (fun j hj => hget_set_ne (fun e => hF4 (e ▸ hj))) (by simp), hL3, fun j hj => (hF3 j hj).imp id (fun h => by simp at h; omega)⟩
 subst hv3
 have lN : (nmL (nameT ⟨2, t, []⟩ (L.map (·.2)) : Nat)).length = 32 := rfl
 generalize nmL (nameT ⟨2, t, []⟩ (L.map (·.2)) : Nat) = N at *
 have htN : (iv .u8 N).take 32 = iv .u8 N := List.take_of_length_le (by simp [lN])
 have hsN : setR (iv .u8 (zl 32)) 0 (iv .u8 N) = iv .u8 N := setR_all _ _ (by simp [lN])
 try simp (disch := first | omega | (simp only [lnS]; try omega)) [hn3, lN, htN, hsN, g3, l3]
 refine hK _ _ ?_; clear hK K
 (refine aw_ret ?_; simp (disch := first | omega | (simp only [lnS]; try omega)) [thenQ_ret, scopeQ_ret, inBlockQ_ret, RQ, resL, resV, lN, htN, l3])
 exact fin
theorem rmark0_ac {nro : Nat} {γ : Nat → Option Nat} {H : AH} {p : Value} (hnH : nro ≤ H.length) {s : ByteArray} (h32 : s.size = 32) (hp : notTuple p = true) :
  AC Tryd.prog nro γ 24 #[p, .string s] H (fun v' H' => v' = .agg (iv .u8 (nums s)).toArray ∧ Low H.length H H') := by
 obtain ⟨N, hN⟩ : ∃ N : List Int, N = nums s := ⟨_, rfl⟩
 have lN : N.length = 32 := by rw [hN, nums_len, h32]
 have hgb : ∀ i, gb s i = N.getD i 0 := fun i => by
  have := gb_sn (l := nums s) (nums_bd s) i
  rw [of_nums'] at this
  rw [hN]; exact this
 rw [← hN]
 clear hN
 have hs9 : s.size ≤ 9223372036854775807 := by omega
 have hb32 : ((s.size : Int) == 32) = true := by rw [h32]; rfl
 have hi32 : (s.size : Int) = 32 := by rw [h32]; rfl
 have htN : (iv .u8 N).take 32 = iv .u8 N := List.take_of_length_le (by simp [lN])
 have hsN : setR (iv .u8 (zl 32)) 0 (iv .u8 N) = iv .u8 N := setR_all _ _ (by simp [lN])
 have hn1 : nro ≤ H.length + 1 := by omega
 refine ac_of_aw Tryd.func24 rfl Tryd.ntmps24 Tryd.results24 (by simp) ?_
 (refine aw_seq (aoo fun K hK => ?_); simp (disch := first | omega | (simp only [lnS]; try omega)) []; refine hK _ _ ?_; clear hK K)
 refine aw_seq (aw_seq ?_)
 (refine aoo fun K hK => ?_; simp (disch := first | omega | (simp only [lnS]; try omega)) [hs9, hb32, hi32]; refine hK _ _ ?_; clear hK K)
 refine aw_f (by (first | (simp; done) | (simp; omega))) (by kernel_rfl) ?_
 refine aw_skip (aw_seq ?_)
 (refine aoo fun K hK => ?_; simp (disch := first | omega | (simp only [lnS]; try omega)) []; refine hK _ _ ?_; clear hK K)
 refine aw_seq (aw_seq ?_)
 (refine aoo fun K hK => ?_; simp (disch := first | omega | (simp only [lnS]; try omega)) []; refine hK _ _ ?_; clear hK K)
 refine aw_block ?_
 refine aw_loop (fun q α G => ∃ i : Nat, i + q = 32 ∧ α 1 = .string s ∧ α 4 = .pointer (some ⟨H.length, 0, none⟩) ∧ α 5 = .pointer (some ⟨H.length + 1, 0, none⟩) ∧ α 6 = .int .i64 (i : Nat) ∧ G = H ++ [some ⟨iv .u8 (zl 32), 28, none⟩, some ⟨iv .u8 (N.take i ++ zl (32 - i)), 28, none⟩]) 32 ?_ ?_
 ·exact ⟨0, by omega, by (first | (simp; done) | rfl), by (first | (simp; done) | rfl), by (first | (simp; done) | rfl), by (first | (simp; done) | rfl), rfl⟩
 rintro q α G ⟨i, hiq, h1, h4, h5, h6, rfl⟩
 refine aw_seq (aw_seq ?_)
 by_cases hi : i < 32
 ·have hnx := set_next N 32 i lN hi
  have hfl := fill_len N 32 i lN (by omega)
  have hg := hgb i
  generalize N.getD i 0 = z at *
  have hset : (iv .u8 (N.take i ++ zl (32 - i))).set i (.int .u8 z) = iv .u8 (N.take (i + 1) ++ zl (32 - (i + 1))) := by rw [← hnx]; simp [iv]
  generalize N.take i ++ zl (32 - i) = A at *
  have hsi : (i : Int) < s.size := by omega
  (refine aoo fun K hK => ?_; simp (disch := first | omega | (simp only [lnS]; try omega)) [h6, hi]; refine hK _ _ ?_; clear hK K)
  refine aw_t (by (first | (simp [hi]; done) | (simp [hi]; omega))) (by kernel_rfl) ?_
  refine aw_skip (aw_seq ?_)
  refine aw_block ?_
  (refine aoo fun K hK => ?_; simp (disch := first | omega | (simp only [lnS]; try omega)) [h1, h5, h6, h32, hsi, hi, hg, hfl, hset, hn1]; refine hK _ _ ?_; clear hK K)
  (refine aoo fun K hK => ?_; simp (disch := first | omega | (simp only [lnS]; try omega)) [h6]; refine hK _ _ ?_; clear hK K)
  exact ⟨q - 1, by omega, i + 1, by omega, by (first | (simp [h1]; done) | rfl), by (first | (simp [h4]; done) | rfl), by (first | (simp [h5]; done) | rfl), by (first | (simp; done) | rfl), by rw [show 32 - (i + 1) = 31 - i by omega]⟩
 ·obtain rfl : i = 32 := by omega
  have e : N.take 32 ++ zl (32 - 32) = N := by
   rw [List.take_of_length_le (by omega)]
   simp [zl]
  rw [e]
  (refine aoo fun K hK => ?_; simp (disch := first | omega | (simp only [lnS]; try omega)) [h6]; refine hK _ _ ?_; clear hK K)
  refine aw_f (by (first | (simp; done) | (simp; omega))) (by kernel_rfl) ?_
  refine aw_exit (aw_seq ?_)
  (refine aoo fun K hK => ?_; simp (disch := first | omega | (simp only [lnS]; try omega)) [h4, h5, htN, hsN, lN, hnH]; refine hK _ _ ?_; clear hK K)
  (refine aw_ret ?_; simp (disch := first | omega | (simp only [lnS]; try omega)) [thenQ_ret, scopeQ_ret, inBlockQ_ret, RQ, resL, resV, h4, htN, lN])
  exact Low.push (Nat.le_refl _) _
end
section
theorem RMkQ.layG {H H2 G : AH} {b : Nat} {Ft Fs F : List Nat} {L : List (Value × TermD)} {x : TermD} {v : Value} (h : RMkQ H2 b Ft Fs F L x v G) (lw : Low H.length H H2) (hF : ∀ j ∈ b :: (Ft ++ Fs ++ F), j < H.length) {r : Nat} (hr0 : H.length ≤ r) (hr : hget H2 r = some ⟨iv .u8 (zl 32), 28, none⟩) : ∃ N : List Int, N = nmL (nameT x (L.map (·.2)) : Nat) ∧ N.length = 32 ∧ (iv .u8 N).take 32 = iv .u8 N ∧ setR (iv .u8 (zl 32)) 0 (iv .u8 N) = iv .u8 N ∧ v = .agg (iv .u8 N).toArray ∧ r < G.length ∧ hget G r = some ⟨iv .u8 (zl 32), 28, none⟩ ∧ ∀ X : Option Blk, RMkQ H b Ft Fs F L x (.agg (iv .u8 N).toArray) (G.set r X) := by
 obtain ⟨h0, h2, h3, tv', sv', Ft', Fs', F', L', h4, h5, h6⟩ := h
 have hl := hget_lt hr
 have hle := lw.2
 have hrb : r ≠ b := fun e => by have := hF b (by simp); omega
 have hrt : r ∉ Ft := fun e => by have := hF r (by simp [e]); omega
 have hrs : r ∉ Fs := fun e => by have := hF r (by simp [e]); omega
 have hrf : r ∉ F := fun e => by have := hF r (by simp [e]); omega
 have hg := (h3 r hl hrb hrt hrs).trans hr
 refine ⟨nmL (nameT x (L.map (·.2)) : Nat), rfl, rfl, rfl, ?_, h0, hget_lt hg, hg, fun X => ⟨rfl, by simp; omega, fun j hj a b c => ?_, tv', sv', Ft', Fs', F', L', h4.low (fun j hj => hget_set_ne (fun e => ?_)) (by simp), h5, fun j hj => (h6 j hj).imp id (fun h => by omega)⟩⟩
 ·exact setR_all _ _ (by simp [nmL_len])
 ·rw [hget_set_ne (by omega), h3 j (by omega) a b c, lw.1 j hj]
 ·rw [← e] at hj
  rcases List.mem_cons.1 hj with e | e
  ·exact hrb e
  ·rcases h6 _ e with e | e
   ·simp only [List.mem_append] at e
    rcases e with (e | e) | e
    ·exact hrt e
    ·exact hrs e
    ·exact hrf e
   ·omega
theorem rtwo_ac {nro : Nat} {γ : Nat → Option Nat} {H G2 : AH} {b : Nat} {tv sv : Value} {Ft Fs F : List Nat} {L : List (Value × TermD)} (h : RTblF H b tv sv Ft Fs F L) (hnH : nro ≤ H.length) (hnro : ∀ j ∈ b :: (Ft ++ Fs), nro ≤ j) {n : Nat} (hn : n = 4 ∨ n = 5) {s p : List Int} (hs : s.length = 32) (hbs : By s) (hp : p.length = 32) (hbp : By p) (hL : L.length ≤ 900000)
  (lw2 : Low H.length H G2) {z q : Nat} (hz : H.length ≤ z) (gz : hget G2 z = some ⟨iv .u8 (zl 32), 28, none⟩) (g2 : hget G2 q = some ⟨iv .u8 s ++ iv .u8 p, 28, some 32⟩) :
  AC Tryd.prog nro γ 25 #[.pointer (some ⟨b, 0, none⟩), .int .i64 (n : Nat), .string ⟨#[]⟩, .slice (some ⟨q, 0, none⟩) 2 2] G2
   (fun v' G3 => ∃ N : List Int, N = nmL (nameT ⟨n, ⟨#[]⟩, [s, p]⟩ (L.map (·.2)) : Nat) ∧ N.length = 32 ∧ (iv .u8 N).take 32 = iv .u8 N ∧ setR (iv .u8 (zl 32)) 0 (iv .u8 N) = iv .u8 N ∧ v' = .agg (iv .u8 N).toArray ∧ z < G3.length ∧ hget G3 z = some ⟨iv .u8 (zl 32), 28, none⟩ ∧ ∀ X : Option Blk, RMkQ H b Ft Fs F L ⟨n, ⟨#[]⟩, [s, p]⟩ (.agg (iv .u8 N).toArray) (G3.set z X)) := by
 have hFb := h.bound
 have hle := lw2.2
 refine (rmake_ac (nro := nro) (γ := γ) (h.low (fun j hj => lw2.1 j (hFb j hj)) hle) (by omega) hnro (wf_two hn hs hbs hp hbp) (v := .slice (some ⟨q, 0, none⟩) 2 2) (keys2 hs hp g2) hL).mono fun v' G3 hQ => ?_
 exact hQ.layG lw2 hFb hz gz
theorem agreeT_look (T : List TermD) (s p : List Int) : agreeT T s p = if (lookT T p).kind = 3 then (if 0 < cmpL s ((lookT T p).keys.getD 0 []) then ⟨4, ⟨#[]⟩, [(lookT T p).keys.getD 0 [], s]⟩ else ⟨4, ⟨#[]⟩, [s, (lookT T p).keys.getD 0 []]⟩) else ⟨5, ⟨#[]⟩, [s, p]⟩ := by
 unfold agreeT lookT
 cases findT T p with
 | none => simp
 | some x => rfl
theorem look_mem {T : List TermD} {k : List Int} (h : (lookT T k).kind ≠ 0) : lookT T k ∈ T := by
 unfold lookT at h ⊢
 cases hf : findT T k with
 | none => rw [hf] at h; exact absurd rfl h
 | some x =>
  unfold findT at hf
  split at hf
  ·exact List.mem_of_getElem? hf
  ·cases hf
def RAgreeQ (H : AH) (b : Nat) (Ft Fs F : List Nat) (L : List (Value × TermD)) (s p : List Int) (v' : Value) (H' : AH) : Prop :=
 (p = zl 32 ∧ v' = .tuple #[.agg (iv .u8 (zl 32)).toArray, .bool false] ∧ Low H.length H H') ∨ (p ≠ zl 32 ∧ ∃ v1, v' = .tuple #[v1, .bool true] ∧ RMkQ H b Ft Fs F L (agreeT (L.map (·.2)) s p) v1 H')
theorem ragree0_ac {nro : Nat} {γ : Nat → Option Nat} {H : AH} {b : Nat} {Ft Fs F : List Nat} {L : List (Value × TermD)} (hnH : nro ≤ H.length) {s : List Int} (hs : s.length = 32) : AC Tryd.prog nro γ 27 #[.pointer (some ⟨b, 0, none⟩), .agg (iv .u8 s).toArray, .agg (iv .u8 (zl 32)).toArray] H (RAgreeQ H b Ft Fs F L s (zl 32)) := by
 have hts : (iv .u8 s).take 32 = iv .u8 s := List.take_of_length_le (by simp [hs])
 have hz : (List.take 32 (zl 32) == zl 32) = true := by decide
 have hz2 : setR (iv .u8 (zl 32)) 0 (iv .u8 (zl 32)) = iv .u8 (zl 32) := rfl
 refine ac_of_aw Tryd.func27 rfl Tryd.ntmps27 Tryd.results27 (by simp) ?_
 (refine aw_seq (aoo fun K hK => ?_); simp (disch := first | omega | (simp only [lnS]; try omega)) [-getElem?_pos, -getElem?_neg, hts]; refine hK _ _ ?_; clear hK K)
 refine aw_seq (aw_seq ?_)
 (refine aoo fun K hK => ?_; simp (disch := first | omega | (simp only [lnS]; try omega)) [-getElem?_pos, -getElem?_neg, hz]; refine hK _ _ ?_; clear hK K)
 refine aw_t (by (first | (simp; done) | (simp; omega))) (by kernel_rfl) ?_
 (refine aw_seq (aoo fun K hK => ?_); simp (disch := first | omega | (simp only [lnS]; try omega)) [-getElem?_pos, -getElem?_neg, hz2]; refine hK _ _ ?_; clear hK K)
 (refine aw_ret ?_; simp (disch := first | omega | (simp only [lnS]; try omega)) [-getElem?_pos, -getElem?_neg, thenQ_ret, scopeQ_ret, inBlockQ_ret, RQ, resL, resV])
 exact .inl ⟨rfl, rfl, Low.push (Nat.le_refl _) _⟩
theorem ragree_ac {nro : Nat} {γ : Nat → Option Nat} {H : AH} {b : Nat} {tv sv : Value} {Ft Fs F : List Nat} {L : List (Value × TermD)} (h : RTblF H b tv sv Ft Fs F L) (hnH : nro ≤ H.length) (hnro : ∀ j ∈ b :: (Ft ++ Fs), nro ≤ j) {s p : List Int} (hs : s.length = 32) (hbs : By s) (hp : p.length = 32) (hbp : By p) (hL : L.length ≤ 900000) :
  AC Tryd.prog nro γ 27 #[.pointer (some ⟨b, 0, none⟩), .agg (iv .u8 s).toArray, .agg (iv .u8 p).toArray] H (RAgreeQ H b Ft Fs F L s p) := by
 by_cases hp0 : p = zl 32
 ·subst hp0
  exact ragree0_ac hnH hs
 have hFb := h.bound
 have hts : (iv .u8 s).take 32 = iv .u8 s := List.take_of_length_le (by simp [hs])
 have htp : (iv .u8 p).take 32 = iv .u8 p := List.take_of_length_le (by simp [hp])
 have hpb : (p == zl 32) = false := by rw [beq_eq_false_iff_ne]; exact hp0
 have p1 : plain1 (.slice none 0 0) = true := rfl
 have r3 : List.range 3 = [0, 1, 2] := rfl
 have hwf : ∀ y ∈ L.map (·.2), y.Wf := fun y hy => by
  obtain ⟨q, hq, rfl⟩ := List.mem_map.1 hy
  exact h.wf q hq
 have hag := agreeT_look (L.map (·.2)) s p
 have hmem : (lookT (L.map (·.2)) p).kind = 3 → (lookT (L.map (·.2)) p).Wf := fun e => hwf _ (look_mem (by omega))
 obtain ⟨B, hB⟩ : ∃ B : AH, B = H ++ [some ⟨iv .u8 s, 28, none⟩, some ⟨iv .u8 p, 28, none⟩, some ⟨iv .u8 (zl 32), 28, none⟩] := ⟨_, rfl⟩
 have gs : hget B H.length = some ⟨iv .u8 s, 28, none⟩ := by rw [hB, hget_app0]; rfl
 have gp : hget B (H.length + 1) = some ⟨iv .u8 p, 28, none⟩ := by rw [hB, hget_app]; rfl
 have gz : hget B (H.length + 2) = some ⟨iv .u8 (zl 32), 28, none⟩ := by rw [hB, hget_app]; rfl
 have hBl : B.length = H.length + 3 := by rw [hB]; simp
 have hBj : ∀ j, j < H.length → hget B j = hget H j := fun j hj => by rw [hB]; exact hget_left hj
 have ls := hget_lt gs
 have lp := hget_lt gp
 have lz := hget_lt gz
 refine ac_of_aw Tryd.func27 rfl Tryd.ntmps27 Tryd.results27 (by simp) ?_
 (refine aw_seq (aoo fun K hK => ?_); simp (disch := first | omega | (simp only [lnS]; try omega)) [-getElem?_pos, -getElem?_neg, hts, htp]; refine hK _ _ ?_; clear hK K)
 rw [← hB]
 clear hB
 have hTB : RTblF B b tv sv Ft Fs F L := h.low (fun j hj => hBj j (hFb j hj)) (by omega)
 have hlook := rlook_ac (nro := nro) (γ := γ) hTB (by omega) hp hbp
 refine aw_seq (aw_seq ?_)
 (refine aoo fun K hK => ?_; simp (disch := first | omega | (simp only [lnS]; try omega)) [-getElem?_pos, -getElem?_neg, gp, lp, htp, hp0, hpb]; refine hK _ _ ?_; clear hK K)
 refine aw_f (by (first | (simp; done) | (simp; omega))) (by kernel_rfl) ?_
 refine aw_skip (aw_seq ?_)
 refine aoo fun K hK => ?_
 simp (disch := first | omega | (simp only [lnS]; try omega)) [-getElem?_pos, -getElem?_neg, gp, lp, htp]
 refine ⟨by kernel_rfl, AC.mono hlook ?_⟩
 rintro _ G ⟨kv, rfl, lw, hkv⟩
 obtain ⟨hnt, hvc⟩ := val_nt hkv
 generalize lookT (L.map (·.2)) p = y at *
 have hGl := lw.2
 have hng : nro ≤ G.length := by omega
 unfold tmRow
 try simp (disch := first | omega | (simp only [lnS]; try omega)) [-getElem?_pos, -getElem?_neg, p1, r3, hng, -notTuple, hnt, hvc]
 refine hK _ _ ?_; clear hK K
 obtain ⟨G2, hG2⟩ : ∃ G2 : AH, G2 = G ++ [some ⟨[.int .i64 (y.kind : Nat), .string y.text, kv], 67, none⟩] := ⟨_, rfl⟩
 have gx2 : hget G2 G.length = some ⟨[.int .i64 (y.kind : Nat), .string y.text, kv], 67, none⟩ := by rw [hG2, hget_app0]; rfl
 have hG2l : G2.length = G.length + 1 := by rw [hG2]; simp
 have hG2j : ∀ j, j < G.length → hget G2 j = hget G j := fun j hj => by rw [hG2]; exact hget_left hj
 rw [← hG2]
 clear hG2
 have lx2 := hget_lt gx2
 have gs2 := (hG2j _ (by omega)).trans ((lw.1 _ ls).trans gs)
 have gp2 := (hG2j _ (by omega)).trans ((lw.1 _ lp).trans gp)
 have gz2 := (hG2j _ (by omega)).trans ((lw.1 _ lz).trans gz)
 have ls2 := hget_lt gs2
 have lp2 := hget_lt gp2
 have lz2 := hget_lt gz2
 have lwH : Low H.length H G2 := ⟨fun j hj => (hG2j j (by omega)).trans ((lw.1 j (by omega)).trans (hBj j hj)), by omega⟩
 have hn2 : nro ≤ H.length + 2 := by omega
 refine aw_seq (aw_seq ?_)
 by_cases hk3 : y.kind = 3
 ·rw [if_pos hk3] at hag
  have hw := hmem hk3
  have hk1 := hw.pub hk3
  obtain ⟨c, hc⟩ : ∃ c, y.keys = [c] := by
   match hh : y.keys, hk1 with
   | [c], _ => exact ⟨c, rfl⟩
  have lc : c.length = 32 := hw.k32 c (by rw [hc]; simp)
  have bc : By c := hw.by_ c (by rw [hc]; simp)
  have htc : (iv .u8 c).take 32 = iv .u8 c := List.take_of_length_le (by simp [lc])
  rw [hc] at hag hkv
  have hg0 : ([c] : List (List Int)).getD 0 [] = c := rfl
  rw [hg0] at hag
  have hkv2 : KsV G2 kv [c] := CD.Val.low (fun j hj => hG2j j hj) hkv
  obtain ⟨q, x, q1, q2, q3, rfl, q4⟩ := (hkv2.acc (fun k hk => by rw [List.mem_singleton.1 hk]; exact lc)).at_ 0 (by simp)
  rw [hg0] at q3 q4
  have q2 : xindexAddr Tryd.prog 33 kv (.int .i64 0) = some q := q2
  have q5 := q4 G2 (Low.refl (Nat.le_refl _))
  have hk3b : ((y.kind : Int) == 3) = true := by rw [hk3]; rfl
  have hk3i : (y.kind : Int) = 3 := by rw [hk3]; rfl
  have ldk : xload Tryd.prog 33 (.pointer (some ⟨G.length, 2, none⟩)) G2 = some kv := by simp [xload, gx2]
  have lds : xload Tryd.prog 28 (.pointer (some ⟨H.length, 0, none⟩)) G2 = some (.agg (iv .u8 s).toArray) := by simp [xload, gs2, hts, hs]
  (refine aoo fun K hK => ?_; simp (disch := first | omega | (simp only [lnS]; try omega)) [-getElem?_pos, -getElem?_neg, gx2, lx2, hk3b, hk3i]; refine hK _ _ ?_; clear hK K)
  refine aw_f (by (first | (simp; done) | (simp; omega))) (by kernel_rfl) ?_
  refine aw_skip ?_
  refine aw_seq (aw_seq ?_)
  have hle := rless_vc c s lc hs bc hbs
  by_cases hgt : 0 < cmpL s c
  ·rw [if_pos hgt] at hag
   rw [decide_eq_true hgt] at hle
   have hrow : setR (setR (List.map (fun j => (iv .u8 (zl 32))[j % 32]?.getD undef) (List.range 64)) 0 (iv .u8 c)) 32 (iv .u8 s) = iv .u8 c ++ iv .u8 s := row2 (by simp) (by simp [lc]) (by simp [hs])
   (refine aw_plan [] [] [0, 1, 2, 3, 4] 5 1 (by kernel_rfl) (by kernel_rfl) (by kernel_rfl) (fun K hK => ?_)); simp only [sel, List.getElem?_cons_succ, List.getElem?_cons_zero, List.drop_succ_cons, List.drop_zero]; simp (disch := first | omega | (simp only [lnS]; try omega)) [-getElem?_pos, -getElem?_neg, -xload, ldk, lds, q5, -xindexAddr, q1, q2, q3, -notTuple, hnt, PL_nil, plainB_lit, PL_cons, PLc_val, PLc_new, stepP_t, stepP_f, stepPC_n, stepPC_s, stepPX_s, stepPX_n, stepPV_n, stepPV_s, stepPA_t, stepPA_c, stepPA_l, stepPN_s, allocOp, reloc_sl, reloc_ptr, List.map_cons, List.map_nil, List.nil_append, List.append_assoc, List.cons_append, Nat.add_assoc]
   refine ⟨by kernel_rfl, ac_of_vc (by simp [pv_iv, pv_int, pv_bool, pv_string, pv_tup2, pv_tup3, iv_plain, p2_int, p2_bool, p2_string]) hle ?_⟩
   try simp (disch := first | omega | (simp only [lnS]; try omega)) [-getElem?_pos, -getElem?_neg]
   refine hK _ _ ?_; clear hK K
   refine aw_t (by (first | (simp; done) | (simp; omega))) (by kernel_rfl) ?_
   have htw := rtwo_ac (nro := nro) (γ := γ) (G2 := G2 ++ [some ⟨iv .u8 c ++ iv .u8 s, 28, some 32⟩]) h hnH hnro (n := 4) (.inl rfl) lc bc hs hbs hL ⟨fun j hj => (hget_left (by omega)).trans (lwH.1 j hj), by simp; omega⟩ (z := H.length + 2) (q := G2.length) (by omega) ((hget_left (by omega)).trans gz2) (by rw [hget_app0]; rfl)
   refine aw_seq ?_
   (refine aw_plan [] [0] [1, 2, 3, 4, 5] 6 4 (by kernel_rfl) (by kernel_rfl) (by kernel_rfl) (fun K hK => ?_)); simp only [sel, List.getElem?_cons_succ, List.getElem?_cons_zero, List.drop_succ_cons, List.drop_zero]; simp (disch := first | omega | (simp only [lnS]; try omega)) [-getElem?_pos, -getElem?_neg, -xload, ldk, lds, q5, -xindexAddr, q1, q2, q3, -notTuple, hnt, hrow, PL_nil, plainB_lit, PL_cons, PLc_val, PLc_new, stepP_t, stepP_f, stepPC_n, stepPC_s, stepPX_s, stepPX_n, stepPV_n, stepPV_s, stepPA_t, stepPA_c, stepPA_l, stepPN_s, allocOp, reloc_sl, reloc_ptr, List.map_cons, List.map_nil, List.nil_append, List.append_assoc, List.cons_append, Nat.add_assoc]
   refine ⟨by kernel_rfl, AC.mono htw ?_⟩
   intro v' G3 hQ
   obtain ⟨N, _, lN, ht, hse, rfl, hlt, hg, hfin⟩ := hQ
   try simp (disch := first | omega | (simp only [lnS]; try omega)) [-getElem?_pos, -getElem?_neg, hn2, lN, ht, hse, hg, hlt]
   refine hK _ _ ?_; clear hK K
   (refine aw_ret ?_; simp (disch := first | omega | (simp only [lnS]; try omega)) [-getElem?_pos, -getElem?_neg, thenQ_ret, scopeQ_ret, inBlockQ_ret, RQ, resL, resV, lN, ht, hlt])
   exact .inr ⟨hp0, _, rfl, hag ▸ hfin _⟩
  ·rw [if_neg hgt] at hag
   rw [decide_eq_false hgt] at hle
   have hrow : setR (setR (List.map (fun j => (iv .u8 (zl 32))[j % 32]?.getD undef) (List.range 64)) 0 (iv .u8 s)) 32 (iv .u8 c) = iv .u8 s ++ iv .u8 c := row2 (by simp) (by simp [hs]) (by simp [lc])
   (refine aw_plan [] [] [0, 1, 2, 3, 4] 5 1 (by kernel_rfl) (by kernel_rfl) (by kernel_rfl) (fun K hK => ?_)); simp only [sel, List.getElem?_cons_succ, List.getElem?_cons_zero, List.drop_succ_cons, List.drop_zero]; simp (disch := first | omega | (simp only [lnS]; try omega)) [-getElem?_pos, -getElem?_neg, -xload, ldk, lds, q5, -xindexAddr, q1, q2, q3, -notTuple, hnt, PL_nil, plainB_lit, PL_cons, PLc_val, PLc_new, stepP_t, stepP_f, stepPC_n, stepPC_s, stepPX_s, stepPX_n, stepPV_n, stepPV_s, stepPA_t, stepPA_c, stepPA_l, stepPN_s, allocOp, reloc_sl, reloc_ptr, List.map_cons, List.map_nil, List.nil_append, List.append_assoc, List.cons_append, Nat.add_assoc]
   refine ⟨by kernel_rfl, ac_of_vc (by simp [pv_iv, pv_int, pv_bool, pv_string, pv_tup2, pv_tup3, iv_plain, p2_int, p2_bool, p2_string]) hle ?_⟩
   try simp (disch := first | omega | (simp only [lnS]; try omega)) [-getElem?_pos, -getElem?_neg]
   refine hK _ _ ?_; clear hK K
   refine aw_f (by (first | (simp; done) | (simp; omega))) (by kernel_rfl) ?_
   refine aw_skip ?_
   have htw := rtwo_ac (nro := nro) (γ := γ) (G2 := G2 ++ [some ⟨iv .u8 s ++ iv .u8 c, 28, some 32⟩]) h hnH hnro (n := 4) (.inl rfl) hs hbs lc bc hL ⟨fun j hj => (hget_left (by omega)).trans (lwH.1 j hj), by simp; omega⟩ (z := H.length + 2) (q := G2.length) (by omega) ((hget_left (by omega)).trans gz2) (by rw [hget_app0]; rfl)
   refine aw_seq ?_
   (refine aw_plan [] [0] [1, 2, 3, 4, 5] 6 4 (by kernel_rfl) (by kernel_rfl) (by kernel_rfl) (fun K hK => ?_)); simp only [sel, List.getElem?_cons_succ, List.getElem?_cons_zero, List.drop_succ_cons, List.drop_zero]; simp (disch := first | omega | (simp only [lnS]; try omega)) [-getElem?_pos, -getElem?_neg, -xload, ldk, lds, q5, -xindexAddr, q1, q2, q3, -notTuple, hnt, hrow, PL_nil, plainB_lit, PL_cons, PLc_val, PLc_new, stepP_t, stepP_f, stepPC_n, stepPC_s, stepPX_s, stepPX_n, stepPV_n, stepPV_s, stepPA_t, stepPA_c, stepPA_l, stepPN_s, allocOp, reloc_sl, reloc_ptr, List.map_cons, List.map_nil, List.nil_append, List.append_assoc, List.cons_append, Nat.add_assoc]
   refine ⟨by kernel_rfl, AC.mono htw ?_⟩
   intro v' G3 hQ
   obtain ⟨N, _, lN, ht, hse, rfl, hlt, hg, hfin⟩ := hQ
   try simp (disch := first | omega | (simp only [lnS]; try omega)) [-getElem?_pos, -getElem?_neg, hn2, lN, ht, hse, hg, hlt]
   refine hK _ _ ?_; clear hK K
   (refine aw_ret ?_; simp (disch := first | omega | (simp only [lnS]; try omega)) [-getElem?_pos, -getElem?_neg, thenQ_ret, scopeQ_ret, inBlockQ_ret, RQ, resL, resV, lN, ht, hlt])
   exact .inr ⟨hp0, _, rfl, hag ▸ hfin _⟩
 ·rw [if_neg hk3] at hag
  have hk3b : ((y.kind : Int) == 3) = false := by rw [beq_eq_false_iff_ne]; omega
  have hk3i : ¬ (y.kind : Int) = 3 := by omega
  have hrow : setR (setR (List.map (fun j => (iv .u8 (zl 32))[j % 32]?.getD undef) (List.range 64)) 0 (iv .u8 s)) 32 (iv .u8 p) = iv .u8 s ++ iv .u8 p := row2 (by simp) (by simp [hs]) (by simp [hp])
  have htw := rtwo_ac (nro := nro) (γ := γ) (G2 := G2 ++ [some ⟨iv .u8 s ++ iv .u8 p, 28, some 32⟩]) h hnH hnro (n := 5) (.inr rfl) hs hbs hp hbp hL ⟨fun j hj => (hget_left (by omega)).trans (lwH.1 j hj), by simp; omega⟩ (z := H.length + 2) (q := G2.length) (by omega) ((hget_left (by omega)).trans gz2) (by rw [hget_app0]; rfl)
  (refine aoo fun K hK => ?_; simp (disch := first | omega | (simp only [lnS]; try omega)) [-getElem?_pos, -getElem?_neg, gx2, lx2, hk3b, hk3i]; refine hK _ _ ?_; clear hK K)
  refine aw_t (by (first | (simp; done) | (simp; omega))) (by kernel_rfl) ?_
  refine aw_seq (aoo fun K hK => ?_)
  simp (disch := first | omega | (simp only [lnS]; try omega)) [-getElem?_pos, -getElem?_neg, gs2, gp2, ls2, lp2, hts, htp, hrow]
  refine ⟨by kernel_rfl, AC.mono htw ?_⟩
  intro v' G3 hQ
  obtain ⟨N, _, lN, ht, hse, rfl, hlt, hg, hfin⟩ := hQ
  try simp (disch := first | omega | (simp only [lnS]; try omega)) [-getElem?_pos, -getElem?_neg, hn2, lN, ht, hse, hg, hlt]
  refine hK _ _ ?_; clear hK K
  (refine aw_ret ?_; simp (disch := first | omega | (simp only [lnS]; try omega)) [-getElem?_pos, -getElem?_neg, thenQ_ret, scopeQ_ret, inBlockQ_ret, RQ, resL, resV, lN, ht, hlt])
  exact .inr ⟨hp0, _, rfl, hag ▸ hfin _⟩
end
section
def RLookP (H : AH) (L : List (Value × TermD)) (k : List Int) (v' : Value) (H' : AH) : Prop :=
 Low H.length H H' ∧ ((∃ p ∈ L, lookT (L.map (·.2)) k = p.2 ∧ v' = .agg (tmRow p.1 p.2).toArray) ∨ (lookT (L.map (·.2)) k = ⟨0, ⟨#[]⟩, [k]⟩ ∧ ∃ kv, v' = .agg (tmRow kv ⟨0, ⟨#[]⟩, [k]⟩).toArray ∧ KsV H' kv [k]))
theorem openT_look (T : List TermD) (k y : List Int) (box : ByteArray) : openT T k y box = if box.size = 32 then (if (lookT T (nums box)).kind = 6 ∧ (lookT T (nums box)).keys.getD 0 [] = k ∧ (lookT T (nums box)).keys.getD 1 [] = y then some ((lookT T (nums box)).text, (lookT T (nums box)).keys.drop 2) else none) else none := by
 unfold openT lookT
 cases findT T (nums box) with
 | none => simp
 | some x => rfl
def AccK (H : AH) (v : Value) (ks : List (List Int)) : Prop := Acc H 33 28 v ks.length (fun i x => x = .agg (iv .u8 (ks.getD i [])).toArray)
theorem suf_ksv {H : AH} {kv : Value} {ks : List (List Int)} (h : KsV H kv ks) (hk : K32 ks) (h2 : 2 ≤ ks.length) :
  ∃ sv, (∀ G : AH, xslice Tryd.prog 33 kv (some (.int .i64 2)) none G = some sv) ∧ ∀ G : AH, KsV G kv ks → AccK G sv (ks.drop 2) := by
 have hu : und Tryd.prog 33 = .slice 28 := by kernel_rfl
 have hs : szt Tryd.prog 28 = 32 := by kernel_rfl
 have hrl : ∀ row ∈ ks.map kd, row.length = 32 := fun row hr => by
  obtain ⟨y, hy, rfl⟩ := List.mem_map.1 hr
  unfold kd
  rw [List.length_map]
  exact hk y hy
 obtain ⟨j, b, us, hv, _⟩ := val_at (P := Tryd.prog) (t := 33) (e := 28) (sz := 32) h hu hs (by omega) hrl (i := 0) (row := kd (ks.getD 0 [])) (by
  rw [List.getElem?_map, List.getD_eq_getElem?_getD, List.getElem?_eq_getElem (by omega : 0 < ks.length)]; rfl)
 rw [List.length_map] at hv
 subst hv
 have hx : ∃ a c, (∀ G : AH, xslice Tryd.prog 33 (.slice (some ⟨j, 0, none⟩) ks.length ks.length) (some (.int .i64 2)) none G = some (.slice (some a) (ks.length - 2) c)) ∧ (3 ≤ ks.length → a = ⟨j, 64, none⟩ ∧ c = ks.length - 2) := by
  by_cases e : ks.length = 2
  ·refine ⟨⟨j, 0, some 0⟩, 0, fun G => ?_, fun h => by omega⟩
   unfold xslice
   simp only [hu, bnd, hs]
   rw [show asInt? (Value.int .i64 2) = some 2 from rfl]
   dsimp only
   rw [if_pos ⟨by omega, by omega, by omega, by omega⟩, if_pos ⟨by omega, by omega⟩, e]
  ·refine ⟨⟨j, 64, none⟩, ks.length - 2, fun G => ?_, fun h => ⟨rfl, rfl⟩⟩
   unfold xslice
   simp only [hu, bnd, hs]
   rw [show asInt? (Value.int .i64 2) = some 2 from rfl]
   dsimp only
   rw [if_pos ⟨by omega, by omega, by omega, by omega⟩, if_neg (by omega), if_pos trivial]
   simp
 obtain ⟨a, c, hx1, hx2⟩ := hx
 refine ⟨_, hx1, fun G hG => ?_⟩
 have hdl : (ks.drop 2).length = ks.length - 2 := List.length_drop
 unfold AccK
 rw [hdl]
 refine ⟨rfl, rfl, by unfold xlen; simp only [hu], fun i hi => ?_⟩
 obtain ⟨rfl, rfl⟩ := hx2 (by omega)
 have hi2 : i + 2 < ks.length := by omega
 obtain ⟨j2, b, us, hv, hb, hle, hxa, hus, hul, hle2, hc, hval⟩ := val_at (P := Tryd.prog) (t := 33) (e := 28) (sz := 32) hG hu hs (by omega) hrl (i := i + 2) (row := kd ks[i + 2]) (by rw [List.getElem?_map, List.getElem?_eq_getElem hi2]; rfl)
 rw [List.length_map] at hv
 simp only [Value.slice.injEq, Option.some.injEq, Addr.mk.injEq] at hv
 obtain ⟨⟨rfl, _⟩, _⟩ := hv
 refine ⟨.pointer (some ⟨j, 64 + i * 32, none⟩), .agg us.toArray, rfl, ?_, rfl, ?_, fun A hA => ?_⟩
 ·unfold xindexAddr
  simp only [hu, hs]
  rw [if_pos ⟨by omega, by omega, by omega⟩]
  simp
 ·rw [hval.key, List.getD_eq_getElem?_getD, List.getElem?_drop, show 2 + i = i + 2 by omega, List.getElem?_eq_getElem hi2]; rfl
 ·have hbA : hget A j = some b := (hA.1 j (hget_lt hb)).trans hb
  rw [show 64 + i * 32 = (i + 2) * 32 by omega]
  exact load_at (P := Tryd.prog) (e := 28) (i := i + 2) hbA hs (by omega) (by kernel_rfl) hus hle2
theorem sameKeysA_rc {γ : Nat → Option Nat} {H : AH} {u v : Value} {a b : List (List Int)} (ha : AccK H u a) (hb : AccK H v b) (ka : ∀ k ∈ a, k.length = 32) (kb : ∀ k ∈ b, k.length = 32) (hm : a.length ≤ maxLen) : AC Tryd.prog H.length γ 48 #[u, v] H (fun v' _ => v' = .bool (decide (a = b))) := by
 obtain ⟨hnt, hvc, hxl, hat⟩ := ha
 obtain ⟨hnt2, hvc2, hxl2, hat2⟩ := hb
 have hm63 : a.length ≤ 9223372036854775807 := by simp only [maxLen] at hm; omega
 refine ac_of_aw Tryd.func48 rfl Tryd.ntmps48 Tryd.results48 (by simp) ?_
 (refine aw_seq (aoo fun K hK => ?_); simp (disch := first | omega | (simp only [lnS]; try omega)) [-getElem?_pos, -getElem?_neg]; refine hK _ _ ?_; clear hK K)
 refine aw_seq (aw_seq ?_)
 by_cases hab : a.length = b.length
 case neg =>
  have hne : ((a.length : Int) == (b.length : Int)) = false := by
   rw [Bool.eq_false_iff]; simp; omega
  (refine aoo fun K hK => ?_; simp (disch := first | omega | (simp only [lnS]; try omega)) [-getElem?_pos, -getElem?_neg, -notTuple, hnt, hvc, hnt2, hvc2, -xlen, hxl, hxl2, hab, hne]; refine hK _ _ ?_; clear hK K)
  refine aw_t (by (first | (simp; done) | (simp; omega))) (by kernel_rfl) ?_
  (refine aw_seq (aoo fun K hK => ?_); simp (disch := first | omega | (simp only [lnS]; try omega)) [-getElem?_pos, -getElem?_neg]; refine hK _ _ ?_; clear hK K)
  (refine aw_ret ?_; simp (disch := first | omega | (simp only [lnS]; try omega)) [-getElem?_pos, -getElem?_neg, thenQ_ret, scopeQ_ret, inBlockQ_ret, RQ, resL, resV])
  all_goals exact fun h => hab (congrArg List.length h)
 (refine aoo fun K hK => ?_; simp (disch := first | omega | (simp only [lnS]; try omega)) [-getElem?_pos, -getElem?_neg, -notTuple, hnt, hvc, hnt2, hvc2, -xlen, hxl, hxl2, hab]; refine hK _ _ ?_; clear hK K)
 refine aw_f (by (first | (simp; done) | (simp; omega))) (by kernel_rfl) ?_
 refine aw_skip ?_
 refine aw_seq (aw_seq ?_)
 (refine aoo fun K hK => ?_; simp (disch := first | omega | (simp only [lnS]; try omega)) [-getElem?_pos, -getElem?_neg]; refine hK _ _ ?_; clear hK K)
 refine aw_block ?_
 refine aw_loop (fun c α G => ∃ i : Nat, i + c = a.length ∧ H = G ∧ α 0 = u ∧ α 1 = v ∧ α 5 = .int .i64 (i : Nat) ∧ ∀ k, k < i → a.getD k [] = b.getD k []) a.length ?_ ?_
 ·exact ⟨0, by omega, rfl, by (first | (simp; done) | rfl), by (first | (simp; done) | rfl), by (first | (simp; done) | rfl), fun k hk => by omega⟩
 rintro c α G ⟨i, hic, rfl, h0, h1, h5, hpre⟩
 refine aw_seq (aw_seq ?_)
 rw [← hab] at hxl2
 by_cases hi : i < a.length
 case neg =>
  (refine aoo fun K hK => ?_; simp (disch := first | omega | (simp only [lnS]; try omega)) [-getElem?_pos, -getElem?_neg, h0, h5, -notTuple, hnt, hvc, -xlen, hxl, hi]; refine hK _ _ ?_; clear hK K)
  refine aw_f (by (first | (simp [hi]; done) | (simp [hi]; omega))) (by kernel_rfl) ?_
  refine aw_exit (aw_seq ?_)
  (refine aoo fun K hK => ?_; simp (disch := first | omega | (simp only [lnS]; try omega)) [-getElem?_pos, -getElem?_neg]; refine hK _ _ ?_; clear hK K)
  (refine aw_ret ?_; simp (disch := first | omega | (simp only [lnS]; try omega)) [-getElem?_pos, -getElem?_neg, thenQ_ret, scopeQ_ret, inBlockQ_ret, RQ, resL, resV])
  exact keys_getD_ext hab (fun k hk => hpre k (by omega))
 (refine aoo fun K hK => ?_; simp (disch := first | omega | (simp only [lnS]; try omega)) [-getElem?_pos, -getElem?_neg, h0, h5, -notTuple, hnt, hvc, -xlen, hxl, hi]; refine hK _ _ ?_; clear hK K)
 refine aw_t (by (first | (simp [hi]; done) | (simp [hi]; omega))) (by kernel_rfl) ?_
 refine aw_skip (aw_seq ?_)
 refine aw_block ?_
 obtain ⟨p, x, q1, q2, q3, rfl, q4⟩ := hat i hi
 obtain ⟨p2, x2, q12, q22, q32, rfl, q42⟩ := hat2 i (by omega)
 have q4 := q4 H (Low.refl (Nat.le_refl _))
 have q42 := q42 H (Low.refl (Nat.le_refl _))
 have ly := key_getD ka hi
 have lz := key_getD kb (i := i) (by omega)
 obtain ⟨y, hy⟩ : ∃ y, y = a.getD i [] := ⟨_, rfl⟩
 obtain ⟨z, hz⟩ : ∃ z, z = b.getD i [] := ⟨_, rfl⟩
 rw [← hy] at q4 ly
 rw [← hz] at q42 lz
 refine aw_seq ?_
 by_cases hyz : y = z
 case neg =>
  have hyb : (y == z) = false := by simp [hyz]
  (refine aw_plan [] [] [0, 1, 2, 3, 4, 5, 6, 7, 8] 9 0 (by kernel_rfl) (by kernel_rfl) (by kernel_rfl) (fun K hK => ?_)); simp only [sel, List.getElem?_cons_succ, List.getElem?_cons_zero, List.drop_succ_cons, List.drop_zero]; simp (disch := first | omega | (simp only [lnS]; try omega)) [-getElem?_pos, -getElem?_neg, h0, h1, h5, -notTuple, hnt, hvc, hnt2, hvc2, q1, q12, -xindexAddr, q2, q22, -xload, q4, q42, ly, lz, hyz, hyb, PL_nil, plainB_lit, PL_cons, PLc_val, PLc_new, stepP_t, stepP_f, stepPC_n, stepPC_s, stepPX_s, stepPX_n, stepPV_n, stepPV_s, stepPA_t, stepPA_c, stepPA_l, stepPN_s, allocOp, reloc_sl, reloc_ptr, List.map_cons, List.map_nil, List.nil_append, List.append_assoc, List.cons_append, Nat.add_assoc]
  refine hK _ _ ?_; clear hK K
  refine aw_t (by (first | (simp; done) | (simp; omega))) (by kernel_rfl) ?_
  (refine aw_seq (aoo fun K hK => ?_); simp (disch := first | omega | (simp only [lnS]; try omega)) [-getElem?_pos, -getElem?_neg]; refine hK _ _ ?_; clear hK K)
  (refine aw_ret ?_; simp (disch := first | omega | (simp only [lnS]; try omega)) [-getElem?_pos, -getElem?_neg, thenQ_ret, scopeQ_ret, inBlockQ_ret, RQ, resL, resV])
  intro h
  rw [hy, hz, h] at hyz
  exact hyz rfl
 have hyb : (y == z) = true := by simp [hyz]
 (refine aw_plan [] [] [0, 1, 2, 3, 4, 5, 6, 7, 8] 9 0 (by kernel_rfl) (by kernel_rfl) (by kernel_rfl) (fun K hK => ?_)); simp only [sel, List.getElem?_cons_succ, List.getElem?_cons_zero, List.drop_succ_cons, List.drop_zero]; simp (disch := first | omega | (simp only [lnS]; try omega)) [-getElem?_pos, -getElem?_neg, h0, h1, h5, -notTuple, hnt, hvc, hnt2, hvc2, q1, q12, -xindexAddr, q2, q22, -xload, q4, q42, ly, lz, hyz, hyb, PL_nil, plainB_lit, PL_cons, PLc_val, PLc_new, stepP_t, stepP_f, stepPC_n, stepPC_s, stepPX_s, stepPX_n, stepPV_n, stepPV_s, stepPA_t, stepPA_c, stepPA_l, stepPN_s, allocOp, reloc_sl, reloc_ptr, List.map_cons, List.map_nil, List.nil_append, List.append_assoc, List.cons_append, Nat.add_assoc]
 refine hK _ _ ?_; clear hK K
 refine aw_f (by (first | (simp; done) | (simp; omega))) (by kernel_rfl) ?_
 refine aw_skip ?_
 (refine aoo fun K hK => ?_; simp (disch := first | omega | (simp only [lnS]; try omega)) [-getElem?_pos, -getElem?_neg, h5]; refine hK _ _ ?_; clear hK K)
 refine ⟨c - 1, by omega, i + 1, by omega, rfl, by (first | (simp [h0]; done) | rfl), by (first | (simp [h1]; done) | rfl), by (first | (simp; done) | rfl), fun k hk => ?_⟩
 by_cases e : k = i
 ·subst e
  rw [← hy, ← hz, hyz]
 ·exact hpre k (by omega)
theorem rlookP_ac {nro : Nat} {γ : Nat → Option Nat} {H : AH} {b : Nat} {tv sv : Value} {Ft Fs F : List Nat} {L : List (Value × TermD)} (h : RTblF H b tv sv Ft Fs F L) (hnH : nro ≤ H.length) {k : List Int} (hk : k.length = 32) (hb : By k) :
  AC Tryd.prog nro γ 32 #[.pointer (some ⟨b, 0, none⟩), .agg (iv .u8 k).toArray] H (RLookP H L k) := by
 obtain ⟨hsl, htl⟩ := h.slen
 have hs2 := ownF_nt h.rows
 have hFb := h.bound
 have hlb := hget_lt h.hb
 have htk : (iv .u8 k).take 32 = iv .u8 k := List.take_of_length_le (by simp [hk])
 have p1 : plain1 (.slice none 0 0) = true := rfl
 have r3 : List.range 3 = [0, 1, 2] := rfl
 have hrow1 : setR (List.map (fun j => (iv .u8 (zl 32))[j % 32]?.getD undef) (List.range 32)) 0 (iv .u8 k) = iv .u8 k := setR_all _ _ (by simp [hk])
 have hcase := num_at (T := L.map (·.2)) hb
 rw [List.length_map] at hcase
 obtain ⟨G0, hG0⟩ : ∃ G0 : AH, G0 = H ++ [some ⟨iv .u8 k, 28, none⟩, some ⟨[.int .i64 0, .string ByteArray.empty, .slice none 0 0], 67, none⟩] := ⟨_, rfl⟩
 have hT0 : RTblF G0 b tv sv Ft Fs F L := h.low (fun j hj => by rw [hG0]; exact hget_left (hFb j hj)) (by rw [hG0]; simp)
 have hgb0 := hT0.hb
 have ldt : xload Tryd.prog 56 (.pointer (some ⟨b, 0, none⟩)) G0 = some tv := by simp [xload, hgb0]
 have gk : hget G0 H.length = some ⟨iv .u8 k, 28, none⟩ := by rw [hG0, hget_app0]; rfl
 have gz : hget G0 (H.length + 1) = some ⟨[.int .i64 0, .string ByteArray.empty, .slice none 0 0], 67, none⟩ := by rw [hG0, hget_app]; rfl
 have lk := hget_lt gk
 have lz := hget_lt gz
 have hn1 : nro ≤ H.length + 1 := by omega
 refine ac_of_aw Tryd.func32 rfl Tryd.ntmps32 Tryd.results32 (by simp) ?_
 (refine aw_seq (aoo fun K hK => ?_); simp (disch := first | omega | (simp only [lnS]; try omega)) [-getElem?_pos, -getElem?_neg, htk]; refine hK _ _ ?_; clear hK K)
 rw [← hG0]
 have hG0l : G0.length = H.length + 2 := by rw [hG0]; simp
 have hG0j : ∀ j, j < H.length → hget G0 j = hget H j := fun j hj => by rw [hG0]; exact hget_left hj
 clear hG0
 have hnum := rnum_rc (γ := γ) (H := G0) hgb0 htl hs2.1 hs2.2 hk hb
 refine aw_seq (aoo fun K hK => ?_)
 simp (disch := first | omega | (simp only [lnS]; try omega)) [-getElem?_pos, -getElem?_neg, gk, lk, htk]
 refine ⟨by kernel_rfl, ac_of_rc hnum (by simp [pv_iv, pv_int, pv_bool, pv_string, pv_tup2, pv_tup3, iv_plain, p2_int, p2_bool, p2_string]) ?_⟩
 try simp (disch := first | omega | (simp only [lnS]; try omega)) [-getElem?_pos, -getElem?_neg]
 refine hK _ _ ?_; clear hK K
 refine aw_seq (aw_seq ?_)
 rcases hcase with ⟨i, y', hi, hn, hlk⟩ | ⟨hn, hlk⟩
 ·rw [hn]
  rw [List.getElem?_map] at hi
  cases hp : L[i]? with
  | none => rw [hp] at hi; cases hi
  | some p =>
   rw [hp] at hi
   obtain rfl := Option.some.inj hi
   obtain ⟨kv, y⟩ := p
   have hym := List.mem_of_getElem? hp
   obtain ⟨a1, a2, a3, a4⟩ := hT0.at_ hp
   have hvy : KsV G0 kv y.keys := hT0.keys _ hym G0 (fun _ _ => rfl)
   obtain ⟨hnt2, hvc2⟩ := val_nt hvy
   simp only at a4
   have hrow2 : tmRow kv y = [.int .i64 (y.kind : Nat), .string y.text, kv] := rfl
   rw [hrow2] at a4
   have h0 : ¬ ((i : Nat) : Int) < 0 := by omega
   have fin : RLookP H L k (.agg (tmRow kv y).toArray) (G0.set (H.length + 1) (some ⟨[.int .i64 (y.kind : Nat), .string y.text, kv], 67, none⟩)) :=
    ⟨⟨fun j hj => (hget_set_ne (by omega)).trans (hG0j j hj), by simp; omega⟩, .inl ⟨(kv, y), hym, hlk, rfl⟩⟩
   (refine aoo fun K hK => ?_; simp (disch := first | omega | (simp only [lnS]; try omega)) [-getElem?_pos, -getElem?_neg, h0]; refine hK _ _ ?_; clear hK K)
   refine aw_f (by (first | (simp [h0]; done) | (simp [h0]; omega))) (by kernel_rfl) ?_
   refine aw_skip (aw_seq ?_)
   (refine aoo fun K hK => ?_; simp (disch := first | omega | (simp only [lnS]; try omega)) [-getElem?_pos, -getElem?_neg, -notTuple, hs2.1, hs2.2, hnt2, hvc2, -xload, ldt, a4, -xindexAddr, a2, a3, gz, lz, hn1, p1, r3]; refine hK _ _ ?_; clear hK K)
   (refine aw_ret ?_; simp (disch := first | omega | (simp only [lnS]; try omega)) [-getElem?_pos, -getElem?_neg, thenQ_ret, scopeQ_ret, inBlockQ_ret, RQ, resL, resV, hnt2, hvc2, lz])
   exact fin
 ·rw [hn]
  (refine aoo fun K hK => ?_; simp (disch := first | omega | (simp only [lnS]; try omega)) [-getElem?_pos, -getElem?_neg]; refine hK _ _ ?_; clear hK K)
  refine aw_t (by (first | (simp; done) | (simp; omega))) (by kernel_rfl) ?_
  refine aw_seq ?_
  obtain ⟨G1, hG1⟩ : ∃ G1 : AH, G1 = G0 ++ [some ⟨iv .u8 k, 28, some 32⟩] := ⟨_, rfl⟩
  have gz1 : hget G1 (H.length + 1) = some ⟨[.int .i64 0, .string ByteArray.empty, .slice none 0 0], 67, none⟩ := by rw [hG1]; exact (hget_left lz).trans gz
  have lz1 := hget_lt gz1
  have gr : hget G1 G0.length = some ⟨iv .u8 k, 28, some 32⟩ := by rw [hG1, hget_app0]; rfl
  have fin : RLookP H L k (.agg (tmRow (.slice (some ⟨G0.length, 0, none⟩) 1 1) ⟨0, ⟨#[]⟩, [k]⟩).toArray) (G1.set (H.length + 1) (some ⟨[.int .i64 0, .string ByteArray.empty, .slice (some ⟨G0.length, 0, none⟩) 1 1], 67, none⟩)) :=
   ⟨⟨fun j hj => (hget_set_ne (by omega)).trans (by rw [hG1]; exact (hget_left (by omega)).trans (hG0j j hj)), by rw [List.length_set, hG1]; simp; omega⟩, .inr ⟨hlk, _, rfl, keys1 hk ((hget_set_ne (by omega)).trans gr)⟩⟩
  have lz2 : H.length + 1 < G0.length + 1 := by omega
  have hgs := hget_set_eq (x := some ⟨[.int .i64 0, .string ByteArray.empty, .slice (some ⟨G0.length, 0, none⟩) 1 1], 67, none⟩) lz1
  subst hG1
  (refine aoo fun K hK => ?_; simp (disch := first | omega | (simp only [lnS]; try omega)) [-getElem?_pos, -getElem?_neg, gk, lk, htk, hrow1, hn1, p1, r3, gz1, lz1, lz2, List.range_one]; refine hK _ _ ?_; clear hK K)
  (refine aw_ret ?_; simp (disch := first | omega | (simp only [lnS]; try omega)) [-getElem?_pos, -getElem?_neg, thenQ_ret, scopeQ_ret, inBlockQ_ret, RQ, resL, resV, lz1, lz2, hgs])
  rw [List.set_append_left _ _ lz] at fin
  exact fin
end
section
def atI (m : Nat) (n : Int) : Nat := ((IntKind.u64.wrap n).tmod (m : Nat)).toNat
theorem atI_lt {m : Nat} (hm : 0 < m) (n : Int) : atI m n < m ∧ (IntKind.u64.wrap n).tmod (m : Nat) = (atI m n : Nat) := by
 have h0 : 0 ≤ IntKind.u64.wrap n := by
  simp only [IntKind.wrap, IntKind.bits, IntKind.signed]
  simp
  omega
 have h1 : 0 ≤ (IntKind.u64.wrap n).tmod (m : Nat) := Int.tmod_nonneg _ h0
 have h2 : (IntKind.u64.wrap n).tmod (m : Nat) < (m : Nat) := Int.tmod_lt_of_pos _ (by omega)
 unfold atI
 omega
theorem at_rc {γ : Nat → Option Nat} {H : AH} {p : Nat} {a c kv : Value} {l : List (List Int)} (hp : hget H p = some ⟨[a, c, kv], 39, none⟩) (hkv : KsV H kv l) (hk : ∀ k ∈ l, k.length = 32) (h0 : 0 < l.length) (hm : l.length ≤ 1000000) (n : Int) :
  AC Tryd.prog H.length γ 10 #[.pointer (some ⟨p, 0, none⟩), .int .i64 n] H (fun v' _ => v' = .agg (iv .u8 (l.getD (atI l.length n) [])).toArray) := by
 have hacc := hkv.acc hk
 have hl := hacc.len
 obtain ⟨hi, hrem⟩ := atI_lt h0 n
 obtain ⟨q, y, q1, q2, q3, rfl, q4⟩ := hacc.at_ _ hi
 have hpl := hget_lt hp
 have lY : (l.getD (atI l.length n) []).length = 32 := by
  rw [List.getD_eq_getElem?_getD, List.getElem?_eq_getElem hi]
  exact hk _ (List.getElem_mem _)
 generalize l.getD (atI l.length n) [] = Y at *
 generalize atI l.length n = i at *
 have tY : (iv .u8 Y).take 32 = iv .u8 Y := List.take_of_length_le (by simp [lY])
 have sY : setR (iv .u8 (zl 32)) 0 (iv .u8 Y) = iv .u8 Y := setR_all _ _ (by simp [lY])
 have w1 : IntKind.u64.wrap (l.length : Nat) = (l.length : Nat) := wu64 (by omega)
 have w2 : IntKind.i64.wrap (i : Nat) = (i : Nat) := w64 (by omega)
 have hne : ¬ ((l.length : Nat) : Int) = 0 := by omega
 have hne2 : ¬ l.length = 0 := by omega
 have hnt := hacc.nt
 have hcs := hacc.cs
 obtain ⟨Z, hZ⟩ : ∃ Z : AH, Z = H ++ [some ⟨iv .u8 (zl 32), 28, none⟩] := ⟨_, rfl⟩
 have lwZ : Low H.length H Z := by rw [hZ]; exact Low.push (Nat.le_refl _) _
 have gz : hget Z H.length = some ⟨iv .u8 (zl 32), 28, none⟩ := by rw [hZ, hget_app0]; rfl
 have gp : hget Z p = some ⟨[a, c, kv], 39, none⟩ := (lwZ.1 p hpl).trans hp
 have lz := hget_lt gz
 have lp := hget_lt gp
 have q5 := q4 Z lwZ
 have ldk : xload Tryd.prog 33 (.pointer (some ⟨p, 2, none⟩)) Z = some kv := by simp [xload, gp]
 refine ac_of_aw Tryd.func10 rfl Tryd.ntmps10 Tryd.results10 (by simp) ?_
 (refine aw_seq (aoo fun K hK => ?_); simp (disch := first | omega | (simp only [lnS]; try omega)) []; refine hK _ _ ?_; clear hK K)
 rw [← hZ]
 clear hZ
 refine aw_seq ?_
 (refine aw_plan [] [] [0, 1, 2, 3, 4, 5, 6, 7, 8, 9, 10, 11, 12, 13, 14, 15] 16 1 (by kernel_rfl) (by kernel_rfl) (by kernel_rfl) (fun K hK => ?_)); simp only [sel, List.getElem?_cons_succ, List.getElem?_cons_zero, List.drop_succ_cons, List.drop_zero]; simp (disch := first | omega | (simp only [lnS]; try omega)) [-xload, ldk, q5, -xindexAddr, q2, q1, -notTuple, hnt, hcs, -xlen, hl, w1, w2, hrem, hne, hne2, gz, lz, tY, sY, lY, PL_nil, plainB_lit, PL_cons, PLc_val, PLc_new, stepP_t, stepP_f, stepPC_n, stepPC_s, stepPX_s, stepPX_n, stepPV_n, stepPV_s, stepPA_t, stepPA_c, stepPA_l, stepPN_s, allocOp, reloc_sl, reloc_ptr, List.map_cons, List.map_nil, List.nil_append, List.append_assoc, List.cons_append, Nat.add_assoc]
 refine hK _ _ ?_; clear hK K
 (refine aw_ret ?_; simp (disch := first | omega | (simp only [lnS]; try omega)) [thenQ_ret, scopeQ_ret, inBlockQ_ret, RQ, resL, resV, gz, lz, tY, lY])
end
section
def k1L : List Int := 1 :: zl 31
def BegP (H : AH) (v' : Value) (H' : AH) : Prop := ∃ tb rb kb pb, v' = .pointer (some ⟨pb, 0, none⟩) ∧ Low H.length H H' ∧ H.length ≤ tb ∧ tb < rb ∧ rb < kb ∧ kb < pb ∧
 hget H' pb = some ⟨[.pointer (some ⟨tb, 0, none⟩), .pointer (some ⟨rb, 0, none⟩), .slice (some ⟨kb, 0, none⟩) 2 2], 39, none⟩ ∧
 hget H' kb = some ⟨iv .u8 (zl 32) ++ iv .u8 k1L, 28, some 32⟩ ∧ RTblF H' rb (.slice none 0 0) (.slice none 0 0) [] [] [] [] ∧ ∃ mb, mb < rb ∧ H.length ≤ mb ∧ TblF H' tb mb (.slice none 0 0) [] [] []
theorem pbegin_ac {nro : Nat} {γ : Nat → Option Nat} {H : AH} (hnH : nro ≤ H.length) : AC Tryd.prog nro γ 8 #[] H (BegP H) := by
 have p1 : plain1 (.slice none 0 0) = true := rfl
 have hrow2 : setR (setR (List.map (fun j => (iv .u8 (zl 32))[j % 32]?.getD undef) (List.range 64)) 0 (iv .u8 (zl 32))) 32 (iv .u8 k1L) = iv .u8 (zl 32) ++ iv .u8 k1L := row2 (by simp) (by simp) (by simp [k1L])
 have p0 : plain1 (.pointer none) = true := rfl
 have hset : (iv .u8 (zl 32)).set 0 (.int .u8 1) = iv .u8 k1L := by kernel_rfl
 refine ac_of_aw Tryd.func8 rfl Tryd.ntmps8 Tryd.results8 (by simp) ?_
 (refine aw_seq (aoo fun K hK => ?_); simp (disch := first | omega | (simp only [lnS]; try omega)) [-getElem?_pos, -getElem?_neg]; refine hK _ _ ?_; clear hK K)
 refine aw_seq (aoo fun K hK => ?_)
 simp (disch := first | omega | (simp only [lnS]; try omega)) [-getElem?_pos, -getElem?_neg]
 refine ⟨by kernel_rfl, AC.mono (tnew_ac hnH) ?_⟩
 rintro _ G1 ⟨rfl, lw1, hL1⟩
 have hbl := hget_lt hL1.hb
 have lw1' := lw1.2
 have fin : BegP H (.pointer (some ⟨G1.length + 2, 0, none⟩)) (G1 ++ [some ⟨[.slice none 0 0, .slice none 0 0], 59, none⟩, some ⟨iv .u8 (zl 32) ++ iv .u8 k1L, 28, some 32⟩, some ⟨[.pointer (some ⟨H.length + 1, 0, none⟩), .pointer (some ⟨G1.length, 0, none⟩), .slice (some ⟨G1.length + 1, 0, none⟩) 2 2], 39, none⟩]) := by
  refine ⟨H.length + 1, G1.length, G1.length + 1, G1.length + 2, rfl, ⟨fun j hj => (hget_left (by omega)).trans (lw1.1 j hj), by simp; omega⟩, by omega, by omega, by omega, by omega, by rw [hget_app]; rfl, by rw [hget_app]; rfl, ⟨by rw [hget_app0]; rfl, .inl ⟨rfl, rfl, rfl⟩, .inl ⟨rfl, rfl, rfl⟩, fun p hp => (by cases hp), fun p hp => (by cases hp), fun j hj => (by cases hj), by simp, by simp, by simp, fun j hj => (by cases hj), fun j hj => (by cases hj), fun j hj => (by cases hj)⟩, H.length, by omega, by omega, hL1.low (fun j hj => hget_left ?_)⟩
  simp only [List.append_nil, List.mem_cons, List.not_mem_nil, or_false] at hj
  omega
 try simp (disch := first | omega | (simp only [lnS]; try omega)) [-getElem?_pos, -getElem?_neg, p0, p1, hset, hrow2]
 refine hK _ _ ?_; clear hK K
 (refine aw_ret ?_; simp (disch := first | omega | (simp only [lnS]; try omega)) [-getElem?_pos, -getElem?_neg, thenQ_ret, scopeQ_ret, inBlockQ_ret, RQ, resL, resV])
 exact fin
end
section
def ROpenQ (H : AH) (F : List Nat) (T : List TermD) (k y : List Int) (box : ByteArray) (v' : Value) (H' : AH) : Prop :=
 Low H.length H H' ∧ match openT T k y box with
  | none => v' = .tuple #[.string ⟨#[]⟩, .slice none 0 0, .bool false]
  | some (s, ks) => ∃ kv, v' = .tuple #[.string s, kv, .bool true] ∧ notTuple kv = true ∧ kv.cells = #[kv] ∧ ∀ G : AH, (∀ j ∈ F, hget G j = hget H j) → AccK G kv ks
theorem ropen_ac {nro : Nat} {γ : Nat → Option Nat} {H : AH} {b : Nat} {tv sv : Value} {Ft Fs F : List Nat} {L : List (Value × TermD)} (h : RTblF H b tv sv Ft Fs F L) (hnH : nro ≤ H.length) {k y : List Int} (hk : k.length = 32) (hy : y.length = 32) {s : ByteArray} (hs1 : s.size ≤ 10000000) :
  AC Tryd.prog nro γ 47 #[.pointer (some ⟨b, 0, none⟩), .agg (iv .u8 k).toArray, .agg (iv .u8 y).toArray, .string s] H (ROpenQ H F (L.map (·.2)) k y s) := by
 have hop := openT_look (L.map (·.2)) k y s
 have htk : (iv .u8 k).take 32 = iv .u8 k := List.take_of_length_le (by simp [hk])
 have hty : (iv .u8 y).take 32 = iv .u8 y := List.take_of_length_le (by simp [hy])
 have hs9 : s.size ≤ 9223372036854775807 := by omega
 have hFb := h.bound
 by_cases h32 : s.size = 32
 case neg =>
  have hb32 : ((s.size : Int) == 32) = false := by rw [beq_eq_false_iff_ne]; omega
  have hi32 : ¬ (s.size : Int) = 32 := by omega
  rw [if_neg h32] at hop
  refine ac_of_aw Tryd.func47 rfl Tryd.ntmps47 Tryd.results47 (by simp) ?_
  (refine aw_seq (aoo fun K hK => ?_); simp (disch := first | omega | (simp only [lnS]; try omega)) [htk, hty]; refine hK _ _ ?_; clear hK K)
  refine aw_seq (aw_seq ?_)
  (refine aoo fun K hK => ?_; simp (disch := first | omega | (simp only [lnS]; try omega)) [hs9, hi32, hb32]; refine hK _ _ ?_; clear hK K)
  refine aw_t (by (first | (simp; done) | (simp; omega))) (by kernel_rfl) ?_
  (refine aw_seq (aoo fun K hK => ?_); simp (disch := first | omega | (simp only [lnS]; try omega)) []; refine hK _ _ ?_; clear hK K)
  (refine aw_ret ?_; simp (disch := first | omega | (simp only [lnS]; try omega)) [thenQ_ret, scopeQ_ret, inBlockQ_ret, RQ, resL, resV])
  exact ⟨Low.push (Nat.le_refl _) _, by rw [hop]⟩
 have hb32 : ((s.size : Int) == 32) = true := by rw [h32]; rfl
 have hi32 : (s.size : Int) = 32 := by rw [h32]; rfl
 rw [if_pos h32] at hop
 obtain ⟨N, hN⟩ : ∃ N : List Int, N = nums s := ⟨_, rfl⟩
 have lN : N.length = 32 := by rw [hN, nums_len, h32]
 have bN : By N := by rw [hN]; exact nums_bd s
 have hgb : ∀ i, gb s i = N.getD i 0 := fun i => by
  have := gb_sn (l := nums s) (nums_bd s) i
  rw [of_nums'] at this
  rw [hN]; exact this
 rw [← hN] at hop
 clear hN
 have htN : (iv .u8 N).take 32 = iv .u8 N := List.take_of_length_le (by simp [lN])
 have hsN : setR (iv .u8 (zl 32)) 0 (iv .u8 N) = iv .u8 N := setR_all _ _ (by simp [lN])
 have hn1 : nro ≤ H.length + 2 := by omega
 have p1 : plain1 (.slice none 0 0) = true := rfl
 have r3 : List.range 3 = [0, 1, 2] := rfl
 refine ac_of_aw Tryd.func47 rfl Tryd.ntmps47 Tryd.results47 (by simp) ?_
 (refine aw_seq (aoo fun K hK => ?_); simp (disch := first | omega | (simp only [lnS]; try omega)) [htk, hty]; refine hK _ _ ?_; clear hK K)
 refine aw_seq (aw_seq ?_)
 (refine aoo fun K hK => ?_; simp (disch := first | omega | (simp only [lnS]; try omega)) [hs9, hb32, hi32]; refine hK _ _ ?_; clear hK K)
 refine aw_f (by (first | (simp; done) | (simp; omega))) (by kernel_rfl) ?_
 refine aw_skip (aw_seq ?_)
 (refine aoo fun K hK => ?_; simp (disch := first | omega | (simp only [lnS]; try omega)) []; refine hK _ _ ?_; clear hK K)
 refine aw_seq (aw_seq ?_)
 (refine aoo fun K hK => ?_; simp (disch := first | omega | (simp only [lnS]; try omega)) []; refine hK _ _ ?_; clear hK K)
 refine aw_block ?_
 refine aw_loop (fun q α G => ∃ i : Nat, i + q = 32 ∧ α 0 = .pointer (some ⟨b, 0, none⟩) ∧ α 3 = .string s ∧ α 5 = .pointer (some ⟨H.length, 0, none⟩) ∧ α 6 = .pointer (some ⟨H.length + 1, 0, none⟩) ∧ α 11 = .pointer (some ⟨H.length + 2, 0, none⟩) ∧ α 12 = .int .i64 (i : Nat) ∧ G = H ++ [some ⟨iv .u8 k, 28, none⟩, some ⟨iv .u8 y, 28, none⟩, some ⟨iv .u8 (N.take i ++ zl (32 - i)), 28, none⟩]) 32 ?_ ?_
 ·exact ⟨0, by omega, by (first | (simp; done) | rfl), by (first | (simp; done) | rfl), by (first | (simp; done) | rfl), by (first | (simp; done) | rfl), by (first | (simp; done) | rfl), by (first | (simp; done) | rfl), rfl⟩
 rintro q α G ⟨i, hiq, h0, h3, h5, h6, h11, h12, rfl⟩
 refine aw_seq (aw_seq ?_)
 by_cases hi : i < 32
 ·have hnx := set_next N 32 i lN hi
  have hfl := fill_len N 32 i lN (by omega)
  have hg := hgb i
  generalize N.getD i 0 = z at *
  have hset : (iv .u8 (N.take i ++ zl (32 - i))).set i (.int .u8 z) = iv .u8 (N.take (i + 1) ++ zl (32 - (i + 1))) := by rw [← hnx]; simp [iv]
  generalize N.take i ++ zl (32 - i) = A at *
  have hsi : (i : Int) < s.size := by omega
  (refine aoo fun K hK => ?_; simp (disch := first | omega | (simp only [lnS]; try omega)) [h12, hi]; refine hK _ _ ?_; clear hK K)
  refine aw_t (by (first | (simp [hi]; done) | (simp [hi]; omega))) (by kernel_rfl) ?_
  refine aw_skip (aw_seq ?_)
  refine aw_block ?_
  (refine aoo fun K hK => ?_; simp (disch := first | omega | (simp only [lnS]; try omega)) [h3, h11, h12, h32, hsi, hi, hg, hfl, hset, hn1]; refine hK _ _ ?_; clear hK K)
  (refine aoo fun K hK => ?_; simp (disch := first | omega | (simp only [lnS]; try omega)) [h12]; refine hK _ _ ?_; clear hK K)
  exact ⟨q - 1, by omega, i + 1, by omega, by (first | (simp [h0]; done) | rfl), by (first | (simp [h3]; done) | rfl), by (first | (simp [h5]; done) | rfl), by (first | (simp [h6]; done) | rfl), by (first | (simp [h11]; done) | rfl), by (first | (simp; done) | rfl), by rw [show 32 - (i + 1) = 31 - i by omega]⟩
 obtain rfl : i = 32 := by omega
 have e : N.take 32 ++ zl (32 - 32) = N := by
  rw [List.take_of_length_le (by omega)]
  simp [zl]
 rw [e]
 obtain ⟨B, hB⟩ : ∃ B : AH, B = H ++ [some ⟨iv .u8 k, 28, none⟩, some ⟨iv .u8 y, 28, none⟩, some ⟨iv .u8 N, 28, none⟩] := ⟨_, rfl⟩
 have gk : hget B H.length = some ⟨iv .u8 k, 28, none⟩ := by rw [hB, hget_app0]; rfl
 have gy : hget B (H.length + 1) = some ⟨iv .u8 y, 28, none⟩ := by rw [hB, hget_app]; rfl
 have gN : hget B (H.length + 2) = some ⟨iv .u8 N, 28, none⟩ := by rw [hB, hget_app]; rfl
 have hBl : B.length = H.length + 3 := by rw [hB]; simp
 have hBj : ∀ j, j < H.length → hget B j = hget H j := fun j hj => by rw [hB]; exact hget_left hj
 rw [← hB]
 clear hB e
 have hTB : RTblF B b tv sv Ft Fs F L := h.low (fun j hj => hBj j (hFb j hj)) (by omega)
 have hlook := rlookP_ac (nro := nro) (γ := γ) hTB (by omega) lN bN
 have lk := hget_lt gk
 have ly := hget_lt gy
 have lNn := hget_lt gN
 (refine aoo fun K hK => ?_; simp (disch := first | omega | (simp only [lnS]; try omega)) [h12]; refine hK _ _ ?_; clear hK K)
 refine aw_f (by (first | (simp; done) | (simp; omega))) (by kernel_rfl) ?_
 refine aw_exit (aw_seq ?_)
 refine aoo fun K hK => ?_
 simp (disch := first | omega | (simp only [lnS]; try omega)) [h0, h11, gN, lNn, htN, lN]
 refine ⟨by kernel_rfl, AC.mono hlook ?_⟩
 rintro vL G ⟨lwG, hcase⟩
 have hGl := lwG.2
 have lwH : Low H.length H G := ⟨fun j hj => (lwG.1 j (by omega)).trans (hBj j hj), by omega⟩
 have gk := (lwG.1 _ lk).trans gk
 have gy := (lwG.1 _ ly).trans gy
 have hng : nro ≤ G.length := by omega
 obtain ⟨kv, x, rfl, hlk, hkv, hbig⟩ : ∃ (kv : Value) (x : TermD), vL = .agg (tmRow kv x).toArray ∧ lookT (L.map (·.2)) N = x ∧ KsV G kv x.keys ∧ (x.kind = 6 → x.Wf ∧ ∀ A : AH, (∀ j ∈ F, hget A j = hget H j) → KsV A kv x.keys) := by
  rcases hcase with ⟨p, hp, e1, e2⟩ | ⟨e1, kv, e2, e3⟩
  ·exact ⟨p.1, p.2, e2, e1, h.keys p hp G (fun j hj => lwH.1 j (h.lt j hj)), fun _ => ⟨h.wf p hp, h.keys p hp⟩⟩
  ·exact ⟨kv, _, e2, e1, e3, fun e => by cases e⟩
 rw [hlk] at hop
 clear hlook hcase hlk lwG hBj hTB
 obtain ⟨hnt, hvc⟩ := val_nt hkv
 unfold tmRow
 try simp (disch := first | omega | (simp only [lnS]; try omega)) [p1, r3, hng, -notTuple, hnt, hvc]
 refine hK _ _ ?_; clear hK K
 obtain ⟨A, hA⟩ : ∃ A : AH, A = G ++ [some ⟨[.int .i64 (x.kind : Nat), .string x.text, kv], 67, none⟩] := ⟨_, rfl⟩
 have aG : hget A G.length = some ⟨[.int .i64 (x.kind : Nat), .string x.text, kv], 67, none⟩ := by rw [hA, hget_app0]; rfl
 have aj : ∀ j, j < G.length → hget A j = hget G j := fun j hj => by rw [hA, hget_left hj]
 have al : A.length = G.length + 1 := by rw [hA]; simp
 rw [← hA]
 clear hA
 have ak := (aj _ (by omega)).trans gk
 have ay := (aj _ (by omega)).trans gy
 have lwA : Low H.length H A := ⟨fun j hj => (aj j (by have := lwH.2; omega)).trans (lwH.1 j hj), by have := lwH.2; omega⟩
 have hKA : KsV A kv x.keys := CD.Val.low (fun j hj => aj j hj) hkv
 have ldt : xload Tryd.prog 3 (.pointer (some ⟨G.length, 0, none⟩)) A = some (.int .i64 (x.kind : Nat)) := by simp [xload, aG]
 have lds : xload Tryd.prog 9 (.pointer (some ⟨G.length, 1, none⟩)) A = some (.string x.text) := by simp [xload, aG]
 have ldk : xload Tryd.prog 33 (.pointer (some ⟨G.length, 2, none⟩)) A = some kv := by simp [xload, aG]
 have ld1 : xload Tryd.prog 28 (.pointer (some ⟨H.length, 0, none⟩)) A = some (.agg (iv .u8 k).toArray) := by simp [xload, ak, hk, htk]
 have ld2 : xload Tryd.prog 28 (.pointer (some ⟨H.length + 1, 0, none⟩)) A = some (.agg (iv .u8 y).toArray) := by simp [xload, ay, hy, hty]
 refine aw_seq (aw_seq ?_)
 by_cases k6 : x.kind = 6
 case neg =>
  have b6 : ((x.kind : Int) == 6) = false := by rw [beq_eq_false_iff_ne]; omega
  have i6 : ¬ (x.kind : Int) = 6 := by omega
  rw [if_neg (fun e => k6 e.1)] at hop
  (refine aw_plan [] [] [0, 1, 2, 3, 4, 5, 6, 7, 8, 9, 10, 11, 12, 13, 14, 15, 16, 17, 18] 19 0 (by kernel_rfl) (by kernel_rfl) (by kernel_rfl) (fun K hK => ?_)); simp only [sel, List.getElem?_cons_succ, List.getElem?_cons_zero, List.drop_succ_cons, List.drop_zero]; simp (disch := first | omega | (simp only [lnS]; try omega)) [h5, h6, -xload, ldt, b6, i6, -notTuple, PL_nil, plainB_lit, PL_cons, PLc_val, PLc_new, stepP_t, stepP_f, stepPC_n, stepPC_s, stepPX_s, stepPX_n, stepPV_n, stepPV_s, stepPA_t, stepPA_c, stepPA_l, stepPN_s, allocOp, reloc_sl, reloc_ptr, List.map_cons, List.map_nil, List.nil_append, List.append_assoc, List.cons_append, Nat.add_assoc]
  refine hK _ _ ?_; clear hK K
  refine aw_t (by (first | (simp; done) | (simp; omega))) (by kernel_rfl) ?_
  (refine aw_seq (aoo fun K hK => ?_); simp (disch := first | omega | (simp only [lnS]; try omega)) []; refine hK _ _ ?_; clear hK K)
  (refine aw_ret ?_; simp (disch := first | omega | (simp only [lnS]; try omega)) [thenQ_ret, scopeQ_ret, inBlockQ_ret, RQ, resL, resV])
  exact ⟨lwA, by rw [hop]⟩
 obtain ⟨hw, hall⟩ := hbig k6
 have h2 := hw.seal_ k6
 have b6 : ((x.kind : Int) == 6) = true := by rw [k6]; rfl
 have i6 : (x.kind : Int) = 6 := by omega
 have hacc := hKA.acc hw.k32
 obtain ⟨q0, y0, t1, t2, t3, t4, t5⟩ := hacc.at_ 0 (by omega)
 obtain ⟨q1, y1, u1, u2, u3, u4, u5⟩ := hacc.at_ 1 (by omega)
 have t2 : xindexAddr Tryd.prog 33 kv (.int .i64 0) = some q0 := t2
 have u2 : xindexAddr Tryd.prog 33 kv (.int .i64 1) = some q1 := u2
 have t5 := t5 A (Low.refl (Nat.le_refl _))
 have u5 := u5 A (Low.refl (Nat.le_refl _))
 subst t4 u4
 have z0 : (x.keys.getD 0 []).length = 32 := by
  rw [List.getD_eq_getElem?_getD, List.getElem?_eq_getElem (by omega)]
  exact hw.k32 _ (List.getElem_mem _)
 have z1 : (x.keys.getD 1 []).length = 32 := by
  rw [List.getD_eq_getElem?_getD, List.getElem?_eq_getElem (by omega)]
  exact hw.k32 _ (List.getElem_mem _)
 obtain ⟨sv2, v1, v2⟩ := suf_ksv hKA hw.k32 h2
 have v3 : ∀ A : AH, (∀ j ∈ F, hget A j = hget H j) → AccK A sv2 (x.keys.drop 2) := fun A hA => v2 A (hall A hA)
 have v4 := (v2 A hKA).nt
 have v5 := (v2 A hKA).cs
 have hsl := v1 A
 clear hacc hall hKA hkv v2 v1
 generalize x.keys.getD 0 [] = c0 at *
 generalize x.keys.getD 1 [] = c1 at *
 generalize x.keys.drop 2 = ds at *
 generalize x.kind = kd at *
 subst k6
 by_cases e0 : c0 = k
 case neg =>
  have c0b : (c0 == k) = false := by simpa using e0
  rw [if_neg (fun e => e0 e.2.1)] at hop
  (refine aw_plan [] [] [0, 1, 2, 3, 4, 5, 6, 7, 8, 9, 10, 11, 12, 13, 14, 15, 16, 17, 18] 19 0 (by kernel_rfl) (by kernel_rfl) (by kernel_rfl) (fun K hK => ?_)); simp only [sel, List.getElem?_cons_succ, List.getElem?_cons_zero, List.drop_succ_cons, List.drop_zero]; simp (disch := first | omega | (simp only [lnS]; try omega)) [h5, h6, -xload, ldt, ldk, ld1, t5, -xindexAddr, t1, t2, b6, i6, z0, hk, e0, c0b, -notTuple, hnt, PL_nil, plainB_lit, PL_cons, PLc_val, PLc_new, stepP_t, stepP_f, stepPC_n, stepPC_s, stepPX_s, stepPX_n, stepPV_n, stepPV_s, stepPA_t, stepPA_c, stepPA_l, stepPN_s, allocOp, reloc_sl, reloc_ptr, List.map_cons, List.map_nil, List.nil_append, List.append_assoc, List.cons_append, Nat.add_assoc]
  refine hK _ _ ?_; clear hK K
  refine aw_t (by (first | (simp; done) | (simp; omega))) (by kernel_rfl) ?_
  (refine aw_seq (aoo fun K hK => ?_); simp (disch := first | omega | (simp only [lnS]; try omega)) []; refine hK _ _ ?_; clear hK K)
  (refine aw_ret ?_; simp (disch := first | omega | (simp only [lnS]; try omega)) [thenQ_ret, scopeQ_ret, inBlockQ_ret, RQ, resL, resV])
  exact ⟨lwA, by rw [hop]⟩
 subst e0
 by_cases e1 : c1 = y
 case neg =>
  have c1b : (c1 == y) = false := by simpa using e1
  rw [if_neg (fun e => e1 e.2.2)] at hop
  (refine aw_plan [] [] [0, 1, 2, 3, 4, 5, 6, 7, 8, 9, 10, 11, 12, 13, 14, 15, 16, 17, 18] 19 0 (by kernel_rfl) (by kernel_rfl) (by kernel_rfl) (fun K hK => ?_)); simp only [sel, List.getElem?_cons_succ, List.getElem?_cons_zero, List.drop_succ_cons, List.drop_zero]; simp (disch := first | omega | (simp only [lnS]; try omega)) [h5, h6, -xload, ldt, ldk, ld1, ld2, t5, u5, -xindexAddr, t1, t2, u1, u2, b6, i6, z0, z1, hk, hy, e1, c1b, -notTuple, hnt, PL_nil, plainB_lit, PL_cons, PLc_val, PLc_new, stepP_t, stepP_f, stepPC_n, stepPC_s, stepPX_s, stepPX_n, stepPV_n, stepPV_s, stepPA_t, stepPA_c, stepPA_l, stepPN_s, allocOp, reloc_sl, reloc_ptr, List.map_cons, List.map_nil, List.nil_append, List.append_assoc, List.cons_append, Nat.add_assoc]
  refine hK _ _ ?_; clear hK K
  refine aw_t (by (first | (simp; done) | (simp; omega))) (by kernel_rfl) ?_
  (refine aw_seq (aoo fun K hK => ?_); simp (disch := first | omega | (simp only [lnS]; try omega)) []; refine hK _ _ ?_; clear hK K)
  (refine aw_ret ?_; simp (disch := first | omega | (simp only [lnS]; try omega)) [thenQ_ret, scopeQ_ret, inBlockQ_ret, RQ, resL, resV])
  exact ⟨lwA, by rw [hop]⟩
 subst e1
 rw [if_pos ⟨rfl, rfl, rfl⟩] at hop
 (refine aw_plan [] [] [0, 1, 2, 3, 4, 5, 6, 7, 8, 9, 10, 11, 12, 13, 14, 15, 16, 17, 18] 19 0 (by kernel_rfl) (by kernel_rfl) (by kernel_rfl) (fun K hK => ?_)); simp only [sel, List.getElem?_cons_succ, List.getElem?_cons_zero, List.drop_succ_cons, List.drop_zero]; simp (disch := first | omega | (simp only [lnS]; try omega)) [h5, h6, -xload, ldt, ldk, ld1, ld2, t5, u5, -xindexAddr, t1, t2, u1, u2, b6, i6, z0, z1, hk, hy, -notTuple, hnt, PL_nil, plainB_lit, PL_cons, PLc_val, PLc_new, stepP_t, stepP_f, stepPC_n, stepPC_s, stepPX_s, stepPX_n, stepPV_n, stepPV_s, stepPA_t, stepPA_c, stepPA_l, stepPN_s, allocOp, reloc_sl, reloc_ptr, List.map_cons, List.map_nil, List.nil_append, List.append_assoc, List.cons_append, Nat.add_assoc]
 refine hK _ _ ?_; clear hK K
 refine aw_f (by (first | (simp; done) | (simp; omega))) (by kernel_rfl) ?_
 refine aw_skip (aw_seq ?_)
 (refine aw_plan [] [] [0, 1, 2, 3, 4, 5, 6, 7] 8 0 (by kernel_rfl) (by kernel_rfl) (by kernel_rfl) (fun K hK => ?_)); simp only [sel, List.getElem?_cons_succ, List.getElem?_cons_zero, List.drop_succ_cons, List.drop_zero]; simp (disch := first | omega | (simp only [lnS]; try omega)) [-xload, lds, ldk, -xslice, hsl, -notTuple, hnt, v4, PL_nil, plainB_lit, PL_cons, PLc_val, PLc_new, stepP_t, stepP_f, stepPC_n, stepPC_s, stepPX_s, stepPX_n, stepPV_n, stepPV_s, stepPA_t, stepPA_c, stepPA_l, stepPN_s, allocOp, reloc_sl, reloc_ptr, List.map_cons, List.map_nil, List.nil_append, List.append_assoc, List.cons_append, Nat.add_assoc]
 refine hK _ _ ?_; clear hK K
 have fin : ROpenQ H F (L.map (·.2)) c0 c1 s (.tuple #[.string x.text, sv2, .bool true]) A := ⟨lwA, by rw [hop]; exact ⟨_, rfl, v4, v5, v3⟩⟩
 (refine aw_ret ?_; simp (disch := first | omega | (simp only [lnS]; try omega)) [thenQ_ret, scopeQ_ret, inBlockQ_ret, RQ, resL, resV, v4, v5])
 exact ⟨_, ⟨v4, rfl⟩, fin⟩
end
end
section
structure PlW (H0 : AH) (S : List Nat) (H : AH) (tb rb : Nat) (kv : Value) (T R : List TermD) (l : List (List Int)) (F Ft Fs Fr Fk : List Nat) (tv sv : Value) (L : List (Value × TermD)) : Prop where
 lw : Low H0.length H0 H
 a : Tbl H tb F T
 b : RTblF H rb tv sv Ft Fs Fr L
 e : L.map (·.2) = R
 k : OwnF H kv 28 32 (kr l) Fk
 ra : ∀ j ∈ F, H0.length ≤ j
 rr : ∀ j ∈ rb :: (Ft ++ Fs ++ Fr), H0.length ≤ j
 rk : ∀ j ∈ Fk, H0.length ≤ j
 ab : ∀ j ∈ F, j ∉ rb :: (Ft ++ Fs ++ Fr)
 ak : ∀ j ∈ F, j ∉ Fk
 bk : ∀ j ∈ rb :: (Ft ++ Fs ++ Fr), j ∉ Fk
 s : ∀ j ∈ S, j < H.length ∧ j ∉ F ∧ j ∉ rb :: (Ft ++ Fs ++ Fr) ∧ j ∉ Fk
def Pl (H0 : AH) (S : List Nat) (H : AH) (tb rb : Nat) (kv : Value) (T R : List TermD) (l : List (List Int)) : Prop := ∃ F Ft Fs Fr Fk tv sv L, PlW H0 S H tb rb kv T R l F Ft Fs Fr Fk tv sv L
def PlQ (H0 : AH) (S : List Nat) (H : AH) (tb rb : Nat) (kv : Value) (T R : List TermD) (l : List (List Int)) (w v' : Value) (H' : AH) : Prop := v' = w ∧ Pl H0 S H' tb rb kv T R l ∧ ∀ j ∈ S, hget H' j = hget H j
section
variable {H0 H G : AH} {S : List Nat} {tb rb : Nat} {kv : Value} {T R : List TermD} {l : List (List Int)}
theorem Pl.lw (h : Pl H0 S H tb rb kv T R l) : Low H0.length H0 H := by
 obtain ⟨F, Ft, Fs, Fr, Fk, tv, sv, L, h⟩ := h
 exact h.lw
theorem Pl.sl (h : Pl H0 S H tb rb kv T R l) {j : Nat} (hj : j ∈ S) : j < H.length := by
 obtain ⟨F, Ft, Fs, Fr, Fk, tv, sv, L, h⟩ := h
 exact (h.s j hj).1
theorem Pl.push (h : Pl H0 S H tb rb kv T R l) (lw : Low H.length H G) {S2 : List Nat} (h2 : ∀ j ∈ S2, H.length ≤ j ∧ j < G.length) : Pl H0 (S2 ++ S) G tb rb kv T R l := by
 obtain ⟨F, Ft, Fs, Fr, Fk, tv, sv, L, h⟩ := h
 have ba := h.a.bound
 have bb := h.b.bound
 have bk := h.k.lt
 have hl := lw.2
 refine ⟨F, Ft, Fs, Fr, Fk, tv, sv, L, ⟨fun j hj => (lw.1 j (by have := h.lw.2; omega)).trans (h.lw.1 j hj), by have := h.lw.2; omega⟩, h.a.low (fun j hj => lw.1 j (ba j hj)) hl, h.b.low (fun j hj => lw.1 j (bb j hj)) hl, h.e, h.k.low (fun j hj => lw.1 j (bk j hj)), h.ra, h.rr, h.rk, h.ab, h.ak, h.bk, fun j hj => ?_⟩
 rcases List.mem_append.1 hj with hj | hj
 ·obtain ⟨h3, h4⟩ := h2 j hj
  exact ⟨h4, fun e => by have := ba j e; omega, fun e => by have := bb j e; omega, fun e => by have := bk j e; omega⟩
 ·obtain ⟨h3, h4⟩ := h.s j hj
  exact ⟨by omega, h4⟩
theorem Pl.low (h : Pl H0 S H tb rb kv T R l) (lw : Low H.length H G) : Pl H0 S G tb rb kv T R l := h.push lw (S2 := []) (fun j hj => by cases hj)
theorem Pl.less (h : Pl H0 S H tb rb kv T R l) {S2 : List Nat} (h2 : ∀ j ∈ S2, j ∈ S) : Pl H0 S2 H tb rb kv T R l := by
 obtain ⟨F, Ft, Fs, Fr, Fk, tv, sv, L, h⟩ := h
 exact ⟨F, Ft, Fs, Fr, Fk, tv, sv, L, h.lw, h.a, h.b, h.e, h.k, h.ra, h.rr, h.rk, h.ab, h.ak, h.bk, fun j hj => h.s j (h2 j hj)⟩
theorem Pl.set (h : Pl H0 S H tb rb kv T R l) {j : Nat} (hj : j ∈ S) (hn : H0.length ≤ j) (X : Option Blk) : Pl H0 S (H.set j X) tb rb kv T R l := by
 obtain ⟨F, Ft, Fs, Fr, Fk, tv, sv, L, h⟩ := h
 obtain ⟨s1, s2, s3, s4⟩ := h.s j hj
 have hl := h.lw
 refine ⟨F, Ft, Fs, Fr, Fk, tv, sv, L, ⟨fun i hi => (hget_set_ne (by omega)).trans (hl.1 i hi), by have := hl.2; simpa using this⟩, h.a.low (fun i hi => hget_set_ne (fun e => s2 (e ▸ hi))) (by simp), h.b.low (fun i hi => hget_set_ne (fun e => s3 (e ▸ hi))) (by simp), h.e, h.k.low (fun i hi => hget_set_ne (fun e => s4 (e ▸ hi))), h.ra, h.rr, h.rk, h.ab, h.ak, h.bk, fun i hi => ?_⟩
 obtain ⟨i1, i2⟩ := h.s i hi
 exact ⟨by simpa using i1, i2⟩
theorem Pl.ksv (h : Pl H0 S H tb rb kv T R l) (hk : K32 l) : KsV H kv l := by
 obtain ⟨F, Ft, Fs, Fr, Fk, tv, sv, L, h⟩ := h
 exact kr_ksv h.k hk
theorem Pl.knt (h : Pl H0 S H tb rb kv T R l) : notTuple kv = true ∧ kv.cells = #[kv] := by
 obtain ⟨F, Ft, Fs, Fr, Fk, tv, sv, L, h⟩ := h
 exact ownF_nt h.k
theorem PlW.term_ {F Ft Fs Fr Fk : List Nat} {tv sv : Value} {L : List (Value × TermD)} (w : PlW H0 S H tb rb kv T R l F Ft Fs Fr Fk tv sv L) {x : TermD} {v' : Value} {H' : AH} (hq : TermQ H tb F T x v' H') : PlQ H0 S H tb rb kv (addT x T) R l (.agg (iv .u8 (nmL (nameT x T))).toArray) v' H' := by
 obtain ⟨h0, h2, h3, F', h4, h5⟩ := hq
 have bb := w.b.bound
 have bk := w.k.lt
 have hl := w.lw
 refine ⟨h0, ⟨F', Ft, Fs, Fr, Fk, tv, sv, L, ⟨fun j hj => (h3 j (by have := hl.2; omega) (fun e => by have := w.ra j e; omega)).trans (hl.1 j hj), by have := hl.2; omega⟩, h4, w.b.low (fun j hj => h3 j (bb j hj) (fun e => w.ab j e hj)) h2, w.e, w.k.low (fun j hj => h3 j (bk j hj) (fun e => w.ak j e hj)), fun j hj => ?_, w.rr, w.rk, fun j hj e => ?_, fun j hj e => ?_, w.bk, fun j hj => ?_⟩, fun j hj => h3 j (w.s j hj).1 (w.s j hj).2.1⟩
 ·rcases h5 j hj with e | e
  ·exact w.ra j e
  ·have := hl.2; omega
 ·rcases h5 j hj with e2 | e2
  ·exact w.ab j e2 e
  ·have := bb j e; omega
 ·rcases h5 j hj with e2 | e2
  ·exact w.ak j e2 e
  ·have := bk j e; omega
 ·obtain ⟨s1, s2, s3, s4⟩ := w.s j hj
  refine ⟨by omega, fun e => ?_, s3, s4⟩
  rcases h5 j e with e2 | e2
  ·exact s2 e2
  ·omega
theorem PlW.make {F Ft Fs Fr Fk : List Nat} {tv sv : Value} {L : List (Value × TermD)} (w : PlW H0 S H tb rb kv T R l F Ft Fs Fr Fk tv sv L) {x : TermD} {v' : Value} {H' : AH} (hq : RMkQ H rb Ft Fs Fr L x v' H') : PlQ H0 S H tb rb kv T (addT x R) l (.agg (iv .u8 (nmL (nameT x R : Nat))).toArray) v' H' := by
 obtain ⟨h0, h2, h3, tv', sv', Ft', Fs', Fr', L', h4, h5, h6⟩ := hq
 have ba := w.a.bound
 have bb := w.b.bound
 have bk := w.k.lt
 have hl := w.lw
 have he := w.e
 rw [he] at h0 h5
 have nin : ∀ j, j ∉ rb :: (Ft ++ Fs ++ Fr) → j ≠ rb ∧ j ∉ Ft ∧ j ∉ Fs ∧ j ∉ Fr := fun j hj => by
  simp only [List.mem_cons, List.mem_append, not_or] at hj
  exact ⟨hj.1, hj.2.1.1, hj.2.1.2, hj.2.2⟩
 have out : ∀ j, j < H.length → j ∉ rb :: (Ft ++ Fs ++ Fr) → j ∉ rb :: (Ft' ++ Fs' ++ Fr') := fun j hj hn e => by
  obtain ⟨n1, n2, n3, n4⟩ := nin j hn
  rcases List.mem_cons.1 e with e | e
  ·exact n1 e
  ·rcases h6 j e with e | e
   ·simp only [List.mem_append] at e
    rcases e with (e | e) | e
    ·exact n2 e
    ·exact n3 e
    ·exact n4 e
   ·omega
 have hna : ∀ j ∈ F, j ∉ rb :: (Ft ++ Fs ++ Fr) := w.ab
 have hnk : ∀ j ∈ Fk, j ∉ rb :: (Ft ++ Fs ++ Fr) := fun j hj e => w.bk j e hj
 have same : ∀ j, j < H.length → j ∉ rb :: (Ft ++ Fs ++ Fr) → hget H' j = hget H j := fun j hj hn => by
  obtain ⟨n1, n2, n3, n4⟩ := nin j hn
  exact h3 j hj n1 n2 n3
 refine ⟨h0, ⟨F, Ft', Fs', Fr', Fk, tv', sv', L', ⟨fun j hj => (h3 j (by have := hl.2; omega) (fun e => by have := w.rr j (by simp [e]); omega) (fun e => by have := w.rr j (by simp [e]); omega) (fun e => by have := w.rr j (by simp [e]); omega)).trans (hl.1 j hj), by have := hl.2; omega⟩, w.a.low (fun j hj => same j (ba j hj) (hna j hj)) h2, h4, h5, w.k.low (fun j hj => same j (bk j hj) (hnk j hj)), w.ra, fun j hj => ?_, w.rk, fun j hj => out j (ba j hj) (hna j hj), w.ak, fun j hj e => out j (bk j e) (hnk j e) hj, fun j hj => ?_⟩, fun j hj => same j (w.s j hj).1 (w.s j hj).2.2.1⟩
 ·by_cases hjn : j ∈ rb :: (Ft ++ Fs ++ Fr)
  ·exact w.rr j hjn
  ·have := out j
   by_cases hjl : j < H.length
   ·exact absurd hj (out j hjl hjn)
   ·have := hl.2; omega
 ·obtain ⟨s1, s2, s3, s4⟩ := w.s j hj
  exact ⟨by omega, s2, out j s1 s3, s4⟩
theorem PlW.append {F Ft Fs Fr Fk : List Nat} {tv sv : Value} {L : List (Value × TermD)} (w : PlW H0 S H tb rb kv T R l F Ft Fs Fr Fk tv sv L) (hk : K32 l) {x : Value} {news : List (List Int)} (hn : K32 news) (hstr : ∀ s, x ≠ .string s) (hx : xcells 32 x H = some (kr news)) (hb : l.length + news.length ≤ 1000000) :
  ∃ kv' H' F', xappend Tryd.prog H0.length 33 kv x H = some (kv', H') ∧ notTuple kv' = true ∧ kv'.cells = #[kv'] ∧ PlW H0 S H' tb rb kv' T R (l ++ news) F Ft Fs Fr F' tv sv L ∧ H.length ≤ H'.length ∧ ∀ j, j < H.length → j ∉ Fk → hget H' j = hget H j := by
 have l1 := kr_len hk
 have l2 := kr_len hn
 obtain ⟨kv', H', F', h1, h2, h3, h4, h5⟩ := ownF_appQ (P := Tryd.prog) (nro := H0.length) (t := 33) (e := 28) (H := H) (v := kv) (x := x) (sz := 32) (cells := kr l) (news := kr news) (F := Fk) (by kernel_rfl) (by kernel_rfl) (by omega) (by kernel_rfl) w.k w.rk hstr hx (by omega) (by rw [l1, l2, show byt Tryd.prog 28 = 32 by kernel_rfl]; omega) (by rw [l1, l2]; simp only [maxLen]; omega)
 have nt := ownF_nt h2
 have ba := w.a.bound
 have bb := w.b.bound
 have hl := w.lw
 refine ⟨kv', H', F', h1, nt.1, nt.2, ⟨⟨fun j hj => (h4 j (by have := hl.2; omega) (fun e => by have := w.rk j e; omega)).trans (hl.1 j hj), by have := hl.2; omega⟩, w.a.low (fun j hj => h4 j (ba j hj) (w.ak j hj)) h3, w.b.low (fun j hj => h4 j (bb j hj) (w.bk j hj)) h3, w.e, by rw [kr_app]; exact h2, w.ra, w.rr, fun j hj => (by have := h5 j hj; have := hl.2; omega), w.ab, fun j hj e => (by have := h5 j e; have := ba j hj; omega), fun j hj e => (by have := h5 j e; have := bb j hj; omega), fun j hj => ?_⟩, h3, h4⟩
 obtain ⟨s1, s2, s3, s4⟩ := w.s j hj
 exact ⟨by omega, s2, s3, fun e => by have := h5 j e; omega⟩
theorem Pl.append (h : Pl H0 S H tb rb kv T R l) (hk : K32 l) {x : Value} {news : List (List Int)} (hn : K32 news) (hstr : ∀ s, x ≠ .string s) (hx : xcells 32 x H = some (kr news)) (hb : l.length + news.length ≤ 1000000) :
  ∃ kv' H', xappend Tryd.prog H0.length 33 kv x H = some (kv', H') ∧ notTuple kv' = true ∧ kv'.cells = #[kv'] ∧ Pl H0 S H' tb rb kv' T R (l ++ news) ∧ ∀ j ∈ S, hget H' j = hget H j := by
 obtain ⟨F, Ft, Fs, Fr, Fk, tv, sv, L, w⟩ := h
 obtain ⟨kv', H', F', h1, h2, h3, h4, h5, h6⟩ := w.append hk hn hstr hx hb
 exact ⟨kv', H', h1, h2, h3, ⟨F, Ft, Fs, Fr, F', tv, sv, L, h4⟩, fun j hj => h6 j (w.s j hj).1 (w.s j hj).2.2.2⟩
end
end
section
attribute [local simp] wb_bool wb_undef with_lit XL_nil XL_cons XLc_val XLc_call step1_eq stepW_t stepW_f stepC_n stepC_s stepX_s stepX_n stepN_s calleeX xrecv oneV xop_eq xopR_s xopR_n wantedA_eq wantedG_n wantedG_s plain1_int plain1_bool plain1_string bits_i64 bits_u64 bits_u32 bits_u16 bits_u8 xeqA xagg xcmp xarr allK_iv num_iv calleeOf xread xeff xbin xint xnil xun xstr xload xconv xpart xfield xfieldAddr xindexAddr xindex bnd asInt? xslice xlen xmin xmax xbuild xfill xappend xapp2 xappstr xappmk xcap xcopy xcells eval_tmp eval_const put_at put_none fr0_at cells_agg cells_int cells_bool cells_string cells_ptr cells_slice notTuple tab iv_all hget_app hget_app0 hget_cons0 hget_cons set_app set_app0 setR setR_one QL_nil QL_cons QLc_val stepQ_t stepQ_f stepQC_n stepQC_s stepQX_s SL_nil SL_cons SLc_val stepS_t stepS_f ltT ltF leT leF eqT eqF ltTn ltFn leTn leFn eqTn eqFn beqT beqF bneT bneF wi64 wu64 wu32 wu16 wu8 tmodP tdivP hgetL hgetNe hgetEq setL nums_def nums_len Nat.succ_le_of_lt List.getElem?_cons_zero List.getElem?_cons_succ Option.getD_some Int.toNat_add Int.toNat_mul agM okM agB agI agS agP agL agA okB okI okS okP okSl okA nt_strG nt_boolG nt_aggG nt_intG nt_ptrG nt_slG XO_s XO_z XLk_val XLk_call headsO behind List.length_cons List.length_nil List.mem_cons List.not_mem_nil or_false forall_eq_or_imp forall_eq List.contains_cons List.contains_nil
section
structure StepD where
 kind : Int
 at_ : Int
 text : ByteArray
 raw : List Int
 keys : List Int
structure StepD.Wf (x : StepD) : Prop where
 kind : I64 x.kind
 at_ : I64 x.at_
 text : x.text.size ≤ maxLen
 raw : Key32 x.raw
 keys : ∀ z ∈ x.keys, I64 z
 klen : x.keys.length ≤ maxLen
def StepD.row (x : StepD) : List CD := [CD.int .i64 x.kind, .int .i64 x.at_, .str x.text] ++ (kd x.raw ++ [.sl (x.keys.map fun z => [.int .i64 z])])
def stepK : List CK := [CK.int .i64, .int .i64, .str] ++ (keyK ++ [CK.sl [.int .i64]])
theorem step_of {ds : List CD} (h : OkL stepK ds) : ∃ x : StepD, ds = x.row ∧ x.Wf := by
 obtain ⟨a, r, rfl, h1, h2⟩ := OkL.split h
 obtain ⟨d1, r11, rfl, o11, g1⟩ := h1.cons
 obtain ⟨ki, rfl, w1⟩ := ok_int o11
 obtain ⟨d2, r12, rfl, o12, g2⟩ := g1.cons
 obtain ⟨ai, rfl, w2⟩ := ok_int o12
 obtain ⟨d3, r13, rfl, o13, g3⟩ := g2.cons
 obtain ⟨s, rfl, w3⟩ := ok_str o13
 obtain rfl := g3.nil
 obtain ⟨c, r2, rfl, h3, h4⟩ := OkL.split h2
 obtain ⟨k, rfl, hk⟩ := key_of h3
 obtain ⟨d, r3, rfl, o2, h7⟩ := h4.cons
 obtain rfl := h7.nil
 obtain ⟨zs, rfl, hz, hl⟩ := ok_ints o2
 exact ⟨⟨ki, ai, s, k, zs⟩, rfl, wf_i64 w1, wf_i64 w2, w3, hk, fun z hm => wf_i64 (hz z hm), hl⟩
theorem steps_of {d : CD} (h : CD.Ok (.sl stepK) d) : ∃ l : List StepD, d = .sl (l.map StepD.row) ∧ (∀ x ∈ l, x.Wf) ∧ l.length ≤ maxLen := by
 obtain ⟨rows, rfl, hm, hr⟩ := ok_sl h
 obtain ⟨l, rfl, hl⟩ := rows_of (f := StepD.row) (R := StepD.Wf) rows (fun row hrow => step_of (hr row hrow))
 exact ⟨l, rfl, hl, by simpa using hm⟩
structure StC (H : AH) (C : List Value) (x : StepD) (kv : Value) : Prop where
 len : C.length = 36
 c0 : C[0]? = some (.int .i64 x.kind)
 c1 : C[1]? = some (.int .i64 x.at_)
 c2 : C[2]? = some (.string x.text)
 raw : (C.drop 3).take 32 = iv .u8 x.raw
 c35 : C[35]? = some kv
 kv : InV H kv x.keys
theorem StC.lowN {H G : AH} {C : List Value} {x : StepD} {kv : Value} (h : StC H C x kv) (lw : ∀ j, j < H.length → hget G j = hget H j) : StC G C x kv := ⟨h.len, h.c0, h.c1, h.c2, h.raw, h.c35, CD.Val.low lw h.kv⟩
theorem step_c {H : AH} {x : StepD} (hw : x.Wf) {us : List Value} (h : ValL H x.row us) : ∃ kv, StC H us x kv := by
 obtain ⟨a, r, rfl, h1, h2⟩ := ValL.split h
 obtain ⟨u0, r0, rfl, v0, n0⟩ := h1.cons
 obtain ⟨u1, r1, rfl, v1, n1⟩ := n0.cons
 obtain ⟨u2, r2, rfl, v2, n2⟩ := n1.cons
 obtain rfl := n2.nil
 obtain ⟨c, r3, rfl, h3, h4⟩ := ValL.split h2
 obtain rfl := h3.key
 obtain ⟨u3, r4, rfl, v3, n3⟩ := h4.cons
 obtain rfl := n3.nil
 rw [val_int v0, val_int v1, val_str v2]
 have lr := hw.raw.1
 refine ⟨u3, ?_, rfl, rfl, rfl, ?_, ?_, v3⟩
 ·simp [lr]
 ·show ((iv .u8 x.raw ++ [u3]).take 32) = _
  rw [List.take_append_of_le_length (by simp [lr]), List.take_of_length_le (by simp [lr])]
 ·show (iv .u8 x.raw ++ [u3])[32]? = _
  rw [List.getElem?_append_right (by simp [lr])]
  simp [lr]
def StV (H : AH) (v : Value) (l : List StepD) : Prop := CD.Val H (.sl (l.map StepD.row)) v
def atK (l : List (List Int)) (n : Int) : List Int := l.getD (atI l.length n) []
theorem atK_mem {l : List (List Int)} (h0 : 0 < l.length) (n : Int) : atK l n ∈ l := by
 have := (atI_lt h0 n).1
 unfold atK
 rw [List.getD_eq_getElem?_getD, List.getElem?_eq_getElem this]
 exact List.getElem_mem _
def namedL (l : List (List Int)) (x : StepD) : List (List Int) := (x.keys.take 5).map (atK l)
theorem StV.acc {H : AH} {v : Value} {l : List StepD} (h : StV H v l) (hl : ∀ x ∈ l, x.Wf) : Acc H 22 31 v l.length (fun i x => ∃ us y kv, x = .agg us.toArray ∧ l[i]? = some y ∧ StC H us y kv) := by
 refine ⟨(val_nt h).1, (val_nt h).2, ?_, fun i hi => ?_⟩
 ·have := val_len (P := Tryd.prog) (t := 22) (e := 31) h (by kernel_rfl)
  rw [List.length_map] at this
  exact this
 ·obtain ⟨z, hz⟩ : ∃ z, l[i]? = some z := ⟨_, List.getElem?_eq_getElem hi⟩
  have hzw := hl z (List.mem_of_getElem? hz)
  obtain ⟨j, b, us, hv, hb, hle, hx, hus, hul, hle2, hc, hval⟩ := val_at (P := Tryd.prog) (t := 22) (e := 31) (sz := 36) h (by kernel_rfl) (by kernel_rfl) (by omega) (fun row hr => by
   obtain ⟨y, hy, rfl⟩ := List.mem_map.1 hr
   have h1 := (hl y hy).raw.1
   simp [StepD.row, kd, h1]) (i := i) (row := z.row) (by rw [List.getElem?_map, hz]; rfl)
  obtain ⟨kv, hcc⟩ := step_c hzw hval
  refine ⟨_, .agg us.toArray, rfl, hx, rfl, ⟨us, z, kv, rfl, hz, hcc⟩, fun G hg => ?_⟩
  have hbG : hget G j = some b := (hg.1 j (hget_lt hb)).trans hb
  exact load_at (P := Tryd.prog) (e := 31) (i := i) hbG (by kernel_rfl) (by omega) (by kernel_rfl) hus hle2
theorem StC.loads {H G : AH} {C : List Value} {x : StepD} {kv : Value} (h : StC H C x kv) (hx : x.Wf) {n : Nat} (hn : hget G n = some ⟨C, 31, none⟩) :
  xload Tryd.prog 3 (.pointer (some ⟨n, 0, none⟩)) G = some (.int .i64 x.kind) ∧ xload Tryd.prog 3 (.pointer (some ⟨n, 1, none⟩)) G = some (.int .i64 x.at_) ∧ xload Tryd.prog 9 (.pointer (some ⟨n, 2, none⟩)) G = some (.string x.text) ∧
  xload Tryd.prog 28 (.pointer (some ⟨n, 3, none⟩)) G = some (.agg (iv .u8 x.raw).toArray) ∧ xload Tryd.prog 29 (.pointer (some ⟨n, 35, none⟩)) G = some kv ∧ xload Tryd.prog 31 (.pointer (some ⟨n, 0, none⟩)) G = some (.agg C.toArray) := by
 have c0 := h.c0
 have c1 := h.c1
 have c2 := h.c2
 have c35 := h.c35
 have cr := h.raw
 have cl := h.len
 have ht : C.take 36 = C := List.take_of_length_le (by omega)
 have lr := hx.raw.1
 refine ⟨by simp [xload, hn, c0], by simp [xload, hn, c1], by simp [xload, hn, c2], ?_, by simp [xload, hn, c35], by simp [xload, hn, cl, ht]⟩
 simp [xload, hn, cr, cl]
theorem two_rc {γ : Nat → Option Nat} {H : AH} {p : Nat} {a c kv : Value} {l : List (List Int)} (hp : hget H p = some ⟨[a, c, kv], 39, none⟩) (hkv : KsV H kv l) (hk : ∀ k ∈ l, k.length = 32) (h0 : 0 < l.length) (hm : l.length ≤ 1000000) {C : List Value} {x : StepD} {sv : Value} (hc : StC H C x sv) (hx : x.Wf) :
  AC Tryd.prog H.length γ 22 #[.pointer (some ⟨p, 0, none⟩), .agg C.toArray] H (fun v' _ => v' = .tuple #[.agg (iv .u8 (atK l x.at_)).toArray, .agg (iv .u8 (atK l (x.keys.getD 0 0))).toArray]) := by
 have hat : ∀ (n : Int) (G : AH), Low H.length H G → AC Tryd.prog G.length γ 10 #[.pointer (some ⟨p, 0, none⟩), .int .i64 n] G (fun v' _ => v' = .agg (iv .u8 (atK l n)).toArray) := fun n G lw => at_rc ((lw.1 p (hget_lt hp)).trans hp) (CD.Val.low (fun j hj => lw.1 j hj) hkv) hk h0 hm n
 have lA : ∀ n, (atK l n).length = 32 := fun n => hk _ (atK_mem h0 n)
 have tA : ∀ n, (iv .u8 (atK l n)).take 32 = iv .u8 (atK l n) := fun n => List.take_of_length_le (by simp [lA])
 have sA : ∀ (n : Int) (Z : List Int), Z.length = 32 → setR (iv .u8 Z) 0 (iv .u8 (atK l n)) = iv .u8 (atK l n) := fun n Z hZ => setR_all _ _ (by simp [lA, hZ])
 have sZ : ∀ n : Int, setR (iv .u8 (zl 32)) 0 (iv .u8 (atK l n)) = iv .u8 (atK l n) := fun n => sA n _ (by simp)
 have cl := hc.len
 have hacc := hc.kv.acc
 obtain ⟨hnt, hvc, hxl, hat2⟩ := hacc
 have hkm : x.keys.length ≤ 9223372036854775807 := by have := hx.klen; simp only [maxLen] at this; omega
 obtain ⟨B, hB⟩ : ∃ B : AH, B = H ++ [some ⟨C, 31, none⟩, some ⟨iv .u8 (zl 32), 28, none⟩, some ⟨iv .u8 (zl 32), 28, none⟩] := ⟨_, rfl⟩
 have gC : hget B H.length = some ⟨C, 31, none⟩ := by rw [hB, hget_app0]; rfl
 have g4 : hget B (H.length + 1) = some ⟨iv .u8 (zl 32), 28, none⟩ := by rw [hB, hget_app]; rfl
 have g5 : hget B (H.length + 2) = some ⟨iv .u8 (zl 32), 28, none⟩ := by rw [hB, hget_app]; rfl
 have hBl : B.length = H.length + 3 := by rw [hB]; simp
 have lwB : Low H.length H B := by rw [hB]; exact Low.push (Nat.le_refl _) _
 refine ac_of_aw Tryd.func22 rfl Tryd.ntmps22 Tryd.results22 (by simp) ?_
 (refine aw_seq (aoo fun K hK => ?_); simp (disch := first | omega | (simp only [lnS]; try omega)) [-getElem?_pos, -getElem?_neg, cl]; refine hK _ _ ?_; clear hK K)
 rw [← hB]
 clear hB
 obtain ⟨_, ld1, _, _, ld35, _⟩ := hc.loads hx gC
 refine aw_seq (aoo fun K hK => ?_)
 simp (disch := first | omega | (simp only [lnS]; try omega)) [-getElem?_pos, -getElem?_neg, -xload, ld1]
 refine ⟨by kernel_rfl, ac_of_rc (hat x.at_ _ lwB) (by simp [pv_iv, pv_int, pv_bool, pv_string, pv_tup2, pv_tup3, iv_plain, p2_int, p2_bool, p2_string]) ?_⟩
 try simp (disch := first | omega | (simp only [lnS]; try omega)) [-getElem?_pos, -getElem?_neg]
 refine ⟨by kernel_rfl, ac_of_rc (hat 0 _ lwB) (by simp [pv_iv, pv_int, pv_bool, pv_string, pv_tup2, pv_tup3, iv_plain, p2_int, p2_bool, p2_string]) ?_⟩
 try simp (disch := first | omega | (simp only [lnS]; try omega)) [-getElem?_pos, -getElem?_neg, lA, tA, sZ]
 refine hK _ _ ?_; clear hK K
 obtain ⟨A, hA⟩ : ∃ A, A = atK l x.at_ := ⟨_, rfl⟩
 have lAA := lA x.at_
 have tAA := tA x.at_
 rw [← hA] at lAA tAA ⊢
 refine aw_seq ?_
 refine aw_cut (fun α G => α 4 = .pointer (some ⟨H.length + 1, 0, none⟩) ∧ α 5 = .pointer (some ⟨H.length + 2, 0, none⟩) ∧ α 6 = .pointer (some ⟨B.length, 0, none⟩) ∧ α 7 = .pointer (some ⟨B.length + 1, 0, none⟩) ∧ G = B ++ [some ⟨iv .u8 A, 28, none⟩, some ⟨iv .u8 (atK l (x.keys.getD 0 0)), 28, none⟩]) ?_ ?_
 ·have gC2 : hget (B ++ [some ⟨iv .u8 A, 28, none⟩, some ⟨iv .u8 (atK l 0), 28, none⟩]) H.length = some ⟨C, 31, none⟩ := (hget_left (hget_lt gC)).trans gC
  have lwB2 : Low H.length H (B ++ [some ⟨iv .u8 A, 28, none⟩, some ⟨iv .u8 (atK l 0), 28, none⟩]) := ⟨fun j hj => (hget_left (by omega)).trans (lwB.1 j hj), by simp; omega⟩
  obtain ⟨_, _, _, _, ld35, _⟩ := hc.loads hx gC2
  refine aw_seq ?_
  by_cases hke : x.keys.length = 0
  ·have hk0 : x.keys = [] := List.eq_nil_of_length_eq_zero hke
   rw [hk0] at hxl
   have hxl0 : xlen Tryd.prog 29 sv = some (.int .i64 0) := hxl
   (refine aoo fun K hK => ?_; simp (disch := first | omega | (simp only [lnS]; try omega)) [-getElem?_pos, -getElem?_neg, -xload, ld35, -notTuple, hnt, -xlen, hxl0]; refine hK _ _ ?_; clear hK K)
   refine aw_f (by (first | (simp; done) | (simp; omega))) (by kernel_rfl) ?_
   refine aw_skip ?_
   have e0 : x.keys.getD 0 0 = 0 := by rw [hk0]; rfl
   rw [e0]
   exact ⟨by (first | (simp; done) | rfl), by (first | (simp; done) | rfl), by (first | (simp; done) | rfl), by (first | (simp; done) | rfl), rfl⟩
  ·obtain ⟨q, y, q1, q2, q3, rfl, q4⟩ := hat2 0 (by omega)
   have q2 : xindexAddr Tryd.prog 29 sv (.int .i64 0) = some q := q2
   have q5 := q4 _ lwB2
   have hpos : (0 : Int) < x.keys.length := by omega
   have hposn : 0 < x.keys.length := by omega
   have hat3 := hat (x.keys.getD 0 0) _ lwB2
   have sAA := sA (x.keys.getD 0 0) (atK l 0) (lA _)
   generalize x.keys.getD 0 0 = z at *
   (refine aoo fun K hK => ?_; simp (disch := first | omega | (simp only [lnS]; try omega)) [-getElem?_pos, -getElem?_neg, -xload, ld35, -notTuple, hnt, -xlen, hxl, hpos, hposn]; refine hK _ _ ?_; clear hK K)
   refine aw_t (by (first | (simp; done) | (simp; omega))) (by kernel_rfl) ?_
   refine aoo fun K hK => ?_
   simp (disch := first | omega | (simp only [lnS]; try omega)) [-getElem?_pos, -getElem?_neg, -xload, ld35, q5, -notTuple, hnt, q1, q3, -xindexAddr, q2]
   refine ⟨by kernel_rfl, ac_of_rc hat3 (by simp [pv_iv, pv_int, pv_bool, pv_string, pv_tup2, pv_tup3, iv_plain, p2_int, p2_bool, p2_string]) ?_⟩
   try simp (disch := first | omega | (simp only [lnS]; try omega)) [-getElem?_pos, -getElem?_neg, lA, tA, sAA]
   refine hK _ _ ?_; clear hK K
   exact ⟨by (first | (simp; done) | rfl), by (first | (simp; done) | rfl), by (first | (simp; done) | rfl), by (first | (simp; done) | rfl), rfl⟩
 rintro α G ⟨h4, h5, h6, h7, hG⟩
 obtain ⟨Z, hZ⟩ : ∃ Z, Z = atK l (x.keys.getD 0 0) := ⟨_, rfl⟩
 have lZ := lA (x.keys.getD 0 0)
 have tZ := tA (x.keys.getD 0 0)
 rw [← hZ] at lZ tZ hG ⊢
 have g6 : hget G B.length = some ⟨iv .u8 A, 28, none⟩ := by rw [hG, hget_app0]; rfl
 have g7 : hget G (B.length + 1) = some ⟨iv .u8 Z, 28, none⟩ := by rw [hG, hget_app]; rfl
 have g4 : hget G (H.length + 1) = some ⟨iv .u8 (zl 32), 28, none⟩ := by rw [hG, hget_left (hget_lt g4)]; exact g4
 have g5 : hget G (H.length + 2) = some ⟨iv .u8 (zl 32), 28, none⟩ := by rw [hG, hget_left (hget_lt g5)]; exact g5
 have sZA : setR (iv .u8 (zl 32)) 0 (iv .u8 A) = iv .u8 A := setR_all _ _ (by simp [lAA])
 have sZZ : setR (iv .u8 (zl 32)) 0 (iv .u8 Z) = iv .u8 Z := setR_all _ _ (by simp [lZ])
 have l4 := hget_lt g4
 have l5 := hget_lt g5
 have l6 := hget_lt g6
 have l7 := hget_lt g7
 have hGl : G.length = H.length + 5 := by rw [hG]; simp; omega
 clear hG
 refine aw_seq ?_
 refine aw_cut (fun α G' => α 4 = .pointer (some ⟨H.length + 1, 0, none⟩) ∧ α 5 = .pointer (some ⟨H.length + 2, 0, none⟩) ∧ hget G' (H.length + 1) = some ⟨iv .u8 A, 28, none⟩ ∧ hget G' (H.length + 2) = some ⟨iv .u8 Z, 28, none⟩) ?_ ?_
 ·(refine aw_ptree [] 4 [[0, 1, 2, 3], [0, 2, 1, 3], [1, 0, 2, 3]] (by kernel_rfl) (by kernel_rfl) (by kernel_rfl) (fun K hK => ?_)); simp only [sel, List.getElem?_cons_succ, List.getElem?_cons_zero]; simp (disch := first | omega | (simp only [lnS]; try omega)) [-getElem?_pos, -getElem?_neg, h4, h5, h6, h7, g4, g5, g6, g7, l4, l5, l6, l7, sZA, sZZ, tAA, tZ, lAA, lZ]
  refine ⟨?_, ?_⟩
  all_goals
   refine hK _ _ ?_; clear hK K
   exact ⟨by (first | (simp [h4]; done) | rfl), by (first | (simp [h5]; done) | rfl), by rw [hget_set_ne (by omega), hget_set_eq l4], by rw [hget_set_eq (by simp; omega)]⟩
 rintro α2 G2 ⟨h4, h5, g4, g5⟩
 have l4 := hget_lt g4
 have l5 := hget_lt g5
 (refine aw_ret ?_; simp (disch := first | omega | (simp only [lnS]; try omega)) [-getElem?_pos, -getElem?_neg, thenQ_ret, scopeQ_ret, inBlockQ_ret, RQ, resL, resV, h4, h5, g4, g5, l4, l5, lAA, lZ, tAA, tZ])
theorem namedL_k {l : List (List Int)} (h0 : 0 < l.length) (hk : ∀ k ∈ l, k.length = 32 ∧ By k) (x : StepD) : ∀ k ∈ namedL l x, k.length = 32 ∧ By k := fun k hk2 => by
 obtain ⟨n, _, rfl⟩ := List.mem_map.1 hk2
 exact hk _ (atK_mem h0 n)
def NamedQ (H : AH) (ks : List (List Int)) (v' : Value) (H' : AH) : Prop := Low H.length H H' ∧ ∃ Fk, OwnF H' v' 28 32 (kr ks) Fk ∧ ∀ j ∈ Fk, H.length ≤ j
theorem named_ac {nro : Nat} {γ : Nat → Option Nat} {H : AH} (hnH : nro ≤ H.length) {p : Nat} {a c kv : Value} {l : List (List Int)} (hp : hget H p = some ⟨[a, c, kv], 39, none⟩) (hkv : KsV H kv l) (hk : ∀ k ∈ l, k.length = 32) (h0 : 0 < l.length) (hm : l.length ≤ 1000000) {C : List Value} {x : StepD} {sv : Value} (hc : StC H C x sv) (hx : x.Wf) :
  AC Tryd.prog nro γ 26 #[.pointer (some ⟨p, 0, none⟩), .agg C.toArray] H (NamedQ H (namedL l x)) := by
 have hat : ∀ (n : Int) (G : AH), Low H.length H G → AC Tryd.prog G.length γ 10 #[.pointer (some ⟨p, 0, none⟩), .int .i64 n] G (fun v' _ => v' = .agg (iv .u8 (atK l n)).toArray) := fun n G lw => at_rc ((lw.1 p (hget_lt hp)).trans hp) (CD.Val.low (fun j hj => lw.1 j hj) hkv) hk h0 hm n
 have lA : ∀ n, (atK l n).length = 32 := fun n => hk _ (atK_mem h0 n)
 have cl := hc.len
 have hacc := hc.kv.acc
 obtain ⟨hnt, hvc, hxl, hat2⟩ := hacc
 have hkm : x.keys.length ≤ 9223372036854775807 := by have := hx.klen; simp only [maxLen] at this; omega
 have r1 : List.range 32 = List.range 32 := rfl
 obtain ⟨B, hB⟩ : ∃ B : AH, B = H ++ [some ⟨C, 31, none⟩] := ⟨_, rfl⟩
 have gC : hget B H.length = some ⟨C, 31, none⟩ := by rw [hB, hget_app0]; rfl
 have hBl : B.length = H.length + 1 := by rw [hB]; simp
 have lwB : Low H.length H B := by rw [hB]; exact Low.push (Nat.le_refl _) _
 refine ac_of_aw Tryd.func26 rfl Tryd.ntmps26 Tryd.results26 (by simp) ?_
 (refine aw_seq (aoo fun K hK => ?_); simp (disch := first | omega | (simp only [lnS]; try omega)) [-getElem?_pos, -getElem?_neg, cl]; refine hK _ _ ?_; clear hK K)
 rw [← hB]
 clear hB
 (refine aw_seq (aoo fun K hK => ?_); simp (disch := first | omega | (simp only [lnS]; try omega)) [-getElem?_pos, -getElem?_neg]; refine hK _ _ ?_; clear hK K)
 refine aw_seq (aw_seq ?_)
 (refine aoo fun K hK => ?_; simp (disch := first | omega | (simp only [lnS]; try omega)) [-getElem?_pos, -getElem?_neg]; refine hK _ _ ?_; clear hK K)
 refine aw_block ?_
 refine aw_loop (fun q α G => ∃ (i : Nat) (out : Value) (Fo : List Nat), i + q = 5 ∧ i ≤ x.keys.length ∧ α 0 = .pointer (some ⟨p, 0, none⟩) ∧ α 3 = .pointer (some ⟨H.length, 0, none⟩) ∧ α 5 = out ∧ α 6 = .int .i64 (i : Nat) ∧ Low B.length B G ∧ OwnF G out 28 32 (kr ((x.keys.take i).map (atK l))) Fo ∧ ∀ j ∈ Fo, B.length ≤ j) 5 ?_ ?_
 ·exact ⟨0, .slice none 0 0, [], by omega, by omega, by (first | (simp; done) | rfl), by (first | (simp; done) | rfl), by (first | (simp; done) | rfl), by (first | (simp; done) | rfl), Low.refl (Nat.le_refl _), .inl ⟨rfl, rfl, rfl⟩, fun j hj => by cases hj⟩
 rintro q α G ⟨i, out, Fo, hiq, his, e0, e3, e5, e6, lwG, ho, hFo⟩
 have hGl := lwG.2
 have lwH : Low H.length H G := ⟨fun j hj => (lwG.1 j (by omega)).trans (lwB.1 j hj), by omega⟩
 have gG := (lwG.1 _ (hget_lt gC)).trans gC
 obtain ⟨_, _, _, _, ld35, _⟩ := hc.loads hx gG
 have hto := ownF_nt ho
 refine aw_seq (aw_seq ?_)
 by_cases hi : i < x.keys.length ∧ i < 5
 ·obtain ⟨hi1, hi2⟩ := hi
  have hi1' : (i : Int) < x.keys.length := by omega
  have hi2' : (i : Int) < 5 := by omega
  obtain ⟨qa, y, q1, q2, q3, rfl, q4⟩ := hat2 i hi1
  have q5 := q4 G lwH
  have htk : (x.keys.take (i + 1)).map (atK l) = (x.keys.take i).map (atK l) ++ [atK l (x.keys.getD i 0)] := by
   rw [List.take_add_one, List.getElem?_eq_getElem hi1, List.map_append, List.getD_eq_getElem?_getD, List.getElem?_eq_getElem hi1]; rfl
  have hlz := lA (x.keys.getD i 0)
  have hat3 := hat (x.keys.getD i 0) G lwH
  generalize x.keys.getD i 0 = z at *
  generalize atK l z = Y at *
  have hK32 : K32 ((x.keys.take i).map (atK l)) := fun k hk2 => by
   obtain ⟨n, _, rfl⟩ := List.mem_map.1 hk2
   exact lA n
  have hkl : ((x.keys.take i).map (atK l)).length = i := by rw [List.length_map, List.length_take]; omega
  have hkr := kr_len hK32
  rw [hkl] at hkr
  have hrow1 : setR (List.map (fun j => (iv .u8 (zl 32))[j % 32]?.getD undef) (List.range 32)) 0 (iv .u8 Y) = iv .u8 Y := setR_all _ _ (by simp [hlz])
  have htY : (iv .u8 Y).take 32 = iv .u8 Y := List.take_of_length_le (by simp [hlz])
  have hxc : xcells 32 (.slice (some ⟨G.length, 0, none⟩) 1 1) (G ++ [some ⟨iv .u8 Y, 28, some 32⟩]) = some (iv .u8 Y) := by
   simp [xcells, hget_app0, hlz, htY]
  obtain ⟨v1, G1, F1, hap, ho1, hl1, hk1, hF1⟩ := ownF_appQ (P := Tryd.prog) (nro := nro) (t := 33) (e := 28) (H := G ++ [some ⟨iv .u8 Y, 28, some 32⟩]) (v := out) (x := .slice (some ⟨G.length, 0, none⟩) 1 1) (sz := 32) (cells := kr ((x.keys.take i).map (atK l))) (news := iv .u8 Y) (F := Fo) (by kernel_rfl) (by kernel_rfl) (by omega) (by kernel_rfl)
   (ho.low (fun j hj => hget_left (ho.lt j hj))) (fun j hj => by have := hFo j hj; omega) (fun s e => by cases e) hxc (by simp [hlz]) (by rw [hkr, show byt Tryd.prog 28 = 32 by kernel_rfl]; simp [hlz]; omega) (by rw [hkr]; simp [hlz, maxLen]; omega)
  have n1 := ownF_nt ho1
  have hl1' : G.length + 1 ≤ G1.length := by simpa using hl1
  (refine aoo fun K hK => ?_; simp (disch := first | omega | (simp only [lnS]; try omega)) [-getElem?_pos, -getElem?_neg, e3, e6, -xload, ld35, -notTuple, hnt, -xlen, hxl, hi1', hi2']; refine hK _ _ ?_; clear hK K)
  refine aw_t (by (first | (simp; done) | (simp; omega))) (by kernel_rfl) ?_
  refine aw_skip (aw_seq ?_)
  refine aw_block ?_
  refine aoo fun K hK => ?_
  simp (disch := first | omega | (simp only [lnS]; try omega)) [-getElem?_pos, -getElem?_neg, e0, e3, e5, e6, -xload, ld35, q5, -notTuple, hnt, q1, q3, hto.1, -xindexAddr, q2]
  refine ⟨by kernel_rfl, ac_of_rc hat3 (by simp [pv_iv, pv_int, pv_bool, pv_string, pv_tup2, pv_tup3, iv_plain, p2_int, p2_bool, p2_string]) ?_⟩
  try simp (disch := first | omega | (simp only [lnS]; try omega)) [-getElem?_pos, -getElem?_neg, hrow1, hlz, htY, -notTuple, hto.1, n1.1, n1.2, -xappend, hap]
  refine hK _ _ ?_; clear hK K
  (refine aoo fun K hK => ?_; simp (disch := first | omega | (simp only [lnS]; try omega)) [-getElem?_pos, -getElem?_neg, e6]; refine hK _ _ ?_; clear hK K)
  refine ⟨q - 1, by omega, i + 1, v1, F1, by omega, by omega, by (first | (simp [e0]; done) | rfl), by (first | (simp [e3]; done) | rfl), by (first | (simp; done) | rfl), by (first | (simp; done) | rfl), ⟨fun j hj => ?_, by omega⟩, ?_, fun j hj => ?_⟩
  ·rw [hk1 j (by simp; omega) (fun e => by have := hFo j e; omega), hget_left (by omega)]
   exact lwG.1 j hj
  ·rw [htk, kr_app, kr_one]
   exact ho1
  ·have := hF1 j hj
   simp at this
   omega
 ·have hfin : namedL l x = (x.keys.take i).map (atK l) := by
   unfold namedL
   by_cases hi5 : i = 5
   ·rw [hi5]
   ·rw [List.take_of_length_le (by omega), List.take_of_length_le (l := x.keys) (i := i) (by omega)]
  refine aw_cut (fun α G' => α 5 = out ∧ α 15 = .bool false ∧ G' = G) ?_ ?_
  ·by_cases hi1 : i < x.keys.length
   ·have hi1' : (i : Int) < x.keys.length := by omega
    have hi2' : ¬ (i : Int) < 5 := by omega
    (refine aoo fun K hK => ?_; simp (disch := first | omega | (simp only [lnS]; try omega)) [-getElem?_pos, -getElem?_neg, e3, e6, -xload, ld35, -notTuple, hnt, -xlen, hxl, hi1', hi2']; refine hK _ _ ?_; clear hK K)
    exact ⟨by (first | (simp [e5]; done) | rfl), by (first | (simp; done) | rfl), rfl⟩
   ·have hi1' : ¬ (i : Int) < x.keys.length := by omega
    (refine aoo fun K hK => ?_; simp (disch := first | omega | (simp only [lnS]; try omega)) [-getElem?_pos, -getElem?_neg, e3, e6, -xload, ld35, -notTuple, hnt, -xlen, hxl, hi1']; refine hK _ _ ?_; clear hK K)
    exact ⟨by (first | (simp [e5]; done) | rfl), by (first | (simp; done) | rfl), rfl⟩
  rintro α1 G' ⟨e5, e15, rfl⟩
  refine aw_f (by (first | (simp [e15]; done) | (simp [e15]; omega))) (by kernel_rfl) ?_
  refine aw_exit (aw_seq ?_)
  (refine aoo fun K hK => ?_; simp (disch := first | omega | (simp only [lnS]; try omega)) [-getElem?_pos, -getElem?_neg, e5, -notTuple, hto.1, hto.2]; refine hK _ _ ?_; clear hK K)
  (refine aw_ret ?_; simp (disch := first | omega | (simp only [lnS]; try omega)) [-getElem?_pos, -getElem?_neg, thenQ_ret, scopeQ_ret, inBlockQ_ret, RQ, resL, resV, hto.1, hto.2])
  exact ⟨lwH, Fo, by rw [hfin]; exact ho, fun j hj => by have := hFo j hj; omega⟩
end
end
section
theorem addT_mem {x y : TermD} {T : List TermD} (h : y ∈ addT x T) : y ∈ T ∨ y = x := by
 unfold addT at h
 cases hp : placeT x T with
 | some i => rw [hp] at h; exact .inl h
 | none =>
  rw [hp] at h
  rcases List.mem_append.1 h with h | h
  ·exact .inl h
  ·exact .inr (List.mem_singleton.1 h)
theorem addT_le (x : TermD) (T : List TermD) : (addT x T).length ≤ T.length + 1 := by
 unfold addT
 cases placeT x T with
 | some i => exact Nat.le_succ _
 | none => simp
def nmV (x : TermD) (T : List TermD) : Value := .agg (iv .u8 (nmL (nameT x T : Nat))).toArray
def boxT (s : ByteArray) : TermD := ⟨2, tmBox ++ s, []⟩
def markT (T : List TermD) (s : ByteArray) : List TermD := if s.size = 32 then T else addT (boxT s) T
def markV (T : List TermD) (s : ByteArray) : List Int := if s.size = 32 then nums s else nmL (nameT (boxT s) T : Nat)
def agrT2 (T : List TermD) (s p : List Int) : List TermD := if p = zl 32 then T else addT (agreeT T s p) T
def agrK (T : List TermD) (s p : List Int) : List Int := if p = zl 32 then zl 32 else nmL (nameT (agreeT T s p) T : Nat)
def agrB (p : List Int) : Bool := !decide (p = zl 32)
section
variable {γ : Nat → Option Nat} {H0 H : AH} {S : List Nat} {tb rb : Nat} {kv : Value} {T R : List TermD} {l : List (List Int)}
theorem pl_draw (hpw : Pw γ H0) (h : Pl H0 S H tb rb kv T R l) {s : ByteArray} (hs : s.size ≤ 100000000) (hT : T.length ≤ 900000) : AC Tryd.prog H0.length γ 15 #[.pointer (some ⟨tb, 0, none⟩), .string s] H (PlQ H0 S H tb rb kv (addT ⟨1, s, []⟩ T) R l (nmV ⟨1, s, []⟩ T)) := by
 obtain ⟨F, Ft, Fs, Fr, Fk, tv, sv, L, w⟩ := h
 exact (draw_ac (nro := H0.length) (hpw.low w.lw) w.a w.ra w.lw.2 hs (by omega)).mono fun v' H' hq => w.term_ hq
theorem pl_hash (hpw : Pw γ H0) (h : Pl H0 S H tb rb kv T R l) {s : ByteArray} {ks : List (List Int)} (hx : TermD.Wf ⟨2, s, ks⟩) {v : Value} {Fv : List Nat} (hv : OwnF H v 28 32 (kr ks) Fv) (hF : ∀ j ∈ Fv, j ∈ S) (hT : T.length ≤ 900000) : AC Tryd.prog H0.length γ 16 #[.pointer (some ⟨tb, 0, none⟩), .string s, v] H (PlQ H0 S H tb rb kv (addT ⟨2, s, ks⟩ T) R l (nmV ⟨2, s, ks⟩ T)) := by
 obtain ⟨F, Ft, Fs, Fr, Fk, tv, sv, L, w⟩ := h
 exact (hash_ac (nro := H0.length) (hpw.low w.lw) w.a w.ra w.lw.2 hx (fun G hG hj => kr_ksv (hv.low (fun j hm => hj j (w.s j (hF j hm)).1 (w.s j (hF j hm)).2.1)) hx.k32) (by omega)).mono fun v' H' hq => w.term_ hq
theorem pl_pub (hpw : Pw γ H0) (h : Pl H0 S H tb rb kv T R l) {k : List Int} (hk : k.length = 32) (hb : By k) (hT : T.length ≤ 900000) : AC Tryd.prog H0.length γ 20 #[.pointer (some ⟨tb, 0, none⟩), .agg (iv .u8 k).toArray] H (PlQ H0 S H tb rb kv (addT ⟨3, ⟨#[]⟩, [k]⟩ T) R l (nmV ⟨3, ⟨#[]⟩, [k]⟩ T)) := by
 obtain ⟨F, Ft, Fs, Fr, Fk, tv, sv, L, w⟩ := h
 exact (pubT_ac (nro := H0.length) (hpw.low w.lw) w.a w.ra w.lw.2 hk hb (by omega)).mono fun v' H' hq => w.term_ hq
theorem pl_seal (hpw : Pw γ H0) (h : Pl H0 S H tb rb kv T R l) {k y : List Int} (hk : k.length = 32) (hy : y.length = 32) {s : ByteArray} {ks : List (List Int)} (hx : TermD.Wf ⟨6, s, k :: y :: ks⟩) {v : Value} (hv : KsV H v ks) (hT : T.length ≤ 900000) : AC Tryd.prog H0.length γ 18 #[.pointer (some ⟨tb, 0, none⟩), .agg (iv .u8 k).toArray, .agg (iv .u8 y).toArray, .string s, v] H (PlQ H0 S H tb rb kv (addT ⟨6, s, k :: y :: ks⟩ T) R l (.string (strOfNums (nmL (nameT ⟨6, s, k :: y :: ks⟩ T : Nat))))) := by
 obtain ⟨F, Ft, Fs, Fr, Fk, tv, sv, L, w⟩ := h
 refine (seal_ac (nro := H0.length) (hpw.low w.lw) w.a w.ra w.lw.2 hk hy hx hv (by omega)).mono fun v' H' hq => ?_
 exact ⟨hq.1, (w.term_ hq.2).2⟩
theorem pl_mark (hpw : Pw γ H0) (h : Pl H0 S H tb rb kv T R l) {s : ByteArray} (hs : s.size ≤ 10000000) (hT : T.length ≤ 900000) : AC Tryd.prog H0.length γ 23 #[.pointer (some ⟨tb, 0, none⟩), .string s] H (PlQ H0 S H tb rb kv (markT T s) R l (.agg (iv .u8 (markV T s)).toArray)) := by
 have h0 := h
 obtain ⟨F, Ft, Fs, Fr, Fk, tv, sv, L, w⟩ := h
 refine (mark_ac (nro := H0.length) (hpw.low w.lw) w.a w.ra w.lw.2 hs (by omega)).mono fun v' H' hq => ?_
 unfold MarkQ at hq
 unfold markT markV
 by_cases h32 : s.size = 32
 ·rw [if_pos h32] at hq ⊢
  rw [if_pos h32]
  exact ⟨hq.1, h0.low hq.2, fun j hj => hq.2.1 j (h0.sl hj)⟩
 ·rw [if_neg h32] at hq ⊢
  rw [if_neg h32]
  exact w.term_ hq
theorem pl_agree (hpw : Pw γ H0) (h : Pl H0 S H tb rb kv T R l) {s p : List Int} (hs : s.length = 32) (hbs : By s) (hp : p.length = 32) (hbp : By p) (hT : T.length ≤ 900000) : AC Tryd.prog H0.length γ 21 #[.pointer (some ⟨tb, 0, none⟩), .agg (iv .u8 s).toArray, .agg (iv .u8 p).toArray] H (PlQ H0 S H tb rb kv (agrT2 T s p) R l (.tuple #[.agg (iv .u8 (agrK T s p)).toArray, .bool (agrB p)])) := by
 have h0 := h
 obtain ⟨F, Ft, Fs, Fr, Fk, tv, sv, L, w⟩ := h
 refine (agree_ac (nro := H0.length) (hpw.low w.lw) w.a w.ra w.lw.2 hs hbs hp hbp (by omega)).mono fun v' H' hq => ?_
 unfold agrT2 agrK agrB
 rcases hq with ⟨h1, h2, h3⟩ | ⟨h1, v1, h2, h3⟩
 ·rw [if_pos h1, if_pos h1, decide_eq_true h1]
  exact ⟨h2, h0.low h3, fun j hj => h3.1 j (h0.sl hj)⟩
 ·rw [if_neg h1, if_neg h1, decide_eq_false h1]
  have q := w.term_ h3
  exact ⟨by rw [h2, q.1]; rfl, q.2⟩
theorem pl_make (h : Pl H0 S H tb rb kv T R l) {x : TermD} (hx : x.Wf) {v : Value} (hv : KsV H v x.keys) (hR : R.length ≤ 900000) : AC Tryd.prog H0.length γ 25 #[.pointer (some ⟨rb, 0, none⟩), .int .i64 (x.kind : Nat), .string x.text, v] H (PlQ H0 S H tb rb kv T (addT x R) l (nmV x R)) := by
 obtain ⟨F, Ft, Fs, Fr, Fk, tv, sv, L, w⟩ := h
 have hl : L.length ≤ 900000 := by rw [← w.e, List.length_map] at hR; exact hR
 exact (rmake_ac (nro := H0.length) w.b w.lw.2 (fun j hj => w.rr j (by simp only [List.mem_cons, List.mem_append] at hj ⊢; rcases hj with e | e | e <;> simp [e])) hx hv hl).mono fun v' H' hq => w.make hq
theorem pl_rseal (h : Pl H0 S H tb rb kv T R l) {k y : List Int} (hk : k.length = 32) (hy : y.length = 32) {s : ByteArray} {ks : List (List Int)} (hx : TermD.Wf ⟨6, s, k :: y :: ks⟩) {v : Value} (hv : KsV H v ks) (hR : R.length ≤ 900000) : AC Tryd.prog H0.length γ 28 #[.pointer (some ⟨rb, 0, none⟩), .agg (iv .u8 k).toArray, .agg (iv .u8 y).toArray, .string s, v] H (PlQ H0 S H tb rb kv T (addT ⟨6, s, k :: y :: ks⟩ R) l (.string (strOfNums (nmL (nameT ⟨6, s, k :: y :: ks⟩ R : Nat))))) := by
 obtain ⟨F, Ft, Fs, Fr, Fk, tv, sv, L, w⟩ := h
 have hl : L.length ≤ 900000 := by rw [← w.e, List.length_map] at hR; exact hR
 refine (rseal_ac (nro := H0.length) w.b w.lw.2 (fun j hj => w.rr j (by simp only [List.mem_cons, List.mem_append] at hj ⊢; rcases hj with e | e | e <;> simp [e])) hk hy hx hv hl).mono fun v' H' hq => ?_
 have q := w.make hq.2
 exact ⟨by rw [hq.1, w.e], q.2⟩
theorem pl_rmark (h : Pl H0 S H tb rb kv T R l) {s : ByteArray} (hs : s.size ≤ 10000000) (hR : R.length ≤ 900000) : AC Tryd.prog H0.length γ 24 #[.pointer (some ⟨rb, 0, none⟩), .string s] H (PlQ H0 S H tb rb kv T (markT R s) l (.agg (iv .u8 (markV R s)).toArray)) := by
 have h0 := h
 obtain ⟨F, Ft, Fs, Fr, Fk, tv, sv, L, w⟩ := h
 have hl : L.length ≤ 900000 := by rw [← w.e, List.length_map] at hR; exact hR
 unfold markT markV
 by_cases h32 : s.size = 32
 ·rw [if_pos h32, if_pos h32]
  exact (rmark0_ac (nro := H0.length) w.lw.2 h32 rfl).mono fun v' H' hq => ⟨hq.1, h0.low hq.2, fun j hj => hq.2.1 j (h0.sl hj)⟩
 ·rw [if_neg h32, if_neg h32]
  exact (rmark1_ac (nro := H0.length) w.b w.lw.2 (fun j hj => w.rr j (by simp only [List.mem_cons, List.mem_append] at hj ⊢; rcases hj with e | e | e <;> simp [e])) hs h32 hl).mono fun v' H' hq => w.make hq
theorem pl_ragree (h : Pl H0 S H tb rb kv T R l) {s p : List Int} (hs : s.length = 32) (hbs : By s) (hp : p.length = 32) (hbp : By p) (hR : R.length ≤ 900000) : AC Tryd.prog H0.length γ 27 #[.pointer (some ⟨rb, 0, none⟩), .agg (iv .u8 s).toArray, .agg (iv .u8 p).toArray] H (PlQ H0 S H tb rb kv T (agrT2 R s p) l (.tuple #[.agg (iv .u8 (agrK R s p)).toArray, .bool (agrB p)])) := by
 have h0 := h
 obtain ⟨F, Ft, Fs, Fr, Fk, tv, sv, L, w⟩ := h
 have hl : L.length ≤ 900000 := by rw [← w.e, List.length_map] at hR; exact hR
 refine (ragree_ac (nro := H0.length) w.b w.lw.2 (fun j hj => w.rr j (by simp only [List.mem_cons, List.mem_append] at hj ⊢; rcases hj with e | e | e <;> simp [e])) hs hbs hp hbp hl).mono fun v' H' hq => ?_
 unfold agrT2 agrK agrB
 rcases hq with ⟨h1, h2, h3⟩ | ⟨h1, v1, h2, h3⟩
 ·rw [if_pos h1, if_pos h1, decide_eq_true h1]
  exact ⟨h2, h0.low h3, fun j hj => h3.1 j (h0.sl hj)⟩
 ·rw [if_neg h1, if_neg h1, decide_eq_false h1]
  rw [w.e] at h3
  have q := w.make h3
  exact ⟨by rw [h2, q.1]; rfl, q.2⟩
theorem pl_look (h : Pl H0 S H tb rb kv T R l) {k : List Int} (hk : k.length = 32) (hb : By k) : AC Tryd.prog H0.length γ 31 #[.pointer (some ⟨tb, 0, none⟩), .agg (iv .u8 k).toArray] H (fun v' H' => Low H.length H H' ∧ ∃ kv, v' = .agg (tmRow kv (lookT T k)).toArray ∧ ((∀ z ∈ (lookT T k).keys, z.length = 32) → KsV H' kv (lookT T k).keys)) := by
 obtain ⟨F, Ft, Fs, Fr, Fk, tv, sv, L, w⟩ := h
 refine (look_ac (nro := H0.length) w.a w.lw.2 hk hb).mono fun v' H' hq => ?_
 obtain ⟨kv, F2, h1, h2, h3, h4⟩ := hq
 exact ⟨h2, kv, h1, fun hz => kr_ksv h3 hz⟩
theorem pl_rlook (h : Pl H0 S H tb rb kv T R l) {k : List Int} (hk : k.length = 32) (hb : By k) : AC Tryd.prog H0.length γ 32 #[.pointer (some ⟨rb, 0, none⟩), .agg (iv .u8 k).toArray] H (fun v' H' => Low H.length H H' ∧ ∃ kv, v' = .agg (tmRow kv (lookT R k)).toArray ∧ KsV H' kv (lookT R k).keys) := by
 obtain ⟨F, Ft, Fs, Fr, Fk, tv, sv, L, w⟩ := h
 refine (rlook_ac (nro := H0.length) w.b w.lw.2 hk hb).mono fun v' H' hq => ?_
 obtain ⟨kv, h1, h2, h3⟩ := hq
 rw [w.e] at h1 h3
 exact ⟨h2, kv, h1, h3⟩
theorem pl_len (h : Pl H0 S H tb rb kv T R l) : AC Tryd.prog H.length γ 12 #[.pointer (some ⟨tb, 0, none⟩)] H (fun v' _ => v' = .int .i64 (T.length : Nat)) := by
 obtain ⟨F, Ft, Fs, Fr, Fk, tv, sv, L, w⟩ := h
 obtain ⟨mb, tv2, Ft2, Fk2, L2, rfl, hL, _, _⟩ := w.a
 obtain ⟨h1, h2, h3⟩ := hL.tvlen
 rw [List.length_map]
 exact tlen_rc hL.hb h1 h2 h3
theorem Pl.rlen (h : Pl H0 S H tb rb kv T R l) : ∃ tv sv, hget H rb = some ⟨[tv, sv], 59, none⟩ ∧ notTuple tv = true ∧ tv.cells = #[tv] ∧ xlen Tryd.prog 56 tv = some (.int .i64 (R.length : Nat)) := by
 obtain ⟨F, Ft, Fs, Fr, Fk, tv, sv, L, w⟩ := h
 have hs := w.b.slen
 have ht := ownF_nt w.b.rows
 refine ⟨tv, sv, w.b.hb, ht.1, ht.2, ?_⟩
 rw [← w.e, List.length_map]
 exact hs.2
theorem pl_open (h : Pl H0 S H tb rb kv T R l) {k y : List Int} (hk : k.length = 32) (hy : y.length = 32) {s : ByteArray} (hs : s.size ≤ 10000000) : AC Tryd.prog H0.length γ 19 #[.pointer (some ⟨tb, 0, none⟩), .agg (iv .u8 k).toArray, .agg (iv .u8 y).toArray, .string s] H (OpenQ H T k y s) := by
 obtain ⟨F, Ft, Fs, Fr, Fk, tv, sv, L, w⟩ := h
 exact open_ac (nro := H0.length) w.a w.lw.2 hk hy hs
end
end
section
structure OkP (T : List TermD) (l : List (List Int)) (n : Nat) : Prop where
 wf : ∀ x ∈ T, x.Wf
 k7 : ∀ x ∈ T, x.keys.length ≤ 7
 tl : T.length ≤ 3 * n
 ll : l.length ≤ 2 + 5 * n
 l2 : 2 ≤ l.length
 kk : ∀ k ∈ l, k.length = 32 ∧ By k
theorem OkP.up {T : List TermD} {l : List (List Int)} {n : Nat} (h : OkP T l n) : OkP T l (n + 1) := ⟨h.wf, h.k7, by have := h.tl; omega, by have := h.ll; omega, h.l2, h.kk⟩
def DoQ (H0 : AH) (S : List Nat) (H : AH) (p tb rb n : Nat) (v' : Value) (H' : AH) : Prop :=
 v' = .bool true ∧ ∃ kv T l, hget H' p = some ⟨[.pointer (some ⟨tb, 0, none⟩), .pointer (some ⟨rb, 0, none⟩), kv], 39, none⟩ ∧ Pl H0 S H' tb rb kv T T l ∧ OkP T l (n + 1) ∧ ∀ j ∈ S, j ≠ p → hget H' j = hget H j
@[reducible] def MP (c1 c2 : Nat) (H0 B : AH) (S : List Nat) (tb rb : Nat) (kv : Value) (T T1 R R1 : List TermD) (l : List (List Int)) (s : Array Bool) (α : Fm) (G : AH) : Prop :=
 Pl H0 S G tb rb kv (if s.getD c1 false = true then T1 else T) (if s.getD c2 false = true then R1 else R) l ∧ ∀ j ∈ S, hget G j = hget B j
theorem MP.keep {c1 c2 : Nat} {H0 B : AH} {S : List Nat} {tb rb : Nat} {kv : Value} {T T1 R R1 : List TermD} {l : List (List Int)} {s : Array Bool} {α α' : Fm} {G : AH} {i : Nat} (hi : i ∉ [c1, c2]) (h : MP c1 c2 H0 B S tb rb kv T T1 R R1 l s α G) : MP c1 c2 H0 B S tb rb kv T T1 R R1 l (s.setIfInBounds i true) α' G := by
 simp only [List.mem_cons, List.not_mem_nil, or_false, not_or] at hi
 unfold MP at *
 rw [gs_ne hi.1, gs_ne hi.2]
 exact h
theorem markT_len (T : List TermD) (s : ByteArray) : (markT T s).length ≤ T.length + 1 := by
 unfold markT
 split
 ·omega
 ·exact addT_le _ _
theorem boxT_wf {s : ByteArray} (hs : s.size ≤ 300) : (boxT s).Wf := wf_0 (.inr rfl) (by rw [ByteArray.size_append]; show 3 + s.size ≤ _; omega)
theorem markT_mem {T : List TermD} {s : ByteArray} {x : TermD} (h : x ∈ markT T s) : x ∈ T ∨ x = boxT s := by
 unfold markT at h
 split at h
 ·exact .inl h
 ·exact addT_mem h
theorem markV_len (T : List TermD) (s : ByteArray) : (markV T s).length = 32 := by
 unfold markV
 split
 ·rename_i h; rw [nums_len, h]
 ·rfl
theorem OkP.mark {T : List TermD} {l : List (List Int)} {n : Nat} (h : OkP T l n) {s : ByteArray} (hs : s.size ≤ 300) : (∀ x ∈ markT T s, x.Wf) ∧ (∀ x ∈ markT T s, x.keys.length ≤ 7) ∧ (markT T s).length ≤ 3 * n + 1 := by
 refine ⟨fun x hx => ?_, fun x hx => ?_, by have := markT_len T s; have := h.tl; omega⟩
 ·rcases markT_mem hx with e | e
  ·exact h.wf x e
  ·rw [e]; exact boxT_wf hs
 ·rcases markT_mem hx with e | e
  ·exact h.k7 x e
  ·rw [e]; exact Nat.zero_le _
def MidQ (H0 B : AH) (S : List Nat) (n7 n8 tb rb : Nat) (kv : Value) (l : List (List Int)) (n : Nat) (G : AH) : Prop :=
 ∃ (N : List Int) (T : List TermD), N.length = 32 ∧ By N ∧ hget G n7 = some ⟨iv .u8 N, 28, none⟩ ∧ hget G n8 = some ⟨iv .u8 N, 28, none⟩ ∧ Pl H0 S G tb rb kv T T l ∧ (∀ x ∈ T, x.Wf) ∧ (∀ x ∈ T, x.keys.length ≤ 7) ∧ T.length ≤ 3 * n + 2 ∧ ∀ j ∈ S, j ≠ n7 → j ≠ n8 → hget G j = hget B j
theorem play_loads {G : AH} {p tb rb : Nat} {kv : Value} (h : hget G p = some ⟨[.pointer (some ⟨tb, 0, none⟩), .pointer (some ⟨rb, 0, none⟩), kv], 39, none⟩) : xload Tryd.prog 36 (.pointer (some ⟨p, 0, none⟩)) G = some (.pointer (some ⟨tb, 0, none⟩)) ∧ xload Tryd.prog 37 (.pointer (some ⟨p, 1, none⟩)) G = some (.pointer (some ⟨rb, 0, none⟩)) ∧ xload Tryd.prog 33 (.pointer (some ⟨p, 2, none⟩)) G = some kv := by
 have e1 : isAggD (und Tryd.prog 36) = false := by kernel_rfl
 have e2 : okD (und Tryd.prog 36) = true := by kernel_rfl
 have e3 : isAggD (und Tryd.prog 37) = false := by kernel_rfl
 have e4 : okD (und Tryd.prog 37) = true := by kernel_rfl
 have e5 : isAggD (und Tryd.prog 33) = false := by kernel_rfl
 have e6 : okD (und Tryd.prog 33) = true := by kernel_rfl
 unfold xload
 refine ⟨?_, ?_, ?_⟩
 ·simp only [h, e1, e2]; rfl
 ·simp only [h, e3, e4]; rfl
 ·simp only [h, e5, e6]; rfl
theorem key_load {G : AH} {n : Nat} {Y : List Int} (hY : Y.length = 32) (h : hget G n = some ⟨iv .u8 Y, 28, none⟩) : xload Tryd.prog 28 (.pointer (some ⟨n, 0, none⟩)) G = some (.agg (iv .u8 Y).toArray) := by
 have := load_at (P := Tryd.prog) (e := 28) (sz := 32) (i := 0) (us := iv .u8 Y) h (by kernel_rfl) (by omega) (by kernel_rfl) (by simp; rw [List.take_of_length_le (by simp [hY])]) (by simp [hY])
 simpa using this
theorem ksv_set {G : AH} {kx : Value} {ks : List (List Int)} {r : Nat} {b Y : Blk} (hr : hget G r = some b) (hb : b.cells.length = 3) (hk : K32 ks) (h : KsV G kx ks) : KsV (G.set r (some Y)) kx ks := by
 have hv : CD.Val G (.sl (ks.map kd)) kx := h
 show CD.Val _ (.sl (ks.map kd)) kx
 generalize hrw : ks.map kd = rows at hv ⊢
 cases hv with
 | nil ha => exact .nil ha
 | @sl sz j k _ h1 h2 h3 h4 =>
  have hint : ∀ row ∈ rows, ∀ d ∈ row, ∃ z, d = CD.int .u8 z := fun row hrow d hd => by
   rw [← hrw] at hrow
   obtain ⟨q, _, rfl⟩ := List.mem_map.1 hrow
   obtain ⟨z, _, rfl⟩ := List.mem_map.1 hd
   exact ⟨z, rfl⟩
  have hrl : rows.length = ks.length := by rw [← hrw, List.length_map]
  by_cases e0 : rows.length = 0
  ·have hn : rows = [] := List.eq_nil_of_length_eq_zero e0
   subst hn
   by_cases ej : j = r
   ·subst ej
    exact .sl (k := Y) (sz := sz) (hget_set_eq (hget_lt hr)) (by simp) (fun row hrow => by cases hrow) (fun i row c d x hi => by simp at hi)
   ·exact .sl (k := k) (sz := sz) ((hget_set_ne (fun e => ej e.symm)).trans h1) h2 h3 (fun i row c d x hi => by simp at hi)
  ·have hall : ∀ row ∈ rows, row.length = 32 := fun row hrow => by
    rw [← hrw] at hrow
    obtain ⟨q, hq, rfl⟩ := List.mem_map.1 hrow
    unfold kd
    rw [List.length_map]
    exact hk q hq
   have hsz : sz = 32 := by
    have hm : rows[0]'(by omega) ∈ rows := List.getElem_mem _
    rw [← h3 _ hm]
    exact hall _ hm
   have hjr : r ≠ j := fun e => by
    subst e
    rw [h1] at hr
    cases hr
    rw [hsz, hb] at h2
    omega
   refine .sl (k := k) (sz := sz) ((hget_set_ne hjr).trans h1) h2 h3 (fun i row c d x hi hc hx => ?_)
   obtain ⟨z, rfl⟩ := hint row (List.mem_of_getElem? hi) d (List.mem_of_getElem? hc)
   have := h4 i row c _ x hi hc hx
   cases this
   exact .int
theorem PlW.low {H0 H G : AH} {S : List Nat} {tb rb : Nat} {kv : Value} {T R : List TermD} {l : List (List Int)} {F Ft Fs Fr Fk : List Nat} {tv sv : Value} {L : List (Value × TermD)} (h : PlW H0 S H tb rb kv T R l F Ft Fs Fr Fk tv sv L) (lw : Low H.length H G) : PlW H0 S G tb rb kv T R l F Ft Fs Fr Fk tv sv L := by
 have ba := h.a.bound
 have bb := h.b.bound
 have bk := h.k.lt
 have hl := lw.2
 exact ⟨⟨fun j hj => (lw.1 j (by have := h.lw.2; omega)).trans (h.lw.1 j hj), by have := h.lw.2; omega⟩, h.a.low (fun j hj => lw.1 j (ba j hj)) hl, h.b.low (fun j hj => lw.1 j (bb j hj)) hl, h.e, h.k.low (fun j hj => lw.1 j (bk j hj)), h.ra, h.rr, h.rk, h.ab, h.ak, h.bk, fun j hj => ⟨by have := (h.s j hj).1; omega, (h.s j hj).2⟩⟩
end
end Go.Proofs.YtecjhpamfkfilaaDoor
