/-
  The play's open.
-/
import Derived.Test.YtecjhpamfkfilaaDoorMzG
import Derived.Test.YtecjhpamfkfilaaDoorMzF
namespace Go.Proofs.YtecjhpamfkfilaaDoor
open Go Go.RowKit
set_option linter.unusedSimpArgs false
set_option linter.unusedVariables false
set_option maxRecDepth 100000
set_option maxHeartbeats 8000000
section
attribute [local simp] wb_bool wb_undef with_lit XL_nil XL_cons XLc_val XLc_call step1_eq stepW_t stepW_f stepC_n stepC_s stepX_s stepX_n stepN_s calleeX xrecv oneV xop_eq xopR_s xopR_n wantedA_eq wantedG_n wantedG_s plain1_int plain1_bool plain1_string bits_i64 bits_u64 bits_u32 bits_u16 bits_u8 xeqA xagg xcmp xarr allK_iv num_iv calleeOf xread xeff xbin xint xnil xun xstr xload xconv xpart xfield xfieldAddr xindexAddr xindex bnd asInt? xslice xlen xmin xmax xbuild xfill xappend xapp2 xappstr xappmk xcap xcopy xcells eval_tmp eval_const put_at put_none fr0_at cells_agg cells_int cells_bool cells_string cells_ptr cells_slice notTuple tab iv_all hget_app hget_app0 hget_cons0 hget_cons set_app set_app0 setR setR_one QL_nil QL_cons QLc_val stepQ_t stepQ_f stepQC_n stepQC_s stepQX_s SL_nil SL_cons SLc_val stepS_t stepS_f ltT ltF leT leF eqT eqF ltTn ltFn leTn leFn eqTn eqFn beqT beqF bneT bneF wi64 wu64 wu32 wu16 wu8 tmodP tdivP hgetL hgetNe hgetEq setL nums_def nums_len Nat.succ_le_of_lt List.getElem?_cons_zero List.getElem?_cons_succ Option.getD_some Int.toNat_add Int.toNat_mul agM okM agB agI agS agP agL agA okB okI okS okP okSl okA nt_strG nt_boolG nt_aggG nt_intG nt_ptrG nt_slG XO_s XO_z XLk_val XLk_call headsO behind List.length_cons List.length_nil List.mem_cons List.not_mem_nil or_false forall_eq_or_imp forall_eq List.contains_cons List.contains_nil XOm
section
def OpR (T : List TermD) (k y : List Int) (box : ByteArray) (u : ByteArray) (ks : List (List Int)) (b : Bool) : Prop := (openT T k y box = none ∧ u = ⟨#[]⟩ ∧ ks = [] ∧ b = false) ∨ (openT T k y box = some (u, ks) ∧ b = true)
theorem opR_ex (T : List TermD) (k y : List Int) (box : ByteArray) : ∃ u ks b, OpR T k y box u ks b := by
 cases h : openT T k y box with
 | none => exact ⟨_, _, _, .inl ⟨h, rfl, rfl, rfl⟩⟩
 | some p => exact ⟨p.1, p.2, true, .inr ⟨h, rfl⟩⟩
theorem openT_keys {T : List TermD} {k y : List Int} {box : ByteArray} {u : ByteArray} {ks : List (List Int)} (h : openT T k y box = some (u, ks)) : ∃ x ∈ T, ks = x.keys.drop 2 := by
 rw [openT_look] at h
 split at h
 ·split at h
  ·rename_i h6
   cases h
   exact ⟨_, look_mem (by omega), rfl⟩
  ·cases h
 ·cases h
theorem opR_ok {T : List TermD} {k y : List Int} {box : ByteArray} {u : ByteArray} {ks : List (List Int)} {b : Bool} (h : OpR T k y box u ks b) (hw : ∀ x ∈ T, x.Wf) (h7 : ∀ x ∈ T, x.keys.length ≤ 7) : ks.length ≤ 5 ∧ ∀ z ∈ ks, z.length = 32 ∧ By z := by
 rcases h with ⟨_, _, rfl, _⟩ | ⟨h, _⟩
 ·exact ⟨Nat.zero_le _, fun z hz => by cases hz⟩
 ·obtain ⟨x, hx, rfl⟩ := openT_keys h
  have := h7 x hx
  exact ⟨by rw [List.length_drop]; omega, fun z hz => ⟨(hw x hx).k32 z (List.mem_of_mem_drop hz), (hw x hx).by_ z (List.mem_of_mem_drop hz)⟩⟩
theorem openQ_w {G G' : AH} {T : List TermD} {k y : List Int} {box : ByteArray} {v' : Value} (hq : OpenQ G T k y box v' G') {lo : Nat} (hl : lo ≤ G.length) {u : ByteArray} {ks : List (List Int)} {b : Bool} (ho : OpR T k y box u ks b) : ∃ w, v' = .tuple #[.string u, w, .bool b] ∧ OwnK lo G' w ks := by
 obtain ⟨_, h⟩ := hq
 rcases ho with ⟨e, rfl, rfl, rfl⟩ | ⟨e, rfl⟩
 ·rw [e] at h
  exact ⟨_, h, .inl ⟨rfl, rfl⟩⟩
 ·rw [e] at h
  obtain ⟨kv, h1, h2⟩ := h
  exact ⟨kv, h1, h2.less hl⟩
def FrK (B : AH) (Fr : List Nat) (w : Value) (ks : List (List Int)) : Prop := notTuple w = true ∧ w.cells = #[w] ∧ ∀ A : AH, (∀ j ∈ Fr, hget A j = hget B j) → AccK A w ks
theorem FrK.nt {B : AH} {Fr : List Nat} {w : Value} {ks : List (List Int)} (h : FrK B Fr w ks) : notTuple w = true ∧ w.cells = #[w] := ⟨h.1, h.2.1⟩
theorem ropenQ_w {G G' B : AH} {Fr : List Nat} {T R : List TermD} {k y : List Int} {box : ByteArray} {v' : Value} (hq : ROpenQ G Fr R k y box v' G') (e : R = T) (hb : ∀ j ∈ Fr, hget G j = hget B j) {u : ByteArray} {ks : List (List Int)} {b : Bool} (ho : OpR T k y box u ks b) : ∃ w, v' = .tuple #[.string u, w, .bool b] ∧ FrK B Fr w ks := by
 obtain ⟨_, h⟩ := hq
 subst e
 rcases ho with ⟨e, rfl, rfl, rfl⟩ | ⟨e, rfl⟩
 ·rw [e] at h
  exact ⟨_, h, rfl, rfl, fun A _ => (ks_nil A).acc (fun k hk => by cases hk)⟩
 ·rw [e] at h
  obtain ⟨kv, h1, h2, h3, h4⟩ := h
  exact ⟨kv, h1, h2, h3, fun A hA => h4 A (fun j hj => (hA j hj).trans (hb j hj).symm)⟩
theorem hset_same {G : AH} {i : Nat} {b : Blk} (h : hget G i = some b) : G.set i (some b) = G := by
 have hl := hget_lt h
 refine List.ext_getElem? fun j => ?_
 by_cases e : i = j
 ·subst e
  rw [List.getElem?_set_self hl]
  unfold hget at h
  cases hg : G[i]? with
  | none => rw [hg] at h; cases h
  | some z => rw [hg] at h; simp at h; rw [h]
 ·rw [List.getElem?_set_ne e]
theorem ksv_blk {H : AH} {v : Value} {l : List (List Int)} (h : KsV H v l) (hl : ∀ k ∈ l, k.length = 32) {i : Nat} (hi : i < l.length) :
  ∃ j b, hget H j = some b ∧ l.length * 32 ≤ b.cells.length ∧ xindexAddr Tryd.prog 33 v (.int .i64 (i : Nat)) = some (.pointer (some ⟨j, i * 32, none⟩)) ∧ ∀ A : AH, hget A j = some b → xload Tryd.prog 28 (.pointer (some ⟨j, i * 32, none⟩)) A = some (.agg (iv .u8 (l.getD i [])).toArray) := by
 obtain ⟨z, hz⟩ : ∃ z, l[i]? = some z := ⟨_, List.getElem?_eq_getElem hi⟩
 obtain ⟨j, b, us, hv, hb, hle, hx, hus, hul, hle2, hc, hval⟩ := val_at (P := Tryd.prog) (t := 33) (e := 28) (sz := 32) h (by kernel_rfl) (by kernel_rfl) (by omega) (fun row hr => by
  obtain ⟨y, hy, rfl⟩ := List.mem_map.1 hr
  unfold kd
  rw [List.length_map]
  exact hl y hy) (i := i) (row := kd z) (by rw [List.getElem?_map, hz]; rfl)
 rw [List.length_map] at hle
 refine ⟨j, b, hb, hle, hx, fun A hA => ?_⟩
 have := load_at (P := Tryd.prog) (e := 28) (i := i) hA (by kernel_rfl) (by omega) (by kernel_rfl) hus hle2
 rw [this, hval.key]
 simp [List.getD_eq_getElem?_getD, hz]
@[reducible] def LP (H0 B : AH) (S : List Nat) (tb rb : Nat) (kv : Value) (T R : List TermD) (l : List (List Int)) (y : TermD) (s : Array Bool) (α : Fm) (G : AH) : Prop :=
 B.length ≤ G.length ∧ (∀ j, j < B.length → hget G j = hget B j) ∧ ∃ Fv : List Nat, Pl H0 (Fv ++ S) G tb rb kv T R l ∧ (s.getD 5 false = true → s.getD 7 false = false → ∃ kx, α 45 = .agg (tmRow kx y).toArray ∧ KsV G kx y.keys) ∧
  (s.getD 6 false = true → ∃ r, Fv = [r] ∧ α 8 = .pointer (some ⟨r, 0, none⟩) ∧ B.length ≤ r ∧ ((s.getD 7 false = false ∧ hget G r = some ⟨[.int .i64 0, .string ByteArray.empty, .slice none 0 0], 67, none⟩) ∨ (s.getD 7 false = true ∧ ∃ kx, hget G r = some ⟨tmRow kx y, 67, none⟩ ∧ KsV G kx y.keys)))
theorem LP.keep {H0 B : AH} {S : List Nat} {tb rb : Nat} {kv : Value} {T R : List TermD} {l : List (List Int)} {y : TermD} {s : Array Bool} {α : Fm} {G : AH} {i t : Nat} {v : Value} (hi : i ∉ [5, 6, 7]) (ht : t ∉ [45, 8]) (h : LP H0 B S tb rb kv T R l y s α G) : LP H0 B S tb rb kv T R l y (s.setIfInBounds i true) (α.put (some t) v) G := by
 simp only [List.mem_cons, List.not_mem_nil, or_false, not_or] at hi ht
 obtain ⟨h0, h1, Fv, h2, h3, h4⟩ := h
 refine ⟨h0, h1, Fv, h2, ?_, ?_⟩
 ·rw [gs_ne hi.1, gs_ne hi.2.2]
  intro a b
  obtain ⟨kx, w1, w2⟩ := h3 a b
  exact ⟨kx, by simpa [put_at, Ne.symm ht.1] using w1, w2⟩
 ·rw [gs_ne hi.2.1, gs_ne hi.2.2]
  intro a
  obtain ⟨r, w0, w1, w2⟩ := h4 a
  exact ⟨r, w0, by simpa [put_at, Ne.symm ht.2] using w1, w2⟩
def poLD : List (Option Nat) := [some 40, some 41, some 42, some 43, some 44, some 45, some 8, none]
def poLP : List (List Nat) := [[], [0], [1], [2], [], [3, 4], [], [5, 6]]
def poLV (p nb tb rb : Nat) (Y : List Int) (i : Nat) (v : Value) : Prop := match i with
 | 0 => v = .pointer (some ⟨p, 0, none⟩)
 | 1 => v = .pointer (some ⟨p, 0, none⟩)
 | 2 => v = .pointer (some ⟨p, 1, none⟩)
 | 3 => v = .pointer (some ⟨rb, 0, none⟩)
 | 4 => v = .agg (iv .u8 Y).toArray
 | _ => True
theorem poL_nd : ∀ i j t : Nat, poLD[i]? = some (some t) → poLD[j]? = some (some t) → i = j := by
 have h : ∀ i < 8, ∀ j < 8, ∀ t : Nat, poLD[i]? = some (some t) → poLD[j]? = some (some t) → i = j := by
  intro i hi j hj t h1 h2
  have h3 : poLD[i]? = poLD[j]? := h1.trans h2.symm
  have h4 : (poLD[i]?.bind id).isSome = true := by rw [h1]; rfl
  revert h3 h4
  clear h1 h2
  revert i j
  decide
 intro i j t hi hj
 exact h i (List.getElem?_eq_some_iff.1 hi).1 j (List.getElem?_eq_some_iff.1 hj).1 t hi hj
def poPD : List Nat := [73, 74, 75, 76, 77, 78, 79, 80, 72, 81, 82, 83, 10, 11, 12]
def poPP : List (List Nat) := [[], [0], [1], [2], [], [], [], [3, 4, 5, 6], [7], [8], [8], [8], [9], [10], [11]]
def poPV (lo p tb : Nat) (K1 K2 : List Int) (bs u : ByteArray) (ks : List (List Int)) (b : Bool) (G : AH) (i : Nat) (v : Value) : Prop := match i with
 | 0 => v = .pointer (some ⟨p, 0, none⟩)
 | 1 => v = .pointer (some ⟨p, 0, none⟩)
 | 2 => v = .pointer (some ⟨p, 0, none⟩)
 | 3 => v = .pointer (some ⟨tb, 0, none⟩)
 | 4 => v = .agg (iv .u8 K1).toArray
 | 5 => v = .agg (iv .u8 K2).toArray
 | 6 => v = .string bs
 | 7 => ∃ w, v = .tuple #[.string u, w, .bool b] ∧ OwnK lo G w ks
 | 8 => ∃ w, v = .tuple #[.string u, w, .bool b] ∧ OwnK lo G w ks
 | 9 => v = .string u
 | 10 => OwnK lo G v ks
 | 11 => v = .bool b
 | 12 => v = .string u
 | 13 => OwnK lo G v ks
 | 14 => v = .bool b
 | _ => True
def poRD : List Nat := [85, 86, 87, 88, 89, 90, 91, 92, 84, 93, 94, 95, 13, 14, 15]
def poRP : List (List Nat) := [[], [0], [1], [2], [], [], [], [3, 4, 5, 6], [7], [8], [8], [8], [9], [10], [11]]
def poRV (Fr : List Nat) (B : AH) (p rb : Nat) (K1 K2 : List Int) (bs u : ByteArray) (ks : List (List Int)) (b : Bool) (G : AH) (i : Nat) (v : Value) : Prop := match i with
 | 0 => v = .pointer (some ⟨p, 0, none⟩)
 | 1 => v = .pointer (some ⟨p, 0, none⟩)
 | 2 => v = .pointer (some ⟨p, 1, none⟩)
 | 3 => v = .pointer (some ⟨rb, 0, none⟩)
 | 4 => v = .agg (iv .u8 K1).toArray
 | 5 => v = .agg (iv .u8 K2).toArray
 | 6 => v = .string bs
 | 7 => ∃ w, v = .tuple #[.string u, w, .bool b] ∧ FrK B Fr w ks
 | 8 => ∃ w, v = .tuple #[.string u, w, .bool b] ∧ FrK B Fr w ks
 | 9 => v = .string u
 | 10 => FrK B Fr v ks
 | 11 => v = .bool b
 | 12 => v = .string u
 | 13 => FrK B Fr v ks
 | 14 => v = .bool b
 | _ => True
def PoQ (H0 : AH) (S : List Nat) (H : AH) (p tb rb : Nat) (T : List TermD) (l : List (List Int)) (v' : Value) (H' : AH) : Prop :=
 v' = .bool true ∧ ∃ kv' news, hget H' p = some ⟨[.pointer (some ⟨tb, 0, none⟩), .pointer (some ⟨rb, 0, none⟩), kv'], 39, none⟩ ∧ Pl H0 S H' tb rb kv' T T (l ++ news) ∧ news.length ≤ 5 ∧ (∀ z ∈ news, z.length = 32 ∧ By z) ∧ ∀ j ∈ S, j ≠ p → hget H' j = hget H j
theorem poP_st' {lo p tb : Nat} {Y Z : List Int} {bs u : ByteArray} {ks : List (List Int)} {b : Bool} : ∀ (G1 G2 : AH) (i : Nat) (v : Value), G1.length ≤ G2.length → (∀ j, j < G1.length → hget G2 j = hget G1 j) → poPV lo p tb Y Z bs u ks b G1 i v → poPV lo p tb Y Z bs u ks b G2 i v := fun G1 G2 i v h1 h2 h => by
 have up : ∀ w, OwnK lo G1 w ks → OwnK lo G2 w ks := fun w hw => hw.low (fun j _ hj => h2 j hj)
 unfold poPV at h ⊢
 split at h
 all_goals first | exact h | exact up _ h | (obtain ⟨w, w1, w2⟩ := h; exact ⟨w, w1, up _ w2⟩)
theorem poR_st' {Fr : List Nat} {B : AH} {p rb : Nat} {Y Z : List Int} {bs u : ByteArray} {ks : List (List Int)} {b : Bool} : ∀ (G1 G2 : AH) (i : Nat) (v : Value), G1.length ≤ G2.length → (∀ j, j < G1.length → hget G2 j = hget G1 j) → poRV Fr B p rb Y Z bs u ks b G1 i v → poRV Fr B p rb Y Z bs u ks b G2 i v := fun G1 G2 i v h1 h2 h => by
 unfold poRV at h ⊢
 split at h <;> exact h
theorem popen_ac {γ : Nat → Option Nat} {H0 H : AH} {S : List Nat} {p tb rb : Nat} {kv : Value} {T : List TermD} {l : List (List Int)} (h : Pl H0 S H tb rb kv T T l) (hp : hget H p = some ⟨[.pointer (some ⟨tb, 0, none⟩), .pointer (some ⟨rb, 0, none⟩), kv], 39, none⟩) (hpS : p ∈ S) (hpn : H0.length ≤ p)
  (hwf : ∀ x ∈ T, x.Wf) (hk7 : ∀ x ∈ T, x.keys.length ≤ 7) (h0l : 0 < l.length) (hlm : l.length ≤ 1000) (hkk : ∀ k ∈ l, k.length = 32 ∧ By k) {C : List Value} {x : StepD} {sv : Value} (hc : StC H0 C x sv) (hx : x.Wf) (ht3 : x.text.size ≤ 300) :
  AC Tryd.prog H0.length γ 29 #[.pointer (some ⟨p, 0, none⟩), .agg C.toArray] H (PoQ H0 S H p tb rb T l) := by
 have cl := hc.len
 have hk32 : K32 l := fun k hk => (hkk k hk).1
 have hts9 : x.text.size ≤ 9223372036854775807 := by omega
 have hkm : x.keys.length ≤ 9223372036854775807 := by have := hx.klen; simp only [maxLen] at this; omega
 have p1 : plain1 (.slice none 0 0) = true := rfl
 have r3 : List.range 3 = [0, 1, 2] := rfl
 obtain ⟨nC, hnC⟩ : ∃ nC, nC = H.length := ⟨_, rfl⟩
 obtain ⟨B, hB⟩ : ∃ B : AH, B = H ++ [some ⟨C, 31, none⟩] := ⟨_, rfl⟩
 have gC : hget B nC = some ⟨C, 31, none⟩ := by rw [hB, hnC, hget_app0]; rfl
 have hBl : B.length = nC + 1 := by rw [hB, hnC]; simp
 have lwB : Low H.length H B := by rw [hB]; exact Low.push (Nat.le_refl _) _
 have hlC := hget_lt gC
 have hnH : H0.length ≤ H.length := h.lw.2
 have lk := fun (n : Int) => hk32 _ (atK_mem h0l n)
 have bk := fun (n : Int) => (hkk _ (atK_mem h0l n)).2
 have tk := fun (n : Int) => (List.take_of_length_le (by simp [lk]) : (iv .u8 (atK l n)).take 32 = iv .u8 (atK l n))
 have sk := fun (n : Int) => (setR_all _ _ (by simp [lk]) : setR (iv .u8 (zl 32)) 0 (iv .u8 (atK l n)) = iv .u8 (atK l n))
 have skk := fun (m n : Int) => (setR_all _ _ (by simp [lk]) : setR (iv .u8 (atK l m)) 0 (iv .u8 (atK l n)) = iv .u8 (atK l n))
 refine ac_of_aw Tryd.func29 rfl Tryd.ntmps29 Tryd.results29 (by simp) ?_
 (refine aw_seq (aoo fun K hK => ?_); simp (disch := first | omega | (simp only [lnS]; try omega)) [cl]; refine hK _ _ ?_; clear hK K)
 rw [← hB, ← hnC]
 clear hB
 have hP1 : Pl H0 ([nC] ++ S) B tb rb kv T T l := h.push lwB (fun j hj => by rw [List.mem_singleton.1 hj]; omega)
 have gp1 := (lwB.1 p (hget_lt hp)).trans hp
 obtain ⟨_, _, _, _, _, lda⟩ := hc.loads hx gC
 refine aw_seq ?_
 obtain ⟨A, hA⟩ : ∃ A, A = atK l x.at_ := ⟨_, rfl⟩
 obtain ⟨D, hD⟩ : ∃ D, D = atK l (x.keys.getD 0 0) := ⟨_, rfl⟩
 have htwo := two_rc (γ := γ) gp1 (hP1.ksv hk32) hk32 h0l (by omega) (hc.lowN (fun j hj => hP1.lw.1 j hj)) hx
 rw [← hA, ← hD] at htwo
 have zA := lk x.at_
 have zD := lk (x.keys.getD 0 0)
 have tA := tk x.at_
 have tD := tk (x.keys.getD 0 0)
 have sA := sk x.at_
 have sD := sk (x.keys.getD 0 0)
 rw [← hA] at zA tA sA
 rw [← hD] at zD tD sD
 refine aoo fun K hK => ?_
 simp (disch := first | omega | (simp only [lnS]; try omega)) [-xload, lda]
 refine ⟨by kernel_rfl, ac_of_rc htwo (by simp [pv_iv, pv_int, pv_bool, pv_string, pv_tup2, pv_tup3, iv_plain, p2_int, p2_bool, p2_string]) ?_⟩
 try simp (disch := first | omega | (simp only [lnS]; try omega)) [zA, tA, sA, zD, tD, sD]
 refine hK _ _ ?_; clear hK K
 obtain ⟨nA, hnA⟩ : ∃ nA, nA = B.length := ⟨_, rfl⟩
 obtain ⟨B3, hB3⟩ : ∃ B3 : AH, B3 = B ++ [some ⟨iv .u8 A, 28, none⟩, some ⟨iv .u8 D, 28, none⟩] := ⟨_, rfl⟩
 have gA : hget B3 nA = some ⟨iv .u8 A, 28, none⟩ := by rw [hB3, hnA, hget_app0]; rfl
 have gD : hget B3 (nA + 1) = some ⟨iv .u8 D, 28, none⟩ := by rw [hB3, hnA, hget_app]; rfl
 have lwB3 : Low B.length B B3 := by rw [hB3]; exact Low.push (Nat.le_refl _) _
 have hB3l : B3.length = nA + 2 := by rw [hB3, hnA]; simp
 rw [← hB3, ← hnA]
 clear hB3
 have gp := (lwB3.1 p (hget_lt gp1)).trans gp1
 have gC := (lwB3.1 nC hlC).trans gC
 have hP3 : Pl H0 ([nA, nA + 1] ++ ([nC] ++ S)) B3 tb rb kv T T l := hP1.push lwB3 (fun j hj => by
   simp only [List.mem_cons, List.not_mem_nil, or_false] at hj
   omega)
 obtain ⟨S3, hS3⟩ : ∃ S3 : List Nat, S3 = [nA, nA + 1] ++ ([nC] ++ S) := ⟨_, rfl⟩
 rw [← hS3] at hP3
 have hS3k : ∀ j ∈ S, j ∈ S3 ∧ hget B3 j = hget H j := fun j hj => ⟨by rw [hS3]; simp [hj], (lwB3.1 j (by have := h.sl hj; omega)).trans (lwB.1 j (h.sl hj))⟩
 have i1 : p ∈ S3 := (hS3k p hpS).1
 have i2 : nC ∈ S3 := by rw [hS3]; simp
 have i3 : nA ∈ S3 := by rw [hS3]; simp
 have i4 : nA + 1 ∈ S3 := by rw [hS3]; simp
 have hpA : p < nA := by have := hget_lt hp; omega
 clear hP1 gp1 htwo lda lwB3 hS3
 have hat : ∀ (n : Int) (G : AH), Low B3.length B3 G → AC Tryd.prog G.length γ 10 #[.pointer (some ⟨p, 0, none⟩), .int .i64 n] G (fun v' _ => v' = .agg (iv .u8 (atK l n)).toArray) := fun n G lw => at_rc ((lw.1 p (hget_lt gp)).trans gp) ((hP3.low lw).ksv hk32) hk32 h0l (by omega) n
 have hxlk := val_len (P := Tryd.prog) (t := 33) (e := 28) (hP3.ksv hk32) (by kernel_rfl)
 rw [List.length_map] at hxlk
 obtain ⟨knt, kcs⟩ := hP3.knt
 obtain ⟨ldp0, ldp1, ldp2⟩ := play_loads gp
 have w1 : IntKind.i64.wrap ((l.length : Int) - 1) = (l.length : Int) - 1 := wi64 ⟨by omega, by omega⟩
 refine aw_seq (aoo fun K hK => ?_)
 simp (disch := first | omega | (simp only [lnS]; try omega)) [-xload, ldp2, -notTuple, knt, -xlen, hxlk, w1]
 refine ⟨by kernel_rfl, ac_of_rc (hat _ _ (Low.refl (Nat.le_refl _))) (by simp [pv_iv, pv_int, pv_bool, pv_string, pv_tup2, pv_tup3, iv_plain, p2_int, p2_bool, p2_string]) ?_⟩
 try simp (disch := first | omega | (simp only [lnS]; try omega)) [lk, tk, sk]
 refine hK _ _ ?_; clear hK K
 obtain ⟨nb, hnb⟩ : ∃ nb, nb = B3.length := ⟨_, rfl⟩
 obtain ⟨hnt, hvc, hxl, hat2⟩ := hc.kv.acc
 refine aw_seq ?_
 refine aw_cut (fun α G => α 0 = .pointer (some ⟨p, 0, none⟩) ∧ α 3 = .pointer (some ⟨nC, 0, none⟩) ∧ α 5 = .pointer (some ⟨nA, 0, none⟩) ∧ α 6 = .pointer (some ⟨nA + 1, 0, none⟩) ∧ α 7 = .pointer (some ⟨nb, 0, none⟩) ∧ ∃ n, G = B3 ++ [some ⟨iv .u8 (atK l n), 28, none⟩]) ?_ ?_
 ·refine aw_seq ?_
  obtain ⟨m, hm⟩ : ∃ m : Int, m = (l.length : Int) - 1 := ⟨_, rfl⟩
  rw [← hm]
  have lwB4 : Low B3.length B3 (B3 ++ [some ⟨iv .u8 (atK l m), 28, none⟩]) := Low.push (Nat.le_refl _) _
  have gC4 := (lwB4.1 nC (hget_lt gC)).trans gC
  obtain ⟨_, _, _, _, ld35, _⟩ := hc.loads hx gC4
  by_cases hke : 1 < x.keys.length
  ·obtain ⟨q, y, q1, q2, q3, rfl, q4⟩ := hat2 1 (by omega)
   have q2 : xindexAddr Tryd.prog 29 sv (.int .i64 1) = some q := q2
   have q5 := q4 _ (show Low H0.length H0 (B3 ++ [some ⟨iv .u8 (atK l m), 28, none⟩]) from ⟨fun j hj => (hget_left (by have := hP3.lw.2; omega)).trans (hP3.lw.1 j hj), by have := hP3.lw.2; simp; omega⟩)
   have hpos : (1 : Int) < x.keys.length := by omega
   have hat3 := hat (x.keys.getD 1 0) _ lwB4
   have sAA := skk m (x.keys.getD 1 0)
   generalize x.keys.getD 1 0 = z at *
   have hnb0 : H0.length ≤ B3.length := hP3.lw.2
   (refine aoo fun K hK => ?_; simp (disch := first | omega | (simp only [lnS]; try omega)) [-xload, ld35, -notTuple, hnt, -xlen, hxl, hpos, hke]; refine hK _ _ ?_; clear hK K)
   refine aw_t (by (first | (simp; done) | (simp; omega))) (by kernel_rfl) ?_
   refine aoo fun K hK => ?_
   simp (disch := first | omega | (simp only [lnS]; try omega)) [-xload, ld35, q5, -notTuple, hnt, q1, q3, -xindexAddr, q2]
   refine ⟨by kernel_rfl, ac_of_rc hat3 (by simp [pv_iv, pv_int, pv_bool, pv_string, pv_tup2, pv_tup3, iv_plain, p2_int, p2_bool, p2_string]) ?_⟩
   try simp (disch := first | omega | (simp only [lnS]; try omega)) [lk, tk, sAA, hnb0]
   refine hK _ _ ?_; clear hK K
   exact ⟨by (first | (simp; done) | rfl), by (first | (simp; done) | rfl), by (first | (simp; done) | rfl), by (first | (simp; done) | rfl), by (first | (simp [hnb]; done) | rfl), z, rfl⟩
  ·have hpos : ¬ (1 : Int) < x.keys.length := by omega
   (refine aoo fun K hK => ?_; simp (disch := first | omega | (simp only [lnS]; try omega)) [-xload, ld35, -notTuple, hnt, -xlen, hxl, hpos, hke]; refine hK _ _ ?_; clear hK K)
   refine aw_f (by (first | (simp; done) | (simp; omega))) (by kernel_rfl) ?_
   refine aw_skip ?_
   exact ⟨by (first | (simp; done) | rfl), by (first | (simp; done) | rfl), by (first | (simp; done) | rfl), by (first | (simp; done) | rfl), by (first | (simp [hnb]; done) | rfl), m, rfl⟩
 rintro α G5 ⟨a0, a3, a5, a6, a7, mb, hG5⟩
 obtain ⟨Y, hYd⟩ : ∃ Y, Y = atK l mb := ⟨_, rfl⟩
 have hY : Y.length = 32 := by rw [hYd]; exact lk mb
 have bY : By Y := by rw [hYd]; exact bk mb
 rw [← hYd] at hG5
 clear hYd
 have gY : hget G5 nb = some ⟨iv .u8 Y, 28, none⟩ := by rw [hG5, hnb, hget_app0]; rfl
 have lw5 : Low B3.length B3 G5 := by rw [hG5]; exact Low.push (Nat.le_refl _) _
 have hG5l : G5.length = nb + 1 := by rw [hG5, hnb]; simp
 clear hG5
 obtain ⟨S5, hS5⟩ : ∃ S5 : List Nat, S5 = [nb] ++ S3 := ⟨_, rfl⟩
 have hP5 : Pl H0 S5 G5 tb rb kv T T l := by
  rw [hS5]
  exact hP3.push lw5 (fun j hj => by rw [List.mem_singleton.1 hj]; omega)
 have hS5k : ∀ j ∈ S3, j ∈ S5 ∧ hget G5 j = hget B3 j := fun j hj => ⟨by rw [hS5]; simp [hj], lw5.1 j (hP3.sl hj)⟩
 have gp := (hS5k p i1).2.trans gp
 have gC := (hS5k nC i2).2.trans gC
 have gA := (hS5k nA i3).2.trans gA
 have gD := (hS5k _ i4).2.trans gD
 have i1 := (hS5k p i1).1
 have i2 := (hS5k nC i2).1
 have i3 := (hS5k nA i3).1
 have i4 := (hS5k _ i4).1
 have i5 : nb ∈ S5 := by rw [hS5]; simp
 have hSk : ∀ j ∈ S, j ∈ S5 ∧ hget G5 j = hget H j ∧ j < nA := fun j hj => ⟨(hS5k j (hS3k j hj).1).1, (hS5k j (hS3k j hj).1).2.trans (hS3k j hj).2, by have := h.sl hj; omega⟩
 clear hS5 hS5k hS3k hat knt kcs ldp0 ldp1 ldp2 w1 lw5 hP3 hat2
 obtain ⟨y, hy⟩ : ∃ y, y = lookT T Y := ⟨_, rfl⟩
 have hyk : K32 y.keys ∧ ∀ z ∈ y.keys, z.length = 32 := by
  have : ∀ z ∈ y.keys, z.length = 32 := fun z hz => by
   by_cases e : y.kind = 0
   ·rw [hy] at e hz
    unfold lookT at e hz
    cases hf : findT T Y with
    | some x0 =>
     rw [hf] at e hz
     have hm : x0 ∈ T := by
      unfold findT at hf
      split at hf
      ·exact List.mem_of_getElem? hf
      ·cases hf
     exact (hwf x0 hm).k32 z hz
    | none =>
     rw [hf] at hz
     rw [List.mem_singleton.1 hz]; exact hY
   ·rw [hy] at e hz
    exact (hwf _ (look_mem e)).k32 z hz
  exact ⟨this, this⟩
 have hyk := hyk.1
 refine aw_seq ?_
 refine name_aw (fun β hβ => ?_)
 have e0 : β 0 = .pointer (some ⟨p, 0, none⟩) := by rw [hβ, a0]
 have e3 : β 3 = .pointer (some ⟨nC, 0, none⟩) := by rw [hβ, a3]
 have e5 : β 5 = .pointer (some ⟨nA, 0, none⟩) := by rw [hβ, a5]
 have e6 : β 6 = .pointer (some ⟨nA + 1, 0, none⟩) := by rw [hβ, a6]
 have e7 : β 7 = .pointer (some ⟨nb, 0, none⟩) := by rw [hβ, a7]
 clear hβ a0 a3 a5 a6 a7
 obtain ⟨B, hBB⟩ : ∃ B, B = G5 := ⟨_, rfl⟩
 rw [← hBB] at gY gp gC gA gD hP5 hSk hG5l ⊢
 clear hBB
 have hnB : H0.length ≤ B.length := hP5.lw.2
 refine aw_inv poLP (JT poLD (poLV p nb tb rb Y) β (LP H0 B S5 tb rb kv T T l y)) (by kernel_rfl) (by kernel_rfl) (by kernel_rfl) ?_ ?_ ?_
 ·exact ⟨by simp; rfl, fun _ _ => rfl, fun i t' hi h => (by rw [gs_0] at h; cases h), Nat.le_refl _, fun _ _ => rfl, [], hP5, fun h => (by rw [gs_0] at h; cases h), fun h => (by rw [gs_0] at h; cases h)⟩
 ·intro i s α G k hJ hi0 hsi hd hcc hcont
  obtain ⟨hBG, jk, Fv, jp, jc, ja⟩ := hJ.hp
  have hnG : H0.length ≤ G.length := jp.lw.2
  have j0 := (hJ.lo 0 (by decide)).trans e0
  have j7 := (hJ.lo 7 (by decide)).trans e7
  have gp := (jk p (hget_lt gp)).trans gp
  have gY := (jk nb (hget_lt gY)).trans gY
  obtain ⟨_, ldr, _⟩ := play_loads gp
  have ldY := key_load hY gY
  have hi : i = 0 ∨ i = 1 ∨ i = 2 ∨ i = 3 ∨ i = 4 ∨ i = 5 ∨ i = 6 ∨ i = 7 := by have hi0 : i < 8 := hi0; omega
  rcases hi with rfl | rfl | rfl | rfl | rfl | rfl | rfl | rfl
  ·simp (disch := first | omega | (simp only [lnS]; try omega)) [-notTuple, j0]
   exact hcont _ _ (hJ.put poL_nd (t := 40) rfl rfl (hJ.hp.keep (by decide) (by decide)))
  ·have f0 : α 40 = .pointer (some ⟨p, 0, none⟩) := hJ.val 0 40 rfl (hd 0 (by decide))
   simp (disch := first | omega | (simp only [lnS]; try omega)) [-notTuple, f0]
   exact hcont _ _ (hJ.put poL_nd (t := 41) rfl rfl (hJ.hp.keep (by decide) (by decide)))
  ·have f1 : α 41 = .pointer (some ⟨p, 0, none⟩) := hJ.val 1 41 rfl (hd 1 (by decide))
   simp (disch := first | omega | (simp only [lnS]; try omega)) [-notTuple, f1]
   exact hcont _ _ (hJ.put poL_nd (t := 42) rfl rfl (hJ.hp.keep (by decide) (by decide)))
  ·have f2 : α 42 = .pointer (some ⟨p, 1, none⟩) := hJ.val 2 42 rfl (hd 2 (by decide))
   simp (disch := first | omega | (simp only [lnS]; try omega)) [-notTuple, -xload, ldr, f2]
   exact hcont _ _ (hJ.put poL_nd (t := 43) rfl rfl (hJ.hp.keep (by decide) (by decide)))
  ·simp (disch := first | omega | (simp only [lnS]; try omega)) [-notTuple, j7, -xload, ldY]
   exact hcont _ _ (hJ.put poL_nd (t := 44) rfl rfl (hJ.hp.keep (by decide) (by decide)))
  ·have f3 : α 43 = .pointer (some ⟨rb, 0, none⟩) := hJ.val 3 43 rfl (hd 3 (by decide))
   have f4 : α 44 = .agg (iv .u8 Y).toArray := hJ.val 4 44 rfl (hd 4 (by decide))
   simp (disch := first | omega | (simp only [lnS]; try omega)) [f3, f4]
   refine ⟨by kernel_rfl, AC.mono (pl_rlook jp hY bY) ?_⟩
   rintro v' G' ⟨lwq, kx, rfl, hkx⟩
   rw [← hy] at hkx ⊢
   exact hcont _ _ (hJ.put poL_nd (t := 45) rfl trivial ⟨by have := lwq.2; omega, fun j hj => (lwq.1 j (by have := hBG; omega)).trans (jk j hj), Fv, jp.low lwq, fun _ _ => ⟨kx, by (first | (simp; done) | rfl), hkx⟩, fun h => by
    rw [gs_ne (by decide)] at h
    obtain ⟨r, w1, w2, w3, w4⟩ := ja h
    refine ⟨r, w1, by (first | (simp [w2]; done) | rfl), w3, ?_⟩
    rw [gs_ne (by decide)]
    rcases w4 with ⟨w5, w6⟩ | ⟨w5, kx, w6, w7⟩
    ·exact .inl ⟨w5, (lwq.1 _ (hget_lt w6)).trans w6⟩
    ·exact absurd w5 (by rw [hcc 7 (by decide)]; simp)⟩)
  ·simp (disch := first | omega | (simp only [lnS]; try omega)) [p1, hnG]
   exact hcont _ _ (hJ.put poL_nd (t := 8) rfl trivial ⟨by simp; omega, fun j hj => (hget_left (by omega)).trans (jk j hj), [G.length], (jp.less (S2 := S5) (fun j hj => by simp [hj])).push (Low.push (Nat.le_refl _) _) (fun j hj => by rw [List.mem_singleton.1 hj]; simp), fun h h2 => by
    rw [gs_ne (by decide)] at h h2
    obtain ⟨kx, w1, w2⟩ := jc h h2
    exact ⟨kx, by (first | (simp [w1]; done) | rfl), CD.Val.low (fun j hj => hget_left hj) w2⟩, fun _ => ⟨G.length, rfl, by (first | (simp; done) | rfl), hBG, .inl ⟨by rw [gs_ne (by decide)]; exact hcc 7 (by decide), by rw [hget_app0]; rfl⟩⟩⟩)
  ·obtain ⟨r, w1, w2, w3, w4⟩ := ja (hd 6 (by decide))
   obtain ⟨kx, w8, w9⟩ := jc (hd 5 (by decide)) hsi
   rcases w4 with ⟨w5, w6⟩ | ⟨w5, _⟩
   case inr => rw [hsi] at w5; cases w5
   have wl := hget_lt w6
   have wn : H0.length ≤ r := by omega
   obtain ⟨wnt, wvc⟩ := val_nt w9
   unfold XOm
   simp only [List.getElem?_cons_succ, List.getElem?_cons_zero]
   unfold tmRow at w8
   simp (disch := first | omega | (simp only [lnS]; try omega)) [w8, w2, w6, wl, wn, -notTuple, wnt, wvc, p1, r3]
   exact hcont _ _ (hJ.put0 rfl ⟨by simp; omega, fun j hj => (hget_set_ne (by omega)).trans (jk j hj), Fv, jp.set (by rw [w1]; simp) wn _, fun h h2 => (by rw [gs_eq (by rw [hJ.sz]; decide)] at h2; cases h2), fun _ => ⟨r, w1, w2, w3, .inr ⟨gs_eq (by rw [hJ.sz]; decide), kx, hget_set_eq wl, ksv_set w6 rfl hyk w9⟩⟩⟩)
 rintro s α G hJ hall
 have hsz : s.size = 8 := hJ.sz
 have hg : ∀ i, i < 8 → s.getD i false = true := fun i hi => by
  rw [Array.getD_eq_getD_getElem?, Array.getElem?_eq_getElem (by omega)]
  exact Array.all_eq_true.1 hall i (by omega)
 obtain ⟨hBG, jk, Fv, jp, _, ja⟩ := hJ.hp
 obtain ⟨r, hFv, a8, hBr, hcase⟩ := ja (hg 6 (by omega))
 obtain ⟨kx, gx, hkx⟩ : ∃ kx, hget G r = some ⟨tmRow kx y, 67, none⟩ ∧ KsV G kx y.keys := by
  rcases hcase with ⟨e, _⟩ | ⟨_, e⟩
  ·rw [hg 7 (by omega)] at e; cases e
  ·exact e
 have a0 := (hJ.lo 0 (by decide)).trans e0
 have a3 := (hJ.lo 3 (by decide)).trans e3
 have a5 := (hJ.lo 5 (by decide)).trans e5
 have a6 := (hJ.lo 6 (by decide)).trans e6
 have a7 := (hJ.lo 7 (by decide)).trans e7
 have hP6 : Pl H0 S5 G tb rb kv T T l := jp.less (fun j hj => by simp [hj])
 have gp := (jk _ (hget_lt gp)).trans gp
 have gC := (jk _ (hget_lt gC)).trans gC
 have gA := (jk _ (hget_lt gA)).trans gA
 have gD := (jk _ (hget_lt gD)).trans gD
 have gY := (jk _ (hget_lt gY)).trans gY
 have hSk : ∀ j ∈ S, j ∈ S5 ∧ hget G j = hget H j ∧ j < nA := fun j hj => ⟨(hSk j hj).1, (jk j (hP5.sl (hSk j hj).1)).trans (hSk j hj).2.1, (hSk j hj).2.2⟩
 clear hall hsz hg hJ e0 e3 e5 e6 e7 jp ja hcase jk hP5
 unfold tmRow at gx
 obtain ⟨ynt, yvc⟩ := val_nt hkx
 obtain ⟨_, _, ldt, _, ld35, _⟩ := hc.loads hx gC
 have ldk : xload Tryd.prog 33 (.pointer (some ⟨r, 2, none⟩)) G = some kx := by simp [xload, gx]
 have hyx := (hkx.acc hyk).len
 have hym : y.keys.length ≤ 1000000 := by
  by_cases e : y.kind = 0
  ·rw [hy] at e ⊢
   unfold lookT at e ⊢
   cases hf : findT T Y with
   | some x0 =>
    have hm : x0 ∈ T := by
     unfold findT at hf
     split at hf
     ·exact List.mem_of_getElem? hf
     ·cases hf
    exact (hwf x0 hm).many
   | none => exact (by omega : 1 ≤ 1000000)
  ·rw [hy] at e ⊢
   exact (hwf _ (look_mem e)).many
 refine aw_seq ?_
 refine aw_cut (fun α G' => α 0 = .pointer (some ⟨p, 0, none⟩) ∧ α 3 = .pointer (some ⟨nC, 0, none⟩) ∧ α 5 = .pointer (some ⟨nA, 0, none⟩) ∧ α 6 = .pointer (some ⟨nA + 1, 0, none⟩) ∧ α 7 = .pointer (some ⟨nb, 0, none⟩) ∧ ∃ K1 K2, K1.length = 32 ∧ K2.length = 32 ∧ G' = (G.set nA (some ⟨iv .u8 K1, 28, none⟩)).set (nA + 1) (some ⟨iv .u8 K2, 28, none⟩)) ?_ ?_
 ·have hset : (G.set nA (some ⟨iv .u8 A, 28, none⟩)).set (nA + 1) (some ⟨iv .u8 D, 28, none⟩) = G := by
   rw [hset_same gA, hset_same gD]
  refine aw_seq ?_
  by_cases hk2 : 2 < x.keys.length
  ·have hk2' : (2 : Int) < x.keys.length := by omega
   by_cases hy1 : 1 < y.keys.length
   ·have hy1' : (1 : Int) < y.keys.length := by omega
    (refine aoo fun K hK => ?_; simp (disch := first | omega | (simp only [lnS]; try omega)) [a3, a8, -xload, ld35, ldk, -notTuple, hnt, ynt, -xlen, hxl, hyx, hk2, hk2', hy1, hy1']; refine hK _ _ ?_; clear hK K)
    refine aw_t (by (first | (simp; done) | (simp; omega))) (by kernel_rfl) ?_
    obtain ⟨j0, b0, t1, t4, t2, t5⟩ := ksv_blk hkx hyk (i := 0) (by omega)
    obtain ⟨j1, b1, u1, u4, u2, u5⟩ := ksv_blk hkx hyk (i := 1) hy1
    have t2 : xindexAddr Tryd.prog 33 kx (.int .i64 0) = some (.pointer (some ⟨j0, 0 * 32, none⟩)) := t2
    have u2 : xindexAddr Tryd.prog 33 kx (.int .i64 1) = some (.pointer (some ⟨j1, 1 * 32, none⟩)) := u2
    have hj1 : j1 ≠ nA := fun e => by
     rw [e, gA] at u1
     cases u1
     simp [zA] at u4
     omega
    have hl0 : (y.keys.getD 0 []).length = 32 := by
     rw [List.getD_eq_getElem?_getD, List.getElem?_eq_getElem (by omega)]
     exact hyk _ (List.getElem_mem _)
    have hl1 : (y.keys.getD 1 []).length = 32 := by
     rw [List.getD_eq_getElem?_getD, List.getElem?_eq_getElem (by omega)]
     exact hyk _ (List.getElem_mem _)
    have t6 := t5 G t1
    obtain ⟨K1, hK1⟩ : ∃ K1, K1 = y.keys.getD 0 [] := ⟨_, rfl⟩
    rw [← hK1] at hl0 t6
    have hsA1 : setR (iv .u8 A) 0 (iv .u8 K1) = iv .u8 K1 := setR_all _ _ (by simp [hl0, zA])
    have hla := hget_lt gA
    have hnA0 : H0.length ≤ nA := by have := hP6.lw.2; omega
    have tK1 : (iv .u8 K1).take 32 = iv .u8 K1 := List.take_of_length_le (by simp [hl0])
    refine aw_seq (aoo fun K hK => ?_)
    simp (disch := first | omega | (simp only [lnS]; try omega)) [a5, a8, -xload, ldk, t6, -notTuple, ynt, -xindexAddr, t2, gA, hla, hnA0, hsA1, hl0, tK1]
    refine hK _ _ ?_; clear hK K
    obtain ⟨G7, hG7⟩ : ∃ G7 : AH, G7 = G.set nA (some ⟨iv .u8 K1, 28, none⟩) := ⟨_, rfl⟩
    have hrA : r ≠ nA := by have := hget_lt gA; have := hP6.sl i3; omega
    have g7x : hget G7 r = some ⟨[.int .i64 (y.kind : Nat), .string y.text, kx], 67, none⟩ := by rw [hG7, hget_set_ne (Ne.symm hrA)]; exact gx
    have ldk7 : xload Tryd.prog 33 (.pointer (some ⟨r, 2, none⟩)) G7 = some kx := by simp [xload, g7x]
    have g7D : hget G7 (nA + 1) = some ⟨iv .u8 D, 28, none⟩ := by rw [hG7, hget_set_ne (by omega)]; exact gD
    have u6 := u5 G7 (by rw [hG7, hget_set_ne (Ne.symm hj1)]; exact u1)
    obtain ⟨K2, hK2⟩ : ∃ K2, K2 = y.keys.getD 1 [] := ⟨_, rfl⟩
    rw [← hK2] at hl1 u6
    have hsD2 : setR (iv .u8 D) 0 (iv .u8 K2) = iv .u8 K2 := setR_all _ _ (by simp [hl1, zD])
    have tK2 : (iv .u8 K2).take 32 = iv .u8 K2 := List.take_of_length_le (by simp [hl1])
    have hlD := hget_lt g7D
    have hnA1 : H0.length ≤ nA + 1 := by omega
    rw [← hG7]
    refine aoo fun K hK => ?_
    simp (disch := first | omega | (simp only [lnS]; try omega)) [a6, a8, -xload, ldk7, u6, -notTuple, ynt, -xindexAddr, u2, g7D, hlD, hnA1, hsD2, hl1, tK2]
    refine hK _ _ ?_; clear hK K
    exact ⟨by (first | (simp [a0]; done) | rfl), by (first | (simp [a3]; done) | rfl), by (first | (simp [a5]; done) | rfl), by (first | (simp [a6]; done) | rfl), by (first | (simp [a7]; done) | rfl), K1, K2, hl0, hl1, by rw [hG7]⟩
   ·have hy1' : ¬ (1 : Int) < y.keys.length := by omega
    (refine aoo fun K hK => ?_; simp (disch := first | omega | (simp only [lnS]; try omega)) [a3, a8, -xload, ld35, ldk, -notTuple, hnt, ynt, -xlen, hxl, hyx, hk2, hk2', hy1, hy1']; refine hK _ _ ?_; clear hK K)
    refine aw_f (by (first | (simp; done) | (simp; omega))) (by kernel_rfl) ?_
    refine aw_skip ?_
    exact ⟨by (first | (simp [a0]; done) | rfl), by (first | (simp [a3]; done) | rfl), by (first | (simp [a5]; done) | rfl), by (first | (simp [a6]; done) | rfl), by (first | (simp [a7]; done) | rfl), A, D, zA, zD, hset.symm⟩
  ·have hk2' : ¬ (2 : Int) < x.keys.length := by omega
   (refine aoo fun K hK => ?_; simp (disch := first | omega | (simp only [lnS]; try omega)) [a3, a8, -xload, ld35, ldk, -notTuple, hnt, ynt, -xlen, hxl, hyx, hk2, hk2']; refine hK _ _ ?_; clear hK K)
   refine aw_f (by (first | (simp; done) | (simp; omega))) (by kernel_rfl) ?_
   refine aw_skip ?_
   exact ⟨by (first | (simp [a0]; done) | rfl), by (first | (simp [a3]; done) | rfl), by (first | (simp [a5]; done) | rfl), by (first | (simp [a6]; done) | rfl), by (first | (simp [a7]; done) | rfl), A, D, zA, zD, hset.symm⟩
 clear hkx ldk ynt yvc hyx hym ldt ld35 gx hyk a0 a3 a5 a6 a7 a8
 rintro α G7 ⟨a0, a3, a5, a6, a7, K1, K2, hK1, hK2, hG7⟩
 have hnA0 : H0.length ≤ nA := by omega
 have hP7 : Pl H0 S5 G7 tb rb kv T T l := by
  rw [hG7]
  exact (hP6.set i3 hnA0 _).set i4 (by omega) _
 have s7 : ∀ j, j ≠ nA → j ≠ nA + 1 → hget G7 j = hget G j := fun j h1 h2 => by rw [hG7, hget_set_ne (Ne.symm h2), hget_set_ne (Ne.symm h1)]
 have gK1 : hget G7 nA = some ⟨iv .u8 K1, 28, none⟩ := by rw [hG7, hget_set_ne (by omega), hget_set_eq (hget_lt gA)]
 have gK2 : hget G7 (nA + 1) = some ⟨iv .u8 K2, 28, none⟩ := by rw [hG7, hget_set_eq (by rw [List.length_set]; exact hget_lt gD)]
 have hlC : nC < nA := by omega
 have gp := (s7 p (by omega) (by omega)).trans gp
 have gC := (s7 nC (by omega) (by omega)).trans gC
 have gY := (s7 nb (by omega) (by omega)).trans gY
 have hSk : ∀ j ∈ S, j ∈ S5 ∧ hget G7 j = hget H j := fun j hj => ⟨(hSk j hj).1, (s7 j (by have := (hSk j hj).2.2; omega) (by have := (hSk j hj).2.2; omega)).trans (hSk j hj).2.1⟩
 clear hG7 hP6 gA gD s7
 obtain ⟨_, _, ldt, _, ld35, _⟩ := hc.loads hx gC
 have lY := hget_lt gY
 have tY : (iv .u8 Y).take 32 = iv .u8 Y := List.take_of_length_le (by simp [hY])
 have hblY := byteList_iv Y
 (refine aw_seq (aoo fun K hK => ?_); simp (disch := first | omega | (simp only [lnS]; try omega)) [a7, gY, lY, hY, tY, hblY]; refine hK _ _ ?_; clear hK K)
 refine aw_seq ?_
 refine aw_cut (fun α G' => α 0 = .pointer (some ⟨p, 0, none⟩) ∧ α 5 = .pointer (some ⟨nA, 0, none⟩) ∧ α 6 = .pointer (some ⟨nA + 1, 0, none⟩) ∧ (∃ bs : ByteArray, bs.size ≤ 10000000 ∧ α 9 = .string bs) ∧ G' = G7) ?_ ?_
 ·refine aw_seq ?_
  by_cases hk4 : 4 < x.keys.length
  ·have hk4' : (4 : Int) < x.keys.length := by omega
   (refine aoo fun K hK => ?_; simp (disch := first | omega | (simp only [lnS]; try omega)) [a3, -xload, ld35, -notTuple, hnt, -xlen, hxl, hk4, hk4']; refine hK _ _ ?_; clear hK K)
   refine aw_t (by (first | (simp; done) | (simp; omega))) (by kernel_rfl) ?_
   (refine aoo fun K hK => ?_; simp (disch := first | omega | (simp only [lnS]; try omega)) [a3, -xload, ldt, -notTuple]; refine hK _ _ ?_; clear hK K)
   exact ⟨by (first | (simp [a0]; done) | rfl), by (first | (simp [a5]; done) | rfl), by (first | (simp [a6]; done) | rfl), ⟨x.text, by omega, by (first | (simp; done) | rfl)⟩, rfl⟩
  ·have hk4' : ¬ (4 : Int) < x.keys.length := by omega
   (refine aoo fun K hK => ?_; simp (disch := first | omega | (simp only [lnS]; try omega)) [a3, -xload, ld35, -notTuple, hnt, -xlen, hxl, hk4, hk4']; refine hK _ _ ?_; clear hK K)
   refine aw_f (by (first | (simp; done) | (simp; omega))) (by kernel_rfl) ?_
   refine aw_skip ?_
   exact ⟨by (first | (simp [a0]; done) | rfl), by (first | (simp [a5]; done) | rfl), by (first | (simp [a6]; done) | rfl), ⟨strOfNums Y, by rw [sn_size, hY]; omega, by (first | (simp; done) | rfl)⟩, rfl⟩
 rintro α G' ⟨a0, a5, a6, ⟨bs, hbs, a9⟩, rfl⟩
 obtain ⟨B7, hBB⟩ : ∃ B7, B7 = G' := ⟨_, rfl⟩
 rw [← hBB] at hP7 gK1 gK2 gp gC gY hSk ⊢
 clear hBB ldt ld35 gC gY lY
 obtain ⟨u, ks, b, ho⟩ := opR_ex T K1 K2 bs
 obtain ⟨hks5, hksk⟩ := opR_ok ho hwf hk7
 have hks32 : K32 ks := fun z hz => (hksk z hz).1
 obtain ⟨F, Ft, Fs, Fr, Fk, tv, sv2, L, w⟩ := hP7
 have hP : Pl H0 S5 B7 tb rb kv T T l := ⟨F, Ft, Fs, Fr, Fk, tv, sv2, L, w⟩
 have hbb := w.b.bound
 have hFk := w.k.lt
 refine aw_seq ?_
 refine name_aw (fun β hβ => ?_)
 have e0 : β 0 = .pointer (some ⟨p, 0, none⟩) := by rw [hβ, a0]
 have e5 : β 5 = .pointer (some ⟨nA, 0, none⟩) := by rw [hβ, a5]
 have e6 : β 6 = .pointer (some ⟨nA + 1, 0, none⟩) := by rw [hβ, a6]
 have e9 : β 9 = .string bs := by rw [hβ, a9]
 clear hβ a0 a5 a6 a9
 have poP_nd : poPD.Nodup := by decide
 have poP_st := @poP_st' B7.length p tb K1 K2 bs u ks b
 refine aw_inv poPP (IJ poPD (poPV B7.length p tb K1 K2 bs u ks b) β B7) (by kernel_rfl) (by kernel_rfl) (by kernel_rfl) (IJ.start rfl) ?_ ?_
 ·intro i s α G k hJ hi0 hsi hd hcc hcont
  have lwG : Low B7.length B7 G := ⟨hJ.lw.2, hJ.lw.1⟩
  have j0 := (hJ.lo 0 (by decide)).trans e0
  have j5 := (hJ.lo 5 (by decide)).trans e5
  have j6 := (hJ.lo 6 (by decide)).trans e6
  have j9 := (hJ.lo 9 (by decide)).trans e9
  obtain ⟨ldt, _, _⟩ := play_loads ((lwG.1 _ (hget_lt gp)).trans gp)
  have ldY := key_load hK1 ((lwG.1 _ (hget_lt gK1)).trans gK1)
  have ldZ := key_load hK2 ((lwG.1 _ (hget_lt gK2)).trans gK2)
  have hi : i = 0 ∨ i = 1 ∨ i = 2 ∨ i = 3 ∨ i = 4 ∨ i = 5 ∨ i = 6 ∨ i = 7 ∨ i = 8 ∨ i = 9 ∨ i = 10 ∨ i = 11 ∨ i = 12 ∨ i = 13 ∨ i = 14 := by have hi0 : i < 15 := hi0; omega
  rcases hi with rfl | rfl | rfl | rfl | rfl | rfl | rfl | rfl | rfl | rfl | rfl | rfl | rfl | rfl | rfl
  ·simp (disch := first | omega | (simp only [lnS]; try omega)) [-notTuple, j0]
   exact hcont _ _ (hJ.put poP_nd poP_st rfl (Nat.le_refl _) (fun _ _ => rfl) rfl)
  ·have f0 : α 73 = .pointer (some ⟨p, 0, none⟩) := hJ.val 0 73 rfl (hd 0 (by decide))
   simp (disch := first | omega | (simp only [lnS]; try omega)) [-notTuple, f0]
   exact hcont _ _ (hJ.put poP_nd poP_st rfl (Nat.le_refl _) (fun _ _ => rfl) rfl)
  ·have f1 : α 74 = .pointer (some ⟨p, 0, none⟩) := hJ.val 1 74 rfl (hd 1 (by decide))
   simp (disch := first | omega | (simp only [lnS]; try omega)) [-notTuple, f1]
   exact hcont _ _ (hJ.put poP_nd poP_st rfl (Nat.le_refl _) (fun _ _ => rfl) rfl)
  ·have f2 : α 75 = .pointer (some ⟨p, 0, none⟩) := hJ.val 2 75 rfl (hd 2 (by decide))
   simp (disch := first | omega | (simp only [lnS]; try omega)) [-notTuple, -xload, ldt, f2]
   exact hcont _ _ (hJ.put poP_nd poP_st rfl (Nat.le_refl _) (fun _ _ => rfl) rfl)
  ·simp (disch := first | omega | (simp only [lnS]; try omega)) [-notTuple, j5, -xload, ldY]
   exact hcont _ _ (hJ.put poP_nd poP_st rfl (Nat.le_refl _) (fun _ _ => rfl) rfl)
  ·simp (disch := first | omega | (simp only [lnS]; try omega)) [-notTuple, j6, -xload, ldZ]
   exact hcont _ _ (hJ.put poP_nd poP_st rfl (Nat.le_refl _) (fun _ _ => rfl) rfl)
  ·simp (disch := first | omega | (simp only [lnS]; try omega)) [-notTuple, j9]
   exact hcont _ _ (hJ.put poP_nd poP_st rfl (Nat.le_refl _) (fun _ _ => rfl) rfl)
  ·have f3 : α 76 = .pointer (some ⟨tb, 0, none⟩) := hJ.val 3 76 rfl (hd 3 (by decide))
   have f4 : α 77 = .agg (iv .u8 K1).toArray := hJ.val 4 77 rfl (hd 4 (by decide))
   have f5 : α 78 = .agg (iv .u8 K2).toArray := hJ.val 5 78 rfl (hd 5 (by decide))
   have f6 : α 79 = .string bs := hJ.val 6 79 rfl (hd 6 (by decide))
   simp (disch := first | omega | (simp only [lnS]; try omega)) [f3, f4, f5, f6]
   refine ⟨by kernel_rfl, AC.mono (pl_open (hP.low lwG) hK1 hK2 hbs) ?_⟩
   rintro v' G' hq
   have lwq := hq.1
   exact hcont _ _ (hJ.put poP_nd poP_st (t := 80) rfl lwq.2 lwq.1 (openQ_w hq lwG.2 ho))
  ·have f7 := hJ.val 7 80 rfl (hd 7 (by decide))
   obtain ⟨w, f, wo⟩ := f7
   have wn := wo.nt
   simp (disch := first | omega | (simp only [lnS]; try omega)) [f, -notTuple, wn.1]
   exact hcont _ _ (hJ.put poP_nd poP_st (t := 72) rfl (Nat.le_refl _) (fun _ _ => rfl) ⟨w, rfl, wo⟩)
  ·have f8 := hJ.val 8 72 rfl (hd 8 (by decide))
   obtain ⟨w, f, wo⟩ := f8
   have wn := wo.nt
   simp (disch := first | omega | (simp only [lnS]; try omega)) [f, -notTuple, wn.1]
   exact hcont _ _ (hJ.put poP_nd poP_st (t := 81) rfl (Nat.le_refl _) (fun _ _ => rfl) rfl)
  ·have f8 := hJ.val 8 72 rfl (hd 8 (by decide))
   obtain ⟨w, f, wo⟩ := f8
   have wn := wo.nt
   simp (disch := first | omega | (simp only [lnS]; try omega)) [f, -notTuple, wn.1]
   exact hcont _ _ (hJ.put poP_nd poP_st (t := 82) rfl (Nat.le_refl _) (fun _ _ => rfl) wo)
  ·have f8 := hJ.val 8 72 rfl (hd 8 (by decide))
   obtain ⟨w, f, wo⟩ := f8
   have wn := wo.nt
   simp (disch := first | omega | (simp only [lnS]; try omega)) [f, -notTuple, wn.1]
   exact hcont _ _ (hJ.put poP_nd poP_st (t := 83) rfl (Nat.le_refl _) (fun _ _ => rfl) rfl)
  ·have f9 : α 81 = .string u := hJ.val 9 81 rfl (hd 9 (by decide))
   simp (disch := first | omega | (simp only [lnS]; try omega)) [-notTuple, f9]
   exact hcont _ _ (hJ.put poP_nd poP_st rfl (Nat.le_refl _) (fun _ _ => rfl) rfl)
  ·have f10 := hJ.val 10 82 rfl (hd 10 (by decide))
   have wn := f10.nt
   simp (disch := first | omega | (simp only [lnS]; try omega)) [-notTuple, wn.1, wn.2]
   exact hcont _ _ (hJ.put poP_nd poP_st (t := 11) rfl (Nat.le_refl _) (fun _ _ => rfl) f10)
  ·have f11 : α 83 = .bool b := hJ.val 11 83 rfl (hd 11 (by decide))
   simp (disch := first | omega | (simp only [lnS]; try omega)) [-notTuple, f11]
   exact hcont _ _ (hJ.put poP_nd poP_st rfl (Nat.le_refl _) (fun _ _ => rfl) rfl)
 rintro s α G8 hJ hall
 have hsz : s.size = 15 := hJ.sz
 have hg : ∀ i, i < 15 → s.getD i false = true := fun i hi => by
  rw [Array.getD_eq_getD_getElem?, Array.getElem?_eq_getElem (by omega)]
  exact Array.all_eq_true.1 hall i (by omega)
 have lw8 : Low B7.length B7 G8 := ⟨hJ.lw.2, hJ.lw.1⟩
 have a0 := (hJ.lo 0 (by decide)).trans e0
 have a5 := (hJ.lo 5 (by decide)).trans e5
 have a6 := (hJ.lo 6 (by decide)).trans e6
 have a9 := (hJ.lo 9 (by decide)).trans e9
 have a10 : α 10 = .string u := hJ.val 12 10 rfl (hg 12 (by omega))
 have a11 : OwnK B7.length G8 (α 11) ks := hJ.val 13 11 rfl (hg 13 (by omega))
 have a12 : α 12 = .bool b := hJ.val 14 12 rfl (hg 14 (by omega))
 obtain ⟨w1, hw1⟩ : ∃ w1, w1 = α 11 := ⟨_, rfl⟩
 rw [← hw1] at a11
 clear hall hsz hg hJ e0 e5 e6 e9
 have wl := w.low lw8
 have gp := (lw8.1 _ (hget_lt gp)).trans gp
 have gK1 := (lw8.1 _ (hget_lt gK1)).trans gK1
 have gK2 := (lw8.1 _ (hget_lt gK2)).trans gK2
 have hSk8 : ∀ j ∈ S, j ∈ S5 ∧ hget G8 j = hget H j := fun j hj => ⟨(hSk j hj).1, (lw8.1 j (hP.sl (hSk j hj).1)).trans (hSk j hj).2⟩
 have hlo : B7.length ≤ G8.length := lw8.2
 obtain ⟨lo, hlo0⟩ : ∃ lo, lo = B7.length := ⟨_, rfl⟩
 have hplo : p < lo := by rw [hlo0]; exact hP.sl i1
 rw [← hlo0] at a11 hlo hFk hbb
 clear w hP lw8 hSk hlo0 poP_st poP_nd
 obtain ⟨B8, hBB⟩ : ∃ B8, B8 = G8 := ⟨_, rfl⟩
 rw [← hBB] at wl gp gK1 gK2 hSk8 hlo a11 ⊢
 clear hBB
 have hP8 : Pl H0 S5 B8 tb rb kv T T l := ⟨F, Ft, Fs, Fr, Fk, tv, sv2, L, wl⟩
 refine aw_seq ?_
 refine name_aw (fun β hβ => ?_)
 have e0 : β 0 = .pointer (some ⟨p, 0, none⟩) := by rw [hβ, a0]
 have e5 : β 5 = .pointer (some ⟨nA, 0, none⟩) := by rw [hβ, a5]
 have e6 : β 6 = .pointer (some ⟨nA + 1, 0, none⟩) := by rw [hβ, a6]
 have e9 : β 9 = .string bs := by rw [hβ, a9]
 have e10 : β 10 = .string u := by rw [hβ, a10]
 have e11 : β 11 = w1 := by rw [hβ, hw1]
 have e12 : β 12 = .bool b := by rw [hβ, a12]
 clear hβ a0 a5 a6 a9 a10 hw1 a12
 have poR_nd : poRD.Nodup := by decide
 have poR_st := @poR_st' Fr B8 p rb K1 K2 bs u ks b
 have hbb : ∀ j ∈ rb :: (Ft ++ Fs ++ Fr), j < B8.length := fun j hj => by have := hbb j hj; omega
 refine aw_inv poRP (IJ poRD (poRV Fr B8 p rb K1 K2 bs u ks b) β B8) (by kernel_rfl) (by kernel_rfl) (by kernel_rfl) (IJ.start rfl) ?_ ?_
 ·intro i s α G k hJ hi0 hsi hd hcc hcont
  have lwG : Low B8.length B8 G := ⟨hJ.lw.2, hJ.lw.1⟩
  have j0 := (hJ.lo 0 (by decide)).trans e0
  have j5 := (hJ.lo 5 (by decide)).trans e5
  have j6 := (hJ.lo 6 (by decide)).trans e6
  have j9 := (hJ.lo 9 (by decide)).trans e9
  obtain ⟨_, ldt, _⟩ := play_loads ((lwG.1 _ (hget_lt gp)).trans gp)
  have ldY := key_load hK1 ((lwG.1 _ (hget_lt gK1)).trans gK1)
  have ldZ := key_load hK2 ((lwG.1 _ (hget_lt gK2)).trans gK2)
  have hi : i = 0 ∨ i = 1 ∨ i = 2 ∨ i = 3 ∨ i = 4 ∨ i = 5 ∨ i = 6 ∨ i = 7 ∨ i = 8 ∨ i = 9 ∨ i = 10 ∨ i = 11 ∨ i = 12 ∨ i = 13 ∨ i = 14 := by have hi0 : i < 15 := hi0; omega
  rcases hi with rfl | rfl | rfl | rfl | rfl | rfl | rfl | rfl | rfl | rfl | rfl | rfl | rfl | rfl | rfl
  ·simp (disch := first | omega | (simp only [lnS]; try omega)) [-notTuple, j0]
   exact hcont _ _ (hJ.put poR_nd poR_st rfl (Nat.le_refl _) (fun _ _ => rfl) rfl)
  ·have f0 : α 85 = .pointer (some ⟨p, 0, none⟩) := hJ.val 0 85 rfl (hd 0 (by decide))
   simp (disch := first | omega | (simp only [lnS]; try omega)) [-notTuple, f0]
   exact hcont _ _ (hJ.put poR_nd poR_st rfl (Nat.le_refl _) (fun _ _ => rfl) rfl)
  ·have f1 : α 86 = .pointer (some ⟨p, 0, none⟩) := hJ.val 1 86 rfl (hd 1 (by decide))
   simp (disch := first | omega | (simp only [lnS]; try omega)) [-notTuple, f1]
   exact hcont _ _ (hJ.put poR_nd poR_st rfl (Nat.le_refl _) (fun _ _ => rfl) rfl)
  ·have f2 : α 87 = .pointer (some ⟨p, 1, none⟩) := hJ.val 2 87 rfl (hd 2 (by decide))
   simp (disch := first | omega | (simp only [lnS]; try omega)) [-notTuple, -xload, ldt, f2]
   exact hcont _ _ (hJ.put poR_nd poR_st rfl (Nat.le_refl _) (fun _ _ => rfl) rfl)
  ·simp (disch := first | omega | (simp only [lnS]; try omega)) [-notTuple, j5, -xload, ldY]
   exact hcont _ _ (hJ.put poR_nd poR_st rfl (Nat.le_refl _) (fun _ _ => rfl) rfl)
  ·simp (disch := first | omega | (simp only [lnS]; try omega)) [-notTuple, j6, -xload, ldZ]
   exact hcont _ _ (hJ.put poR_nd poR_st rfl (Nat.le_refl _) (fun _ _ => rfl) rfl)
  ·simp (disch := first | omega | (simp only [lnS]; try omega)) [-notTuple, j9]
   exact hcont _ _ (hJ.put poR_nd poR_st rfl (Nat.le_refl _) (fun _ _ => rfl) rfl)
  ·have f3 : α 88 = .pointer (some ⟨rb, 0, none⟩) := hJ.val 3 88 rfl (hd 3 (by decide))
   have f4 : α 89 = .agg (iv .u8 K1).toArray := hJ.val 4 89 rfl (hd 4 (by decide))
   have f5 : α 90 = .agg (iv .u8 K2).toArray := hJ.val 5 90 rfl (hd 5 (by decide))
   have f6 : α 91 = .string bs := hJ.val 6 91 rfl (hd 6 (by decide))
   simp (disch := first | omega | (simp only [lnS]; try omega)) [f3, f4, f5, f6]
   refine ⟨by kernel_rfl, AC.mono (ropen_ac (nro := H0.length) (wl.b.low (fun j hj => lwG.1 j (hbb j hj)) lwG.2) (by have := wl.lw.2; have := lwG.2; omega) hK1 hK2 hbs) ?_⟩
   rintro v' G' hq
   have lwq := hq.1
   exact hcont _ _ (hJ.put poR_nd poR_st (t := 92) rfl lwq.2 lwq.1 (ropenQ_w hq wl.e (fun j hj => lwG.1 j (hbb j (by simp [hj]))) ho))
  ·have f7 := hJ.val 7 92 rfl (hd 7 (by decide))
   obtain ⟨w, f, wo⟩ := f7
   have wn := wo.nt
   simp (disch := first | omega | (simp only [lnS]; try omega)) [f, -notTuple, wn.1]
   exact hcont _ _ (hJ.put poR_nd poR_st (t := 84) rfl (Nat.le_refl _) (fun _ _ => rfl) ⟨w, rfl, wo⟩)
  ·have f8 := hJ.val 8 84 rfl (hd 8 (by decide))
   obtain ⟨w, f, wo⟩ := f8
   have wn := wo.nt
   simp (disch := first | omega | (simp only [lnS]; try omega)) [f, -notTuple, wn.1]
   exact hcont _ _ (hJ.put poR_nd poR_st (t := 93) rfl (Nat.le_refl _) (fun _ _ => rfl) rfl)
  ·have f8 := hJ.val 8 84 rfl (hd 8 (by decide))
   obtain ⟨w, f, wo⟩ := f8
   have wn := wo.nt
   simp (disch := first | omega | (simp only [lnS]; try omega)) [f, -notTuple, wn.1]
   exact hcont _ _ (hJ.put poR_nd poR_st (t := 94) rfl (Nat.le_refl _) (fun _ _ => rfl) wo)
  ·have f8 := hJ.val 8 84 rfl (hd 8 (by decide))
   obtain ⟨w, f, wo⟩ := f8
   have wn := wo.nt
   simp (disch := first | omega | (simp only [lnS]; try omega)) [f, -notTuple, wn.1]
   exact hcont _ _ (hJ.put poR_nd poR_st (t := 95) rfl (Nat.le_refl _) (fun _ _ => rfl) rfl)
  ·have f9 : α 93 = .string u := hJ.val 9 93 rfl (hd 9 (by decide))
   simp (disch := first | omega | (simp only [lnS]; try omega)) [-notTuple, f9]
   exact hcont _ _ (hJ.put poR_nd poR_st rfl (Nat.le_refl _) (fun _ _ => rfl) rfl)
  ·have f10 := hJ.val 10 94 rfl (hd 10 (by decide))
   have wn := f10.nt
   simp (disch := first | omega | (simp only [lnS]; try omega)) [-notTuple, wn.1, wn.2]
   exact hcont _ _ (hJ.put poR_nd poR_st (t := 14) rfl (Nat.le_refl _) (fun _ _ => rfl) f10)
  ·have f11 : α 95 = .bool b := hJ.val 11 95 rfl (hd 11 (by decide))
   simp (disch := first | omega | (simp only [lnS]; try omega)) [-notTuple, f11]
   exact hcont _ _ (hJ.put poR_nd poR_st rfl (Nat.le_refl _) (fun _ _ => rfl) rfl)
 rintro s α G9 hJ hall
 have hsz : s.size = 15 := hJ.sz
 have hg : ∀ i, i < 15 → s.getD i false = true := fun i hi => by
  rw [Array.getD_eq_getD_getElem?, Array.getElem?_eq_getElem (by omega)]
  exact Array.all_eq_true.1 hall i (by omega)
 have lw9 : Low B8.length B8 G9 := ⟨hJ.lw.2, hJ.lw.1⟩
 have a0 := (hJ.lo 0 (by decide)).trans e0
 have a10 := (hJ.lo 10 (by decide)).trans e10
 have a11' := (hJ.lo 11 (by decide)).trans e11
 have a12 := (hJ.lo 12 (by decide)).trans e12
 have a13 : α 13 = .string u := hJ.val 12 13 rfl (hg 12 (by omega))
 have a14 : FrK B8 Fr (α 14) ks := hJ.val 13 14 rfl (hg 13 (by omega))
 have a15 : α 15 = .bool b := hJ.val 14 15 rfl (hg 14 (by omega))
 obtain ⟨w2, hw2⟩ : ∃ w2, w2 = α 14 := ⟨_, rfl⟩
 rw [← hw2] at a14
 have hw2 := hw2.symm
 clear hall hsz hg hJ e0 e5 e6 e9 e10 e11 e12
 have own9 : OwnK lo G9 w1 ks := a11.low (fun j _ hj => lw9.1 j hj)
 have hv9 : KsV G9 w1 ks := own_ksv own9 hks32
 have hx9 : xcells 32 w1 G9 = some (kr ks) := by
  rw [← ksC_kr]
  exact val_cells (by omega) hv9 (kd_len hks32) (kd_flat _)
 have hstr : ∀ s, w1 ≠ .string s := fun s e => by
  rcases own9 with ⟨e2, _⟩ | ⟨j, cs, _, e2, _⟩ <;> rw [e] at e2 <;> cases e2
 have gp := (lw9.1 _ (hget_lt gp)).trans gp
 obtain ⟨kv', G10, F', hap, n1, n2, w10, hl10, k10⟩ := (wl.low lw9).append hk32 hks32 hstr hx9 (by omega)
 obtain ⟨knt, kcs⟩ := ownF_nt wl.k
 have wnt := own9.nt
 obtain ⟨_, _, ldk⟩ := play_loads gp
 have hpk : p ∉ Fk := ((wl.low lw9).s p i1).2.2.2
 have gp10 := (k10 p (hget_lt gp) hpk).trans gp
 have lp10 := hget_lt gp10
 (refine aw_seq (aoo fun K hK => ?_); simp (disch := first | omega | (simp only [lnS]; try omega)) [a0, a11', -xload, ldk, -notTuple, knt, wnt.1, n1, n2, -xappend, hap, gp10, lp10, hpn]; refine hK _ _ ?_; clear hK K)
 obtain ⟨G11, hG11⟩ : ∃ G11 : AH, G11 = G10.set p (some ⟨[.pointer (some ⟨tb, 0, none⟩), .pointer (some ⟨rb, 0, none⟩), kv'], 39, none⟩) := ⟨_, rfl⟩
 rw [← hG11]
 have gp11 : hget G11 p = some ⟨[.pointer (some ⟨tb, 0, none⟩), .pointer (some ⟨rb, 0, none⟩), kv'], 39, none⟩ := by rw [hG11, hget_set_eq lp10]
 have hP10 : Pl H0 S5 G10 tb rb kv' T T (l ++ ks) := ⟨F, Ft, Fs, Fr, F', tv, sv2, L, w10⟩
 have hP11 : Pl H0 S5 G11 tb rb kv' T T (l ++ ks) := by rw [hG11]; exact hP10.set i1 hpn _
 have hk11 : ∀ j, j ≠ p → hget G11 j = hget G10 j := fun j hj => by rw [hG11, hget_set_ne (Ne.symm hj)]
 have own11 : OwnK lo G11 w1 ks := own9.low (fun j h1 h2 => (hk11 j (by omega)).trans (k10 j h2 (fun e => by have := hFk j e; omega)))
 have acc1 : AccK G11 w1 ks := (own_ksv own11 hks32).acc hks32
 have acc2 : AccK G11 w2 ks := a14.2.2 G11 (fun j hj => by
  have hjb : j ∈ rb :: (Ft ++ Fs ++ Fr) := by simp [hj]
  have hjl := hbb j hjb
  have hjp : j ≠ p := fun e => (wl.s p i1).2.2.1 (e ▸ hjb)
  exact (hk11 j hjp).trans ((k10 j (by have := lw9.2; omega) (wl.bk j hjb)).trans (lw9.1 j hjl)))
 have hsk := sameKeysA_rc (γ := γ) acc1 acc2 hks32 hks32 (by simp only [maxLen]; omega)
 have hd : decide (ks = ks) = true := by simp
 rw [hd] at hsk
 have hub : (u.toList == u.toList) = true := by simp
 have fin : PoQ H0 S H p tb rb T l (.bool true) G11 := ⟨rfl, kv', ks, gp11, hP11.less (fun j hj => (hSk8 j hj).1), hks5, hksk, fun j hj hjp => by
  have hs := (wl.low lw9).s j (hSk8 j hj).1
  exact (hk11 j hjp).trans ((k10 j hs.1 hs.2.2.2).trans ((lw9.1 j (wl.s j (hSk8 j hj).1).1).trans (hSk8 j hj).2))⟩
 refine aw_seq (aoo fun K hK => ?_)
 simp (disch := first | omega | (simp only [lnS]; try omega)) [a10, a11', a12, a13, hw2, a15, -notTuple, wnt.1, a14.1, hub]
 refine ⟨by kernel_rfl, ac_of_rc hsk (by simp [pv_iv, pv_int, pv_bool, pv_string, pv_tup2, pv_tup3, iv_plain, p2_int, p2_bool, p2_string]) ?_⟩
 try simp (disch := first | omega | (simp only [lnS]; try omega)) []
 refine hK _ _ ?_; clear hK K
 (refine aw_ret ?_; simp (disch := first | omega | (simp only [lnS]; try omega)) [thenQ_ret, scopeQ_ret, inBlockQ_ret, RQ, resL, resV])
 exact fin
end
section
theorem look_k32 {T : List TermD} (hw : ∀ x ∈ T, x.Wf) {k : List Int} (hk : k.length = 32) : (∀ z ∈ (lookT T k).keys, z.length = 32) ∧ (lookT T k).keys.length ≤ 1000000 := by
 unfold lookT
 cases hf : findT T k with
 | none => exact ⟨fun z hz => by rw [List.mem_singleton.1 hz]; exact hk, (by show 1 ≤ 1000000; omega)⟩
 | some x =>
  have hm : x ∈ T := by
   unfold findT at hf
   split at hf
   ·exact List.mem_of_getElem? hf
   ·cases hf
  exact ⟨fun z hz => (hw x hm).k32 z hz, (hw x hm).many⟩
@[reducible] def NP (cn cm st sl nX : Nat) (H0 B : AH) (S : List Nat) (tb rb : Nat) (kv : Value) (T T1 R R1 : List TermD) (l ks : List (List Int)) (X : Option Blk) (s : Array Bool) (α : Fm) (G : AH) : Prop :=
 ∃ Fv : List Nat, Pl H0 (Fv ++ S) G tb rb kv (if s.getD cm false = true then T1 else T) (if s.getD cm false = true then R1 else R) l ∧ (∀ j ∈ S, j ≠ nX → hget G j = hget B j) ∧ hget G nX = (if s.getD st false = true then X else hget B nX) ∧ (s.getD cn false = true → s.getD cm false = false → OwnF G (α sl) 28 32 (kr ks) Fv)
theorem NP.keep {cn cm st sl nX : Nat} {H0 B : AH} {S : List Nat} {tb rb : Nat} {kv : Value} {T T1 R R1 : List TermD} {l ks : List (List Int)} {X : Option Blk} {s : Array Bool} {α : Fm} {G : AH} {i t : Nat} {v : Value} (hi : i ∉ [cn, cm, st]) (ht : t ∉ [sl]) (h : NP cn cm st sl nX H0 B S tb rb kv T T1 R R1 l ks X s α G) : NP cn cm st sl nX H0 B S tb rb kv T T1 R R1 l ks X (s.setIfInBounds i true) (α.put (some t) v) G := by
 simp only [List.mem_cons, List.not_mem_nil, or_false, not_or] at hi ht
 unfold NP at *
 rw [gs_ne hi.1, gs_ne hi.2.1, gs_ne hi.2.2]
 obtain ⟨Fv, h1, h2, h3, h4⟩ := h
 exact ⟨Fv, h1, h2, h3, fun a b => by simpa [put_at, Ne.symm ht] using h4 a b⟩
@[reducible] def AP (sl : Nat) (H0 B : AH) (S : List Nat) (tb rb : Nat) (kv : Value) (T T1 R R1 : List TermD) (l : List (List Int)) (N : List Int) (s : Array Bool) (α : Fm) (G : AH) : Prop :=
 ∃ Fv : List Nat, Pl H0 (Fv ++ S) G tb rb kv (if s.getD 6 false = true then T1 else T) (if s.getD 6 false = true then R1 else R) l ∧ (∀ j ∈ S, hget G j = hget B j) ∧
  (s.getD 10 false = true → ∃ r, Fv = [r] ∧ α sl = .pointer (some ⟨r, 0, none⟩) ∧ r ∉ S ∧ H0.length ≤ r ∧ hget G r = some ⟨iv .u8 (if s.getD 11 false = true then N else zl 32), 28, none⟩)
theorem AP.keep {sl : Nat} {H0 B : AH} {S : List Nat} {tb rb : Nat} {kv : Value} {T T1 R R1 : List TermD} {l : List (List Int)} {N : List Int} {s : Array Bool} {α : Fm} {G : AH} {i t : Nat} {v : Value} (hi : i ∉ [6, 10, 11]) (ht : t ∉ [sl]) (h : AP sl H0 B S tb rb kv T T1 R R1 l N s α G) : AP sl H0 B S tb rb kv T T1 R R1 l N (s.setIfInBounds i true) (α.put (some t) v) G := by
 simp only [List.mem_cons, List.not_mem_nil, or_false, not_or] at hi ht
 unfold AP at *
 rw [gs_ne hi.1, gs_ne hi.2.1, gs_ne hi.2.2]
 obtain ⟨Fv, h1, h2, h3⟩ := h
 exact ⟨Fv, h1, h2, fun a => by
  obtain ⟨r, w1, w2, w3⟩ := h3 a
  exact ⟨r, w1, by simpa [put_at, Ne.symm ht] using w2, w3⟩⟩
theorem agrK_len (T : List TermD) (s p : List Int) : (agrK T s p).length = 32 := by
 unfold agrK
 split <;> rfl
theorem agrK_by (T : List TermD) (s p : List Int) : By (agrK T s p) := by
 unfold agrK
 split
 ·intro x hx
  have : x = 0 := by simp [zl] at hx; exact hx
  omega
 ·exact nmL_by _
theorem agr_ok {T : List TermD} (hw : ∀ x ∈ T, x.Wf) (h7 : ∀ x ∈ T, x.keys.length ≤ 7) {s p : List Int} (hs : s.length = 32) (hbs : By s) (hp : p.length = 32) (hbp : By p) : (∀ x ∈ agrT2 T s p, x.Wf) ∧ (∀ x ∈ agrT2 T s p, x.keys.length ≤ 7) ∧ (agrT2 T s p).length ≤ T.length + 1 := by
 have hag : (agreeT T s p).Wf ∧ (agreeT T s p).keys.length ≤ 7 := by
  rw [agreeT_look]
  split
  ·rename_i h3
   have hm := look_mem (T := T) (k := p) (by omega)
   have hyw := hw _ hm
   have h1 := hyw.pub h3
   have hl0 : ((lookT T p).keys.getD 0 []) ∈ (lookT T p).keys := by
    rw [List.getD_eq_getElem?_getD, List.getElem?_eq_getElem (by omega)]
    exact List.getElem_mem _
   have l0 := hyw.k32 _ hl0
   have b0 := hyw.by_ _ hl0
   split
   ·exact ⟨wf_two (.inl rfl) l0 b0 hs hbs, (by show 2 ≤ 7; omega)⟩
   ·exact ⟨wf_two (.inl rfl) hs hbs l0 b0, (by show 2 ≤ 7; omega)⟩
  ·exact ⟨wf_two (.inr rfl) hs hbs hp hbp, (by show 2 ≤ 7; omega)⟩
 unfold agrT2
 split
 ·exact ⟨hw, h7, by omega⟩
 ·refine ⟨fun x hx => ?_, fun x hx => ?_, addT_le _ _⟩
  ·rcases addT_mem hx with e | e
   ·exact hw x e
   ·rw [e]; exact hag.1
  ·rcases addT_mem hx with e | e
   ·exact h7 x e
   ·rw [e]; exact hag.2
theorem wf_kind2 {s : ByteArray} (hs : s.size ≤ 300) {ks : List (List Int)} (hk : ∀ z ∈ ks, z.length = 32 ∧ By z) (hm : ks.length ≤ 5) : TermD.Wf ⟨2, s, ks⟩ :=
 ⟨(by show 2 ≤ 6; omega), (by show s.size ≤ _; omega), fun z hz => (hk z hz).1, fun z hz => (hk z hz).2, (by show ks.length ≤ _; omega), fun h => (by cases h), fun h => (by cases h), fun h => (by cases h)⟩
theorem add_ok {T : List TermD} (hw : ∀ x ∈ T, x.Wf) (h7 : ∀ x ∈ T, x.keys.length ≤ 7) {y : TermD} (hy : y.Wf) (hy7 : y.keys.length ≤ 7) : (∀ x ∈ addT y T, x.Wf) ∧ (∀ x ∈ addT y T, x.keys.length ≤ 7) ∧ (addT y T).length ≤ T.length + 1 := by
 refine ⟨fun x hx => ?_, fun x hx => ?_, addT_le _ _⟩
 ·rcases addT_mem hx with e | e
  ·exact hw x e
  ·rw [e]; exact hy
 ·rcases addT_mem hx with e | e
  ·exact h7 x e
  ·rw [e]; exact hy7
def doMD : List (Option Nat) := [some 29, some 30, some 31, some 32, some 33, some 34, some 35, some 36, some 37, some 38, some 39, some 40, some 41, some 42, some 43, some 44, some 45, some 46, some 47, some 48, some 49, some 50, some 51, some 52, some 53, some 54]
def doMP : List (List Nat) := [[], [0], [1], [2], [], [4], [3, 5], [], [6, 7], [8], [9], [9, 10], [9, 11], [9, 12], [9], [9, 14], [9, 13, 15], [9], [9, 17], [9, 18], [9, 19], [9], [9, 21], [9, 20, 22], [9, 16, 23], [9, 24]]
def doMV (p nC nA tb rb : Nat) (t : ByteArray) (A M : List Int) (i : Nat) (v : Value) : Prop := match i with
 | 0 => v = .pointer (some ⟨p, 0, none⟩)
 | 1 => v = .pointer (some ⟨p, 0, none⟩)
 | 2 => v = .pointer (some ⟨p, 0, none⟩)
 | 3 => v = .pointer (some ⟨tb, 0, none⟩)
 | 4 => v = .slice (some ⟨nA, 0, none⟩) 32 32
 | 5 => v = .string (strOfNums A)
 | 6 => v = .agg (iv .u8 A).toArray
 | 7 => v = .agg (iv .u8 A).toArray
 | 8 => v = .bool false
 | 9 => v = .bool false
 | 10 => v = .pointer (some ⟨p, 0, none⟩)
 | 11 => v = .pointer (some ⟨p, 0, none⟩)
 | 12 => v = .pointer (some ⟨p, 0, none⟩)
 | 13 => v = .pointer (some ⟨tb, 0, none⟩)
 | 14 => v = .pointer (some ⟨nC, 2, none⟩)
 | 15 => v = .string t
 | 16 => v = .agg (iv .u8 M).toArray
 | 17 => v = .pointer (some ⟨p, 0, none⟩)
 | 18 => v = .pointer (some ⟨p, 0, none⟩)
 | 19 => v = .pointer (some ⟨p, 1, none⟩)
 | 20 => v = .pointer (some ⟨rb, 0, none⟩)
 | 21 => v = .pointer (some ⟨nC, 2, none⟩)
 | 22 => v = .string t
 | 23 => v = .agg (iv .u8 M).toArray
 | 24 => v = .bool false
 | 25 => v = .bool false
 | _ => True
theorem doM_nd : ∀ i j t : Nat, doMD[i]? = some (some t) → doMD[j]? = some (some t) → i = j := by
 have h : ∀ i < 26, ∀ j < 26, ∀ t : Nat, doMD[i]? = some (some t) → doMD[j]? = some (some t) → i = j := by
  intro i hi j hj t h1 h2
  have h3 : doMD[i]? = doMD[j]? := h1.trans h2.symm
  have h4 : (doMD[i]?.bind id).isSome = true := by rw [h1]; rfl
  revert h3 h4
  clear h1 h2
  revert i j
  decide
 intro i j t hi hj
 exact h i (List.getElem?_eq_some_iff.1 hi).1 j (List.getElem?_eq_some_iff.1 hj).1 t hi hj
def doHD : List (Option Nat) := [some 76, some 77, some 78, some 79, some 80, some 81, some 82, some 83, some 84, some 85, none]
def doHP : List (List Nat) := [[], [0], [1], [2], [], [4], [], [], [6, 7], [3, 5, 8], [9]]
def doHV (p nC tb rb : Nat) (t : ByteArray) (A D N : List Int) (C : List Value) (i : Nat) (v : Value) : Prop := match i with
 | 0 => v = .pointer (some ⟨p, 0, none⟩)
 | 1 => v = .pointer (some ⟨p, 0, none⟩)
 | 2 => v = .pointer (some ⟨p, 0, none⟩)
 | 3 => v = .pointer (some ⟨tb, 0, none⟩)
 | 4 => v = .pointer (some ⟨nC, 2, none⟩)
 | 5 => v = .string t
 | 6 => v = .pointer (some ⟨p, 0, none⟩)
 | 7 => v = .agg C.toArray
 | 9 => v = .agg (iv .u8 N).toArray
 | _ => True
theorem doH_nd : ∀ i j t : Nat, doHD[i]? = some (some t) → doHD[j]? = some (some t) → i = j := by
 have h : ∀ i < 11, ∀ j < 11, ∀ t : Nat, doHD[i]? = some (some t) → doHD[j]? = some (some t) → i = j := by
  intro i hi j hj t h1 h2
  have h3 : doHD[i]? = doHD[j]? := h1.trans h2.symm
  have h4 : (doHD[i]?.bind id).isSome = true := by rw [h1]; rfl
  revert h3 h4
  clear h1 h2
  revert i j
  decide
 intro i j t hi hj
 exact h i (List.getElem?_eq_some_iff.1 hi).1 j (List.getElem?_eq_some_iff.1 hj).1 t hi hj
def doID : List (Option Nat) := [some 86, some 87, some 88, some 89, some 90, some 91, some 92, some 93, some 94, some 95, none]
def doIP : List (List Nat) := [[], [0], [1], [2], [], [4], [], [], [6, 7], [3, 5, 8], [9]]
def doIV (p nC tb rb : Nat) (t : ByteArray) (A D N : List Int) (C : List Value) (i : Nat) (v : Value) : Prop := match i with
 | 0 => v = .pointer (some ⟨p, 0, none⟩)
 | 1 => v = .pointer (some ⟨p, 0, none⟩)
 | 2 => v = .pointer (some ⟨p, 1, none⟩)
 | 3 => v = .pointer (some ⟨rb, 0, none⟩)
 | 4 => v = .pointer (some ⟨nC, 2, none⟩)
 | 5 => v = .string t
 | 6 => v = .pointer (some ⟨p, 0, none⟩)
 | 7 => v = .agg C.toArray
 | 9 => v = .agg (iv .u8 N).toArray
 | _ => True
theorem doI_nd : ∀ i j t : Nat, doID[i]? = some (some t) → doID[j]? = some (some t) → i = j := by
 have h : ∀ i < 11, ∀ j < 11, ∀ t : Nat, doID[i]? = some (some t) → doID[j]? = some (some t) → i = j := by
  intro i hi j hj t h1 h2
  have h3 : doID[i]? = doID[j]? := h1.trans h2.symm
  have h4 : (doID[i]?.bind id).isSome = true := by rw [h1]; rfl
  revert h3 h4
  clear h1 h2
  revert i j
  decide
 intro i j t hi hj
 exact h i (List.getElem?_eq_some_iff.1 hi).1 j (List.getElem?_eq_some_iff.1 hj).1 t hi hj
def doSD : List (Option Nat) := [some 140, some 141, some 142, some 143, some 144, some 145, some 146, some 147, some 148, some 149, some 150, some 151, some 13]
def doSP : List (List Nat) := [[], [0], [1], [2], [], [], [], [6], [], [], [8, 9], [3, 4, 5, 7, 10], [11]]
def doSV (p nC tb rb : Nat) (t : ByteArray) (A D N : List Int) (C : List Value) (i : Nat) (v : Value) : Prop := match i with
 | 0 => v = .pointer (some ⟨p, 0, none⟩)
 | 1 => v = .pointer (some ⟨p, 0, none⟩)
 | 2 => v = .pointer (some ⟨p, 0, none⟩)
 | 3 => v = .pointer (some ⟨tb, 0, none⟩)
 | 4 => v = .agg (iv .u8 A).toArray
 | 5 => v = .agg (iv .u8 D).toArray
 | 6 => v = .pointer (some ⟨nC, 2, none⟩)
 | 7 => v = .string t
 | 8 => v = .pointer (some ⟨p, 0, none⟩)
 | 9 => v = .agg C.toArray
 | 11 => v = .string (strOfNums N)
 | 12 => v = .string (strOfNums N)
 | _ => True
theorem doS_nd : ∀ i j t : Nat, doSD[i]? = some (some t) → doSD[j]? = some (some t) → i = j := by
 have h : ∀ i < 13, ∀ j < 13, ∀ t : Nat, doSD[i]? = some (some t) → doSD[j]? = some (some t) → i = j := by
  intro i hi j hj t h1 h2
  have h3 : doSD[i]? = doSD[j]? := h1.trans h2.symm
  have h4 : (doSD[i]?.bind id).isSome = true := by rw [h1]; rfl
  revert h3 h4
  clear h1 h2
  revert i j
  decide
 intro i j t hi hj
 exact h i (List.getElem?_eq_some_iff.1 hi).1 j (List.getElem?_eq_some_iff.1 hj).1 t hi hj
def doUD : List (Option Nat) := [some 152, some 153, some 154, some 155, some 156, some 157, some 158, some 159, some 160, some 161, some 162, some 163, some 14]
def doUP : List (List Nat) := [[], [0], [1], [2], [], [], [], [6], [], [], [8, 9], [3, 4, 5, 7, 10], [11]]
def doUV (p nC tb rb : Nat) (t : ByteArray) (A D N : List Int) (C : List Value) (i : Nat) (v : Value) : Prop := match i with
 | 0 => v = .pointer (some ⟨p, 0, none⟩)
 | 1 => v = .pointer (some ⟨p, 0, none⟩)
 | 2 => v = .pointer (some ⟨p, 1, none⟩)
 | 3 => v = .pointer (some ⟨rb, 0, none⟩)
 | 4 => v = .agg (iv .u8 A).toArray
 | 5 => v = .agg (iv .u8 D).toArray
 | 6 => v = .pointer (some ⟨nC, 2, none⟩)
 | 7 => v = .string t
 | 8 => v = .pointer (some ⟨p, 0, none⟩)
 | 9 => v = .agg C.toArray
 | 11 => v = .string (strOfNums N)
 | 12 => v = .string (strOfNums N)
 | _ => True
theorem doU_nd : ∀ i j t : Nat, doUD[i]? = some (some t) → doUD[j]? = some (some t) → i = j := by
 have h : ∀ i < 13, ∀ j < 13, ∀ t : Nat, doUD[i]? = some (some t) → doUD[j]? = some (some t) → i = j := by
  intro i hi j hj t h1 h2
  have h3 : doUD[i]? = doUD[j]? := h1.trans h2.symm
  have h4 : (doUD[i]?.bind id).isSome = true := by rw [h1]; rfl
  revert h3 h4
  clear h1 h2
  revert i j
  decide
 intro i j t hi hj
 exact h i (List.getElem?_eq_some_iff.1 hi).1 j (List.getElem?_eq_some_iff.1 hj).1 t hi hj
def doAD : List (Option Nat) := [some 114, some 115, some 116, some 117, some 118, some 119, some 120, some 113, some 121, some 122, some 9, none, some 10]
def doAP : List (List Nat) := [[], [0], [1], [2], [], [], [3, 4, 5], [6], [7], [7], [], [8, 10], [9]]
def doAV (p tb rb : Nat) (A D N : List Int) (bb : Bool) (i : Nat) (v : Value) : Prop := match i with
 | 0 => v = .pointer (some ⟨p, 0, none⟩)
 | 1 => v = .pointer (some ⟨p, 0, none⟩)
 | 2 => v = .pointer (some ⟨p, 0, none⟩)
 | 3 => v = .pointer (some ⟨tb, 0, none⟩)
 | 4 => v = .agg (iv .u8 A).toArray
 | 5 => v = .agg (iv .u8 D).toArray
 | 6 => v = .tuple #[.agg (iv .u8 N).toArray, .bool bb]
 | 7 => v = .tuple #[.agg (iv .u8 N).toArray, .bool bb]
 | 8 => v = .agg (iv .u8 N).toArray
 | 9 => v = .bool bb
 | 12 => v = .bool bb
 | _ => True
theorem doA_nd : ∀ i j t : Nat, doAD[i]? = some (some t) → doAD[j]? = some (some t) → i = j := by
 have h : ∀ i < 13, ∀ j < 13, ∀ t : Nat, doAD[i]? = some (some t) → doAD[j]? = some (some t) → i = j := by
  intro i hi j hj t h1 h2
  have h3 : doAD[i]? = doAD[j]? := h1.trans h2.symm
  have h4 : (doAD[i]?.bind id).isSome = true := by rw [h1]; rfl
  revert h3 h4
  clear h1 h2
  revert i j
  decide
 intro i j t hi hj
 exact h i (List.getElem?_eq_some_iff.1 hi).1 j (List.getElem?_eq_some_iff.1 hj).1 t hi hj
def doBD : List (Option Nat) := [some 124, some 125, some 126, some 127, some 128, some 129, some 130, some 123, some 131, some 132, some 11, none, some 12]
def doBP : List (List Nat) := [[], [0], [1], [2], [], [], [3, 4, 5], [6], [7], [7], [], [8, 10], [9]]
def doBV (p tb rb : Nat) (A D N : List Int) (bb : Bool) (i : Nat) (v : Value) : Prop := match i with
 | 0 => v = .pointer (some ⟨p, 0, none⟩)
 | 1 => v = .pointer (some ⟨p, 0, none⟩)
 | 2 => v = .pointer (some ⟨p, 1, none⟩)
 | 3 => v = .pointer (some ⟨rb, 0, none⟩)
 | 4 => v = .agg (iv .u8 A).toArray
 | 5 => v = .agg (iv .u8 D).toArray
 | 6 => v = .tuple #[.agg (iv .u8 N).toArray, .bool bb]
 | 7 => v = .tuple #[.agg (iv .u8 N).toArray, .bool bb]
 | 8 => v = .agg (iv .u8 N).toArray
 | 9 => v = .bool bb
 | 12 => v = .bool bb
 | _ => True
theorem doB_nd : ∀ i j t : Nat, doBD[i]? = some (some t) → doBD[j]? = some (some t) → i = j := by
 have h : ∀ i < 13, ∀ j < 13, ∀ t : Nat, doBD[i]? = some (some t) → doBD[j]? = some (some t) → i = j := by
  intro i hi j hj t h1 h2
  have h3 : doBD[i]? = doBD[j]? := h1.trans h2.symm
  have h4 : (doBD[i]?.bind id).isSome = true := by rw [h1]; rfl
  revert h3 h4
  clear h1 h2
  revert i j
  decide
 intro i j t hi hj
 exact h i (List.getElem?_eq_some_iff.1 hi).1 j (List.getElem?_eq_some_iff.1 hj).1 t hi hj
def doZD : List Nat := [203, 204, 205, 206, 207, 208, 209, 210, 211, 212, 213, 214, 215, 216, 217, 218, 219, 220, 221, 222, 223, 224, 225, 226, 227, 228, 229, 230, 231, 232, 233, 234, 235, 236, 4]
def doZP : List (List Nat) := [[], [], [0, 1], [2], [3], [3, 4], [3, 5], [3, 6], [3, 7], [3], [3, 9], [3, 10], [3, 11], [3, 12], [3, 13], [3, 14], [3, 15], [3, 8, 16], [3, 17], [18], [19], [19, 20], [19, 21], [19, 22], [19], [19, 23, 24], [19], [19, 26], [19, 27], [19, 28], [19], [19, 29, 30], [19, 25, 31], [19, 32], [33]]
def doZV (p rb n7 tb : Nat) (N : List Int) (tv : Value) (m : Nat) (y : TermD) (G : AH) (i : Nat) (v : Value) : Prop := match i with
 | 0 => v = .agg (iv .u8 N).toArray
 | 1 => v = .agg (iv .u8 N).toArray
 | 2 => v = .bool true
 | 3 => v = .bool true
 | 4 => v = .pointer (some ⟨p, 0, none⟩)
 | 5 => v = .pointer (some ⟨p, 0, none⟩)
 | 6 => v = .pointer (some ⟨p, 0, none⟩)
 | 7 => v = .pointer (some ⟨tb, 0, none⟩)
 | 8 => v = .int .i64 (m : Nat)
 | 9 => v = .pointer (some ⟨p, 0, none⟩)
 | 10 => v = .pointer (some ⟨p, 0, none⟩)
 | 11 => v = .pointer (some ⟨p, 1, none⟩)
 | 12 => v = .pointer (some ⟨rb, 0, none⟩)
 | 13 => v = .pointer (some ⟨rb, 0, none⟩)
 | 14 => v = .pointer (some ⟨rb, 0, none⟩)
 | 15 => v = tv
 | 16 => v = .int .i64 (m : Nat)
 | 17 => v = .bool true
 | 18 => v = .bool true
 | 19 => v = .bool true
 | 20 => v = .pointer (some ⟨p, 0, none⟩)
 | 21 => v = .pointer (some ⟨p, 0, none⟩)
 | 22 => v = .pointer (some ⟨p, 0, none⟩)
 | 23 => v = .pointer (some ⟨tb, 0, none⟩)
 | 24 => v = .agg (iv .u8 N).toArray
 | 25 => ∃ kx, v = .agg (tmRow kx y).toArray ∧ KsV G kx y.keys
 | 26 => v = .pointer (some ⟨p, 0, none⟩)
 | 27 => v = .pointer (some ⟨p, 0, none⟩)
 | 28 => v = .pointer (some ⟨p, 1, none⟩)
 | 29 => v = .pointer (some ⟨rb, 0, none⟩)
 | 30 => v = .agg (iv .u8 N).toArray
 | 31 => ∃ kx, v = .agg (tmRow kx y).toArray ∧ KsV G kx y.keys
 | 32 => v = .bool true
 | 33 => v = .bool true
 | 34 => v = .bool true
 | _ => True
theorem doZ_st' {p rb n7 tb : Nat} {N : List Int} {tv : Value} {m : Nat} {y : TermD} : ∀ (G1 G2 : AH) (i : Nat) (v : Value), G1.length ≤ G2.length → (∀ j, j < G1.length → hget G2 j = hget G1 j) → doZV p rb n7 tb N tv m y G1 i v → doZV p rb n7 tb N tv m y G2 i v := fun G1 G2 i v h1 h2 h => by
 unfold doZV at h ⊢
 split at h
 all_goals first | exact h | (obtain ⟨kx, w1, w2⟩ := h; exact ⟨kx, w1, CD.Val.low (fun j hj => h2 j hj) w2⟩)
theorem do_ac {γ : Nat → Option Nat} {H0 H : AH} {S : List Nat} {p tb rb n : Nat} {kv : Value} {T : List TermD} {l : List (List Int)} (hpw : Pw γ H0) (h : Pl H0 S H tb rb kv T T l) (hp : hget H p = some ⟨[.pointer (some ⟨tb, 0, none⟩), .pointer (some ⟨rb, 0, none⟩), kv], 39, none⟩) (hpS : p ∈ S) (hpn : H0.length ≤ p) (ok : OkP T l n) (hn : n ≤ 60) {C : List Value} {x : StepD} {sv : Value} (hc : StC H0 C x sv) (hx : x.Wf) :
  AC Tryd.prog H0.length γ 9 #[.pointer (some ⟨p, 0, none⟩), .agg C.toArray] H (DoQ H0 S H p tb rb n) := by
 have cl := hc.len
 have hk32 : K32 l := fun k hk => (ok.kk k hk).1
 have h0l : 0 < l.length := by have := ok.l2; omega
 have hlm : l.length ≤ 1000000 := by have := ok.ll; omega
 have hTm : T.length ≤ 180 := by have := ok.tl; omega
 have hts9 : x.text.size ≤ 9223372036854775807 := by have := hx.text; simp only [maxLen] at this; omega
 obtain ⟨nC, hnC⟩ : ∃ nC, nC = H.length := ⟨_, rfl⟩
 obtain ⟨B, hB⟩ : ∃ B : AH, B = H ++ [some ⟨C, 31, none⟩] := ⟨_, rfl⟩
 have gC : hget B nC = some ⟨C, 31, none⟩ := by rw [hB, hnC, hget_app0]; rfl
 have hBl : B.length = nC + 1 := by rw [hB, hnC]; simp
 have lwB : Low H.length H B := by rw [hB]; exact Low.push (Nat.le_refl _) _
 have hlC := hget_lt gC
 have hnH : H0.length ≤ H.length := h.lw.2
 refine ac_of_aw Tryd.func9 rfl Tryd.ntmps9 Tryd.results9 (by simp) ?_
 (refine aw_seq (aoo fun K hK => ?_); simp (disch := first | omega | (simp only [lnS]; try omega)) [-getElem?_pos, -getElem?_neg, cl]; refine hK _ _ ?_; clear hK K)
 rw [← hB, ← hnC]
 clear hB
 have hP1 : Pl H0 ([nC] ++ S) B tb rb kv T T l := h.push lwB (fun j hj => by rw [List.mem_singleton.1 hj]; omega)
 have gp1 := (lwB.1 p (hget_lt hp)).trans hp
 obtain ⟨_, _, ldt, _, _, lda⟩ := hc.loads hx gC
 refine aw_seq (aw_seq ?_)
 by_cases ht3 : x.text.size ≤ 300
 case neg =>
  have ht3' : (300 : Int) < x.text.size := by omega
  (refine aoo fun K hK => ?_; simp (disch := first | omega | (simp only [lnS]; try omega)) [-getElem?_pos, -getElem?_neg, -xload, ldt, hts9, ht3']; refine hK _ _ ?_; clear hK K)
  refine aw_t (by (first | (simp; done) | (simp; omega))) (by kernel_rfl) ?_
  (refine aw_seq (aoo fun K hK => ?_); simp (disch := first | omega | (simp only [lnS]; try omega)) [-getElem?_pos, -getElem?_neg]; refine hK _ _ ?_; clear hK K)
  (refine aw_ret ?_; simp (disch := first | omega | (simp only [lnS]; try omega)) [-getElem?_pos, -getElem?_neg, thenQ_ret, scopeQ_ret, inBlockQ_ret, RQ, resL, resV])
  exact ⟨rfl, kv, T, l, gp1, hP1.less (fun j hj => by simp [hj]), ok.up, fun j hj _ => lwB.1 j (h.sl hj)⟩
 have ht3' : ¬ (300 : Int) < x.text.size := by omega
 have ht1 : x.text.size ≤ 10000000 := by omega
 (refine aoo fun K hK => ?_; simp (disch := first | omega | (simp only [lnS]; try omega)) [-getElem?_pos, -getElem?_neg, -xload, ldt, hts9, ht3']; refine hK _ _ ?_; clear hK K)
 refine aw_f (by (first | (simp; done) | (simp; omega))) (by kernel_rfl) ?_
 refine aw_skip (aw_seq ?_)
 obtain ⟨A, hA⟩ : ∃ A, A = atK l x.at_ := ⟨_, rfl⟩
 obtain ⟨D, hD⟩ : ∃ D, D = atK l (x.keys.getD 0 0) := ⟨_, rfl⟩
 obtain ⟨zA, bA⟩ := ok.kk _ (atK_mem h0l x.at_)
 obtain ⟨zD, bD⟩ := ok.kk _ (atK_mem h0l (x.keys.getD 0 0))
 have htwo := two_rc (γ := γ) gp1 (hP1.ksv hk32) hk32 h0l hlm (hc.lowN (fun j hj => hP1.lw.1 j hj)) hx
 rw [← hA, ← hD] at htwo
 rw [← hA] at zA bA
 rw [← hD] at zD bD
 have tA : (iv .u8 A).take 32 = iv .u8 A := List.take_of_length_le (by simp [zA])
 have sA : setR (iv .u8 (zl 32)) 0 (iv .u8 A) = iv .u8 A := setR_all _ _ (by simp [zA])
 have tD : (iv .u8 D).take 32 = iv .u8 D := List.take_of_length_le (by simp [zD])
 have sD : setR (iv .u8 (zl 32)) 0 (iv .u8 D) = iv .u8 D := setR_all _ _ (by simp [zD])
 have hblA := byteList_iv A
 refine aoo fun K hK => ?_
 simp (disch := first | omega | (simp only [lnS]; try omega)) [-getElem?_pos, -getElem?_neg, -xload, lda]
 refine ⟨by kernel_rfl, ac_of_rc htwo (by simp [pv_iv, pv_int, pv_bool, pv_string, pv_tup2, pv_tup3, iv_plain, p2_int, p2_bool, p2_string]) ?_⟩
 try simp (disch := first | omega | (simp only [lnS]; try omega)) [-getElem?_pos, -getElem?_neg, zA, tA, sA, zD, tD, sD]
 refine hK _ _ ?_; clear hK K
 obtain ⟨nA, hnA⟩ : ∃ nA, nA = B.length := ⟨_, rfl⟩
 obtain ⟨B3, hB3⟩ : ∃ B3 : AH, B3 = B ++ [some ⟨iv .u8 A, 28, none⟩, some ⟨iv .u8 D, 28, none⟩] := ⟨_, rfl⟩
 have gA : hget B3 nA = some ⟨iv .u8 A, 28, none⟩ := by rw [hB3, hnA, hget_app0]; rfl
 have gD : hget B3 (nA + 1) = some ⟨iv .u8 D, 28, none⟩ := by rw [hB3, hnA, hget_app]; rfl
 have lwB3 : Low B.length B B3 := by rw [hB3]; exact Low.push (Nat.le_refl _) _
 have hB3l : B3.length = nA + 2 := by rw [hB3, hnA]; simp
 rw [← hB3, ← hnA]
 clear hB3
 have gp := (lwB3.1 p (hget_lt gp1)).trans gp1
 have gC := (lwB3.1 nC hlC).trans gC
 obtain ⟨S3, hS3⟩ : ∃ S3 : List Nat, S3 = [nA, nA + 1] ++ ([nC] ++ S) := ⟨_, rfl⟩
 have hP3 : Pl H0 S3 B3 tb rb kv T T l := by
  rw [hS3]
  exact hP1.push lwB3 (fun j hj => by
   simp only [List.mem_cons, List.not_mem_nil, or_false] at hj
   omega)
 have hS3k : ∀ j ∈ S, j ∈ S3 ∧ hget B3 j = hget H j := fun j hj => ⟨by rw [hS3]; simp [hj], (lwB3.1 j (by have := h.sl hj; omega)).trans (lwB.1 j (h.sl hj))⟩
 have i1 : p ∈ S3 := (hS3k p hpS).1
 have i2 : nC ∈ S3 := by rw [hS3]; simp
 have i3 : nA ∈ S3 := by rw [hS3]; simp
 have i4 : nA + 1 ∈ S3 := by rw [hS3]; simp
 clear hP1 gp1 htwo lda ldt lwB3 hS3
 obtain ⟨hm1, hm2, hm3⟩ := ok.mark ht3
 obtain ⟨T1, hT1⟩ : ∃ T1, T1 = markT T x.text := ⟨_, rfl⟩
 obtain ⟨M, hM⟩ : ∃ M, M = markV T x.text := ⟨_, rfl⟩
 have zM : M.length = 32 := by rw [hM]; exact markV_len _ _
 rw [← hT1] at hm1 hm2 hm3
 have hmA : ∀ X, markT X (strOfNums A) = X ∧ markV X (strOfNums A) = A := fun X => by
  have : (strOfNums A).size = 32 := by rw [sn_size, zA]
  unfold markT markV
  rw [if_pos this, if_pos this, nums_of _ bA]
  exact ⟨rfl, rfl⟩
 have hT1m : T1.length ≤ 200 := by omega
 refine aw_seq (aw_seq ?_)
 refine name_aw (fun β hβ => ?_)
 have e0 : β 0 = .pointer (some ⟨p, 0, none⟩) := by rw [hβ]; (first | (simp; done) | rfl)
 have e3 : β 3 = .pointer (some ⟨nC, 0, none⟩) := by rw [hβ]; (first | (simp; done) | rfl)
 have e5 : β 5 = .pointer (some ⟨nA, 0, none⟩) := by rw [hβ]; (first | (simp; done) | rfl)
 have e6 : β 6 = .pointer (some ⟨nA + 1, 0, none⟩) := by rw [hβ]; (first | (simp; done) | rfl)
 clear hβ
 refine aw_inv doMP (JT doMD (doMV p nC nA tb rb x.text A M) β (MP 16 23 H0 B3 S3 tb rb kv T T1 T T1 l)) (by kernel_rfl) (by kernel_rfl) (by kernel_rfl) ?_ ?_ ?_
 ·exact ⟨by simp; rfl, fun _ _ => rfl, fun i t' hi h => (by rw [gs_0] at h; cases h), by rw [gs_0, gs_0]; exact hP3, fun _ _ => rfl⟩
 ·intro i s α G k hJ hi0 hsi hd hcc hcont
  obtain ⟨jp, jk⟩ := hJ.hp
  have j0 := (hJ.lo 0 (by decide)).trans e0
  have j3 := (hJ.lo 3 (by decide)).trans e3
  have j5 := (hJ.lo 5 (by decide)).trans e5
  have gp := (jk p i1).trans gp
  have gA := (jk nA i3).trans gA
  have gC := (jk nC i2).trans gC
  have lp := hget_lt gp
  have lA := hget_lt gA
  obtain ⟨_, _, ldt, _, _, _⟩ := hc.loads hx gC
  have hi : i = 0 ∨ i = 1 ∨ i = 2 ∨ i = 3 ∨ i = 4 ∨ i = 5 ∨ i = 6 ∨ i = 7 ∨ i = 8 ∨ i = 9 ∨ i = 10 ∨ i = 11 ∨ i = 12 ∨ i = 13 ∨ i = 14 ∨ i = 15 ∨ i = 16 ∨ i = 17 ∨ i = 18 ∨ i = 19 ∨ i = 20 ∨ i = 21 ∨ i = 22 ∨ i = 23 ∨ i = 24 ∨ i = 25 := by have hi0 : i < 26 := hi0; omega
  rcases hi with rfl | rfl | rfl | rfl | rfl | rfl | rfl | rfl | rfl | rfl | rfl | rfl | rfl | rfl | rfl | rfl | rfl | rfl | rfl | rfl | rfl | rfl | rfl | rfl | rfl | rfl
  ·simp (disch := first | omega | (simp only [lnS]; try omega)) [-getElem?_pos, -getElem?_neg, -notTuple, j0]
   exact hcont _ _ (hJ.put doM_nd (t := 29) rfl rfl (hJ.hp.keep (by decide)))
  ·have f0 : α 29 = .pointer (some ⟨p, 0, none⟩) := hJ.val 0 29 rfl (hd 0 (by decide))
   simp (disch := first | omega | (simp only [lnS]; try omega)) [-getElem?_pos, -getElem?_neg, -notTuple, f0]
   exact hcont _ _ (hJ.put doM_nd (t := 30) rfl rfl (hJ.hp.keep (by decide)))
  ·have f1 : α 30 = .pointer (some ⟨p, 0, none⟩) := hJ.val 1 30 rfl (hd 1 (by decide))
   simp (disch := first | omega | (simp only [lnS]; try omega)) [-getElem?_pos, -getElem?_neg, -notTuple, f1]
   exact hcont _ _ (hJ.put doM_nd (t := 31) rfl rfl (hJ.hp.keep (by decide)))
  ·have f2 : α 31 = .pointer (some ⟨p, 0, none⟩) := hJ.val 2 31 rfl (hd 2 (by decide))
   simp (disch := first | omega | (simp only [lnS]; try omega)) [-getElem?_pos, -getElem?_neg, -notTuple, gp, lp, f2]
   exact hcont _ _ (hJ.put doM_nd (t := 32) rfl rfl (hJ.hp.keep (by decide)))
  ·simp (disch := first | omega | (simp only [lnS]; try omega)) [-getElem?_pos, -getElem?_neg, -notTuple, j5, gA, lA]
   exact hcont _ _ (hJ.put doM_nd (t := 33) rfl rfl (hJ.hp.keep (by decide)))
  ·have f4 : α 33 = .slice (some ⟨nA, 0, none⟩) 32 32 := hJ.val 4 33 rfl (hd 4 (by decide))
   simp (disch := first | omega | (simp only [lnS]; try omega)) [-getElem?_pos, -getElem?_neg, -notTuple, gA, lA, zA, tA, hblA, f4]
   exact hcont _ _ (hJ.put doM_nd (t := 34) rfl rfl (hJ.hp.keep (by decide)))
  ·have f3 : α 32 = .pointer (some ⟨tb, 0, none⟩) := hJ.val 3 32 rfl (hd 3 (by decide))
   have f5 : α 34 = .string (strOfNums A) := hJ.val 5 34 rfl (hd 5 (by decide))
   simp (disch := first | omega | (simp only [lnS]; try omega)) [-getElem?_pos, -getElem?_neg, f3, f5]
   refine ⟨by kernel_rfl, AC.mono (pl_mark hpw jp (s := strOfNums A) (by rw [sn_size, zA]; omega) (by split <;> omega)) ?_⟩
   rintro v' G' ⟨rfl, q1, q2⟩
   rw [(hmA _).1] at q1
   rw [(hmA _).2]
   exact hcont _ _ (hJ.put doM_nd (t := 35) rfl rfl ⟨by rw [gs_ne (by decide), gs_ne (by decide)]; exact q1, fun j hj => (q2 j hj).trans (jk j hj)⟩)
  ·simp (disch := first | omega | (simp only [lnS]; try omega)) [-getElem?_pos, -getElem?_neg, -notTuple, j5, gA, lA, tA, zA]
   exact hcont _ _ (hJ.put doM_nd (t := 36) rfl rfl (hJ.hp.keep (by decide)))
  ·have f6 : α 35 = .agg (iv .u8 A).toArray := hJ.val 6 35 rfl (hd 6 (by decide))
   have f7 : α 36 = .agg (iv .u8 A).toArray := hJ.val 7 36 rfl (hd 7 (by decide))
   simp (disch := first | omega | (simp only [lnS]; try omega)) [-getElem?_pos, -getElem?_neg, -notTuple, zA, f6, f7]
   exact hcont _ _ (hJ.put doM_nd (t := 37) rfl rfl (hJ.hp.keep (by decide)))
  ·have f8 : α 37 = .bool false := hJ.val 8 37 rfl (hd 8 (by decide))
   simp (disch := first | omega | (simp only [lnS]; try omega)) [-getElem?_pos, -getElem?_neg, -notTuple, f8]
   exact hcont _ _ (hJ.put doM_nd (t := 38) rfl rfl (hJ.hp.keep (by decide)))
  ·have f9 : α 38 = .bool false := hJ.val 9 38 rfl (hd 9 (by decide))
   simp (disch := first | omega | (simp only [lnS]; try omega)) [-getElem?_pos, -getElem?_neg, -notTuple, j0, f9]
   exact hcont _ _ (hJ.put doM_nd (t := 39) rfl rfl (hJ.hp.keep (by decide)))
  ·have f9 : α 38 = .bool false := hJ.val 9 38 rfl (hd 9 (by decide))
   have f10 : α 39 = .pointer (some ⟨p, 0, none⟩) := hJ.val 10 39 rfl (hd 10 (by decide))
   simp (disch := first | omega | (simp only [lnS]; try omega)) [-getElem?_pos, -getElem?_neg, -notTuple, f9, f10]
   exact hcont _ _ (hJ.put doM_nd (t := 40) rfl rfl (hJ.hp.keep (by decide)))
  ·have f9 : α 38 = .bool false := hJ.val 9 38 rfl (hd 9 (by decide))
   have f11 : α 40 = .pointer (some ⟨p, 0, none⟩) := hJ.val 11 40 rfl (hd 11 (by decide))
   simp (disch := first | omega | (simp only [lnS]; try omega)) [-getElem?_pos, -getElem?_neg, -notTuple, f9, f11]
   exact hcont _ _ (hJ.put doM_nd (t := 41) rfl rfl (hJ.hp.keep (by decide)))
  ·have f9 : α 38 = .bool false := hJ.val 9 38 rfl (hd 9 (by decide))
   have f12 : α 41 = .pointer (some ⟨p, 0, none⟩) := hJ.val 12 41 rfl (hd 12 (by decide))
   simp (disch := first | omega | (simp only [lnS]; try omega)) [-getElem?_pos, -getElem?_neg, -notTuple, gp, lp, f9, f12]
   exact hcont _ _ (hJ.put doM_nd (t := 42) rfl rfl (hJ.hp.keep (by decide)))
  ·have f9 : α 38 = .bool false := hJ.val 9 38 rfl (hd 9 (by decide))
   simp (disch := first | omega | (simp only [lnS]; try omega)) [-getElem?_pos, -getElem?_neg, -notTuple, j3, f9]
   exact hcont _ _ (hJ.put doM_nd (t := 43) rfl rfl (hJ.hp.keep (by decide)))
  ·have f9 : α 38 = .bool false := hJ.val 9 38 rfl (hd 9 (by decide))
   have f14 : α 43 = .pointer (some ⟨nC, 2, none⟩) := hJ.val 14 43 rfl (hd 14 (by decide))
   simp (disch := first | omega | (simp only [lnS]; try omega)) [-getElem?_pos, -getElem?_neg, -notTuple, -xload, ldt, f9, f14]
   exact hcont _ _ (hJ.put doM_nd (t := 44) rfl rfl (hJ.hp.keep (by decide)))
  ·have f9 : α 38 = .bool false := hJ.val 9 38 rfl (hd 9 (by decide))
   have f13 : α 42 = .pointer (some ⟨tb, 0, none⟩) := hJ.val 13 42 rfl (hd 13 (by decide))
   have f15 : α 44 = .string x.text := hJ.val 15 44 rfl (hd 15 (by decide))
   simp (disch := first | omega | (simp only [lnS]; try omega)) [-getElem?_pos, -getElem?_neg, f9, f13, f15]
   rw [if_neg (by rw [hsi]; simp)] at jp
   refine ⟨by kernel_rfl, AC.mono (pl_mark hpw jp (s := x.text) ht1 (by omega)) ?_⟩
   rintro v' G' ⟨rfl, q1, q2⟩
   rw [← hT1] at q1
   exact hcont _ _ (hJ.put doM_nd (t := 45) rfl (by rw [hM]; rfl) ⟨by rw [if_pos (gs_eq (by rw [hJ.sz]; decide)), gs_ne (by decide)]; exact q1, fun j hj => (q2 j hj).trans (jk j hj)⟩)
  ·have f9 : α 38 = .bool false := hJ.val 9 38 rfl (hd 9 (by decide))
   simp (disch := first | omega | (simp only [lnS]; try omega)) [-getElem?_pos, -getElem?_neg, -notTuple, j0, f9]
   exact hcont _ _ (hJ.put doM_nd (t := 46) rfl rfl (hJ.hp.keep (by decide)))
  ·have f9 : α 38 = .bool false := hJ.val 9 38 rfl (hd 9 (by decide))
   have f17 : α 46 = .pointer (some ⟨p, 0, none⟩) := hJ.val 17 46 rfl (hd 17 (by decide))
   simp (disch := first | omega | (simp only [lnS]; try omega)) [-getElem?_pos, -getElem?_neg, -notTuple, f9, f17]
   exact hcont _ _ (hJ.put doM_nd (t := 47) rfl rfl (hJ.hp.keep (by decide)))
  ·have f9 : α 38 = .bool false := hJ.val 9 38 rfl (hd 9 (by decide))
   have f18 : α 47 = .pointer (some ⟨p, 0, none⟩) := hJ.val 18 47 rfl (hd 18 (by decide))
   simp (disch := first | omega | (simp only [lnS]; try omega)) [-getElem?_pos, -getElem?_neg, -notTuple, f9, f18]
   exact hcont _ _ (hJ.put doM_nd (t := 48) rfl rfl (hJ.hp.keep (by decide)))
  ·have f9 : α 38 = .bool false := hJ.val 9 38 rfl (hd 9 (by decide))
   have f19 : α 48 = .pointer (some ⟨p, 1, none⟩) := hJ.val 19 48 rfl (hd 19 (by decide))
   simp (disch := first | omega | (simp only [lnS]; try omega)) [-getElem?_pos, -getElem?_neg, -notTuple, gp, lp, f9, f19]
   exact hcont _ _ (hJ.put doM_nd (t := 49) rfl rfl (hJ.hp.keep (by decide)))
  ·have f9 : α 38 = .bool false := hJ.val 9 38 rfl (hd 9 (by decide))
   simp (disch := first | omega | (simp only [lnS]; try omega)) [-getElem?_pos, -getElem?_neg, -notTuple, j3, f9]
   exact hcont _ _ (hJ.put doM_nd (t := 50) rfl rfl (hJ.hp.keep (by decide)))
  ·have f9 : α 38 = .bool false := hJ.val 9 38 rfl (hd 9 (by decide))
   have f21 : α 50 = .pointer (some ⟨nC, 2, none⟩) := hJ.val 21 50 rfl (hd 21 (by decide))
   simp (disch := first | omega | (simp only [lnS]; try omega)) [-getElem?_pos, -getElem?_neg, -notTuple, -xload, ldt, f9, f21]
   exact hcont _ _ (hJ.put doM_nd (t := 51) rfl rfl (hJ.hp.keep (by decide)))
  ·have f9 : α 38 = .bool false := hJ.val 9 38 rfl (hd 9 (by decide))
   have f20 : α 49 = .pointer (some ⟨rb, 0, none⟩) := hJ.val 20 49 rfl (hd 20 (by decide))
   have f22 : α 51 = .string x.text := hJ.val 22 51 rfl (hd 22 (by decide))
   simp (disch := first | omega | (simp only [lnS]; try omega)) [-getElem?_pos, -getElem?_neg, f9, f20, f22]
   rw [if_neg (c := s.getD 23 false = true) (by rw [hsi]; simp)] at jp
   refine ⟨by kernel_rfl, AC.mono (pl_rmark jp (s := x.text) ht1 (by omega)) ?_⟩
   rintro v' G' ⟨rfl, q1, q2⟩
   rw [← hT1] at q1
   exact hcont _ _ (hJ.put doM_nd (t := 52) rfl (by rw [hM]; rfl) ⟨by rw [gs_ne (by decide), if_pos (c := (s.setIfInBounds 23 true).getD 23 false = true) (gs_eq (by rw [hJ.sz]; decide))]; exact q1, fun j hj => (q2 j hj).trans (jk j hj)⟩)
  ·have f9 : α 38 = .bool false := hJ.val 9 38 rfl (hd 9 (by decide))
   have f16 : α 45 = .agg (iv .u8 M).toArray := hJ.val 16 45 rfl (hd 16 (by decide))
   have f23 : α 52 = .agg (iv .u8 M).toArray := hJ.val 23 52 rfl (hd 23 (by decide))
   simp (disch := first | omega | (simp only [lnS]; try omega)) [-getElem?_pos, -getElem?_neg, -notTuple, zM, f9, f16, f23]
   exact hcont _ _ (hJ.put doM_nd (t := 53) rfl rfl (hJ.hp.keep (by decide)))
  ·have f9 : α 38 = .bool false := hJ.val 9 38 rfl (hd 9 (by decide))
   have f24 : α 53 = .bool false := hJ.val 24 53 rfl (hd 24 (by decide))
   simp (disch := first | omega | (simp only [lnS]; try omega)) [-getElem?_pos, -getElem?_neg, -notTuple, f9, f24]
   exact hcont _ _ (hJ.put doM_nd (t := 54) rfl rfl (hJ.hp.keep (by decide)))
 rintro s α G hJ hall
 have hsz : s.size = 26 := hJ.sz
 have hg : ∀ i, i < 26 → s.getD i false = true := fun i hi => by
  rw [Array.getD_eq_getD_getElem?, Array.getElem?_eq_getElem (by omega)]
  exact Array.all_eq_true.1 hall i (by omega)
 obtain ⟨jp, jk⟩ := hJ.hp
 rw [if_pos (hg 16 (by omega)), if_pos (hg 23 (by omega))] at jp
 have a0 := (hJ.lo 0 (by decide)).trans e0
 have a3 := (hJ.lo 3 (by decide)).trans e3
 have a5 := (hJ.lo 5 (by decide)).trans e5
 have a6 := (hJ.lo 6 (by decide)).trans e6
 have a54 : α 54 = .bool false := hJ.val 25 54 rfl (hg 25 (by omega))
 have gp := (jk p i1).trans gp
 have gC := (jk nC i2).trans gC
 have gA := (jk nA i3).trans gA
 have gD := (jk _ i4).trans gD
 have hSk : ∀ j ∈ S, hget G j = hget H j := fun j hj => (jk j (hS3k j hj).1).trans (hS3k j hj).2
 have hSS : ∀ j ∈ S, j ∈ S3 := fun j hj => (hS3k j hj).1
 clear hall hsz hg hJ e0 e3 e5 e6 jk hP3 hS3k hmA
 refine aw_f (by (first | (simp [a54]; done) | (simp [a54]; omega))) (by kernel_rfl) ?_
 refine aw_skip (aw_seq ?_)
 (refine aoo fun K hK => ?_; simp (disch := first | omega | (simp only [lnS]; try omega)) [-getElem?_pos, -getElem?_neg]; refine hK _ _ ?_; clear hK K)
 obtain ⟨n7, hn7⟩ : ∃ n7, n7 = G.length := ⟨_, rfl⟩
 obtain ⟨B4, hB4⟩ : ∃ B4 : AH, B4 = G ++ [some ⟨iv .u8 (zl 32), 28, none⟩, some ⟨iv .u8 (zl 32), 28, none⟩] := ⟨_, rfl⟩
 have g7 : hget B4 n7 = some ⟨iv .u8 (zl 32), 28, none⟩ := by rw [hB4, hn7, hget_app0]; rfl
 have g8 : hget B4 (n7 + 1) = some ⟨iv .u8 (zl 32), 28, none⟩ := by rw [hB4, hn7, hget_app]; rfl
 have lw4 : Low G.length G B4 := by rw [hB4]; exact Low.push (Nat.le_refl _) _
 have hB4l : B4.length = n7 + 2 := by rw [hB4, hn7]; simp
 rw [← hB4, ← hn7]
 clear hB4
 have k4 : ∀ j ∈ S3, hget B4 j = hget G j ∧ j < n7 := fun j hj => ⟨lw4.1 j (jp.sl hj), by have := jp.sl hj; omega⟩
 have gp := (k4 p i1).1.trans gp
 have gC := (k4 nC i2).1.trans gC
 have gA := (k4 nA i3).1.trans gA
 have gD := (k4 _ i4).1.trans gD
 obtain ⟨S4, hS4⟩ : ∃ S4 : List Nat, S4 = [n7, n7 + 1] ++ S3 := ⟨_, rfl⟩
 have hP4 : Pl H0 S4 B4 tb rb kv T1 T1 l := by
  rw [hS4]
  exact jp.push lw4 (fun j hj => by
   simp only [List.mem_cons, List.not_mem_nil, or_false] at hj
   omega)
 have hSk : ∀ j ∈ S, hget B4 j = hget H j ∧ j ∈ S4 ∧ j < n7 := fun j hj => ⟨(k4 j (hSS j hj)).1.trans (hSk j hj), by rw [hS4]; simp [hSS j hj], (k4 j (hSS j hj)).2⟩
 have o1 : p ∈ S4 ∧ p < n7 := ⟨(hSk p hpS).2.1, (hSk p hpS).2.2⟩
 have o2 : nC ∈ S4 ∧ nC < n7 := ⟨by rw [hS4]; simp [i2], (k4 nC i2).2⟩
 have o3 : nA ∈ S4 ∧ nA < n7 := ⟨by rw [hS4]; simp [i3], (k4 nA i3).2⟩
 have o4 : nA + 1 ∈ S4 ∧ nA + 1 < n7 := ⟨by rw [hS4]; simp [i4], (k4 _ i4).2⟩
 have o7 : n7 ∈ S4 := by rw [hS4]; simp
 have o8 : n7 + 1 ∈ S4 := by rw [hS4]; simp
 have hn7H : H0.length ≤ n7 := by have := jp.lw.2; omega
 clear hS4 k4 jp lw4 i1 i2 i3 i4 hSS lwB hBl hlC hB3l hn7 hnA hnC
 refine aw_seq ?_
 refine aw_cut (fun α G => α 0 = .pointer (some ⟨p, 0, none⟩) ∧ α 7 = .pointer (some ⟨n7, 0, none⟩) ∧ α 8 = .pointer (some ⟨n7 + 1, 0, none⟩) ∧ MidQ H0 B4 S4 n7 (n7 + 1) tb rb kv l n G) ?_ ?_
 ·refine aw_seq ?_
  refine name_aw (fun β hβ => ?_)
  obtain ⟨a0, a3, a5, a6, a7, a8⟩ : β 0 = .pointer (some ⟨p, 0, none⟩) ∧ β 3 = .pointer (some ⟨nC, 0, none⟩) ∧ β 5 = .pointer (some ⟨nA, 0, none⟩) ∧ β 6 = .pointer (some ⟨nA + 1, 0, none⟩) ∧ β 7 = .pointer (some ⟨n7, 0, none⟩) ∧ β 8 = .pointer (some ⟨n7 + 1, 0, none⟩) := ⟨by rw [hβ]; (first | (simp [a0]; done) | rfl), by rw [hβ]; (first | (simp [a3]; done) | rfl), by rw [hβ]; (first | (simp [a5]; done) | rfl), by rw [hβ]; (first | (simp [a6]; done) | rfl), by rw [hβ]; (first | (simp; done) | rfl), by rw [hβ]; (first | (simp; done) | rfl)⟩
  clear hβ
  obtain ⟨ld0, _, ldt, ldr, _, lda⟩ := hc.loads hx gC
  obtain ⟨m8, hm8⟩ : ∃ m8 : Int, m8 = x.kind.tmod 8 := ⟨_, rfl⟩
  have hm8l : -8 < m8 := by rw [hm8]; have := Int.tmod_lt_of_pos (-x.kind) (b := 8) (by omega); rw [Int.neg_tmod] at this; omega
  have hm8u : m8 < 8 := by rw [hm8]; exact Int.tmod_lt_of_pos _ (by omega)
  (refine aoo fun K hK => ?_; simp (disch := first | omega | (simp only [lnS]; try omega)) [-getElem?_pos, -getElem?_neg, a3, -xload, ld0, ← hm8]; refine hK _ _ ?_; clear hK K)
  have hn8H : H0.length ≤ n7 + 1 := by omega
  have l7 := hget_lt g7
  have l8 := hget_lt g8
  obtain ⟨ldp0, ldp1, ldp2⟩ := play_loads gp
  have ldA := key_load zA gA
  have ldD := key_load zD gD
  have hP := hP4
  refine aw_block ?_
  refine aw_seq ?_
  by_cases e1 : m8 = 1
  case pos =>
   have f1 : (m8 == 1) = true := by rw [beq_iff_eq]; exact e1
   (refine aoo fun K hK => ?_; simp (disch := first | omega | (simp only [lnS]; try omega)) [-getElem?_pos, -getElem?_neg, e1, f1]; refine hK _ _ ?_; clear hK K)
   refine aw_t (by (first | (simp; done) | (simp; omega))) (by kernel_rfl) ?_
   refine aw_seq ?_
   obtain ⟨X, hX⟩ : ∃ X : TermD, X = ⟨1, x.text, []⟩ := ⟨_, rfl⟩
   have hXw : X.Wf := by rw [hX]; exact wf_0 (.inl rfl) (by omega)
   obtain ⟨N, hN⟩ : ∃ N : List Int, N = nmL (nameT X T1 : Nat) := ⟨_, rfl⟩
   have lN : N.length = 32 := by rw [hN]; rfl
   have bN : By N := by rw [hN]; exact nmL_by _
   have tN : (iv .u8 N).take 32 = iv .u8 N := List.take_of_length_le (by simp [lN])
   have sN : setR (iv .u8 (zl 32)) 0 (iv .u8 N) = iv .u8 N := setR_all _ _ (by simp [lN])
   obtain ⟨w1, w2, w3⟩ := add_ok hm1 hm2 hXw (by rw [hX]; exact Nat.zero_le _)
   (refine aw_plan [] [] [0, 1, 2, 3, 4, 5] 6 2 (by kernel_rfl) (by kernel_rfl) (by kernel_rfl) (fun K hK => ?_)); simp only [sel, List.getElem?_cons_succ, List.getElem?_cons_zero, List.drop_succ_cons, List.drop_zero]; simp (disch := first | omega | (simp only [lnS]; try omega)) [-getElem?_pos, -getElem?_neg, a0, a3, -xload, ldp0, ldt, -notTuple, PL_nil, plainB_lit, PL_cons, PLc_val, PLc_new, stepP_t, stepP_f, stepPC_n, stepPC_s, stepPX_s, stepPX_n, stepPV_n, stepPV_s, stepPA_t, stepPA_c, stepPA_l, stepPN_s, allocOp, reloc_sl, reloc_ptr, List.map_cons, List.map_nil, List.nil_append, List.append_assoc, List.cons_append, Nat.add_assoc]
   refine ⟨by kernel_rfl, AC.mono (pl_draw hpw hP (s := x.text) (by omega) (by omega)) ?_⟩
   rintro v' G5 ⟨hv', q5, k5⟩
   rw [← hX] at hv' q5
   have hv2 : v' = .agg (iv .u8 N).toArray := hv'.trans (by rw [hN]; rfl)
   subst hv2
   have g7 := (k5 _ o7).trans g7
   have l7 := hget_lt g7
   try simp (disch := first | omega | (simp only [lnS]; try omega)) [-getElem?_pos, -getElem?_neg, a7, g7, l7, hn7H, lN, tN, sN]
   refine hK _ _ ?_; clear hK K
   obtain ⟨G6, hG6⟩ : ∃ G6 : AH, G6 = G5.set n7 (some ⟨iv .u8 N, 28, none⟩) := ⟨_, rfl⟩
   have g67 : hget G6 n7 = some ⟨iv .u8 N, 28, none⟩ := by rw [hG6, hget_set_eq l7]
   have k6 : ∀ j ∈ S4, j ≠ n7 → hget G6 j = hget B4 j := fun j hj hn => by rw [hG6, hget_set_ne (Ne.symm hn)]; exact k5 j hj
   have q6 : Pl H0 S4 G6 tb rb kv (addT X T1) T1 l := by rw [hG6]; exact q5.set o7 hn7H _
   rw [← hG6]
   clear hG6
   obtain ⟨ldp0, ldp1, _⟩ := play_loads ((k6 p o1.1 (by omega)).trans gp)
   obtain ⟨_, _, ldt, _, _, _⟩ := hc.loads hx ((k6 nC o2.1 (by omega)).trans gC)
   have hmk := pl_make (γ := γ) q6 (x := ⟨1, x.text, []⟩) (by rw [← hX]; exact hXw) (ks_nil _) (by omega)
   (refine aw_plan [] [] [0, 1, 2, 3, 4, 5] 6 2 (by kernel_rfl) (by kernel_rfl) (by kernel_rfl) (fun K hK => ?_)); simp only [sel, List.getElem?_cons_succ, List.getElem?_cons_zero, List.drop_succ_cons, List.drop_zero]; simp (disch := first | omega | (simp only [lnS]; try omega)) [-getElem?_pos, -getElem?_neg, a0, a3, -xload, ldp1, ldt, -notTuple, PL_nil, plainB_lit, PL_cons, PLc_val, PLc_new, stepP_t, stepP_f, stepPC_n, stepPC_s, stepPX_s, stepPX_n, stepPV_n, stepPV_s, stepPA_t, stepPA_c, stepPA_l, stepPN_s, allocOp, reloc_sl, reloc_ptr, List.map_cons, List.map_nil, List.nil_append, List.append_assoc, List.cons_append, Nat.add_assoc]
   refine ⟨by kernel_rfl, AC.mono hmk ?_⟩
   rintro v' G7 ⟨hv', q7, k7⟩
   rw [← hX] at hv' q7
   have hv2 : v' = .agg (iv .u8 N).toArray := hv'.trans (by rw [hN]; rfl)
   subst hv2
   have g8 := (k7 _ o8).trans ((k6 _ o8 (by omega)).trans g8)
   have l8 := hget_lt g8
   try simp (disch := first | omega | (simp only [lnS]; try omega)) [-getElem?_pos, -getElem?_neg, a8, g8, l8, hn8H, lN, tN, sN]
   refine hK _ _ ?_; clear hK K
   exact ⟨by (first | (simp [a0]; done) | rfl), by (first | (simp [a7]; done) | rfl), by (first | (simp [a8]; done) | rfl), N, addT X T1, lN, bN, (hget_set_ne (by omega)).trans ((k7 _ o7).trans g67), hget_set_eq l8, q7.set o8 hn8H _, w1, w2, by omega, fun j hj h7 h8 => (hget_set_ne (Ne.symm h8)).trans ((k7 j hj).trans (k6 j hj h7))⟩
  have f1 : (m8 == 1) = false := by rw [beq_eq_false_iff_ne]; exact e1
  (refine aoo fun K hK => ?_; simp (disch := first | omega | (simp only [lnS]; try omega)) [-getElem?_pos, -getElem?_neg, e1, f1]; refine hK _ _ ?_; clear hK K)
  refine aw_f (by (first | (simp; done) | (simp; omega))) (by kernel_rfl) ?_
  refine aw_seq ?_
  by_cases e2 : m8 = 2
  case pos =>
   have f2 : (m8 == 2) = true := by rw [beq_iff_eq]; exact e2
   (refine aoo fun K hK => ?_; simp (disch := first | omega | (simp only [lnS]; try omega)) [-getElem?_pos, -getElem?_neg, e2, f2]; refine hK _ _ ?_; clear hK K)
   refine aw_t (by (first | (simp; done) | (simp; omega))) (by kernel_rfl) ?_
   refine aw_seq ?_
   have hnk := namedL_k h0l ok.kk x
   have hnk32 : K32 (namedL l x) := fun z hz => (hnk z hz).1
   have hn5 : (namedL l x).length ≤ 5 := by unfold namedL; rw [List.length_map, List.length_take]; omega
   obtain ⟨X, hX⟩ : ∃ X : TermD, X = ⟨2, x.text, namedL l x⟩ := ⟨_, rfl⟩
   have hXw : X.Wf := by rw [hX]; exact wf_kind2 ht3 hnk hn5
   obtain ⟨N, hN⟩ : ∃ N : List Int, N = nmL (nameT X T1 : Nat) := ⟨_, rfl⟩
   have lN : N.length = 32 := by rw [hN]; rfl
   have bN : By N := by rw [hN]; exact nmL_by _
   have tN : (iv .u8 N).take 32 = iv .u8 N := List.take_of_length_le (by simp [lN])
   have sN : setR (iv .u8 (zl 32)) 0 (iv .u8 N) = iv .u8 N := setR_all _ _ (by simp [lN])
   obtain ⟨w1, w2, w3⟩ := add_ok hm1 hm2 hXw (by rw [hX]; show (namedL l x).length ≤ 7; omega)
   obtain ⟨T2, hT2⟩ : ∃ T2, T2 = addT X T1 := ⟨_, rfl⟩
   rw [← hT2] at w1 w2 w3
   refine name_aw (fun β hβ => ?_)
   have b0 : β 0 = .pointer (some ⟨p, 0, none⟩) := by rw [hβ]; (first | (simp [a0]; done) | rfl)
   have b3 : β 3 = .pointer (some ⟨nC, 0, none⟩) := by rw [hβ]; (first | (simp [a3]; done) | rfl)
   have b5 : β 5 = .pointer (some ⟨nA, 0, none⟩) := by rw [hβ]; (first | (simp [a5]; done) | rfl)
   have b6 : β 6 = .pointer (some ⟨nA + 1, 0, none⟩) := by rw [hβ]; (first | (simp [a6]; done) | rfl)
   have b7 : β 7 = .pointer (some ⟨n7, 0, none⟩) := by rw [hβ]; (first | (simp [a7]; done) | rfl)
   have b8 : β 8 = .pointer (some ⟨n7 + 1, 0, none⟩) := by rw [hβ]; (first | (simp [a8]; done) | rfl)
   clear hβ
   refine aw_inv doHP (JT doHD (doHV p nC tb rb x.text A D N C) β (NP 8 9 10 84 n7 H0 B4 S4 tb rb kv T1 T2 T1 T1 l (namedL l x) (some ⟨iv .u8 N, 28, none⟩))) (by kernel_rfl) (by kernel_rfl) (by kernel_rfl) ?_ ?_ ?_
   ·exact ⟨by simp; rfl, fun _ _ => rfl, fun i t' hi h => (by rw [gs_0] at h; cases h), [], by rw [gs_0]; exact hP, fun _ _ _ => rfl, by rw [gs_0]; rfl, fun h => (by rw [gs_0] at h; cases h)⟩
   ·intro i s α G k hJ hi0 hsi hd hcc hcont
    obtain ⟨Fv, jp, jk, jx, jo⟩ := hJ.hp
    have j0 := (hJ.lo 0 (by decide)).trans b0
    have j3 := (hJ.lo 3 (by decide)).trans b3
    have j5 := (hJ.lo 5 (by decide)).trans b5
    have j6 := (hJ.lo 6 (by decide)).trans b6
    have j7 := (hJ.lo 7 (by decide)).trans b7
    have j8 := (hJ.lo 8 (by decide)).trans b8
    have gp := (jk p o1.1 (by omega)).trans gp
    have gC := (jk nC o2.1 (by omega)).trans gC
    have gA := (jk nA o3.1 (by omega)).trans gA
    have gD := (jk _ o4.1 (by omega)).trans gD
    obtain ⟨ldp0, ldp1, _⟩ := play_loads gp
    obtain ⟨_, _, ldt, _, _, lda⟩ := hc.loads hx gC
    have ldA := key_load zA gA
    have ldD := key_load zD gD
    have hnG : H0.length ≤ G.length := jp.lw.2
    have hi : i = 0 ∨ i = 1 ∨ i = 2 ∨ i = 3 ∨ i = 4 ∨ i = 5 ∨ i = 6 ∨ i = 7 ∨ i = 8 ∨ i = 9 ∨ i = 10 := by have hi0 : i < 11 := hi0; omega
    rcases hi with rfl | rfl | rfl | rfl | rfl | rfl | rfl | rfl | rfl | rfl | rfl
    ·simp (disch := first | omega | (simp only [lnS]; try omega)) [-getElem?_pos, -getElem?_neg, -notTuple, j0]
     exact hcont _ _ (hJ.put doH_nd (t := 76) rfl rfl (hJ.hp.keep (by decide) (by decide)))
    ·have f0 : α 76 = .pointer (some ⟨p, 0, none⟩) := hJ.val 0 76 rfl (hd 0 (by decide))
     simp (disch := first | omega | (simp only [lnS]; try omega)) [-getElem?_pos, -getElem?_neg, -notTuple, f0]
     exact hcont _ _ (hJ.put doH_nd (t := 77) rfl rfl (hJ.hp.keep (by decide) (by decide)))
    ·have f1 : α 77 = .pointer (some ⟨p, 0, none⟩) := hJ.val 1 77 rfl (hd 1 (by decide))
     simp (disch := first | omega | (simp only [lnS]; try omega)) [-getElem?_pos, -getElem?_neg, -notTuple, f1]
     exact hcont _ _ (hJ.put doH_nd (t := 78) rfl rfl (hJ.hp.keep (by decide) (by decide)))
    ·have f2 : α 78 = .pointer (some ⟨p, 0, none⟩) := hJ.val 2 78 rfl (hd 2 (by decide))
     simp (disch := first | omega | (simp only [lnS]; try omega)) [-getElem?_pos, -getElem?_neg, -notTuple, -xload, ldp0, f2]
     exact hcont _ _ (hJ.put doH_nd (t := 79) rfl rfl (hJ.hp.keep (by decide) (by decide)))
    ·simp (disch := first | omega | (simp only [lnS]; try omega)) [-getElem?_pos, -getElem?_neg, -notTuple, j3]
     exact hcont _ _ (hJ.put doH_nd (t := 80) rfl rfl (hJ.hp.keep (by decide) (by decide)))
    ·have f4 : α 80 = .pointer (some ⟨nC, 2, none⟩) := hJ.val 4 80 rfl (hd 4 (by decide))
     simp (disch := first | omega | (simp only [lnS]; try omega)) [-getElem?_pos, -getElem?_neg, -notTuple, -xload, ldt, f4]
     exact hcont _ _ (hJ.put doH_nd (t := 81) rfl rfl (hJ.hp.keep (by decide) (by decide)))
    ·simp (disch := first | omega | (simp only [lnS]; try omega)) [-getElem?_pos, -getElem?_neg, -notTuple, j0]
     exact hcont _ _ (hJ.put doH_nd (t := 82) rfl rfl (hJ.hp.keep (by decide) (by decide)))
    ·simp (disch := first | omega | (simp only [lnS]; try omega)) [-getElem?_pos, -getElem?_neg, -notTuple, j3, -xload, lda]
     exact hcont _ _ (hJ.put doH_nd (t := 83) rfl rfl (hJ.hp.keep (by decide) (by decide)))
    ·have f6 : α 82 = .pointer (some ⟨p, 0, none⟩) := hJ.val 6 82 rfl (hd 6 (by decide))
     have f7 : α 83 = .agg C.toArray := hJ.val 7 83 rfl (hd 7 (by decide))
     simp (disch := first | omega | (simp only [lnS]; try omega)) [-getElem?_pos, -getElem?_neg, f6, f7]
     refine ⟨by kernel_rfl, AC.mono (named_ac (nro := H0.length) jp.lw.2 gp (jp.ksv hk32) hk32 h0l hlm (hc.lowN (fun j hj => jp.lw.1 j hj)) hx) ?_⟩
     rintro v' G' ⟨lwq, Fk, ho, hF⟩
     exact hcont _ _ (hJ.put doH_nd (t := 84) rfl trivial ⟨Fk, by rw [gs_ne (by decide)]; exact (jp.push lwq (S2 := Fk) (fun j hj => ⟨hF j hj, ho.lt j hj⟩)).less (fun j hj => by simp only [List.mem_append] at hj ⊢; rcases hj with e | e <;> simp [e]), fun j hj hn => (lwq.1 j (jp.sl (by simp [hj]))).trans (jk j hj hn), by rw [gs_ne (by decide)]; exact (lwq.1 _ (jp.sl (by simp [o7, o8]))).trans jx, fun _ _ => by simpa [put_at] using ho⟩)
    ·have f3 : α 79 = .pointer (some ⟨tb, 0, none⟩) := hJ.val 3 79 rfl (hd 3 (by decide))
     have f5 : α 81 = .string x.text := hJ.val 5 81 rfl (hd 5 (by decide))
     have ow := jo (hd 8 (by decide)) hsi
     rw [if_neg (by rw [hsi]; simp), if_neg (by rw [hsi]; simp)] at jp
     obtain ⟨w, hw⟩ : ∃ w, w = α 84 := ⟨_, rfl⟩
     rw [← hw] at ow
     have hw := hw.symm
     have wn := ownF_nt ow
     simp (disch := first | omega | (simp only [lnS]; try omega)) [-getElem?_pos, -getElem?_neg, f3, f5, hw, -notTuple, wn.1]
     refine ⟨by kernel_rfl, AC.mono (pl_hash hpw jp (s := x.text) (ks := namedL l x) (by rw [← hX]; exact hXw) ow (fun j hj => by simp [hj]) (by omega)) ?_⟩
     rintro v' G' ⟨hv', q1, q2⟩
     rw [← hX] at hv' q1
     have hv2 : v' = .agg (iv .u8 N).toArray := hv'.trans (by rw [hN]; rfl)
     subst hv2
     rw [← hT2] at q1
     exact hcont _ _ (hJ.put doH_nd (t := 85) rfl rfl ⟨Fv, by rw [if_pos (gs_eq (by rw [hJ.sz]; decide)), if_pos (gs_eq (by rw [hJ.sz]; decide))]; exact q1, fun j hj hn => (q2 j (by simp [hj])).trans (jk j hj hn), by rw [gs_ne (by decide)]; exact (q2 _ (by simp [o7, o8])).trans jx, fun h h2 => by rw [gs_eq (by rw [hJ.sz]; decide)] at h2; cases h2⟩)
    ·have f9 : α 85 = .agg (iv .u8 N).toArray := hJ.val 9 85 rfl (hd 9 (by decide))
     rw [if_neg (by rw [hsi]; simp)] at jx
     have gX := jx.trans g7
     have lX := hget_lt gX
     simp (disch := first | omega | (simp only [lnS]; try omega)) [-getElem?_pos, -getElem?_neg, f9, j7, gX, lX, hn7H, hn8H, sN, lN, tN]
     exact hcont _ _ (hJ.put0 rfl ⟨Fv, by rw [gs_ne (by decide)]; exact jp.set (by simp [o7, o8]) (by omega) _, fun j hj hn => (hget_set_ne (Ne.symm hn)).trans (jk j hj hn), by rw [if_pos (gs_eq (by rw [hJ.sz]; decide))]; exact hget_set_eq lX, fun _ h2 => by rw [gs_ne (by decide), hd 9 (by decide)] at h2; cases h2⟩)
   rintro s α G hJ hall
   have hsz : s.size = 11 := hJ.sz
   have hg : ∀ i, i < 11 → s.getD i false = true := fun i hi => by
    rw [Array.getD_eq_getD_getElem?, Array.getElem?_eq_getElem (by omega)]
    exact Array.all_eq_true.1 hall i (by omega)
   obtain ⟨Fv, jp, jk, jx, _⟩ := hJ.hp
   rw [if_pos (hg 9 (by omega)), if_pos (hg 9 (by omega))] at jp
   rw [if_pos (hg 10 (by omega))] at jx
   have a0 := (hJ.lo 0 (by decide)).trans b0
   have a3 := (hJ.lo 3 (by decide)).trans b3
   have a5 := (hJ.lo 5 (by decide)).trans b5
   have a6 := (hJ.lo 6 (by decide)).trans b6
   have a7 := (hJ.lo 7 (by decide)).trans b7
   have a8 := (hJ.lo 8 (by decide)).trans b8
   have hP := jp.less (S2 := S4) (fun j hj => by simp [hj])
   have gp := (jk p o1.1 (by omega)).trans gp
   have gC := (jk nC o2.1 (by omega)).trans gC
   have gA := (jk nA o3.1 (by omega)).trans gA
   have gD := (jk _ o4.1 (by omega)).trans gD
   have g7 := jx
   have g8 := (jk _ o8 (by omega)).trans g8
   clear hall hsz hg hJ b0 b3 b5 b6 b7 b8 jp
   obtain ⟨B5, hBB⟩ : ∃ B5, B5 = G := ⟨_, rfl⟩
   rw [← hBB] at hP gp gC gA gD g7 g8 jk ⊢
   clear hBB
   have B5k := jk
   refine name_aw (fun β hβ => ?_)
   have b0 : β 0 = .pointer (some ⟨p, 0, none⟩) := by rw [hβ]; (first | (simp [a0]; done) | rfl)
   have b3 : β 3 = .pointer (some ⟨nC, 0, none⟩) := by rw [hβ]; (first | (simp [a3]; done) | rfl)
   have b5 : β 5 = .pointer (some ⟨nA, 0, none⟩) := by rw [hβ]; (first | (simp [a5]; done) | rfl)
   have b6 : β 6 = .pointer (some ⟨nA + 1, 0, none⟩) := by rw [hβ]; (first | (simp [a6]; done) | rfl)
   have b7 : β 7 = .pointer (some ⟨n7, 0, none⟩) := by rw [hβ]; (first | (simp [a7]; done) | rfl)
   have b8 : β 8 = .pointer (some ⟨n7 + 1, 0, none⟩) := by rw [hβ]; (first | (simp [a8]; done) | rfl)
   clear hβ
   refine aw_inv doIP (JT doID (doIV p nC tb rb x.text A D N C) β (NP 8 9 10 94 (n7 + 1) H0 B5 S4 tb rb kv T2 T2 T1 T2 l (namedL l x) (some ⟨iv .u8 N, 28, none⟩))) (by kernel_rfl) (by kernel_rfl) (by kernel_rfl) ?_ ?_ ?_
   ·exact ⟨by simp; rfl, fun _ _ => rfl, fun i t' hi h => (by rw [gs_0] at h; cases h), [], by rw [gs_0]; exact hP, fun _ _ _ => rfl, by rw [gs_0]; rfl, fun h => (by rw [gs_0] at h; cases h)⟩
   ·intro i s α G k hJ hi0 hsi hd hcc hcont
    obtain ⟨Fv, jp, jk, jx, jo⟩ := hJ.hp
    have j0 := (hJ.lo 0 (by decide)).trans b0
    have j3 := (hJ.lo 3 (by decide)).trans b3
    have j5 := (hJ.lo 5 (by decide)).trans b5
    have j6 := (hJ.lo 6 (by decide)).trans b6
    have j7 := (hJ.lo 7 (by decide)).trans b7
    have j8 := (hJ.lo 8 (by decide)).trans b8
    have gp := (jk p o1.1 (by omega)).trans gp
    have gC := (jk nC o2.1 (by omega)).trans gC
    have gA := (jk nA o3.1 (by omega)).trans gA
    have gD := (jk _ o4.1 (by omega)).trans gD
    obtain ⟨ldp0, ldp1, _⟩ := play_loads gp
    obtain ⟨_, _, ldt, _, _, lda⟩ := hc.loads hx gC
    have ldA := key_load zA gA
    have ldD := key_load zD gD
    have hnG : H0.length ≤ G.length := jp.lw.2
    have hi : i = 0 ∨ i = 1 ∨ i = 2 ∨ i = 3 ∨ i = 4 ∨ i = 5 ∨ i = 6 ∨ i = 7 ∨ i = 8 ∨ i = 9 ∨ i = 10 := by have hi0 : i < 11 := hi0; omega
    rcases hi with rfl | rfl | rfl | rfl | rfl | rfl | rfl | rfl | rfl | rfl | rfl
    ·simp (disch := first | omega | (simp only [lnS]; try omega)) [-getElem?_pos, -getElem?_neg, -notTuple, j0]
     exact hcont _ _ (hJ.put doI_nd (t := 86) rfl rfl (hJ.hp.keep (by decide) (by decide)))
    ·have f0 : α 86 = .pointer (some ⟨p, 0, none⟩) := hJ.val 0 86 rfl (hd 0 (by decide))
     simp (disch := first | omega | (simp only [lnS]; try omega)) [-getElem?_pos, -getElem?_neg, -notTuple, f0]
     exact hcont _ _ (hJ.put doI_nd (t := 87) rfl rfl (hJ.hp.keep (by decide) (by decide)))
    ·have f1 : α 87 = .pointer (some ⟨p, 0, none⟩) := hJ.val 1 87 rfl (hd 1 (by decide))
     simp (disch := first | omega | (simp only [lnS]; try omega)) [-getElem?_pos, -getElem?_neg, -notTuple, f1]
     exact hcont _ _ (hJ.put doI_nd (t := 88) rfl rfl (hJ.hp.keep (by decide) (by decide)))
    ·have f2 : α 88 = .pointer (some ⟨p, 1, none⟩) := hJ.val 2 88 rfl (hd 2 (by decide))
     simp (disch := first | omega | (simp only [lnS]; try omega)) [-getElem?_pos, -getElem?_neg, -notTuple, -xload, ldp1, f2]
     exact hcont _ _ (hJ.put doI_nd (t := 89) rfl rfl (hJ.hp.keep (by decide) (by decide)))
    ·simp (disch := first | omega | (simp only [lnS]; try omega)) [-getElem?_pos, -getElem?_neg, -notTuple, j3]
     exact hcont _ _ (hJ.put doI_nd (t := 90) rfl rfl (hJ.hp.keep (by decide) (by decide)))
    ·have f4 : α 90 = .pointer (some ⟨nC, 2, none⟩) := hJ.val 4 90 rfl (hd 4 (by decide))
     simp (disch := first | omega | (simp only [lnS]; try omega)) [-getElem?_pos, -getElem?_neg, -notTuple, -xload, ldt, f4]
     exact hcont _ _ (hJ.put doI_nd (t := 91) rfl rfl (hJ.hp.keep (by decide) (by decide)))
    ·simp (disch := first | omega | (simp only [lnS]; try omega)) [-getElem?_pos, -getElem?_neg, -notTuple, j0]
     exact hcont _ _ (hJ.put doI_nd (t := 92) rfl rfl (hJ.hp.keep (by decide) (by decide)))
    ·simp (disch := first | omega | (simp only [lnS]; try omega)) [-getElem?_pos, -getElem?_neg, -notTuple, j3, -xload, lda]
     exact hcont _ _ (hJ.put doI_nd (t := 93) rfl rfl (hJ.hp.keep (by decide) (by decide)))
    ·have f6 : α 92 = .pointer (some ⟨p, 0, none⟩) := hJ.val 6 92 rfl (hd 6 (by decide))
     have f7 : α 93 = .agg C.toArray := hJ.val 7 93 rfl (hd 7 (by decide))
     simp (disch := first | omega | (simp only [lnS]; try omega)) [-getElem?_pos, -getElem?_neg, f6, f7]
     refine ⟨by kernel_rfl, AC.mono (named_ac (nro := H0.length) jp.lw.2 gp (jp.ksv hk32) hk32 h0l hlm (hc.lowN (fun j hj => jp.lw.1 j hj)) hx) ?_⟩
     rintro v' G' ⟨lwq, Fk, ho, hF⟩
     exact hcont _ _ (hJ.put doI_nd (t := 94) rfl trivial ⟨Fk, by rw [gs_ne (by decide)]; exact (jp.push lwq (S2 := Fk) (fun j hj => ⟨hF j hj, ho.lt j hj⟩)).less (fun j hj => by simp only [List.mem_append] at hj ⊢; rcases hj with e | e <;> simp [e]), fun j hj hn => (lwq.1 j (jp.sl (by simp [hj]))).trans (jk j hj hn), by rw [gs_ne (by decide)]; exact (lwq.1 _ (jp.sl (by simp [o7, o8]))).trans jx, fun _ _ => by simpa [put_at] using ho⟩)
    ·have f3 : α 89 = .pointer (some ⟨rb, 0, none⟩) := hJ.val 3 89 rfl (hd 3 (by decide))
     have f5 : α 91 = .string x.text := hJ.val 5 91 rfl (hd 5 (by decide))
     have ow := jo (hd 8 (by decide)) hsi
     rw [if_neg (by rw [hsi]; simp), if_neg (by rw [hsi]; simp)] at jp
     obtain ⟨w, hw⟩ : ∃ w, w = α 94 := ⟨_, rfl⟩
     rw [← hw] at ow
     have hw := hw.symm
     have wn := ownF_nt ow
     simp (disch := first | omega | (simp only [lnS]; try omega)) [-getElem?_pos, -getElem?_neg, f3, f5, hw, -notTuple, wn.1]
     refine ⟨by kernel_rfl, AC.mono (pl_make jp (x := ⟨2, x.text, namedL l x⟩) (by rw [← hX]; exact hXw) (kr_ksv ow hnk32) (by omega)) ?_⟩
     rintro v' G' ⟨hv', q1, q2⟩
     rw [← hX] at hv' q1
     have hv2 : v' = .agg (iv .u8 N).toArray := hv'.trans (by rw [hN]; rfl)
     subst hv2
     rw [← hT2] at q1
     exact hcont _ _ (hJ.put doI_nd (t := 95) rfl rfl ⟨Fv, by rw [if_pos (gs_eq (by rw [hJ.sz]; decide)), if_pos (gs_eq (by rw [hJ.sz]; decide))]; exact q1, fun j hj hn => (q2 j (by simp [hj])).trans (jk j hj hn), by rw [gs_ne (by decide)]; exact (q2 _ (by simp [o7, o8])).trans jx, fun h h2 => by rw [gs_eq (by rw [hJ.sz]; decide)] at h2; cases h2⟩)
    ·have f9 : α 95 = .agg (iv .u8 N).toArray := hJ.val 9 95 rfl (hd 9 (by decide))
     rw [if_neg (by rw [hsi]; simp)] at jx
     have gX := jx.trans g8
     have lX := hget_lt gX
     simp (disch := first | omega | (simp only [lnS]; try omega)) [-getElem?_pos, -getElem?_neg, f9, j8, gX, lX, hn7H, hn8H, sN, lN, tN]
     exact hcont _ _ (hJ.put0 rfl ⟨Fv, by rw [gs_ne (by decide)]; exact jp.set (by simp [o7, o8]) (by omega) _, fun j hj hn => (hget_set_ne (Ne.symm hn)).trans (jk j hj hn), by rw [if_pos (gs_eq (by rw [hJ.sz]; decide))]; exact hget_set_eq lX, fun _ h2 => by rw [gs_ne (by decide), hd 9 (by decide)] at h2; cases h2⟩)
   rintro s α G hJ hall
   have hsz : s.size = 11 := hJ.sz
   have hg : ∀ i, i < 11 → s.getD i false = true := fun i hi => by
    rw [Array.getD_eq_getD_getElem?, Array.getElem?_eq_getElem (by omega)]
    exact Array.all_eq_true.1 hall i (by omega)
   obtain ⟨Fv, jp, jk, jx, _⟩ := hJ.hp
   rw [if_pos (hg 9 (by omega)), if_pos (hg 9 (by omega))] at jp
   rw [if_pos (hg 10 (by omega))] at jx
   have a0 := (hJ.lo 0 (by decide)).trans b0
   have a3 := (hJ.lo 3 (by decide)).trans b3
   have a5 := (hJ.lo 5 (by decide)).trans b5
   have a6 := (hJ.lo 6 (by decide)).trans b6
   have a7 := (hJ.lo 7 (by decide)).trans b7
   have a8 := (hJ.lo 8 (by decide)).trans b8
   have hP := jp.less (S2 := S4) (fun j hj => by simp [hj])
   have gp := (jk p o1.1 (by omega)).trans gp
   have gC := (jk nC o2.1 (by omega)).trans gC
   have gA := (jk nA o3.1 (by omega)).trans gA
   have gD := (jk _ o4.1 (by omega)).trans gD
   have g8 := jx
   have g7 := (jk _ o7 (by omega)).trans g7
   clear hall hsz hg hJ b0 b3 b5 b6 b7 b8 jp
   obtain ⟨B6, hBB⟩ : ∃ B6, B6 = G := ⟨_, rfl⟩
   rw [← hBB] at hP gp gC gA gD g7 g8 jk ⊢
   clear hBB
   have B6k := jk
   exact ⟨a0, a7, a8, N, T2, lN, bN, g7, g8, hP, w1, w2, by omega, fun j hj h7 h8 => (B6k j hj h8).trans (B5k j hj h7)⟩
  have f2 : (m8 == 2) = false := by rw [beq_eq_false_iff_ne]; exact e2
  (refine aoo fun K hK => ?_; simp (disch := first | omega | (simp only [lnS]; try omega)) [-getElem?_pos, -getElem?_neg, e2, f2]; refine hK _ _ ?_; clear hK K)
  refine aw_f (by (first | (simp; done) | (simp; omega))) (by kernel_rfl) ?_
  refine aw_seq ?_
  by_cases e3 : m8 = 3
  case pos =>
   have f3 : (m8 == 3) = true := by rw [beq_iff_eq]; exact e3
   (refine aoo fun K hK => ?_; simp (disch := first | omega | (simp only [lnS]; try omega)) [-getElem?_pos, -getElem?_neg, e3, f3]; refine hK _ _ ?_; clear hK K)
   refine aw_t (by (first | (simp; done) | (simp; omega))) (by kernel_rfl) ?_
   refine aw_seq ?_
   obtain ⟨X, hX⟩ : ∃ X : TermD, X = ⟨3, ⟨#[]⟩, [A]⟩ := ⟨_, rfl⟩
   have hXw : X.Wf := by rw [hX]; exact wf_pub zA bA
   obtain ⟨N, hN⟩ : ∃ N : List Int, N = nmL (nameT X T1 : Nat) := ⟨_, rfl⟩
   have lN : N.length = 32 := by rw [hN]; rfl
   have bN : By N := by rw [hN]; exact nmL_by _
   have tN : (iv .u8 N).take 32 = iv .u8 N := List.take_of_length_le (by simp [lN])
   have sN : setR (iv .u8 (zl 32)) 0 (iv .u8 N) = iv .u8 N := setR_all _ _ (by simp [lN])
   obtain ⟨w1, w2, w3⟩ := add_ok hm1 hm2 hXw (by rw [hX]; show 1 ≤ 7; omega)
   (refine aw_plan [] [] [0, 1, 2, 3, 4] 5 2 (by kernel_rfl) (by kernel_rfl) (by kernel_rfl) (fun K hK => ?_)); simp only [sel, List.getElem?_cons_succ, List.getElem?_cons_zero, List.drop_succ_cons, List.drop_zero]; simp (disch := first | omega | (simp only [lnS]; try omega)) [-getElem?_pos, -getElem?_neg, a0, a5, -xload, ldp0, ldA, -notTuple, PL_nil, plainB_lit, PL_cons, PLc_val, PLc_new, stepP_t, stepP_f, stepPC_n, stepPC_s, stepPX_s, stepPX_n, stepPV_n, stepPV_s, stepPA_t, stepPA_c, stepPA_l, stepPN_s, allocOp, reloc_sl, reloc_ptr, List.map_cons, List.map_nil, List.nil_append, List.append_assoc, List.cons_append, Nat.add_assoc]
   refine ⟨by kernel_rfl, AC.mono (pl_pub hpw hP zA bA (by omega)) ?_⟩
   rintro v' G5 ⟨hv', q5, k5⟩
   rw [← hX] at hv' q5
   have hv2 : v' = .agg (iv .u8 N).toArray := hv'.trans (by rw [hN]; rfl)
   subst hv2
   have g7 := (k5 _ o7).trans g7
   have l7 := hget_lt g7
   try simp (disch := first | omega | (simp only [lnS]; try omega)) [-getElem?_pos, -getElem?_neg, a7, g7, l7, hn7H, lN, tN, sN]
   refine hK _ _ ?_; clear hK K
   obtain ⟨G6, hG6⟩ : ∃ G6 : AH, G6 = G5.set n7 (some ⟨iv .u8 N, 28, none⟩) := ⟨_, rfl⟩
   have g67 : hget G6 n7 = some ⟨iv .u8 N, 28, none⟩ := by rw [hG6, hget_set_eq l7]
   have k6 : ∀ j ∈ S4, j ≠ n7 → hget G6 j = hget B4 j := fun j hj hn => by rw [hG6, hget_set_ne (Ne.symm hn)]; exact k5 j hj
   have q6 : Pl H0 S4 G6 tb rb kv (addT X T1) T1 l := by rw [hG6]; exact q5.set o7 hn7H _
   rw [← hG6]
   clear hG6
   obtain ⟨R, hR⟩ : ∃ R : Option Blk, R = some ⟨iv .u8 A, 28, some 32⟩ := ⟨_, rfl⟩
   have gp6 := (k6 p o1.1 (by omega)).trans gp
   have gA6 := (k6 nA o3.1 (by omega)).trans gA
   obtain ⟨_, ldp1, _⟩ := play_loads gp6
   obtain ⟨_, ldp1r, _⟩ := play_loads (G := G6 ++ [R]) ((hget_left (hget_lt gp6)).trans gp6)
   have ldA := key_load zA gA6
   have hrow1 : setR (List.map (fun j => (iv .u8 (zl 32))[j % 32]?.getD undef) (List.range 32)) 0 (iv .u8 A) = iv .u8 A := setR_all _ _ (by simp [zA])
   have hmk := pl_make (γ := γ) (q6.low (G := G6 ++ [R]) (Low.push (Nat.le_refl _) _)) (x := ⟨3, ⟨#[]⟩, [A]⟩) (by rw [← hX]; exact hXw) (v := .slice (some ⟨G6.length, 0, none⟩) 1 1) (keys1 zA (by rw [hget_app0, hR]; rfl)) (by omega)
   have g8r : hget (G6 ++ [R]) (n7 + 1) = some ⟨iv .u8 (zl 32), 28, none⟩ := (hget_left (q6.sl o8)).trans ((k6 _ o8 (by omega)).trans g8)
   have g7r : hget (G6 ++ [R]) n7 = some ⟨iv .u8 N, 28, none⟩ := (hget_left (q6.sl o7)).trans g67
   have kr : ∀ j ∈ S4, hget (G6 ++ [R]) j = hget G6 j := fun j hj => hget_left (q6.sl hj)
   rw [hR] at hmk ldp1r g8r g7r kr
   clear hR
   (refine aw_ptree [0, 1, 2] 5 [[3, 4, 5, 6, 7], [4, 3, 5, 6, 7], [4, 5, 3, 6, 7]] (by kernel_rfl) (by kernel_rfl) (by kernel_rfl) (fun K hK => ?_)); simp only [sel, List.getElem?_cons_succ, List.getElem?_cons_zero]; simp (disch := first | omega | (simp only [lnS]; try omega)) [-getElem?_pos, -getElem?_neg, a0, a5, -xload, ldp1, ldp1r, ldA, -notTuple, hrow1]
   refine ⟨⟨by kernel_rfl, AC.mono hmk ?_⟩, ⟨by kernel_rfl, AC.mono hmk ?_⟩, by kernel_rfl, AC.mono hmk ?_⟩
   all_goals
    rintro v' G7 ⟨hv', q7, k7⟩
    rw [← hX] at hv' q7
    have hv2 : v' = .agg (iv .u8 N).toArray := hv'.trans (by rw [hN]; rfl)
    subst hv2
    have g8 := (k7 _ o8).trans g8r
    have l8 := hget_lt g8
    have ga7 := (k7 _ o7).trans g7r
    try simp (disch := first | omega | (simp only [lnS]; try omega)) [-getElem?_pos, -getElem?_neg, a8, g8, l8, hn8H, lN, tN, sN]
    refine hK _ _ ?_; clear hK K
    exact ⟨by (first | (simp [a0]; done) | rfl), by (first | (simp [a7]; done) | rfl), by (first | (simp [a8]; done) | rfl), N, addT X T1, lN, bN, (hget_set_ne (by omega)).trans ga7, hget_set_eq l8, q7.set o8 hn8H _, w1, w2, by omega, fun j hj h7 h8 => (hget_set_ne (Ne.symm h8)).trans ((k7 j hj).trans ((kr j hj).trans (k6 j hj h7)))⟩
  have f3 : (m8 == 3) = false := by rw [beq_eq_false_iff_ne]; exact e3
  (refine aoo fun K hK => ?_; simp (disch := first | omega | (simp only [lnS]; try omega)) [-getElem?_pos, -getElem?_neg, e3, f3]; refine hK _ _ ?_; clear hK K)
  refine aw_f (by (first | (simp; done) | (simp; omega))) (by kernel_rfl) ?_
  refine aw_seq ?_
  by_cases e4 : m8 = 4
  case pos =>
   have f4 : (m8 == 4) = true := by rw [beq_iff_eq]; exact e4
   (refine aoo fun K hK => ?_; simp (disch := first | omega | (simp only [lnS]; try omega)) [-getElem?_pos, -getElem?_neg, e4, f4]; refine hK _ _ ?_; clear hK K)
   refine aw_t (by (first | (simp; done) | (simp; omega))) (by kernel_rfl) ?_
   refine aw_seq ?_
   obtain ⟨N, hN⟩ : ∃ N : List Int, N = agrK T1 A D := ⟨_, rfl⟩
   obtain ⟨bb, hbb⟩ : ∃ bb : Bool, bb = agrB D := ⟨_, rfl⟩
   have lN : N.length = 32 := by rw [hN]; exact agrK_len _ _ _
   have bN : By N := by rw [hN]; exact agrK_by _ _ _
   have tN : (iv .u8 N).take 32 = iv .u8 N := List.take_of_length_le (by simp [lN])
   have sN : setR (iv .u8 (zl 32)) 0 (iv .u8 N) = iv .u8 N := setR_all _ _ (by simp [lN])
   obtain ⟨w1, w2, w3⟩ := agr_ok hm1 hm2 zA bA zD bD
   obtain ⟨T2, hT2⟩ : ∃ T2, T2 = agrT2 T1 A D := ⟨_, rfl⟩
   rw [← hT2] at w1 w2 w3
   have i1 := o1.1
   have i3 := o3.1
   have i4 := o4.1
   have i7 := o7
   have i8 := o8
   have w0 := w3
   refine name_aw (fun β hβ => ?_)
   have b0 : β 0 = .pointer (some ⟨p, 0, none⟩) := by rw [hβ]; (first | (simp [a0]; done) | rfl)
   have b3 : β 3 = .pointer (some ⟨nC, 0, none⟩) := by rw [hβ]; (first | (simp [a3]; done) | rfl)
   have b5 : β 5 = .pointer (some ⟨nA, 0, none⟩) := by rw [hβ]; (first | (simp [a5]; done) | rfl)
   have b6 : β 6 = .pointer (some ⟨nA + 1, 0, none⟩) := by rw [hβ]; (first | (simp [a6]; done) | rfl)
   have b7 : β 7 = .pointer (some ⟨n7, 0, none⟩) := by rw [hβ]; (first | (simp [a7]; done) | rfl)
   have b8 : β 8 = .pointer (some ⟨n7 + 1, 0, none⟩) := by rw [hβ]; (first | (simp [a8]; done) | rfl)
   clear hβ
   refine aw_inv doAP (JT doAD (doAV p tb rb A D N bb) β (AP 9 H0 B4 S4 tb rb kv T1 T2 T1 T1 l N)) (by kernel_rfl) (by kernel_rfl) (by kernel_rfl) ?_ ?_ ?_
   ·exact ⟨by simp; rfl, fun _ _ => rfl, fun i t' hi h => (by rw [gs_0] at h; cases h), [], by rw [gs_0]; exact hP, fun _ _ => rfl, fun h => (by rw [gs_0] at h; cases h)⟩
   ·intro i s α G k hJ hi0 hsi hd hcc hcont
    obtain ⟨Fv, jp, jk, ja⟩ := hJ.hp
    have j0 := (hJ.lo 0 (by decide)).trans b0
    have j3 := (hJ.lo 3 (by decide)).trans b3
    have j5 := (hJ.lo 5 (by decide)).trans b5
    have j6 := (hJ.lo 6 (by decide)).trans b6
    have gp := (jk p i1).trans gp
    have gA := (jk nA i3).trans gA
    have gD := (jk _ i4).trans gD
    obtain ⟨ldp0, ldp1, _⟩ := play_loads gp
    have ldA := key_load zA gA
    have ldD := key_load zD gD
    have hnG : H0.length ≤ G.length := jp.lw.2
    have hi : i = 0 ∨ i = 1 ∨ i = 2 ∨ i = 3 ∨ i = 4 ∨ i = 5 ∨ i = 6 ∨ i = 7 ∨ i = 8 ∨ i = 9 ∨ i = 10 ∨ i = 11 ∨ i = 12 := by have hi0 : i < 13 := hi0; omega
    rcases hi with rfl | rfl | rfl | rfl | rfl | rfl | rfl | rfl | rfl | rfl | rfl | rfl | rfl
    ·simp (disch := first | omega | (simp only [lnS]; try omega)) [-getElem?_pos, -getElem?_neg, -notTuple, j0]
     exact hcont _ _ (hJ.put doA_nd (t := 114) rfl rfl (hJ.hp.keep (by decide) (by decide)))
    ·have f0 : α 114 = .pointer (some ⟨p, 0, none⟩) := hJ.val 0 114 rfl (hd 0 (by decide))
     simp (disch := first | omega | (simp only [lnS]; try omega)) [-getElem?_pos, -getElem?_neg, -notTuple, f0]
     exact hcont _ _ (hJ.put doA_nd (t := 115) rfl rfl (hJ.hp.keep (by decide) (by decide)))
    ·have f1 : α 115 = .pointer (some ⟨p, 0, none⟩) := hJ.val 1 115 rfl (hd 1 (by decide))
     simp (disch := first | omega | (simp only [lnS]; try omega)) [-getElem?_pos, -getElem?_neg, -notTuple, f1]
     exact hcont _ _ (hJ.put doA_nd (t := 116) rfl rfl (hJ.hp.keep (by decide) (by decide)))
    ·have f2 : α 116 = .pointer (some ⟨p, 0, none⟩) := hJ.val 2 116 rfl (hd 2 (by decide))
     simp (disch := first | omega | (simp only [lnS]; try omega)) [-getElem?_pos, -getElem?_neg, -notTuple, -xload, ldp0, f2]
     exact hcont _ _ (hJ.put doA_nd (t := 117) rfl rfl (hJ.hp.keep (by decide) (by decide)))
    ·simp (disch := first | omega | (simp only [lnS]; try omega)) [-getElem?_pos, -getElem?_neg, -notTuple, j5, -xload, ldA]
     exact hcont _ _ (hJ.put doA_nd (t := 118) rfl rfl (hJ.hp.keep (by decide) (by decide)))
    ·simp (disch := first | omega | (simp only [lnS]; try omega)) [-getElem?_pos, -getElem?_neg, -notTuple, j6, -xload, ldD]
     exact hcont _ _ (hJ.put doA_nd (t := 119) rfl rfl (hJ.hp.keep (by decide) (by decide)))
    ·have f3 : α 117 = .pointer (some ⟨tb, 0, none⟩) := hJ.val 3 117 rfl (hd 3 (by decide))
     have f4 : α 118 = .agg (iv .u8 A).toArray := hJ.val 4 118 rfl (hd 4 (by decide))
     have f5 : α 119 = .agg (iv .u8 D).toArray := hJ.val 5 119 rfl (hd 5 (by decide))
     rw [if_neg (by rw [hsi]; simp), if_neg (by rw [hsi]; simp)] at jp
     simp (disch := first | omega | (simp only [lnS]; try omega)) [-getElem?_pos, -getElem?_neg, f3, f4, f5]
     refine ⟨by kernel_rfl, AC.mono (pl_agree hpw jp zA bA zD bD (by omega)) ?_⟩
     rintro v' G' ⟨hv', q1, q2⟩
     rw [← hN, ← hbb] at hv'
     subst hv'
     rw [← hT2] at q1
     exact hcont _ _ (hJ.put doA_nd (t := 120) rfl rfl ⟨Fv, by rw [if_pos (gs_eq (by rw [hJ.sz]; decide)), if_pos (gs_eq (by rw [hJ.sz]; decide))]; exact q1, fun j hj => (q2 j (by simp [hj])).trans (jk j hj), fun h => by
      rw [gs_ne (by decide)] at h
      obtain ⟨r, w1, w2, w3, w3', w4⟩ := ja h
      exact ⟨r, w1, by (first | (simp [w2]; done) | rfl), w3, w3', by rw [gs_ne (by decide)]; exact (q2 r (by simp [w1])).trans w4⟩⟩)
    ·have f6 : α 120 = .tuple #[.agg (iv .u8 N).toArray, .bool bb] := hJ.val 6 120 rfl (hd 6 (by decide))
     simp (disch := first | omega | (simp only [lnS]; try omega)) [-getElem?_pos, -getElem?_neg, -notTuple, f6]
     exact hcont _ _ (hJ.put doA_nd (t := 113) rfl rfl (hJ.hp.keep (by decide) (by decide)))
    ·have f7 : α 113 = .tuple #[.agg (iv .u8 N).toArray, .bool bb] := hJ.val 7 113 rfl (hd 7 (by decide))
     simp (disch := first | omega | (simp only [lnS]; try omega)) [-getElem?_pos, -getElem?_neg, -notTuple, f7]
     exact hcont _ _ (hJ.put doA_nd (t := 121) rfl rfl (hJ.hp.keep (by decide) (by decide)))
    ·have f7 : α 113 = .tuple #[.agg (iv .u8 N).toArray, .bool bb] := hJ.val 7 113 rfl (hd 7 (by decide))
     simp (disch := first | omega | (simp only [lnS]; try omega)) [-getElem?_pos, -getElem?_neg, -notTuple, f7]
     exact hcont _ _ (hJ.put doA_nd (t := 122) rfl rfl (hJ.hp.keep (by decide) (by decide)))
    ·simp (disch := first | omega | (simp only [lnS]; try omega)) [-getElem?_pos, -getElem?_neg, hnG]
     exact hcont _ _ (hJ.put doA_nd (t := 9) rfl trivial ⟨[G.length], by rw [gs_ne (by decide)]; exact (jp.less (S2 := S4) (fun j hj => by simp [hj])).push (Low.push (Nat.le_refl _) _) (fun j hj => by rw [List.mem_singleton.1 hj]; simp), fun j hj => (hget_left (jp.sl (by simp [hj]))).trans (jk j hj), fun _ => ⟨G.length, rfl, by (first | (simp; done) | rfl), fun e => by have := jp.sl (j := G.length) (by simp [e]); omega, hnG, by rw [gs_ne (by decide), if_neg (by rw [hcc 11 (by decide)]; simp), hget_app0]; rfl⟩⟩)
    ·have f8 : α 121 = .agg (iv .u8 N).toArray := hJ.val 8 121 rfl (hd 8 (by decide))
     obtain ⟨r, w1, w2, w3, w3', w4⟩ := ja (hd 10 (by decide))
     rw [if_neg (by rw [hsi]; simp)] at w4
     have wl := hget_lt w4
     simp (disch := first | omega | (simp only [lnS]; try omega)) [-getElem?_pos, -getElem?_neg, f8, w2, w4, wl, w3', sN, lN, tN]
     exact hcont _ _ (hJ.put0 rfl ⟨Fv, by rw [gs_ne (by decide)]; exact jp.set (by simp [w1]) w3' _, fun j hj => (hget_set_ne (fun e => w3 (by rw [e]; exact hj))).trans (jk j hj), fun _ => ⟨r, w1, w2, w3, w3', by rw [if_pos (gs_eq (by rw [hJ.sz]; decide))]; exact hget_set_eq wl⟩⟩)
    ·have f9 : α 122 = .bool bb := hJ.val 9 122 rfl (hd 9 (by decide))
     simp (disch := first | omega | (simp only [lnS]; try omega)) [-getElem?_pos, -getElem?_neg, -notTuple, f9]
     exact hcont _ _ (hJ.put doA_nd (t := 10) rfl rfl (hJ.hp.keep (by decide) (by decide)))
   rintro s α G hJ hall
   have hsz : s.size = 13 := hJ.sz
   have hg : ∀ i, i < 13 → s.getD i false = true := fun i hi => by
    rw [Array.getD_eq_getD_getElem?, Array.getElem?_eq_getElem (by omega)]
    exact Array.all_eq_true.1 hall i (by omega)
   obtain ⟨Fv, jp, jk, ja⟩ := hJ.hp
   rw [if_pos (hg 6 (by omega)), if_pos (hg 6 (by omega))] at jp
   obtain ⟨n9, w1', a9, w3, w3', g9⟩ := ja (hg 10 (by omega))
   rw [if_pos (hg 11 (by omega))] at g9
   have a0 := (hJ.lo 0 (by decide)).trans b0
   have a3 := (hJ.lo 3 (by decide)).trans b3
   have a5 := (hJ.lo 5 (by decide)).trans b5
   have a6 := (hJ.lo 6 (by decide)).trans b6
   have a7 := (hJ.lo 7 (by decide)).trans b7
   have a8 := (hJ.lo 8 (by decide)).trans b8
   have a10 : α 10 = .bool bb := hJ.val 12 10 rfl (hg 12 (by omega))
   have hP : Pl H0 (n9 :: S4) G tb rb kv T2 T1 l := jp.less (fun j hj => by rw [w1']; simpa using hj)
   have gp := (jk p i1).trans gp
   have gA := (jk nA i3).trans gA
   have gD := (jk _ i4).trans gD
   have g7 := (jk _ i7).trans g7
   have g8 := (jk _ i8).trans g8
   clear hall hsz hg hJ b0 b3 b5 b6 b7 b8
   obtain ⟨B5, hBB⟩ : ∃ B5, B5 = G := ⟨_, rfl⟩
   rw [← hBB] at hP gp gA gD g7 g8 g9 jk ⊢
   clear hBB
   have B5k := jk
   have i1 : p ∈ n9 :: S4 := List.mem_cons_of_mem _ i1
   have i3 : nA ∈ n9 :: S4 := List.mem_cons_of_mem _ i3
   have i4 : nA + 1 ∈ n9 :: S4 := List.mem_cons_of_mem _ i4
   have i7 : n7 ∈ n9 :: S4 := List.mem_cons_of_mem _ i7
   have i8 : n7 + 1 ∈ n9 :: S4 := List.mem_cons_of_mem _ i8
   have h97 : n9 ≠ n7 := fun e => w3 (e ▸ o7)
   refine aw_seq ?_
   refine name_aw (fun β hβ => ?_)
   have b0 : β 0 = .pointer (some ⟨p, 0, none⟩) := by rw [hβ]; (first | (simp [a0]; done) | rfl)
   have b3 : β 3 = .pointer (some ⟨nC, 0, none⟩) := by rw [hβ]; (first | (simp [a3]; done) | rfl)
   have b5 : β 5 = .pointer (some ⟨nA, 0, none⟩) := by rw [hβ]; (first | (simp [a5]; done) | rfl)
   have b6 : β 6 = .pointer (some ⟨nA + 1, 0, none⟩) := by rw [hβ]; (first | (simp [a6]; done) | rfl)
   have b7 : β 7 = .pointer (some ⟨n7, 0, none⟩) := by rw [hβ]; (first | (simp [a7]; done) | rfl)
   have b8 : β 8 = .pointer (some ⟨n7 + 1, 0, none⟩) := by rw [hβ]; (first | (simp [a8]; done) | rfl)
   have b9 : β 9 = .pointer (some ⟨n9, 0, none⟩) := by rw [hβ]; (first | (simp [a9]; done) | rfl)
   have b10 : β 10 = .bool bb := by rw [hβ]; (first | (simp [a10]; done) | rfl)
   clear hβ
   refine aw_inv doBP (JT doBD (doBV p tb rb A D N bb) β (AP 11 H0 B5 (n9 :: S4) tb rb kv T2 T2 T1 T2 l N)) (by kernel_rfl) (by kernel_rfl) (by kernel_rfl) ?_ ?_ ?_
   ·exact ⟨by simp; rfl, fun _ _ => rfl, fun i t' hi h => (by rw [gs_0] at h; cases h), [], by rw [gs_0]; exact hP, fun _ _ => rfl, fun h => (by rw [gs_0] at h; cases h)⟩
   ·intro i s α G k hJ hi0 hsi hd hcc hcont
    obtain ⟨Fv, jp, jk, ja⟩ := hJ.hp
    have j0 := (hJ.lo 0 (by decide)).trans b0
    have j3 := (hJ.lo 3 (by decide)).trans b3
    have j5 := (hJ.lo 5 (by decide)).trans b5
    have j6 := (hJ.lo 6 (by decide)).trans b6
    have gp := (jk p i1).trans gp
    have gA := (jk nA i3).trans gA
    have gD := (jk _ i4).trans gD
    obtain ⟨ldp0, ldp1, _⟩ := play_loads gp
    have ldA := key_load zA gA
    have ldD := key_load zD gD
    have hnG : H0.length ≤ G.length := jp.lw.2
    have hi : i = 0 ∨ i = 1 ∨ i = 2 ∨ i = 3 ∨ i = 4 ∨ i = 5 ∨ i = 6 ∨ i = 7 ∨ i = 8 ∨ i = 9 ∨ i = 10 ∨ i = 11 ∨ i = 12 := by have hi0 : i < 13 := hi0; omega
    rcases hi with rfl | rfl | rfl | rfl | rfl | rfl | rfl | rfl | rfl | rfl | rfl | rfl | rfl
    ·simp (disch := first | omega | (simp only [lnS]; try omega)) [-getElem?_pos, -getElem?_neg, -notTuple, j0]
     exact hcont _ _ (hJ.put doB_nd (t := 124) rfl rfl (hJ.hp.keep (by decide) (by decide)))
    ·have f0 : α 124 = .pointer (some ⟨p, 0, none⟩) := hJ.val 0 124 rfl (hd 0 (by decide))
     simp (disch := first | omega | (simp only [lnS]; try omega)) [-getElem?_pos, -getElem?_neg, -notTuple, f0]
     exact hcont _ _ (hJ.put doB_nd (t := 125) rfl rfl (hJ.hp.keep (by decide) (by decide)))
    ·have f1 : α 125 = .pointer (some ⟨p, 0, none⟩) := hJ.val 1 125 rfl (hd 1 (by decide))
     simp (disch := first | omega | (simp only [lnS]; try omega)) [-getElem?_pos, -getElem?_neg, -notTuple, f1]
     exact hcont _ _ (hJ.put doB_nd (t := 126) rfl rfl (hJ.hp.keep (by decide) (by decide)))
    ·have f2 : α 126 = .pointer (some ⟨p, 1, none⟩) := hJ.val 2 126 rfl (hd 2 (by decide))
     simp (disch := first | omega | (simp only [lnS]; try omega)) [-getElem?_pos, -getElem?_neg, -notTuple, -xload, ldp1, f2]
     exact hcont _ _ (hJ.put doB_nd (t := 127) rfl rfl (hJ.hp.keep (by decide) (by decide)))
    ·simp (disch := first | omega | (simp only [lnS]; try omega)) [-getElem?_pos, -getElem?_neg, -notTuple, j5, -xload, ldA]
     exact hcont _ _ (hJ.put doB_nd (t := 128) rfl rfl (hJ.hp.keep (by decide) (by decide)))
    ·simp (disch := first | omega | (simp only [lnS]; try omega)) [-getElem?_pos, -getElem?_neg, -notTuple, j6, -xload, ldD]
     exact hcont _ _ (hJ.put doB_nd (t := 129) rfl rfl (hJ.hp.keep (by decide) (by decide)))
    ·have f3 : α 127 = .pointer (some ⟨rb, 0, none⟩) := hJ.val 3 127 rfl (hd 3 (by decide))
     have f4 : α 128 = .agg (iv .u8 A).toArray := hJ.val 4 128 rfl (hd 4 (by decide))
     have f5 : α 129 = .agg (iv .u8 D).toArray := hJ.val 5 129 rfl (hd 5 (by decide))
     rw [if_neg (by rw [hsi]; simp), if_neg (by rw [hsi]; simp)] at jp
     simp (disch := first | omega | (simp only [lnS]; try omega)) [-getElem?_pos, -getElem?_neg, f3, f4, f5]
     refine ⟨by kernel_rfl, AC.mono (pl_ragree jp zA bA zD bD (by omega)) ?_⟩
     rintro v' G' ⟨hv', q1, q2⟩
     rw [← hN, ← hbb] at hv'
     subst hv'
     rw [← hT2] at q1
     exact hcont _ _ (hJ.put doB_nd (t := 130) rfl rfl ⟨Fv, by rw [if_pos (gs_eq (by rw [hJ.sz]; decide)), if_pos (gs_eq (by rw [hJ.sz]; decide))]; exact q1, fun j hj => (q2 j (by simp [hj])).trans (jk j hj), fun h => by
      rw [gs_ne (by decide)] at h
      obtain ⟨r, w1, w2, w3, w3', w4⟩ := ja h
      exact ⟨r, w1, by (first | (simp [w2]; done) | rfl), w3, w3', by rw [gs_ne (by decide)]; exact (q2 r (by simp [w1])).trans w4⟩⟩)
    ·have f6 : α 130 = .tuple #[.agg (iv .u8 N).toArray, .bool bb] := hJ.val 6 130 rfl (hd 6 (by decide))
     simp (disch := first | omega | (simp only [lnS]; try omega)) [-getElem?_pos, -getElem?_neg, -notTuple, f6]
     exact hcont _ _ (hJ.put doB_nd (t := 123) rfl rfl (hJ.hp.keep (by decide) (by decide)))
    ·have f7 : α 123 = .tuple #[.agg (iv .u8 N).toArray, .bool bb] := hJ.val 7 123 rfl (hd 7 (by decide))
     simp (disch := first | omega | (simp only [lnS]; try omega)) [-getElem?_pos, -getElem?_neg, -notTuple, f7]
     exact hcont _ _ (hJ.put doB_nd (t := 131) rfl rfl (hJ.hp.keep (by decide) (by decide)))
    ·have f7 : α 123 = .tuple #[.agg (iv .u8 N).toArray, .bool bb] := hJ.val 7 123 rfl (hd 7 (by decide))
     simp (disch := first | omega | (simp only [lnS]; try omega)) [-getElem?_pos, -getElem?_neg, -notTuple, f7]
     exact hcont _ _ (hJ.put doB_nd (t := 132) rfl rfl (hJ.hp.keep (by decide) (by decide)))
    ·simp (disch := first | omega | (simp only [lnS]; try omega)) [-getElem?_pos, -getElem?_neg, hnG]
     exact hcont _ _ (hJ.put doB_nd (t := 11) rfl trivial ⟨[G.length], by rw [gs_ne (by decide)]; exact (jp.less (S2 := (n9 :: S4)) (fun j hj => by simp [hj])).push (Low.push (Nat.le_refl _) _) (fun j hj => by rw [List.mem_singleton.1 hj]; simp), fun j hj => (hget_left (jp.sl (by simp [hj]))).trans (jk j hj), fun _ => ⟨G.length, rfl, by (first | (simp; done) | rfl), fun e => by have := jp.sl (j := G.length) (by simp [e]); omega, hnG, by rw [gs_ne (by decide), if_neg (by rw [hcc 11 (by decide)]; simp), hget_app0]; rfl⟩⟩)
    ·have f8 : α 131 = .agg (iv .u8 N).toArray := hJ.val 8 131 rfl (hd 8 (by decide))
     obtain ⟨r, w1, w2, w3, w3', w4⟩ := ja (hd 10 (by decide))
     rw [if_neg (by rw [hsi]; simp)] at w4
     have wl := hget_lt w4
     simp (disch := first | omega | (simp only [lnS]; try omega)) [-getElem?_pos, -getElem?_neg, f8, w2, w4, wl, w3', sN, lN, tN]
     exact hcont _ _ (hJ.put0 rfl ⟨Fv, by rw [gs_ne (by decide)]; exact jp.set (by simp [w1]) w3' _, fun j hj => (hget_set_ne (fun e => w3 (by rw [e]; exact hj))).trans (jk j hj), fun _ => ⟨r, w1, w2, w3, w3', by rw [if_pos (gs_eq (by rw [hJ.sz]; decide))]; exact hget_set_eq wl⟩⟩)
    ·have f9 : α 132 = .bool bb := hJ.val 9 132 rfl (hd 9 (by decide))
     simp (disch := first | omega | (simp only [lnS]; try omega)) [-getElem?_pos, -getElem?_neg, -notTuple, f9]
     exact hcont _ _ (hJ.put doB_nd (t := 12) rfl rfl (hJ.hp.keep (by decide) (by decide)))
   rintro s α G hJ hall
   have hsz : s.size = 13 := hJ.sz
   have hg : ∀ i, i < 13 → s.getD i false = true := fun i hi => by
    rw [Array.getD_eq_getD_getElem?, Array.getElem?_eq_getElem (by omega)]
    exact Array.all_eq_true.1 hall i (by omega)
   obtain ⟨Fv, jp, jk, ja⟩ := hJ.hp
   rw [if_pos (hg 6 (by omega)), if_pos (hg 6 (by omega))] at jp
   obtain ⟨n11, w1', a11, w3, w3', g11⟩ := ja (hg 10 (by omega))
   rw [if_pos (hg 11 (by omega))] at g11
   have a0 := (hJ.lo 0 (by decide)).trans b0
   have a3 := (hJ.lo 3 (by decide)).trans b3
   have a5 := (hJ.lo 5 (by decide)).trans b5
   have a6 := (hJ.lo 6 (by decide)).trans b6
   have a7 := (hJ.lo 7 (by decide)).trans b7
   have a8 := (hJ.lo 8 (by decide)).trans b8
   have a12 : α 12 = .bool bb := hJ.val 12 12 rfl (hg 12 (by omega))
   have a9 := (hJ.lo 9 (by decide)).trans b9
   have a10 := (hJ.lo 10 (by decide)).trans b10
   have hP : Pl H0 (n11 :: (n9 :: S4)) G tb rb kv T2 T2 l := jp.less (fun j hj => by rw [w1']; simpa using hj)
   have gp := (jk p i1).trans gp
   have gA := (jk nA i3).trans gA
   have gD := (jk _ i4).trans gD
   have g7 := (jk _ i7).trans g7
   have g8 := (jk _ i8).trans g8
   clear hall hsz hg hJ b0 b3 b5 b6 b7 b8
   obtain ⟨B6, hBB⟩ : ∃ B6, B6 = G := ⟨_, rfl⟩
   rw [← hBB] at hP gp gA gD g7 g8 g11 jk ⊢
   clear hBB
   have B6k := jk
   have h117 : n11 ≠ n7 := fun e => w3 (e ▸ i7)
   have g9 := (B6k n9 (by simp)).trans g9
   have l9 := hget_lt g9
   have l7 := hget_lt g7
   refine aw_seq (aw_seq ?_)
   (refine aoo fun K hK => ?_; simp (disch := first | omega | (simp only [lnS]; try omega)) [-getElem?_pos, -getElem?_neg, a10, a12]; refine hK _ _ ?_; clear hK K)
   refine aw_f (by (first | (simp; done) | (simp; omega))) (by kernel_rfl) ?_
   refine aw_skip (aw_seq ?_)
   (refine aoo fun K hK => ?_; simp (disch := first | omega | (simp only [lnS]; try omega)) [-getElem?_pos, -getElem?_neg, a7, a9, g9, l9, g7, l7, hn7H, lN, tN, sN]; refine hK _ _ ?_; clear hK K)
   obtain ⟨G6, hG6⟩ : ∃ G6 : AH, G6 = B6.set n7 (some ⟨iv .u8 N, 28, none⟩) := ⟨_, rfl⟩
   have g67 : hget G6 n7 = some ⟨iv .u8 N, 28, none⟩ := by rw [hG6, hget_set_eq l7]
   have g611 : hget G6 n11 = some ⟨iv .u8 N, 28, none⟩ := by rw [hG6, hget_set_ne (Ne.symm h117)]; exact g11
   have g68 : hget G6 (n7 + 1) = some ⟨iv .u8 (zl 32), 28, none⟩ := by rw [hG6, hget_set_ne (by omega)]; exact g8
   have k6 : ∀ j ∈ S4, j ≠ n7 → hget G6 j = hget B6 j := fun j hj hn => by rw [hG6, hget_set_ne (Ne.symm hn)]
   have q6 : Pl H0 S4 G6 tb rb kv T2 T2 l := by rw [hG6]; exact (hP.less (fun j hj => by simp [hj])).set o7 hn7H _
   rw [← hG6]
   clear hG6
   have l611 := hget_lt g611
   have l68 := hget_lt g68
   (refine aoo fun K hK => ?_; simp (disch := first | omega | (simp only [lnS]; try omega)) [-getElem?_pos, -getElem?_neg, a8, a11, g611, l611, g68, l68, hn8H, lN, tN, sN]; refine hK _ _ ?_; clear hK K)
   exact ⟨by (first | (simp [a0]; done) | rfl), by (first | (simp [a7]; done) | rfl), by (first | (simp [a8]; done) | rfl), N, T2, lN, bN, (hget_set_ne (by omega)).trans g67, hget_set_eq l68, q6.set o8 hn8H _, w1, w2, by omega, fun j hj h7 h8 => (hget_set_ne (Ne.symm h8)).trans ((k6 j hj h7).trans ((B6k j (List.mem_cons_of_mem _ hj)).trans (B5k j hj)))⟩
  have f4 : (m8 == 4) = false := by rw [beq_eq_false_iff_ne]; exact e4
  (refine aoo fun K hK => ?_; simp (disch := first | omega | (simp only [lnS]; try omega)) [-getElem?_pos, -getElem?_neg, e4, f4]; refine hK _ _ ?_; clear hK K)
  refine aw_f (by (first | (simp; done) | (simp; omega))) (by kernel_rfl) ?_
  refine aw_seq ?_
  by_cases e5 : m8 = 5
  case pos =>
   have f5 : (m8 == 5) = true := by rw [beq_iff_eq]; exact e5
   (refine aoo fun K hK => ?_; simp (disch := first | omega | (simp only [lnS]; try omega)) [-getElem?_pos, -getElem?_neg, e5, f5]; refine hK _ _ ?_; clear hK K)
   refine aw_t (by (first | (simp; done) | (simp; omega))) (by kernel_rfl) ?_
   refine aw_seq ?_
   have hnk := namedL_k h0l ok.kk x
   have hnk32 : K32 (namedL l x) := fun z hz => (hnk z hz).1
   have hn5 : (namedL l x).length ≤ 5 := by unfold namedL; rw [List.length_map, List.length_take]; omega
   obtain ⟨X, hX⟩ : ∃ X : TermD, X = ⟨6, x.text, A :: D :: namedL l x⟩ := ⟨_, rfl⟩
   have hXw : X.Wf := by rw [hX]; exact wf_seal (by omega) zA bA zD bD hnk (by omega)
   obtain ⟨N, hN⟩ : ∃ N : List Int, N = nmL (nameT X T1 : Nat) := ⟨_, rfl⟩
   have lN : N.length = 32 := by rw [hN]; rfl
   have bN : By N := by rw [hN]; exact nmL_by _
   have tN : (iv .u8 N).take 32 = iv .u8 N := List.take_of_length_le (by simp [lN])
   have sN : setR (iv .u8 (zl 32)) 0 (iv .u8 N) = iv .u8 N := setR_all _ _ (by simp [lN])
   obtain ⟨w1, w2, w3⟩ := add_ok hm1 hm2 hXw (by rw [hX]; show (namedL l x).length + 2 ≤ 7; omega)
   obtain ⟨T2, hT2⟩ : ∃ T2, T2 = addT X T1 := ⟨_, rfl⟩
   rw [← hT2] at w1 w2 w3
   refine name_aw (fun β hβ => ?_)
   have b0 : β 0 = .pointer (some ⟨p, 0, none⟩) := by rw [hβ]; (first | (simp [a0]; done) | rfl)
   have b3 : β 3 = .pointer (some ⟨nC, 0, none⟩) := by rw [hβ]; (first | (simp [a3]; done) | rfl)
   have b5 : β 5 = .pointer (some ⟨nA, 0, none⟩) := by rw [hβ]; (first | (simp [a5]; done) | rfl)
   have b6 : β 6 = .pointer (some ⟨nA + 1, 0, none⟩) := by rw [hβ]; (first | (simp [a6]; done) | rfl)
   have b7 : β 7 = .pointer (some ⟨n7, 0, none⟩) := by rw [hβ]; (first | (simp [a7]; done) | rfl)
   have b8 : β 8 = .pointer (some ⟨n7 + 1, 0, none⟩) := by rw [hβ]; (first | (simp [a8]; done) | rfl)
   clear hβ
   refine aw_inv doSP (JT doSD (doSV p nC tb rb x.text A D N C) β (NP 10 11 99 150 n7 H0 B4 S4 tb rb kv T1 T2 T1 T1 l (namedL l x) (hget B4 n7))) (by kernel_rfl) (by kernel_rfl) (by kernel_rfl) ?_ ?_ ?_
   ·exact ⟨by simp; rfl, fun _ _ => rfl, fun i t' hi h => (by rw [gs_0] at h; cases h), [], by rw [gs_0]; exact hP, fun _ _ _ => rfl, by rw [gs_0]; rfl, fun h => (by rw [gs_0] at h; cases h)⟩
   ·intro i s α G k hJ hi0 hsi hd hcc hcont
    obtain ⟨Fv, jp, jk, jx, jo⟩ := hJ.hp
    have j0 := (hJ.lo 0 (by decide)).trans b0
    have j3 := (hJ.lo 3 (by decide)).trans b3
    have j5 := (hJ.lo 5 (by decide)).trans b5
    have j6 := (hJ.lo 6 (by decide)).trans b6
    have j7 := (hJ.lo 7 (by decide)).trans b7
    have j8 := (hJ.lo 8 (by decide)).trans b8
    have gp := (jk p o1.1 (by omega)).trans gp
    have gC := (jk nC o2.1 (by omega)).trans gC
    have gA := (jk nA o3.1 (by omega)).trans gA
    have gD := (jk _ o4.1 (by omega)).trans gD
    obtain ⟨ldp0, ldp1, _⟩ := play_loads gp
    obtain ⟨_, _, ldt, _, _, lda⟩ := hc.loads hx gC
    have ldA := key_load zA gA
    have ldD := key_load zD gD
    have hnG : H0.length ≤ G.length := jp.lw.2
    have hi : i = 0 ∨ i = 1 ∨ i = 2 ∨ i = 3 ∨ i = 4 ∨ i = 5 ∨ i = 6 ∨ i = 7 ∨ i = 8 ∨ i = 9 ∨ i = 10 ∨ i = 11 ∨ i = 12 := by have hi0 : i < 13 := hi0; omega
    rcases hi with rfl | rfl | rfl | rfl | rfl | rfl | rfl | rfl | rfl | rfl | rfl | rfl | rfl
    ·simp (disch := first | omega | (simp only [lnS]; try omega)) [-getElem?_pos, -getElem?_neg, -notTuple, j0]
     exact hcont _ _ (hJ.put doS_nd (t := 140) rfl rfl (hJ.hp.keep (by decide) (by decide)))
    ·have f0 : α 140 = .pointer (some ⟨p, 0, none⟩) := hJ.val 0 140 rfl (hd 0 (by decide))
     simp (disch := first | omega | (simp only [lnS]; try omega)) [-getElem?_pos, -getElem?_neg, -notTuple, f0]
     exact hcont _ _ (hJ.put doS_nd (t := 141) rfl rfl (hJ.hp.keep (by decide) (by decide)))
    ·have f1 : α 141 = .pointer (some ⟨p, 0, none⟩) := hJ.val 1 141 rfl (hd 1 (by decide))
     simp (disch := first | omega | (simp only [lnS]; try omega)) [-getElem?_pos, -getElem?_neg, -notTuple, f1]
     exact hcont _ _ (hJ.put doS_nd (t := 142) rfl rfl (hJ.hp.keep (by decide) (by decide)))
    ·have f2 : α 142 = .pointer (some ⟨p, 0, none⟩) := hJ.val 2 142 rfl (hd 2 (by decide))
     simp (disch := first | omega | (simp only [lnS]; try omega)) [-getElem?_pos, -getElem?_neg, -notTuple, -xload, ldp0, f2]
     exact hcont _ _ (hJ.put doS_nd (t := 143) rfl rfl (hJ.hp.keep (by decide) (by decide)))
    ·simp (disch := first | omega | (simp only [lnS]; try omega)) [-getElem?_pos, -getElem?_neg, -notTuple, j5, -xload, ldA]
     exact hcont _ _ (hJ.put doS_nd (t := 144) rfl rfl (hJ.hp.keep (by decide) (by decide)))
    ·simp (disch := first | omega | (simp only [lnS]; try omega)) [-getElem?_pos, -getElem?_neg, -notTuple, j6, -xload, ldD]
     exact hcont _ _ (hJ.put doS_nd (t := 145) rfl rfl (hJ.hp.keep (by decide) (by decide)))
    ·simp (disch := first | omega | (simp only [lnS]; try omega)) [-getElem?_pos, -getElem?_neg, -notTuple, j3]
     exact hcont _ _ (hJ.put doS_nd (t := 146) rfl rfl (hJ.hp.keep (by decide) (by decide)))
    ·have f6 : α 146 = .pointer (some ⟨nC, 2, none⟩) := hJ.val 6 146 rfl (hd 6 (by decide))
     simp (disch := first | omega | (simp only [lnS]; try omega)) [-getElem?_pos, -getElem?_neg, -notTuple, -xload, ldt, f6]
     exact hcont _ _ (hJ.put doS_nd (t := 147) rfl rfl (hJ.hp.keep (by decide) (by decide)))
    ·simp (disch := first | omega | (simp only [lnS]; try omega)) [-getElem?_pos, -getElem?_neg, -notTuple, j0]
     exact hcont _ _ (hJ.put doS_nd (t := 148) rfl rfl (hJ.hp.keep (by decide) (by decide)))
    ·simp (disch := first | omega | (simp only [lnS]; try omega)) [-getElem?_pos, -getElem?_neg, -notTuple, j3, -xload, lda]
     exact hcont _ _ (hJ.put doS_nd (t := 149) rfl rfl (hJ.hp.keep (by decide) (by decide)))
    ·have f8 : α 148 = .pointer (some ⟨p, 0, none⟩) := hJ.val 8 148 rfl (hd 8 (by decide))
     have f9 : α 149 = .agg C.toArray := hJ.val 9 149 rfl (hd 9 (by decide))
     simp (disch := first | omega | (simp only [lnS]; try omega)) [-getElem?_pos, -getElem?_neg, f8, f9]
     refine ⟨by kernel_rfl, AC.mono (named_ac (nro := H0.length) jp.lw.2 gp (jp.ksv hk32) hk32 h0l hlm (hc.lowN (fun j hj => jp.lw.1 j hj)) hx) ?_⟩
     rintro v' G' ⟨lwq, Fk, ho, hF⟩
     exact hcont _ _ (hJ.put doS_nd (t := 150) rfl trivial ⟨Fk, by rw [gs_ne (by decide)]; exact (jp.push lwq (S2 := Fk) (fun j hj => ⟨hF j hj, ho.lt j hj⟩)).less (fun j hj => by simp only [List.mem_append] at hj ⊢; rcases hj with e | e <;> simp [e]), fun j hj hn => (lwq.1 j (jp.sl (by simp [hj]))).trans (jk j hj hn), by rw [gs_ne (by decide)]; exact (lwq.1 _ (jp.sl (by simp [o7, o8]))).trans jx, fun _ _ => by simpa [put_at] using ho⟩)
    ·have f3 : α 143 = .pointer (some ⟨tb, 0, none⟩) := hJ.val 3 143 rfl (hd 3 (by decide))
     have f4 : α 144 = .agg (iv .u8 A).toArray := hJ.val 4 144 rfl (hd 4 (by decide))
     have f5 : α 145 = .agg (iv .u8 D).toArray := hJ.val 5 145 rfl (hd 5 (by decide))
     have f7 : α 147 = .string x.text := hJ.val 7 147 rfl (hd 7 (by decide))
     have ow := jo (hd 10 (by decide)) hsi
     rw [if_neg (by rw [hsi]; simp), if_neg (by rw [hsi]; simp)] at jp
     obtain ⟨w, hw⟩ : ∃ w, w = α 150 := ⟨_, rfl⟩
     rw [← hw] at ow
     have hw := hw.symm
     have wn := ownF_nt ow
     simp (disch := first | omega | (simp only [lnS]; try omega)) [-getElem?_pos, -getElem?_neg, f3, f4, f5, f7, hw, -notTuple, wn.1]
     refine ⟨by kernel_rfl, AC.mono (pl_seal hpw jp zA zD (s := x.text) (ks := namedL l x) (by rw [← hX]; exact hXw) (kr_ksv ow hnk32) (by omega)) ?_⟩
     rintro v' G' ⟨hv', q1, q2⟩
     rw [← hX] at hv' q1
     have hv2 : v' = .string (strOfNums N) := hv'.trans (by rw [hN])
     subst hv2
     rw [← hT2] at q1
     exact hcont _ _ (hJ.put doS_nd (t := 151) rfl rfl ⟨Fv, by rw [if_pos (gs_eq (by rw [hJ.sz]; decide)), if_pos (gs_eq (by rw [hJ.sz]; decide))]; exact q1, fun j hj hn => (q2 j (by simp [hj])).trans (jk j hj hn), by rw [gs_ne (by decide)]; exact (q2 _ (by simp [o7, o8])).trans jx, fun h h2 => by rw [gs_eq (by rw [hJ.sz]; decide)] at h2; cases h2⟩)
    ·have f11 : α 151 = .string (strOfNums N) := hJ.val 11 151 rfl (hd 11 (by decide))
     simp (disch := first | omega | (simp only [lnS]; try omega)) [-getElem?_pos, -getElem?_neg, -notTuple, f11]
     exact hcont _ _ (hJ.put doS_nd (t := 13) rfl rfl (hJ.hp.keep (by decide) (by decide)))
   rintro s α G hJ hall
   have hsz : s.size = 13 := hJ.sz
   have hg : ∀ i, i < 13 → s.getD i false = true := fun i hi => by
    rw [Array.getD_eq_getD_getElem?, Array.getElem?_eq_getElem (by omega)]
    exact Array.all_eq_true.1 hall i (by omega)
   obtain ⟨Fv, jp, jk, jx, _⟩ := hJ.hp
   rw [if_pos (hg 11 (by omega)), if_pos (hg 11 (by omega))] at jp
   rw [ite_self] at jx
   have a0 := (hJ.lo 0 (by decide)).trans b0
   have a3 := (hJ.lo 3 (by decide)).trans b3
   have a5 := (hJ.lo 5 (by decide)).trans b5
   have a6 := (hJ.lo 6 (by decide)).trans b6
   have a7 := (hJ.lo 7 (by decide)).trans b7
   have a8 := (hJ.lo 8 (by decide)).trans b8
   have a13 : α 13 = .string (strOfNums N) := hJ.val 12 13 rfl (hg 12 (by omega))
   have hP := jp.less (S2 := S4) (fun j hj => by simp [hj])
   have gp := (jk p o1.1 (by omega)).trans gp
   have gC := (jk nC o2.1 (by omega)).trans gC
   have gA := (jk nA o3.1 (by omega)).trans gA
   have gD := (jk _ o4.1 (by omega)).trans gD
   have g7 := jx.trans g7
   have g8 := (jk _ o8 (by omega)).trans g8
   clear hall hsz hg hJ b0 b3 b5 b6 b7 b8 jp
   obtain ⟨B5, hBB⟩ : ∃ B5, B5 = G := ⟨_, rfl⟩
   rw [← hBB] at hP gp gC gA gD g7 g8 jk ⊢
   clear hBB
   have B5k := jk
   refine aw_seq ?_
   refine name_aw (fun β hβ => ?_)
   have b0 : β 0 = .pointer (some ⟨p, 0, none⟩) := by rw [hβ]; (first | (simp [a0]; done) | rfl)
   have b3 : β 3 = .pointer (some ⟨nC, 0, none⟩) := by rw [hβ]; (first | (simp [a3]; done) | rfl)
   have b5 : β 5 = .pointer (some ⟨nA, 0, none⟩) := by rw [hβ]; (first | (simp [a5]; done) | rfl)
   have b6 : β 6 = .pointer (some ⟨nA + 1, 0, none⟩) := by rw [hβ]; (first | (simp [a6]; done) | rfl)
   have b7 : β 7 = .pointer (some ⟨n7, 0, none⟩) := by rw [hβ]; (first | (simp [a7]; done) | rfl)
   have b8 : β 8 = .pointer (some ⟨n7 + 1, 0, none⟩) := by rw [hβ]; (first | (simp [a8]; done) | rfl)
   have b13 : β 13 = .string (strOfNums N) := by rw [hβ]; (first | (simp [a13]; done) | rfl)
   clear hβ
   refine aw_inv doUP (JT doUD (doUV p nC tb rb x.text A D N C) β (NP 10 11 99 162 (n7 + 1) H0 B5 S4 tb rb kv T2 T2 T1 T2 l (namedL l x) (hget B5 (n7 + 1)))) (by kernel_rfl) (by kernel_rfl) (by kernel_rfl) ?_ ?_ ?_
   ·exact ⟨by simp; rfl, fun _ _ => rfl, fun i t' hi h => (by rw [gs_0] at h; cases h), [], by rw [gs_0]; exact hP, fun _ _ _ => rfl, by rw [gs_0]; rfl, fun h => (by rw [gs_0] at h; cases h)⟩
   ·intro i s α G k hJ hi0 hsi hd hcc hcont
    obtain ⟨Fv, jp, jk, jx, jo⟩ := hJ.hp
    have j0 := (hJ.lo 0 (by decide)).trans b0
    have j3 := (hJ.lo 3 (by decide)).trans b3
    have j5 := (hJ.lo 5 (by decide)).trans b5
    have j6 := (hJ.lo 6 (by decide)).trans b6
    have j7 := (hJ.lo 7 (by decide)).trans b7
    have j8 := (hJ.lo 8 (by decide)).trans b8
    have gp := (jk p o1.1 (by omega)).trans gp
    have gC := (jk nC o2.1 (by omega)).trans gC
    have gA := (jk nA o3.1 (by omega)).trans gA
    have gD := (jk _ o4.1 (by omega)).trans gD
    obtain ⟨ldp0, ldp1, _⟩ := play_loads gp
    obtain ⟨_, _, ldt, _, _, lda⟩ := hc.loads hx gC
    have ldA := key_load zA gA
    have ldD := key_load zD gD
    have hnG : H0.length ≤ G.length := jp.lw.2
    have hi : i = 0 ∨ i = 1 ∨ i = 2 ∨ i = 3 ∨ i = 4 ∨ i = 5 ∨ i = 6 ∨ i = 7 ∨ i = 8 ∨ i = 9 ∨ i = 10 ∨ i = 11 ∨ i = 12 := by have hi0 : i < 13 := hi0; omega
    rcases hi with rfl | rfl | rfl | rfl | rfl | rfl | rfl | rfl | rfl | rfl | rfl | rfl | rfl
    ·simp (disch := first | omega | (simp only [lnS]; try omega)) [-getElem?_pos, -getElem?_neg, -notTuple, j0]
     exact hcont _ _ (hJ.put doU_nd (t := 152) rfl rfl (hJ.hp.keep (by decide) (by decide)))
    ·have f0 : α 152 = .pointer (some ⟨p, 0, none⟩) := hJ.val 0 152 rfl (hd 0 (by decide))
     simp (disch := first | omega | (simp only [lnS]; try omega)) [-getElem?_pos, -getElem?_neg, -notTuple, f0]
     exact hcont _ _ (hJ.put doU_nd (t := 153) rfl rfl (hJ.hp.keep (by decide) (by decide)))
    ·have f1 : α 153 = .pointer (some ⟨p, 0, none⟩) := hJ.val 1 153 rfl (hd 1 (by decide))
     simp (disch := first | omega | (simp only [lnS]; try omega)) [-getElem?_pos, -getElem?_neg, -notTuple, f1]
     exact hcont _ _ (hJ.put doU_nd (t := 154) rfl rfl (hJ.hp.keep (by decide) (by decide)))
    ·have f2 : α 154 = .pointer (some ⟨p, 1, none⟩) := hJ.val 2 154 rfl (hd 2 (by decide))
     simp (disch := first | omega | (simp only [lnS]; try omega)) [-getElem?_pos, -getElem?_neg, -notTuple, -xload, ldp1, f2]
     exact hcont _ _ (hJ.put doU_nd (t := 155) rfl rfl (hJ.hp.keep (by decide) (by decide)))
    ·simp (disch := first | omega | (simp only [lnS]; try omega)) [-getElem?_pos, -getElem?_neg, -notTuple, j5, -xload, ldA]
     exact hcont _ _ (hJ.put doU_nd (t := 156) rfl rfl (hJ.hp.keep (by decide) (by decide)))
    ·simp (disch := first | omega | (simp only [lnS]; try omega)) [-getElem?_pos, -getElem?_neg, -notTuple, j6, -xload, ldD]
     exact hcont _ _ (hJ.put doU_nd (t := 157) rfl rfl (hJ.hp.keep (by decide) (by decide)))
    ·simp (disch := first | omega | (simp only [lnS]; try omega)) [-getElem?_pos, -getElem?_neg, -notTuple, j3]
     exact hcont _ _ (hJ.put doU_nd (t := 158) rfl rfl (hJ.hp.keep (by decide) (by decide)))
    ·have f6 : α 158 = .pointer (some ⟨nC, 2, none⟩) := hJ.val 6 158 rfl (hd 6 (by decide))
     simp (disch := first | omega | (simp only [lnS]; try omega)) [-getElem?_pos, -getElem?_neg, -notTuple, -xload, ldt, f6]
     exact hcont _ _ (hJ.put doU_nd (t := 159) rfl rfl (hJ.hp.keep (by decide) (by decide)))
    ·simp (disch := first | omega | (simp only [lnS]; try omega)) [-getElem?_pos, -getElem?_neg, -notTuple, j0]
     exact hcont _ _ (hJ.put doU_nd (t := 160) rfl rfl (hJ.hp.keep (by decide) (by decide)))
    ·simp (disch := first | omega | (simp only [lnS]; try omega)) [-getElem?_pos, -getElem?_neg, -notTuple, j3, -xload, lda]
     exact hcont _ _ (hJ.put doU_nd (t := 161) rfl rfl (hJ.hp.keep (by decide) (by decide)))
    ·have f8 : α 160 = .pointer (some ⟨p, 0, none⟩) := hJ.val 8 160 rfl (hd 8 (by decide))
     have f9 : α 161 = .agg C.toArray := hJ.val 9 161 rfl (hd 9 (by decide))
     simp (disch := first | omega | (simp only [lnS]; try omega)) [-getElem?_pos, -getElem?_neg, f8, f9]
     refine ⟨by kernel_rfl, AC.mono (named_ac (nro := H0.length) jp.lw.2 gp (jp.ksv hk32) hk32 h0l hlm (hc.lowN (fun j hj => jp.lw.1 j hj)) hx) ?_⟩
     rintro v' G' ⟨lwq, Fk, ho, hF⟩
     exact hcont _ _ (hJ.put doU_nd (t := 162) rfl trivial ⟨Fk, by rw [gs_ne (by decide)]; exact (jp.push lwq (S2 := Fk) (fun j hj => ⟨hF j hj, ho.lt j hj⟩)).less (fun j hj => by simp only [List.mem_append] at hj ⊢; rcases hj with e | e <;> simp [e]), fun j hj hn => (lwq.1 j (jp.sl (by simp [hj]))).trans (jk j hj hn), by rw [gs_ne (by decide)]; exact (lwq.1 _ (jp.sl (by simp [o7, o8]))).trans jx, fun _ _ => by simpa [put_at] using ho⟩)
    ·have f3 : α 155 = .pointer (some ⟨rb, 0, none⟩) := hJ.val 3 155 rfl (hd 3 (by decide))
     have f4 : α 156 = .agg (iv .u8 A).toArray := hJ.val 4 156 rfl (hd 4 (by decide))
     have f5 : α 157 = .agg (iv .u8 D).toArray := hJ.val 5 157 rfl (hd 5 (by decide))
     have f7 : α 159 = .string x.text := hJ.val 7 159 rfl (hd 7 (by decide))
     have ow := jo (hd 10 (by decide)) hsi
     rw [if_neg (by rw [hsi]; simp), if_neg (by rw [hsi]; simp)] at jp
     obtain ⟨w, hw⟩ : ∃ w, w = α 162 := ⟨_, rfl⟩
     rw [← hw] at ow
     have hw := hw.symm
     have wn := ownF_nt ow
     simp (disch := first | omega | (simp only [lnS]; try omega)) [-getElem?_pos, -getElem?_neg, f3, f4, f5, f7, hw, -notTuple, wn.1]
     refine ⟨by kernel_rfl, AC.mono (pl_rseal jp zA zD (s := x.text) (ks := namedL l x) (by rw [← hX]; exact hXw) (kr_ksv ow hnk32) (by omega)) ?_⟩
     rintro v' G' ⟨hv', q1, q2⟩
     rw [← hX] at hv' q1
     have hv2 : v' = .string (strOfNums N) := hv'.trans (by rw [hN])
     subst hv2
     rw [← hT2] at q1
     exact hcont _ _ (hJ.put doU_nd (t := 163) rfl rfl ⟨Fv, by rw [if_pos (gs_eq (by rw [hJ.sz]; decide)), if_pos (gs_eq (by rw [hJ.sz]; decide))]; exact q1, fun j hj hn => (q2 j (by simp [hj])).trans (jk j hj hn), by rw [gs_ne (by decide)]; exact (q2 _ (by simp [o7, o8])).trans jx, fun h h2 => by rw [gs_eq (by rw [hJ.sz]; decide)] at h2; cases h2⟩)
    ·have f11 : α 163 = .string (strOfNums N) := hJ.val 11 163 rfl (hd 11 (by decide))
     simp (disch := first | omega | (simp only [lnS]; try omega)) [-getElem?_pos, -getElem?_neg, -notTuple, f11]
     exact hcont _ _ (hJ.put doU_nd (t := 14) rfl rfl (hJ.hp.keep (by decide) (by decide)))
   rintro s α G hJ hall
   have hsz : s.size = 13 := hJ.sz
   have hg : ∀ i, i < 13 → s.getD i false = true := fun i hi => by
    rw [Array.getD_eq_getD_getElem?, Array.getElem?_eq_getElem (by omega)]
    exact Array.all_eq_true.1 hall i (by omega)
   obtain ⟨Fv, jp, jk, jx, _⟩ := hJ.hp
   rw [if_pos (hg 11 (by omega)), if_pos (hg 11 (by omega))] at jp
   rw [ite_self] at jx
   have a0 := (hJ.lo 0 (by decide)).trans b0
   have a3 := (hJ.lo 3 (by decide)).trans b3
   have a5 := (hJ.lo 5 (by decide)).trans b5
   have a6 := (hJ.lo 6 (by decide)).trans b6
   have a7 := (hJ.lo 7 (by decide)).trans b7
   have a8 := (hJ.lo 8 (by decide)).trans b8
   have a13 := (hJ.lo 13 (by decide)).trans b13
   have a14 : α 14 = .string (strOfNums N) := hJ.val 12 14 rfl (hg 12 (by omega))
   have hP := jp.less (S2 := S4) (fun j hj => by simp [hj])
   have gp := (jk p o1.1 (by omega)).trans gp
   have gC := (jk nC o2.1 (by omega)).trans gC
   have gA := (jk nA o3.1 (by omega)).trans gA
   have gD := (jk _ o4.1 (by omega)).trans gD
   have g8 := jx.trans g8
   have g7 := (jk _ o7 (by omega)).trans g7
   clear hall hsz hg hJ b0 b3 b5 b6 b7 b8 jp
   obtain ⟨B6, hBB⟩ : ∃ B6, B6 = G := ⟨_, rfl⟩
   rw [← hBB] at hP gp gC gA gD g7 g8 jk ⊢
   clear hBB
   have B6k := jk
   have hB6n : H0.length ≤ B6.length := hP.lw.2
   have hpl : plain2 (.agg (iv .u8 N).toArray) = true := iv_plain _ _
   refine aw_seq (aoo fun K hK => ?_)
   simp (disch := first | omega | (simp only [lnS]; try omega)) [-getElem?_pos, -getElem?_neg, a13]
   refine ⟨by kernel_rfl, ac_of_rc (key_rc lN bN) (by rw [pv_tup2, p2_bool, hpl]; rfl) ?_⟩
   try simp (disch := first | omega | (simp only [lnS]; try omega)) [-getElem?_pos, -getElem?_neg, hB6n, lN, tN, sN]
   refine hK _ _ ?_; clear hK K
   obtain ⟨B7, hB7⟩ : ∃ B7 : AH, B7 = B6 ++ [some ⟨iv .u8 N, 28, none⟩] := ⟨_, rfl⟩
   have g15 : hget B7 B6.length = some ⟨iv .u8 N, 28, none⟩ := by rw [hB7, hget_app0]; rfl
   have lw7 : Low B6.length B6 B7 := by rw [hB7]; exact Low.push (Nat.le_refl _) _
   have hB7n : H0.length ≤ B7.length := by have := lw7.2; omega
   rw [← hB7]
   clear hB7
   refine aw_seq (aoo fun K hK => ?_)
   simp (disch := first | omega | (simp only [lnS]; try omega)) [-getElem?_pos, -getElem?_neg, a14]
   refine ⟨by kernel_rfl, ac_of_rc (key_rc lN bN) (by rw [pv_tup2, p2_bool, hpl]; rfl) ?_⟩
   try simp (disch := first | omega | (simp only [lnS]; try omega)) [-getElem?_pos, -getElem?_neg, hB7n, lN, tN, sN]
   refine hK _ _ ?_; clear hK K
   obtain ⟨B8, hB8⟩ : ∃ B8 : AH, B8 = B7 ++ [some ⟨iv .u8 N, 28, none⟩] := ⟨_, rfl⟩
   have g17 : hget B8 B7.length = some ⟨iv .u8 N, 28, none⟩ := by rw [hB8, hget_app0]; rfl
   have lw8 : Low B7.length B7 B8 := by rw [hB8]; exact Low.push (Nat.le_refl _) _
   rw [← hB8]
   clear hB8
   have g15 := (lw8.1 _ (hget_lt g15)).trans g15
   have k8 : ∀ j ∈ S4, hget B8 j = hget B6 j := fun j hj => (lw8.1 j (by have := hP.sl hj; have := lw7.2; omega)).trans (lw7.1 j (hP.sl hj))
   have hP8 := (hP.low lw7).low lw8
   have g7 := (k8 _ o7).trans g7
   have g8 := (k8 _ o8).trans g8
   have l15 := hget_lt g15
   have l17 := hget_lt g17
   have l7 := hget_lt g7
   have l8 := hget_lt g8
   have h157 : n7 ≠ B6.length := by have := hP.sl o7; omega
   have h177 : n7 ≠ B7.length := by have := hP.sl o7; have := lw7.2; omega
   refine aw_seq (aw_seq ?_)
   (refine aoo fun K hK => ?_; simp (disch := first | omega | (simp only [lnS]; try omega)) [-getElem?_pos, -getElem?_neg]; refine hK _ _ ?_; clear hK K)
   refine aw_f (by (first | (simp; done) | (simp; omega))) (by kernel_rfl) ?_
   refine aw_skip (aw_seq ?_)
   obtain ⟨n15, hn15⟩ : ∃ n15, n15 = B6.length := ⟨_, rfl⟩
   obtain ⟨n17, hn17⟩ : ∃ n17, n17 = B7.length := ⟨_, rfl⟩
   rw [← hn15] at g15 l15 h157
   rw [← hn17] at g17 l17 h177
   rw [← hn15, ← hn17]
   (refine aoo fun K hK => ?_; simp (disch := first | omega | (simp only [lnS]; try omega)) [-getElem?_pos, -getElem?_neg, a7, g15, l15, g7, l7, hn7H, lN, tN, sN]; refine hK _ _ ?_; clear hK K)
   obtain ⟨G6, hG6⟩ : ∃ G6 : AH, G6 = B8.set n7 (some ⟨iv .u8 N, 28, none⟩) := ⟨_, rfl⟩
   have g67 : hget G6 n7 = some ⟨iv .u8 N, 28, none⟩ := by rw [hG6, hget_set_eq l7]
   have g617 : hget G6 n17 = some ⟨iv .u8 N, 28, none⟩ := by rw [hG6, hget_set_ne h177]; exact g17
   have g68 : hget G6 (n7 + 1) = some ⟨iv .u8 (zl 32), 28, none⟩ := by rw [hG6, hget_set_ne (by omega)]; exact g8
   have k6 : ∀ j ∈ S4, j ≠ n7 → hget G6 j = hget B8 j := fun j hj hn => by rw [hG6, hget_set_ne (Ne.symm hn)]
   have q6 : Pl H0 S4 G6 tb rb kv T2 T2 l := by rw [hG6]; exact hP8.set o7 hn7H _
   rw [← hG6]
   clear hG6
   have l617 := hget_lt g617
   have l68 := hget_lt g68
   (refine aoo fun K hK => ?_; simp (disch := first | omega | (simp only [lnS]; try omega)) [-getElem?_pos, -getElem?_neg, a8, g617, l617, g68, l68, hn8H, lN, tN, sN]; refine hK _ _ ?_; clear hK K)
   exact ⟨by (first | (simp [a0]; done) | rfl), by (first | (simp [a7]; done) | rfl), by (first | (simp [a8]; done) | rfl), N, T2, lN, bN, (hget_set_ne (by omega)).trans g67, hget_set_eq l68, q6.set o8 hn8H _, w1, w2, by omega, fun j hj h7 h8 => (hget_set_ne (Ne.symm h8)).trans ((k6 j hj h7).trans ((k8 j hj).trans ((B6k j hj h8).trans (B5k j hj h7))))⟩
  have f5 : (m8 == 5) = false := by rw [beq_eq_false_iff_ne]; exact e5
  (refine aoo fun K hK => ?_; simp (disch := first | omega | (simp only [lnS]; try omega)) [-getElem?_pos, -getElem?_neg, e5, f5]; refine hK _ _ ?_; clear hK K)
  refine aw_f (by (first | (simp; done) | (simp; omega))) (by kernel_rfl) ?_
  refine aw_seq ?_
  by_cases e6 : m8 = 6
  case pos =>
   have f6 : (m8 == 6) = true := by rw [beq_iff_eq]; exact e6
   (refine aoo fun K hK => ?_; simp (disch := first | omega | (simp only [lnS]; try omega)) [-getElem?_pos, -getElem?_neg, e6, f6]; refine hK _ _ ?_; clear hK K)
   refine aw_t (by (first | (simp; done) | (simp; omega))) (by kernel_rfl) ?_
   refine aw_seq ?_
   have hpo := popen_ac (γ := γ) hP gp o1.1 hpn hm1 hm2 h0l (by have := ok.ll; omega) ok.kk hc hx ht3
   refine aoo fun K hK => ?_
   simp (disch := first | omega | (simp only [lnS]; try omega)) [-getElem?_pos, -getElem?_neg, a0, a3, -xload, lda]
   refine ⟨by kernel_rfl, AC.mono hpo ?_⟩
   rintro v' G' ⟨rfl, kv', news, gp', q', hn5, hnk, k'⟩
   try simp (disch := first | omega | (simp only [lnS]; try omega)) [-getElem?_pos, -getElem?_neg]
   refine hK _ _ ?_; clear hK K
   have fin : DoQ H0 S H p tb rb n (.bool true) G' := ⟨rfl, kv', T1, l ++ news, gp', q'.less (fun j hj => (hSk j hj).2.1), ⟨hm1, hm2, by omega, by rw [List.length_append]; have := ok.ll; omega, by rw [List.length_append]; have := ok.l2; omega, fun k hk => (List.mem_append.1 hk).elim (ok.kk k) (hnk k)⟩, fun j hj hjp => (k' j (hSk j hj).2.1 hjp).trans (hSk j hj).1⟩
   (refine aw_ret ?_; simp (disch := first | omega | (simp only [lnS]; try omega)) [-getElem?_pos, -getElem?_neg, thenQ_ret, scopeQ_ret, inBlockQ_ret, RQ, resL, resV])
   exact fin
  have f6 : (m8 == 6) = false := by rw [beq_eq_false_iff_ne]; exact e6
  (refine aoo fun K hK => ?_; simp (disch := first | omega | (simp only [lnS]; try omega)) [-getElem?_pos, -getElem?_neg, e6, f6]; refine hK _ _ ?_; clear hK K)
  refine aw_f (by (first | (simp; done) | (simp; omega))) (by kernel_rfl) ?_
  refine aw_seq ?_
  by_cases e7 : m8 = 7
  case pos =>
   have f7 : (m8 == 7) = true := by rw [beq_iff_eq]; exact e7
   (refine aoo fun K hK => ?_; simp (disch := first | omega | (simp only [lnS]; try omega)) [-getElem?_pos, -getElem?_neg, e7, f7]; refine hK _ _ ?_; clear hK K)
   refine aw_t (by (first | (simp; done) | (simp; omega))) (by kernel_rfl) ?_
   refine aw_seq ?_
   have zR := hx.raw.1
   have tR : (iv .u8 x.raw).take 32 = iv .u8 x.raw := List.take_of_length_le (by simp [zR])
   have sR : setR (iv .u8 (zl 32)) 0 (iv .u8 x.raw) = iv .u8 x.raw := setR_all _ _ (by simp [zR])
   (refine aoo fun K hK => ?_; simp (disch := first | omega | (simp only [lnS]; try omega)) [-getElem?_pos, -getElem?_neg, a3, a7, -xload, ldr, g7, l7, hn7H, zR, tR, sR]; refine hK _ _ ?_; clear hK K)
   obtain ⟨G6, hG6⟩ : ∃ G6 : AH, G6 = B4.set n7 (some ⟨iv .u8 x.raw, 28, none⟩) := ⟨_, rfl⟩
   have g67 : hget G6 n7 = some ⟨iv .u8 x.raw, 28, none⟩ := by rw [hG6, hget_set_eq l7]
   have g68 : hget G6 (n7 + 1) = some ⟨iv .u8 (zl 32), 28, none⟩ := by rw [hG6, hget_set_ne (by omega)]; exact g8
   have k6 : ∀ j ∈ S4, j ≠ n7 → hget G6 j = hget B4 j := fun j hj hn => by rw [hG6, hget_set_ne (Ne.symm hn)]
   have q6 : Pl H0 S4 G6 tb rb kv T1 T1 l := by rw [hG6]; exact hP.set o7 hn7H _
   rw [← hG6]
   clear hG6
   have l68 := hget_lt g68
   obtain ⟨_, _, _, ldr6, _, _⟩ := hc.loads hx ((k6 nC o2.1 (by omega)).trans gC)
   (refine aoo fun K hK => ?_; simp (disch := first | omega | (simp only [lnS]; try omega)) [-getElem?_pos, -getElem?_neg, a3, a8, -xload, ldr6, g68, l68, hn8H, zR, tR, sR]; refine hK _ _ ?_; clear hK K)
   exact ⟨by (first | (simp [a0]; done) | rfl), by (first | (simp [a7]; done) | rfl), by (first | (simp [a8]; done) | rfl), x.raw, T1, zR, hx.raw.2, (hget_set_ne (by omega)).trans g67, hget_set_eq l68, q6.set o8 hn8H _, hm1, hm2, by omega, fun j hj h7 h8 => (hget_set_ne (Ne.symm h8)).trans (k6 j hj h7)⟩
  have f7 : (m8 == 7) = false := by rw [beq_eq_false_iff_ne]; exact e7
  (refine aoo fun K hK => ?_; simp (disch := first | omega | (simp only [lnS]; try omega)) [-getElem?_pos, -getElem?_neg, e7, f7]; refine hK _ _ ?_; clear hK K)
  refine aw_f (by (first | (simp; done) | (simp; omega))) (by kernel_rfl) ?_
  refine aw_skip ?_
  exact ⟨by (first | (simp [a0]; done) | rfl), by (first | (simp [a7]; done) | rfl), by (first | (simp [a8]; done) | rfl), zl 32, T1, by simp, fun z hz => by
   have : z = 0 := by simp [zl] at hz; exact hz
   subst this
   exact ⟨by decide, by decide⟩, g7, g8, hP, hm1, hm2, by omega, fun j hj _ _ => rfl⟩
 rintro α G ⟨a0, a7, a8, N, T2, lN, bN, g7, g8, hP, w1, w2, w3, wk⟩
 have gp := (wk p o1.1 (by omega) (by omega)).trans gp
 clear gC gA gD a3 a5 a6 a54
 have tN : (iv .u8 N).take 32 = iv .u8 N := List.take_of_length_le (by simp [lN])
 have hrow1 : setR (List.map (fun j => (iv .u8 (zl 32))[j % 32]?.getD undef) (List.range 32)) 0 (iv .u8 N) = iv .u8 N := setR_all _ _ (by simp [lN])
 obtain ⟨R, hR⟩ : ∃ R : Option Blk, R = some ⟨iv .u8 N, 28, some 32⟩ := ⟨_, rfl⟩
 have gpr : hget (G ++ [R]) p = _ := (hget_left (hP.sl o1.1)).trans gp
 obtain ⟨_, _, ldp2⟩ := play_loads gp
 obtain ⟨_, _, ldp2r⟩ := play_loads gpr
 have ld7 := key_load lN g7
 have hk1 : K32 [N] := fun z hz => by rw [List.mem_singleton.1 hz]; exact lN
 have hxc : xcells 32 (.slice (some ⟨G.length, 0, none⟩) 1 1) (G ++ [R]) = some (kr [N]) := by
  rw [kr_one, hR]
  simp [xcells, hget_app0, lN, tN]
 obtain ⟨kv', G8, hap, n1, n2, hP8, k8⟩ := (hP.low (G := G ++ [R]) (Low.push (Nat.le_refl _) _)).append hk32 (news := [N]) hk1 (fun s e => by cases e) hxc (by rw [List.length_singleton]; have := ok.ll; omega)
 obtain ⟨knt, kcs⟩ := hP.knt
 have gp8 := (k8 p o1.1).trans gpr
 have lp8 := hget_lt gp8
 subst hR
 refine aw_seq ?_
 refine aw_cut (fun α G' => α 0 = .pointer (some ⟨p, 0, none⟩) ∧ α 7 = .pointer (some ⟨n7, 0, none⟩) ∧ α 8 = .pointer (some ⟨n7 + 1, 0, none⟩) ∧ G' = G8.set p (some ⟨[.pointer (some ⟨tb, 0, none⟩), .pointer (some ⟨rb, 0, none⟩), kv'], 39, none⟩)) ?_ ?_
 ·(refine aw_plan [] [0] [1, 2, 3, 4, 5, 6] 7 4 (by kernel_rfl) (by kernel_rfl) (by kernel_rfl) (fun K hK => ?_)); simp only [sel, List.getElem?_cons_succ, List.getElem?_cons_zero, List.drop_succ_cons, List.drop_zero]; simp (disch := first | omega | (simp only [lnS]; try omega)) [-getElem?_pos, -getElem?_neg, a0, a7, -xload, ldp2, ldp2r, ld7, -notTuple, knt, hrow1, n1, n2, -xappend, hap, gp8, lp8, hpn, PL_nil, plainB_lit, PL_cons, PLc_val, PLc_new, stepP_t, stepP_f, stepPC_n, stepPC_s, stepPX_s, stepPX_n, stepPV_n, stepPV_s, stepPA_t, stepPA_c, stepPA_l, stepPN_s, allocOp, reloc_sl, reloc_ptr, List.map_cons, List.map_nil, List.nil_append, List.append_assoc, List.cons_append, Nat.add_assoc]
  refine hK _ _ ?_; clear hK K
  exact ⟨by (first | (simp [a0]; done) | rfl), by (first | (simp [a7]; done) | rfl), by (first | (simp [a8]; done) | rfl), rfl⟩
 rintro α G' ⟨a0, a7, a8, hG'⟩
 have gp := (hget_set_eq (x := some ⟨[.pointer (some ⟨tb, 0, none⟩), .pointer (some ⟨rb, 0, none⟩), kv'], 39, none⟩) lp8)
 have hP9 : Pl H0 S4 G' tb rb kv' T2 T2 (l ++ [N]) := by rw [hG']; exact hP8.set o1.1 hpn _
 have k9 : ∀ j ∈ S4, j ≠ p → hget G' j = hget G j := fun j hj hjp => by rw [hG', hget_set_ne (Ne.symm hjp)]; exact (k8 j hj).trans (hget_left (hP.sl hj))
 rw [← hG'] at gp
 clear hG' hap hxc hP8 k8 gp8 lp8 gpr ldp2 ldp2r ld7
 have g7 := (k9 _ o7 (by omega)).trans g7
 have g8 := (k9 _ o8 (by omega)).trans g8
 obtain ⟨B9, hBB⟩ : ∃ B9, B9 = G' := ⟨_, rfl⟩
 rw [← hBB] at gp g7 g8 hP9 k9 ⊢
 clear hBB
 obtain ⟨tv, sv2, gr, tnt, tcs, rlen⟩ := hP9.rlen
 obtain ⟨m, hm⟩ : ∃ m, m = T2.length := ⟨_, rfl⟩
 rw [← hm] at rlen
 obtain ⟨y, hy⟩ : ∃ y, y = lookT T2 N := ⟨_, rfl⟩
 obtain ⟨hyk, hym⟩ := look_k32 w1 lN
 rw [← hy] at hyk hym
 have hst : sameT y y = true := sameT_iff.2 rfl
 have doZ_nd : doZD.Nodup := by decide
 have doZ_st := @doZ_st' p rb n7 tb N tv m y
 refine aw_seq ?_
 refine name_aw (fun β hβ => ?_)
 have e0 : β 0 = .pointer (some ⟨p, 0, none⟩) := by rw [hβ, a0]
 have e7 : β 7 = .pointer (some ⟨n7, 0, none⟩) := by rw [hβ, a7]
 have e8 : β 8 = .pointer (some ⟨n7 + 1, 0, none⟩) := by rw [hβ, a8]
 clear hβ a0 a7 a8
 refine aw_inv doZP (IJ doZD (doZV p rb n7 tb N tv m y) β B9) (by kernel_rfl) (by kernel_rfl) (by kernel_rfl) (IJ.start rfl) ?_ ?_
 ·intro i s α G k hJ hi0 hsi hd hcc hcont
  have lwG : Low B9.length B9 G := ⟨hJ.lw.2, hJ.lw.1⟩
  have j0 := (hJ.lo 0 (by decide)).trans e0
  have j7 := (hJ.lo 7 (by decide)).trans e7
  have j8 := (hJ.lo 8 (by decide)).trans e8
  obtain ⟨ldp0, ldp1, _⟩ := play_loads ((lwG.1 _ (hget_lt gp)).trans gp)
  have ld7 := key_load lN ((lwG.1 _ (hget_lt g7)).trans g7)
  have ld8 := key_load lN ((lwG.1 _ (hget_lt g8)).trans g8)
  have ldr : xload Tryd.prog 56 (.pointer (some ⟨rb, 0, none⟩)) G = some tv := by simp [xload, (lwG.1 _ (hget_lt gr)).trans gr]
  have hPG := hP9.low lwG
  have hi : i = 0 ∨ i = 1 ∨ i = 2 ∨ i = 3 ∨ i = 4 ∨ i = 5 ∨ i = 6 ∨ i = 7 ∨ i = 8 ∨ i = 9 ∨ i = 10 ∨ i = 11 ∨ i = 12 ∨ i = 13 ∨ i = 14 ∨ i = 15 ∨ i = 16 ∨ i = 17 ∨ i = 18 ∨ i = 19 ∨ i = 20 ∨ i = 21 ∨ i = 22 ∨ i = 23 ∨ i = 24 ∨ i = 25 ∨ i = 26 ∨ i = 27 ∨ i = 28 ∨ i = 29 ∨ i = 30 ∨ i = 31 ∨ i = 32 ∨ i = 33 ∨ i = 34 := by have hi0 : i < 35 := hi0; omega
  rcases hi with rfl | rfl | rfl | rfl | rfl | rfl | rfl | rfl | rfl | rfl | rfl | rfl | rfl | rfl | rfl | rfl | rfl | rfl | rfl | rfl | rfl | rfl | rfl | rfl | rfl | rfl | rfl | rfl | rfl | rfl | rfl | rfl | rfl | rfl | rfl
  ·simp (disch := first | omega | (simp only [lnS]; try omega)) [-getElem?_pos, -getElem?_neg, -notTuple, j7, -xload, ld7]
   exact hcont _ _ (hJ.put doZ_nd doZ_st rfl (Nat.le_refl _) (fun _ _ => rfl) rfl)
  ·simp (disch := first | omega | (simp only [lnS]; try omega)) [-getElem?_pos, -getElem?_neg, -notTuple, j8, -xload, ld8]
   exact hcont _ _ (hJ.put doZ_nd doZ_st rfl (Nat.le_refl _) (fun _ _ => rfl) rfl)
  ·have f0 : α 203 = .agg (iv .u8 N).toArray := hJ.val 0 203 rfl (hd 0 (by decide))
   have f1 : α 204 = .agg (iv .u8 N).toArray := hJ.val 1 204 rfl (hd 1 (by decide))
   simp (disch := first | omega | (simp only [lnS]; try omega)) [-getElem?_pos, -getElem?_neg, -notTuple, f0, f1]
   exact hcont _ _ (hJ.put doZ_nd doZ_st rfl (Nat.le_refl _) (fun _ _ => rfl) rfl)
  ·have f2 : α 205 = .bool true := hJ.val 2 205 rfl (hd 2 (by decide))
   simp (disch := first | omega | (simp only [lnS]; try omega)) [-getElem?_pos, -getElem?_neg, -notTuple, f2]
   exact hcont _ _ (hJ.put doZ_nd doZ_st rfl (Nat.le_refl _) (fun _ _ => rfl) rfl)
  ·have f3 : α 206 = .bool true := hJ.val 3 206 rfl (hd 3 (by decide))
   simp (disch := first | omega | (simp only [lnS]; try omega)) [-getElem?_pos, -getElem?_neg, -notTuple, j0, f3]
   exact hcont _ _ (hJ.put doZ_nd doZ_st rfl (Nat.le_refl _) (fun _ _ => rfl) rfl)
  ·have f3 : α 206 = .bool true := hJ.val 3 206 rfl (hd 3 (by decide))
   have f4 : α 207 = .pointer (some ⟨p, 0, none⟩) := hJ.val 4 207 rfl (hd 4 (by decide))
   simp (disch := first | omega | (simp only [lnS]; try omega)) [-getElem?_pos, -getElem?_neg, -notTuple, f3, f4]
   exact hcont _ _ (hJ.put doZ_nd doZ_st rfl (Nat.le_refl _) (fun _ _ => rfl) rfl)
  ·have f3 : α 206 = .bool true := hJ.val 3 206 rfl (hd 3 (by decide))
   have f5 : α 208 = .pointer (some ⟨p, 0, none⟩) := hJ.val 5 208 rfl (hd 5 (by decide))
   simp (disch := first | omega | (simp only [lnS]; try omega)) [-getElem?_pos, -getElem?_neg, -notTuple, f3, f5]
   exact hcont _ _ (hJ.put doZ_nd doZ_st rfl (Nat.le_refl _) (fun _ _ => rfl) rfl)
  ·have f3 : α 206 = .bool true := hJ.val 3 206 rfl (hd 3 (by decide))
   have f6 : α 209 = .pointer (some ⟨p, 0, none⟩) := hJ.val 6 209 rfl (hd 6 (by decide))
   simp (disch := first | omega | (simp only [lnS]; try omega)) [-getElem?_pos, -getElem?_neg, -notTuple, -xload, ldp0, f3, f6]
   exact hcont _ _ (hJ.put doZ_nd doZ_st rfl (Nat.le_refl _) (fun _ _ => rfl) rfl)
  ·have f3 : α 206 = .bool true := hJ.val 3 206 rfl (hd 3 (by decide))
   have f7 : α 210 = .pointer (some ⟨tb, 0, none⟩) := hJ.val 7 210 rfl (hd 7 (by decide))
   simp (disch := first | omega | (simp only [lnS]; try omega)) [-getElem?_pos, -getElem?_neg, f3, f7]
   refine ⟨by kernel_rfl, ac_of_rc (pl_len hPG) (by simp [pv_iv, pv_int, pv_bool, pv_string, pv_tup2, pv_tup3, iv_plain, p2_int, p2_bool, p2_string]) ?_⟩
   rw [← hm]
   exact hcont _ _ (hJ.put doZ_nd doZ_st (t := 211) rfl (Nat.le_refl _) (fun _ _ => rfl) rfl)
  ·have f3 : α 206 = .bool true := hJ.val 3 206 rfl (hd 3 (by decide))
   simp (disch := first | omega | (simp only [lnS]; try omega)) [-getElem?_pos, -getElem?_neg, -notTuple, j0, f3]
   exact hcont _ _ (hJ.put doZ_nd doZ_st rfl (Nat.le_refl _) (fun _ _ => rfl) rfl)
  ·have f3 : α 206 = .bool true := hJ.val 3 206 rfl (hd 3 (by decide))
   have f9 : α 212 = .pointer (some ⟨p, 0, none⟩) := hJ.val 9 212 rfl (hd 9 (by decide))
   simp (disch := first | omega | (simp only [lnS]; try omega)) [-getElem?_pos, -getElem?_neg, -notTuple, f3, f9]
   exact hcont _ _ (hJ.put doZ_nd doZ_st rfl (Nat.le_refl _) (fun _ _ => rfl) rfl)
  ·have f3 : α 206 = .bool true := hJ.val 3 206 rfl (hd 3 (by decide))
   have f10 : α 213 = .pointer (some ⟨p, 0, none⟩) := hJ.val 10 213 rfl (hd 10 (by decide))
   simp (disch := first | omega | (simp only [lnS]; try omega)) [-getElem?_pos, -getElem?_neg, -notTuple, f3, f10]
   exact hcont _ _ (hJ.put doZ_nd doZ_st rfl (Nat.le_refl _) (fun _ _ => rfl) rfl)
  ·have f3 : α 206 = .bool true := hJ.val 3 206 rfl (hd 3 (by decide))
   have f11 : α 214 = .pointer (some ⟨p, 1, none⟩) := hJ.val 11 214 rfl (hd 11 (by decide))
   simp (disch := first | omega | (simp only [lnS]; try omega)) [-getElem?_pos, -getElem?_neg, -notTuple, -xload, ldp1, f3, f11]
   exact hcont _ _ (hJ.put doZ_nd doZ_st rfl (Nat.le_refl _) (fun _ _ => rfl) rfl)
  ·have f3 : α 206 = .bool true := hJ.val 3 206 rfl (hd 3 (by decide))
   have f12 : α 215 = .pointer (some ⟨rb, 0, none⟩) := hJ.val 12 215 rfl (hd 12 (by decide))
   simp (disch := first | omega | (simp only [lnS]; try omega)) [-getElem?_pos, -getElem?_neg, -notTuple, f3, f12]
   exact hcont _ _ (hJ.put doZ_nd doZ_st rfl (Nat.le_refl _) (fun _ _ => rfl) rfl)
  ·have f3 : α 206 = .bool true := hJ.val 3 206 rfl (hd 3 (by decide))
   have f13 : α 216 = .pointer (some ⟨rb, 0, none⟩) := hJ.val 13 216 rfl (hd 13 (by decide))
   simp (disch := first | omega | (simp only [lnS]; try omega)) [-getElem?_pos, -getElem?_neg, -notTuple, f3, f13]
   exact hcont _ _ (hJ.put doZ_nd doZ_st rfl (Nat.le_refl _) (fun _ _ => rfl) rfl)
  ·have f3 : α 206 = .bool true := hJ.val 3 206 rfl (hd 3 (by decide))
   have f14 : α 217 = .pointer (some ⟨rb, 0, none⟩) := hJ.val 14 217 rfl (hd 14 (by decide))
   simp (disch := first | omega | (simp only [lnS]; try omega)) [-getElem?_pos, -getElem?_neg, -notTuple, -xload, ldr, tnt, f3, f14]
   exact hcont _ _ (hJ.put doZ_nd doZ_st rfl (Nat.le_refl _) (fun _ _ => rfl) rfl)
  ·have f3 : α 206 = .bool true := hJ.val 3 206 rfl (hd 3 (by decide))
   have f15 : α 218 = tv := hJ.val 15 218 rfl (hd 15 (by decide))
   simp (disch := first | omega | (simp only [lnS]; try omega)) [-getElem?_pos, -getElem?_neg, -notTuple, tnt, -xlen, rlen, f3, f15]
   exact hcont _ _ (hJ.put doZ_nd doZ_st rfl (Nat.le_refl _) (fun _ _ => rfl) rfl)
  ·have f3 : α 206 = .bool true := hJ.val 3 206 rfl (hd 3 (by decide))
   have f8 : α 211 = .int .i64 (m : Nat) := hJ.val 8 211 rfl (hd 8 (by decide))
   have f16 : α 219 = .int .i64 (m : Nat) := hJ.val 16 219 rfl (hd 16 (by decide))
   simp (disch := first | omega | (simp only [lnS]; try omega)) [-getElem?_pos, -getElem?_neg, -notTuple, f3, f8, f16]
   exact hcont _ _ (hJ.put doZ_nd doZ_st rfl (Nat.le_refl _) (fun _ _ => rfl) rfl)
  ·have f3 : α 206 = .bool true := hJ.val 3 206 rfl (hd 3 (by decide))
   have f17 : α 220 = .bool true := hJ.val 17 220 rfl (hd 17 (by decide))
   simp (disch := first | omega | (simp only [lnS]; try omega)) [-getElem?_pos, -getElem?_neg, -notTuple, f3, f17]
   exact hcont _ _ (hJ.put doZ_nd doZ_st rfl (Nat.le_refl _) (fun _ _ => rfl) rfl)
  ·have f18 : α 221 = .bool true := hJ.val 18 221 rfl (hd 18 (by decide))
   simp (disch := first | omega | (simp only [lnS]; try omega)) [-getElem?_pos, -getElem?_neg, -notTuple, f18]
   exact hcont _ _ (hJ.put doZ_nd doZ_st rfl (Nat.le_refl _) (fun _ _ => rfl) rfl)
  ·have f19 : α 222 = .bool true := hJ.val 19 222 rfl (hd 19 (by decide))
   simp (disch := first | omega | (simp only [lnS]; try omega)) [-getElem?_pos, -getElem?_neg, -notTuple, j0, f19]
   exact hcont _ _ (hJ.put doZ_nd doZ_st rfl (Nat.le_refl _) (fun _ _ => rfl) rfl)
  ·have f19 : α 222 = .bool true := hJ.val 19 222 rfl (hd 19 (by decide))
   have f20 : α 223 = .pointer (some ⟨p, 0, none⟩) := hJ.val 20 223 rfl (hd 20 (by decide))
   simp (disch := first | omega | (simp only [lnS]; try omega)) [-getElem?_pos, -getElem?_neg, -notTuple, f19, f20]
   exact hcont _ _ (hJ.put doZ_nd doZ_st rfl (Nat.le_refl _) (fun _ _ => rfl) rfl)
  ·have f19 : α 222 = .bool true := hJ.val 19 222 rfl (hd 19 (by decide))
   have f21 : α 224 = .pointer (some ⟨p, 0, none⟩) := hJ.val 21 224 rfl (hd 21 (by decide))
   simp (disch := first | omega | (simp only [lnS]; try omega)) [-getElem?_pos, -getElem?_neg, -notTuple, f19, f21]
   exact hcont _ _ (hJ.put doZ_nd doZ_st rfl (Nat.le_refl _) (fun _ _ => rfl) rfl)
  ·have f19 : α 222 = .bool true := hJ.val 19 222 rfl (hd 19 (by decide))
   have f22 : α 225 = .pointer (some ⟨p, 0, none⟩) := hJ.val 22 225 rfl (hd 22 (by decide))
   simp (disch := first | omega | (simp only [lnS]; try omega)) [-getElem?_pos, -getElem?_neg, -notTuple, -xload, ldp0, f19, f22]
   exact hcont _ _ (hJ.put doZ_nd doZ_st rfl (Nat.le_refl _) (fun _ _ => rfl) rfl)
  ·have f19 : α 222 = .bool true := hJ.val 19 222 rfl (hd 19 (by decide))
   simp (disch := first | omega | (simp only [lnS]; try omega)) [-getElem?_pos, -getElem?_neg, -notTuple, j7, -xload, ld7, f19]
   exact hcont _ _ (hJ.put doZ_nd doZ_st rfl (Nat.le_refl _) (fun _ _ => rfl) rfl)
  ·have f19 : α 222 = .bool true := hJ.val 19 222 rfl (hd 19 (by decide))
   have f23 : α 226 = .pointer (some ⟨tb, 0, none⟩) := hJ.val 23 226 rfl (hd 23 (by decide))
   have f24 : α 227 = .agg (iv .u8 N).toArray := hJ.val 24 227 rfl (hd 24 (by decide))
   simp (disch := first | omega | (simp only [lnS]; try omega)) [-getElem?_pos, -getElem?_neg, f19, f23, f24]
   refine ⟨by kernel_rfl, AC.mono (pl_look hPG lN bN) ?_⟩
   rintro v' G' ⟨lwq, kx, rfl, hkx⟩
   rw [← hy] at hkx ⊢
   exact hcont _ _ (hJ.put doZ_nd doZ_st (t := 228) rfl lwq.2 lwq.1 ⟨kx, rfl, hkx hyk⟩)
  ·have f19 : α 222 = .bool true := hJ.val 19 222 rfl (hd 19 (by decide))
   simp (disch := first | omega | (simp only [lnS]; try omega)) [-getElem?_pos, -getElem?_neg, -notTuple, j0, f19]
   exact hcont _ _ (hJ.put doZ_nd doZ_st rfl (Nat.le_refl _) (fun _ _ => rfl) rfl)
  ·have f19 : α 222 = .bool true := hJ.val 19 222 rfl (hd 19 (by decide))
   have f26 : α 229 = .pointer (some ⟨p, 0, none⟩) := hJ.val 26 229 rfl (hd 26 (by decide))
   simp (disch := first | omega | (simp only [lnS]; try omega)) [-getElem?_pos, -getElem?_neg, -notTuple, f19, f26]
   exact hcont _ _ (hJ.put doZ_nd doZ_st rfl (Nat.le_refl _) (fun _ _ => rfl) rfl)
  ·have f19 : α 222 = .bool true := hJ.val 19 222 rfl (hd 19 (by decide))
   have f27 : α 230 = .pointer (some ⟨p, 0, none⟩) := hJ.val 27 230 rfl (hd 27 (by decide))
   simp (disch := first | omega | (simp only [lnS]; try omega)) [-getElem?_pos, -getElem?_neg, -notTuple, f19, f27]
   exact hcont _ _ (hJ.put doZ_nd doZ_st rfl (Nat.le_refl _) (fun _ _ => rfl) rfl)
  ·have f19 : α 222 = .bool true := hJ.val 19 222 rfl (hd 19 (by decide))
   have f28 : α 231 = .pointer (some ⟨p, 1, none⟩) := hJ.val 28 231 rfl (hd 28 (by decide))
   simp (disch := first | omega | (simp only [lnS]; try omega)) [-getElem?_pos, -getElem?_neg, -notTuple, -xload, ldp1, f19, f28]
   exact hcont _ _ (hJ.put doZ_nd doZ_st rfl (Nat.le_refl _) (fun _ _ => rfl) rfl)
  ·have f19 : α 222 = .bool true := hJ.val 19 222 rfl (hd 19 (by decide))
   simp (disch := first | omega | (simp only [lnS]; try omega)) [-getElem?_pos, -getElem?_neg, -notTuple, j7, -xload, ld7, f19]
   exact hcont _ _ (hJ.put doZ_nd doZ_st rfl (Nat.le_refl _) (fun _ _ => rfl) rfl)
  ·have f19 : α 222 = .bool true := hJ.val 19 222 rfl (hd 19 (by decide))
   have f29 : α 232 = .pointer (some ⟨rb, 0, none⟩) := hJ.val 29 232 rfl (hd 29 (by decide))
   have f30 : α 233 = .agg (iv .u8 N).toArray := hJ.val 30 233 rfl (hd 30 (by decide))
   simp (disch := first | omega | (simp only [lnS]; try omega)) [-getElem?_pos, -getElem?_neg, f19, f29, f30]
   refine ⟨by kernel_rfl, AC.mono (pl_rlook hPG lN bN) ?_⟩
   rintro v' G' ⟨lwq, kx, rfl, hkx⟩
   rw [← hy] at hkx ⊢
   exact hcont _ _ (hJ.put doZ_nd doZ_st (t := 234) rfl lwq.2 lwq.1 ⟨kx, rfl, hkx⟩)
  ·have f19 : α 222 = .bool true := hJ.val 19 222 rfl (hd 19 (by decide))
   have f25 := hJ.val 25 228 rfl (hd 25 (by decide))
   have f31 := hJ.val 31 234 rfl (hd 31 (by decide))
   obtain ⟨k1, u1, u2⟩ := f25
   obtain ⟨k2, v1, v2⟩ := f31
   simp (disch := first | omega | (simp only [lnS]; try omega)) [-getElem?_pos, -getElem?_neg, f19, u1, v1]
   refine ⟨by kernel_rfl, ac_of_rc (sameTerm_rc u2 v2 hyk hyk (by simp only [maxLen]; omega)) (by simp [pv_iv, pv_int, pv_bool, pv_string, pv_tup2, pv_tup3, iv_plain, p2_int, p2_bool, p2_string]) ?_⟩
   rw [hst]
   exact hcont _ _ (hJ.put doZ_nd doZ_st (t := 235) rfl (Nat.le_refl _) (fun _ _ => rfl) rfl)
  ·have f19 : α 222 = .bool true := hJ.val 19 222 rfl (hd 19 (by decide))
   have f32 : α 235 = .bool true := hJ.val 32 235 rfl (hd 32 (by decide))
   simp (disch := first | omega | (simp only [lnS]; try omega)) [-getElem?_pos, -getElem?_neg, -notTuple, f19, f32]
   exact hcont _ _ (hJ.put doZ_nd doZ_st rfl (Nat.le_refl _) (fun _ _ => rfl) rfl)
  ·have f33 : α 236 = .bool true := hJ.val 33 236 rfl (hd 33 (by decide))
   simp (disch := first | omega | (simp only [lnS]; try omega)) [-getElem?_pos, -getElem?_neg, -notTuple, f33]
   exact hcont _ _ (hJ.put doZ_nd doZ_st rfl (Nat.le_refl _) (fun _ _ => rfl) rfl)
 rintro s α G hJ hall
 have hsz : s.size = 35 := hJ.sz
 have hg : ∀ i, i < 35 → s.getD i false = true := fun i hi => by
  rw [Array.getD_eq_getD_getElem?, Array.getElem?_eq_getElem (by omega)]
  exact Array.all_eq_true.1 hall i (by omega)
 have lw9 : Low B9.length B9 G := ⟨hJ.lw.2, hJ.lw.1⟩
 have a4 : α 4 = .bool true := hJ.val 34 4 rfl (hg 34 (by omega))
 clear hall hsz hg hJ e0 e7 e8
 have gp := (lw9.1 _ (hget_lt gp)).trans gp
 have fin : DoQ H0 S H p tb rb n (.bool true) G := ⟨rfl, kv', T2, l ++ [N], gp, (hP9.low lw9).less (fun j hj => (hSk j hj).2.1), ⟨w1, w2, by omega, by rw [List.length_append, List.length_singleton]; have := ok.ll; omega, by rw [List.length_append]; have := ok.l2; omega, fun k hk => (List.mem_append.1 hk).elim (ok.kk k) (fun e => by rw [List.mem_singleton.1 e]; exact ⟨lN, bN⟩)⟩, fun j hj hjp => by
  obtain ⟨x1, x2, x3⟩ := hSk j hj
  exact (lw9.1 j (hP9.sl x2)).trans ((k9 j x2 hjp).trans ((wk j x2 (by omega) (by omega)).trans x1))⟩
 (refine aw_ret ?_; simp (disch := first | omega | (simp only [lnS]; try omega)) [-getElem?_pos, -getElem?_neg, thenQ_ret, scopeQ_ret, inBlockQ_ret, RQ, resL, resV, a4])
 exact fin
end
section
theorem k1_by : By k1L := fun z hz => by
 rcases List.mem_cons.1 hz with e | e
 ·subst e; exact ⟨by decide, by decide⟩
 ·have : z = 0 := by simp [zl] at e; exact e
  subst this
  exact ⟨by decide, by decide⟩
theorem beg_ok : OkP [] [zl 32, k1L] 0 := by
 refine ⟨fun x hx => (by cases hx), fun x hx => (by cases hx), Nat.le_refl _, Nat.le_refl _, Nat.le_refl _, fun k hk => ?_⟩
 rcases List.mem_cons.1 hk with e | e
 ·rw [e]; exact ⟨by simp, zl_by32⟩
 ·rw [List.mem_singleton.1 e]; exact ⟨by simp [k1L], k1_by⟩
theorem beg_pl {H : AH} {v' : Value} {H' : AH} (h : BegP H v' H') : ∃ tb rb kv p, v' = .pointer (some ⟨p, 0, none⟩) ∧ H.length ≤ p ∧ hget H' p = some ⟨[.pointer (some ⟨tb, 0, none⟩), .pointer (some ⟨rb, 0, none⟩), kv], 39, none⟩ ∧ Pl H [p] H' tb rb kv [] [] [zl 32, k1L] := by
 obtain ⟨tb, rb, kb, pb, h1, lw, b1, b2, b3, b4, gp, gk, hR, mb, m1, m2, hT⟩ := h
 have lb := hget_lt gp
 have bt := hT.lt
 have br := hget_lt hR.hb
 refine ⟨tb, rb, _, pb, h1, by omega, gp, [tb, mb], [], [], [], [kb], .slice none 0 0, .slice none 0 0, [], lw, ⟨mb, .slice none 0 0, [], [], [], rfl, hT, rfl, fun j hj => ?_⟩, hR, rfl, .inr ⟨kb, 2, rfl, by simpa [kr] using gk, by simp [kr, k1L], rfl⟩, fun j hj => ?_, fun j hj => ?_, fun j hj => ?_, fun j hj e => ?_, fun j hj e => ?_, fun j hj e => ?_, fun j hj => ?_⟩
 ·simp only [List.append_nil, List.mem_cons, List.not_mem_nil, or_false] at hj
  rcases hj with rfl | rfl
  ·exact bt.1
  ·exact bt.2.1
 ·simp only [List.mem_cons, List.not_mem_nil, or_false] at hj
  rcases hj with rfl | rfl <;> omega
 ·simp only [List.append_nil, List.mem_cons, List.not_mem_nil, or_false] at hj
  omega
 ·rw [List.mem_singleton.1 hj]; omega
 ·have hm := hT.bm
  simp only [List.append_nil, List.mem_cons, List.not_mem_nil, or_false] at hj e
  rcases hj with rfl | rfl <;> omega
 ·simp only [List.mem_cons, List.not_mem_nil, or_false] at hj e
  rcases hj with rfl | rfl <;> omega
 ·simp only [List.append_nil, List.mem_cons, List.not_mem_nil, or_false] at hj e
  omega
 ·rw [List.mem_singleton.1 hj]
  refine ⟨lb, fun e => ?_, fun e => ?_, fun e => ?_⟩
  all_goals
   simp only [List.append_nil, List.mem_cons, List.not_mem_nil, or_false] at e
   omega
end
end
end Go.Proofs.YtecjhpamfkfilaaDoor
