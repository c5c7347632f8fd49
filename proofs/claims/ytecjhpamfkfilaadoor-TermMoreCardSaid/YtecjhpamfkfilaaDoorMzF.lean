/-
  A search: use.
-/
import Derived.Test.YtecjhpamfkfilaaDoorMzE
import Derived.Test.YtecjhpamfkfilaaDoorMzC
namespace Go.Proofs.YtecjhpamfkfilaaDoor
open Go Go.RowKit
set_option linter.unusedSimpArgs false
set_option linter.unusedVariables false
set_option maxRecDepth 100000
set_option maxHeartbeats 8000000
section
attribute [local simp] wb_bool wb_undef with_lit XL_nil XL_cons XLc_val XLc_call step1_eq stepW_t stepW_f stepC_n stepC_s stepX_s stepX_n stepN_s calleeX xrecv oneV xop_eq xopR_s xopR_n wantedA_eq wantedG_n wantedG_s plain1_int plain1_bool plain1_string bits_i64 bits_u64 bits_u32 bits_u16 bits_u8 xeqA xagg xcmp xarr allK_iv num_iv calleeOf xread xeff xbin xint xnil xun xstr xload xconv xpart xfield xfieldAddr xindexAddr xindex bnd asInt? xslice xlen xmin xmax xbuild xfill xappend xapp2 xappstr xappmk xcap xcopy xcells eval_tmp eval_const put_at put_none fr0_at cells_agg cells_int cells_bool cells_string cells_ptr cells_slice notTuple tab iv_all hget_app hget_app0 hget_cons0 hget_cons set_app set_app0 setR setR_one QL_nil QL_cons QLc_val stepQ_t stepQ_f stepQC_n stepQC_s stepQX_s SL_nil SL_cons SLc_val stepS_t stepS_f ltT ltF leT leF eqT eqF ltTn ltFn leTn leFn eqTn eqFn beqT beqF bneT bneF wi64 wu64 wu32 wu16 wu8 tmodP tdivP hgetL hgetNe hgetEq setL nums_def nums_len Nat.succ_le_of_lt List.getElem?_cons_zero List.getElem?_cons_succ Option.getD_some Int.toNat_add Int.toNat_mul agM okM agB agI agS agP agL agA okB okI okS okP okSl okA nt_strG nt_boolG nt_aggG nt_intG nt_ptrG nt_slG
section
theorem users_len {k : List Int} {M : Nat} : ∀ {T : List TermD} {n : Nat}, (∀ x ∈ T, x.keys.length ≤ M) → (usersF k n T).length ≤ T.length * M
 | [], n, _ => by simp [usersF]
 | x :: T, n, h => by
  have h1 := users_len (k := k) (M := M) (T := T) (n := n + 1) (fun y hy => h y (by simp [hy]))
  have h2 := h x (by simp)
  have h3 : (x.keys.filter (· = k)).length ≤ x.keys.length := List.length_filter_le _ _
  unfold usersF
  rw [List.length_append, List.length_map, List.length_cons, Nat.succ_mul]
  omega
theorem SR.users_le {γ : Nat → Option Nat} {nro : Nat} {H : AH} {c : SrC} {F : List Nat} {s : FSt} (h : SR γ nro H c F s) (k : List Int) : (usersF k 0 c.T).length ≤ 1000000000000 := by
 have h1 := users_len (k := k) (n := 0) (M := 1000000) (T := c.T) (fun x hx => by
  obtain ⟨p, hp, rfl⟩ := List.mem_map.1 hx
  exact (h.st.tb.wf p hp).many)
 have h2 : c.T.length = c.L.length := by simp [SrC.T]
 have h3 := h.n
 have h4 : c.T.length * 1000000 ≤ 1000000 * 1000000 := Nat.mul_le_mul_right _ (by omega)
 omega
def okAll (okI : List Nat → Nat → Bool) : List Nat → List Nat → Bool
 | _, [] => true
 | D, i :: r => okI D i && okAll okI (i :: D) r
theorem tab_run {TB : List (List Nat × List Tmp × List (List Nat))} {C : List Nat → List Tmp → List Nat → Bool} {R : (List Nat × List Tmp × List (List Nat)) → List Nat → Prop} (hok : (TB.all fun p => p.2.2.all fun o => C p.1 p.2.1 o) = true) (h : ∀ p ∈ TB, ∀ o ∈ p.2.2, C p.1 p.2.1 o = true → R p o) : ∀ p ∈ TB, ∀ o ∈ p.2.2, R p o :=
 fun p hp o ho => h p hp o ho (List.all_eq_true.1 (List.all_eq_true.1 hok p hp) o ho)
theorem ord_run {P : Program} {nro n : Nat} {γ : Nat → Option Nat} {ops : Array Oper} {K : Fm → AH → Prop} {l : List Oper} {okI : List Nat → Nat → Bool} {J : List Nat → Fm → AH → Prop} (hl : ∀ D i, okI D i = true → (l[i]?).isSome = true)
  (hs : ∀ (i : Nat) (D : List Nat) (α : Fm) (G : AH) (rest : List Oper), J D α G → okI D i = true → (∀ α' G', J (i :: D) α' G' → XL P nro n γ ops K rest α' G') → XL P nro n γ ops K (sel l [i] ++ rest) α G)
  : ∀ (o D : List Nat) (α : Fm) (G : AH), okAll okI D o = true → J D α G → (∀ (E : List Nat) (α' : Fm) (G' : AH), J E α' G' → (∀ k ∈ o, k ∈ E) → (∀ k ∈ D, k ∈ E) → K α' G') → XL P nro n γ ops K (sel l o) α G
 | [], D, α, G, _, h, hK => hK D α G h (by simp) (by simp)
 | i :: r, D, α, G, hok, h, hK => by
  simp only [okAll, Bool.and_eq_true] at hok
  have e : sel l (i :: r) = sel l [i] ++ sel l r := by
   have hsome := hl D i hok.1
   cases hi : l[i]? with
   | none => rw [hi] at hsome; cases hsome
   | some o => simp [sel, hi]
  rw [e]
  refine hs i D α G _ h hok.1 fun α' G' h' => ord_run hl hs r (i :: D) α' G' hok.2 h' fun E α2 G2 h2 h3 h4 => hK E α2 G2 h2 (fun k hk => ?_) (fun k hk => h4 k (by simp [hk]))
  rcases List.mem_cons.1 hk with rfl | hk
  ·exact h4 _ (by simp)
  ·exact h3 k hk
def okU (D : List Nat) (i : Nat) : Bool := match i with
 | 2 => true
 | 3 => D.contains 2
 | 4 => D.contains 3
 | 5 => D.contains 4
 | 6 => true
 | 7 => D.contains 5 && D.contains 6
 | 8 => D.contains 7
 | 11 => !(D.contains 11)
 | 12 => D.contains 8 && !(D.contains 12)
 | _ => false
def dU (u : List Nat) : List Nat := [0, 1, 2, 3, 4, 5, 6, 7, 8, 9, 10].filter fun k => !(u.contains k)
structure JU (H : AH) (c : SrC) (i : Nat) (N : List Int) (q kv : Value) (x : TermD) (D : List Nat) (α : Fm) (G : AH) : Prop where
 h0 : α 0 = .pointer (some ⟨c.sb, 0, none⟩)
 h1 : α 1 = .int .i64 (i : Nat)
 h4 : α 4 = .pointer (some ⟨H.length, 0, none⟩)
 h5 : α 5 = .pointer (some ⟨H.length + 1, 0, none⟩)
 h11 : α 11 = .agg (iv .u8 N).toArray
 h12 : 2 ∈ D → α 12 = .pointer (some ⟨c.sb, 0, none⟩)
 h13 : 3 ∈ D → α 13 = .pointer (some ⟨c.sb, 0, none⟩)
 h14 : 4 ∈ D → α 14 = .pointer (some ⟨c.sb, 0, none⟩)
 h15 : 5 ∈ D → α 15 = c.tv
 h16 : 6 ∈ D → α 16 = .int .i64 (i : Nat)
 h17 : 7 ∈ D → α 17 = q
 h18 : 8 ∈ D → α 18 = .agg #[.int .i64 (x.kind : Nat), .string x.text, kv]
 hG : ∃ A B : Option Blk, G = H ++ [A, B] ∧ (A = some ⟨iv .u8 (if 11 ∈ D then N else zl 32), 28, none⟩) ∧ (B = some ⟨if 12 ∈ D then [.int .i64 (x.kind : Nat), .string x.text, kv] else [.int .i64 0, .string ByteArray.empty, .slice none 0 0], 67, none⟩)
theorem PL_hide {P : Program} {nro n : Nat} {γ : Nat → Option Nat} {nd : List Tmp} {ops : Array Oper} {H : AH} {rest : List Oper} {α : Fm} {N : List Blk} {K0 : Fm → List Blk → Prop} (h : ∀ KK : Fm → List Blk → Prop, (∀ α' N, K0 α' N → KK α' N) → PL P nro n γ nd ops KK H rest α N) : PL P nro n γ nd ops K0 H rest α N := h K0 (fun _ _ h => h)
theorem Tdo.at_ {H : AH} {v : Value} {td Fd : List Nat} (h : Tdo H v td Fd) {i : Nat} (hi : i < td.length) : ∃ q, xindexAddr Tryd.prog 29 v (.int .i64 (i : Nat)) = some q ∧ notTuple q = true ∧ ∀ G : AH, (∀ j ∈ Fd, hget G j = hget H j) → xload Tryd.prog 3 q G = some (.int .i64 ((td.getD i 0 : Nat) : Int)) := by
 have hu : und Tryd.prog 29 = .slice 3 := by kernel_rfl
 have hs : szt Tryd.prog 3 = 1 := by kernel_rfl
 rcases h with ⟨_, rfl, _⟩ | ⟨j, cs, rfl, rfl, h3, h4⟩
 ·simp at hi
 ·refine ⟨.pointer (some ⟨j, i, none⟩), ?_, rfl, fun G hG => ?_⟩
  ·unfold xindexAddr
   simp only [hu, hs]
   rw [if_pos ⟨by omega, by omega, by omega⟩]
   simp
  ·have hg := (hG j (by simp)).trans h3
   have hc : cs[i]? = some (.int .i64 ((td.getD i 0 : Nat) : Int)) := by
    obtain ⟨r, rfl⟩ := h4
    rw [List.getElem?_append_left (by rw [tdC_len]; exact hi)]
    unfold tdC
    rw [List.getElem?_map, List.getD_eq_getElem?_getD, List.getElem?_eq_getElem hi]
    rfl
   have hl := (List.getElem?_eq_some_iff.1 hc).1
   have hl : i + 1 ≤ cs.length := hl
   simp [xload, hg, hc, hl]
theorem use_ac {γ : Nat → Option Nat} {nro : Nat} {H : AH} {c : SrC} {F : List Nat} {s : FSt} (h : SR γ nro H c F s) {i : Nat} (hi : i < c.L.length) :
  AC Tryd.prog nro γ 36 #[.pointer (some ⟨c.sb, 0, none⟩), .int .i64 (i : Nat)] H (SRQ γ nro H c F (useS c.T s i)) := by
 obtain ⟨tdv, hsb, hnd, hkb, hsl, hbl, hnt, hcs⟩ := h.blocks
 have hn := h.n
 have hnH := h.nH
 obtain ⟨⟨kv, x⟩, hp⟩ : ∃ p, c.L[i]? = some p := ⟨_, List.getElem?_eq_getElem hi⟩
 have hmem := List.mem_of_getElem? hp
 have hkn := h.st.tb.key_nt hmem
 have hw : x.Wf := h.st.tb.wf _ hmem
 obtain ⟨Fx, hox, hFx⟩ := h.st.tb.keys _ hmem
 have hxS : ∀ j ∈ Fx, j ∉ F ∧ j < H.length := fun j hj => h.ap j (h.st.tS j (by simp [hFx j hj]))
 have hmk := hw.many
 obtain ⟨q, a1, a2, a3⟩ := h.st.tb.at_ hp
 have a3N : ∀ N : AH, xload Tryd.prog 67 q (H ++ N) = some (.agg (tmRow kv x).toArray) := fun N => a3 N
 have a3 : xload Tryd.prog 67 q H = some (.agg (tmRow kv x).toArray) := by simpa using a3N []
 have hx : trm c.T i = x := trm_of (by unfold SrC.T; rw [List.getElem?_map, hp]; rfl)
 have lsb := hget_lt hsb
 have lkb := hget_lt hkb
 have p1 : plain1 (.slice none 0 0) = true := rfl
 have r3 : List.range 3 = [0, 1, 2] := rfl
 have ld0 : xload Tryd.prog 56 (.pointer (some ⟨c.sb, 0, none⟩)) H = some c.tv := by simp [xload, hsb]
 have ld0N : ∀ N : AH, xload Tryd.prog 56 (.pointer (some ⟨c.sb, 0, none⟩)) (H ++ N) = some c.tv := fun N => by
  have := (hget_left (L := N) lsb).trans hsb
  simp [xload, this]
 have hnm := fun (G : AH) => name_rc (γ := γ) (H := G) (n := (i : Nat)) ⟨by omega, by omega⟩
 have lN : (nmL (i : Nat)).length = 32 := rfl
 have bN := nmL_by (i : Nat)
 have tN : (iv .u8 (nmL (i : Nat))).take 32 = iv .u8 (nmL (i : Nat)) := List.take_of_length_le (by simp [lN])
 have sN : setR (iv .u8 (zl 32)) 0 (iv .u8 (nmL (i : Nat))) = iv .u8 (nmL (i : Nat)) := setR_all _ _ (by simp [lN])
 unfold useS k0
 rw [hx]
 dsimp only
 unfold tmRow at *
 generalize nmL (i : Nat) = N at *
 obtain ⟨H1, hH1⟩ : ∃ H1 : AH, H1 = H ++ [some ⟨iv .u8 N, 28, none⟩, some ⟨[.int .i64 (x.kind : Nat), .string x.text, kv], 67, none⟩] := ⟨_, rfl⟩
 refine ac_of_aw Tryd.func36 rfl Tryd.ntmps36 Tryd.results36 (by simp) ?_
 refine aw_seq ?_
 refine aw_cut (fun α G => G = H1 ∧ α 0 = .pointer (some ⟨c.sb, 0, none⟩) ∧ α 1 = .int .i64 (i : Nat) ∧ α 4 = .pointer (some ⟨H.length, 0, none⟩) ∧ α 5 = .pointer (some ⟨H.length + 1, 0, none⟩)) ?_ ?_
 ·(refine aw_planL [] [0, 1, 2, 3, 4, 5, 6, 7, 8, 9, 10] [2, 3, 4, 5, 6, 7, 8] 2 [([], [], [[11, 12]]), ([8], [18], [[8, 11, 12], [11, 8, 12]]), ([7, 8], [17, 18], [[7, 8, 11, 12], [7, 11, 8, 12], [11, 7, 8, 12]]), ([5, 7, 8], [15, 17, 18], [[5, 7, 8, 11, 12], [5, 7, 11, 8, 12], [5, 11, 7, 8, 12], [11, 5, 7, 8, 12]]), ([6, 7, 8], [16, 17, 18], [[6, 7, 8, 11, 12], [6, 7, 11, 8, 12], [6, 11, 7, 8, 12], [11, 6, 7, 8, 12]]), ([4, 5, 7, 8], [14, 15, 17, 18], [[4, 5, 7, 8, 11, 12], [4, 5, 7, 11, 8, 12], [4, 5, 11, 7, 8, 12], [4, 11, 5, 7, 8, 12], [11, 4, 5, 7, 8, 12]]), ([5, 6, 7, 8], [15, 16, 17, 18], [[5, 6, 7, 8, 11, 12], [5, 6, 7, 11, 8, 12], [5, 6, 11, 7, 8, 12], [5, 11, 6, 7, 8, 12], [6, 5, 7, 8, 11, 12], [6, 5, 7, 11, 8, 12], [6, 5, 11, 7, 8, 12], [6, 11, 5, 7, 8, 12], [11, 5, 6, 7, 8, 12], [11, 6, 5, 7, 8, 12]]), ([3, 4, 5, 7, 8], [13, 14, 15, 17, 18], [[3, 4, 5, 7, 8, 11, 12], [3, 4, 5, 7, 11, 8, 12], [3, 4, 5, 11, 7, 8, 12], [3, 4, 11, 5, 7, 8, 12], [3, 11, 4, 5, 7, 8, 12], [11, 3, 4, 5, 7, 8, 12]]), ([4, 5, 6, 7, 8], [14, 15, 16, 17, 18], [[4, 5, 6, 7, 8, 11, 12], [4, 5, 6, 7, 11, 8, 12], [4, 5, 6, 11, 7, 8, 12], [4, 5, 11, 6, 7, 8, 12], [4, 6, 5, 7, 8, 11, 12], [4, 6, 5, 7, 11, 8, 12], [4, 6, 5, 11, 7, 8, 12], [4, 6, 11, 5, 7, 8, 12], [4, 11, 5, 6, 7, 8, 12], [4, 11, 6, 5, 7, 8, 12], [6, 4, 5, 7, 8, 11, 12], [6, 4, 5, 7, 11, 8, 12], [6, 4, 5, 11, 7, 8, 12], [6, 4, 11, 5, 7, 8, 12], [6, 11, 4, 5, 7, 8, 12], [11, 4, 5, 6, 7, 8, 12], [11, 4, 6, 5, 7, 8, 12], [11, 6, 4, 5, 7, 8, 12]]), ([2, 3, 4, 5, 7, 8], [12, 13, 14, 15, 17, 18], [[2, 3, 4, 5, 7, 8, 11, 12], [2, 3, 4, 5, 7, 11, 8, 12], [2, 3, 4, 5, 11, 7, 8, 12], [2, 3, 4, 11, 5, 7, 8, 12], [2, 3, 11, 4, 5, 7, 8, 12], [2, 11, 3, 4, 5, 7, 8, 12], [11, 2, 3, 4, 5, 7, 8, 12]]), ([3, 4, 5, 6, 7, 8], [13, 14, 15, 16, 17, 18], [[3, 4, 5, 6, 7, 8, 11, 12], [3, 4, 5, 6, 7, 11, 8, 12], [3, 4, 5, 6, 11, 7, 8, 12], [3, 4, 5, 11, 6, 7, 8, 12], [3, 4, 6, 5, 7, 8, 11, 12], [3, 4, 6, 5, 7, 11, 8, 12], [3, 4, 6, 5, 11, 7, 8, 12], [3, 4, 6, 11, 5, 7, 8, 12], [3, 4, 11, 5, 6, 7, 8, 12], [3, 4, 11, 6, 5, 7, 8, 12], [3, 6, 4, 5, 7, 8, 11, 12], [3, 6, 4, 5, 7, 11, 8, 12], [3, 6, 4, 5, 11, 7, 8, 12], [3, 6, 4, 11, 5, 7, 8, 12], [3, 6, 11, 4, 5, 7, 8, 12], [3, 11, 4, 5, 6, 7, 8, 12], [3, 11, 4, 6, 5, 7, 8, 12], [3, 11, 6, 4, 5, 7, 8, 12], [6, 3, 4, 5, 7, 8, 11, 12], [6, 3, 4, 5, 7, 11, 8, 12], [6, 3, 4, 5, 11, 7, 8, 12], [6, 3, 4, 11, 5, 7, 8, 12], [6, 3, 11, 4, 5, 7, 8, 12], [6, 11, 3, 4, 5, 7, 8, 12], [11, 3, 4, 5, 6, 7, 8, 12], [11, 3, 4, 6, 5, 7, 8, 12], [11, 3, 6, 4, 5, 7, 8, 12], [11, 6, 3, 4, 5, 7, 8, 12]]), ([2, 3, 4, 5, 6, 7, 8], [12, 13, 14, 15, 16, 17, 18], [[2, 3, 4, 5, 6, 7, 8, 11, 12], [2, 3, 4, 5, 6, 7, 11, 8, 12], [2, 3, 4, 5, 6, 11, 7, 8, 12], [2, 3, 4, 5, 11, 6, 7, 8, 12], [2, 3, 4, 6, 5, 7, 8, 11, 12], [2, 3, 4, 6, 5, 7, 11, 8, 12], [2, 3, 4, 6, 5, 11, 7, 8, 12], [2, 3, 4, 6, 11, 5, 7, 8, 12], [2, 3, 4, 11, 5, 6, 7, 8, 12], [2, 3, 4, 11, 6, 5, 7, 8, 12], [2, 3, 6, 4, 5, 7, 8, 11, 12], [2, 3, 6, 4, 5, 7, 11, 8, 12], [2, 3, 6, 4, 5, 11, 7, 8, 12], [2, 3, 6, 4, 11, 5, 7, 8, 12], [2, 3, 6, 11, 4, 5, 7, 8, 12], [2, 3, 11, 4, 5, 6, 7, 8, 12], [2, 3, 11, 4, 6, 5, 7, 8, 12], [2, 3, 11, 6, 4, 5, 7, 8, 12], [2, 6, 3, 4, 5, 7, 8, 11, 12], [2, 6, 3, 4, 5, 7, 11, 8, 12], [2, 6, 3, 4, 5, 11, 7, 8, 12], [2, 6, 3, 4, 11, 5, 7, 8, 12], [2, 6, 3, 11, 4, 5, 7, 8, 12], [2, 6, 11, 3, 4, 5, 7, 8, 12], [2, 11, 3, 4, 5, 6, 7, 8, 12], [2, 11, 3, 4, 6, 5, 7, 8, 12], [2, 11, 3, 6, 4, 5, 7, 8, 12], [2, 11, 6, 3, 4, 5, 7, 8, 12], [6, 2, 3, 4, 5, 7, 8, 11, 12], [6, 2, 3, 4, 5, 7, 11, 8, 12], [6, 2, 3, 4, 5, 11, 7, 8, 12], [6, 2, 3, 4, 11, 5, 7, 8, 12], [6, 2, 3, 11, 4, 5, 7, 8, 12], [6, 2, 11, 3, 4, 5, 7, 8, 12], [6, 11, 2, 3, 4, 5, 7, 8, 12], [11, 2, 3, 4, 5, 6, 7, 8, 12], [11, 2, 3, 4, 6, 5, 7, 8, 12], [11, 2, 3, 6, 4, 5, 7, 8, 12], [11, 2, 6, 3, 4, 5, 7, 8, 12], [11, 6, 2, 3, 4, 5, 7, 8, 12]])] (by kernel_rfl) (by kernel_rfl) (by kernel_rfl) (fun K hK => ?_)); refine PL_hide (fun KK hKK => ?_); simp only [sel, List.getElem?_cons_succ, List.getElem?_cons_zero]; simp (maxSteps := 20000000) (disch := first | omega | (simp only [lnS]; try omega)) [hi, -xload, ld0, a3, -xindexAddr, a1, a2, p1, r3, -notTuple, hnt, hkn.1, hkn.2, PL_nil, plainB_lit, PL_cons, PLc_val, PLc_new, stepP_t, stepP_f, stepPC_n, stepPC_s, stepPX_s, stepPX_n, stepPV_n, stepPV_s, stepPA_t, stepPA_c, stepPA_l, stepPN_s, allocOp, reloc_sl, reloc_ptr, List.map_cons, List.map_nil, List.nil_append, List.append_assoc, List.cons_append, Nat.add_assoc]
  refine PLc_call (v := .agg (iv .u8 N).toArray) (by kernel_rfl) (fun L hL => hnm _) (by simp [pv_iv]) ?_
  simp (maxSteps := 20000000) (disch := first | omega | (simp only [lnS]; try omega)) [hi, -xload, ld0, a3, -xindexAddr, a1, a2, p1, r3, -notTuple, hnt, hkn.1, hkn.2, lN, tN, sN, hnH, PL_nil, plainB_lit, PL_cons, PLc_val, PLc_new, stepP_t, stepP_f, stepPC_n, stepPC_s, stepPX_s, stepPX_n, stepPV_n, stepPV_s, stepPA_t, stepPA_c, stepPA_l, stepPN_s, allocOp, reloc_sl, reloc_ptr, List.map_cons, List.map_nil, List.nil_append, List.append_assoc, List.cons_append, Nat.add_assoc]
  refine hKK _ _ ?_; clear hKK KK
  refine tab_run (C := fun u ts o => decide (ts = u.map (· + 10)) && !(u.contains 1) && okAll okU (dU u) o && o.contains 11 && o.contains 12) (by decide) ?_
  rintro ⟨u, ts, os⟩ hp o ho hC
  simp only [Bool.and_eq_true, decide_eq_true_eq, Bool.not_eq_true', List.contains_iff_mem] at hC
  obtain ⟨⟨⟨⟨rfl, hu1⟩, hoa⟩, ho11⟩, ho12⟩ := hC
  refine ord_run (okI := okU) (J := JU H c i N q kv x) ?_ ?_ o (dU u) _ _ hoa ?_ ?_
  ·intro D k hk
   unfold okU at hk
   split at hk <;> first | rfl | cases hk
  ·intro k D α G rest hJ hk hcont
   obtain ⟨j0, j1, j4, j5, j11, j12, j13, j14, j15, j16, j17, j18, A, B, rfl, hA, hB⟩ := hJ
   unfold okU at hk
   split at hk
   ·simp only [sel, List.getElem?_cons_succ, List.getElem?_cons_zero]
    simp (maxSteps := 20000000) (disch := first | omega | (simp only [lnS]; try omega)) [-xload, a3N, ld0N, -xindexAddr, a1, a2, p1, r3, -notTuple, hnt, hkn.1, hkn.2, lN, tN, sN, hnH, j0]
    exact hcont _ _ ⟨by (first | (simp [j0]; done) | rfl), by (first | (simp [j1]; done) | rfl), by (first | (simp [j4]; done) | rfl), by (first | (simp [j5]; done) | rfl), by (first | (simp [j11]; done) | rfl), fun _ => by (first | (simp; done) | rfl), fun h => by (first | (simp [j13 (by simpa using h)]; done) | rfl), fun h => by (first | (simp [j14 (by simpa using h)]; done) | rfl), fun h => by (first | (simp [j15 (by simpa using h)]; done) | rfl), fun h => by (first | (simp [j16 (by simpa using h)]; done) | rfl), fun h => by (first | (simp [j17 (by simpa using h)]; done) | rfl), fun h => by (first | (simp [j18 (by simpa using h)]; done) | rfl), ⟨A, B, rfl, by simpa using hA, by simpa using hB⟩⟩
   ·simp only [sel, List.getElem?_cons_succ, List.getElem?_cons_zero]
    simp (maxSteps := 20000000) (disch := first | omega | (simp only [lnS]; try omega)) [-xload, a3N, ld0N, -xindexAddr, a1, a2, p1, r3, -notTuple, hnt, hkn.1, hkn.2, lN, tN, sN, hnH, j12 (by simpa using hk)]
    exact hcont _ _ ⟨by (first | (simp [j0]; done) | rfl), by (first | (simp [j1]; done) | rfl), by (first | (simp [j4]; done) | rfl), by (first | (simp [j5]; done) | rfl), by (first | (simp [j11]; done) | rfl), fun h => by (first | (simp [j12 (by simpa using h)]; done) | rfl), fun _ => by (first | (simp; done) | rfl), fun h => by (first | (simp [j14 (by simpa using h)]; done) | rfl), fun h => by (first | (simp [j15 (by simpa using h)]; done) | rfl), fun h => by (first | (simp [j16 (by simpa using h)]; done) | rfl), fun h => by (first | (simp [j17 (by simpa using h)]; done) | rfl), fun h => by (first | (simp [j18 (by simpa using h)]; done) | rfl), ⟨A, B, rfl, by simpa using hA, by simpa using hB⟩⟩
   ·simp only [sel, List.getElem?_cons_succ, List.getElem?_cons_zero]
    simp (maxSteps := 20000000) (disch := first | omega | (simp only [lnS]; try omega)) [-xload, a3N, ld0N, -xindexAddr, a1, a2, p1, r3, -notTuple, hnt, hkn.1, hkn.2, lN, tN, sN, hnH, j13 (by simpa using hk)]
    exact hcont _ _ ⟨by (first | (simp [j0]; done) | rfl), by (first | (simp [j1]; done) | rfl), by (first | (simp [j4]; done) | rfl), by (first | (simp [j5]; done) | rfl), by (first | (simp [j11]; done) | rfl), fun h => by (first | (simp [j12 (by simpa using h)]; done) | rfl), fun h => by (first | (simp [j13 (by simpa using h)]; done) | rfl), fun _ => by (first | (simp; done) | rfl), fun h => by (first | (simp [j15 (by simpa using h)]; done) | rfl), fun h => by (first | (simp [j16 (by simpa using h)]; done) | rfl), fun h => by (first | (simp [j17 (by simpa using h)]; done) | rfl), fun h => by (first | (simp [j18 (by simpa using h)]; done) | rfl), ⟨A, B, rfl, by simpa using hA, by simpa using hB⟩⟩
   ·simp only [sel, List.getElem?_cons_succ, List.getElem?_cons_zero]
    simp (maxSteps := 20000000) (disch := first | omega | (simp only [lnS]; try omega)) [-xload, a3N, ld0N, -xindexAddr, a1, a2, p1, r3, -notTuple, hnt, hkn.1, hkn.2, lN, tN, sN, hnH, j14 (by simpa using hk)]
    exact hcont _ _ ⟨by (first | (simp [j0]; done) | rfl), by (first | (simp [j1]; done) | rfl), by (first | (simp [j4]; done) | rfl), by (first | (simp [j5]; done) | rfl), by (first | (simp [j11]; done) | rfl), fun h => by (first | (simp [j12 (by simpa using h)]; done) | rfl), fun h => by (first | (simp [j13 (by simpa using h)]; done) | rfl), fun h => by (first | (simp [j14 (by simpa using h)]; done) | rfl), fun _ => by (first | (simp; done) | rfl), fun h => by (first | (simp [j16 (by simpa using h)]; done) | rfl), fun h => by (first | (simp [j17 (by simpa using h)]; done) | rfl), fun h => by (first | (simp [j18 (by simpa using h)]; done) | rfl), ⟨A, B, rfl, by simpa using hA, by simpa using hB⟩⟩
   ·simp only [sel, List.getElem?_cons_succ, List.getElem?_cons_zero]
    simp (maxSteps := 20000000) (disch := first | omega | (simp only [lnS]; try omega)) [-xload, a3N, ld0N, -xindexAddr, a1, a2, p1, r3, -notTuple, hnt, hkn.1, hkn.2, lN, tN, sN, hnH, j1]
    exact hcont _ _ ⟨by (first | (simp [j0]; done) | rfl), by (first | (simp [j1]; done) | rfl), by (first | (simp [j4]; done) | rfl), by (first | (simp [j5]; done) | rfl), by (first | (simp [j11]; done) | rfl), fun h => by (first | (simp [j12 (by simpa using h)]; done) | rfl), fun h => by (first | (simp [j13 (by simpa using h)]; done) | rfl), fun h => by (first | (simp [j14 (by simpa using h)]; done) | rfl), fun h => by (first | (simp [j15 (by simpa using h)]; done) | rfl), fun _ => by (first | (simp; done) | rfl), fun h => by (first | (simp [j17 (by simpa using h)]; done) | rfl), fun h => by (first | (simp [j18 (by simpa using h)]; done) | rfl), ⟨A, B, rfl, by simpa using hA, by simpa using hB⟩⟩
   ·simp only [Bool.and_eq_true, List.contains_iff_mem] at hk
    simp only [sel, List.getElem?_cons_succ, List.getElem?_cons_zero]
    simp (maxSteps := 20000000) (disch := first | omega | (simp only [lnS]; try omega)) [-xload, a3N, ld0N, -xindexAddr, a1, a2, p1, r3, -notTuple, hnt, hkn.1, hkn.2, lN, tN, sN, hnH, j15 hk.1, j16 hk.2]
    exact hcont _ _ ⟨by (first | (simp [j0]; done) | rfl), by (first | (simp [j1]; done) | rfl), by (first | (simp [j4]; done) | rfl), by (first | (simp [j5]; done) | rfl), by (first | (simp [j11]; done) | rfl), fun h => by (first | (simp [j12 (by simpa using h)]; done) | rfl), fun h => by (first | (simp [j13 (by simpa using h)]; done) | rfl), fun h => by (first | (simp [j14 (by simpa using h)]; done) | rfl), fun h => by (first | (simp [j15 (by simpa using h)]; done) | rfl), fun h => by (first | (simp [j16 (by simpa using h)]; done) | rfl), fun _ => by (first | (simp; done) | rfl), fun h => by (first | (simp [j18 (by simpa using h)]; done) | rfl), ⟨A, B, rfl, by simpa using hA, by simpa using hB⟩⟩
   ·simp only [sel, List.getElem?_cons_succ, List.getElem?_cons_zero]
    simp (maxSteps := 20000000) (disch := first | omega | (simp only [lnS]; try omega)) [-xload, a3N, ld0N, -xindexAddr, a1, a2, p1, r3, -notTuple, hnt, hkn.1, hkn.2, lN, tN, sN, hnH, j17 (by simpa using hk)]
    exact hcont _ _ ⟨by (first | (simp [j0]; done) | rfl), by (first | (simp [j1]; done) | rfl), by (first | (simp [j4]; done) | rfl), by (first | (simp [j5]; done) | rfl), by (first | (simp [j11]; done) | rfl), fun h => by (first | (simp [j12 (by simpa using h)]; done) | rfl), fun h => by (first | (simp [j13 (by simpa using h)]; done) | rfl), fun h => by (first | (simp [j14 (by simpa using h)]; done) | rfl), fun h => by (first | (simp [j15 (by simpa using h)]; done) | rfl), fun h => by (first | (simp [j16 (by simpa using h)]; done) | rfl), fun h => by (first | (simp [j17 (by simpa using h)]; done) | rfl), fun _ => by (first | (simp; done) | rfl), ⟨A, B, rfl, by simpa using hA, by simpa using hB⟩⟩
   ·have hk : 11 ∉ D := by simpa using hk
    rw [if_neg hk] at hA
    simp only [sel, List.getElem?_cons_succ, List.getElem?_cons_zero]
    simp (maxSteps := 20000000) (disch := first | omega | (simp only [lnS]; try omega)) [-xload, a3N, ld0N, -xindexAddr, a1, a2, p1, r3, -notTuple, hnt, hkn.1, hkn.2, lN, tN, sN, hnH, j4, j11, hA]
    exact hcont _ _ ⟨by (first | (simp [j0]; done) | rfl), by (first | (simp [j1]; done) | rfl), by (first | (simp [j4]; done) | rfl), by (first | (simp [j5]; done) | rfl), by (first | (simp [j11]; done) | rfl), fun h => by (first | (simp [j12 (by simpa using h)]; done) | rfl), fun h => by (first | (simp [j13 (by simpa using h)]; done) | rfl), fun h => by (first | (simp [j14 (by simpa using h)]; done) | rfl), fun h => by (first | (simp [j15 (by simpa using h)]; done) | rfl), fun h => by (first | (simp [j16 (by simpa using h)]; done) | rfl), fun h => by (first | (simp [j17 (by simpa using h)]; done) | rfl), fun h => by (first | (simp [j18 (by simpa using h)]; done) | rfl), ⟨_, B, rfl, by simp, by simpa using hB⟩⟩
   ·have hk : 8 ∈ D ∧ 12 ∉ D := by simpa using hk
    rw [if_neg hk.2] at hB
    simp only [sel, List.getElem?_cons_succ, List.getElem?_cons_zero]
    simp (maxSteps := 20000000) (disch := first | omega | (simp only [lnS]; try omega)) [-xload, a3N, ld0N, -xindexAddr, a1, a2, p1, r3, -notTuple, hnt, hkn.1, hkn.2, lN, tN, sN, hnH, j5, j18 hk.1, hB]
    exact hcont _ _ ⟨by (first | (simp [j0]; done) | rfl), by (first | (simp [j1]; done) | rfl), by (first | (simp [j4]; done) | rfl), by (first | (simp [j5]; done) | rfl), by (first | (simp [j11]; done) | rfl), fun h => by (first | (simp [j12 (by simpa using h)]; done) | rfl), fun h => by (first | (simp [j13 (by simpa using h)]; done) | rfl), fun h => by (first | (simp [j14 (by simpa using h)]; done) | rfl), fun h => by (first | (simp [j15 (by simpa using h)]; done) | rfl), fun h => by (first | (simp [j16 (by simpa using h)]; done) | rfl), fun h => by (first | (simp [j17 (by simpa using h)]; done) | rfl), fun h => by (first | (simp [j18 (by simpa using h)]; done) | rfl), ⟨A, _, rfl, by simpa using hA, by simp⟩⟩
   ·cases hk
  ·have hn0 : ∀ t : Nat, t < 10 → (u.map (· + 10)).contains t = false := fun t ht => by
    rw [List.contains_eq_any_beq, List.any_eq_false]
    intro y hy
    obtain ⟨z, _, rfl⟩ := List.mem_map.1 hy
    simp
    omega
   have hnt : ∀ k : Nat, u.contains k = false → (u.map (· + 10)).contains (k + 10) = false := fun k hk => by
    rw [List.contains_eq_any_beq, List.any_eq_false] at hk ⊢
    intro y hy
    obtain ⟨z, hz, rfl⟩ := List.mem_map.1 hy
    have := hk z hz
    simp at this ⊢
    omega
   have hd : ∀ k : Nat, k ∈ dU u → u.contains k = false := fun k hk => by
    unfold dU at hk
    simpa using (List.mem_filter.1 hk).2
   have m0 : ∀ (t : Nat) (a b : Fm), (u.map (· + 10)).contains t = false → mixF (u.map (· + 10)) a b t = b t := fun t a b h => by
    rw [mixF_at, h]; rfl
   have e11 : 11 ∉ dU u := by unfold dU; simp
   have e12 : 12 ∉ dU u := by unfold dU; simp
   refine ⟨?_, ?_, ?_, ?_, ?_, fun h => ?_, fun h => ?_, fun h => ?_, fun h => ?_, fun h => ?_, fun h => ?_, fun h => ?_, ⟨_, _, rfl, ?_, ?_⟩⟩
   ·rw [m0 _ _ _ (hn0 0 (by omega))]; (first | (simp; done) | rfl)
   ·rw [m0 _ _ _ (hn0 1 (by omega))]; (first | (simp; done) | rfl)
   ·rw [m0 _ _ _ (hn0 4 (by omega))]; (first | (simp; done) | rfl)
   ·rw [m0 _ _ _ (hn0 5 (by omega))]; (first | (simp; done) | rfl)
   ·rw [m0 _ _ _ (hnt 1 hu1)]; (first | (simp; done) | rfl)
   ·rw [m0 _ _ _ (hnt 2 (hd 2 h))]; (first | (simp; done) | rfl)
   ·rw [m0 _ _ _ (hnt 3 (hd 3 h))]; (first | (simp; done) | rfl)
   ·rw [m0 _ _ _ (hnt 4 (hd 4 h))]; (first | (simp; done) | rfl)
   ·rw [m0 _ _ _ (hnt 5 (hd 5 h))]; (first | (simp; done) | rfl)
   ·rw [m0 _ _ _ (hnt 6 (hd 6 h))]; (first | (simp; done) | rfl)
   ·rw [m0 _ _ _ (hnt 7 (hd 7 h))]; (first | (simp; done) | rfl)
   ·rw [m0 _ _ _ (hnt 8 (hd 8 h))]; (first | (simp; done) | rfl)
   ·rw [if_neg e11]
   ·rw [if_neg e12]
  ·rintro E α' G' ⟨j0, j1, j4, j5, j11, j12, j13, j14, j15, j16, j17, j18, A, B, rfl, hA, hB⟩ ho hE
   rw [if_pos (ho 11 ho11)] at hA
   rw [if_pos (ho 12 ho12)] at hB
   refine hK _ _ ⟨?_, j0, j1, j4, j5⟩
   rw [hH1, hA, hB]
 clear ld0 ld0N a1 a2 a3 a3N
 rintro α G ⟨rfl, h0, h1, h4, h5⟩
 have kj : ∀ j, j < H.length → hget G j = hget H j := fun j hj => by rw [hH1]; exact hget_left hj
 have g4 : hget G H.length = some ⟨iv .u8 N, 28, none⟩ := by rw [hH1, hget_app0]; rfl
 have g5 : hget G (H.length + 1) = some ⟨[.int .i64 (x.kind : Nat), .string x.text, kv], 67, none⟩ := by rw [hH1, hget_app]; rfl
 have l1 : G.length = H.length + 2 := by rw [hH1]; simp
 have lw1 : Low H.length H G := ⟨kj, by omega⟩
 clear hH1
 have hR1 : SR γ nro G c F s := h.lay lw1
 have hup := fun (t : FSt) (A : AH) (q : SRQ γ nro G c F t (.tuple #[]) A) => q.up lw1 h.bound
 refine aw_seq (aoo fun K hK => ?_)
 simp (maxSteps := 20000000) (disch := first | omega | (simp only [lnS]; try omega)) [h0, h1]
 refine ⟨by kernel_rfl, AC.mono (opn_ac hR1 hi) ?_⟩
 intro v' A hq
 obtain rfl := hq.1
 try simp (maxSteps := 20000000) (disch := first | omega | (simp only [lnS]; try omega)) []
 refine hK _ _ ?_; clear hK K
 generalize opnS c.T s i = s1 at *
 obtain ⟨_, hAl, hAk, F1, hS, hF1⟩ := hq
 have a4 : hget A H.length = some ⟨iv .u8 N, 28, none⟩ := (hAk _ (by omega) (fun e => by have := h.bound _ e; omega)).trans g4
 have a5 : hget A (H.length + 1) = some ⟨[.int .i64 (x.kind : Nat), .string x.text, kv], 67, none⟩ := (hAk _ (by omega) (fun e => by have := h.bound _ e; omega)).trans g5
 obtain ⟨tdv2, asb, and2, _, _, _, _, _⟩ := hS.blocks
 have hlk := us_look hS.st.hu hS.st.hU lN
 obtain ⟨Fu, hTu, hFu⟩ := hS.st.us N lN
 have hul := fun u (hu : u ∈ usersF N 0 c.T) => (show u < c.L.length by have := users_lt hu; simpa [SrC.T] using this)
 have hTn := hTu.nt
 have hq0 : SRQ γ nro A c F1 s1 (.tuple #[]) A := hS.same (Low.refl (Nat.le_refl _))
 have hm9 := hS.users_le N
 generalize ul N c.U = uv at *
 generalize usersF N 0 c.T = us at *
 refine aw_seq (aw_seq ?_)
 (refine aw_plan [] [] [0, 1, 2, 3, 4, 5, 6, 7] 8 0 (by kernel_rfl) (by kernel_rfl) (by kernel_rfl) (fun K hK => ?_)); simp only [sel, List.getElem?_cons_succ, List.getElem?_cons_zero, List.drop_succ_cons, List.drop_zero]; simp (maxSteps := 20000000) (disch := first | omega | (simp only [lnS]; try omega)) [h0, h4, asb, a4, lN, tN, hlk, -notTuple, nt_mapG, hnt, and2, hTn.1, -xlen, hTn.2.2.2, PL_nil, plainB_lit, PL_cons, PLc_val, PLc_new, stepP_t, stepP_f, stepPC_n, stepPC_s, stepPX_s, stepPX_n, stepPV_n, stepPV_s, stepPA_t, stepPA_c, stepPA_l, stepPN_s, allocOp, reloc_sl, reloc_ptr, List.map_cons, List.map_nil, List.nil_append, List.append_assoc, List.cons_append, Nat.add_assoc]
 refine hK _ _ ?_; clear hK K
 refine aw_block ?_
 refine aw_loop (fun q α B => ∃ j : Nat, j + q = us.length ∧ α 0 = .pointer (some ⟨c.sb, 0, none⟩) ∧ α 5 = .pointer (some ⟨H.length + 1, 0, none⟩) ∧ α 27 = uv ∧ α 28 = .int .i64 (us.length : Nat) ∧ α 29 = .int .i64 (j : Nat) ∧ SRQ γ nro A c F1 ((us.take j).foldl (fun s u => opnS c.T (tryS c.T s u) u) s1) (.tuple #[]) B) us.length ?_ ?_
 ·exact ⟨0, by omega, by (first | (simp [h0]; done) | rfl), by (first | (simp [h5]; done) | rfl), by (first | (simp; done) | rfl), by (first | (simp; done) | rfl), by (first | (simp; done) | rfl), hq0⟩
 clear h0 h1 h4 h5
 rintro q α B ⟨j, hjq, h0, h5, h27, h28, h29, hq⟩
 refine aw_seq ?_
 by_cases hj : j < us.length
 case neg =>
  (refine aoo fun K hK => ?_; simp (maxSteps := 20000000) (disch := first | omega | (simp only [lnS]; try omega)) [h28, h29, hj]; refine hK _ _ ?_; clear hK K)
  refine aw_seq ?_
  refine aw_f (by (first | (simp [hj]; done) | (simp [hj]; omega))) (by kernel_rfl) ?_
  refine aw_exit ?_
  obtain rfl : j = us.length := by omega
  rw [List.take_length] at hq
  generalize us.foldl (fun s u => opnS c.T (tryS c.T s u) u) s1 = s2 at *
  obtain ⟨_, hBl, hBk, F2, hS2, hF2⟩ := hq
  have b5 : hget B (H.length + 1) = some ⟨[.int .i64 (x.kind : Nat), .string x.text, kv], 67, none⟩ := (hBk _ (by omega) (fun e => by rcases hF1 _ e with e | e; have := h.bound _ e; omega; omega)).trans a5
  have lb5 := hget_lt b5
  have hq2 : SRQ γ nro G c F s2 (.tuple #[]) B := SRQ.then_ hAl hAk hF1 ⟨rfl, hBl, hBk, F2, hS2, hF2⟩
  refine aw_seq ?_
  by_cases h3 : x.kind = 3
  case neg =>
   have b3 : ((x.kind : Int) == 3) = false := by rw [beq_eq_false_iff_ne]; omega
   have i3 : ¬ (x.kind : Int) = 3 := by omega
   rw [if_neg h3]
   (refine aoo fun K hK => ?_; simp (maxSteps := 20000000) (disch := first | omega | (simp only [lnS]; try omega)) [h5, b5, lb5, b3, i3]; refine hK _ _ ?_; clear hK K)
   refine aw_f (by (first | (simp; done) | (simp; omega))) (by kernel_rfl) ?_
   refine aw_skip ?_
   exact ⟨[], _, rfl, rfl, hup _ _ hq2⟩
  have b3 : ((x.kind : Int) == 3) = true := by rw [h3]; rfl
  have i3 : (x.kind : Int) = 3 := by omega
  rw [if_pos h3]
  have hk1 := hw.pub h3
  obtain ⟨z32, zby⟩ : (x.keys.getD 0 []).length = 32 ∧ By (x.keys.getD 0 []) := by
   rw [List.getD_eq_getElem?_getD, List.getElem?_eq_getElem (by omega)]
   exact ⟨hw.k32 _ (List.getElem_mem _), hw.by_ _ (List.getElem_mem _)⟩
  have hoB : OwnF B kv 28 32 (kr x.keys) Fx := hox.low (fun j hj => by
   have e := hxS j hj
   exact (hBk j (by omega) (fun e2 => by rcases hF1 _ e2 with e3 | e3; exact e.1 e3; omega)).trans ((hAk j (by omega) e.1).trans (kj j e.2)))
  have hKB : KsV B kv x.keys := kr_ksv hoB hw.k32
  obtain ⟨q0, y0, t1, t2, t3, t4, t5⟩ := (hKB.acc hw.k32).at_ 0 (by omega)
  have t2 : xindexAddr Tryd.prog 33 kv (.int .i64 0) = some q0 := t2
  have t5 := t5 B (Low.refl (Nat.le_refl _))
  subst t4
  obtain ⟨tdv3, bsb, bnd2, _, _, _, _, _⟩ := hS2.blocks
  have hlk := us_look hS2.st.hu hS2.st.hU z32
  obtain ⟨Fv, hTv, hFv⟩ := hS2.st.us _ z32
  have hul2 := fun u (hu : u ∈ usersF (x.keys.getD 0 []) 0 c.T) => (show u < c.L.length by have := users_lt hu; simpa [SrC.T] using this)
  have hVn := hTv.nt
  have hm8 := hS2.users_le (x.keys.getD 0 [])
  have hq3 : SRQ γ nro B c F2 s2 (.tuple #[]) B := hS2.same (Low.refl (Nat.le_refl _))
  have hfin := fun (t : FSt) (D : AH) (q : SRQ γ nro B c F2 t (.tuple #[]) D) => hup _ _ (SRQ.then_ hAl hAk hF1 (SRQ.then_ hBl hBk hF2 q))
  have ldk : xload Tryd.prog 33 (.pointer (some ⟨H.length + 1, 2, none⟩)) B = some kv := by simp [xload, b5]
  have ldu : xload Tryd.prog 74 (.pointer (some ⟨c.sb, 2, none⟩)) B = some (.map (some c.ub)) := by simp [xload, bsb]
  generalize x.keys.getD 0 [] = z at *
  generalize ul z c.U = vv at *
  generalize usersF z 0 c.T = vs at *
  (refine aoo fun K hK => ?_; simp (maxSteps := 20000000) (disch := first | omega | (simp only [lnS]; try omega)) [h5, b5, lb5, b3, i3]; refine hK _ _ ?_; clear hK K)
  refine aw_t (by (first | (simp; done) | (simp; omega))) (by kernel_rfl) ?_
  refine aw_seq ?_
  (refine aw_plan [] [] [0, 1, 2, 3, 4, 5, 6, 7, 8, 9, 10] 11 0 (by kernel_rfl) (by kernel_rfl) (by kernel_rfl) (fun K hK => ?_)); simp only [sel, List.getElem?_cons_succ, List.getElem?_cons_zero, List.drop_succ_cons, List.drop_zero]; simp (maxSteps := 20000000) (disch := first | omega | (simp only [lnS]; try omega)) [h0, h5, -xload, ldk, ldu, t5, -xindexAddr, t1, t2, hkn.1, hlk, -notTuple, nt_mapG, hVn.1, -xlen, hVn.2.2.2, PL_nil, plainB_lit, PL_cons, PLc_val, PLc_new, stepP_t, stepP_f, stepPC_n, stepPC_s, stepPX_s, stepPX_n, stepPV_n, stepPV_s, stepPA_t, stepPA_c, stepPA_l, stepPN_s, allocOp, reloc_sl, reloc_ptr, List.map_cons, List.map_nil, List.nil_append, List.append_assoc, List.cons_append, Nat.add_assoc]
  refine hK _ _ ?_; clear hK K
  refine aw_block ?_
  refine aw_loop (fun q α D => ∃ j : Nat, j + q = vs.length ∧ α 0 = .pointer (some ⟨c.sb, 0, none⟩) ∧ α 51 = vv ∧ α 52 = .int .i64 (vs.length : Nat) ∧ α 53 = .int .i64 (j : Nat) ∧ SRQ γ nro B c F2 ((vs.take j).foldl (tryS c.T) s2) (.tuple #[]) D) vs.length ?_ ?_
  ·exact ⟨0, by omega, by (first | (simp [h0]; done) | rfl), by (first | (simp; done) | rfl), by (first | (simp; done) | rfl), by (first | (simp; done) | rfl), hq3⟩
  clear h0 h5 h27 h28 h29
  rintro q α D ⟨j, hjq, h0, h51, h52, h53, hq⟩
  refine aw_seq ?_
  by_cases hj : j < vs.length
  case neg =>
   (refine aoo fun K hK => ?_; simp (maxSteps := 20000000) (disch := first | omega | (simp only [lnS]; try omega)) [h52, h53, hj]; refine hK _ _ ?_; clear hK K)
   refine aw_seq ?_
   refine aw_f (by (first | (simp [hj]; done) | (simp [hj]; omega))) (by kernel_rfl) ?_
   refine aw_exit ?_
   obtain rfl : j = vs.length := by omega
   rw [List.take_length] at hq
   exact ⟨[], _, rfl, rfl, hfin _ _ hq⟩
  obtain ⟨_, hDl, hDk, F3, hS3, hF3⟩ := hq
  obtain ⟨q1, w1, w2, w3⟩ := hTv.at_ hj
  have w3 := w3 D (fun j hj => hDk j (hS2.ap j (hFv j hj)).2 (hS2.ap j (hFv j hj)).1)
  have hfd := fold_take (f := tryS c.T) (b := s2) (d := 0) hj
  have hz := hul2 (vs.getD j 0) (by rw [List.getD_eq_getElem?_getD, List.getElem?_eq_getElem hj]; exact List.getElem_mem hj)
  generalize vs.getD j 0 = u at *
  (refine aoo fun K hK => ?_; simp (maxSteps := 20000000) (disch := first | omega | (simp only [lnS]; try omega)) [h52, h53, hj]; refine hK _ _ ?_; clear hK K)
  refine aw_seq ?_
  refine aw_t (by (first | (simp [hj]; done) | (simp [hj]; omega))) (by kernel_rfl) ?_
  refine aw_skip (aw_seq ?_)
  refine aw_block ?_
  (refine aw_seq (aoo fun K hK => ?_); simp (maxSteps := 20000000) (disch := first | omega | (simp only [lnS]; try omega)) [h51, h53, -xindexAddr, w1, w2, -xload, w3, -notTuple, hVn.1]; refine hK _ _ ?_; clear hK K)
  refine aoo fun K hK => ?_
  simp (maxSteps := 20000000) (disch := first | omega | (simp only [lnS]; try omega)) [h0]
  refine ⟨by kernel_rfl, AC.mono (try_ac hS3 hz) ?_⟩
  intro v' E q2
  obtain rfl := q2.1
  try simp (maxSteps := 20000000) (disch := first | omega | (simp only [lnS]; try omega)) []
  refine hK _ _ ?_; clear hK K
  (refine aoo fun K hK => ?_; simp (maxSteps := 20000000) (disch := first | omega | (simp only [lnS]; try omega)) [h53]; refine hK _ _ ?_; clear hK K)
  refine ⟨q - 1, by omega, j + 1, by omega, by (first | (simp [h0]; done) | rfl), by (first | (simp [h51]; done) | rfl), by (first | (simp [h52]; done) | rfl), by (first | (simp; done) | rfl), ?_⟩
  rw [hfd]
  exact q2.then_ hDl hDk hF3
 obtain ⟨_, hBl, hBk, F2, hS2, hF2⟩ := hq
 obtain ⟨q1, w1, w2, w3⟩ := hTu.at_ hj
 have w3 := w3 B (fun j hj => hBk j (hS.ap j (hFu j hj)).2 (hS.ap j (hFu j hj)).1)
 have hfd := fold_take (f := fun s u => opnS c.T (tryS c.T s u) u) (b := s1) (d := 0) hj
 have hz := hul (us.getD j 0) (by rw [List.getD_eq_getElem?_getD, List.getElem?_eq_getElem hj]; exact List.getElem_mem hj)
 generalize us.getD j 0 = u at *
 (refine aoo fun K hK => ?_; simp (maxSteps := 20000000) (disch := first | omega | (simp only [lnS]; try omega)) [h28, h29, hj]; refine hK _ _ ?_; clear hK K)
 refine aw_seq ?_
 refine aw_t (by (first | (simp [hj]; done) | (simp [hj]; omega))) (by kernel_rfl) ?_
 refine aw_skip (aw_seq ?_)
 refine aw_block ?_
 (refine aw_seq (aoo fun K hK => ?_); simp (maxSteps := 20000000) (disch := first | omega | (simp only [lnS]; try omega)) [h27, h29, -xindexAddr, w1, w2, -xload, w3, -notTuple, hTn.1]; refine hK _ _ ?_; clear hK K)
 refine aw_seq (aoo fun K hK => ?_)
 simp (maxSteps := 20000000) (disch := first | omega | (simp only [lnS]; try omega)) [h0]
 refine ⟨by kernel_rfl, AC.mono (try_ac hS2 hz) ?_⟩
 intro v' E q2
 obtain rfl := q2.1
 try simp (maxSteps := 20000000) (disch := first | omega | (simp only [lnS]; try omega)) []
 refine hK _ _ ?_; clear hK K
 obtain ⟨_, hEl, hEk, F3, hS3, hF3⟩ := q2
 refine aoo fun K hK => ?_
 simp (maxSteps := 20000000) (disch := first | omega | (simp only [lnS]; try omega)) [h0]
 refine ⟨by kernel_rfl, AC.mono (opn_ac hS3 hz) ?_⟩
 intro v' E2 q3
 obtain rfl := q3.1
 try simp (maxSteps := 20000000) (disch := first | omega | (simp only [lnS]; try omega)) []
 refine hK _ _ ?_; clear hK K
 (refine aoo fun K hK => ?_; simp (maxSteps := 20000000) (disch := first | omega | (simp only [lnS]; try omega)) [h29]; refine hK _ _ ?_; clear hK K)
 refine ⟨q - 1, by omega, j + 1, by omega, by (first | (simp [h0]; done) | rfl), by (first | (simp [h5]; done) | rfl), by (first | (simp [h27]; done) | rfl), by (first | (simp [h28]; done) | rfl), by (first | (simp; done) | rfl), ?_⟩
 rw [hfd]
 exact (q3.then_ hEl hEk hF3).then_ hBl hBk hF2
end
end
section
theorem usersF_snoc (k : List Int) (x : TermD) : ∀ (T : List TermD) (n : Nat), usersF k n (T ++ [x]) = usersF k n T ++ (x.keys.filter (· = k)).map (fun _ => n + T.length)
 | [], n => by simp [usersF]
 | y :: T, n => by
  show _ ++ usersF k (n + 1) (T ++ [x]) = (_ ++ usersF k (n + 1) T) ++ _
  rw [usersF_snoc k x T (n + 1), List.append_assoc, List.length_cons, show n + 1 + T.length = n + (T.length + 1) by omega]
def usP (T : List TermD) (i : Nat) (ks : List (List Int)) (j : Nat) (k : List Int) : List Nat := usersF k 0 (T.take i) ++ ((ks.take j).filter (· = k)).map (fun _ => i)
theorem usP_zero (T : List TermD) (i : Nat) (ks : List (List Int)) (k : List Int) : usP T i ks 0 k = usersF k 0 (T.take i) := by simp [usP]
theorem usP_all {T : List TermD} {i : Nat} {x : TermD} (h : T[i]? = some x) (k : List Int) : usP T i x.keys x.keys.length k = usersF k 0 (T.take (i + 1)) := by
 have hl := (List.getElem?_eq_some_iff.1 h).1
 unfold usP
 rw [List.take_length, List.take_add_one, h, Option.toList, usersF_snoc, List.length_take, Nat.min_eq_left (by omega), Nat.zero_add]
theorem usP_succ {T : List TermD} {i j : Nat} {ks : List (List Int)} (hj : j < ks.length) (k : List Int) : usP T i ks (j + 1) k = if k = ks.getD j [] then usP T i ks j k ++ [i] else usP T i ks j k := by
 unfold usP
 rw [List.take_add_one, List.filter_append, List.map_append, ← List.append_assoc, List.getElem?_eq_getElem hj, List.getD_eq_getElem?_getD, List.getElem?_eq_getElem hj, Option.toList, Option.getD_some]
 by_cases e : k = ks[j]
 ·rw [if_pos e]
  simp [e]
 ·rw [if_neg e]
  simp [Ne.symm e]
theorem usP_len {T : List TermD} (hT : T.length ≤ 1000000) (hw : ∀ x ∈ T, x.Wf) {i : Nat} {x : TermD} (h : T[i]? = some x) {j : Nat} (k : List Int) : (usP T i x.keys j k).length ≤ 1000001000000 := by
 have h1 := users_len (k := k) (n := 0) (M := 1000000) (T := T.take i) (fun y hy => (hw y (List.mem_of_mem_take hy)).many)
 have h2 : (T.take i).length * 1000000 ≤ 1000000 * 1000000 := Nat.mul_le_mul_right _ (by rw [List.length_take]; omega)
 have h3 : ((x.keys.take j).filter (· = k)).length ≤ x.keys.length := Nat.le_trans (List.length_filter_le _ _) (by rw [List.length_take]; omega)
 have h4 := (hw x (List.mem_of_getElem? h)).many
 unfold usP
 rw [List.length_append, List.length_map]
 omega
def UsI (m : Nat) (G : AH) (U : List (List Int × Value)) (P : List Int → List Nat) : Prop :=
 (∀ p ∈ U, p.1.length = 32) ∧ ∃ fu : List Int → List Nat, (∀ k, k.length = 32 → Tdo G (ul k U) (P k) (fu k) ∧ ∀ j ∈ fu k, m ≤ j) ∧ ∀ k k' : List Int, k.length = 32 → k'.length = 32 → k ≠ k' → ∀ j ∈ fu k, j ∉ fu k'
theorem UsI.low {m : Nat} {G G' : AH} {U : List (List Int × Value)} {P : List Int → List Nat} (h : UsI m G U P) (hl : ∀ j, m ≤ j → j < G.length → hget G' j = hget G j) : UsI m G' U P := by
 obtain ⟨h1, fu, h2, h3⟩ := h
 exact ⟨h1, fu, fun k hk => ⟨(h2 k hk).1.low (fun j hj => hl j ((h2 k hk).2 j hj) ((h2 k hk).1.nt.2.2.1 j hj)), (h2 k hk).2⟩, h3⟩
theorem UsI.eq {m : Nat} {G : AH} {U : List (List Int × Value)} {P P' : List Int → List Nat} (h : UsI m G U P) (e : ∀ k, P k = P' k) : UsI m G U P' := by
 have : P = P' := funext e
 exact this ▸ h
theorem UsI.push {nro m ub i : Nat} {G1 : AH} {U : List (List Int × Value)} {P : List Int → List Nat} {k0 : List Int} (h : UsI m G1 U P) (hk0 : k0.length = 32) (hub : ub < m) (hm : m ≤ G1.length) (hn : nro ≤ ub) (hu : hget G1 ub = some (mblk 74 (uE U))) (hP : (P k0).length ≤ 1000001000000) :
  ∃ (uv v' : Value) (idx : Nat) (G2 : AH) (E1 : List (Value × Value)), uv = ul k0 U ∧ notTuple uv = true ∧
   xmapEnt Tryd.prog nro 74 (.map (some ub)) (.agg (iv .u8 k0).toArray) (G1 ++ [some ⟨[.int .i64 (i : Nat)], 3, some 1⟩]) = some (.tuple #[uv, .int .i64 (idx : Nat)], List.set G1 ub (some (mblk 74 E1)) ++ [some ⟨[.int .i64 (i : Nat)], 3, some 1⟩]) ∧
   xappend Tryd.prog nro 29 uv (.slice (some ⟨G1.length, 0, none⟩) 1 1) (List.set G1 ub (some (mblk 74 E1)) ++ [some ⟨[.int .i64 (i : Nat)], 3, some 1⟩]) = some (v', G2) ∧ notTuple v' = true ∧ v'.cells = #[v'] ∧
   xentSt nro (.map (some ub)) (.int .i64 (idx : Nat)) v' G2 = some (undef, G2.set ub (some (mblk 74 (uE (uput k0 v' U))))) ∧
   G2.length = G1.length + 2 ∧ UsI m (G2.set ub (some (mblk 74 (uE (uput k0 v' U))))) (uput k0 v' U) (fun k => if k = k0 then P k ++ [i] else P k) ∧
   (∀ j, j < m → j ≠ ub → hget (G2.set ub (some (mblk 74 (uE (uput k0 v' U))))) j = hget G1 j) := by
 obtain ⟨hU, fu, hf, hd⟩ := h
 obtain ⟨ht, htm⟩ := hf k0 hk0
 have hul := hget_lt hu
 obtain ⟨R, hR⟩ : ∃ R : Option Blk, R = some ⟨[.int .i64 (i : Nat)], 3, some 1⟩ := ⟨_, rfl⟩
 obtain ⟨idx, E1, he, hs⟩ := us_entry (nro := nro) (H := G1 ++ [R]) ((hget_left hul).trans hu) hn hU hk0
 have hset : (G1 ++ [R]).set ub (some (mblk 74 E1)) = List.set G1 ub (some (mblk 74 E1)) ++ [R] := List.set_append_left _ _ hul
 rw [hset] at he
 obtain ⟨A, hA⟩ : ∃ A : AH, A = List.set G1 ub (some (mblk 74 E1)) := ⟨_, rfl⟩
 have hAl : A.length = G1.length := by rw [hA]; simp
 have hAj : ∀ j, j ≠ ub → hget A j = hget G1 j := fun j hj => by rw [hA, hget_set_ne (Ne.symm hj)]
 have hAu : hget A ub = some (mblk 74 E1) := by rw [hA, hget_set_eq hul]
 have ht2 : Tdo A (ul k0 U) (P k0) (fu k0) := ht.low (fun j hj => hAj j (by have := htm j hj; omega))
 obtain ⟨v', G2, hap, ht3, hn2, hc2, hl2, hk2⟩ := tdo_push (nro := nro) ht2 (fun j hj => by have := htm j hj; omega) i (by omega)
 rw [hAl, ← hR] at hap
 rw [hAl] at ht3 hl2 hk2
 have h2u : hget G2 ub = some (mblk 74 E1) := (hk2 ub (by omega) (fun e => by have := htm ub e; omega)).trans hAu
 have l2u := hget_lt h2u
 have hst := hs G2 v' h2u hn2
 rw [← hA] at he
 refine ⟨ul k0 U, v', idx, G2, E1, rfl, ht.nt.1, by rw [← hR, ← hA]; exact he, by rw [← hR, ← hA]; exact hap, hn2, hc2, hst, hl2, ⟨uput_len hk0 hU, fun k => if k = k0 then [G1.length + 1] else fu k, fun k hk => ?_, fun k k' hk hk' hne j hj hj' => ?_⟩, fun j hj hne => ?_⟩
 ·rw [ul_uput]
  by_cases e : k = k0
  ·subst e
   simp only [if_pos]
   refine ⟨ht3.low (fun j hj => hget_set_ne (by rw [List.mem_singleton.1 hj]; omega)), fun j hj => by rw [List.mem_singleton.1 hj]; omega⟩
  ·simp only [if_neg e]
   obtain ⟨g1, g2⟩ := hf k hk
   refine ⟨g1.low (fun j hj => ?_), g2⟩
   have hjl := g1.nt.2.2.1 j hj
   have hjm := g2 j hj
   rw [hget_set_ne (by omega), hk2 j hjl (fun e2 => hd k k0 hk hk0 e j hj e2), hAj j (by omega)]
 ·simp only at hj hj'
  by_cases e : k = k0
  ·rw [if_pos e] at hj
   rw [if_neg (fun e2 => hne (e.trans e2.symm))] at hj'
   have := (hf k' hk').1.nt.2.2.1 j hj'
   have := List.mem_singleton.1 hj
   omega
  ·rw [if_neg e] at hj
   by_cases e2 : k' = k0
   ·rw [if_pos e2] at hj'
    have := (hf k hk).1.nt.2.2.1 j hj
    have := List.mem_singleton.1 hj'
    omega
   ·rw [if_neg e2] at hj'
    exact hd k k' hk hk' hne j hj hj'
 ·rw [hget_set_ne (Ne.symm hne), hk2 j (by omega) (fun e => by have := htm j e; omega), hAj j hne]
end
section
attribute [local simp] wb_bool wb_undef with_lit XL_nil XL_cons XLc_val XLc_call step1_eq stepW_t stepW_f stepC_n stepC_s stepX_s stepX_n stepN_s calleeX xrecv oneV xop_eq xopR_s xopR_n wantedA_eq wantedG_n wantedG_s plain1_int plain1_bool plain1_string bits_i64 bits_u64 bits_u32 bits_u16 bits_u8 xeqA xagg xcmp xarr allK_iv num_iv calleeOf xread xeff xbin xint xnil xun xstr xload xconv xpart xfield xfieldAddr xindexAddr xindex bnd asInt? xslice xlen xmin xmax xbuild xfill xappend xapp2 xappstr xappmk xcap xcopy xcells eval_tmp eval_const put_at put_none fr0_at cells_agg cells_int cells_bool cells_string cells_ptr cells_slice notTuple tab iv_all hget_app hget_app0 hget_cons0 hget_cons set_app set_app0 setR setR_one QL_nil QL_cons QLc_val stepQ_t stepQ_f stepQC_n stepQC_s stepQX_s SL_nil SL_cons SLc_val stepS_t stepS_f ltT ltF leT leF eqT eqF ltTn ltFn leTn leFn eqTn eqFn beqT beqF bneT bneF wi64 wu64 wu32 wu16 wu8 tmodP tdivP hgetL hgetNe hgetEq setL nums_def nums_len Nat.succ_le_of_lt List.getElem?_cons_zero List.getElem?_cons_succ Option.getD_some Int.toNat_add Int.toNat_mul agM okM agB agI agS agP agL agA okB okI okS okP okSl okA nt_strG nt_boolG nt_aggG nt_intG nt_ptrG nt_slG XO_s XO_z XLk_val XLk_call headsO behind List.length_cons List.length_nil List.mem_cons List.not_mem_nil or_false forall_eq_or_imp forall_eq List.contains_cons List.contains_nil XOm
section
theorem zero_bools (n : Nat) : ((List.range n).map fun j => [Value.bool false][j % 1]?.getD undef) = bsC (List.replicate n false) := by
 have e : (fun j : Nat => [Value.bool false][j % 1]?.getD undef) = fun _ => Value.bool false := by
  funext j
  rw [Nat.mod_one]; rfl
 rw [e, List.map_const', List.length_range]
 simp [bsC]
theorem headsO_ex {i : Nat} : ∀ {os : List (List Nat)}, i ∈ headsO os → ∃ o, (i :: o) ∈ os
 | [] :: os, h => by
  unfold headsO at h
  obtain ⟨o, ho⟩ := headsO_ex (os := os) h
  exact ⟨o, by simp [ho]⟩
 | (j :: l) :: os, h => by
  unfold headsO at h
  split at h
  ·obtain ⟨o, ho⟩ := headsO_ex (os := os) h
   exact ⟨o, by simp [ho]⟩
  ·rcases List.mem_cons.1 h with rfl | h
   ·exact ⟨l, by simp⟩
   ·obtain ⟨o, ho⟩ := headsO_ex (os := os) h
    exact ⟨o, by simp [ho]⟩
theorem behind_of {i : Nat} {o : List Nat} : ∀ {os : List (List Nat)}, (i :: o) ∈ os → o ∈ behind i os
 | [] :: os, h => by
  rcases List.mem_cons.1 h with h | h
  ·cases h
  ·simp only [behind]
   exact behind_of h
 | (j :: l) :: os, h => by
  simp only [behind]
  rcases List.mem_cons.1 h with h | h
  ·cases h
   simp
  ·split
   ·exact List.mem_cons_of_mem _ (behind_of h)
   ·exact behind_of h
theorem name_fm {K : Fm → Prop} {α : Fm} (h : ∀ β, β = α → K β) : K α := h α rfl
def XOk (P : Program) (nro n : Nat) (γ : Nat → Option Nat) (ops : Array Oper) (l : List Oper) (i : Nat) (α : Fm) (G : AH) (k : Fm → AH → Prop) : Prop := match l[i]? with
 | none => False
 | some o => XLk P nro γ (step1 P nro n γ ops o α G) o.dst α G k
theorem xo_run {P : Program} {nro n : Nat} {γ : Nat → Option Nat} {ops : Array Oper} {K : Fm → AH → Prop} {l : List Oper} {okI : List Nat → Nat → Bool} {ALL : List Nat} {J : List Nat → Fm → AH → Prop}
  (hs : ∀ (i : Nat) (D : List Nat) (α : Fm) (G : AH) (k : Fm → AH → Prop), J D α G → okI D i = true → (∀ α' G', J (i :: D) α' G' → k α' G') → XOk P nro n γ ops l i α G k)
  (hK : ∀ (E : List Nat) (α : Fm) (G : AH), J E α G → (∀ k ∈ ALL, k ∈ E) → K α G) :
  ∀ (F : Nat) (os : List (List Nat)) (D : List Nat) (α : Fm) (G : AH), os ≠ [] → (∀ o ∈ os, o.length = F ∧ okAll okI D o = true ∧ ∀ k ∈ ALL, k ∈ D ∨ k ∈ o) → J D α G → XO P nro n γ ops K l F os α G
 | 0, os, D, α, G, hne, ho, h => by
  obtain ⟨o, hm⟩ := List.exists_mem_of_ne_nil os hne
  obtain ⟨h1, _, h3⟩ := ho o hm
  have : o = [] := List.eq_nil_of_length_eq_zero h1
  subst this
  exact hK D α G h (fun k hk => (h3 k hk).elim id (fun e => by cases e))
 | F + 1, os, D, α, G, hne, ho, h => by
  rw [XO_s]
  intro i hi
  obtain ⟨o, hm⟩ := headsO_ex hi
  have hoi := (ho _ hm).2.1
  simp only [okAll, Bool.and_eq_true] at hoi
  have := hs i D α G (XO P nro n γ ops K l F (behind i os)) h hoi.1 fun α' G' h' => xo_run hs hK F (behind i os) (i :: D) α' G' (fun e => ?_) (fun r hr => ?_) h'
  ·exact this
  ·have := behind_of hm
   rw [e] at this
   cases this
  ·obtain ⟨g1, g2, g3⟩ := ho _ (behind_mem hr)
   simp only [okAll, Bool.and_eq_true] at g2
   refine ⟨by simpa using g1, g2.2, fun k hk => ?_⟩
   rcases g3 k hk with e | e
   ·exact .inl (by simp [e])
   ·rcases List.mem_cons.1 e with e | e
    ·exact .inl (by simp [e])
    ·exact .inr e
theorem SL_hide {P : Program} {n : Nat} {γ : Nat → Option Nat} {ops : Array Oper} {H : AH} {rest : List Oper} {α : Fm} {K0 : Fm → Prop} (h : ∀ KK : Fm → Prop, (∀ α', K0 α' → KK α') → SL P n γ ops KK H rest α) : SL P n γ ops K0 H rest α := h K0 (fun _ h => h)
def okE (D : List Nat) (i : Nat) : Bool := match i with
 | 3 => !(D.contains 7) && !(D.contains 9) && !(D.contains 11)
 | 4 => !(D.contains 7) && !(D.contains 9) && !(D.contains 11)
 | 6 => !(D.contains 6) && !(D.contains 7) && !(D.contains 9) && !(D.contains 11)
 | 7 => D.contains 3 && D.contains 4 && D.contains 6 && !(D.contains 7) && !(D.contains 9) && !(D.contains 11)
 | 8 => D.contains 7
 | 9 => D.contains 6 && D.contains 7 && D.contains 8 && !(D.contains 9) && !(D.contains 11)
 | 10 => D.contains 7
 | 11 => D.contains 3 && D.contains 9 && D.contains 10 && !(D.contains 11)
 | _ => false
structure JE (β : Fm) (A1 Ar Am A2 Af : AH) (sb ub r : Nat) (z : List Int) (i idx : Nat) (uv v' : Value) (D : List Nat) (α : Fm) (G : AH) : Prop where
 lo : ∀ t, t < 48 → α t = β t
 h50 : α 50 = .pointer (some ⟨sb, 2, none⟩)
 h54 : α 54 = .int .i64 (i : Nat)
 h51 : 3 ∈ D → α 51 = .map (some ub)
 h52 : 4 ∈ D → α 52 = .agg (iv .u8 z).toArray
 h55 : 6 ∈ D → α 55 = .slice (some ⟨r, 0, none⟩) 1 1
 h56 : 7 ∈ D → α 56 = .tuple #[uv, .int .i64 (idx : Nat)]
 h53 : 8 ∈ D → α 53 = uv
 h57 : 9 ∈ D → α 57 = v'
 h58 : 10 ∈ D → α 58 = .int .i64 (idx : Nat)
 hG : G = if 11 ∈ D then Af else if 9 ∈ D then A2 else if 7 ∈ D then Am else if 6 ∈ D then Ar else A1
def BegQ (γ : Nat → Option Nat) (nro : Nat) (H : AH) (T : List TermD) (v' : Value) (H' : AH) : Prop :=
 ∃ (c : SrC) (F : List Nat), c.T = T ∧ v' = .pointer (some ⟨c.sb, 0, none⟩) ∧ Low H.length H H' ∧ SR γ nro H' c F (List.replicate T.length false, []) ∧ ∀ j ∈ F, H.length ≤ j
theorem begin_ac {nro : Nat} {γ : Nat → Option Nat} {H : AH} (hp : Pw γ H) {b : Nat} {F : List Nat} {T : List TermD} (h : Tbl H b F T) (hnH : nro ≤ H.length) (hT : T.length ≤ 1000000) :
  AC Tryd.prog nro γ 33 #[.pointer (some ⟨b, 0, none⟩)] H (BegQ γ nro H T) := by
 obtain ⟨mb, tv, Ft, Fk, L, rfl, hL, rfl, hFl⟩ := h
 obtain ⟨hl, hnt, hcs⟩ := hL.tvlen
 have hgb := hL.hb
 have hbl := hget_lt hgb
 rw [List.length_map] at hT
 have hwT : ∀ x ∈ L.map (·.2), x.Wf := fun x hx => by
  obtain ⟨p, hp, rfl⟩ := List.mem_map.1 hx
  exact hL.wf p hp
 have hlen := fun (N : AH) => tlen_rc (γ := γ) (H := H ++ N) ((hget_left hbl).trans hgb) hl hnt hcs
 have hmk : ∀ G : AH, xmakeMap Tryd.prog 74 none G = some (.map (some G.length), G ++ [some (mblk 74 (uE []))]) := fun G => by
  have h1 : und Tryd.prog 74 = .map 28 29 := by kernel_rfl
  unfold xmakeMap
  simp only [h1]
  rfl
 have hmkH := hmk H
 have hzb := zero_bools L.length
 have hnl : (L.length : Int) ≤ maxLen := by simp only [maxLen]; omega
 obtain ⟨G0, hG0⟩ : ∃ G0 : AH, G0 = H ++ [some (mblk 74 (uE [])), some ⟨bsC (List.replicate L.length false), 4, some 1⟩, some ⟨[tv, .map (some mb), .map (some H.length), .slice (some ⟨H.length + 1, 0, none⟩) L.length L.length, .slice none 0 0], 77, none⟩] := ⟨_, rfl⟩
 have g0 : hget G0 H.length = some (mblk 74 (uE [])) := by rw [hG0, hget_app0]; rfl
 have g1 : hget G0 (H.length + 1) = some ⟨bsC (List.replicate L.length false), 4, some 1⟩ := by rw [hG0, hget_app]; rfl
 have g2 : hget G0 (H.length + 2) = some ⟨[tv, .map (some mb), .map (some H.length), .slice (some ⟨H.length + 1, 0, none⟩) L.length L.length, .slice none 0 0], 77, none⟩ := by rw [hG0, hget_app]; rfl
 have gl : G0.length = H.length + 3 := by rw [hG0]; simp
 have lw0 : Low H.length H G0 := ⟨fun j hj => by rw [hG0]; exact hget_left hj, by omega⟩
 have hu0 : UsI (H.length + 3) G0 [] (usersF · 0 []) := ⟨by simp, fun _ => [], fun k hk => ⟨.inl ⟨rfl, rfl, rfl⟩, by simp⟩, fun k k' _ _ _ j hj => by cases hj⟩
 refine ac_of_aw Tryd.func33 rfl Tryd.ntmps33 Tryd.results33 (by simp) ?_
 (refine aw_seq (aoo fun K hK => ?_); simp (disch := first | omega | (simp only [lnS]; try omega)) [-getElem?_pos, -getElem?_neg]; refine hK _ _ ?_; clear hK K)
 refine aw_seq (aoo fun K hK => ?_)
 simp (disch := first | omega | (simp only [lnS]; try omega)) [-getElem?_pos, -getElem?_neg, hmkH]
 refine ⟨by kernel_rfl, ac_of_rc (hlen _) (by simp [pv_iv, pv_int, pv_bool, pv_string, pv_tup2, pv_tup3, iv_plain, p2_int, p2_bool, p2_string]) ?_⟩
 have p1 : plain1 (.slice none 0 0) = true := rfl
 have pm : plain1 (.map none) = true := rfl
 have mc : ∀ n : Option Nat, (Value.map n).cells = #[.map n] := fun _ => rfl
 try simp (disch := first | omega | (simp only [lnS]; try omega)) [-getElem?_pos, -getElem?_neg, hzb, hnl, p1, pm, mc, nt_mapG]
 refine hK _ _ ?_; clear hK K
 refine aw_seq (aw_seq ?_)
 (refine aoo fun K hK => ?_; simp (disch := first | omega | (simp only [lnS]; try omega)) [-getElem?_pos, -getElem?_neg]; refine hK _ _ ?_; clear hK K)
 refine aw_f (by (first | (simp; done) | (simp; omega))) (by kernel_rfl) ?_
 refine aw_skip (aw_seq ?_)
 obtain ⟨Ga, hGa⟩ : ∃ Ga : AH, Ga = H ++ [some (mblk 74 (uE [])), some ⟨bsC (List.replicate L.length false), 4, some 1⟩, some ⟨[.slice none 0 0, .map none, .map (some H.length), .slice (some ⟨H.length + 1, 0, none⟩) L.length L.length, .slice none 0 0], 77, none⟩] := ⟨_, rfl⟩
 have ga2 : hget Ga (H.length + 2) = some ⟨[.slice none 0 0, .map none, .map (some H.length), .slice (some ⟨H.length + 1, 0, none⟩) L.length L.length, .slice none 0 0], 77, none⟩ := by rw [hGa, hget_app]; rfl
 have gab : hget Ga b = some ⟨[tv, .map (some mb)], 81, none⟩ := by rw [hGa, hget_left hbl]; exact hgb
 have la2 := hget_lt ga2
 have hn2 : nro ≤ H.length + 2 := by omega
 have lab := hget_lt gab
 have hset : (Ga.set (H.length + 2) (some ⟨[tv, .map (some mb), .map (some H.length), .slice (some ⟨H.length + 1, 0, none⟩) L.length L.length, .slice none 0 0], 77, none⟩)) = G0 := by
  rw [hGa, hG0, List.set_append_right _ _ (by omega), Nat.add_sub_cancel_left]
  rfl
 rw [← hGa]
 clear hGa
 (refine aw_plan [] [1] [0, 2, 3, 4, 5, 6, 7, 8, 9, 10, 11] 12 4 (by kernel_rfl) (by kernel_rfl) (by kernel_rfl) (fun K hK => ?_)); simp only [sel, List.getElem?_cons_succ, List.getElem?_cons_zero, List.drop_succ_cons, List.drop_zero]; simp (disch := first | omega | (simp only [lnS]; try omega)) [-getElem?_pos, -getElem?_neg, ga2, gab, la2, lab, hn2, -notTuple, hnt, hcs, p1, pm, mc, nt_mapG, PL_nil, plainB_lit, PL_cons, PLc_val, PLc_new, stepP_t, stepP_f, stepPC_n, stepPC_s, stepPX_s, stepPX_n, stepPV_n, stepPV_s, stepPA_t, stepPA_c, stepPA_l, stepPN_s, allocOp, reloc_sl, reloc_ptr, List.map_cons, List.map_nil, List.nil_append, List.append_assoc, List.cons_append, Nat.add_assoc]
 rw [hset]
 refine hK _ _ ?_; clear hK K hset
 clear hG0
 refine aw_seq (aw_seq ?_)
 have lg2 := hget_lt g2
 (refine aoo fun K hK => ?_; simp (disch := first | omega | (simp only [lnS]; try omega)) [-getElem?_pos, -getElem?_neg, g2, lg2, -notTuple, hnt, -xlen, hl]; refine hK _ _ ?_; clear hK K)
 refine aw_block ?_
 refine aw_loop (fun q α G => ∃ (i : Nat) (U : List (List Int × Value)), i + q = L.length ∧ α 3 = .pointer (some ⟨H.length + 2, 0, none⟩) ∧ α 34 = tv ∧ α 35 = .int .i64 (L.length : Nat) ∧ α 36 = .int .i64 (i : Nat) ∧ H.length + 3 ≤ G.length ∧ (∀ j, j < H.length + 3 → j ≠ H.length → hget G j = hget G0 j) ∧ hget G H.length = some (mblk 74 (uE U)) ∧ UsI (H.length + 3) G U (usersF · 0 ((L.map (·.2)).take i))) L.length ?_ ?_
 ·exact ⟨0, [], by omega, by (first | (simp; done) | rfl), by (first | (simp; done) | rfl), by (first | (simp; done) | rfl), by (first | (simp; done) | rfl), by omega, fun j _ _ => rfl, g0, hu0⟩
 rintro q α G ⟨i, U, hiq, h3, h34, h35, h36, hGl, hGj, hGu, hUs⟩
 refine aw_seq ?_
 by_cases hi : i < L.length
 case neg =>
  (refine aoo fun K hK => ?_; simp (disch := first | omega | (simp only [lnS]; try omega)) [-getElem?_pos, -getElem?_neg, h35, h36, hi]; refine hK _ _ ?_; clear hK K)
  refine aw_seq ?_
  refine aw_f (by (first | (simp [hi]; done) | (simp [hi]; omega))) (by kernel_rfl) ?_
  refine aw_exit (aw_seq ?_)
  (refine aoo fun K hK => ?_; simp (disch := first | omega | (simp only [lnS]; try omega)) [-getElem?_pos, -getElem?_neg, h3]; refine hK _ _ ?_; clear hK K)
  (refine aw_ret ?_; simp (disch := first | omega | (simp only [lnS]; try omega)) [-getElem?_pos, -getElem?_neg, thenQ_ret, scopeQ_ret, inBlockQ_ret, RQ, resL, resV])
  obtain rfl : i = L.length := by omega
  have hlw : Low H.length H G := ⟨fun j hj => (hGj j (by omega) (by omega)).trans (lw0.1 j hj), by omega⟩
  rw [List.take_of_length_le (by simp)] at hUs
  obtain ⟨hU, fu, hf, hd⟩ := hUs
  have hS : ∀ j, j < G.length → j ≠ H.length + 2 → j ≠ H.length + 1 → j ∈ (List.range G.length).filter (fun j => decide (j ≠ H.length + 2 ∧ j ≠ H.length + 1)) := fun j h1 h2 h3 => by simp [h1, h2, h3]
  have hll := hlw.2
  have hSub := hS H.length (by omega) (by omega) (by omega)
  have hs2 := (hGj (H.length + 2) (by omega) (by omega)).trans g2
  have hs1 := (hGj (H.length + 1) (by omega) (by omega)).trans g1
  refine ⟨⟨H.length + 2, H.length + 1, mb, H.length, b, tv, (List.range G.length).filter (fun j => decide (j ≠ H.length + 2 ∧ j ≠ H.length + 1)), Ft, Fk, L, U⟩, [H.length + 2, H.length + 1], rfl, rfl, hlw, ⟨fun A hA => ?_, ⟨hL.low (fun j hj => hlw.1 j (hFl j hj)), fun j hj => ?_, hSub, hGu, hU, fun k hk => ⟨fu k, (hf k hk).1, fun j hj => ?_⟩⟩, ⟨.slice none 0 0, [], rfl, hs2, ?_, by simp, .inl ⟨rfl, rfl, rfl⟩, by show H.length + 2 ≠ H.length + 1; omega, by simp, by simp, ?_⟩, fun j hj => ?_, fun j hj => ?_, by omega, hT⟩, fun j hj => ?_⟩
  ·obtain ⟨i0, ty, e1, e2⟩ := hp
   have := hget_lt e2
   exact ⟨i0, ty, e1, (hA i0 (hS _ (by omega) (by omega) (by omega))).trans ((hlw.1 i0 this).trans e2)⟩
  ·have := hFl j hj
   exact hS j (by omega) (by omega) (by omega)
  ·have e1 := (hf k hk).2 j hj
   have e2 := (hf k hk).1.nt.2.2.1 j hj
   exact hS j e2 (by omega) (by omega)
  ·rw [List.length_map]
   exact hs1
  ·unfold muF
   simp
   exact hT
  ·have := List.mem_filter.1 hj
   have h1 := List.mem_range.1 this.1
   have h2 := of_decide_eq_true this.2
   exact ⟨by simp [h2.1, h2.2], h1⟩
  ·simp only [List.mem_cons, List.not_mem_nil, or_false] at hj
   omega
  ·simp only [List.mem_cons, List.not_mem_nil, or_false] at hj
   omega
 obtain ⟨⟨kv, x⟩, hpx⟩ : ∃ p, L[i]? = some p := ⟨_, List.getElem?_eq_getElem hi⟩
 have hmem := List.mem_of_getElem? hpx
 have hkn := hL.key_nt hmem
 have hw : x.Wf := hL.wf _ hmem
 obtain ⟨Fx, hox, hFx⟩ := hL.keys _ hmem
 have hKs : KsV H kv x.keys := kr_ksv hox hw.k32
 have hacc := hKs.acc hw.k32
 have hmk := hw.many
 have hlG : Low H.length H G := ⟨fun j hj => (hGj j (by omega) (by omega)).trans (lw0.1 j hj), by omega⟩
 obtain ⟨q1, a1, a2, a3⟩ := (hL.low (G := G) (fun j hj => hlG.1 j (hFl j hj))).at_ hpx
 have a3 : xload Tryd.prog 67 q1 G = some (.agg (tmRow kv x).toArray) := by simpa using a3 []
 have hpT : (L.map (·.2))[i]? = some x := by rw [List.getElem?_map, hpx]; rfl
 have r3 : List.range 3 = [0, 1, 2] := rfl
 have htm : tmRow kv x = [.int .i64 (x.kind : Nat), .string x.text, kv] := rfl
 rw [htm] at a3
 have hng : nro ≤ G.length := by omega
 (refine aoo fun K hK => ?_; simp (disch := first | omega | (simp only [lnS]; try omega)) [-getElem?_pos, -getElem?_neg, h35, h36, hi]; refine hK _ _ ?_; clear hK K)
 refine aw_seq ?_
 refine aw_t (by (first | (simp [hi]; done) | (simp [hi]; omega))) (by kernel_rfl) ?_
 refine aw_skip (aw_seq ?_)
 refine aw_block ?_
 (refine aw_seq (aoo fun K hK => ?_); simp (disch := first | omega | (simp only [lnS]; try omega)) [-getElem?_pos, -getElem?_neg, h34, h36, -xindexAddr, a1, a2, -xload, a3, -notTuple, hnt, hkn.1, hkn.2, p1, r3, hng]; refine hK _ _ ?_; clear hK K)
 obtain ⟨G1, hG1⟩ : ∃ G1 : AH, G1 = G ++ [some ⟨[.int .i64 (x.kind : Nat), .string x.text, kv], 67, none⟩] := ⟨_, rfl⟩
 have g1j : ∀ j, j < G.length → hget G1 j = hget G j := fun j hj => by rw [hG1]; exact hget_left hj
 have g1n : hget G1 G.length = some ⟨[.int .i64 (x.kind : Nat), .string x.text, kv], 67, none⟩ := by rw [hG1, hget_app0]; rfl
 have g1l : G1.length = G.length + 1 := by rw [hG1]; simp
 have l1n := hget_lt g1n
 rw [← hG1]
 clear hG1
 have hUs1 : UsI (H.length + 3) G1 U (usP (L.map (·.2)) i x.keys 0) := (hUs.low (fun j h1 h2 => g1j j h2)).eq (fun k => (usP_zero _ _ _ k).symm)
 (refine aw_seq (aoo fun K hK => ?_); simp (disch := first | omega | (simp only [lnS]; try omega)) [-getElem?_pos, -getElem?_neg, g1n, l1n, -notTuple, hkn.1, hkn.2, -xlen, hacc.len]; refine hK _ _ ?_; clear hK K)
 refine aw_block ?_
 refine aw_loop (fun q2 α A => ∃ (j : Nat) (U : List (List Int × Value)), j + q2 = x.keys.length ∧ α 3 = .pointer (some ⟨H.length + 2, 0, none⟩) ∧ α 34 = tv ∧ α 35 = .int .i64 (L.length : Nat) ∧ α 36 = .int .i64 (i : Nat) ∧ α 4 = .int .i64 (i : Nat) ∧ α 42 = kv ∧ α 43 = .int .i64 (x.keys.length : Nat) ∧ α 44 = .int .i64 (j : Nat) ∧ H.length + 3 ≤ A.length ∧ (∀ j, j < H.length + 3 → j ≠ H.length → hget A j = hget G0 j) ∧ hget A H.length = some (mblk 74 (uE U)) ∧ UsI (H.length + 3) A U (usP (L.map (·.2)) i x.keys j)) x.keys.length ?_ ?_
 ·exact ⟨0, U, by omega, by (first | (simp [h3]; done) | rfl), by (first | (simp [h34]; done) | rfl), by (first | (simp [h35]; done) | rfl), by (first | (simp [h36]; done) | rfl), by (first | (simp; done) | rfl), by (first | (simp; done) | rfl), by (first | (simp; done) | rfl), by (first | (simp; done) | rfl), by omega, fun j h1 h2 => (g1j j (by omega)).trans (hGj j h1 h2), (g1j _ (by omega)).trans hGu, hUs1⟩
 clear h3 h34 h35 h36 hGl hGj hGu hUs hlG a1 a2 a3 hUs1 g1j g1n g1l l1n hng
 rintro q2 α A ⟨j, U, hjq, h3, h34, h35, h36, h4, h42, h43, h44, hAl, hAj, hAu, hUs⟩
 refine aw_seq ?_
 by_cases hj : j < x.keys.length
 case neg =>
  (refine aoo fun K hK => ?_; simp (disch := first | omega | (simp only [lnS]; try omega)) [-getElem?_pos, -getElem?_neg, h43, h44, hj]; refine hK _ _ ?_; clear hK K)
  refine aw_seq ?_
  refine aw_f (by (first | (simp [hj]; done) | (simp [hj]; omega))) (by kernel_rfl) ?_
  refine aw_exit ?_
  obtain rfl : j = x.keys.length := by omega
  (refine aoo fun K hK => ?_; simp (disch := first | omega | (simp only [lnS]; try omega)) [-getElem?_pos, -getElem?_neg, h36]; refine hK _ _ ?_; clear hK K)
  exact ⟨q - 1, by omega, i + 1, U, by omega, by (first | (simp [h3]; done) | rfl), by (first | (simp [h34]; done) | rfl), by (first | (simp [h35]; done) | rfl), by (first | (simp; done) | rfl), hAl, hAj, hAu, hUs.eq (fun k => usP_all hpT k)⟩
 have hlA : Low H.length H A := ⟨fun j hj => (hAj j (by omega) (by omega)).trans (lw0.1 j hj), by omega⟩
 obtain ⟨q1, y, r1, r2, r3', r4, r5⟩ := hacc.at_ j hj
 have r5 := r5 A hlA
 subst r4
 have hsx := usP_succ (T := L.map (·.2)) (i := i) hj
 have hpl := fun k => usP_len (T := L.map (·.2)) (by simpa using hT) hwT hpT (j := j) k
 obtain ⟨k32, kby⟩ : (x.keys.getD j []).length = 32 ∧ By (x.keys.getD j []) := by
  rw [List.getD_eq_getElem?_getD, List.getElem?_eq_getElem hj]
  exact ⟨hw.k32 _ (List.getElem_mem hj), hw.by_ _ (List.getElem_mem hj)⟩
 have hz : ∀ k, usP (L.map (·.2)) i x.keys (j + 1) k = if k = x.keys.getD j [] then usP (L.map (·.2)) i x.keys j k ++ [i] else usP (L.map (·.2)) i x.keys j k := hsx
 generalize x.keys.getD j [] = z at *
 have htz : (iv .u8 z).take 32 = iv .u8 z := List.take_of_length_le (by simp [k32])
 have hsz : setR (iv .u8 (zl 32)) 0 (iv .u8 z) = iv .u8 z := setR_all _ _ (by simp [k32])
 have hng : nro ≤ A.length := by omega
 (refine aoo fun K hK => ?_; simp (disch := first | omega | (simp only [lnS]; try omega)) [-getElem?_pos, -getElem?_neg, h43, h44, hj]; refine hK _ _ ?_; clear hK K)
 refine aw_seq ?_
 refine aw_t (by (first | (simp [hj]; done) | (simp [hj]; omega))) (by kernel_rfl) ?_
 refine aw_skip (aw_seq ?_)
 refine aw_block ?_
 (refine aw_seq (aoo fun K hK => ?_); simp (disch := first | omega | (simp only [lnS]; try omega)) [-getElem?_pos, -getElem?_neg, h42, h44, -xindexAddr, r1, r2, -xload, r5, -notTuple, hkn.1, htz, hsz, k32, hng]; refine hK _ _ ?_; clear hK K)
 obtain ⟨A1, hA1⟩ : ∃ A1 : AH, A1 = A ++ [some ⟨iv .u8 z, 28, none⟩] := ⟨_, rfl⟩
 have b1j : ∀ j, j < A.length → hget A1 j = hget A j := fun j hj => by rw [hA1]; exact hget_left hj
 have b1n : hget A1 A.length = some ⟨iv .u8 z, 28, none⟩ := by rw [hA1, hget_app0]; rfl
 have b1l : A1.length = A.length + 1 := by rw [hA1]; simp
 rw [← hA1]
 clear hA1
 have b1s : hget A1 (H.length + 2) = some ⟨[tv, .map (some mb), .map (some H.length), .slice (some ⟨H.length + 1, 0, none⟩) L.length L.length, .slice none 0 0], 77, none⟩ := (b1j _ (by omega)).trans ((hAj _ (by omega) (by omega)).trans g2)
 obtain ⟨uv, v', idx, A2, E1, _, hnuv, he, hap, hnv, hcv, hst, hl2, hUs2, hk2⟩ := (hUs.low (G' := A1) (fun j h1 h2 => b1j j h2)).push (nro := nro) (i := i) k32 (ub := H.length) (by omega) (by omega) (by omega) ((b1j _ (by omega)).trans hAu) (by have := hpl z; omega)
 have lb1 := hget_lt b1s
 have lb2 := hget_lt b1n
 have r1' : List.range 1 = [0] := rfl
 refine aw_ptree [0, 1, 2, 5] 8 [[3, 4, 6, 7, 8, 9, 10, 11], [3, 4, 6, 7, 8, 10, 9, 11], [3, 4, 6, 7, 10, 8, 9, 11], [3, 6, 4, 7, 8, 9, 10, 11], [3, 6, 4, 7, 8, 10, 9, 11], [3, 6, 4, 7, 10, 8, 9, 11], [4, 3, 6, 7, 8, 9, 10, 11], [4, 3, 6, 7, 8, 10, 9, 11], [4, 3, 6, 7, 10, 8, 9, 11], [4, 6, 3, 7, 8, 9, 10, 11], [4, 6, 3, 7, 8, 10, 9, 11], [4, 6, 3, 7, 10, 8, 9, 11], [6, 3, 4, 7, 8, 9, 10, 11], [6, 3, 4, 7, 8, 10, 9, 11], [6, 3, 4, 7, 10, 8, 9, 11], [6, 4, 3, 7, 8, 9, 10, 11], [6, 4, 3, 7, 8, 10, 9, 11], [6, 4, 3, 7, 10, 8, 9, 11]] (by kernel_rfl) (by kernel_rfl) (by kernel_rfl) (fun K hK => ?_)
 refine SL_hide (fun KK hKK => ?_)
 simp only [sel, List.getElem?_cons_succ, List.getElem?_cons_zero]
 simp (disch := first | omega | (simp only [lnS]; try omega)) [-getElem?_pos, -getElem?_neg, h3, h4]
 refine name_fm (K := KK) (fun β hβ => ?_)
 refine hKK β ?_
 clear hKK
 have e3 : β 3 = .pointer (some ⟨H.length + 2, 0, none⟩) := by rw [hβ]; (first | (simp [h3]; done) | rfl)
 have e34 : β 34 = tv := by rw [hβ]; (first | (simp [h34]; done) | rfl)
 have e35 : β 35 = .int .i64 (L.length : Nat) := by rw [hβ]; (first | (simp [h35]; done) | rfl)
 have e36 : β 36 = .int .i64 (i : Nat) := by rw [hβ]; (first | (simp [h36]; done) | rfl)
 have e4 : β 4 = .int .i64 (i : Nat) := by rw [hβ]; (first | (simp [h4]; done) | rfl)
 have e42 : β 42 = kv := by rw [hβ]; (first | (simp [h42]; done) | rfl)
 have e43 : β 43 = .int .i64 (x.keys.length : Nat) := by rw [hβ]; (first | (simp [h43]; done) | rfl)
 have e44 : β 44 = .int .i64 (j : Nat) := by rw [hβ]; (first | (simp [h44]; done) | rfl)
 have e7 : β 7 = .pointer (some ⟨A.length, 0, none⟩) := by rw [hβ]; (first | (simp; done) | rfl)
 have e50 : β 50 = .pointer (some ⟨H.length + 2, 2, none⟩) := by rw [hβ]; (first | (simp; done) | rfl)
 have e54 : β 54 = .int .i64 (i : Nat) := by rw [hβ]; (first | (simp; done) | rfl)
 clear hβ
 refine xo_run (okI := okE) (ALL := [3, 4, 6, 7, 8, 9, 10, 11]) (J := JE β A1 (A1 ++ [some ⟨[.int .i64 (i : Nat)], 3, some 1⟩]) (List.set A1 H.length (some (mblk 74 E1)) ++ [some ⟨[.int .i64 (i : Nat)], 3, some 1⟩]) A2 (A2.set H.length (some (mblk 74 (uE (uput z v' U))))) (H.length + 2) H.length A1.length z i idx uv v') ?_ ?_ 8 _ [0, 1, 2, 5] _ _ (by simp) (by decide) ⟨fun t ht => rfl, e50, e54, fun h => (by simp at h), fun h => (by simp at h), fun h => (by simp at h), fun h => (by simp at h), fun h => (by simp at h), fun h => (by simp at h), fun h => (by simp at h), by simp⟩
 ·intro k D α G kk hJ hk hcont
  obtain ⟨jl, j50, j54, j51, j52, j55, j56, j53, j57, j58, jG⟩ := hJ
  have j7 := (jl 7 (by omega)).trans e7
  unfold okE at hk
  split at hk
  ·simp only [Bool.and_eq_true, Bool.not_eq_true', List.contains_eq_mem, decide_eq_false_iff_not, decide_eq_true_eq] at hk
   obtain ⟨⟨n7, n9⟩, n11⟩ := hk
   rw [if_neg n11, if_neg n9, if_neg n7] at jG
   by_cases h6 : 6 ∈ D
   ·rw [if_pos h6] at jG
    subst jG
    unfold XOk
    simp only [List.getElem?_cons_succ, List.getElem?_cons_zero]
    simp (disch := first | omega | (simp only [lnS]; try omega)) [-getElem?_pos, -getElem?_neg, -notTuple, hnt, hnuv, hnv, hcv, nt_mapG, b1s, lb1, j50]
    exact hcont _ _ ⟨fun t ht => by
    have : t ≠ 51 := by omega
    simp [put_at, put_none, this, jl t ht], by (first | (simp [j50]; done) | rfl), by (first | (simp [j54]; done) | rfl), fun _ => by (first | (simp; done) | rfl), fun h => by (first | (simp [j52 (by simpa using h)]; done) | rfl), fun h => by (first | (simp [j55 (by simpa using h)]; done) | rfl), fun h => by (first | (simp [j56 (by simpa using h)]; done) | rfl), fun h => by (first | (simp [j53 (by simpa using h)]; done) | rfl), fun h => by (first | (simp [j57 (by simpa using h)]; done) | rfl), fun h => by (first | (simp [j58 (by simpa using h)]; done) | rfl), by simp [n7, n9, n11, h6]⟩
   ·rw [if_neg h6] at jG
    subst jG
    unfold XOk
    simp only [List.getElem?_cons_succ, List.getElem?_cons_zero]
    simp (disch := first | omega | (simp only [lnS]; try omega)) [-getElem?_pos, -getElem?_neg, -notTuple, hnt, hnuv, hnv, hcv, nt_mapG, b1s, lb1, j50]
    exact hcont _ _ ⟨fun t ht => by
    have : t ≠ 51 := by omega
    simp [put_at, put_none, this, jl t ht], by (first | (simp [j50]; done) | rfl), by (first | (simp [j54]; done) | rfl), fun _ => by (first | (simp; done) | rfl), fun h => by (first | (simp [j52 (by simpa using h)]; done) | rfl), fun h => by (first | (simp [j55 (by simpa using h)]; done) | rfl), fun h => by (first | (simp [j56 (by simpa using h)]; done) | rfl), fun h => by (first | (simp [j53 (by simpa using h)]; done) | rfl), fun h => by (first | (simp [j57 (by simpa using h)]; done) | rfl), fun h => by (first | (simp [j58 (by simpa using h)]; done) | rfl), by simp [n7, n9, n11, h6]⟩
  ·simp only [Bool.and_eq_true, Bool.not_eq_true', List.contains_eq_mem, decide_eq_false_iff_not, decide_eq_true_eq] at hk
   obtain ⟨⟨n7, n9⟩, n11⟩ := hk
   rw [if_neg n11, if_neg n9, if_neg n7] at jG
   by_cases h6 : 6 ∈ D
   ·rw [if_pos h6] at jG
    subst jG
    unfold XOk
    simp only [List.getElem?_cons_succ, List.getElem?_cons_zero]
    simp (disch := first | omega | (simp only [lnS]; try omega)) [-getElem?_pos, -getElem?_neg, -notTuple, hnt, hnuv, hnv, hcv, nt_mapG, b1n, lb2, htz, k32, j7]
    exact hcont _ _ ⟨fun t ht => by
    have : t ≠ 52 := by omega
    simp [put_at, put_none, this, jl t ht], by (first | (simp [j50]; done) | rfl), by (first | (simp [j54]; done) | rfl), fun h => by (first | (simp [j51 (by simpa using h)]; done) | rfl), fun _ => by (first | (simp; done) | rfl), fun h => by (first | (simp [j55 (by simpa using h)]; done) | rfl), fun h => by (first | (simp [j56 (by simpa using h)]; done) | rfl), fun h => by (first | (simp [j53 (by simpa using h)]; done) | rfl), fun h => by (first | (simp [j57 (by simpa using h)]; done) | rfl), fun h => by (first | (simp [j58 (by simpa using h)]; done) | rfl), by simp [n7, n9, n11, h6]⟩
   ·rw [if_neg h6] at jG
    subst jG
    unfold XOk
    simp only [List.getElem?_cons_succ, List.getElem?_cons_zero]
    simp (disch := first | omega | (simp only [lnS]; try omega)) [-getElem?_pos, -getElem?_neg, -notTuple, hnt, hnuv, hnv, hcv, nt_mapG, b1n, lb2, htz, k32, j7]
    exact hcont _ _ ⟨fun t ht => by
    have : t ≠ 52 := by omega
    simp [put_at, put_none, this, jl t ht], by (first | (simp [j50]; done) | rfl), by (first | (simp [j54]; done) | rfl), fun h => by (first | (simp [j51 (by simpa using h)]; done) | rfl), fun _ => by (first | (simp; done) | rfl), fun h => by (first | (simp [j55 (by simpa using h)]; done) | rfl), fun h => by (first | (simp [j56 (by simpa using h)]; done) | rfl), fun h => by (first | (simp [j53 (by simpa using h)]; done) | rfl), fun h => by (first | (simp [j57 (by simpa using h)]; done) | rfl), fun h => by (first | (simp [j58 (by simpa using h)]; done) | rfl), by simp [n7, n9, n11, h6]⟩
  ·simp only [Bool.and_eq_true, Bool.not_eq_true', List.contains_eq_mem, decide_eq_false_iff_not, decide_eq_true_eq] at hk
   obtain ⟨⟨⟨n6, n7⟩, n9⟩, n11⟩ := hk
   rw [if_neg n11, if_neg n9, if_neg n7, if_neg n6] at jG
   subst jG
   unfold XOk
   simp only [List.getElem?_cons_succ, List.getElem?_cons_zero]
   simp (disch := first | omega | (simp only [lnS]; try omega)) [-getElem?_pos, -getElem?_neg, -notTuple, hnt, hnuv, hnv, hcv, nt_mapG, j54, r1']
   exact hcont _ _ ⟨fun t ht => by
    have : t ≠ 55 := by omega
    simp [put_at, put_none, this, jl t ht], by (first | (simp [j50]; done) | rfl), by (first | (simp [j54]; done) | rfl), fun h => by (first | (simp [j51 (by simpa using h)]; done) | rfl), fun h => by (first | (simp [j52 (by simpa using h)]; done) | rfl), fun _ => by (first | (simp; done) | rfl), fun h => by (first | (simp [j56 (by simpa using h)]; done) | rfl), fun h => by (first | (simp [j53 (by simpa using h)]; done) | rfl), fun h => by (first | (simp [j57 (by simpa using h)]; done) | rfl), fun h => by (first | (simp [j58 (by simpa using h)]; done) | rfl), by simp [n7, n9, n11]⟩
  ·simp only [Bool.and_eq_true, Bool.not_eq_true', List.contains_eq_mem, decide_eq_false_iff_not, decide_eq_true_eq] at hk
   obtain ⟨⟨⟨⟨⟨m3, m4⟩, m6⟩, n7⟩, n9⟩, n11⟩ := hk
   rw [if_neg n11, if_neg n9, if_neg n7, if_pos m6] at jG
   subst jG
   unfold XOk
   simp only [List.getElem?_cons_succ, List.getElem?_cons_zero]
   simp (disch := first | omega | (simp only [lnS]; try omega)) [-getElem?_pos, -getElem?_neg, -notTuple, hnt, hnuv, hnv, hcv, nt_mapG, j51 m3, j52 m4, he]
   exact hcont _ _ ⟨fun t ht => by
    have : t ≠ 56 := by omega
    simp [put_at, put_none, this, jl t ht], by (first | (simp [j50]; done) | rfl), by (first | (simp [j54]; done) | rfl), fun h => by (first | (simp [j51 (by simpa using h)]; done) | rfl), fun h => by (first | (simp [j52 (by simpa using h)]; done) | rfl), fun h => by (first | (simp [j55 (by simpa using h)]; done) | rfl), fun _ => by (first | (simp; done) | rfl), fun h => by (first | (simp [j53 (by simpa using h)]; done) | rfl), fun h => by (first | (simp [j57 (by simpa using h)]; done) | rfl), fun h => by (first | (simp [j58 (by simpa using h)]; done) | rfl), by simp [n9, n11]⟩
  ·have hk : 7 ∈ D := by simpa using hk
   unfold XOk
   simp only [List.getElem?_cons_succ, List.getElem?_cons_zero]
   simp (disch := first | omega | (simp only [lnS]; try omega)) [-getElem?_pos, -getElem?_neg, -notTuple, hnt, hnuv, hnv, hcv, nt_mapG, j56 hk]
   exact hcont _ _ ⟨fun t ht => by
    have : t ≠ 53 := by omega
    simp [put_at, put_none, this, jl t ht], by (first | (simp [j50]; done) | rfl), by (first | (simp [j54]; done) | rfl), fun h => by (first | (simp [j51 (by simpa using h)]; done) | rfl), fun h => by (first | (simp [j52 (by simpa using h)]; done) | rfl), fun h => by (first | (simp [j55 (by simpa using h)]; done) | rfl), fun h => by (first | (simp [j56 (by simpa using h)]; done) | rfl), fun _ => by (first | (simp; done) | rfl), fun h => by (first | (simp [j57 (by simpa using h)]; done) | rfl), fun h => by (first | (simp [j58 (by simpa using h)]; done) | rfl), by simpa using jG⟩
  ·simp only [Bool.and_eq_true, Bool.not_eq_true', List.contains_eq_mem, decide_eq_false_iff_not, decide_eq_true_eq] at hk
   obtain ⟨⟨⟨⟨m6, m7⟩, m8⟩, n9⟩, n11⟩ := hk
   rw [if_neg n11, if_neg n9, if_pos m7] at jG
   subst jG
   unfold XOk
   simp only [List.getElem?_cons_succ, List.getElem?_cons_zero]
   simp (disch := first | omega | (simp only [lnS]; try omega)) [-getElem?_pos, -getElem?_neg, -notTuple, hnt, hnuv, hnv, hcv, nt_mapG, j53 m8, j55 m6, -xappend, hap]
   exact hcont _ _ ⟨fun t ht => by
    have : t ≠ 57 := by omega
    simp [put_at, put_none, this, jl t ht], by (first | (simp [j50]; done) | rfl), by (first | (simp [j54]; done) | rfl), fun h => by (first | (simp [j51 (by simpa using h)]; done) | rfl), fun h => by (first | (simp [j52 (by simpa using h)]; done) | rfl), fun h => by (first | (simp [j55 (by simpa using h)]; done) | rfl), fun h => by (first | (simp [j56 (by simpa using h)]; done) | rfl), fun h => by (first | (simp [j53 (by simpa using h)]; done) | rfl), fun _ => by (first | (simp; done) | rfl), fun h => by (first | (simp [j58 (by simpa using h)]; done) | rfl), by simp [n11]⟩
  ·have hk : 7 ∈ D := by simpa using hk
   unfold XOk
   simp only [List.getElem?_cons_succ, List.getElem?_cons_zero]
   simp (disch := first | omega | (simp only [lnS]; try omega)) [-getElem?_pos, -getElem?_neg, -notTuple, hnt, hnuv, hnv, hcv, nt_mapG, j56 hk]
   exact hcont _ _ ⟨fun t ht => by
    have : t ≠ 58 := by omega
    simp [put_at, put_none, this, jl t ht], by (first | (simp [j50]; done) | rfl), by (first | (simp [j54]; done) | rfl), fun h => by (first | (simp [j51 (by simpa using h)]; done) | rfl), fun h => by (first | (simp [j52 (by simpa using h)]; done) | rfl), fun h => by (first | (simp [j55 (by simpa using h)]; done) | rfl), fun h => by (first | (simp [j56 (by simpa using h)]; done) | rfl), fun h => by (first | (simp [j53 (by simpa using h)]; done) | rfl), fun h => by (first | (simp [j57 (by simpa using h)]; done) | rfl), fun _ => by (first | (simp; done) | rfl), by simpa using jG⟩
  ·simp only [Bool.and_eq_true, Bool.not_eq_true', List.contains_eq_mem, decide_eq_false_iff_not, decide_eq_true_eq] at hk
   obtain ⟨⟨⟨m3, m9⟩, m10⟩, n11⟩ := hk
   rw [if_neg n11, if_pos m9] at jG
   subst jG
   unfold XOk
   simp only [List.getElem?_cons_succ, List.getElem?_cons_zero]
   simp (disch := first | omega | (simp only [lnS]; try omega)) [-getElem?_pos, -getElem?_neg, -notTuple, hnt, hnuv, hnv, hcv, nt_mapG, j51 m3, j57 m9, j58 m10, hst]
   exact hcont _ _ ⟨fun t ht => by simp [put_none, jl t ht], by (first | (simp [j50]; done) | rfl), by (first | (simp [j54]; done) | rfl), fun h => by (first | (simp [j51 (by simpa using h)]; done) | rfl), fun h => by (first | (simp [j52 (by simpa using h)]; done) | rfl), fun h => by (first | (simp [j55 (by simpa using h)]; done) | rfl), fun h => by (first | (simp [j56 (by simpa using h)]; done) | rfl), fun h => by (first | (simp [j53 (by simpa using h)]; done) | rfl), fun h => by (first | (simp [j57 (by simpa using h)]; done) | rfl), fun h => by (first | (simp [j58 (by simpa using h)]; done) | rfl), by simp⟩
  ·cases hk
 ·rintro E α' G' ⟨jl, j50, j54, j51, j52, j55, j56, j53, j57, j58, jG⟩ hE
  rw [if_pos (hE 11 (by simp))] at jG
  subst jG
  refine hK _ _ ?_; clear hK K
  have f3 := (jl 3 (by omega)).trans e3
  have f34 := (jl 34 (by omega)).trans e34
  have f35 := (jl 35 (by omega)).trans e35
  have f36 := (jl 36 (by omega)).trans e36
  have f4 := (jl 4 (by omega)).trans e4
  have f42 := (jl 42 (by omega)).trans e42
  have f43 := (jl 43 (by omega)).trans e43
  have f44 := (jl 44 (by omega)).trans e44
  (refine aoo fun K hK => ?_; simp (disch := first | omega | (simp only [lnS]; try omega)) [-getElem?_pos, -getElem?_neg, f44]; refine hK _ _ ?_; clear hK K)
  refine ⟨q2 - 1, by omega, j + 1, uput z v' U, by omega, by (first | (simp [f3]; done) | rfl), by (first | (simp [f34]; done) | rfl), by (first | (simp [f35]; done) | rfl), by (first | (simp [f36]; done) | rfl), by (first | (simp [f4]; done) | rfl), by (first | (simp [f42]; done) | rfl), by (first | (simp [f43]; done) | rfl), by (first | (simp; done) | rfl), by simp; omega, fun t h1 h2 => ?_, hget_set_eq (by omega), hUs2.eq (fun k => (hz k).symm)⟩
  rw [hk2 t h1 h2, b1j t (by omega)]
  exact hAj t h1 h2
end
section
theorem SR.pop {γ : Nat → Option Nat} {nro : Nat} {H : AH} {c : SrC} {F : List Nat} {s : FSt} (h : SR γ nro H c F s) {i : Nat} (hi : s.2.getLast? = some i) :
  ∃ tdv tv2 q, hget H c.sb = some ⟨[c.tv, .map (some c.mb), .map (some c.ub), .slice (some ⟨c.kb, 0, none⟩) c.L.length c.L.length, tdv], 77, none⟩ ∧ notTuple tdv = true ∧ xlen Tryd.prog 29 tdv = some (.int .i64 (s.2.length : Nat)) ∧ 0 < s.2.length ∧
   xindexAddr Tryd.prog 29 tdv (.int .i64 ((s.2.length - 1 : Nat) : Int)) = some q ∧ notTuple q = true ∧ xload Tryd.prog 3 q H = some (.int .i64 (i : Nat)) ∧
   (∀ G : AH, xslice Tryd.prog 29 tdv none (some (.int .i64 ((s.2.length - 1 : Nat) : Int))) G = some tv2) ∧ notTuple tv2 = true ∧ tv2.cells = #[tv2] ∧
   SRQ γ nro H c F (s.1, s.2.dropLast) (.tuple #[]) (H.set c.sb (some ⟨[c.tv, .map (some c.mb), .map (some c.ub), .slice (some ⟨c.kb, 0, none⟩) c.L.length c.L.length, tv2], 77, none⟩)) := by
 have e2 := last_split hi
 have hu : und Tryd.prog 29 = .slice 3 := by kernel_rfl
 have hs : szt Tryd.prog 3 = 1 := by kernel_rfl
 have hlen : s.2.length = s.2.dropLast.length + 1 := by
  have := congrArg List.length e2
  simpa using this
 obtain ⟨tdv, Fd, hF, hsb, hkb, hsl, htd, hne, hsF, hkF, hm⟩ := h.dy
 have hl := hget_lt hsb
 have hTn := htd.nt
 have hgd : s.2.getD (s.2.length - 1) 0 = i := by
  rw [List.getD_eq_getElem?_getD]
  rw [List.getLast?_eq_getElem?] at hi
  rw [hi]; rfl
 obtain ⟨q, q1, q2, q3⟩ := htd.at_ (i := s.2.length - 1) (by omega)
 have q4 := q3 H (fun _ _ => rfl)
 rw [hgd] at q4
 rcases htd with ⟨_, e0, _⟩ | ⟨j, cs, rfl, rfl, h3, h4⟩
 ·rw [e0] at hlen
  simp at hlen
 ·have hdl : s.2.length - 1 = s.2.dropLast.length := by omega
  refine ⟨_, .slice (some ⟨j, 0, none⟩) s.2.dropLast.length s.2.dropLast.length, q, hsb, rfl, hTn.2.2.2, by omega, q1, q2, q4, fun G => ?_, rfl, rfl, h.step ⟨rfl, by simp, fun t ht hn => hget_set_ne (fun e => hn (by rw [hF]; simp [e])), F, ⟨.slice (some ⟨j, 0, none⟩) s.2.dropLast.length s.2.dropLast.length, [j], hF, hget_set_eq hl, (hget_set_ne hne).trans hkb, hsl, .inr ⟨j, cs, rfl, rfl, (hget_set_ne (by intro e; exact hsF (by simp [e]))).trans h3, ?_⟩, hne, hsF, hkF, ?_⟩, fun t ht => .inl ht⟩⟩
  ·unfold xslice
   simp only [hu, bnd, hs]
   rw [show asInt? (Value.int .i64 ((s.2.length - 1 : Nat) : Int)) = some ((s.2.length - 1 : Nat) : Int) from rfl]
   dsimp only
   rw [if_pos ⟨by omega, by omega, by omega, by omega⟩, if_neg (by omega), if_pos trivial]
   simp only [Int.toNat_natCast, Int.toNat_zero, Nat.sub_zero, Nat.zero_mul, Nat.add_zero, hdl]
  ·refine List.IsPrefix.trans ?_ h4
   conv => rhs; rw [e2]
   unfold tdC
   rw [List.map_append]
   exact List.prefix_append _ _
  ·unfold muF at hm ⊢
   simp only at hm ⊢
   omega
def FolQ (H : AH) (T : List TermD) (ks : List (List Int)) (v' : Value) (H' : AH) : Prop :=
 ∃ kx kb, v' = .func (.func 37) #[] #[.pointer (some ⟨kx, 0, none⟩)] ∧ Low H.length H H' ∧ hget H' kx = some ⟨[.slice (some ⟨kb, 0, none⟩) T.length T.length], 75, none⟩ ∧ hget H' kb = some ⟨bsC (folL T ks), 4, some 1⟩ ∧ H.length ≤ kx ∧ H.length ≤ kb
theorem fol1_rc {γ : Nat → Option Nat} {H : AH} {kx kb n : Nat} {kn : List Bool} (hx : hget H kx = some ⟨[.slice (some ⟨kb, 0, none⟩) n n], 75, none⟩) (hg : hget H kb = some ⟨bsC kn, 4, some 1⟩) (hl : kn.length = n) (hn : n ≤ 1000000) {k : List Int} (hk : k.length = 32) (hb : By k) :
  AC Tryd.prog H.length γ 37 #[.agg (iv .u8 k).toArray, .pointer (some ⟨kx, 0, none⟩)] H (fun v' _ => v' = .bool (fol kn k)) := by
 have htk : (iv .u8 k).take 32 = iv .u8 k := List.take_of_length_le (by simp [hk])
 have lx := hget_lt hx
 have lg := hget_lt hg
 have hc := fun (N : AH) => follows_rc (γ := γ) (H := H ++ N) ((hget_left lg).trans hg) hl hn hk hb
 refine ac_of_aw Tryd.func37 rfl Tryd.ntmps37 Tryd.results37 (by simp) ?_
 (refine aw_seq (aoo fun K hK => ?_); simp (disch := first | omega | (simp only [lnS]; try omega)) [htk]; refine hK _ _ ?_; clear hK K)
 refine aw_seq (aoo fun K hK => ?_)
 simp (disch := first | omega | (simp only [lnS]; try omega)) [hx, lx, htk]
 refine ⟨by kernel_rfl, ac_of_rc (hc _) (by simp [pv_iv, pv_int, pv_bool, pv_string, pv_tup2, pv_tup3, iv_plain, p2_int, p2_bool, p2_string]) ?_⟩
 try simp (disch := first | omega | (simp only [lnS]; try omega)) []
 refine hK _ _ ?_; clear hK K
 (refine aw_ret ?_; simp (disch := first | omega | (simp only [lnS]; try omega)) [thenQ_ret, scopeQ_ret, inBlockQ_ret, RQ, resL, resV])
theorem follow_ac {nro : Nat} {γ : Nat → Option Nat} {H : AH} (hp : Pw γ H) {b : Nat} {F : List Nat} {T : List TermD} (h : Tbl H b F T) (hnH : nro ≤ H.length) (hW : TWf T) {v : Value} {ks : List (List Int)} (hK : KsV H v ks) (hk : ∀ k ∈ ks, k.length = 32) (hkb : ∀ k ∈ ks, By k) (hkm : ks.length ≤ 1000000) :
  AC Tryd.prog nro γ 11 #[.pointer (some ⟨b, 0, none⟩), v] H (FolQ H T ks) := by
 have hbeg := begin_ac (nro := nro) hp h hnH hW.len
 have hacc := hK.acc hk
 have hnt := hacc.nt
 have hcs := hacc.cs
 refine ac_of_aw Tryd.func11 rfl Tryd.ntmps11 Tryd.results11 (by simp) ?_
 (refine aw_seq (aoo fun K hK => ?_); simp (disch := first | omega | (simp only [lnS]; try omega)) []; refine hK _ _ ?_; clear hK K)
 refine aw_seq (aoo fun K hK => ?_)
 simp (disch := first | omega | (simp only [lnS]; try omega)) []
 refine ⟨by kernel_rfl, AC.mono hbeg ?_⟩
 rintro v1 G0 ⟨c, F0, hcT, rfl, lw0, hS0, hF0⟩
 have hn : c.L.length = T.length := by rw [← hcT]; simp [SrC.T]
 have hTm := hW.len
 try simp (disch := first | omega | (simp only [lnS]; try omega)) []
 refine hK _ _ ?_; clear hK K
 have hq0 : SRQ γ nro G0 c F0 (List.replicate T.length false, []) (.tuple #[]) G0 := hS0.same (Low.refl (Nat.le_refl _))
 have hlow : ∀ (t : FSt) (G : AH), SRQ γ nro G0 c F0 t (.tuple #[]) G → Low H.length H G := fun t G q => ⟨fun j hj => (q.2.2.1 j (by have := lw0.2; omega) (fun e => by have := hF0 j e; omega)).trans (lw0.1 j hj), by have := lw0.2; have := q.2.1; omega⟩
 refine aw_seq (aw_seq ?_)
 (refine aoo fun K hK => ?_; simp (disch := first | omega | (simp only [lnS]; try omega)) [-notTuple, hnt, -xlen, hacc.len]; refine hK _ _ ?_; clear hK K)
 refine aw_block ?_
 refine aw_loop (fun q α G => ∃ j : Nat, j + q = ks.length ∧ α 5 = .pointer (some ⟨c.sb, 0, none⟩) ∧ α 13 = v ∧ α 14 = .int .i64 (ks.length : Nat) ∧ α 15 = .int .i64 (j : Nat) ∧ SRQ γ nro G0 c F0 ((ks.take j).foldl lrn (List.replicate T.length false, [])) (.tuple #[]) G) ks.length ?_ ?_
 ·exact ⟨0, by omega, by (first | (simp; done) | rfl), by (first | (simp; done) | rfl), by (first | (simp; done) | rfl), by (first | (simp; done) | rfl), hq0⟩
 rintro q α G ⟨j, hjq, h5, h13, h14, h15, hq⟩
 refine aw_seq ?_
 by_cases hj : j < ks.length
 ·have lwG := hlow _ _ hq
  obtain ⟨_, hGl, hGk, F1, hS, hF1⟩ := hq
  obtain ⟨q1, y, r1, r2, r3', r4, r5⟩ := hacc.at_ j hj
  have r5 := r5 G lwG
  subst r4
  have hfd := fold_take (f := lrn) (b := (List.replicate T.length false, ([] : List Nat))) (d := []) hj
  obtain ⟨k32, kby⟩ : (ks.getD j []).length = 32 ∧ By (ks.getD j []) := by
   rw [List.getD_eq_getElem?_getD, List.getElem?_eq_getElem hj]
   exact ⟨hk _ (List.getElem_mem hj), hkb _ (List.getElem_mem hj)⟩
  generalize ks.getD j [] = z at *
  have htz : (iv .u8 z).take 32 = iv .u8 z := List.take_of_length_le (by simp [k32])
  have hsz : setR (iv .u8 (zl 32)) 0 (iv .u8 z) = iv .u8 z := setR_all _ _ (by simp [k32])
  have hng : nro ≤ G.length := by have := lwG.2; omega
  (refine aoo fun K hK => ?_; simp (disch := first | omega | (simp only [lnS]; try omega)) [h14, h15, hj]; refine hK _ _ ?_; clear hK K)
  refine aw_seq ?_
  refine aw_t (by (first | (simp [hj]; done) | (simp [hj]; omega))) (by kernel_rfl) ?_
  refine aw_skip (aw_seq ?_)
  refine aw_block ?_
  (refine aw_seq (aoo fun K hK => ?_); simp (disch := first | omega | (simp only [lnS]; try omega)) [h13, h15, -xindexAddr, r1, r2, -xload, r5, -notTuple, hnt, htz, hsz, k32, hng]; refine hK _ _ ?_; clear hK K)
  have hz := learnS_ac (hS.push [some ⟨iv .u8 z, 28, none⟩]) k32 kby
  refine aoo fun K hK => ?_
  simp (disch := first | omega | (simp only [lnS]; try omega)) [h5, htz, k32]
  refine ⟨by kernel_rfl, AC.mono hz ?_⟩
  intro v' A q2
  obtain rfl := q2.1
  try simp (disch := first | omega | (simp only [lnS]; try omega)) []
  refine hK _ _ ?_; clear hK K
  (refine aoo fun K hK => ?_; simp (disch := first | omega | (simp only [lnS]; try omega)) [h15]; refine hK _ _ ?_; clear hK K)
  refine ⟨q - 1, by omega, j + 1, by omega, by (first | (simp [h5]; done) | rfl), by (first | (simp [h13]; done) | rfl), by (first | (simp [h14]; done) | rfl), by (first | (simp; done) | rfl), ?_⟩
  rw [hfd]
  exact (q2.up ⟨fun j hj => hget_left hj, by simp⟩ hS.bound).then_ hGl hGk hF1
 (refine aoo fun K hK => ?_; simp (disch := first | omega | (simp only [lnS]; try omega)) [h14, h15, hj]; refine hK _ _ ?_; clear hK K)
 refine aw_seq ?_
 refine aw_f (by (first | (simp [hj]; done) | (simp [hj]; omega))) (by kernel_rfl) ?_
 refine aw_exit ?_
 obtain rfl : j = ks.length := by omega
 rw [List.take_length] at hq
 have hseed : ks.foldl lrn (List.replicate T.length false, []) = seedS T.length ks := rfl
 rw [hseed] at hq
 clear h13 h14 h15
 have hq1 := hq
 have hseedw : ∀ t : FSt, FExt (seedS T.length ks) t → ∀ p ∈ t.2, p < T.length := fun t ht => by
  have hx : FExt (List.replicate T.length false, []) t := FExt.trans (foldl_ext lrn_ext ks _) ht
  obtain ⟨M, e1, _, e3⟩ := hx.new
  intro p hp
  rw [e1] at hp
  simpa using (e3 p (by simpa using hp)).2
 obtain ⟨tdv1, s1b, s1n, _, _, _, hnt2, hcs2⟩ := hq1.2.2.2.elim fun F1 h => h.1.blocks
 have hxl := hS0.st.tb.tvlen.1
 have l1b := hget_lt s1b
 refine aw_seq (aw_seq ?_)
 (refine aoo fun K hK => ?_; simp (disch := first | omega | (simp only [lnS]; try omega)) [h5, s1b, l1b, -notTuple, hnt2, s1n, -xlen, hxl, nt_mapG]; refine hK _ _ ?_; clear hK K)
 refine aw_block ?_
 refine aw_loop (fun q α G => ∃ j : Nat, j + q = c.L.length ∧ α 5 = .pointer (some ⟨c.sb, 0, none⟩) ∧ α 27 = .int .i64 (c.L.length : Nat) ∧ α 28 = .int .i64 (j : Nat) ∧ SRQ γ nro G0 c F0 (((List.range c.L.length).take j).foldl (tryS c.T) (seedS T.length ks)) (.tuple #[]) G) c.L.length ?_ ?_
 ·exact ⟨0, by omega, by (first | (simp [h5]; done) | rfl), by (first | (simp; done) | rfl), by (first | (simp; done) | rfl), hq⟩
 clear h5 s1b l1b
 rintro q α G ⟨j, hjq, h5, h27, h28, hq⟩
 refine aw_seq ?_
 by_cases hj : j < c.L.length
 ·obtain ⟨_, hGl, hGk, F1, hS, hF1⟩ := hq
  have hfd := fold_take (f := tryS c.T) (b := seedS T.length ks) (d := 0) (l := List.range c.L.length) (i := j) (by simpa using hj)
  have hgd : (List.range c.L.length).getD j 0 = j := by
   rw [List.getD_eq_getElem?_getD, List.getElem?_range hj]; rfl
  rw [hgd] at hfd
  (refine aoo fun K hK => ?_; simp (disch := first | omega | (simp only [lnS]; try omega)) [h27, h28, hj]; refine hK _ _ ?_; clear hK K)
  refine aw_seq ?_
  refine aw_t (by (first | (simp [hj]; done) | (simp [hj]; omega))) (by kernel_rfl) ?_
  refine aw_skip (aw_seq ?_)
  refine aw_block ?_
  (refine aw_seq (aoo fun K hK => ?_); simp (disch := first | omega | (simp only [lnS]; try omega)) [h28]; refine hK _ _ ?_; clear hK K)
  refine aoo fun K hK => ?_
  simp (disch := first | omega | (simp only [lnS]; try omega)) [h5]
  refine ⟨by kernel_rfl, AC.mono (try_ac hS hj) ?_⟩
  intro v' A q2
  obtain rfl := q2.1
  try simp (disch := first | omega | (simp only [lnS]; try omega)) []
  refine hK _ _ ?_; clear hK K
  (refine aoo fun K hK => ?_; simp (disch := first | omega | (simp only [lnS]; try omega)) [h28]; refine hK _ _ ?_; clear hK K)
  refine ⟨q - 1, by omega, j + 1, by omega, by (first | (simp [h5]; done) | rfl), by (first | (simp [h27]; done) | rfl), by (first | (simp; done) | rfl), ?_⟩
  rw [hfd]
  exact q2.then_ hGl hGk hF1
 (refine aoo fun K hK => ?_; simp (disch := first | omega | (simp only [lnS]; try omega)) [h27, h28, hj]; refine hK _ _ ?_; clear hK K)
 refine aw_seq ?_
 refine aw_f (by (first | (simp [hj]; done) | (simp [hj]; omega))) (by kernel_rfl) ?_
 refine aw_exit ?_
 obtain rfl : j = c.L.length := by omega
 rw [List.take_of_length_le (by simp), hn, hcT] at hq
 have hpass : (List.range T.length).foldl (tryS T) (seedS T.length ks) = passS T ks := rfl
 rw [hpass] at hq
 obtain ⟨hip, hmp⟩ := inv_pass hW ks
 have hwp : ∀ p ∈ (passS T ks).2, p < T.length := hseedw _ (foldl_ext (tryS_ext T) _ _)
 refine aw_seq ?_
 refine aw_block ?_
 refine aw_loop (fun q α G => ∃ t : FSt, α 5 = .pointer (some ⟨c.sb, 0, none⟩) ∧ SRQ γ nro G0 c F0 t (.tuple #[]) G ∧ runS T q t = runS T T.length (passS T ks) ∧ muF t ≤ q ∧ ∀ p ∈ t.2, p < T.length) T.length ?_ ?_
 ·exact ⟨passS T ks, by (first | (simp [h5]; done) | rfl), hq, rfl, by omega, hwp⟩
 clear h5 h27 h28 hq
 rintro q α G ⟨t, h5, hq, hrun, hmu, hwt⟩
 have lwG := hlow _ _ hq
 obtain ⟨_, hGl, hGk, F1, hS, hF1⟩ := hq
 obtain ⟨tdv, Fd, hF, hsb, hkb, hsl, htd, hne, hsF, hkF, hm9⟩ := hS.dy
 have hTn := htd.nt
 have lsb := hget_lt hsb
 refine aw_seq (aw_seq ?_)
 by_cases h0 : 0 < t.2.length
 ·obtain ⟨i, hi⟩ : ∃ i, t.2.getLast? = some i := by
   cases hg : t.2.getLast? with
   | some i => exact ⟨i, rfl⟩
   | none => rw [List.getLast?_eq_none_iff.1 hg] at h0; simp at h0
  obtain ⟨tdv', tv2, q1, b1, b2, b3, _, b4, b5, b6, b7, b8, b9, b10⟩ := hS.pop hi
  have e0 : tdv' = tdv := by
   rw [hsb] at b1
   simp at b1
   exact b1.symm
  subst e0
  have hin : i < T.length := hwt i (by rw [last_split hi]; simp)
  obtain ⟨q', rfl⟩ : ∃ q', q = q' + 1 := ⟨q - 1, by unfold muF at hmu; omega⟩
  have hrun2 : runS T (q' + 1) t = runS T q' (useS T (t.1, t.2.dropLast) i) := by
   conv => lhs; unfold runS
   rw [hi]
  have hlen1 : t.2.length = t.2.dropLast.length + 1 := by
   have := congrArg List.length (last_split hi)
   simpa using this
  have hsub : ((t.2.length : Int) - 1) = ((t.2.length - 1 : Nat) : Int) := by omega
  have hmt : t.2.length ≤ 1000000 := by unfold muF at hm9; omega
  have ld4 : xload Tryd.prog 29 (.pointer (some ⟨c.sb, 4, none⟩)) G = some tdv' := by simp [xload, hsb]
  have hi0 : (0 : Int) < (t.2.length : Int) := by omega
  have hwx : ∀ p ∈ (useS T (t.1, t.2.dropLast) i).2, p < T.length := by
   obtain ⟨M, e1, _, e3⟩ := (useS_ext T (t.1, t.2.dropLast) i).new
   intro p hp
   rw [e1] at hp
   rcases List.mem_append.1 hp with hp | hp
   ·exact hwt p ((List.dropLast_sublist _).subset hp)
   ·have := (e3 p hp).2
    simp only at this
    omega
  have hmx : muF (useS T (t.1, t.2.dropLast) i) ≤ q' := by
   rw [(useS_ext T _ i).mu]
   unfold muF at hmu ⊢
   simp only
   omega
  have hsn : nro ≤ c.sb := hS.nr _ (by rw [hF]; simp)
  generalize hNn : t.2.length = N at *
  generalize N - 1 = N1 at *
  (refine aoo fun K hK => ?_; simp (disch := first | omega | (simp only [lnS]; try omega)) [h5, hsb, lsb, -notTuple, hnt2, hTn.1, -xlen, hTn.2.2.2, nt_mapG, h0, hi0]; refine hK _ _ ?_; clear hK K)
  refine aw_t (by (first | (simp [h0]; done) | (simp [h0]; omega))) (by kernel_rfl) ?_
  refine aw_skip ?_
  refine aw_block ?_
  refine aw_seq ?_
  (refine aw_plan [] [] [0, 1, 2, 3, 4, 5, 6, 7, 8, 9, 10, 11, 12] 13 0 (by kernel_rfl) (by kernel_rfl) (by kernel_rfl) (fun K hK => ?_)); simp only [sel, List.getElem?_cons_succ, List.getElem?_cons_zero, List.drop_succ_cons, List.drop_zero]; simp (disch := first | omega | (simp only [lnS]; try omega)) [h5, -xload, ld4, b6, -xlen, b3, -xindexAddr, b4, b5, b2, hsub, -notTuple, PL_nil, plainB_lit, PL_cons, PLc_val, PLc_new, stepP_t, stepP_f, stepPC_n, stepPC_s, stepPX_s, stepPX_n, stepPV_n, stepPV_s, stepPA_t, stepPA_c, stepPA_l, stepPN_s, allocOp, reloc_sl, reloc_ptr, List.map_cons, List.map_nil, List.nil_append, List.append_assoc, List.cons_append, Nat.add_assoc]
  refine hK _ _ ?_; clear hK K
  refine aw_seq ?_
  (refine aw_plan [] [] [0, 1, 2, 3, 4, 5, 6, 7, 8, 9, 10, 11, 12, 13] 14 1 (by kernel_rfl) (by kernel_rfl) (by kernel_rfl) (fun K hK => ?_)); simp only [sel, List.getElem?_cons_succ, List.getElem?_cons_zero, List.drop_succ_cons, List.drop_zero]; simp (disch := first | omega | (simp only [lnS]; try omega)) [h5, -xload, ld4, -xlen, b3, -xslice, b7, b8, b9, hsb, lsb, hsub, b2, hsn, -notTuple, hnt2, nt_mapG, PL_nil, plainB_lit, PL_cons, PLc_val, PLc_new, stepP_t, stepP_f, stepPC_n, stepPC_s, stepPX_s, stepPX_n, stepPV_n, stepPV_s, stepPA_t, stepPA_c, stepPA_l, stepPN_s, allocOp, reloc_sl, reloc_ptr, List.map_cons, List.map_nil, List.nil_append, List.append_assoc, List.cons_append, Nat.add_assoc]
  refine hK _ _ ?_; clear hK K
  obtain ⟨_, hDl, hDk, F2, hS2, hF2⟩ := b10
  have huse := use_ac hS2 (i := i) (by omega)
  rw [hcT] at huse
  generalize G.set c.sb (some ⟨[c.tv, .map (some c.mb), .map (some c.ub), .slice (some ⟨c.kb, 0, none⟩) c.L.length c.L.length, tv2], 77, none⟩) = D at *
  refine aoo fun K hK => ?_
  simp (disch := first | omega | (simp only [lnS]; try omega)) [h5]
  refine ⟨by kernel_rfl, AC.mono huse ?_⟩
  intro v' A q2
  obtain rfl := q2.1
  try simp (disch := first | omega | (simp only [lnS]; try omega)) []
  refine hK _ _ ?_; clear hK K
  exact ⟨q', by omega, _, by (first | (simp [h5]; done) | rfl), (q2.then_ hDl hDk hF2).then_ hGl hGk hF1, hrun2.symm.trans hrun, hmx, hwx⟩
 ·have ht0 : t.2 = [] := List.eq_nil_of_length_eq_zero (by omega)
  have hfin : t.1 = folL T ks := by
   have : runS T q t = t := by
    cases q with
    | zero => rfl
    | succ q => unfold runS; rw [ht0]; rfl
   rw [this] at hrun
   unfold folL
   rw [hrun]
  have hi0 : ¬ ((0 : Int) < (t.2.length : Int)) := by omega
  (refine aoo fun K hK => ?_; simp (disch := first | omega | (simp only [lnS]; try omega)) [h5, hsb, lsb, -notTuple, hnt2, hTn.1, -xlen, hTn.2.2.2, nt_mapG, h0, hi0]; refine hK _ _ ?_; clear hK K)
  refine aw_f (by (first | (simp [h0]; done) | (simp [h0]; omega))) (by kernel_rfl) ?_
  refine aw_exit (aw_seq ?_)
  have hng : nro ≤ G.length := by have := lwG.2; have := hnH; omega
  have p1 : plain1 (.slice none 0 0) = true := rfl
  (refine aoo fun K hK => ?_; simp (disch := first | omega | (simp only [lnS]; try omega)) [h5, hsb, lsb, -notTuple, hnt2, hTn.1, nt_mapG, hng, p1]; refine hK _ _ ?_; clear hK K)
  (refine aw_seq (aoo fun K hK => ?_); simp (disch := first | omega | (simp only [lnS]; try omega)) []; refine hK _ _ ?_; clear hK K)
  (refine aw_ret ?_; simp (disch := first | omega | (simp only [lnS]; try omega)) [thenQ_ret, scopeQ_ret, inBlockQ_ret, RQ, resL, resV])
  have hFb := hS.bound
  have hk2 : c.kb ∈ F1 := by rw [hF]; simp
  refine ⟨G.length, c.kb, rfl, ⟨fun j hj => (hget_left (by have := lwG.2; omega)).trans (lwG.1 j hj), by have := lwG.2; simp; omega⟩, ?_, ?_, lwG.2, ?_⟩
  ·rw [hget_app0, hn]; rfl
  ·rw [hget_left (hFb _ hk2), ← hfin]
   exact hkb
  ·rcases hF1 _ hk2 with e | e
   ·exact hF0 _ e
   ·have := lw0.2; omega
end
section
def openT (T : List TermD) (k y : List Int) (box : ByteArray) : Option (ByteArray × List (List Int)) :=
 if box.size = 32 then (match findT T (nums box) with
  | some x => if x.kind = 6 ∧ k0 x = k ∧ k1 x = y then some (x.text, x.keys.drop 2) else none
  | none => none) else none
def OpenQ (H : AH) (T : List TermD) (k y : List Int) (box : ByteArray) (v' : Value) (H' : AH) : Prop :=
 Low H.length H H' ∧ match openT T k y box with
  | none => v' = .tuple #[.string ⟨#[]⟩, .slice none 0 0, .bool false]
  | some (s, ks) => ∃ kv, v' = .tuple #[.string s, kv, .bool true] ∧ OwnK H.length H' kv ks
theorem OwnK.less {lo lo' : Nat} {H : AH} {v : Value} {ks : List (List Int)} (h : OwnK lo H v ks) (hl : lo' ≤ lo) : OwnK lo' H v ks := by
 rcases h with h | ⟨j, cs, h1, h2⟩
 ·exact .inl h
 ·exact .inr ⟨j, cs, by omega, h2⟩
theorem PartK.keep {H H' : AH} {lo lo' : Nat} {x : Value} {ks : List (List Int)} (h : PartK H lo x ks) (hl : lo ≤ lo') (hg : ∀ j, j < lo → hget H' j = hget H j) : PartK H' lo' x ks :=
 ⟨h.1, fun G hG => h.2 G (fun j hj => (hG j (by omega)).trans (hg j hj))⟩
def opJD : List Nat := [48, 49, 50, 51, 52, 53, 8, 9, 10]
def opJP : List (List Nat) := [[], [0], [], [2], [3], [4], [1], [5], []]
def opJV (gl lo : Nat) (st : ByteArray) (kv sv : Value) (ds : List (List Int)) (G : AH) (i : Nat) (v : Value) : Prop := match i with
 | 0 => v = .pointer (some ⟨gl, 1, none⟩)
 | 1 => v = .string st
 | 2 => v = .pointer (some ⟨gl, 2, none⟩)
 | 3 => v = kv
 | 4 => v = sv
 | 5 => OwnK lo G v ds
 | 6 => v = .string st
 | 7 => OwnK lo G v ds
 | 8 => v = .bool true
 | _ => True
theorem cloneP_ac {nro : Nat} {γ : Nat → Option Nat} {H : AH} {v : Value} {ks : List (List Int)} (hv : PartK H H.length v ks) (hk : K32 ks) (hc : ks.length ≤ 1000000) (hnro : nro ≤ H.length) :
  AC Tryd.prog nro γ 42 #[v] H (fun v' H' => OwnK H.length H' v' ks ∧ Low H.length H H') := by
 obtain ⟨⟨a, c, rfl⟩, hx⟩ := hv
 cases a with
 | none =>
  have h0 : ks = [] := by
   have := hx H (fun _ _ => rfl)
   cases hks : ks.length with
   | zero => exact List.eq_nil_of_length_eq_zero hks
   | succ n =>
    rw [hks] at this
    simp [xcells] at this
  subst h0
  refine ac_of_aw Tryd.func42 rfl Tryd.ntmps42 Tryd.results42 (by simp) ?_
  (refine aw_seq (aoo fun K hK => ?_); simp (disch := first | omega | (simp only [lnS]; try omega)) []; refine hK _ _ ?_; clear hK K)
  refine aw_seq (aw_seq ?_)
  (refine aoo fun K hK => ?_; simp (disch := first | omega | (simp only [lnS]; try omega)) []; refine hK _ _ ?_; clear hK K)
  refine aw_t (by (first | (simp; done) | (simp; omega))) (by kernel_rfl) ?_
  (refine aw_seq (aoo fun K hK => ?_); simp (disch := first | omega | (simp only [lnS]; try omega)) []; refine hK _ _ ?_; clear hK K)
  (refine aw_ret ?_; simp (disch := first | omega | (simp only [lnS]; try omega)) [thenQ_ret, scopeQ_ret, inBlockQ_ret, RQ, resL, resV])
  exact ⟨.inl ⟨rfl, rfl⟩, Low.refl (Nat.le_refl _)⟩
 | some a =>
  have ho0 : OwnK H.length (H ++ [some ⟨[], 28, some 32⟩]) (.slice (some ⟨H.length, 0, none⟩) 0 0) [] := .inr ⟨H.length, [], Nat.le_refl _, rfl, by rw [hget_app0]; rfl, List.prefix_rfl⟩
  obtain ⟨v7, G3, hap, ho3, hl3, hk3⟩ := ownK_append (nro := nro) (x := .slice (some a) ks.length c) (fun k hk => (by cases hk)) hk ho0 hnro (by simp) (fun s e => by cases e) (hx _ (fun j hj => hget_left hj)) (by simp; omega)
  have hnt7 := ho3.nt
  refine ac_of_aw Tryd.func42 rfl Tryd.ntmps42 Tryd.results42 (by simp) ?_
  (refine aw_seq (aoo fun K hK => ?_); simp (disch := first | omega | (simp only [lnS]; try omega)) []; refine hK _ _ ?_; clear hK K)
  refine aw_seq (aw_seq ?_)
  (refine aoo fun K hK => ?_; simp (disch := first | omega | (simp only [lnS]; try omega)) []; refine hK _ _ ?_; clear hK K)
  refine aw_f (by (first | (simp; done) | (simp; omega))) (by kernel_rfl) ?_
  refine aw_skip (aw_seq ?_)
  (refine aoo fun K hK => ?_; simp (disch := first | omega | (simp only [lnS]; try omega)) [-xappend, hap, hnt7.1, hnt7.2, -notTuple]; refine hK _ _ ?_; clear hK K)
  (refine aw_ret ?_; simp (disch := first | omega | (simp only [lnS]; try omega)) [thenQ_ret, scopeQ_ret, inBlockQ_ret, RQ, resL, resV, hnt7.1, hnt7.2])
  simp only [List.length_append, List.length_cons, List.length_nil] at hl3
  rw [List.nil_append] at ho3
  exact ⟨ho3, fun j hj => (hk3 j hj).trans (hget_left hj), by omega⟩
theorem open_ac {nro : Nat} {γ : Nat → Option Nat} {H : AH} {b : Nat} {F : List Nat} {T : List TermD} (h : Tbl H b F T) (hnH : nro ≤ H.length) {k y : List Int} (hk : k.length = 32) (hy : y.length = 32) {s : ByteArray} (hs1 : s.size ≤ 10000000) :
  AC Tryd.prog nro γ 19 #[.pointer (some ⟨b, 0, none⟩), .agg (iv .u8 k).toArray, .agg (iv .u8 y).toArray, .string s] H (OpenQ H T k y s) := by
 obtain ⟨mb, tv, Ft, Fk, L, rfl, hL, rfl, hFl⟩ := h
 have htk : (iv .u8 k).take 32 = iv .u8 k := List.take_of_length_le (by simp [hk])
 have hty : (iv .u8 y).take 32 = iv .u8 y := List.take_of_length_le (by simp [hy])
 have hs9 : s.size ≤ 9223372036854775807 := by omega
 by_cases h32 : s.size = 32
 case neg =>
  have hb32 : ((s.size : Int) == 32) = false := by rw [beq_eq_false_iff_ne]; omega
  have hi32 : ¬ (s.size : Int) = 32 := by omega
  have hop : openT (L.map (·.2)) k y s = none := by unfold openT; rw [if_neg h32]
  refine ac_of_aw Tryd.func19 rfl Tryd.ntmps19 Tryd.results19 (by simp) ?_
  (refine aw_seq (aoo fun K hK => ?_); simp (disch := first | omega | (simp only [lnS]; try omega)) [htk, hty]; refine hK _ _ ?_; clear hK K)
  refine aw_seq (aw_seq ?_)
  (refine aoo fun K hK => ?_; simp (disch := first | omega | (simp only [lnS]; try omega)) [hs9, hi32, hb32]; refine hK _ _ ?_; clear hK K)
  refine aw_t (by (first | (simp; done) | (simp; omega))) (by kernel_rfl) ?_
  (refine aw_seq (aoo fun K hK => ?_); simp (disch := first | omega | (simp only [lnS]; try omega)) []; refine hK _ _ ?_; clear hK K)
  (refine aw_ret ?_; simp (disch := first | omega | (simp only [lnS]; try omega)) [thenQ_ret, scopeQ_ret, inBlockQ_ret, RQ, resL, resV])
  exact ⟨Low.push (Nat.le_refl _) _, by rw [hop]⟩
 have hb32 : ((s.size : Int) == 32) = true := by rw [h32]; rfl
 have hi32 : (s.size : Int) = 32 := by rw [h32]; rfl
 have ln : (nums s).length = 32 := by rw [nums_len, h32]
 have htn : (iv .u8 (nums s)).take 32 = iv .u8 (nums s) := List.take_of_length_le (by simp [ln])
 have hf := fun (N : AH) => find_ac (nro := nro) (γ := γ) (hL.low (G := H ++ N) (fun j hj => hget_left (hFl j hj))) ln (nums_bd s)
 have hcase := findV_T L (nums s)
 have p1 : plain1 (.slice none 0 0) = true := rfl
 have r3 : List.range 3 = [0, 1, 2] := rfl
 generalize findV L (nums s) = fv at *
 rcases hcase with ⟨⟨kv, x⟩, hp, rfl, hft⟩ | ⟨rfl, hft⟩
 ·have hkn := hL.key_nt hp
  have hw : x.Wf := hL.wf _ hp
  obtain ⟨Fx, hox, hFx⟩ := hL.keys _ hp
  have hxl : ∀ j ∈ Fx, j < H.length := fun j hj => hFl j (by simp [hFx j hj])
  have h6k := hw.seal_
  have hmk := hw.many
  have hop : openT (L.map (·.2)) k y s = if x.kind = 6 ∧ k0 x = k ∧ k1 x = y then some (x.text, x.keys.drop 2) else none := by unfold openT; rw [if_pos h32, hft]
  unfold k0 k1 at hop
  unfold tmRow at *
  refine ac_of_aw Tryd.func19 rfl Tryd.ntmps19 Tryd.results19 (by simp) ?_
  (refine aw_seq (aoo fun K hK => ?_); simp (disch := first | omega | (simp only [lnS]; try omega)) [htk, hty]; refine hK _ _ ?_; clear hK K)
  refine aw_seq (aw_seq ?_)
  (refine aoo fun K hK => ?_; simp (disch := first | omega | (simp only [lnS]; try omega)) [hs9, hi32, hb32]; refine hK _ _ ?_; clear hK K)
  refine aw_f (by (first | (simp; done) | (simp; omega))) (by kernel_rfl) ?_
  refine aw_skip (aw_seq ?_)
  refine aoo fun K hK => ?_
  simp (disch := first | omega | (simp only [lnS]; try omega)) [h32, ln, htn]
  refine ⟨by kernel_rfl, AC.mono (hf _) ?_⟩
  rintro _ G ⟨rfl, lw⟩
  have hGl := lw.2
  rw [List.length_append] at lw hGl
  simp only [List.length_cons, List.length_nil] at lw hGl
  have gk : hget G H.length = some ⟨iv .u8 k, 28, none⟩ := (lw.1 _ (by omega)).trans (by rw [hget_app0]; rfl)
  have gy : hget G (H.length + 1) = some ⟨iv .u8 y, 28, none⟩ := (lw.1 _ (by omega)).trans (by rw [hget_app]; rfl)
  have lwH : Low H.length H G := ⟨fun j hj => (lw.1 j (by omega)).trans (hget_left hj), by omega⟩
  have hng : nro ≤ G.length := by omega
  try simp (disch := first | omega | (simp only [lnS]; try omega)) [p1, r3, hng, -notTuple, hkn.1, hkn.2]
  refine hK _ _ ?_; clear hK K
  obtain ⟨A, hA⟩ : ∃ A : AH, A = G ++ [some ⟨[.int .i64 (x.kind : Nat), .string x.text, kv], 67, none⟩] := ⟨_, rfl⟩
  have aG : hget A G.length = some ⟨[.int .i64 (x.kind : Nat), .string x.text, kv], 67, none⟩ := by rw [hA, hget_app0]; rfl
  have ak : hget A H.length = some ⟨iv .u8 k, 28, none⟩ := by rw [hA, hget_left (hget_lt gk)]; exact gk
  have ay : hget A (H.length + 1) = some ⟨iv .u8 y, 28, none⟩ := by rw [hA, hget_left (hget_lt gy)]; exact gy
  have aj : ∀ j, j < H.length → hget A j = hget H j := fun j hj => by rw [hA, hget_left (by omega)]; exact lwH.1 j hj
  have al : A.length = G.length + 1 := by rw [hA]; simp
  have lwA : Low H.length H A := ⟨aj, by omega⟩
  rw [← hA]
  clear hA
  have lA := hget_lt aG
  have la := hget_lt ak
  have lb := hget_lt ay
  have ldt : xload Tryd.prog 3 (.pointer (some ⟨G.length, 0, none⟩)) A = some (.int .i64 (x.kind : Nat)) := by simp [xload, aG]
  have lds : xload Tryd.prog 9 (.pointer (some ⟨G.length, 1, none⟩)) A = some (.string x.text) := by simp [xload, aG]
  have ldk : xload Tryd.prog 33 (.pointer (some ⟨G.length, 2, none⟩)) A = some kv := by simp [xload, aG]
  have ld1 : xload Tryd.prog 28 (.pointer (some ⟨H.length, 0, none⟩)) A = some (.agg (iv .u8 k).toArray) := by simp [xload, ak, hk, htk]
  have ld2 : xload Tryd.prog 28 (.pointer (some ⟨H.length + 1, 0, none⟩)) A = some (.agg (iv .u8 y).toArray) := by simp [xload, ay, hy, hty]
  refine aw_seq (aw_seq ?_)
  by_cases h6 : x.kind = 6
  case neg =>
   have b6 : ((x.kind : Int) == 6) = false := by rw [beq_eq_false_iff_ne]; omega
   have i6 : ¬ (x.kind : Int) = 6 := by omega
   rw [if_neg (fun e => h6 e.1)] at hop
   (refine aw_plan [] [] [0, 1, 2, 3, 4, 5, 6, 7, 8, 9, 10, 11, 12, 13, 14, 15, 16, 17, 18, 19, 20, 21, 22] 23 0 (by kernel_rfl) (by kernel_rfl) (by kernel_rfl) (fun K hK => ?_)); simp only [sel, List.getElem?_cons_succ, List.getElem?_cons_zero, List.drop_succ_cons, List.drop_zero]; simp (disch := first | omega | (simp only [lnS]; try omega)) [-xload, ldt, b6, i6, -notTuple, PL_nil, plainB_lit, PL_cons, PLc_val, PLc_new, stepP_t, stepP_f, stepPC_n, stepPC_s, stepPX_s, stepPX_n, stepPV_n, stepPV_s, stepPA_t, stepPA_c, stepPA_l, stepPN_s, allocOp, reloc_sl, reloc_ptr, List.map_cons, List.map_nil, List.nil_append, List.append_assoc, List.cons_append, Nat.add_assoc]
   refine hK _ _ ?_; clear hK K
   refine aw_t (by (first | (simp; done) | (simp; omega))) (by kernel_rfl) ?_
   (refine aw_seq (aoo fun K hK => ?_); simp (disch := first | omega | (simp only [lnS]; try omega)) []; refine hK _ _ ?_; clear hK K)
   (refine aw_ret ?_; simp (disch := first | omega | (simp only [lnS]; try omega)) [thenQ_ret, scopeQ_ret, inBlockQ_ret, RQ, resL, resV])
   exact ⟨lwA, by rw [hop]⟩
  have h2 := h6k h6
  have b6 : ((x.kind : Int) == 6) = true := by rw [h6]; rfl
  have i6 : (x.kind : Int) = 6 := by omega
  have hoA := hox.low (H' := A) (fun j hj => aj j (hxl j hj))
  have hKA : KsV A kv x.keys := kr_ksv hoA hw.k32
  have hacc := hKA.acc hw.k32
  obtain ⟨q0, y0, t1, t2, t3, t4, t5⟩ := hacc.at_ 0 (by omega)
  obtain ⟨q1, y1, u1, u2, u3, u4, u5⟩ := hacc.at_ 1 (by omega)
  have t2 : xindexAddr Tryd.prog 33 kv (.int .i64 0) = some q0 := t2
  have u2 : xindexAddr Tryd.prog 33 kv (.int .i64 1) = some q1 := u2
  have t5 := t5 A (Low.refl (Nat.le_refl _))
  have u5 := u5 A (Low.refl (Nat.le_refl _))
  subst t4 u4
  have z0 : (x.keys.getD 0 []).length = 32 := by
   rw [List.getD_eq_getElem?_getD, List.getElem?_eq_getElem (by omega)]
   exact hw.k32 _ (List.getElem_mem _)
  have z1 : (x.keys.getD 1 []).length = 32 := by
   rw [List.getD_eq_getElem?_getD, List.getElem?_eq_getElem (by omega)]
   exact hw.k32 _ (List.getElem_mem _)
  obtain ⟨sv, v1, v2, v3, v4, v5, _⟩ := suf_keys hoA hw.k32 h2
  have hdk : K32 (x.keys.drop 2) := fun z hz => hw.k32 z (List.mem_of_mem_drop hz)
  have hdm : (x.keys.drop 2).length ≤ 1000000 := by rw [List.length_drop]; omega
  have hsl := v1 A
  generalize x.keys.getD 0 [] = c0 at *
  generalize x.keys.getD 1 [] = c1 at *
  generalize x.keys.drop 2 = ds at *
  generalize x.kind = kd at *
  subst h6
  by_cases e0 : c0 = k
  case neg =>
   have c0b : (c0 == k) = false := by simpa using e0
   rw [if_neg (fun e => e0 e.2.1)] at hop
   (refine aw_plan [] [] [0, 1, 2, 3, 4, 5, 6, 7, 8, 9, 10, 11, 12, 13, 14, 15, 16, 17, 18, 19, 20, 21, 22] 23 0 (by kernel_rfl) (by kernel_rfl) (by kernel_rfl) (fun K hK => ?_)); simp only [sel, List.getElem?_cons_succ, List.getElem?_cons_zero, List.drop_succ_cons, List.drop_zero]; simp (disch := first | omega | (simp only [lnS]; try omega)) [-xload, ldt, ldk, ld1, t5, -xindexAddr, t1, t2, b6, i6, z0, hk, e0, c0b, -notTuple, hkn.1, PL_nil, plainB_lit, PL_cons, PLc_val, PLc_new, stepP_t, stepP_f, stepPC_n, stepPC_s, stepPX_s, stepPX_n, stepPV_n, stepPV_s, stepPA_t, stepPA_c, stepPA_l, stepPN_s, allocOp, reloc_sl, reloc_ptr, List.map_cons, List.map_nil, List.nil_append, List.append_assoc, List.cons_append, Nat.add_assoc]
   refine hK _ _ ?_; clear hK K
   refine aw_t (by (first | (simp; done) | (simp; omega))) (by kernel_rfl) ?_
   (refine aw_seq (aoo fun K hK => ?_); simp (disch := first | omega | (simp only [lnS]; try omega)) []; refine hK _ _ ?_; clear hK K)
   (refine aw_ret ?_; simp (disch := first | omega | (simp only [lnS]; try omega)) [thenQ_ret, scopeQ_ret, inBlockQ_ret, RQ, resL, resV])
   exact ⟨lwA, by rw [hop]⟩
  subst e0
  by_cases e1 : c1 = y
  case neg =>
   have c1b : (c1 == y) = false := by simpa using e1
   rw [if_neg (fun e => e1 e.2.2)] at hop
   (refine aw_plan [] [] [0, 1, 2, 3, 4, 5, 6, 7, 8, 9, 10, 11, 12, 13, 14, 15, 16, 17, 18, 19, 20, 21, 22] 23 0 (by kernel_rfl) (by kernel_rfl) (by kernel_rfl) (fun K hK => ?_)); simp only [sel, List.getElem?_cons_succ, List.getElem?_cons_zero, List.drop_succ_cons, List.drop_zero]; simp (disch := first | omega | (simp only [lnS]; try omega)) [-xload, ldt, ldk, ld1, ld2, t5, u5, -xindexAddr, t1, t2, u1, u2, b6, i6, z0, z1, hk, hy, e1, c1b, -notTuple, hkn.1, PL_nil, plainB_lit, PL_cons, PLc_val, PLc_new, stepP_t, stepP_f, stepPC_n, stepPC_s, stepPX_s, stepPX_n, stepPV_n, stepPV_s, stepPA_t, stepPA_c, stepPA_l, stepPN_s, allocOp, reloc_sl, reloc_ptr, List.map_cons, List.map_nil, List.nil_append, List.append_assoc, List.cons_append, Nat.add_assoc]
   refine hK _ _ ?_; clear hK K
   refine aw_t (by (first | (simp; done) | (simp; omega))) (by kernel_rfl) ?_
   (refine aw_seq (aoo fun K hK => ?_); simp (disch := first | omega | (simp only [lnS]; try omega)) []; refine hK _ _ ?_; clear hK K)
   (refine aw_ret ?_; simp (disch := first | omega | (simp only [lnS]; try omega)) [thenQ_ret, scopeQ_ret, inBlockQ_ret, RQ, resL, resV])
   exact ⟨lwA, by rw [hop]⟩
  subst e1
  rw [if_pos ⟨rfl, rfl, rfl⟩] at hop
  (refine aw_plan [] [] [0, 1, 2, 3, 4, 5, 6, 7, 8, 9, 10, 11, 12, 13, 14, 15, 16, 17, 18, 19, 20, 21, 22] 23 0 (by kernel_rfl) (by kernel_rfl) (by kernel_rfl) (fun K hK => ?_)); simp only [sel, List.getElem?_cons_succ, List.getElem?_cons_zero, List.drop_succ_cons, List.drop_zero]; simp (disch := first | omega | (simp only [lnS]; try omega)) [-xload, ldt, ldk, ld1, ld2, t5, u5, -xindexAddr, t1, t2, u1, u2, b6, i6, z0, z1, hk, hy, -notTuple, hkn.1, PL_nil, plainB_lit, PL_cons, PLc_val, PLc_new, stepP_t, stepP_f, stepPC_n, stepPC_s, stepPX_s, stepPX_n, stepPV_n, stepPV_s, stepPA_t, stepPA_c, stepPA_l, stepPN_s, allocOp, reloc_sl, reloc_ptr, List.map_cons, List.map_nil, List.nil_append, List.append_assoc, List.cons_append, Nat.add_assoc]
  refine hK _ _ ?_; clear hK K
  refine aw_f (by (first | (simp; done) | (simp; omega))) (by kernel_rfl) ?_
  refine aw_skip (aw_seq ?_)
  obtain ⟨gl, hgl⟩ : ∃ gl, gl = G.length := ⟨_, rfl⟩
  rw [← hgl] at aG lA
  refine name_aw (fun β hβ => ?_)
  have e11 : β 11 = .pointer (some ⟨gl, 0, none⟩) := by rw [hβ, hgl]; (first | (simp; done) | rfl)
  clear hβ
  have hND : opJD.Nodup := by decide
  have hST : ∀ (G1 G2 : AH) (i : Nat) (v : Value), G1.length ≤ G2.length → (∀ j, j < G1.length → hget G2 j = hget G1 j) → opJV gl A.length x.text kv sv ds G1 i v → opJV gl A.length x.text kv sv ds G2 i v := fun G1 G2 i v h1 h2 h => by
   unfold opJV at h ⊢
   split at h <;> first | exact h | exact h.low (fun j _ hj => h2 j hj)
  generalize x.text = st at *
  refine aw_inv opJP (IJ opJD (opJV gl A.length st kv sv ds) β A) (by kernel_rfl) (by kernel_rfl) (by kernel_rfl) (IJ.start rfl) ?_ ?_
  ·intro i s α G k hJ hi0 hsi hd hc hcont
   have j11 := (hJ.lo 11 (by decide)).trans e11
   have gA := (hJ.lw.2 gl lA).trans aG
   have lgA := hget_lt gA
   have hi : i = 0 ∨ i = 1 ∨ i = 2 ∨ i = 3 ∨ i = 4 ∨ i = 5 ∨ i = 6 ∨ i = 7 ∨ i = 8 := by have hi0 : i < 9 := hi0; omega
   rcases hi with rfl | rfl | rfl | rfl | rfl | rfl | rfl | rfl | rfl
   ·simp (disch := first | omega | (simp only [lnS]; try omega)) [-notTuple, hkn.1, j11]
    exact hcont _ _ (hJ.put hND hST rfl (Nat.le_refl _) (fun _ _ => rfl) rfl)
   ·have f0 : α 48 = .pointer (some ⟨gl, 1, none⟩) := hJ.val 0 48 rfl (hd 0 (by decide))
    simp (disch := first | omega | (simp only [lnS]; try omega)) [-notTuple, hkn.1, gA, lgA, f0]
    exact hcont _ _ (hJ.put hND hST rfl (Nat.le_refl _) (fun _ _ => rfl) rfl)
   ·simp (disch := first | omega | (simp only [lnS]; try omega)) [-notTuple, hkn.1, j11]
    exact hcont _ _ (hJ.put hND hST rfl (Nat.le_refl _) (fun _ _ => rfl) rfl)
   ·have f2 : α 50 = .pointer (some ⟨gl, 2, none⟩) := hJ.val 2 50 rfl (hd 2 (by decide))
    simp (disch := first | omega | (simp only [lnS]; try omega)) [-notTuple, hkn.1, gA, lgA, f2]
    exact hcont _ _ (hJ.put hND hST rfl (Nat.le_refl _) (fun _ _ => rfl) rfl)
   ·have f3 : α 51 = kv := hJ.val 3 51 rfl (hd 3 (by decide))
    simp (disch := first | omega | (simp only [lnS]; try omega)) [-notTuple, hkn.1, -xslice, v1 G, v2, f3]
    exact hcont _ _ (hJ.put hND hST rfl (Nat.le_refl _) (fun _ _ => rfl) rfl)
   ·have f4 : α 52 = sv := hJ.val 4 52 rfl (hd 4 (by decide))
    simp (disch := first | omega | (simp only [lnS]; try omega)) [f4]
    refine ⟨by kernel_rfl, (cloneP_ac (nro := nro) (γ := γ) (v5.keep hJ.lw.1 hJ.lw.2) hdk hdm (by have := hJ.lw.1; omega)).mono ?_⟩
    rintro v' G' ⟨ho, lw⟩
    exact hcont _ _ (hJ.put hND hST rfl lw.2 lw.1 (ho.less hJ.lw.1))
   ·have f1 : α 49 = .string st := hJ.val 1 49 rfl (hd 1 (by decide))
    simp (disch := first | omega | (simp only [lnS]; try omega)) [-notTuple, hkn.1, f1]
    exact hcont _ _ (hJ.put hND hST rfl (Nat.le_refl _) (fun _ _ => rfl) rfl)
   ·have f5 := hJ.val 5 53 rfl (hd 5 (by decide))
    obtain ⟨n1, n2⟩ := OwnK.nt f5
    simp (disch := first | omega | (simp only [lnS]; try omega)) []
    exact hcont _ _ (hJ.put hND hST rfl (Nat.le_refl _) (fun _ _ => rfl) f5)
   ·simp (disch := first | omega | (simp only [lnS]; try omega)) [-notTuple, hkn.1]
    exact hcont _ _ (hJ.put hND hST rfl (Nat.le_refl _) (fun _ _ => rfl) rfl)
  ·rintro s' α' B hJ hall
   have hsz : s'.size = 9 := hJ.sz
   have hg : ∀ i, i < 9 → s'.getD i false = true := fun i hi => by
    rw [Array.getD_eq_getD_getElem?, Array.getElem?_eq_getElem (by omega)]
    exact Array.all_eq_true.1 hall i (by omega)
   have e8 : α' 8 = .string st := hJ.val 6 8 rfl (hg 6 (by omega))
   have e9 : OwnK A.length B (α' 9) ds := hJ.val 7 9 rfl (hg 7 (by omega))
   have e10 : α' 10 = .bool true := hJ.val 8 10 rfl (hg 8 (by omega))
   obtain ⟨v9, h9⟩ : ∃ v9, α' 9 = v9 := ⟨_, rfl⟩
   rw [h9] at e9
   have hn9 := e9.nt
   (refine aw_ret ?_; simp (disch := first | omega | (simp only [lnS]; try omega)) [thenQ_ret, scopeQ_ret, inBlockQ_ret, RQ, resL, resV, e8, h9, e10, -notTuple, hn9.1, hn9.2])
   refine ⟨⟨fun j hj => (hJ.lw.2 j (by omega)).trans (aj j hj), by have := hJ.lw.1; omega⟩, ?_⟩
   rw [hop]
   exact ⟨v9, rfl, e9.less (by omega)⟩
 ·unfold zkey at *
  refine ac_of_aw Tryd.func19 rfl Tryd.ntmps19 Tryd.results19 (by simp) ?_
  (refine aw_seq (aoo fun K hK => ?_); simp (disch := first | omega | (simp only [lnS]; try omega)) [htk, hty]; refine hK _ _ ?_; clear hK K)
  refine aw_seq (aw_seq ?_)
  (refine aoo fun K hK => ?_; simp (disch := first | omega | (simp only [lnS]; try omega)) [hs9, hi32, hb32]; refine hK _ _ ?_; clear hK K)
  refine aw_f (by (first | (simp; done) | (simp; omega))) (by kernel_rfl) ?_
  refine aw_skip (aw_seq ?_)
  refine aoo fun K hK => ?_
  simp (disch := first | omega | (simp only [lnS]; try omega)) [h32, ln, htn]
  refine ⟨by kernel_rfl, AC.mono (hf _) ?_⟩
  rintro _ G ⟨rfl, lw⟩
  have hGl := lw.2
  rw [List.length_append] at lw hGl
  simp only [List.length_cons, List.length_nil] at lw hGl
  have gk : hget G H.length = some ⟨iv .u8 k, 28, none⟩ := (lw.1 _ (by omega)).trans (by rw [hget_app0]; rfl)
  have gy : hget G (H.length + 1) = some ⟨iv .u8 y, 28, none⟩ := (lw.1 _ (by omega)).trans (by rw [hget_app]; rfl)
  have lwH : Low H.length H G := ⟨fun j hj => (lw.1 j (by omega)).trans (hget_left hj), by omega⟩
  have hng : nro ≤ G.length := by omega
  try simp (disch := first | omega | (simp only [lnS]; try omega)) [p1, r3, hng]
  refine hK _ _ ?_; clear hK K
  refine aw_seq (aw_seq ?_)
  (refine aw_plan [] [] [0, 1, 2, 3, 4, 5, 6, 7, 8, 9, 10, 11, 12, 13, 14, 15, 16, 17, 18, 19, 20, 21, 22] 23 0 (by kernel_rfl) (by kernel_rfl) (by kernel_rfl) (fun K hK => ?_)); simp only [sel, List.getElem?_cons_succ, List.getElem?_cons_zero, List.drop_succ_cons, List.drop_zero]; simp (disch := first | omega | (simp only [lnS]; try omega)) [PL_nil, plainB_lit, PL_cons, PLc_val, PLc_new, stepP_t, stepP_f, stepPC_n, stepPC_s, stepPX_s, stepPX_n, stepPV_n, stepPV_s, stepPA_t, stepPA_c, stepPA_l, stepPN_s, allocOp, reloc_sl, reloc_ptr, List.map_cons, List.map_nil, List.nil_append, List.append_assoc, List.cons_append, Nat.add_assoc]
  refine hK _ _ ?_; clear hK K
  refine aw_t (by (first | (simp; done) | (simp; omega))) (by kernel_rfl) ?_
  (refine aw_seq (aoo fun K hK => ?_); simp (disch := first | omega | (simp only [lnS]; try omega)) []; refine hK _ _ ?_; clear hK K)
  (refine aw_ret ?_; simp (disch := first | omega | (simp only [lnS]; try omega)) [thenQ_ret, scopeQ_ret, inBlockQ_ret, RQ, resL, resV])
  have hop : openT (L.map (·.2)) k y s = none := by unfold openT; rw [if_pos h32, hft]
  exact ⟨⟨fun j hj => (hget_left (by omega)).trans (lwH.1 j hj), by simp; omega⟩, by rw [hop]⟩
end
section
theorem key_rc {γ : Nat → Option Nat} {H : AH} {N : List Int} (hN : N.length = 32) (hb : By N) : AC Tryd.prog H.length γ 17 #[.string (strOfNums N)] H (fun v' _ => v' = .tuple #[.agg (iv .u8 N).toArray, .bool true]) := by
 have hsz : (strOfNums N).size = 32 := by rw [sn_size, hN]
 have hb32 : (((strOfNums N).size : Int) == 32) = true := by rw [hsz]; rfl
 have hi32 : ((strOfNums N).size : Int) = 32 := by rw [hsz]; rfl
 have hs9 : (strOfNums N).size ≤ 9223372036854775807 := by omega
 have hgb := fun i => gb_sn hb i
 have htN : (iv .u8 N).take 32 = iv .u8 N := List.take_of_length_le (by simp [hN])
 have hsN : setR (iv .u8 (zl 32)) 0 (iv .u8 N) = iv .u8 N := setR_all _ _ (by simp [hN])
 generalize strOfNums N = s at *
 refine ac_of_aw Tryd.func17 rfl Tryd.ntmps17 Tryd.results17 (by simp) ?_
 (refine aw_seq (aoo fun K hK => ?_); simp (disch := first | omega | (simp only [lnS]; try omega)) []; refine hK _ _ ?_; clear hK K)
 (refine aw_seq (aoo fun K hK => ?_); simp (disch := first | omega | (simp only [lnS]; try omega)) []; refine hK _ _ ?_; clear hK K)
 refine aw_seq (aw_seq ?_)
 (refine aoo fun K hK => ?_; simp (disch := first | omega | (simp only [lnS]; try omega)) [hs9, hb32, hi32]; refine hK _ _ ?_; clear hK K)
 refine aw_f (by (first | (simp; done) | (simp; omega))) (by kernel_rfl) ?_
 refine aw_skip ?_
 refine aw_seq (aw_seq ?_)
 (refine aoo fun K hK => ?_; simp (disch := first | omega | (simp only [lnS]; try omega)) []; refine hK _ _ ?_; clear hK K)
 refine aw_block ?_
 refine aw_loop (fun q α G => ∃ i : Nat, i + q = 32 ∧ α 0 = .string s ∧ α 2 = .pointer (some ⟨H.length, 0, none⟩) ∧ α 4 = .pointer (some ⟨H.length + 1, 0, none⟩) ∧ α 5 = .int .i64 (i : Nat) ∧ G = H ++ [some ⟨iv .u8 (zl 32), 28, none⟩, some ⟨iv .u8 (N.take i ++ zl (32 - i)), 28, none⟩]) 32 ?_ ?_
 ·exact ⟨0, by omega, by (first | (simp; done) | rfl), by (first | (simp; done) | rfl), by (first | (simp; done) | rfl), by (first | (simp; done) | rfl), rfl⟩
 rintro q α G ⟨i, hiq, h0, h2, h4, h5, rfl⟩
 refine aw_seq (aw_seq ?_)
 by_cases hi : i < 32
 ·have hnx := set_next N 32 i hN hi
  have hfl := fill_len N 32 i hN (by omega)
  have hg := hgb i
  generalize N.getD i 0 = z at *
  have hset : (iv .u8 (N.take i ++ zl (32 - i))).set i (.int .u8 z) = iv .u8 (N.take (i + 1) ++ zl (32 - (i + 1))) := by rw [← hnx]; simp [iv]
  generalize N.take i ++ zl (32 - i) = A at *
  have hsi : (i : Int) < s.size := by omega
  (refine aoo fun K hK => ?_; simp (disch := first | omega | (simp only [lnS]; try omega)) [h5, hi]; refine hK _ _ ?_; clear hK K)
  refine aw_t (by (first | (simp [hi]; done) | (simp [hi]; omega))) (by kernel_rfl) ?_
  refine aw_skip (aw_seq ?_)
  refine aw_block ?_
  (refine aoo fun K hK => ?_; simp (disch := first | omega | (simp only [lnS]; try omega)) [h0, h4, h5, hsz, hsi, hi, hg, hfl, hset]; refine hK _ _ ?_; clear hK K)
  (refine aoo fun K hK => ?_; simp (disch := first | omega | (simp only [lnS]; try omega)) [h5]; refine hK _ _ ?_; clear hK K)
  exact ⟨q - 1, by omega, i + 1, by omega, by (first | (simp [h0]; done) | rfl), by (first | (simp [h2]; done) | rfl), by (first | (simp [h4]; done) | rfl), by (first | (simp; done) | rfl), by rw [show 32 - (i + 1) = 31 - i by omega]⟩
 ·obtain rfl : i = 32 := by omega
  have e : N.take 32 ++ zl (32 - 32) = N := by
   rw [List.take_of_length_le (by omega)]
   simp [zl]
  rw [e]
  (refine aoo fun K hK => ?_; simp (disch := first | omega | (simp only [lnS]; try omega)) [h5]; refine hK _ _ ?_; clear hK K)
  refine aw_f (by (first | (simp; done) | (simp; omega))) (by kernel_rfl) ?_
  refine aw_exit (aw_seq ?_)
  (refine aoo fun K hK => ?_; simp (disch := first | omega | (simp only [lnS]; try omega)) [h2, h4, htN, hsN, hN]; refine hK _ _ ?_; clear hK K)
  (refine aw_ret ?_; simp (disch := first | omega | (simp only [lnS]; try omega)) [thenQ_ret, scopeQ_ret, inBlockQ_ret, RQ, resL, resV, h2, htN, hN])
end
section
theorem place_none {x : TermD} {T : List TermD} (hx : x.Wf) (hT : ∀ y ∈ T, y.Wf) (h : x ∉ T) : placeT x T = none := by
 cases hp : placeT x T with
 | none => rfl
 | some i => exact absurd (List.mem_of_getElem? (place_some hx hT hp)) h
theorem add_new {x : TermD} {T : List TermD} (hx : x.Wf) (hT : ∀ y ∈ T, y.Wf) (h : x ∉ T) : addT x T = T ++ [x] ∧ nameT x T = T.length := by
 have := place_none hx hT h
 exact ⟨by unfold addT; rw [this], by unfold nameT; rw [this]⟩
theorem TermQ.keep {H G : AH} {b : Nat} {F : List Nat} {T : List TermD} {x : TermD} {v : Value} (h : TermQ H b F T x v G) : v = .agg (iv .u8 (nmL (nameT x T))).toArray ∧ H.length ≤ G.length ∧ ∃ F', Tbl G b F' (addT x T) ∧ (∀ j, j < H.length → j ∉ F → hget G j = hget H j ∧ j ∉ F') ∧ ∀ j ∈ F', j ∈ F ∨ H.length ≤ j := by
 obtain ⟨h0, h1, h2, F', h3, h4⟩ := h
 exact ⟨h0, h1, F', h3, fun j hj hn => ⟨h2 j hj hn, fun hm => by rcases h4 j hm with e | e; exact hn e; omega⟩, h4⟩
def aK : TermD := ⟨1, ⟨#[107]⟩, []⟩
def aX : TermD := ⟨1, ⟨#[120]⟩, []⟩
def aB : TermD := ⟨6, ⟨#[116, 101, 120, 116]⟩, [nmL (0 : Nat), zl 32, nmL (1 : Nat)]⟩
theorem wf_atom {s : ByteArray} (hs : s.size ≤ 100000000) : TermD.Wf ⟨1, s, []⟩ := wf_0 (.inl rfl) hs
theorem aK_wf : aK.Wf := wf_atom (by show 1 ≤ _; omega)
theorem aX_wf : aX.Wf := wf_atom (by show 1 ≤ _; omega)
theorem zl_by32 : By (zl 32) := fun x hx => by
 rw [List.eq_of_mem_replicate hx]; omega
theorem aB_wf : aB.Wf := wf_seal (by show 4 ≤ _; omega) rfl (nmL_by _) rfl zl_by32 (fun z hz => by rw [List.mem_singleton.1 hz]; exact ⟨rfl, nmL_by _⟩) (by simp)
theorem aKX : aX ∉ [aK] := by
 intro h
 have := congrArg TermD.text (List.mem_singleton.1 h)
 exact absurd this (by decide)
theorem aBn : aB ∉ [aK, aX] := by
 intro h
 rcases List.mem_cons.1 h with h | h
 ·have := congrArg TermD.kind h
  exact absurd this (by decide)
 ·have := congrArg TermD.kind (List.mem_singleton.1 h)
  exact absurd this (by decide)
theorem ad1 : addT aK [] = [aK] ∧ nameT aK [] = 0 := add_new aK_wf (by simp) (by simp)
theorem ad2 : addT aX [aK] = [aK, aX] ∧ nameT aX [aK] = 1 := add_new aX_wf (by simp [aK_wf]) aKX
theorem ad3 : addT aB [aK, aX] = [aK, aX, aB] ∧ nameT aB [aK, aX] = 2 := add_new aB_wf (fun y hy => by
 rcases List.mem_cons.1 hy with rfl | hy
 ·exact aK_wf
 ·rw [List.mem_singleton.1 hy]; exact aX_wf) aBn
theorem find2 : findT [aK, aX, aB] (nmL ((2 : Nat) : Int)) = some aB := by rfl
def FolV (n : Nat) (kn : List Bool) (G : AH) (v : Value) : Prop := ∃ kx kb, v = .func (.func 37) #[] #[.pointer (some ⟨kx, 0, none⟩)] ∧ hget G kx = some ⟨[.slice (some ⟨kb, 0, none⟩) n n], 75, none⟩ ∧ hget G kb = some ⟨bsC kn, 4, some 1⟩
theorem FolV.low {n : Nat} {kn : List Bool} {G1 G2 : AH} {v : Value} (h : FolV n kn G1 v) (hl : ∀ j, j < G1.length → hget G2 j = hget G1 j) : FolV n kn G2 v := by
 obtain ⟨kx, kb, e, h3, h4⟩ := h
 exact ⟨kx, kb, e, (hl kx (hget_lt h3)).trans h3, (hl kb (hget_lt h4)).trans h4⟩
theorem row_low {G1 G2 : AH} {v : Value} {n : Nat} {B : Blk} (h : ∃ rr, v = .slice (some ⟨rr, 0, none⟩) n n ∧ hget G1 rr = some B) (hl : ∀ j, j < G1.length → hget G2 j = hget G1 j) : ∃ rr, v = .slice (some ⟨rr, 0, none⟩) n n ∧ hget G2 rr = some B := by
 obtain ⟨rr, e, h3⟩ := h
 exact ⟨rr, e, (hl rr (hget_lt h3)).trans h3⟩
theorem tlenT_rc {γ : Nat → Option Nat} {H : AH} {b : Nat} {F : List Nat} {T : List TermD} (h : Tbl H b F T) : AC Tryd.prog H.length γ 12 #[.pointer (some ⟨b, 0, none⟩)] H (fun v' _ => v' = .int .i64 (T.length : Nat)) := by
 obtain ⟨mb, tv, Ft, Fk, L, rfl, hL, rfl, hFl⟩ := h
 obtain ⟨hl, hnt, hcs⟩ := hL.tvlen
 rw [List.length_map]
 exact tlen_rc hL.hb hl hnt hcs
theorem aT_wf : TWf [aK, aX, aB] := ⟨fun y hy => by
 simp only [List.mem_cons, List.not_mem_nil, or_false] at hy
 rcases hy with rfl | rfl | rfl
 ·exact aK_wf
 ·exact aX_wf
 ·exact aB_wf, by simp, fun y hy h4 => by
 simp only [List.mem_cons, List.not_mem_nil, or_false] at hy
 rcases hy with rfl | rfl | rfl <;> exact absurd h4 (by decide)⟩
theorem al29 : fol (folL [aK, aX, aB] [nmL ((2 : Nat) : Int), nmL ((0 : Nat) : Int)]) (nmL ((1 : Nat) : Int)) = true := by decide +kernel
theorem al37 : fol (folL [aK, aX, aB] [nmL ((2 : Nat) : Int)]) (nmL ((1 : Nat) : Int)) = false := by decide +kernel
def alJD : List Nat := [35, 36, 37, 38, 39, 40, 41, 42, 43, 44, 45, 46, 47, 48, 49, 50, 51, 52, 53, 54, 55, 56, 57, 58, 59, 60, 61, 62, 63, 64, 65, 66, 67, 68, 69, 70, 71, 72, 73, 74, 75, 76, 77, 78, 79, 0]
def alJP : List (List Nat) := [[], [0], [1], [1, 2], [1, 3], [4], [5], [5, 6], [5, 7], [5, 8], [9], [10], [10, 11], [10, 12], [10], [10, 13, 14], [10, 15], [16], [17], [17], [17, 18, 19], [17, 20], [21], [22], [22], [22], [22, 24, 25], [22, 23, 26], [22], [22, 27, 28], [22, 29], [30], [31], [31], [31, 33], [31, 32, 34], [31], [31, 35, 36], [31, 37], [31, 38], [39], [40], [40, 41], [40, 42], [40, 43], [44]]
def alJV (b : Nat) (kv q0 : Value) (N0 N1 N2 : List Int) (G : AH) (i : Nat) (v : Value) : Prop := match i with
 | 0 => v = .bool true
 | 1 => v = .bool true
 | 2 => v = .string ⟨#[116, 101, 120, 116]⟩
 | 3 => v = .bool true
 | 4 => v = .bool true
 | 5 => v = .bool true
 | 6 => v = kv
 | 7 => v = .int .i64 1
 | 8 => v = .bool true
 | 9 => v = .bool true
 | 10 => v = .bool true
 | 11 => v = kv
 | 12 => v = q0
 | 13 => v = .agg (iv .u8 N1).toArray
 | 14 => v = .agg (iv .u8 N1).toArray
 | 15 => v = .bool true
 | 16 => v = .bool true
 | 17 => v = .bool true
 | 18 => v = .agg (iv .u8 N0).toArray
 | 19 => v = .agg (iv .u8 N1).toArray
 | 20 => v = .bool true
 | 21 => v = .bool true
 | 22 => v = .bool true
 | 23 => v = .pointer (some ⟨b, 0, none⟩)
 | 24 => v = .agg (iv .u8 N2).toArray
 | 25 => v = .agg (iv .u8 N0).toArray
 | 26 => ∃ rr, v = .slice (some ⟨rr, 0, none⟩) 2 2 ∧ hget G rr = some ⟨iv .u8 N2 ++ iv .u8 N0, 28, some 32⟩
 | 27 => FolV 3 (folL [aK, aX, aB] [N2, N0]) G v
 | 28 => v = .agg (iv .u8 N1).toArray
 | 29 => v = .bool true
 | 30 => v = .bool true
 | 31 => v = .bool true
 | 32 => v = .pointer (some ⟨b, 0, none⟩)
 | 33 => v = .agg (iv .u8 N2).toArray
 | 34 => ∃ rr, v = .slice (some ⟨rr, 0, none⟩) 1 1 ∧ hget G rr = some ⟨iv .u8 N2, 28, some 32⟩
 | 35 => FolV 3 (folL [aK, aX, aB] [N2]) G v
 | 36 => v = .agg (iv .u8 N1).toArray
 | 37 => v = .bool false
 | 38 => v = .bool true
 | 39 => v = .bool true
 | 40 => v = .bool true
 | 41 => v = .pointer (some ⟨b, 0, none⟩)
 | 42 => v = .int .i64 3
 | 43 => v = .bool true
 | 44 => v = .bool true
 | 45 => v = .bool true
 | _ => True
theorem alive_rc {γ : Nat → Option Nat} {H : AH} (hpw : Pw γ H) : AC Tryd.prog H.length γ 7 #[] H (fun v' _ => v' = .bool true) := by
 refine ac_of_aw Tryd.func7 rfl Tryd.ntmps7 Tryd.results7 (by simp) ?_
 (refine aw_seq (aoo fun K hK => ?_); simp (disch := first | omega | (simp only [lnS]; try omega)) [-getElem?_pos, -getElem?_neg]; refine hK _ _ ?_; clear hK K)
 refine aw_seq (aoo fun K hK => ?_)
 simp (disch := first | omega | (simp only [lnS]; try omega)) [-getElem?_pos, -getElem?_neg]
 refine ⟨by kernel_rfl, AC.mono (tnew_ac (Nat.le_refl _)) ?_⟩
 rintro _ G1 ⟨rfl, lw1, hL1⟩
 have hl1 : H.length + 1 < G1.length := hget_lt hL1.hb
 have t1 : Tbl G1 (H.length + 1) [H.length + 1, H.length] [] := ⟨H.length, .slice none 0 0, [], [], [], rfl, hL1, rfl, fun j hj => by simp only [List.mem_cons, List.not_mem_nil, or_false] at hj; omega⟩
 obtain ⟨b, hb⟩ : ∃ b, b = H.length + 1 := ⟨_, rfl⟩
 rw [← hb] at t1
 obtain ⟨F1, hF1⟩ : ∃ F1, F1 = [b, H.length] := ⟨_, rfl⟩
 rw [← hF1] at t1
 have n1 : ∀ j ∈ F1, H.length ≤ j := fun j hj => by rw [hF1] at hj; simp only [List.mem_cons, List.not_mem_nil, or_false] at hj; omega
 clear hF1 hL1
 rw [← hb]
 try simp (disch := first | omega | (simp only [lnS]; try omega)) [-getElem?_pos, -getElem?_neg]
 refine hK _ _ ?_; clear hK K
 have d1 := draw_ac (nro := H.length) (hpw.low lw1) t1 n1 lw1.2 (s := ⟨#[107]⟩) (by show 1 ≤ _; omega) (by simp)
 refine aw_seq (aoo fun K hK => ?_)
 simp (disch := first | omega | (simp only [lnS]; try omega)) [-getElem?_pos, -getElem?_neg]
 refine ⟨by kernel_rfl, AC.mono d1 ?_⟩
 intro v2 G2 q2
 obtain ⟨rfl, hl2, F2, t2, k2, m2⟩ := q2.keep
 have e2 : addT ⟨1, ⟨#[107]⟩, []⟩ [] = [aK] := ad1.1
 have e2n : nameT ⟨1, ⟨#[107]⟩, []⟩ [] = 0 := ad1.2
 rw [e2] at t2
 rw [e2n]
 obtain ⟨N0, hN0⟩ : ∃ N0 : List Int, N0 = nmL ((0 : Nat) : Int) := ⟨_, rfl⟩
 rw [← hN0]
 have lw2 : Low H.length H G2 := ⟨fun j hj => ((k2 j (by have := lw1.2; omega) (fun e => by have := n1 j e; omega)).1).trans (lw1.1 j hj), by have := lw1.2; omega⟩
 have n2 : ∀ j ∈ F2, H.length ≤ j := fun j hj => (m2 j hj).elim (n1 j) (fun e => by have := lw1.2; omega)
 have d2 := draw_ac (nro := H.length) (hpw.low lw2) t2 n2 lw2.2 (s := ⟨#[120]⟩) (by show 1 ≤ _; omega) (by simp)
 try simp (disch := first | omega | (simp only [lnS]; try omega)) [-getElem?_pos, -getElem?_neg]
 refine ⟨by kernel_rfl, AC.mono d2 ?_⟩
 intro v3 G3 q3
 obtain ⟨rfl, hl3, F3, t3, k3, m3⟩ := q3.keep
 have e3 : addT ⟨1, ⟨#[120]⟩, []⟩ [aK] = [aK, aX] := ad2.1
 have e3n : nameT ⟨1, ⟨#[120]⟩, []⟩ [aK] = 1 := ad2.2
 rw [e3] at t3
 rw [e3n]
 obtain ⟨N1, hN1⟩ : ∃ N1 : List Int, N1 = nmL ((1 : Nat) : Int) := ⟨_, rfl⟩
 rw [← hN1]
 have lw3 : Low H.length H G3 := ⟨fun j hj => ((k3 j (by have := lw2.2; omega) (fun e => by have := n2 j e; omega)).1).trans (lw2.1 j hj), by have := lw2.2; omega⟩
 have n3 : ∀ j ∈ F3, H.length ≤ j := fun j hj => (m3 j hj).elim (n2 j) (fun e => by have := lw2.2; omega)
 clear q2 q3 k2 k3 m2 m3 t1 t2 d1 d2 lw1 lw2 n1 n2
 have l0 : N0.length = 32 := by rw [hN0]; rfl
 have l1 : N1.length = 32 := by rw [hN1]; rfl
 have b0 : By N0 := by rw [hN0]; exact nmL_by _
 have b1 : By N1 := by rw [hN1]; exact nmL_by _
 have T0 : (iv .u8 N0).take 32 = iv .u8 N0 := List.take_of_length_le (by simp [l0])
 have T1 : (iv .u8 N1).take 32 = iv .u8 N1 := List.take_of_length_le (by simp [l1])
 have S0 : setR (iv .u8 (zl 32)) 0 (iv .u8 N0) = iv .u8 N0 := setR_all _ _ (by simp [l0])
 have S1 : setR (iv .u8 (zl 32)) 0 (iv .u8 N1) = iv .u8 N1 := setR_all _ _ (by simp [l1])
 have hng3 := lw3.2
 try simp (disch := first | omega | (simp only [lnS]; try omega)) [-getElem?_pos, -getElem?_neg, l0, l1, T0, T1, S0, S1, hng3]
 refine hK _ _ ?_; clear hK K
 obtain ⟨G4, hG4⟩ : ∃ G4 : AH, G4 = G3 ++ [some ⟨iv .u8 N0, 28, none⟩, some ⟨iv .u8 N1, 28, none⟩] := ⟨_, rfl⟩
 have lw34 : Low G3.length G3 G4 := by rw [hG4]; exact ⟨fun j hj => hget_left hj, by simp⟩
 have g40 : hget G4 G3.length = some ⟨iv .u8 N0, 28, none⟩ := by rw [hG4, hget_app0]; rfl
 have g41 : hget G4 (G3.length + 1) = some ⟨iv .u8 N1, 28, none⟩ := by rw [hG4, hget_app]; rfl
 rw [← hG4]
 clear hG4
 have t4 : Tbl G4 b F3 [aK, aX] := t3.low (fun j hj => lw34.1 j (t3.bound j hj)) lw34.2
 have c40 : G3.length ∉ F3 := fun e => by have := t3.bound _ e; omega
 have c41 : G3.length + 1 ∉ F3 := fun e => by have := t3.bound _ e; omega
 have lw4 : Low H.length H G4 := ⟨fun j hj => (lw34.1 j (by omega)).trans (lw3.1 j hj), by have := lw34.2; omega⟩
 obtain ⟨p, hp⟩ : ∃ p, p = G3.length := ⟨_, rfl⟩
 rw [← hp] at g40 g41 c40 c41 ⊢
 have hpl : H.length ≤ p := by omega
 clear t3 lw3 lw34 hng3 hp
 have lg0 := hget_lt g40
 have lg1 := hget_lt g41
 have hsr1 : setR (List.map (fun j => (iv .u8 (zl 32))[j % 32]?.getD undef) (List.range 32)) 0 (iv .u8 N1) = iv .u8 N1 := setR_all _ _ (by simp [l1])
 obtain ⟨R5, hR5⟩ : ∃ R5 : Option Blk, R5 = some ⟨iv .u8 N1, 28, some 32⟩ := ⟨_, rfl⟩
 have d5 := seal_ac (nro := H.length) (γ := γ) (H := G4 ++ [R5]) (hpw.low ⟨fun j hj => (hget_left (by omega)).trans (lw4.1 j hj), by simp; omega⟩) (t4.push [R5]) n3 (by simp; omega) (k := N0) (y := zl 32) l0 rfl (s := ⟨#[116, 101, 120, 116]⟩) (ks := [N1]) (by rw [hN0, hN1]; exact aB_wf) (v := .slice (some ⟨G4.length, 0, none⟩) 1 1) (keys1 l1 (by rw [hget_app0, hR5]; rfl)) (by simp)
 refine aw_seq (aoo fun K hK => ?_)
 simp (disch := first | omega | (simp only [lnS]; try omega)) [-getElem?_pos, -getElem?_neg, g40, g41, lg0, lg1, T0, T1, hsr1]
 rw [← hR5]
 refine ⟨by kernel_rfl, AC.mono d5 ?_⟩
 rintro v6 G6 ⟨rfl, q6⟩
 obtain ⟨_, hl6, F6, t6, k6, m6⟩ := q6.keep
 have eB : (⟨6, ⟨#[116, 101, 120, 116]⟩, [N0, zl 32, N1]⟩ : TermD) = aB := by rw [hN0, hN1]; rfl
 rw [eB] at t6 ⊢
 rw [ad3.1] at t6
 rw [ad3.2]
 obtain ⟨N2, hN2⟩ : ∃ N2 : List Int, N2 = nmL ((2 : Nat) : Int) := ⟨_, rfl⟩
 rw [← hN2]
 have l2 : N2.length = 32 := by rw [hN2]; rfl
 have b2 : By N2 := by rw [hN2]; exact nmL_by _
 have T2 : (iv .u8 N2).take 32 = iv .u8 N2 := List.take_of_length_le (by simp [l2])
 have S2 : setR (iv .u8 (zl 32)) 0 (iv .u8 N2) = iv .u8 N2 := setR_all _ _ (by simp [l2])
 have hl45 : (G4 ++ [R5]).length = G4.length + 1 := by simp
 rw [hl45] at hl6 k6 m6
 have lw6 : Low H.length H G6 := ⟨fun j hj => ((k6 j (by omega) (fun e => by have := n3 j e; omega)).1).trans ((hget_left (by omega)).trans (lw4.1 j hj)), by omega⟩
 have n6 : ∀ j ∈ F6, H.length ≤ j := fun j hj => (m6 j hj).elim (n3 j) (fun e => by omega)
 have g60 : hget G6 p = some ⟨iv .u8 N0, 28, none⟩ := ((k6 p (by omega) c40).1).trans ((hget_left lg0).trans g40)
 have g61 : hget G6 (p + 1) = some ⟨iv .u8 N1, 28, none⟩ := ((k6 (p + 1) (by omega) c41).1).trans ((hget_left lg1).trans g41)
 have c60 := (k6 p (by omega) c40).2
 have c61 := (k6 (p + 1) (by omega) c41).2
 try simp (disch := first | omega | (simp only [lnS]; try omega)) [-getElem?_pos, -getElem?_neg]
 refine hK _ _ ?_; clear hK K
 clear d5 k6 m6 n3 c40 c41 q6 t4 g40 g41 lg0 lg1 lw4 hR5 hsr1
 have hng6 := lw6.2
 refine aw_seq (aoo fun K hK => ?_)
 simp (disch := first | omega | (simp only [lnS]; try omega)) [-getElem?_pos, -getElem?_neg]
 refine ⟨by kernel_rfl, ac_of_rc (key_rc l2 b2) (by rw [pv_tup2, p2_bool, show plain2 (.agg (iv .u8 N2).toArray) = true from iv_plain _ _]; rfl) ?_⟩
 try simp (disch := first | omega | (simp only [lnS]; try omega)) [-getElem?_pos, -getElem?_neg, l2, T2, S2, hng6]
 refine hK _ _ ?_; clear hK K
 obtain ⟨G7, hG7⟩ : ∃ G7 : AH, G7 = G6 ++ [some ⟨iv .u8 N2, 28, none⟩] := ⟨_, rfl⟩
 have lw67 : Low G6.length G6 G7 := by rw [hG7]; exact ⟨fun j hj => hget_left hj, by simp⟩
 have g72 : hget G7 G6.length = some ⟨iv .u8 N2, 28, none⟩ := by rw [hG7, hget_app0]; rfl
 have hl7 : G7.length = G6.length + 1 := by rw [hG7]; simp
 rw [← hG7]
 clear hG7
 have t7 : Tbl G7 b F6 [aK, aX, aB] := t6.low (fun j hj => lw67.1 j (t6.bound j hj)) lw67.2
 have c72 : G6.length ∉ F6 := fun e => by have := t6.bound _ e; omega
 have lw7 : Low H.length H G7 := ⟨fun j hj => (lw67.1 j (by omega)).trans (lw6.1 j hj), by omega⟩
 have g70 := (lw67.1 p (hget_lt g60)).trans g60
 have g71 := (lw67.1 (p + 1) (hget_lt g61)).trans g61
 obtain ⟨r, hr⟩ : ∃ r, r = G6.length := ⟨_, rfl⟩
 rw [← hr] at g72 c72 ⊢
 have hrl : H.length ≤ r := by omega
 clear t6 lw6 lw67 hng6 hr g60 g61 hl7
 have lg0 := hget_lt g70
 have lg1 := hget_lt g71
 have lg2 := hget_lt g72
 have hng7 := lw7.2
 have hop : openT [aK, aX, aB] N0 (zl 32) (strOfNums N2) = some (⟨#[116, 101, 120, 116]⟩, [N1]) := by
  unfold openT
  rw [sn_size, if_pos l2, nums_of _ b2, hN2, find2]
  dsimp only
  rw [hN0, hN1]
  rfl
 have d8 := open_ac (nro := H.length) (γ := γ) t7 hng7 (k := N0) (y := zl 32) l0 rfl (s := strOfNums N2) (by rw [sn_size, l2]; omega)
 refine aw_seq (aoo fun K hK => ?_)
 simp (disch := first | omega | (simp only [lnS]; try omega)) [-getElem?_pos, -getElem?_neg, g70, lg0, T0]
 refine ⟨by kernel_rfl, AC.mono d8 ?_⟩
 rintro v8 G8 ⟨lw8, q8⟩
 rw [hop] at q8
 obtain ⟨kv, rfl, ho⟩ := q8
 have hkv := ho.nt
 try simp (disch := first | omega | (simp only [lnS]; try omega)) [-getElem?_pos, -getElem?_neg, -notTuple, hkv.1, hkv.2]
 refine hK _ _ ?_; clear hK K
 have l8 := lw8.2
 have t8 : Tbl G8 b F6 [aK, aX, aB] := t7.low (fun j hj => lw8.1 j (t7.bound j hj)) lw8.2
 have g80 := (lw8.1 p lg0).trans g70
 have g81 := (lw8.1 (p + 1) lg1).trans g71
 have g82 := (lw8.1 r lg2).trans g72
 have lw8 : Low H.length H G8 := ⟨fun j hj => (lw8.1 j (by omega)).trans (lw7.1 j hj), by omega⟩
 have hK8 : KsV G8 kv [N1] := own_ksv ho (fun z hz => by rw [List.mem_singleton.1 hz]; exact l1)
 have hacc := hK8.acc (fun z hz => by rw [List.mem_singleton.1 hz]; exact l1)
 have hklen : xlen Tryd.prog 33 kv = some (.int .i64 1) := hacc.len
 obtain ⟨q0, y0, t1', t2, t3', t4', t5⟩ := hacc.at_ 0 (by simp)
 have t1 := t1'
 have t2 : xindexAddr Tryd.prog 33 kv (.int .i64 0) = some q0 := t2
 have t4' : y0 = .agg (iv .u8 N1).toArray := t4'
 subst t4'
 have hne : ¬ N0 = N1 := by rw [hN0, hN1]; decide
 have hneb : (N0 == N1) = false := by rw [hN0, hN1]; decide
 have hv29 : fol (folL [aK, aX, aB] [N2, N0]) N1 = true := by rw [hN0, hN1, hN2]; exact al29
 have hv37 : fol (folL [aK, aX, aB] [N2]) N1 = false := by rw [hN1, hN2]; exact al37
 have hTW := aT_wf
 have hks2 : ∀ k ∈ [N2, N0], k.length = 32 := fun k hk => by
  simp only [List.mem_cons, List.not_mem_nil, or_false] at hk
  rcases hk with rfl | rfl
  ·exact l2
  ·exact l0
 have hkb2 : ∀ k ∈ [N2, N0], By k := fun k hk => by
  simp only [List.mem_cons, List.not_mem_nil, or_false] at hk
  rcases hk with rfl | rfl
  ·exact b2
  ·exact b0
 have hks1 : ∀ k ∈ [N2], k.length = 32 := fun k hk => by rw [List.mem_singleton.1 hk]; exact l2
 have hkb1 : ∀ k ∈ [N2], By k := fun k hk => by rw [List.mem_singleton.1 hk]; exact b2
 have hrow2 : setR (setR (List.map (fun j => (iv .u8 (zl 32))[j % 32]?.getD undef) (List.range 64)) 0 (iv .u8 N2)) 32 (iv .u8 N0) = iv .u8 N2 ++ iv .u8 N0 := row2 (by simp) (by simp [l2]) (by simp [l0])
 have hrow1 : setR (List.map (fun j => (iv .u8 (zl 32))[j % 32]?.getD undef) (List.range 32)) 0 (iv .u8 N2) = iv .u8 N2 := setR_all _ _ (by simp [l2])
 have hl8 := lw8.2
 clear d8 t7 g70 g71 g72 lg0 lg1 lg2 lw7 hng7 hop
 refine aw_seq ?_
 refine name_aw (fun β hβ => ?_)
 have e1 : β 1 = .pointer (some ⟨b, 0, none⟩) := by rw [hβ]; (first | (simp; done) | rfl)
 have e2' : β 2 = .pointer (some ⟨p, 0, none⟩) := by rw [hβ]; (first | (simp; done) | rfl)
 have e3 : β 3 = .pointer (some ⟨p + 1, 0, none⟩) := by rw [hβ]; (first | (simp; done) | rfl)
 have e5 : β 5 = .pointer (some ⟨r, 0, none⟩) := by rw [hβ]; (first | (simp; done) | rfl)
 have e7 : β 7 = .string ⟨#[116, 101, 120, 116]⟩ := by rw [hβ]; (first | (simp; done) | rfl)
 have e8 : β 8 = kv := by rw [hβ]; (first | (simp; done) | rfl)
 have e9 : β 9 = .bool true := by rw [hβ]; (first | (simp; done) | rfl)
 clear hβ
 have hND : alJD.Nodup := by decide
 have hST : ∀ (G1 G2 : AH) (i : Nat) (v : Value), G1.length ≤ G2.length → (∀ j, j < G1.length → hget G2 j = hget G1 j) → alJV b kv q0 N0 N1 N2 G1 i v → alJV b kv q0 N0 N1 N2 G2 i v := fun G1 G2 i v h1 h2 h => by
  unfold alJV at h ⊢
  split at h <;> first | exact h | exact row_low h h2 | exact h.low h2
 refine aw_inv alJP (IJ alJD (alJV b kv q0 N0 N1 N2) β G8) (by kernel_rfl) (by kernel_rfl) (by kernel_rfl) (IJ.start rfl) ?_ ?_
 ·intro i s α G k hJ hi0 hsi hd hc hcont
  have j9 := (hJ.lo 9 (by decide)).trans e9
  have j7 := (hJ.lo 7 (by decide)).trans e7
  have j8 := (hJ.lo 8 (by decide)).trans e8
  have j3 := (hJ.lo 3 (by decide)).trans e3
  have j2 := (hJ.lo 2 (by decide)).trans e2'
  have j5 := (hJ.lo 5 (by decide)).trans e5
  have j1 := (hJ.lo 1 (by decide)).trans e1
  have g0 := (hJ.lw.2 p (hget_lt g80)).trans g80
  have g1 := (hJ.lw.2 (p + 1) (hget_lt g81)).trans g81
  have g2 := (hJ.lw.2 r (hget_lt g82)).trans g82
  have lg0 := hget_lt g0
  have lg1 := hget_lt g1
  have lg2 := hget_lt g2
  have lwG : Low H.length H G := ⟨fun j hj => (hJ.lw.2 j (by omega)).trans (lw8.1 j hj), by have := hJ.lw.1; omega⟩
  have tG : Tbl G b F6 [aK, aX, aB] := t8.low (fun j hj => hJ.lw.2 j (t8.bound j hj)) hJ.lw.1
  have u5 := t5 G ⟨hJ.lw.2, hJ.lw.1⟩
  have hi : i = 0 ∨ i = 1 ∨ i = 2 ∨ i = 3 ∨ i = 4 ∨ i = 5 ∨ i = 6 ∨ i = 7 ∨ i = 8 ∨ i = 9 ∨ i = 10 ∨ i = 11 ∨ i = 12 ∨ i = 13 ∨ i = 14 ∨ i = 15 ∨ i = 16 ∨ i = 17 ∨ i = 18 ∨ i = 19 ∨ i = 20 ∨ i = 21 ∨ i = 22 ∨ i = 23 ∨ i = 24 ∨ i = 25 ∨ i = 26 ∨ i = 27 ∨ i = 28 ∨ i = 29 ∨ i = 30 ∨ i = 31 ∨ i = 32 ∨ i = 33 ∨ i = 34 ∨ i = 35 ∨ i = 36 ∨ i = 37 ∨ i = 38 ∨ i = 39 ∨ i = 40 ∨ i = 41 ∨ i = 42 ∨ i = 43 ∨ i = 44 ∨ i = 45 := by have hi0 : i < 46 := hi0; omega
  rcases hi with rfl | rfl | rfl | rfl | rfl | rfl | rfl | rfl | rfl | rfl | rfl | rfl | rfl | rfl | rfl | rfl | rfl | rfl | rfl | rfl | rfl | rfl | rfl | rfl | rfl | rfl | rfl | rfl | rfl | rfl | rfl | rfl | rfl | rfl | rfl | rfl | rfl | rfl | rfl | rfl | rfl | rfl | rfl | rfl | rfl | rfl
  ·simp (disch := first | omega | (simp only [lnS]; try omega)) [-getElem?_pos, -getElem?_neg, -notTuple, hkv.1, j9]
   exact hcont _ _ (hJ.put hND hST rfl (Nat.le_refl _) (fun _ _ => rfl) rfl)
  ·have f0 : α 35 = .bool true := hJ.val 0 35 rfl (hd 0 (by decide))
   simp (disch := first | omega | (simp only [lnS]; try omega)) [-getElem?_pos, -getElem?_neg, -notTuple, hkv.1, f0]
   exact hcont _ _ (hJ.put hND hST rfl (Nat.le_refl _) (fun _ _ => rfl) rfl)
  ·have f1 : α 36 = .bool true := hJ.val 1 36 rfl (hd 1 (by decide))
   simp (disch := first | omega | (simp only [lnS]; try omega)) [-getElem?_pos, -getElem?_neg, -notTuple, hkv.1, j7, f1]
   exact hcont _ _ (hJ.put hND hST rfl (Nat.le_refl _) (fun _ _ => rfl) rfl)
  ·have f1 : α 36 = .bool true := hJ.val 1 36 rfl (hd 1 (by decide))
   have f2 : α 37 = .string ⟨#[116, 101, 120, 116]⟩ := hJ.val 2 37 rfl (hd 2 (by decide))
   simp (disch := first | omega | (simp only [lnS]; try omega)) [-getElem?_pos, -getElem?_neg, -notTuple, hkv.1, f1, f2]
   exact hcont _ _ (hJ.put hND hST rfl (Nat.le_refl _) (fun _ _ => rfl) rfl)
  ·have f1 : α 36 = .bool true := hJ.val 1 36 rfl (hd 1 (by decide))
   have f3 : α 38 = .bool true := hJ.val 3 38 rfl (hd 3 (by decide))
   simp (disch := first | omega | (simp only [lnS]; try omega)) [-getElem?_pos, -getElem?_neg, -notTuple, hkv.1, f1, f3]
   exact hcont _ _ (hJ.put hND hST rfl (Nat.le_refl _) (fun _ _ => rfl) rfl)
  ·have f4 : α 39 = .bool true := hJ.val 4 39 rfl (hd 4 (by decide))
   simp (disch := first | omega | (simp only [lnS]; try omega)) [-getElem?_pos, -getElem?_neg, -notTuple, hkv.1, f4]
   exact hcont _ _ (hJ.put hND hST rfl (Nat.le_refl _) (fun _ _ => rfl) rfl)
  ·have f5 : α 40 = .bool true := hJ.val 5 40 rfl (hd 5 (by decide))
   simp (disch := first | omega | (simp only [lnS]; try omega)) [-getElem?_pos, -getElem?_neg, -notTuple, hkv.1, j8, f5]
   exact hcont _ _ (hJ.put hND hST rfl (Nat.le_refl _) (fun _ _ => rfl) rfl)
  ·have f5 : α 40 = .bool true := hJ.val 5 40 rfl (hd 5 (by decide))
   have f6 : α 41 = kv := hJ.val 6 41 rfl (hd 6 (by decide))
   simp (disch := first | omega | (simp only [lnS]; try omega)) [-getElem?_pos, -getElem?_neg, -notTuple, hkv.1, -xlen, hklen, f5, f6]
   exact hcont _ _ (hJ.put hND hST rfl (Nat.le_refl _) (fun _ _ => rfl) rfl)
  ·have f5 : α 40 = .bool true := hJ.val 5 40 rfl (hd 5 (by decide))
   have f7 : α 42 = .int .i64 1 := hJ.val 7 42 rfl (hd 7 (by decide))
   simp (disch := first | omega | (simp only [lnS]; try omega)) [-getElem?_pos, -getElem?_neg, -notTuple, hkv.1, f5, f7]
   exact hcont _ _ (hJ.put hND hST rfl (Nat.le_refl _) (fun _ _ => rfl) rfl)
  ·have f5 : α 40 = .bool true := hJ.val 5 40 rfl (hd 5 (by decide))
   have f8 : α 43 = .bool true := hJ.val 8 43 rfl (hd 8 (by decide))
   simp (disch := first | omega | (simp only [lnS]; try omega)) [-getElem?_pos, -getElem?_neg, -notTuple, hkv.1, f5, f8]
   exact hcont _ _ (hJ.put hND hST rfl (Nat.le_refl _) (fun _ _ => rfl) rfl)
  ·have f9 : α 44 = .bool true := hJ.val 9 44 rfl (hd 9 (by decide))
   simp (disch := first | omega | (simp only [lnS]; try omega)) [-getElem?_pos, -getElem?_neg, -notTuple, hkv.1, f9]
   exact hcont _ _ (hJ.put hND hST rfl (Nat.le_refl _) (fun _ _ => rfl) rfl)
  ·have f10 : α 45 = .bool true := hJ.val 10 45 rfl (hd 10 (by decide))
   simp (disch := first | omega | (simp only [lnS]; try omega)) [-getElem?_pos, -getElem?_neg, -notTuple, hkv.1, j8, f10]
   exact hcont _ _ (hJ.put hND hST rfl (Nat.le_refl _) (fun _ _ => rfl) rfl)
  ·have f10 : α 45 = .bool true := hJ.val 10 45 rfl (hd 10 (by decide))
   have f11 : α 46 = kv := hJ.val 11 46 rfl (hd 11 (by decide))
   simp (disch := first | omega | (simp only [lnS]; try omega)) [-getElem?_pos, -getElem?_neg, -notTuple, hkv.1, -xindexAddr, t2, t1, f10, f11]
   exact hcont _ _ (hJ.put hND hST rfl (Nat.le_refl _) (fun _ _ => rfl) rfl)
  ·have f10 : α 45 = .bool true := hJ.val 10 45 rfl (hd 10 (by decide))
   have f12 : α 47 = q0 := hJ.val 12 47 rfl (hd 12 (by decide))
   simp (disch := first | omega | (simp only [lnS]; try omega)) [-getElem?_pos, -getElem?_neg, -notTuple, hkv.1, -xload, u5, f10, f12]
   exact hcont _ _ (hJ.put hND hST rfl (Nat.le_refl _) (fun _ _ => rfl) rfl)
  ·have f10 : α 45 = .bool true := hJ.val 10 45 rfl (hd 10 (by decide))
   simp (disch := first | omega | (simp only [lnS]; try omega)) [-getElem?_pos, -getElem?_neg, -notTuple, hkv.1, j3, g1, lg1, T1, l1, f10]
   exact hcont _ _ (hJ.put hND hST rfl (Nat.le_refl _) (fun _ _ => rfl) rfl)
  ·have f10 : α 45 = .bool true := hJ.val 10 45 rfl (hd 10 (by decide))
   have f13 : α 48 = .agg (iv .u8 N1).toArray := hJ.val 13 48 rfl (hd 13 (by decide))
   have f14 : α 49 = .agg (iv .u8 N1).toArray := hJ.val 14 49 rfl (hd 14 (by decide))
   simp (disch := first | omega | (simp only [lnS]; try omega)) [-getElem?_pos, -getElem?_neg, -notTuple, hkv.1, l1, f10, f13, f14]
   exact hcont _ _ (hJ.put hND hST rfl (Nat.le_refl _) (fun _ _ => rfl) rfl)
  ·have f10 : α 45 = .bool true := hJ.val 10 45 rfl (hd 10 (by decide))
   have f15 : α 50 = .bool true := hJ.val 15 50 rfl (hd 15 (by decide))
   simp (disch := first | omega | (simp only [lnS]; try omega)) [-getElem?_pos, -getElem?_neg, -notTuple, hkv.1, f10, f15]
   exact hcont _ _ (hJ.put hND hST rfl (Nat.le_refl _) (fun _ _ => rfl) rfl)
  ·have f16 : α 51 = .bool true := hJ.val 16 51 rfl (hd 16 (by decide))
   simp (disch := first | omega | (simp only [lnS]; try omega)) [-getElem?_pos, -getElem?_neg, -notTuple, hkv.1, f16]
   exact hcont _ _ (hJ.put hND hST rfl (Nat.le_refl _) (fun _ _ => rfl) rfl)
  ·have f17 : α 52 = .bool true := hJ.val 17 52 rfl (hd 17 (by decide))
   simp (disch := first | omega | (simp only [lnS]; try omega)) [-getElem?_pos, -getElem?_neg, -notTuple, hkv.1, j2, g0, lg0, T0, l0, f17]
   exact hcont _ _ (hJ.put hND hST rfl (Nat.le_refl _) (fun _ _ => rfl) rfl)
  ·have f17 : α 52 = .bool true := hJ.val 17 52 rfl (hd 17 (by decide))
   simp (disch := first | omega | (simp only [lnS]; try omega)) [-getElem?_pos, -getElem?_neg, -notTuple, hkv.1, j3, g1, lg1, T1, l1, f17]
   exact hcont _ _ (hJ.put hND hST rfl (Nat.le_refl _) (fun _ _ => rfl) rfl)
  ·have f17 : α 52 = .bool true := hJ.val 17 52 rfl (hd 17 (by decide))
   have f18 : α 53 = .agg (iv .u8 N0).toArray := hJ.val 18 53 rfl (hd 18 (by decide))
   have f19 : α 54 = .agg (iv .u8 N1).toArray := hJ.val 19 54 rfl (hd 19 (by decide))
   simp (disch := first | omega | (simp only [lnS]; try omega)) [-getElem?_pos, -getElem?_neg, -notTuple, hkv.1, l0, l1, hne, hneb, f17, f18, f19]
   exact hcont _ _ (hJ.put hND hST rfl (Nat.le_refl _) (fun _ _ => rfl) rfl)
  ·have f17 : α 52 = .bool true := hJ.val 17 52 rfl (hd 17 (by decide))
   have f20 : α 55 = .bool true := hJ.val 20 55 rfl (hd 20 (by decide))
   simp (disch := first | omega | (simp only [lnS]; try omega)) [-getElem?_pos, -getElem?_neg, -notTuple, hkv.1, f17, f20]
   exact hcont _ _ (hJ.put hND hST rfl (Nat.le_refl _) (fun _ _ => rfl) rfl)
  ·have f21 : α 56 = .bool true := hJ.val 21 56 rfl (hd 21 (by decide))
   simp (disch := first | omega | (simp only [lnS]; try omega)) [-getElem?_pos, -getElem?_neg, -notTuple, hkv.1, f21]
   exact hcont _ _ (hJ.put hND hST rfl (Nat.le_refl _) (fun _ _ => rfl) rfl)
  ·have f22 : α 57 = .bool true := hJ.val 22 57 rfl (hd 22 (by decide))
   simp (disch := first | omega | (simp only [lnS]; try omega)) [-getElem?_pos, -getElem?_neg, -notTuple, hkv.1, j1, f22]
   exact hcont _ _ (hJ.put hND hST rfl (Nat.le_refl _) (fun _ _ => rfl) rfl)
  ·have f22 : α 57 = .bool true := hJ.val 22 57 rfl (hd 22 (by decide))
   simp (disch := first | omega | (simp only [lnS]; try omega)) [-getElem?_pos, -getElem?_neg, -notTuple, hkv.1, j5, g2, lg2, T2, l2, f22]
   exact hcont _ _ (hJ.put hND hST rfl (Nat.le_refl _) (fun _ _ => rfl) rfl)
  ·have f22 : α 57 = .bool true := hJ.val 22 57 rfl (hd 22 (by decide))
   simp (disch := first | omega | (simp only [lnS]; try omega)) [-getElem?_pos, -getElem?_neg, -notTuple, hkv.1, j2, g0, lg0, T0, l0, f22]
   exact hcont _ _ (hJ.put hND hST rfl (Nat.le_refl _) (fun _ _ => rfl) rfl)
  ·have f22 : α 57 = .bool true := hJ.val 22 57 rfl (hd 22 (by decide))
   have f24 : α 59 = .agg (iv .u8 N2).toArray := hJ.val 24 59 rfl (hd 24 (by decide))
   have f25 : α 60 = .agg (iv .u8 N0).toArray := hJ.val 25 60 rfl (hd 25 (by decide))
   simp (disch := first | omega | (simp only [lnS]; try omega)) [-getElem?_pos, -getElem?_neg, -notTuple, hkv.1, f22, f24, f25, hrow2]
   exact hcont _ _ (hJ.put hND hST rfl (by simp) (fun j hj => hget_left hj) ⟨G.length, rfl, by rw [hget_app0]; rfl⟩)
  ·have f22 : α 57 = .bool true := hJ.val 22 57 rfl (hd 22 (by decide))
   have f23 : α 58 = .pointer (some ⟨b, 0, none⟩) := hJ.val 23 58 rfl (hd 23 (by decide))
   have f26 := hJ.val 26 61 rfl (hd 26 (by decide))
   obtain ⟨rr, e, hrr⟩ := f26
   simp (disch := first | omega | (simp only [lnS]; try omega)) [-getElem?_pos, -getElem?_neg, f22, f23, e]
   refine ⟨by kernel_rfl, (follow_ac (nro := H.length) (γ := γ) (hpw.low lwG) tG lwG.2 hTW (ks := [N2, N0]) (keys2 l2 l0 hrr) hks2 hkb2 (by simp)).mono ?_⟩
   rintro v' G' ⟨kx, kb, rfl, lw, e1, e2, _, _⟩
   exact hcont _ _ (hJ.put hND hST rfl lw.2 lw.1 ⟨kx, kb, rfl, e1, e2⟩)
  ·have f22 : α 57 = .bool true := hJ.val 22 57 rfl (hd 22 (by decide))
   simp (disch := first | omega | (simp only [lnS]; try omega)) [-getElem?_pos, -getElem?_neg, -notTuple, hkv.1, j3, g1, lg1, T1, l1, f22]
   exact hcont _ _ (hJ.put hND hST rfl (Nat.le_refl _) (fun _ _ => rfl) rfl)
  ·have f22 : α 57 = .bool true := hJ.val 22 57 rfl (hd 22 (by decide))
   have f27 := hJ.val 27 62 rfl (hd 27 (by decide))
   have f28 : α 63 = .agg (iv .u8 N1).toArray := hJ.val 28 63 rfl (hd 28 (by decide))
   obtain ⟨kx, kb, e, h1, h2⟩ := f27
   simp (disch := first | omega | (simp only [lnS]; try omega)) [-getElem?_pos, -getElem?_neg, f22, f28, e]
   refine ⟨by kernel_rfl, ac_of_rc (fol1_rc h1 h2 (fol_len _ _) (by omega) l1 b1) (by simp [pv_iv, pv_int, pv_bool, pv_string, pv_tup2, pv_tup3, iv_plain, p2_int, p2_bool, p2_string]) ?_⟩
   exact hcont _ _ (hJ.put hND hST rfl (Nat.le_refl _) (fun _ _ => rfl) (congrArg Value.bool hv29))
  ·have f22 : α 57 = .bool true := hJ.val 22 57 rfl (hd 22 (by decide))
   have f29 : α 64 = .bool true := hJ.val 29 64 rfl (hd 29 (by decide))
   simp (disch := first | omega | (simp only [lnS]; try omega)) [-getElem?_pos, -getElem?_neg, -notTuple, hkv.1, f22, f29]
   exact hcont _ _ (hJ.put hND hST rfl (Nat.le_refl _) (fun _ _ => rfl) rfl)
  ·have f30 : α 65 = .bool true := hJ.val 30 65 rfl (hd 30 (by decide))
   simp (disch := first | omega | (simp only [lnS]; try omega)) [-getElem?_pos, -getElem?_neg, -notTuple, hkv.1, f30]
   exact hcont _ _ (hJ.put hND hST rfl (Nat.le_refl _) (fun _ _ => rfl) rfl)
  ·have f31 : α 66 = .bool true := hJ.val 31 66 rfl (hd 31 (by decide))
   simp (disch := first | omega | (simp only [lnS]; try omega)) [-getElem?_pos, -getElem?_neg, -notTuple, hkv.1, j1, f31]
   exact hcont _ _ (hJ.put hND hST rfl (Nat.le_refl _) (fun _ _ => rfl) rfl)
  ·have f31 : α 66 = .bool true := hJ.val 31 66 rfl (hd 31 (by decide))
   simp (disch := first | omega | (simp only [lnS]; try omega)) [-getElem?_pos, -getElem?_neg, -notTuple, hkv.1, j5, g2, lg2, T2, l2, f31]
   exact hcont _ _ (hJ.put hND hST rfl (Nat.le_refl _) (fun _ _ => rfl) rfl)
  ·have f31 : α 66 = .bool true := hJ.val 31 66 rfl (hd 31 (by decide))
   have f33 : α 68 = .agg (iv .u8 N2).toArray := hJ.val 33 68 rfl (hd 33 (by decide))
   simp (disch := first | omega | (simp only [lnS]; try omega)) [-getElem?_pos, -getElem?_neg, -notTuple, hkv.1, f31, f33, hrow1]
   exact hcont _ _ (hJ.put hND hST rfl (by simp) (fun j hj => hget_left hj) ⟨G.length, rfl, by rw [hget_app0]; rfl⟩)
  ·have f31 : α 66 = .bool true := hJ.val 31 66 rfl (hd 31 (by decide))
   have f32 : α 67 = .pointer (some ⟨b, 0, none⟩) := hJ.val 32 67 rfl (hd 32 (by decide))
   have f34 := hJ.val 34 69 rfl (hd 34 (by decide))
   obtain ⟨rr, e, hrr⟩ := f34
   simp (disch := first | omega | (simp only [lnS]; try omega)) [-getElem?_pos, -getElem?_neg, f31, f32, e]
   refine ⟨by kernel_rfl, (follow_ac (nro := H.length) (γ := γ) (hpw.low lwG) tG lwG.2 hTW (ks := [N2]) (keys1 l2 hrr) hks1 hkb1 (by simp)).mono ?_⟩
   rintro v' G' ⟨kx, kb, rfl, lw, e1, e2, _, _⟩
   exact hcont _ _ (hJ.put hND hST rfl lw.2 lw.1 ⟨kx, kb, rfl, e1, e2⟩)
  ·have f31 : α 66 = .bool true := hJ.val 31 66 rfl (hd 31 (by decide))
   simp (disch := first | omega | (simp only [lnS]; try omega)) [-getElem?_pos, -getElem?_neg, -notTuple, hkv.1, j3, g1, lg1, T1, l1, f31]
   exact hcont _ _ (hJ.put hND hST rfl (Nat.le_refl _) (fun _ _ => rfl) rfl)
  ·have f31 : α 66 = .bool true := hJ.val 31 66 rfl (hd 31 (by decide))
   have f35 := hJ.val 35 70 rfl (hd 35 (by decide))
   have f36 : α 71 = .agg (iv .u8 N1).toArray := hJ.val 36 71 rfl (hd 36 (by decide))
   obtain ⟨kx, kb, e, h1, h2⟩ := f35
   simp (disch := first | omega | (simp only [lnS]; try omega)) [-getElem?_pos, -getElem?_neg, f31, f36, e]
   refine ⟨by kernel_rfl, ac_of_rc (fol1_rc h1 h2 (fol_len _ _) (by omega) l1 b1) (by simp [pv_iv, pv_int, pv_bool, pv_string, pv_tup2, pv_tup3, iv_plain, p2_int, p2_bool, p2_string]) ?_⟩
   exact hcont _ _ (hJ.put hND hST rfl (Nat.le_refl _) (fun _ _ => rfl) (congrArg Value.bool hv37))
  ·have f31 : α 66 = .bool true := hJ.val 31 66 rfl (hd 31 (by decide))
   have f37 : α 72 = .bool false := hJ.val 37 72 rfl (hd 37 (by decide))
   simp (disch := first | omega | (simp only [lnS]; try omega)) [-getElem?_pos, -getElem?_neg, -notTuple, hkv.1, f31, f37]
   exact hcont _ _ (hJ.put hND hST rfl (Nat.le_refl _) (fun _ _ => rfl) rfl)
  ·have f31 : α 66 = .bool true := hJ.val 31 66 rfl (hd 31 (by decide))
   have f38 : α 73 = .bool true := hJ.val 38 73 rfl (hd 38 (by decide))
   simp (disch := first | omega | (simp only [lnS]; try omega)) [-getElem?_pos, -getElem?_neg, -notTuple, hkv.1, f31, f38]
   exact hcont _ _ (hJ.put hND hST rfl (Nat.le_refl _) (fun _ _ => rfl) rfl)
  ·have f39 : α 74 = .bool true := hJ.val 39 74 rfl (hd 39 (by decide))
   simp (disch := first | omega | (simp only [lnS]; try omega)) [-getElem?_pos, -getElem?_neg, -notTuple, hkv.1, f39]
   exact hcont _ _ (hJ.put hND hST rfl (Nat.le_refl _) (fun _ _ => rfl) rfl)
  ·have f40 : α 75 = .bool true := hJ.val 40 75 rfl (hd 40 (by decide))
   simp (disch := first | omega | (simp only [lnS]; try omega)) [-getElem?_pos, -getElem?_neg, -notTuple, hkv.1, j1, f40]
   exact hcont _ _ (hJ.put hND hST rfl (Nat.le_refl _) (fun _ _ => rfl) rfl)
  ·have f40 : α 75 = .bool true := hJ.val 40 75 rfl (hd 40 (by decide))
   have f41 : α 76 = .pointer (some ⟨b, 0, none⟩) := hJ.val 41 76 rfl (hd 41 (by decide))
   simp (disch := first | omega | (simp only [lnS]; try omega)) [-getElem?_pos, -getElem?_neg, f40, f41]
   refine ⟨by kernel_rfl, ac_of_rc (tlenT_rc tG) (by simp [pv_iv, pv_int, pv_bool, pv_string, pv_tup2, pv_tup3, iv_plain, p2_int, p2_bool, p2_string]) ?_⟩
   exact hcont _ _ (hJ.put hND hST rfl (Nat.le_refl _) (fun _ _ => rfl) rfl)
  ·have f40 : α 75 = .bool true := hJ.val 40 75 rfl (hd 40 (by decide))
   have f42 : α 77 = .int .i64 3 := hJ.val 42 77 rfl (hd 42 (by decide))
   simp (disch := first | omega | (simp only [lnS]; try omega)) [-getElem?_pos, -getElem?_neg, -notTuple, hkv.1, f40, f42]
   exact hcont _ _ (hJ.put hND hST rfl (Nat.le_refl _) (fun _ _ => rfl) rfl)
  ·have f40 : α 75 = .bool true := hJ.val 40 75 rfl (hd 40 (by decide))
   have f43 : α 78 = .bool true := hJ.val 43 78 rfl (hd 43 (by decide))
   simp (disch := first | omega | (simp only [lnS]; try omega)) [-getElem?_pos, -getElem?_neg, -notTuple, hkv.1, f40, f43]
   exact hcont _ _ (hJ.put hND hST rfl (Nat.le_refl _) (fun _ _ => rfl) rfl)
  ·have f44 : α 79 = .bool true := hJ.val 44 79 rfl (hd 44 (by decide))
   simp (disch := first | omega | (simp only [lnS]; try omega)) [-getElem?_pos, -getElem?_neg, -notTuple, hkv.1, f44]
   exact hcont _ _ (hJ.put hND hST rfl (Nat.le_refl _) (fun _ _ => rfl) rfl)
 ·rintro s' α' B hJ hall
  have hsz : s'.size = 46 := hJ.sz
  have e0 : α' 0 = .bool true := hJ.val 45 0 rfl (by
   rw [Array.getD_eq_getD_getElem?, Array.getElem?_eq_getElem (by omega)]
   exact Array.all_eq_true.1 hall 45 (by omega))
  (refine aw_ret ?_; simp (disch := first | omega | (simp only [lnS]; try omega)) [-getElem?_pos, -getElem?_neg, thenQ_ret, scopeQ_ret, inBlockQ_ret, RQ, resL, resV, e0])
end
end
section
abbrev mA (a : ByteArray) : TermD := ⟨1, a, []⟩
abbrev mU (k : List Int) : TermD := ⟨3, ⟨#[]⟩, [k]⟩
abbrev mK (k l : List Int) : TermD := ⟨4, ⟨#[]⟩, [k, l]⟩
def n0 : List Int := nmL ((0 : Nat) : Int)
def n1 : List Int := nmL ((1 : Nat) : Int)
def n2 : List Int := nmL ((2 : Nat) : Int)
def n3 : List Int := nmL ((3 : Nat) : Int)
def n4 : List Int := nmL ((4 : Nat) : Int)
theorem p0 : pk n0 = some 0 := pk_nm (by omega)
def tD (a b : ByteArray) : List TermD := [mA a, mA b, mU n0, mU n1, mK n0 n1]
section
variable {a b : ByteArray} (ha : a.size ≤ 300) (hb : b.size ≤ 300)
end
end
section
theorem gs_0 (n i : Nat) : (Array.replicate n false).getD i false = false := by
 rw [Array.getD_eq_getD_getElem?, Array.getElem?_replicate]
 split <;> rfl
theorem gs_eq {s : Array Bool} {i : Nat} (h : i < s.size) : (s.setIfInBounds i true).getD i false = true := by
 rw [Array.getD_eq_getD_getElem?, Array.getElem?_setIfInBounds_self_of_lt h]; rfl
theorem gs_ne {s : Array Bool} {i j : Nat} (h : i ≠ j) : (s.setIfInBounds i true).getD j false = s.getD j false := by
 rw [Array.getD_eq_getD_getElem?, Array.getElem?_setIfInBounds_ne h, ← Array.getD_eq_getD_getElem?]
end
section
def db32L : List Int := [0, 1, 28, 2, 29, 14, 24, 3, 30, 22, 20, 15, 25, 17, 4, 8, 31, 27, 13, 23, 21, 19, 16, 7, 26, 12, 18, 6, 11, 5, 10, 9]
def db64L : List Int := [0, 1, 56, 2, 57, 49, 28, 3, 61, 58, 42, 50, 38, 29, 17, 4, 62, 47, 59, 36, 45, 43, 51, 22, 53, 39, 33, 30, 24, 18, 12, 5, 63, 55, 48, 27, 60, 41, 37, 16, 46, 35, 44, 21, 52, 32, 23, 11, 54, 26, 40, 15, 34, 20, 31, 10, 25, 14, 19, 9, 13, 8, 7, 6]
end
section
attribute [local simp] wb_bool wb_undef with_lit XL_nil XL_cons XLc_val XLc_call step1_eq stepW_t stepW_f stepC_n stepC_s stepX_s stepX_n stepN_s calleeX xrecv oneV xop_eq xopR_s xopR_n wantedA_eq wantedG_n wantedG_s plain1_int plain1_bool plain1_string bits_i64 bits_u64 bits_u32 bits_u16 bits_u8 xeqA xagg xcmp xarr allK_iv num_iv calleeOf xread xeff xbin xint xnil xun xstr xload xconv xpart xfield xfieldAddr xindexAddr xindex bnd asInt? xslice xlen xmin xmax xbuild xfill xappend xapp2 xappstr xappmk xcap xcopy xcells eval_tmp eval_const put_at put_none fr0_at cells_agg cells_int cells_bool cells_string cells_ptr cells_slice notTuple tab iv_all hget_app hget_app0 hget_cons0 hget_cons set_app set_app0 setR setR_one QL_nil QL_cons QLc_val stepQ_t stepQ_f stepQC_n stepQC_s stepQX_s SL_nil SL_cons SLc_val stepS_t stepS_f ltT ltF leT leF eqT eqF ltTn ltFn leTn leFn eqTn eqFn beqT beqF bneT bneF wi64 wu64 wu32 wu16 wu8 tmodP tdivP hgetL hgetNe hgetEq setL nums_def nums_len Nat.succ_le_of_lt List.getElem?_cons_zero List.getElem?_cons_succ Option.getD_some Int.toNat_add Int.toNat_mul agM okM agB agI agS agP agL agA okB okI okS okP okSl okA nt_strG nt_boolG nt_aggG nt_intG nt_ptrG nt_slG XO_s XO_z XLk_val XLk_call headsO behind List.length_cons List.length_nil List.mem_cons List.not_mem_nil or_false forall_eq_or_imp forall_eq List.contains_cons List.contains_nil XOm
section
structure JT (ds : List (Option Nat)) (VP : Nat → Value → Prop) (β : Fm) (P : Array Bool → Fm → AH → Prop) (s : Array Bool) (α : Fm) (G : AH) : Prop where
 sz : s.size = ds.length
 lo : ∀ t, some t ∉ ds → α t = β t
 val : ∀ i t, ds[i]? = some (some t) → s.getD i false = true → VP i (α t)
 hp : P s α G
theorem JT.put {ds : List (Option Nat)} {VP : Nat → Value → Prop} {β : Fm} {P : Array Bool → Fm → AH → Prop} {s : Array Bool} {α : Fm} {G G' : AH} (h : JT ds VP β P s α G) (hnd : ∀ i j t : Nat, ds[i]? = some (some t) → ds[j]? = some (some t) → i = j) {i t : Nat} {v : Value}
  (hi : ds[i]? = some (some t)) (hv : VP i v) (hp : P (s.setIfInBounds i true) (α.put (some t) v) G') : JT ds VP β P (s.setIfInBounds i true) (α.put (some t) v) G' := by
 refine ⟨by simp [h.sz], fun t' ht => ?_, fun j t' hj hs => ?_, hp⟩
 ·have hm : some t ∈ ds := List.mem_of_getElem? hi
  have : t' ≠ t := fun e => ht (e ▸ hm)
  rw [← h.lo t' ht]
  simp [put_at, this]
 ·by_cases hij : i = j
  ·subst hij
   rw [hi] at hj
   cases hj
   simpa [put_at] using hv
  ·rw [gs_ne hij] at hs
   have : t' ≠ t := fun e => hij (hnd i j t hi (e ▸ hj))
   simpa [put_at, this] using h.val j t' hj hs
theorem JT.put0 {ds : List (Option Nat)} {VP : Nat → Value → Prop} {β : Fm} {P : Array Bool → Fm → AH → Prop} {s : Array Bool} {α : Fm} {G G' : AH} (h : JT ds VP β P s α G) {i : Nat} (hi : ds[i]? = some none) (hp : P (s.setIfInBounds i true) α G') : JT ds VP β P (s.setIfInBounds i true) α G' := by
 refine ⟨by simp [h.sz], h.lo, fun j t' hj hs => ?_, hp⟩
 have hij : i ≠ j := fun e => by rw [← e, hi] at hj; cases hj
 rw [gs_ne hij] at hs
 exact h.val j t' hj hs
end
section
def u3 (x : Int) : Int := IntKind.u32.wrap x
def smT (s : ByteArray) (n : Int) : Nat → Int
 | 0 => n
 | i + 1 => u3 (u3 (smT s n i * 31) + u3 (gb s i))
def smK (ks : List (List Int)) (n : Int) : Nat → Int
 | 0 => n
 | i + 1 => u3 (u3 (u3 (u3 (smK ks n i * 31) + u3 ((ks.getD i []).getD 7 0)) + u3 (256 * u3 ((ks.getD i []).getD 6 0))) + u3 ((ks.getD i []).getD 0 0))
def sm0 (x : TermD) : Int := u3 (u3 (x.kind : Int) + u3 (7 * u3 (x.text.size : Int)))
def sumR (x : TermD) : Int := smK x.keys (smT x.text (sm0 x) (min x.text.size 20)) x.keys.length
theorem KsV.cell {H : AH} {v : Value} {l : List (List Int)} (h : KsV H v l) (hl : ∀ k ∈ l, k.length = 32) {i : Nat} (hi : i < l.length) :
  ∃ j, xindexAddr Tryd.prog 33 v (.int .i64 (i : Nat)) = some (.pointer (some ⟨j, i * 32, none⟩)) ∧ ∀ c, c < 32 → ∀ G : AH, Low H.length H G → xload Tryd.prog 5 (.pointer (some ⟨j, i * 32 + c, none⟩)) G = some (.int .u8 ((l.getD i []).getD c 0)) := by
 obtain ⟨z, hz⟩ : ∃ z, l[i]? = some z := ⟨_, List.getElem?_eq_getElem hi⟩
 have hzl := hl z (List.mem_of_getElem? hz)
 obtain ⟨j, b, us, hv, hb, hle, hx, hus, hul, hle2, hc, hval⟩ := val_at (P := Tryd.prog) (t := 33) (e := 28) (sz := 32) h (by kernel_rfl) (by kernel_rfl) (by omega) (fun row hr => by
  obtain ⟨y, hy, rfl⟩ := List.mem_map.1 hr
  unfold kd
  rw [List.length_map]
  exact hl y hy) (i := i) (row := kd z) (by rw [List.getElem?_map, hz]; rfl)
 have hk : us = iv .u8 z := hval.key
 have hg : l.getD i [] = z := by rw [List.getD_eq_getElem?_getD, hz]; rfl
 have e1 : isAggD (und Tryd.prog 5) = false := by kernel_rfl
 have e2 : okD (und Tryd.prog 5) = true := by kernel_rfl
 refine ⟨j, hx, fun c hc32 G hG => ?_⟩
 have hbG : hget G j = some b := (hG.1 j (hget_lt hb)).trans hb
 have h1 := hc c hc32
 rw [hk, iv_getN _ _ _ (by omega)] at h1
 unfold xload
 simp only [hbG, e1, e2, h1, hg]
 simp
theorem key_at {j q c : Nat} (hc : c < 32) : xindexAddr Tryd.prog 28 (.pointer (some ⟨j, q, none⟩)) (.int .i64 (c : Nat)) = some (.pointer (some ⟨j, q + c, none⟩)) := by
 have h1 : und Tryd.prog 28 = .array 32 5 := by kernel_rfl
 have h2 : szt Tryd.prog 5 = 1 := by kernel_rfl
 unfold xindexAddr
 simp only [h1, h2]
 rw [if_pos ⟨by omega, by omega, by omega⟩]
 simp
theorem sum_rc {γ : Nat → Option Nat} {H : AH} {kv : Value} {x : TermD} (hv : KsV H kv x.keys) (hk : ∀ k ∈ x.keys, k.length = 32) (hs : x.text.size ≤ 9223372036854775807) (hm : x.keys.length ≤ maxLen) :
  AC Tryd.prog H.length γ 57 #[.agg (tmRow kv x).toArray] H (fun v' _ => v' = .int .u32 (sumR x)) := by
 obtain ⟨kind, s, ks⟩ := x
 have hm63 : ks.length ≤ 9223372036854775807 := by simp only [maxLen] at hm; omega
 have hsum : sumR ⟨kind, s, ks⟩ = smK ks (smT s (sm0 ⟨kind, s, ks⟩) (min s.size 20)) ks.length := rfl
 have h00 : sm0 ⟨kind, s, ks⟩ = u3 (u3 (kind : Int) + u3 (7 * u3 (s.size : Int))) := rfl
 rw [hsum]
 generalize sm0 ⟨kind, s, ks⟩ = n0 at *
 have hcs : ks.length = ks.length := rfl
 obtain ⟨hnt, hvc, hxl, _⟩ := hv.acc hk
 have hcell := fun i (hi : i < ks.length) => hv.cell hk hi
 have hrow : tmRow kv ⟨kind, s, ks⟩ = [.int .i64 (kind : Nat), .string s, kv] := rfl
 rw [hrow]
 refine ac_of_aw Tryd.func57 rfl Tryd.ntmps57 Tryd.results57 (by simp) ?_
 (refine aw_seq (aoo fun K hK => ?_); simp (disch := first | omega | (simp only [lnS]; try omega)) [-notTuple, hnt, hvc]; refine hK _ _ ?_; clear hK K)
 obtain ⟨B, hB⟩ : ∃ B : AH, B = H ++ [some ⟨[.int .i64 (kind : Nat), .string s, kv], 67, none⟩] := ⟨_, rfl⟩
 have hb : hget B H.length = some ⟨[.int .i64 (kind : Nat), .string s, kv], 67, none⟩ := by rw [hB, hget_app0]; rfl
 have hlb := hget_lt hb
 have lwB : Low H.length H B := by rw [hB]; exact Low.push (Nat.le_refl _) _
 rw [← hB]
 (refine aw_seq (aoo fun K hK => ?_); simp (disch := first | omega | (simp only [lnS]; try omega)) [hb, hlb, -notTuple, hnt, hvc, hs]; refine hK _ _ ?_; clear hK K)
 refine aw_seq (aw_seq ?_)
 (refine aoo fun K hK => ?_; simp (disch := first | omega | (simp only [lnS]; try omega)) []; refine hK _ _ ?_; clear hK K)
 refine aw_block ?_
 refine aw_loop (fun q α G => ∃ i : Nat, i + q = 20 ∧ i ≤ s.size ∧ α 1 = .pointer (some ⟨H.length, 0, none⟩) ∧ α 3 = .int .u32 (smT s n0 i) ∧ α 4 = .int .i64 (i : Nat) ∧ G = B) 20 ?_ ?_
 ·exact ⟨0, by omega, by omega, by (first | (simp; done) | rfl), by rw [show smT s n0 0 = n0 from rfl, h00]; (first | (simp; done) | rfl), by (first | (simp; done) | rfl), rfl⟩
 rintro q α G ⟨i, hiq, his, h1, h3, h4, rfl⟩
 refine aw_seq (aw_seq ?_)
 by_cases hi : i < s.size ∧ i < 20
 ·obtain ⟨hi1, hi2⟩ := hi
  have hi1' : (i : Int) < s.size := by omega
  have hi2' : (i : Int) < 20 := by omega
  have hT : smT s n0 (i + 1) = u3 (u3 (smT s n0 i * 31) + u3 (gb s i)) := rfl
  unfold u3 at hT
  (refine aoo fun K hK => ?_; simp (disch := first | omega | (simp only [lnS]; try omega)) [h1, h4, hb, hlb, hs, hi1', hi2']; refine hK _ _ ?_; clear hK K)
  refine aw_t (by (first | (simp; done) | (simp; omega))) (by kernel_rfl) ?_
  refine aw_skip (aw_seq ?_)
  refine aw_block ?_
  (refine aoo fun K hK => ?_; simp (disch := first | omega | (simp only [lnS]; try omega)) [h1, h3, h4, hb, hlb, hi1, hi1']; refine hK _ _ ?_; clear hK K)
  (refine aoo fun K hK => ?_; simp (disch := first | omega | (simp only [lnS]; try omega)) [h4, hi2']; refine hK _ _ ?_; clear hK K)
  exact ⟨q - 1, by omega, i + 1, by omega, by omega, by (first | (simp [h1]; done) | rfl), by rw [hT]; (first | (simp; done) | rfl), by (first | (simp; done) | rfl), rfl⟩
 ·have hmin : min s.size 20 = i := by omega
  rw [hmin]
  generalize smT s n0 i = n1 at *
  refine aw_cut (fun α G' => α 1 = .pointer (some ⟨H.length, 0, none⟩) ∧ α 3 = .int .u32 n1 ∧ α 23 = .bool false ∧ G' = G) ?_ ?_
  ·by_cases hi1 : i < s.size
   ·have hi1' : (i : Int) < s.size := by omega
    have hi2' : ¬ (i : Int) < 20 := by omega
    (refine aoo fun K hK => ?_; simp (disch := first | omega | (simp only [lnS]; try omega)) [h1, h4, hb, hlb, hs, hi1', hi2']; refine hK _ _ ?_; clear hK K)
    exact ⟨by (first | (simp [h1]; done) | rfl), by (first | (simp [h3]; done) | rfl), by (first | (simp; done) | rfl), rfl⟩
   ·have hi1' : ¬ (i : Int) < s.size := by omega
    (refine aoo fun K hK => ?_; simp (disch := first | omega | (simp only [lnS]; try omega)) [h1, h4, hb, hlb, hs, hi1']; refine hK _ _ ?_; clear hK K)
    exact ⟨by (first | (simp [h1]; done) | rfl), by (first | (simp [h3]; done) | rfl), by (first | (simp; done) | rfl), rfl⟩
  rintro α1 G' ⟨g1, g3, g23, rfl⟩
  clear h1 h3 h4
  refine aw_f (by (first | (simp [g23]; done) | (simp [g23]; omega))) (by kernel_rfl) ?_
  refine aw_exit ?_
  refine aw_seq (aw_seq ?_)
  (refine aoo fun K hK => ?_; simp (disch := first | omega | (simp only [lnS]; try omega)) []; refine hK _ _ ?_; clear hK K)
  refine aw_block ?_
  refine aw_loop (fun q α G => ∃ i : Nat, i + q = ks.length ∧ α 1 = .pointer (some ⟨H.length, 0, none⟩) ∧ α 3 = .int .u32 (smK ks n1 i) ∧ α 5 = .int .i64 (i : Nat) ∧ G = G') ks.length ?_ ?_
  ·exact ⟨0, by omega, by (first | (simp [g1]; done) | rfl), by rw [show smK ks n1 0 = n1 from rfl]; (first | (simp [g3]; done) | rfl), by (first | (simp; done) | rfl), rfl⟩
  clear g1 g3 g23 hiq his hmin hi hB hsum h00 hrow
  rintro q α G ⟨i, hiq, h1, h3, h5, rfl⟩
  refine aw_seq (aw_seq ?_)
  by_cases hi : i < ks.length
  ·have hi' : (i : Int) < ks.length := by omega
   obtain ⟨j, q1, q2⟩ := hcell i hi
   have hT : smK ks n1 (i + 1) = u3 (u3 (u3 (u3 (smK ks n1 i * 31) + u3 ((ks.getD i []).getD 7 0)) + u3 (256 * u3 ((ks.getD i []).getD 6 0))) + u3 ((ks.getD i []).getD 0 0)) := rfl
   have c7 := q2 7 (by omega) G lwB
   have c6 := q2 6 (by omega) G lwB
   have c0 := q2 0 (by omega) G lwB
   have k7 : xindexAddr Tryd.prog 28 (.pointer (some ⟨j, i * 32, none⟩)) (.int .i64 7) = some (.pointer (some ⟨j, i * 32 + 7, none⟩)) := key_at (c := 7) (by omega)
   have k6 : xindexAddr Tryd.prog 28 (.pointer (some ⟨j, i * 32, none⟩)) (.int .i64 6) = some (.pointer (some ⟨j, i * 32 + 6, none⟩)) := key_at (c := 6) (by omega)
   have k0 : xindexAddr Tryd.prog 28 (.pointer (some ⟨j, i * 32, none⟩)) (.int .i64 0) = some (.pointer (some ⟨j, i * 32 + 0, none⟩)) := key_at (c := 0) (by omega)
   have ld2 : xload Tryd.prog 33 (.pointer (some ⟨H.length, 2, none⟩)) G = some kv := by
    unfold xload
    have e1 : isAggD (und Tryd.prog 33) = false := by kernel_rfl
    have e2 : okD (und Tryd.prog 33) = true := by kernel_rfl
    simp only [hb, e1, e2]
    simp
   generalize smK ks n1 i = n2 at *
   generalize (ks.getD i []).getD 7 0 = x7 at *
   generalize (ks.getD i []).getD 6 0 = x6 at *
   generalize (ks.getD i []).getD 0 0 = x0 at *
   generalize i * 32 + 7 = o7 at *
   generalize i * 32 + 6 = o6 at *
   generalize i * 32 + 0 = o0 at *
   unfold u3 at hT
   (refine aoo fun K hK => ?_; simp (disch := first | omega | (simp only [lnS]; try omega)) [h1, h5, hb, hlb, -notTuple, hnt, hvc, -xlen, hxl, hi']; refine hK _ _ ?_; clear hK K)
   refine aw_t (by (first | (simp [hi']; done) | (simp [hi']; omega))) (by kernel_rfl) ?_
   refine aw_skip (aw_seq ?_)
   refine aw_block ?_
   (refine aw_plan [] [] [0, 1, 2, 3, 4, 5, 6, 7, 8, 9, 10, 11, 12, 13, 14, 15, 16, 17, 18, 19, 20, 21, 22, 23, 24, 25, 26, 27] 28 0 (by kernel_rfl) (by kernel_rfl) (by kernel_rfl) (fun K hK => ?_)); simp only [sel, List.getElem?_cons_succ, List.getElem?_cons_zero, List.drop_succ_cons, List.drop_zero]; simp (disch := first | omega | (simp only [lnS]; try omega)) [h1, h3, h5, -xload, ld2, c7, c6, c0, -xindexAddr, q1, k7, k6, k0, -notTuple, hnt, PL_nil, plainB_lit, PL_cons, PLc_val, PLc_new, stepP_t, stepP_f, stepPC_n, stepPC_s, stepPX_s, stepPX_n, stepPV_n, stepPV_s, stepPA_t, stepPA_c, stepPA_l, stepPN_s, allocOp, reloc_sl, reloc_ptr, List.map_cons, List.map_nil, List.nil_append, List.append_assoc, List.cons_append, Nat.add_assoc]
   refine hK _ _ ?_; clear hK K
   (refine aoo fun K hK => ?_; simp (disch := first | omega | (simp only [lnS]; try omega)) [h5]; refine hK _ _ ?_; clear hK K)
   exact ⟨q - 1, by omega, i + 1, by omega, by (first | (simp [h1]; done) | rfl), by rw [hT]; (first | (simp [h3]; done) | rfl), by (first | (simp; done) | rfl), rfl⟩
  ·obtain rfl : i = ks.length := by omega
   (refine aoo fun K hK => ?_; simp (disch := first | omega | (simp only [lnS]; try omega)) [h1, h5, hb, hlb, -notTuple, hnt, hvc, -xlen, hxl]; refine hK _ _ ?_; clear hK K)
   refine aw_f (by (first | (simp; done) | (simp; omega))) (by kernel_rfl) ?_
   refine aw_exit (aw_seq ?_)
   (refine aoo fun K hK => ?_; simp (disch := first | omega | (simp only [lnS]; try omega)) [h3]; refine hK _ _ ?_; clear hK K)
   (refine aw_ret ?_; simp (disch := first | omega | (simp only [lnS]; try omega)) [thenQ_ret, scopeQ_ret, inBlockQ_ret, RQ, resL, resV, h3])
end
section
structure RTblF (H : AH) (b : Nat) (tv sv : Value) (Ft Fs F : List Nat) (L : List (Value × TermD)) : Prop where
 hb : hget H b = some ⟨[tv, sv], 59, none⟩
 rows : OwnF H tv 67 3 (tmRows L) Ft
 sums : OwnF H sv 99 1 (iv .u32 (L.map fun p => sumR p.2)) Fs
 keys : ∀ p ∈ L, ∀ G : AH, (∀ j ∈ F, hget G j = hget H j) → KsV G p.1 p.2.keys
 wf : ∀ p ∈ L, p.2.Wf
 lt : ∀ j ∈ F, j < H.length
 bt : b ∉ Ft
 bs : b ∉ Fs
 bf : b ∉ F
 ts : ∀ j ∈ Ft, j ∉ Fs
 tf : ∀ j ∈ Ft, j ∉ F
 sf : ∀ j ∈ Fs, j ∉ F
theorem RTblF.low {H G : AH} {b : Nat} {tv sv : Value} {Ft Fs F : List Nat} {L : List (Value × TermD)} (h : RTblF H b tv sv Ft Fs F L) (hl : ∀ j ∈ b :: (Ft ++ Fs ++ F), hget G j = hget H j) (hG : H.length ≤ G.length) : RTblF G b tv sv Ft Fs F L :=
 ⟨(hl b (by simp)).trans h.hb, h.rows.low (fun j hj => hl j (by simp [hj])), h.sums.low (fun j hj => hl j (by simp [hj])), fun p hp D hD => h.keys p hp D (fun j hj => (hD j hj).trans (hl j (by simp [hj]))), h.wf, fun j hj => by have := h.lt j hj; omega, h.bt, h.bs, h.bf, h.ts, h.tf, h.sf⟩
theorem RTblF.bound {H : AH} {b : Nat} {tv sv : Value} {Ft Fs F : List Nat} {L : List (Value × TermD)} (h : RTblF H b tv sv Ft Fs F L) : ∀ j ∈ b :: (Ft ++ Fs ++ F), j < H.length := fun j hj => by
 simp only [List.mem_cons, List.mem_append] at hj
 rcases hj with rfl | (hj | hj) | hj
 ·exact hget_lt h.hb
 ·exact h.rows.lt j hj
 ·exact h.sums.lt j hj
 ·exact h.lt j hj
theorem RTblF.at_ {H : AH} {b : Nat} {tv sv : Value} {Ft Fs F : List Nat} {L : List (Value × TermD)} (h : RTblF H b tv sv Ft Fs F L) {i : Nat} {p : Value × TermD} (hi : L[i]? = some p) :
  ∃ q, xindexAddr Tryd.prog 56 tv (.int .i64 (i : Nat)) = some q ∧ notTuple q = true ∧ xload Tryd.prog 67 q H = some (.agg (tmRow p.1 p.2).toArray) := by
 have hl := (List.getElem?_eq_some_iff.1 hi).1
 have hr := tmRows_len L
 rcases h.rows with ⟨_, h2, _⟩ | ⟨j, len, rfl, h2, h3, _⟩
 ·rw [h2] at hr
  simp at hr
  omega
 ·have : len = L.length := by omega
  subst this
  exact ⟨_, tm_addr hl, rfl, tm_load hi h2⟩
theorem RTblF.sat {H : AH} {b : Nat} {tv sv : Value} {Ft Fs F : List Nat} {L : List (Value × TermD)} (h : RTblF H b tv sv Ft Fs F L) {i : Nat} {p : Value × TermD} (hi : L[i]? = some p) :
  ∃ q, xindexAddr Tryd.prog 57 sv (.int .i64 (i : Nat)) = some q ∧ notTuple q = true ∧ xload Tryd.prog 99 q H = some (.int .u32 (sumR p.2)) := by
 have hl := (List.getElem?_eq_some_iff.1 hi).1
 rcases h.sums with ⟨_, h2, _⟩ | ⟨j, len, rfl, h2, h3, _⟩
 ·have := congrArg List.length h2
  simp at this
  rw [this] at hl
  simp at hl
 ·have h3' : L.length = len * 1 := by simpa using h3
  have h1 : und Tryd.prog 57 = .slice 99 := by kernel_rfl
  have h4 : szt Tryd.prog 99 = 1 := by kernel_rfl
  have e1 : isAggD (und Tryd.prog 99) = false := by kernel_rfl
  have e2 : okD (und Tryd.prog 99) = true := by kernel_rfl
  refine ⟨.pointer (some ⟨j, i, none⟩), ?_, rfl, ?_⟩
  ·unfold xindexAddr
   simp only [h1, h4]
   rw [if_pos ⟨by omega, by omega, by omega⟩]
   simp
  ·unfold xload
   simp only [h2, e1, e2]
   simp [iv, hi]
theorem RTblF.slen {H : AH} {b : Nat} {tv sv : Value} {Ft Fs F : List Nat} {L : List (Value × TermD)} (h : RTblF H b tv sv Ft Fs F L) : xlen Tryd.prog 57 sv = some (.int .i64 (L.length : Nat)) ∧ xlen Tryd.prog 56 tv = some (.int .i64 (L.length : Nat)) :=
 ⟨h.sums.len (by kernel_rfl) (n := L.length) (by simp) (by omega), h.rows.len (by kernel_rfl) (tmRows_len L) (by omega)⟩
def posI (x : TermD) (T : List TermD) : Int := match placeT x T with | some i => (i : Nat) | none => -1
theorem place_at {x : TermD} {T : List TermD} (hx : x.Wf) (hT : ∀ y ∈ T, y.Wf) {i : Nat} (hi : T[i]? = some x) (hp : ∀ k, k < i → ∀ y, T[k]? = some y → y ≠ x) : placeT x T = some i := by
 cases h : placeT x T with
 | none =>
  refine absurd ?_ (idxS_none h)
  exact List.mem_map.2 ⟨x, List.mem_of_getElem? hi, rfl⟩
 | some j =>
  have hj := place_some hx hT h
  rcases Nat.lt_trichotomy j i with hlt | rfl | hgt
  ·exact absurd rfl (hp j hlt x hj)
  ·rfl
  ·exfalso
   have : ∀ (L : List ByteArray) (s : ByteArray) (i j : Nat), idxS s L = some j → L[i]? = some s → j ≤ i := by
    intro L
    induction L with
    | nil => intro s i j h; cases h
    | cons y L ih =>
     intro s i j h hi
     unfold idxS at h
     by_cases e : s = y
     ·rw [if_pos e] at h; cases h; omega
     ·rw [if_neg e] at h
      cases hr : idxS s L with
      | none => rw [hr] at h; cases h
      | some j' =>
       rw [hr] at h
       cases h
       cases i with
       | zero => exact absurd (Option.some.inj hi).symm e
       | succ i => have := ih s i j' hr hi; show j' + 1 ≤ i + 1; omega
   have := this _ _ i j h (by rw [List.getElem?_map, hi]; rfl)
   omega
theorem place_no {x : TermD} {T : List TermD} (hx : x.Wf) (hT : ∀ y ∈ T, y.Wf) (hp : ∀ (k : Nat) (y : TermD), T[k]? = some y → y ≠ x) : placeT x T = none := by
 cases h : placeT x T with
 | none => rfl
 | some j => exact absurd rfl (hp j x (place_some hx hT h))
theorem rfind_ac {nro : Nat} {γ : Nat → Option Nat} {H : AH} {b : Nat} {tv sv : Value} {Ft Fs F : List Nat} {L : List (Value × TermD)} (h : RTblF H b tv sv Ft Fs F L) (hnH : nro ≤ H.length) {kv : Value} {x : TermD} (hx : x.Wf) (hv : KsV H kv x.keys) (hL : L.length ≤ 1000000) :
  AC Tryd.prog nro γ 44 #[.pointer (some ⟨b, 0, none⟩), .agg (tmRow kv x).toArray] H (fun v' H' => v' = .int .i64 (posI x (L.map (·.2))) ∧ Low H.length H H') := by
 obtain ⟨hsl, htl⟩ := h.slen
 obtain ⟨hnt, hvc⟩ := val_nt hv
 have hs1 := ownF_nt h.sums
 have hs2 := ownF_nt h.rows
 have hxt := hx.text
 have hxm : x.keys.length ≤ maxLen := by have := hx.many; simp only [maxLen]; omega
 have hsum := fun (G : AH) (hG : KsV G kv x.keys) => sum_rc (γ := γ) (H := G) hG hx.k32 (by omega) hxm
 have hbd := h.bound
 have hTw : ∀ y ∈ L.map (·.2), y.Wf := fun y hy => by
  obtain ⟨p, hp, rfl⟩ := List.mem_map.1 hy
  exact h.wf p hp
 have hrow : tmRow kv x = [.int .i64 (x.kind : Nat), .string x.text, kv] := rfl
 rw [hrow] at hsum ⊢
 obtain ⟨sx, hsx⟩ : ∃ sx, sx = sumR x := ⟨_, rfl⟩
 rw [← hsx] at hsum
 refine ac_of_aw Tryd.func44 rfl Tryd.ntmps44 Tryd.results44 (by simp) ?_
 (refine aw_seq (aoo fun K hK => ?_); simp (disch := first | omega | (simp only [lnS]; try omega)) [-notTuple, hnt, hvc]; refine hK _ _ ?_; clear hK K)
 obtain ⟨B, hB⟩ : ∃ B : AH, B = H ++ [some ⟨[.int .i64 (x.kind : Nat), .string x.text, kv], 67, none⟩] := ⟨_, rfl⟩
 have hgx : hget B H.length = some ⟨[.int .i64 (x.kind : Nat), .string x.text, kv], 67, none⟩ := by rw [hB, hget_app0]; rfl
 have hlx := hget_lt hgx
 have lwB : Low H.length H B := by rw [hB]; exact Low.push (Nat.le_refl _) _
 rw [← hB]
 clear hB
 have hvB : KsV B kv x.keys := CD.Val.low (fun j hj => lwB.1 j hj) hv
 refine aw_seq (aoo fun K hK => ?_)
 simp (disch := first | omega | (simp only [lnS]; try omega)) [hgx, hlx, -notTuple, hnt, hvc]
 refine ⟨by kernel_rfl, ac_of_rc (hsum _ hvB) (by simp [pv_iv, pv_int, pv_bool, pv_string, pv_tup2, pv_tup3, iv_plain, p2_int, p2_bool, p2_string]) ?_⟩
 try simp (disch := first | omega | (simp only [lnS]; try omega)) []
 refine hK _ _ ?_; clear hK K
 refine aw_seq (aw_seq ?_)
 (refine aoo fun K hK => ?_; simp (disch := first | omega | (simp only [lnS]; try omega)) []; refine hK _ _ ?_; clear hK K)
 refine aw_block ?_
 refine aw_loop (fun q α G => ∃ i : Nat, i + q = L.length ∧ Low B.length B G ∧ α 0 = .pointer (some ⟨b, 0, none⟩) ∧ α 3 = .pointer (some ⟨H.length, 0, none⟩) ∧ α 5 = .int .u32 sx ∧ α 6 = .int .i64 (i : Nat) ∧ ∀ (k : Nat), k < i → ∀ y, (L.map (·.2))[k]? = some y → y ≠ x) L.length ?_ ?_
 ·exact ⟨0, by omega, Low.refl (Nat.le_refl _), by (first | (simp; done) | rfl), by (first | (simp; done) | rfl), by (first | (simp; done) | rfl), by (first | (simp; done) | rfl), fun k hk => by omega⟩
 rintro q α G ⟨i, hiq, lwG, h0, h3, h5, h6, hpre⟩
 have lwH : Low H.length H G := ⟨fun j hj => (lwG.1 j (by have := lwB.2; omega)).trans (lwB.1 j hj), by have := lwB.2; have := lwG.2; omega⟩
 have hT := h.low (G := G) (fun j hj => lwH.1 j (hbd j hj)) lwH.2
 have hgb := hT.hb
 have hlb := hget_lt hgb
 have gx := (lwG.1 _ hlx).trans hgx
 have lx := hget_lt gx
 refine aw_seq (aw_seq ?_)
 by_cases hi : i < L.length
 ·have hi' : (i : Int) < L.length := by omega
  obtain ⟨⟨kv2, y⟩, hy⟩ : ∃ p, L[i]? = some p := ⟨_, List.getElem?_eq_getElem hi⟩
  have hyT : (L.map (·.2))[i]? = some y := by rw [List.getElem?_map, hy]; rfl
  have hym := List.mem_of_getElem? hy
  obtain ⟨a1, a2, a3, a4⟩ := hT.at_ hy
  obtain ⟨b1, b2, b3, b4⟩ := hT.sat hy
  have hv2 := hT.keys _ hym
  have hwy := hT.wf _ hym
  have hvy : KsV G kv2 y.keys := hv2 G (fun _ _ => rfl)
  have hvx : KsV G kv x.keys := CD.Val.low (fun j hj => lwG.1 j hj) hvB
  obtain ⟨hnt2, hvc2⟩ := val_nt hvy
  have ldt : xload Tryd.prog 56 (.pointer (some ⟨b, 0, none⟩)) G = some tv := by simp [xload, hgb]
  have lds : xload Tryd.prog 57 (.pointer (some ⟨b, 1, none⟩)) G = some sv := by simp [xload, hgb]
  simp only at b4 a4
  (refine aoo fun K hK => ?_; simp (disch := first | omega | (simp only [lnS]; try omega)) [h0, h6, -xload, lds, -notTuple, hs1.1, hs1.2, -xlen, hsl, hi']; refine hK _ _ ?_; clear hK K)
  refine aw_t (by (first | (simp [hi']; done) | (simp [hi']; omega))) (by kernel_rfl) ?_
  refine aw_skip (aw_seq ?_)
  refine aw_block ?_
  refine aw_seq (aw_seq ?_)
  have hnext : y ≠ x → ∀ (k : Nat), k < i + 1 → ∀ y', (L.map (·.2))[k]? = some y' → y' ≠ x := fun hyx k hk y' hy' => by
   rcases Nat.lt_succ_iff_lt_or_eq.1 hk with hk | rfl
   ·exact hpre k hk y' hy'
   ·rw [hyT] at hy'
    cases hy'
    exact hyx
  obtain ⟨sy, hsy⟩ : ∃ sy, sy = sumR y := ⟨_, rfl⟩
  rw [← hsy] at b4
  by_cases hse : sy = sx
  case neg =>
   have hyx : y ≠ x := fun e => hse (by rw [hsy, hsx, e])
   (refine aoo fun K hK => ?_; simp (disch := first | omega | (simp only [lnS]; try omega)) [h0, h5, h6, -xload, lds, b4, -xindexAddr, b2, b3, -notTuple, hs1.1, hs1.2, hse]; refine hK _ _ ?_; clear hK K)
   refine aw_t (by (first | (simp [hse]; done) | (simp [hse]; omega))) (by kernel_rfl) ?_
   refine aw_exit ?_
   (refine aoo fun K hK => ?_; simp (disch := first | omega | (simp only [lnS]; try omega)) [h6]; refine hK _ _ ?_; clear hK K)
   exact ⟨q - 1, by omega, i + 1, by omega, lwG, by (first | (simp [h0]; done) | rfl), by (first | (simp [h3]; done) | rfl), by (first | (simp [h5]; done) | rfl), by (first | (simp; done) | rfl), hnext hyx⟩
  (refine aoo fun K hK => ?_; simp (disch := first | omega | (simp only [lnS]; try omega)) [h0, h5, h6, -xload, lds, b4, -xindexAddr, b2, b3, -notTuple, hs1.1, hs1.2, hse]; refine hK _ _ ?_; clear hK K)
  refine aw_f (by (first | (simp [hse]; done) | (simp [hse]; omega))) (by kernel_rfl) ?_
  refine aw_skip (aw_seq ?_)
  have hrow2 : tmRow kv2 y = [.int .i64 (y.kind : Nat), .string y.text, kv2] := rfl
  rw [hrow2] at a4
  have hGl : H.length < G.length := hget_lt gx
  have p1 : plain1 (.slice none 0 0) = true := rfl
  have r3 : List.range 3 = [0, 1, 2] := rfl
  have hnG : nro ≤ G.length := by omega
  (refine aoo fun K hK => ?_; simp (disch := first | omega | (simp only [lnS]; try omega)) [h0, h6, -xload, ldt, a4, -xindexAddr, a2, a3, -notTuple, hs2.1, hs2.2, hnt2, hvc2, hnG, p1, r3]; refine hK _ _ ?_; clear hK K)
  obtain ⟨G2, hG2⟩ : ∃ G2 : AH, G2 = G ++ [some ⟨[.int .i64 (y.kind : Nat), .string y.text, kv2], 67, none⟩] := ⟨_, rfl⟩
  have lw2 : Low G.length G G2 := by rw [hG2]; exact Low.push (Nat.le_refl _) _
  have gy2 : hget G2 G.length = some ⟨[.int .i64 (y.kind : Nat), .string y.text, kv2], 67, none⟩ := by rw [hG2, hget_app0]; rfl
  have gx2 := (lw2.1 _ lx).trans gx
  have ly2 := hget_lt gy2
  have lx2 := hget_lt gx2
  rw [← hG2]
  clear hG2
  have hvy : KsV G2 kv2 y.keys := CD.Val.low (fun j hj => lw2.1 j hj) hvy
  have hvx : KsV G2 kv x.keys := CD.Val.low (fun j hj => lw2.1 j hj) hvx
  have hsk := sameKeys_rc (γ := γ) hvx hvy hx.k32 hwy.k32 hxm
  have lwB2 : Low B.length B G2 := ⟨fun j hj => (lw2.1 j (by have := lwG.2; omega)).trans (lwG.1 j hj), by have := lwG.2; have := lw2.2; omega⟩
  have lwH2 : Low H.length H G2 := ⟨fun j hj => (lwB2.1 j (by have := lwB.2; omega)).trans (lwB.1 j hj), by have := lwB.2; have := lwB2.2; omega⟩
  have hkb : (((y.kind : Nat) : Int) == ((x.kind : Nat) : Int)) = decide (y.kind = x.kind) := by rw [Bool.eq_iff_iff]; simp; omega
  have htb : (y.text.toList == x.text.toList) = decide (y.text = x.text) := tl_beq _ _
  refine aw_seq ?_
  refine aw_cut (fun α' G' => α' 0 = .pointer (some ⟨b, 0, none⟩) ∧ α' 3 = .pointer (some ⟨H.length, 0, none⟩) ∧ α' 5 = .int .u32 sx ∧ α' 6 = .int .i64 (i : Nat) ∧ α' 53 = .bool (sameT y x) ∧ G' = G2) ?_ ?_
  ·by_cases k1 : y.kind = x.kind
   ·rw [decide_eq_true k1] at hkb
    have k1i : (y.kind : Int) = x.kind := by omega
    by_cases k2 : y.text = x.text
    ·rw [decide_eq_true k2] at htb
     have hs3 : sameT y x = decide (x.keys = y.keys) := by
      unfold sameT
      rw [decide_eq_true k1, decide_eq_true k2, Bool.true_and, Bool.true_and]
      exact decide_eq_decide.2 eq_comm
     rw [hs3]
     refine aoo fun K hK => ?_
     simp (disch := first | omega | (simp only [lnS]; try omega)) [h3, gx2, lx2, gy2, ly2, -notTuple, hnt, hvc, hnt2, hvc2, hkb, k1i, htb, k2]
     refine ⟨by kernel_rfl, ac_of_rc hsk (by simp [pv_iv, pv_int, pv_bool, pv_string, pv_tup2, pv_tup3, iv_plain, p2_int, p2_bool, p2_string]) ?_⟩
     try simp (disch := first | omega | (simp only [lnS]; try omega)) []
     refine hK _ _ ?_; clear hK K
     exact ⟨by (first | (simp [h0]; done) | rfl), by (first | (simp [h3]; done) | rfl), by (first | (simp [h5]; done) | rfl), by (first | (simp [h6]; done) | rfl), by (first | (simp; done) | rfl), rfl⟩
    ·rw [decide_eq_false k2] at htb
     have hs3 : sameT y x = false := by
      unfold sameT
      rw [decide_eq_false k2, Bool.false_and, Bool.and_false]
     rw [hs3]
     refine aoo fun K hK => ?_
     simp (disch := first | omega | (simp only [lnS]; try omega)) [h3, gx2, lx2, gy2, ly2, -notTuple, hnt, hvc, hnt2, hvc2, hkb, k1i, htb, k2]
     refine hK _ _ ?_; clear hK K
     exact ⟨by (first | (simp [h0]; done) | rfl), by (first | (simp [h3]; done) | rfl), by (first | (simp [h5]; done) | rfl), by (first | (simp [h6]; done) | rfl), by (first | (simp; done) | rfl), rfl⟩
   ·rw [decide_eq_false k1] at hkb
    have k1i : ¬ (y.kind : Int) = x.kind := by omega
    have hs3 : sameT y x = false := by
     unfold sameT
     rw [decide_eq_false k1, Bool.false_and]
    rw [hs3]
    refine aoo fun K hK => ?_
    simp (disch := first | omega | (simp only [lnS]; try omega)) [h3, gx2, lx2, gy2, ly2, -notTuple, hnt, hvc, hnt2, hvc2, hkb, k1i]
    refine hK _ _ ?_; clear hK K
    exact ⟨by (first | (simp [h0]; done) | rfl), by (first | (simp [h3]; done) | rfl), by (first | (simp [h5]; done) | rfl), by (first | (simp [h6]; done) | rfl), by (first | (simp; done) | rfl), rfl⟩
  rintro α' G' ⟨h0, h3, h5, h6, h53, rfl⟩
  by_cases hyx : y = x
  ·have hsT : sameT y x = true := sameT_iff.2 hyx
   rw [hsT] at h53
   refine aw_t (by (first | (simp [h53]; done) | (simp [h53]; omega))) (by kernel_rfl) ?_
   (refine aw_seq (aoo fun K hK => ?_); simp (disch := first | omega | (simp only [lnS]; try omega)) [h6]; refine hK _ _ ?_; clear hK K)
   have hat : placeT x (L.map (·.2)) = some i := place_at hx hTw (by rw [hyT, hyx]) (fun k hk y' hy' => hpre k hk y' hy')
   unfold posI
   rw [hat]
   (refine aw_ret ?_; simp (disch := first | omega | (simp only [lnS]; try omega)) [thenQ_ret, scopeQ_ret, inBlockQ_ret, RQ, resL, resV])
   exact lwH2
  ·have hsT : sameT y x = false := by
    cases hh : sameT y x with
    | false => rfl
    | true => exact absurd (sameT_iff.1 hh) hyx
   rw [hsT] at h53
   refine aw_f (by (first | (simp [h53]; done) | (simp [h53]; omega))) (by kernel_rfl) ?_
   refine aw_skip ?_
   (refine aoo fun K hK => ?_; simp (disch := first | omega | (simp only [lnS]; try omega)) [h6]; refine hK _ _ ?_; clear hK K)
   exact ⟨q - 1, by omega, i + 1, by omega, lwB2, by (first | (simp [h0]; done) | rfl), by (first | (simp [h3]; done) | rfl), by (first | (simp [h5]; done) | rfl), by (first | (simp; done) | rfl), hnext hyx⟩
 ·obtain rfl : i = L.length := by omega
  have lds : xload Tryd.prog 57 (.pointer (some ⟨b, 1, none⟩)) G = some sv := by simp [xload, hgb]
  (refine aoo fun K hK => ?_; simp (disch := first | omega | (simp only [lnS]; try omega)) [h0, h6, -xload, lds, -notTuple, hs1.1, hs1.2, -xlen, hsl]; refine hK _ _ ?_; clear hK K)
  refine aw_f (by (first | (simp; done) | (simp; omega))) (by kernel_rfl) ?_
  refine aw_exit (aw_seq ?_)
  (refine aoo fun K hK => ?_; simp (disch := first | omega | (simp only [lnS]; try omega)) []; refine hK _ _ ?_; clear hK K)
  have hno : placeT x (L.map (·.2)) = none := place_no hx hTw (fun k y hk => hpre k (by have := (List.getElem?_eq_some_iff.1 hk).1; simpa using this) y hk)
  unfold posI
  rw [hno]
  (refine aw_ret ?_; simp (disch := first | omega | (simp only [lnS]; try omega)) [thenQ_ret, scopeQ_ret, inBlockQ_ret, RQ, resL, resV])
  exact lwH
end
end
end Go.Proofs.YtecjhpamfkfilaaDoor
