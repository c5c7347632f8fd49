/-
  Copy, of the machine; all operations that make or write memory in one; a list of operations run by the function. Over any program.
-/
import Derived.Test.YtjfhdckcjkgjnaaDoorXv
namespace Go.Proofs.YtjfhdckcjkgjnaaDoor
open Go Go.RowKit
set_option linter.unusedVariables false
section
variable {P : Program} {nro n base : Nat} {γ : Nat → Option Nat} {m : List Ent} {H : AH} {α : Fm} {a : Act} {w : World}

theorem iv_all (k : IntKind) (l : List Int) : (iv k l).all plain1 = true := by
  unfold iv
  rw [List.all_map, List.all_eq_true]
  intro x _
  rfl
theorem copy_store (hR : Rel nro base γ m H w) {i off len c : Nat} {k : Blk} {d' : Value} {news news' : List Value} (hd : V m (.slice (some ⟨i, off, none⟩) len c) d') (hk : hget H i = some k) (hi : nro ≤ i) (hv : Vs m news news')
    (hl : off + news.length ≤ k.cells.length) : ∃ (e : Ent) (c' : Nat) (w' : World), d' = .slice (some ⟨e.b, off, none⟩) len c' ∧ (storeCells ⟨e.b, off, none⟩ news').run P w = .ok () w' ∧ Rel nro base γ m (H.set i (some ⟨setR k.cells off news, k.ty, k.es⟩)) w' ∧ Below base w w' := by
  obtain ⟨en, c', hen, _, rfl, _⟩ := hd.slw_
  have ho := hR.own i en hi hen
  obtain ⟨w', h1, h2, h3⟩ := storeCells_rel (P := P) hi hen news news' off 0 H w k hv hR (hget_some hk) (by omega)
  exact ⟨en, c', w', by rw [ho.2, Nat.zero_add], h1, h2, h3⟩
theorem copy_run (hR : Rel nro base γ m H w) {t u ty : TypeId} {d x d' x' v : Value} {H' : AH} (hd : V m d d') (hx : V m x x') (h : xcopy P nro t d x H = some (v, H')) :
    ∃ v' w', (Builtin.copy_ #[t, u] ty #[d', x']).run P w = .ok v' w' ∧ V m v v' ∧ Rel nro base γ m H' w' ∧ Below base w w' := by
  unfold xcopy at h
  split at h
  case h_2 => cases h
  rename_i e hu
  have hus := und_some hu (by simp)
  split at h
  · -- into a known block
    rename_i news i off len c hnews
    split at h
    case h_2 => cases h
    rename_i k hk
    split at h
    case isFalse => cases h
    rename_i hc
    obtain ⟨h0, hi, hll⟩ := hc
    cases h
    obtain ⟨nn, hnn⟩ : ∃ nn, nn = min (news.length / szt P e) len := ⟨_, rfl⟩
    rw [← hnn]
    have hnl : nn ≤ len := by omega
    have hnl2 : nn * szt P e ≤ len * szt P e := Nat.mul_le_mul_right _ hnl
    have hnn2 : nn * szt P e ≤ news.length := Nat.le_trans (Nat.mul_le_mul_right _ (by omega : nn ≤ news.length / szt P e)) (Nat.div_mul_le_self _ _)
    have fin : ∀ (news' : List Value) (hv : Vs m (news.take (nn * szt P e)) news'), (∀ w', (Builtin.lenOf x').run P w' = .ok (news.length / szt P e) w') → (Builtin.firstCells (szt P e) nn x').run P w = .ok news'.toArray w →
        ∃ v' w', (Builtin.copy_ #[t, u] ty #[d', x']).run P w = .ok v' w' ∧ V m (.int .i64 (nn : Int)) v' ∧ Rel nro base γ m (H.set i (some ⟨setR k.cells off (news.take (nn * szt P e)), k.ty, k.es⟩)) w' ∧ Below base w w' := by
      intro news' hv hlen hfirst
      obtain ⟨en, c', w', rfl, h1, h2, h3⟩ := copy_store (P := P) hR hd hk hi hv (by simp; omega)
      refine ⟨.int .i64 (nn : Int), w', ?_, plainV_mk rfl, h2, h3⟩
      have hmin : Nat.min (news.length / szt P e) len = nn := hnn.symm
      simp [Builtin.copy_, run_underlying hus, hlen, run_sizeOf h0, hmin, hfirst, h1, goInt]
    by_cases hstr : ∃ s, x = .string s
    · obtain ⟨s, rfl⟩ := hstr
      have := hx.eq rfl
      subst this
      unfold xcells at hnews
      simp only at hnews
      split at hnews
      case isFalse => cases hnews
      rename_i hsz
      cases hnews
      rw [hsz] at hnn fin ⊢
      simp only [Nat.mul_one, iv_length, List.length_map, Nat.div_one] at hnn fin ⊢
      have hsl : s.data.toList.length = s.size := by simp
      rw [hsl] at hnn fin
      refine fin (iv .u8 ((s.data.toList.map fun b => (b.toNat : Int)).take nn)) ?_ (fun w' => rfl) ?_
      · rw [iv_take]; exact plain_Vs (iv_all _ _)
      · show Result.ok ((s.extract 0 nn).data.map fun b => Value.int .u8 b.toNat) w = _
        congr 1
        have hle : nn ≤ s.size := by omega
        apply Array.ext'
        simp only [iv, List.map_take, List.map_map, ByteArray.data_extract, Array.toList_map]
        simp [Function.comp_def]
    · rcases xcells_slice hR hx hnews (fun s e => hstr ⟨s, e⟩) with ⟨rfl, rfl⟩ | ⟨ad, cnt, c, news', rfl, hv, hl', hcell⟩
      · have hn0 : nn = 0 := by rw [hnn]; simp
        refine fin [] ⟨by simp, by simp⟩ (fun w' => by simp [Builtin.lenOf]) (by simp [Builtin.firstCells])
      · have hnlen : news.length = cnt * szt P e := by rw [← hv.1]; exact hl'
        have hdiv : news.length / szt P e = cnt := by rw [hnlen]; exact Nat.mul_div_cancel _ h0
        refine fin (news'.take (nn * szt P e)) (hv.take _) (fun w' => by simp [Builtin.lenOf, hdiv]) ?_
        refine run_firstCells_some w (szt P e) nn ad cnt c _ (by rw [List.length_take, hv.1]; omega) (fun j v hj => ?_)
        have hjl : j < nn * szt P e := by
          rcases Nat.lt_or_ge j (nn * szt P e) with h | h
          · exact h
          · rw [List.getElem?_eq_none (by simp; omega)] at hj; cases hj
        rw [List.getElem?_take_of_lt hjl] at hj
        exact hcell j v hj
  · rename_i news b off hnews
    split at h
    case isFalse => cases h
    rename_i h0
    cases h
    have hy : ∃ a c, d' = .slice (some a) 0 c := by
      cases hd with
      | two h => cases h with
        | one h => cases h with
          | plain h => cases h
          | sl0 => exact ⟨_, _, rfl⟩
    obtain ⟨a', c', rfl⟩ := hy
    refine ⟨.int .i64 0, w, ?_, plainV_mk rfl, hR, .refl _ _⟩
    by_cases hstr : ∃ s, x = .string s
    · obtain ⟨s, rfl⟩ := hstr
      have := hx.eq rfl
      subst this
      simp [Builtin.copy_, run_underlying hus, Builtin.lenOf, run_sizeOf h0, Builtin.firstCells, goInt, storeCells]
    · rcases xcells_slice hR hx hnews (fun s e => hstr ⟨s, e⟩) with ⟨rfl, rfl⟩ | ⟨ad, cnt, c, news', rfl, hv, hl', hcell⟩
      · simp [Builtin.copy_, run_underlying hus, Builtin.lenOf, run_sizeOf h0, Builtin.firstCells, goInt, storeCells]
      · simp [Builtin.copy_, run_underlying hus, Builtin.lenOf, run_sizeOf h0, Builtin.firstCells, goInt, storeCells, loadCells, loadCellsFrom]
  · cases h

theorem run_v2 {S : Sem Value} {x : Value} {w w' : World} (h : S.run P w = .ok x w') : (do pure (.value (← S)) : Sem Next).run P w = .ok (.value x) w' := by
  simp [h]
theorem xeff_ev {o : Oper} {v : Value} {H' : AH} (hR : Rel nro base γ m H w) (ev : ∀ x ∈ o.op.operands, V m (α.eval γ x) (a.eval x)) (h : xeff P nro γ o.op α H = some (v, H')) :
    ∃ m' x w' v', (execOp a.eval o).run P w = .ok x w' ∧ (x = .value v' ∨ x = .skip ∧ v' = undef) ∧ m <+: m' ∧ V m' v v' ∧ Rel nro base γ m' H' w' ∧ Below base w w' := by
  obtain ⟨dst, op, type, pos, after, guard⟩ := o
  simp only at ev h
  have hlen2 : m.length = H.length := hR.len
  have newp : ∀ (cs : Array Value), V (m ++ [⟨w.heap.size, 0, cs.size, none⟩]) (.pointer (some ⟨H.length, 0, none⟩)) (.pointer (some ⟨w.heap.size, 0, none⟩)) := fun cs =>
    .one (.ptr (e := ⟨w.heap.size, 0, cs.size, none⟩) (by rw [← hlen2]; simp))
  unfold xeff at h
  split at h
  · rename_i t
    split at h
    case h_2 => cases h
    rename_i z hz
    split at h
    case isFalse => cases h
    rename_i hp
    cases h
    refine ⟨_, _, _, _, ?_, .inl rfl, pre_app _ _, newp z.cells, hR.alloc z.cells t none (plain_Vs hp), (Below.refl _ _).alloc hR.base_le _⟩
    refine run_v2 ?_
    simp [Instr.alloc, run_zero hz, newVar, run_newRow]
  · rename_i t x
    split at h
    case isFalse => cases h
    rename_i hn
    cases h
    obtain ⟨hc, _⟩ := ((ev x (by simp [Op.operands])).v2 hn).cells hn
    refine ⟨_, _, _, _, ?_, .inl rfl, pre_app _ _, newp (a.eval x).cells, hR.alloc (a.eval x).cells t none hc, (Below.refl _ _).alloc hR.base_le _⟩
    refine run_v2 ?_
    simp [Instr.box, newVar, run_newRow]
  · rename_i t p x
    split at h
    case h_2 => cases h
    rename_i i off hp
    split at h
    case h_2 => cases h
    rename_i k hk
    split at h
    case isFalse => cases h
    rename_i hc
    cases h
    obtain ⟨hi, hn, hs, h0, hl⟩ := hc
    have hp' := ev p (by simp [Op.operands])
    rw [hp] at hp'
    obtain ⟨w', h1, h2, h3⟩ := storeAt_run (P := P) hR hp' (ev x (by simp [Op.operands])) hi hk hn hs h0 hl
    refine ⟨m, .skip, w', undef, ?_, .inr ⟨rfl, rfl⟩, List.prefix_rfl, plainV_mk plainV_undef, h2, h3⟩
    simp [execOp, h1]
  · rename_i t len ps
    split at h
    case h_2 => cases h
    rename_i e hu
    split at h
    case h_2 => cases h
    rename_i z hz
    split at h
    case isFalse => cases h
    rename_i hc
    obtain ⟨h0, hzs, hp, hl, hn⟩ := hc
    split at h
    case h_2 => cases h
    rename_i cs hf
    cases h
    obtain ⟨m', v', w', h1, h2, h3, h4, h5⟩ := buildSlice_run (P := P) hR (t := t) (len := len) (parts := ps.toList.map fun p => (p.1, α.eval γ p.2)) (parts' := ps.toList.map fun p => (p.1, a.eval p.2)) hu hz h0 hzs hp hl
      (by rw [List.all_map]; exact hn) (by simp) (fun j p hj => by
      rw [List.getElem?_map] at hj ⊢
      cases hq : ps.toList[j]? with
      | none => rw [hq] at hj; cases hj
      | some q =>
        rw [hq] at hj
        cases hj
        refine ⟨_, rfl, rfl, ev q.2 ?_⟩
        simp only [Op.operands, List.mem_toArray, List.mem_map]
        exact ⟨q, List.mem_of_getElem? hq, rfl⟩) hf
    refine ⟨m', _, w', v', run_v2 ?_, .inl rfl, h2, h3, h4, h5⟩
    rw [← h1]
    congr 2
    apply Array.toList_inj.1
    simp
  · rename_i t l c
    split at h
    case h_2 => cases h
    rename_i e k1 l1 k2 c1 hu hl hc
    split at h
    case h_2 => cases h
    rename_i z hz
    split at h
    case isFalse => cases h
    rename_i hcond
    obtain ⟨h0, hzs, hp, hl0, hlc, hb, hm⟩ := hcond
    cases h
    have hl' := ev l (by simp [Op.operands])
    have hc' := ev c (by simp [Op.operands])
    rw [hl] at hl'
    rw [hc] at hc'
    obtain ⟨m', v', w', h1, h2, h3, h4, h5⟩ := makeSlice_run (P := P) hR (t := t) (k := k1) (k' := k2) hu hz h0 hzs hp hl0 hlc hb hm
    refine ⟨m', _, w', v', run_v2 ?_, .inl rfl, h2, h3, h4, h5⟩
    rw [hl'.int_, hc'.int_]
    exact h1
  · rename_i s d x
    split at h
    case h_2 => cases h
    rename_i e b hs hd hx
    split at h
    case h_2 => cases h
    rename_i he
    cases h
    have hx' := ev x (by simp [Op.operands])
    rw [hx] at hx'
    obtain ⟨m', v', w', h1, h2, h3, h4, h5⟩ := bytes_run (P := P) hR (b := b) hs hd he
    refine ⟨m', _, w', v', run_v2 ?_, .inl rfl, h2, h3, h4, h5⟩
    rw [hx'.eq rfl]
    exact h1
  · rename_i c
    obtain ⟨callee, args, argTypes⟩ := c
    obtain ⟨args⟩ := args
    obtain ⟨argTypes⟩ := argTypes
    simp only at h
    split at h
    · rename_i s x t u
      split at h
      case isFalse =>
        obtain ⟨m', v', w', h1, h2, h3, h4, h5⟩ := app2_run (P := P) (ty := type) hR (ev s (by simp [Op.operands, Call.operands])) (ev x (by simp [Op.operands, Call.operands])) h
        refine ⟨m', _, w', v', ?_, .inl rfl, h2, h3, h4, h5⟩
        simp [execOp, resolve, invoke, builtin, h1]
      rename_i htu
      subst htu
      obtain ⟨m', v', w', h1, h2, h3, h4, h5⟩ := append_run (P := P) (ty := type) hR (ev s (by simp [Op.operands, Call.operands])) (ev x (by simp [Op.operands, Call.operands])) h
      refine ⟨m', _, w', v', ?_, .inl rfl, h2, h3, h4, h5⟩
      simp [execOp, resolve, invoke, builtin, h1]
    · rename_i d x t u
      obtain ⟨v', w', h1, h2, h3, h4⟩ := copy_run (P := P) (u := u) (ty := type) hR (ev d (by simp [Op.operands, Call.operands])) (ev x (by simp [Op.operands, Call.operands])) h
      refine ⟨m, _, w', v', ?_, .inl rfl, List.prefix_rfl, h2, h3, h4⟩
      simp [execOp, resolve, invoke, builtin, h1]
    · cases h
  · cases h
theorem xeff_av {o : Oper} {v : Value} {H' : AH} (hok : o.op.operands.all (okOpd n γ) = true) (h : xeff P nro γ o.op α H = some (v, H')) : AV P nro n γ o α H v H' :=
  fun m base w a hR hF => xeff_ev hR (fun x hx => hF.eval hR (by
    obtain ⟨i, hi, rfl⟩ := Array.mem_iff_getElem.1 hx
    exact (Array.all_eq_true.1 hok) i hi)) h
end
end Go.Proofs.YtjfhdckcjkgjnaaDoor
