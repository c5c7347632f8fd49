/-
  Operations that only read: each of them, of the machine. Over any program.
-/
import Derived.Test.YtjfhdckcjkgjnaaDoorXr
namespace Go.Proofs.YtjfhdckcjkgjnaaDoor
open Go Go.RowKit
set_option linter.unusedVariables false
section
variable {P : Program} {nro n base : Nat} {γ : Nat → Option Nat} {m : List Ent} {H : AH} {α : Fm} {a : Act} {w : World}

theorem strOfNums_nil : strOfNums [] = ByteArray.empty := rfl
theorem xconv_run (hR : Rel nro base γ m H w) {s d : TypeId} {x x' v : Value} (hx : V m x x') (h : xconv P s d x H = some v) : ∃ v', V m v v' ∧ ∀ w', Below w.heap.size w w' → (convert s d x').run P w' = .ok v' w' := by
  unfold xconv at h
  split at h
  · rename_i k k0 v0 hd
    split at h
    case isFalse => cases h
    rename_i hs
    cases h
    have := hx.int_
    subst this
    have h1 := und_some (rfl : und P s = und P s) (okD_ne hs)
    have h2 := und_some hd (by simp)
    refine ⟨_, plainV_mk rfl, fun w' _ => ?_⟩
    simp only [convert, Sem.run_bind, run_underlying h1, run_underlying h2, Result.andThen_ok]
    cases und P s <;> simp [Conv.intToInt]
  · rename_i b hd
    split at h
    case isFalse => cases h
    rename_i hs
    cases h
    have := hx.eq rfl
    subst this
    have h1 := und_some (rfl : und P s = und P s) (okD_ne hs)
    have h2 := und_some hd (by simp)
    refine ⟨_, plainV_mk rfl, fun w' _ => ?_⟩
    simp only [convert, Sem.run_bind, run_underlying h1, run_underlying h2, Result.andThen_ok]
    cases und P s <;> simp
  · rename_i l c hd
    split at h
    case h_2 => cases h
    rename_i e hs
    split at h
    case h_2 => cases h
    rename_i he
    cases h
    have := hx.eq rfl
    subst this
    exact ⟨_, plainV_mk rfl, fun w' _ => run_convert_bytes_nil w' s e (und_some hs (by simp)) (und_some he (by simp)) _ _ d (und_some hd (by simp))⟩
  · rename_i i off len c hd
    split at h
    case h_2 => cases h
    rename_i e hs
    split at h
    case h_2 => cases h
    rename_i he
    split at h
    case h_2 => cases h
    rename_i k hk
    split at h
    case h_2 => cases h
    rename_i ns hns
    split at h
    case isFalse => cases h
    rename_i hl
    cases h
    obtain ⟨en, c', hen, hc, rfl, _⟩ := hx.slw_
    have hin := hR.inb i en hen
    refine ⟨_, plainV_mk rfl, fun w' hb => run_convert_bytes_arg w' s e (und_some hs (by simp)) (und_some he (by simp)) en.b (en.o + off) _ c' ns hl (fun j hj => ?_) d (und_some hd (by simp))⟩
    have h1 := byteList_spec hns
    have h2 : (iv .u8 ns)[j]? = some (.int .u8 (ns.getD j 0)) := iv_get _ _ _ (by omega)
    rw [← h1] at h2
    rw [List.getElem?_take_of_lt (by omega), List.getElem?_drop] at h2
    obtain ⟨y, hy, hv⟩ := hR.cell hk hen h2
    have := hv.eq rfl
    subst this
    rw [Nat.add_assoc]
    exact (hb.cell (p := ⟨en.b, en.o + (off + j), none⟩) hin).trans hy
  · cases h
theorem xfield_run {t : TypeId} {x x' v : Value} {f : Nat} (hx : V m x x') (h : xfield P t x f = some v) : ∃ v', V m v v' ∧ ∀ w' : World, (Instr.field t x' f).run P w' = .ok v' w' := by
  unfold xfield at h
  split at h
  case h_2 => cases h
  rename_i l cs hfl
  obtain ⟨fs, hu, rfl⟩ := flds_some hfl
  split at h
  case h_2 => cases h
  rename_i fd0 hf0
  rw [List.getElem?_map] at hf0
  cases hf : fs.toList[f]? with
  | none => rw [hf] at hf0; cases hf0
  | some fd =>
  rw [hf] at hf0
  cases hf0
  have hf : fs[f]? = some fd := by simpa using hf
  obtain ⟨ds, rfl, hs, hv⟩ := hx.agg_
  obtain ⟨v', h1, h2⟩ := xpart_run hs hv h
  refine ⟨v', .two h1, fun w' => ?_⟩
  simp [Instr.field, run_underlying (und_some hu (by simp)), hf, asAgg, h2]
theorem xfieldAddr_run {t : TypeId} {x x' v : Value} {f : Nat} (hx : V m x x') (h : xfieldAddr P t x f = some v) : ∃ v', V m v v' ∧ ∀ w' : World, (Instr.fieldAt t x' f).run P w' = .ok v' w' := by
  unfold xfieldAddr at h
  split at h
  case h_2 => cases h
  rename_i l i off hfl
  obtain ⟨fs, hu, rfl⟩ := flds_some hfl
  split at h
  case h_2 => cases h
  rename_i fd0 hf0
  rw [List.getElem?_map] at hf0
  cases hf : fs.toList[f]? with
  | none => rw [hf] at hf0; cases hf0
  | some fd =>
  rw [hf] at hf0
  cases hf0
  have hf : fs[f]? = some fd := by simpa using hf
  split at h
  case isFalse => cases h
  rename_i hs
  cases h
  obtain ⟨e, he, rfl⟩ := hx.ptr_
  refine ⟨.pointer (some ⟨e.b, e.o + (off + fd.offset), none⟩), .one (.ptr he), fun w' => ?_⟩
  have hs : 0 < szt P fd.type := hs
  have hs' : ¬ szt P fd.type = 0 := by omega
  simp [Instr.fieldAt, run_underlying (und_some hu (by simp)), hf, Instr.sureAddr, fieldPlace, run_sizeOf hs, hs', add_none, Nat.add_assoc]
theorem xindexAddr_run {t : TypeId} {x x' ix ix' v : Value} (hx : V m x x') (hi : V m ix ix') (h : xindexAddr P t x ix = some v) : ∃ v', V m v v' ∧ ∀ w' : World, (Instr.indexAt t x' ix').run P w' = .ok v' w' := by
  unfold xindexAddr at h
  split at h
  · rename_i nn e i off k j hu
    split at h
    case isFalse => cases h
    rename_i hc
    cases h
    obtain ⟨en, he, rfl⟩ := hx.ptr_
    have := hi.int_
    subst this
    refine ⟨.pointer (some ⟨en.b, en.o + (off + j.toNat * szt P e), none⟩), .one (.ptr he), fun w' => ?_⟩
    have h3 : 0 ≤ j ∧ j < (nn : Int) := ⟨hc.1, hc.2.1⟩
    simp [Instr.indexAt, asIntOf, run_underlying (und_some hu (by simp)), Instr.sureAddr, h3, run_sizeOf hc.2.2, add_none, Nat.add_assoc]
  · rename_i e i off len c k j hu
    split at h
    case isFalse => cases h
    rename_i hc
    cases h
    obtain ⟨en, c', he, _, rfl, _⟩ := hx.slw_
    have := hi.int_
    subst this
    refine ⟨.pointer (some ⟨en.b, en.o + (off + j.toNat * szt P e), none⟩), .one (.ptr he), fun w' => ?_⟩
    have h3 : 0 ≤ j ∧ j < (len : Int) := ⟨hc.1, hc.2.1⟩
    simp [Instr.indexAt, asIntOf, run_underlying (und_some hu (by simp)), h3, run_sizeOf hc.2.2, add_none, Nat.add_assoc]
  · cases h
theorem xindex_run {t : TypeId} {x x' ix ix' v : Value} (hx : V m x x') (hi : V m ix ix') (h : xindex P t x ix = some v) : ∃ v', V m v v' ∧ ∀ w' : World, (Instr.index t x' ix').run P w' = .ok v' w' := by
  unfold xindex at h
  split at h
  · rename_i nn e cs k j hu
    split at h
    case isFalse => cases h
    rename_i hc
    obtain ⟨ds, rfl, hs, hv⟩ := hx.agg_
    have := hi.int_
    subst this
    obtain ⟨v', h1, h2⟩ := xpart_run hs hv h
    refine ⟨v', .two h1, fun w' => ?_⟩
    have h3 : 0 ≤ j ∧ j < (nn : Int) := ⟨hc.1, hc.2.1⟩
    simp [Instr.index, asIntOf, run_underlying (und_some hu (by simp)), h3, run_sizeOf hc.2.2, h2]
  · rename_i s k j hu
    split at h
    case isFalse => cases h
    rename_i hc
    cases h
    have h1 := hx.eq rfl
    have h2 := hi.int_
    subst h1 h2
    refine ⟨_, plainV_mk rfl, fun w' => ?_⟩
    have h3 : j.toNat < s.size := by omega
    simp [Instr.index, asIntOf, run_underlying (und_some hu (by simp)), hc.1, h3, gb_at s _ h3]
  · cases h
theorem xlen_run {t ty : TypeId} {x x' v : Value} (hx : V m x x') (h : xlen P t x = some v) : ∃ v', V m v v' ∧ ∀ w' : World, (Builtin.len_ #[t] ty #[x']).run P w' = .ok v' w' := by
  unfold xlen at h
  split at h
  · rename_i s hu
    cases h
    have := hx.eq rfl
    subst this
    refine ⟨_, plainV_mk rfl, fun w' => ?_⟩
    simp [Builtin.len_, run_underlying (und_some hu (by simp)), goInt]
  · rename_i e ad k c hu
    cases h
    have hy : ∃ ad' c', x' = .slice ad' k c' := by
      cases hx with
      | two h => cases h with
        | one h => cases h with
          | plain _ => exact ⟨_, _, rfl⟩
          | sl _ _ _ => exact ⟨_, _, rfl⟩
          | slv _ _ => exact ⟨_, _, rfl⟩
          | sl0 => exact ⟨_, _, rfl⟩
    obtain ⟨ad', c', rfl⟩ := hy
    refine ⟨_, plainV_mk rfl, fun w' => ?_⟩
    simp [Builtin.len_, run_underlying (und_some hu (by simp)), goInt]
  · rename_i k e hu
    cases h
    refine ⟨_, plainV_mk rfl, fun w' => ?_⟩
    simp [Builtin.len_, run_underlying (und_some hu (by simp)), goInt]
  · rename_i arr hu
    split at h
    case h_2 => cases h
    rename_i k e hu2
    cases h
    refine ⟨_, plainV_mk rfl, fun w' => ?_⟩
    simp [Builtin.len_, run_underlying (und_some hu (by simp)), run_underlying (und_some hu2 (by simp)), goInt]
  · cases h

theorem bnd_cases {m : List Ent} {γ : Nat → Option Nat} {α : Fm} {a : Act} {o : Option Operand} {d : Nat} {l : Int} (ho : ∀ x, o = some x → V m (α.eval γ x) (a.eval x)) (h : bnd (o.map (α.eval γ)) d = some l) :
    (o.map a.eval = none ∧ l = d) ∨ ∃ k, o.map a.eval = some (.int k l) := by
  cases o with
  | none => left; simp [bnd] at h; exact ⟨rfl, h.symm⟩
  | some x =>
    right
    have hv := ho x rfl
    simp only [Option.map_some, bnd] at h
    unfold asInt? at h
    split at h
    · rename_i k v hk
      cases h
      rw [hk] at hv
      exact ⟨k, by rw [Option.map_some, hv.int_]⟩
    · cases h
theorem bounds_run {isS : Bool} {lo hi : Option Value} {len cap : Nat} {l h : Int} (hl : (lo = none ∧ l = 0) ∨ ∃ k, lo = some (.int k l)) (hh : (hi = none ∧ h = len) ∨ ∃ k, hi = some (.int k h))
    (h0 : 0 ≤ l) (h1 : l ≤ h) (h2 : h ≤ cap) (w' : World) : (Instr.sliceBounds isS len cap lo hi none).run P w' = .ok (l.toNat, h.toNat, cap) w' := by
  have h3 : 0 ≤ h := by omega
  have h4 : l ≤ (h.toNat : Int) := by omega
  rcases hl with ⟨rfl, rfl⟩ | ⟨k, rfl⟩ <;> rcases hh with ⟨rfl, rfl⟩ | ⟨k', rfl⟩
  · simp [Instr.sliceBounds]
  · simp [Instr.sliceBounds, Instr.sliceBound, asIntOf, h3, h2]
  · have h5 : l ≤ (len : Int) := h1
    simp [Instr.sliceBounds, Instr.sliceBound, asIntOf, h0, h5]
  · simp [Instr.sliceBounds, Instr.sliceBound, asIntOf, h0, h3, h2]
    intro hlt
    omega
theorem xslice_run (hR : Rel nro base γ m H w) {t : TypeId} {x x' v : Value} {lo hi : Option Operand} (hx : V m x x') (hlo : ∀ x, lo = some x → V m (α.eval γ x) (a.eval x)) (hhi : ∀ x, hi = some x → V m (α.eval γ x) (a.eval x))
    (h : xslice P t x (lo.map (α.eval γ)) (hi.map (α.eval γ)) H = some v) : ∃ v', V m v v' ∧ ∀ w' : World, (Instr.sliceAt t x' (lo.map a.eval) (hi.map a.eval) none).run P w' = .ok v' w' := by
  unfold xslice at h
  split at h
  · rename_i s hu
    split at h
    case h_2 => cases h
    rename_i l h' hl hh
    split at h
    case isFalse => cases h
    rename_i hc
    cases h
    have := hx.eq rfl
    subst this
    refine ⟨_, plainV_mk rfl, fun w' => ?_⟩
    have hb := bounds_run (P := P) (isS := false) (cap := s.size) (bnd_cases hlo hl) (bnd_cases hhi hh) hc.1 hc.2.1 hc.2.2 w'
    simp [Instr.sliceAt, Instr.slice, run_underlying (und_some hu (by simp)), hb]
  · rename_i k e i off hu
    split at h
    case h_2 => cases h
    rename_i l h' hl hh
    split at h
    case isFalse => cases h
    rename_i hc
    cases h
    obtain ⟨en, he, rfl⟩ := hx.ptr_
    have hes : (hget H i).map (·.es) = some none → en.es = none := by
      intro h5
      cases hk : hget H i with
      | none => rw [hk] at h5; cases h5
      | some kk =>
        rw [hk] at h5
        obtain ⟨_, _, _, _, h6, _⟩ := hR.cells i kk en (hget_some hk) he
        rw [h6]; simpa using h5
    have hrun : ∀ w' : World, (Instr.sliceAt t (.pointer (some ⟨en.b, en.o + off, none⟩)) (lo.map a.eval) (hi.map a.eval) none).run P w' =
        .ok (.slice (some (if k = l.toNat then ⟨en.b, en.o + off, none⟩ else (⟨en.b, en.o + off, none⟩ : Addr).add (l.toNat * szt P e))) (h'.toNat - l.toNat) (k - l.toNat)) w' := by
      intro w'
      have hb := bounds_run (P := P) (isS := false) (cap := k) (bnd_cases hlo hl) (bnd_cases hhi hh) hc.1 hc.2.1 hc.2.2.1 w'
      simp [Instr.sliceAt, run_underlying (und_some hu (by simp)), Instr.sureAddr, hb, run_sizeOf hc.2.2.2.1]
    by_cases h0 : l ≠ 0 ∧ h' = l
    · rw [if_pos h0]
      have e0 : h'.toNat - l.toNat = 0 := by rw [h0.2]; omega
      refine ⟨_, .one ?_, hrun⟩
      rw [e0]
      exact .sl0
    · rw [if_neg h0]
      have hne : k = l.toNat → l.toNat * szt P e = 0 := by
        intro hk
        by_cases hl0 : l = 0
        · subst hl0; simp
        · exact absurd ⟨hl0, by omega⟩ h0
      have e1 : (if k = l.toNat then (⟨en.b, en.o + off, none⟩ : Addr) else (⟨en.b, en.o + off, none⟩ : Addr).add (l.toNat * szt P e)) = ⟨en.b, en.o + (off + l.toNat * szt P e), none⟩ := by
        rw [add_none, ← Nat.add_assoc]
        split
        · rename_i hk; rw [hne hk]; simp
        · rfl
      rw [e1] at hrun
      by_cases hv : (hget H i).map (·.es) = some none
      · rw [if_pos hv]
        exact ⟨_, .one (.sl he (by omega) (fun _ s hs => by rw [hes hv] at hs; cases hs)), hrun⟩
      · rw [if_neg hv]
        exact ⟨_, .one (.slv he (by omega)), hrun⟩
  · rename_i e i off len c hu
    split at h
    case h_2 => cases h
    rename_i l h' hl hh
    split at h
    case isFalse => cases h
    rename_i hc
    cases h
    obtain ⟨en, c', he, hcc, rfl, hcl⟩ := hx.slw_
    have hrun : ∀ w' : World, (Instr.sliceAt t (.slice (some ⟨en.b, en.o + off, none⟩) len c') (lo.map a.eval) (hi.map a.eval) none).run P w' =
        .ok (.slice (if c' = l.toNat then some ⟨en.b, en.o + off, none⟩ else (some ⟨en.b, en.o + off, none⟩ : Option Addr).map (·.add (l.toNat * szt P e))) (h'.toNat - l.toNat) (c' - l.toNat)) w' := by
      intro w'
      have hb := bounds_run (P := P) (isS := true) (cap := c') (bnd_cases hlo hl) (bnd_cases hhi hh) hc.1 hc.2.1 (by omega) w'
      simp [Instr.sliceAt, Instr.slice, run_underlying (und_some hu (by simp)), hb, run_sizeOf hc.2.2.2]
    by_cases h0 : l ≠ 0 ∧ h' = l
    · rw [if_pos h0]
      have e0 : h'.toNat - l.toNat = 0 := by rw [h0.2]; omega
      refine ⟨_, .one ?_, hrun⟩
      rw [e0]
      split
      · exact .sl0
      · exact .sl0
    · rw [if_neg h0]
      have hne : c' = l.toNat → l.toNat * szt P e = 0 := by
        intro hk
        by_cases hl0 : l = 0
        · subst hl0; simp
        · exact absurd ⟨hl0, by omega⟩ h0
      have e1 : (if c' = l.toNat then some ⟨en.b, en.o + off, none⟩ else (some ⟨en.b, en.o + off, none⟩ : Option Addr).map (·.add (l.toNat * szt P e))) = some ⟨en.b, en.o + (off + l.toNat * szt P e), none⟩ := by
        rw [Option.map_some, add_none, ← Nat.add_assoc]
        split
        · rename_i hk; rw [hne hk]; simp
        · rfl
      rw [e1] at hrun
      by_cases hcv : c = len
      case neg =>
        rw [if_neg hcv]
        exact ⟨_, .one (.slv he (by omega)), hrun⟩
      rw [if_pos hcv]
      subst hcv
      obtain ⟨en2, c2, _, he2, _, hsz, hy2⟩ := hx.sl_
      rw [he] at he2
      cases he2
      cases hy2
      refine ⟨_, .one (.sl he (by omega) (fun hz s hs => ?_)), hrun⟩
      have hl0 : l.toNat = 0 := by
        have : l.toNat * szt P e = 0 := by omega
        rcases Nat.mul_eq_zero.1 this with h | h
        · exact h
        · have := hc.2.2.2; omega
      rw [hl0, Nat.sub_zero]
      exact hsz (by omega) s hs
  · rename_i e hu
    split at h
    case h_2 => cases h
    rename_i l h' hl hh
    split at h
    case isFalse => cases h
    rename_i hc
    cases h
    have := hx.eq rfl
    subst this
    obtain ⟨rfl, rfl, hs⟩ := hc
    refine ⟨_, plainV_mk rfl, fun w' => ?_⟩
    have hb := bounds_run (P := P) (isS := true) (cap := 0) (bnd_cases hlo hl) (bnd_cases hhi hh) (by omega) (by omega) (by omega) w'
    simp [Instr.sliceAt, Instr.slice, run_underlying (und_some hu (by simp)), hb, run_sizeOf hs]
  · cases h
end
end Go.Proofs.YtjfhdckcjkgjnaaDoor
