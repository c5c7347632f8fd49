/-
  Append and copy, of the machine; all operations that make or write memory in one. Over any program.
-/
import Derived.Test.YtjfhdckcjkgjnaaDoorXw
import Derived.Lib.AppendZerosOnto
import Derived.Lib.AppendStr
namespace Go.Proofs.YtjfhdckcjkgjnaaDoor
open Go Go.RowKit
set_option linter.unusedVariables false
section
variable {P : Program} {nro n base : Nat} {γ : Nat → Option Nat} {m : List Ent} {H : AH} {α : Fm} {a : Act} {w : World}

theorem Vs.mono {m m' : List Ent} (h : m <+: m') {l l' : List Value} (v : Vs m l l') : Vs m' l l' := ⟨v.1, fun j x hj => let ⟨y, p, q⟩ := v.2 j x hj; ⟨y, p, q.mono h⟩⟩
theorem Vs.append {l l' r r' : List Value} (h : Vs m l l') (k : Vs m r r') : Vs m (l ++ r) (l' ++ r') := by
  refine ⟨by simp [h.1, k.1], fun j x hj => ?_⟩
  rcases Nat.lt_or_ge j l.length with hl | hl
  · rw [List.getElem?_append_left hl] at hj
    rw [List.getElem?_append_left (by rw [h.1]; exact hl)]
    exact h.2 j x hj
  · rw [List.getElem?_append_right hl] at hj
    rw [List.getElem?_append_right (by rw [h.1]; exact hl), h.1]
    exact k.2 _ x hj
theorem Vs.take {l l' : List Value} (h : Vs m l l') (k : Nat) : Vs m (l.take k) (l'.take k) := by
  refine ⟨by simp [h.1], fun j x hj => ?_⟩
  rcases Nat.lt_or_ge j k with hl | hl
  · rw [List.getElem?_take_of_lt hl] at hj ⊢
    exact h.2 j x hj
  · rw [List.getElem?_eq_none (by simp; omega)] at hj; cases hj

/-- What a slice shows, as it lies. -/
theorem xcells_slice (hR : Rel nro base γ m H w) {sz : Nat} {x x' : Value} {news : List Value} (hx : V m x x') (h : xcells sz x H = some news) (hs : ∀ s, x ≠ .string s) :
    (x' = .slice none 0 0 ∧ news = []) ∨ ∃ ad cnt c news', x' = .slice (some ad) cnt c ∧ Vs m news news' ∧ news'.length = cnt * sz ∧ ∀ (j : Nat) (u : Value), news'[j]? = some u → w.cell? (ad.add j) = some u := by
  unfold xcells at h
  split at h
  · cases h
    exact .inl ⟨hx.eq rfl, rfl⟩
  · cases h
    right
    cases hx with
    | two h => cases h with
      | one h => cases h with
        | plain h => cases h
        | sl0 => exact ⟨_, 0, _, [], rfl, ⟨rfl, by simp⟩, by simp, by simp⟩
  · rename_i i off len c
    split at h
    case h_2 => cases h
    rename_i k hk
    split at h
    case isFalse => cases h
    rename_i hc
    cases h
    right
    obtain ⟨e, c', he, hcc, rfl, _⟩ := hx.slw_
    obtain ⟨l', h1, h2, h3⟩ := list_of_cells (R := V1 m) (f := fun j => w.cell? ⟨e.b, e.o + j, none⟩) ((k.cells.drop off).take (len * sz)) off (fun j x hx => by
      have hj : j < len * sz := by
        rcases Nat.lt_or_ge j (len * sz) with h | h
        · exact h
        · rw [List.getElem?_eq_none (by simp; omega)] at hx; cases hx
      rw [List.getElem?_take_of_lt hj, List.getElem?_drop] at hx
      obtain ⟨y, hy, hv⟩ := hR.cell hk he hx
      exact ⟨y, hy, hv⟩)
    refine ⟨_, len, c', l', rfl, ⟨h1, h2⟩, by rw [h1]; simp; omega, fun j u hu => ?_⟩
    rw [add_none, Nat.add_assoc]
    exact h3 j u hu
  · rename_i s
    exact absurd rfl (hs s)
  · cases h
theorem Vs.oneCells {l l' : List Value} (h : Vs m l l') : ∀ u ∈ l', u.oneCell' = true := by
  intro u hu
  obtain ⟨j, hj, rfl⟩ := List.mem_iff_getElem.1 hu
  have hjl : j < l.length := by rw [← h.1]; exact hj
  obtain ⟨y, h1, h2⟩ := h.2 j l[j] (List.getElem?_eq_getElem hjl)
  rw [List.getElem?_eq_getElem hj] at h1
  cases h1
  exact h2.oneCell
theorem slice_none_append {t ty e : TypeId} {s : Option Addr} {len cap : Nat} (hu : und P t = .slice e) (h0 : 0 < szt P e) (hl : len ≤ cap) (w : World) : (Builtin.append_ #[t, t] ty #[.slice s len cap, .slice none 0 0]).run P w = .ok (.slice s len cap) w := by
  cases s <;> simp [Builtin.append_, run_underlying (und_some hu (by simp)), run_sizeOf h0, Builtin.lenOf, Builtin.firstCells, hl, storeCells]
theorem append_run (hR : Rel nro base γ m H w) {t ty : TypeId} {s x s' x' v : Value} {H' : AH} (hs : V m s s') (hx : V m x x') (h : xappend P nro t s x H = some (v, H')) :
    ∃ m' v' w', (Builtin.append_ #[t, t] ty #[s', x']).run P w = .ok v' w' ∧ m <+: m' ∧ V m' v v' ∧ Rel nro base γ m' H' w' ∧ Below base w w' := by
  have hlen2 : m.length = H.length := hR.len
  unfold xappend at h
  split at h
  case h_2 => cases h
  rename_i e hu
  have hus := und_some hu (by simp)
  split at h
  · cases h
  rename_i hnstr
  split at h
  · cases h
  rename_i news hnews
  have hx2 := xcells_slice hR hx hnews (fun s e => hnstr s e)
  split at h
  · -- onto nil
    split at h
    case isFalse => cases h
    rename_i hc
    obtain ⟨h0, hz, hby, hml⟩ := hc
    have := hs.eq rfl
    subst this
    obtain ⟨i, hi, hisz⟩ := szt_info h0
    have hbyt : byt P e = i.bytes := by simp [byt, hi]
    split at h
    · rename_i hn0
      cases h
      refine ⟨m, .slice none 0 0, w, ?_, List.prefix_rfl, plainV_mk rfl, hR, .refl _ _⟩
      rcases hx2 with ⟨rfl, _⟩ | ⟨ad, cnt, c, news', rfl, hv, hl', _⟩
      · exact slice_none_append hu h0 (Nat.le_refl _) w
      · have hc0 : cnt = 0 := by
          have := hv.1
          rw [hn0] at this
          simp only [List.length_nil] at this
          rcases Nat.eq_zero_or_pos cnt with h | h
          · exact h
          · have := Nat.mul_pos h h0; omega
        subst hc0
        simp [Builtin.append_, run_underlying hus, run_sizeOf h0, Builtin.lenOf, Builtin.firstCells, loadCells, loadCellsFrom]
    · rename_i hn0
      cases h
      rcases hx2 with ⟨_, h⟩ | ⟨ad, cnt, c, news', rfl, hv, hl', hcell⟩
      · exact absurd h hn0
      have hpos : 0 < cnt := by
        rcases Nat.eq_zero_or_pos cnt with h | h
        · subst h
          have := hv.1
          exact absurd (List.eq_nil_of_length_eq_zero (by omega)) hn0
        · exact h
      have hnl : news.length = cnt * szt P e := by rw [← hv.1]; exact hl'
      have hdiv : news.length / szt P e = cnt := by rw [hnl]; exact Nat.mul_div_cancel _ h0
      have hcnt : cnt ≤ cnt * szt P e := Nat.le_mul_of_pos_right _ h0
      obtain ⟨z, hzz⟩ : ∃ z, i.zero = some z ∧ z.cells.size = szt P e := by
        unfold zer at hz
        rw [hi] at hz
        simp only [Option.bind_some] at hz
        cases hq : i.zero with
        | none => rw [hq] at hz; cases hz
        | some z => rw [hq] at hz; exact ⟨z, rfl, by simpa using hz⟩
      have hb1 : cnt * i.bytes ≤ news.length * i.bytes := Nat.mul_le_mul_right _ (by omega)
      rw [hbyt] at hby
      have hmx : cnt ≤ maxLen := by omega
      have hr := run_append_nil (P := P) w t ty e i z hus hi hzz.1 ad cnt c news' (by rw [hisz]; exact hl') hcell hpos (by simp only [maxLen] at hmx; omega) (by omega)
      obtain ⟨cs, hcs⟩ : ∃ cs, cs = news'.toArray ++ Builtin.zeroCells z.cells (grownCap w cnt 0 e - cnt) := ⟨_, rfl⟩
      rw [← hcs] at hr
      have hge := grownCap_ge w cnt 0 e
      have hsz : grownCap w cnt 0 e * szt P e = cs.size := by
        rw [hcs]
        simp only [Array.size_append, List.size_toArray, size_zeroCells, hzz.2, hl', ← Nat.add_mul]
        congr 1; omega
      have hR1 : Rel nro base γ m H (w.drewN 1) := hR.drewN 1
      have hR2 := hR1.add (w' := w.drew.alloc (.cells cs e)) (b := w.heap.size) (cs := cs) (ty := e) (fr := (0, 0)) (es := some (szt P e)) (cells := news) (by simp)
        (fun i k e' hk he' => Below.heap_alloc w.drew _ _ (hR.inb i e' he')) hR.base_le (heap_alloc_new w.drew _) (fun o _ h => by simp at h) (fun _ => rfl)
        (fun i k e' _ _ he' h => by have := hR.inb i e' he'; omega)
        (fun j x hx => by
          obtain ⟨y, p, q⟩ := hv.2 j x hx
          refine ⟨y, ?_, q.mono (pre_app _ _)⟩
          have hj : j < news'.length := (List.getElem?_eq_some_iff.1 p).1
          rw [hcs, Array.getElem?_append_left (by simpa using hj)]
          simpa using p)
      refine ⟨_, _, _, hr, pre_app _ _, ?_, hR2, Below.alloc (Below.drew (.refl _ _)) hR.base_le _⟩
      rw [hdiv]
      have : V (m ++ [⟨w.heap.size, 0, cs.size, some (szt P e)⟩]) (.slice (some ⟨H.length, 0, none⟩) cnt cnt) (.slice (some ⟨w.heap.size, 0 + 0, none⟩) cnt (grownCap w cnt 0 e)) :=
        .one (.sl (e := ⟨w.heap.size, 0, cs.size, some (szt P e)⟩) (by rw [← hlen2]; simp) hge (fun _ s hs => by cases hs; exact ⟨hsz, grownCap_le_maxLen _ _ _ _ hmx⟩))
      simpa using this
  · -- onto a row of the call's own
    rename_i ii len c0
    split at h
    case h_2 => cases h
    rename_i k hk
    split at h
    case isFalse => cases h
    rename_i hc
    obtain ⟨hcl, h0, hz, hii, hkt, hkes, hll, hby, hml⟩ := hc
    cases h
    obtain ⟨en, cap, _, hen, hlc, hcap, rfl⟩ := hs.sl_ hcl
    subst hcl
    obtain ⟨i, hi, hisz⟩ := szt_info h0
    have hbyt : byt P e = i.bytes := by simp [byt, hi]
    rw [hbyt] at hby
    obtain ⟨cur, fr, hcur, hcsz, hes, hfr, hcells⟩ := hR.cells ii k en (hget_some hk) hen
    have hown := hR.own ii en hii hen
    have hfr0 : fr = (0, 0) := (hfr hii).2 (by rw [hkes]; rfl)
    subst hfr0
    obtain ⟨hcap1, hcap2⟩ := hcap rfl (szt P e) (by rw [hes, hkes])
    rw [hkt] at hcur
    have hcursz : cur.size = cap * szt P e := by rw [hcsz hii, hcap1]
    -- the source, as a list
    obtain ⟨cnt, news', hv, hl', happ⟩ : ∃ cnt news', Vs m news news' ∧ news'.length = cnt * szt P e ∧
        ((x' = .slice none 0 0 ∧ cnt = 0) ∨ ∃ ad c, x' = .slice (some ad) cnt c ∧ ∀ (j : Nat) (u : Value), news'[j]? = some u → w.cell? (ad.add j) = some u) := by
      rcases hx2 with ⟨rfl, rfl⟩ | ⟨ad, cnt, c, news', rfl, hv, hl', hcell⟩
      · exact ⟨0, [], ⟨rfl, by simp⟩, by simp, .inl ⟨rfl, rfl⟩⟩
      · exact ⟨cnt, news', hv, hl', .inr ⟨ad, c, rfl, hcell⟩⟩
    have hnl : news.length = cnt * szt P e := by rw [← hv.1]; exact hl'
    have hdiv : news.length / szt P e = cnt := by rw [hnl]; exact Nat.mul_div_cancel _ h0
    have hcnt : cnt ≤ cnt * szt P e := Nat.le_mul_of_pos_right _ h0
    have hlen1 : c0 ≤ c0 * szt P e := Nat.le_mul_of_pos_right _ h0
    have hmx : c0 + cnt ≤ maxLen := by omega
    have hbb : (c0 + cnt) * i.bytes ≤ 140737488355328 := Nat.le_trans (Nat.mul_le_mul_right _ (by omega)) hby
    -- what stood there, as a list
    obtain ⟨olds, ho⟩ : ∃ olds, olds = cur.toList.take (c0 * szt P e) := ⟨_, rfl⟩
    have holl : olds.length = c0 * szt P e := by
      rw [ho, List.length_take, Array.length_toList, hcursz]
      exact Nat.min_eq_left (Nat.mul_le_mul_right _ hlc)
    have hvo : Vs m (k.cells.take (c0 * szt P e)) olds := by
      refine ⟨by rw [holl, List.length_take]; omega, fun j x hj => ?_⟩
      have hjl : j < c0 * szt P e := by
        rcases Nat.lt_or_ge j (c0 * szt P e) with h | h
        · exact h
        · rw [List.getElem?_eq_none (by simp; omega)] at hj; cases hj
      rw [List.getElem?_take_of_lt hjl] at hj
      obtain ⟨y, p, q⟩ := hcells j x hj
      rw [hown.2, Nat.zero_add] at p
      exact ⟨y, by rw [ho, List.getElem?_take_of_lt hjl]; simpa using p, q⟩
    have hvn : Vs m (k.cells.take (c0 * szt P e) ++ news) (olds ++ news') := hvo.append hv
    have hRk := hR.kill ii
    have hkept : ∀ (j : Nat) (q : Blk) (e' : Ent), nro ≤ j → (H.set ii none)[j]? = some (some q) → m[j]? = some e' → e'.b ≠ en.b := by
      intro j q e' hj hq he'
      by_cases ej : ii = j
      · subst ej
        have hil : ii < H.length := (List.getElem?_eq_some_iff.1 (hget_some hk)).1
        rw [List.getElem?_set_self hil] at hq; cases hq
      · rw [List.getElem?_set_ne ej] at hq
        exact hR.apart j ii q k e' en hj hii (Ne.symm ej) hq (hget_some hk) he' hen
    have hkept' : ∀ (j : Nat) (q : Blk) (e' : Ent), (H.set ii none)[j]? = some (some q) → m[j]? = some e' → e'.b ≠ en.b := by
      intro j q e' hq he'
      rcases Nat.lt_or_ge j nro with hj | hj
      · have := hR.ro j e' hj he'; have := hown.1; omega
      · exact hkept j q e' hj hq he'
    rw [hdiv]
    by_cases hroom : c0 + cnt ≤ cap
    · -- there is room
      have hfit : c0 * i.size + news'.length ≤ cur.size := by
        rw [hisz, hl', hcursz, ← Nat.add_mul]; exact Nat.mul_le_mul_right _ hroom
      have hrun : ∃ w', (Builtin.append_ #[t, t] ty #[.slice (some ⟨en.b, en.o + 0, none⟩) c0 cap, x']).run P w = .ok (.slice (some ⟨en.b, 0, none⟩) (c0 + cnt) cap) w' ∧
          w'.heap.size = w.heap.size ∧ (∀ b, b ≠ en.b → w'.heap[b]? = w.heap[b]?) ∧ (∃ cs : Array Value, w'.heap[en.b]? = some (.cells cs e (0, 0)) ∧ cs.size = cur.size ∧ cs.toList.take ((c0 + cnt) * szt P e) = olds ++ news') ∧ Below base w w' := by
        rw [hown.2]
        rcases happ with ⟨rfl, rfl⟩ | ⟨ad, c, rfl, hcell⟩
        · have hn0 : news' = [] := List.eq_nil_of_length_eq_zero (by simpa using hl')
          refine ⟨w, slice_none_append hu h0 (by omega) w, rfl, fun _ _ => rfl, ⟨cur, hcur, rfl, ?_⟩, .refl _ _⟩
          rw [hn0, List.append_nil, Nat.add_zero, ho]
        · have hr := run_append_room (P := P) w t ty e i hus hi en.b c0 cap cur hcur ad cnt c news' (by rw [hisz]; exact hl') hcell hv.oneCells hroom hfit
          refine ⟨_, hr, by simp [World.setRow], fun b hb => setRow_other w en.b b _ hb, ⟨_, setRow_heap w en.b cur _ e _ hcur, ?_, ?_⟩, Below.trans (.refl _ _) ⟨rfl, rfl, rfl, by simp [World.setRow], fun k hk => setRow_other w en.b k _ (by have := hown.1; omega)⟩⟩
          · simp only [List.size_toArray, List.length_append, List.length_take, List.length_drop, Array.length_toList]
            omega
          · rw [hisz, ← ho]
            have : (c0 + cnt) * szt P e = (olds ++ news').length := by rw [List.length_append, holl, hl', Nat.add_mul]
            rw [this]
            exact List.take_left
      obtain ⟨w', hr, hsz', hold, ⟨cs, hnew, hcs, htk⟩, hb⟩ := hrun
      have hR2 := hRk.add (w' := w') (b := en.b) (cs := cs) (ty := e) (fr := (0, 0)) (es := some (szt P e)) (cells := k.cells.take (c0 * szt P e) ++ news) (by omega)
        (fun j q e' hq he' => hold _ (hkept' j q e' hq he')) hown.1 hnew (fun o _ h => by simp at h) (fun _ => rfl) hkept
        (fun j x hx => by
          obtain ⟨y, p, q⟩ := hvn.2 j x hx
          refine ⟨y, ?_, q.mono (pre_app _ _)⟩
          have hj : j < (olds ++ news').length := (List.getElem?_eq_some_iff.1 p).1
          have hj2 : j < (c0 + cnt) * szt P e := by rw [List.length_append, holl, hl', ← Nat.add_mul] at hj; exact hj
          rw [← htk, List.getElem?_take_of_lt hj2] at p
          simpa using p)
      refine ⟨_, _, w', hr, pre_app _ _, ?_, hR2, hb⟩
      have hsl : (H.set ii none).length = H.length := by simp
      have : V (m ++ [⟨en.b, 0, cs.size, some (szt P e)⟩]) (.slice (some ⟨H.length, 0, none⟩) (c0 + cnt) (c0 + cnt)) (.slice (some ⟨en.b, 0 + 0, none⟩) (c0 + cnt) cap) :=
        .one (.sl (e := ⟨en.b, 0, cs.size, some (szt P e)⟩) (by rw [← hlen2]; simp) hroom (fun _ s hs => by cases hs; exact ⟨by show _ = cs.size; rw [hcs, hcursz], hcap2⟩))
      simpa using this
    · -- a new row
      have hcp : 0 < cnt := by omega
      rcases happ with ⟨_, hc0'⟩ | ⟨ad, c, rfl, hcell⟩
      · omega
      obtain ⟨z, hzz⟩ : ∃ z, i.zero = some z ∧ z.cells.size = szt P e := by
        unfold zer at hz
        rw [hi] at hz
        simp only [Option.bind_some] at hz
        cases hq : i.zero with
        | none => rw [hq] at hz; cases hz
        | some z => rw [hq] at hz; exact ⟨z, rfl, by simpa using hz⟩
      have holds : ∀ (j : Nat) (u : Value), olds[j]? = some u → w.cell? ((⟨en.b, en.o + 0, none⟩ : Addr).add j) = some u := by
        intro j u hu'
        have hj : j < c0 * szt P e := by rw [← holl]; exact (List.getElem?_eq_some_iff.1 hu').1
        rw [ho, List.getElem?_take_of_lt hj] at hu'
        rw [add_none, hown.2, Nat.add_zero, Nat.zero_add]
        simp only [World.cell?, hcur]
        simpa using hu'
      have hr := run_append_grow (P := P) w t ty e i z hus hi hzz.1 ⟨en.b, en.o + 0, none⟩ c0 cap olds (by rw [hisz]; exact holl) holds ad cnt c news' (by rw [hisz]; exact hl') hcell (by omega)
        (by simp only [maxLen] at hmx; omega) (growslice_fits (by omega) hbb)
      obtain ⟨cs, hcs⟩ : ∃ cs, cs = olds.toArray ++ news'.toArray ++ Builtin.zeroCells z.cells (grownCap w (c0 + cnt) cap e - (c0 + cnt)) := ⟨_, rfl⟩
      rw [← hcs] at hr
      have hge := grownCap_ge w (c0 + cnt) cap e
      have hsz : grownCap w (c0 + cnt) cap e * szt P e = cs.size := by
        rw [hcs]
        simp only [Array.size_append, List.size_toArray, size_zeroCells, hzz.2, hl', holl, ← Nat.add_mul]
        congr 1; omega
      have hR1 : Rel nro base γ m (H.set ii none) (w.drewN 1) := hRk.drewN 1
      have hR2 := hR1.add (w' := w.drew.alloc (.cells cs e)) (b := w.heap.size) (cs := cs) (ty := e) (fr := (0, 0)) (es := some (szt P e)) (cells := k.cells.take (c0 * szt P e) ++ news) (by simp)
        (fun i k e' hk he' => Below.heap_alloc w.drew _ _ (hR.inb i e' he')) hR.base_le (heap_alloc_new w.drew _) (fun o _ h => by simp at h) (fun _ => rfl)
        (fun i k e' _ _ he' h => by have := hR.inb i e' he'; omega)
        (fun j x hx => by
          obtain ⟨y, p, q⟩ := hvn.2 j x hx
          refine ⟨y, ?_, q.mono (pre_app _ _)⟩
          have hj : j < (olds ++ news').length := (List.getElem?_eq_some_iff.1 p).1
          rw [hcs, Array.getElem?_append_left (by simpa using hj)]
          simpa using p)
      refine ⟨_, _, _, hr, pre_app _ _, ?_, hR2, Below.alloc (Below.drew (.refl _ _)) hR.base_le _⟩
      have : V (m ++ [⟨w.heap.size, 0, cs.size, some (szt P e)⟩]) (.slice (some ⟨H.length, 0, none⟩) (c0 + cnt) (c0 + cnt)) (.slice (some ⟨w.heap.size, 0 + 0, none⟩) (c0 + cnt) (grownCap w (c0 + cnt) cap e)) :=
        .one (.sl (e := ⟨w.heap.size, 0, cs.size, some (szt P e)⟩) (by rw [← hlen2]; simp) hge (fun _ s hs => by cases hs; exact ⟨hsz, grownCap_le_maxLen _ _ _ _ hmx⟩))
      simpa using this
  · cases h
theorem appmk_run (hR : Rel nro base γ m H w) {t u ty : TypeId} {s x s' x' v : Value} {H' : AH} (hs : V m s s') (hx : V m x x') (h : xappmk P t u s x H = some (v, H')) :
    ∃ m' v' w', (Builtin.append_ #[t, u] ty #[s', x']).run P w = .ok v' w' ∧ m <+: m' ∧ V m' v v' ∧ Rel nro base γ m' H' w' ∧ Below base w w' := by
  have hlen2 : m.length = H.length := hR.len
  unfold xappmk at h
  split at h
  case h_2 => cases h
  rename_i e kn kq n hu hun
  split at h
  case h_2 => cases h
  rename_i z hz
  split at h
  case isFalse => cases h
  rename_i hc
  obtain ⟨hn0, h0, hzs, hzp, hby, hmx⟩ := hc
  cases h
  have := hs.eq rfl
  subst this
  have := hx.int_
  subst this
  obtain ⟨i, hi, hisz⟩ := szt_info h0
  have hbyt : byt P e = i.bytes := by simp [byt, hi]
  have hz' : i.zero = some z := by
    unfold zer at hz
    rw [hi] at hz
    exact hz
  obtain ⟨k, hk⟩ : ∃ k : Nat, n = (k : Int) := ⟨n.toNat, by omega⟩
  subst hk
  simp only [Int.toNat_natCast]
  rw [hbyt] at hby
  have hby' : k * i.bytes ≤ 140737488355328 := by
    have : ((k * i.bytes : Nat) : Int) ≤ 140737488355328 := by rw [Int.natCast_mul]; exact hby
    omega
  have hmx' : k ≤ maxLen := by omega
  have hr := Lib.run_append_grow_zeros (P := P) w t u ty e i z kq kn (und_some hu (by simp)) (und_some hun (by simp)) hi hz' none 0 0 [] (by simp [Builtin.firstCells]) k (by omega) (by omega) (by omega) (by simp only [maxLen] at hmx'; omega) (by omega) (by rw [Nat.zero_add, nextslicecap_zero (by omega)]; omega)
  simp only [Nat.zero_add] at hr
  obtain ⟨cs, hcs⟩ : ∃ cs, cs = ([] : List Value).toArray ++ Builtin.zeroCells z.cells k ++ Builtin.zeroCells z.cells (grownCap w k 0 e - k) := ⟨_, rfl⟩
  rw [← hcs] at hr
  have hge := grownCap_ge w k 0 e
  have hsz : grownCap w k 0 e * szt P e = cs.size := by
    rw [hcs]
    simp only [Array.size_append, List.size_toArray, List.length_nil, size_zeroCells, hzs, Nat.zero_add, ← Nat.add_mul]
    congr 1; omega
  have hR1 : Rel nro base γ m H (w.drewN 1) := hR.drewN 1
  have hR2 := hR1.add (w' := w.drew.alloc (.cells cs e)) (b := w.heap.size) (cs := cs) (ty := e) (fr := (0, 0)) (es := some (szt P e)) (cells := (List.range (k * szt P e)).map fun j => z.cells.toList.getD (j % szt P e) undef) (by simp)
    (fun i k e' hk he' => Below.heap_alloc w.drew _ _ (hR.inb i e' he')) hR.base_le (heap_alloc_new w.drew _) (fun o _ h => by simp at h) (fun _ => rfl)
    (fun i k e' _ _ he' h => by have := hR.inb i e' he'; omega)
    (fun j x hx => by
      have hj : j < k * szt P e := by
        have := (List.getElem?_eq_some_iff.1 hx).1
        simpa using this
      rw [List.getElem?_map, List.getElem?_range hj] at hx
      cases hx
      have hmod : j % szt P e < z.cells.toList.length := by
        have := Nat.mod_lt j h0
        simpa [hzs] using this
      refine ⟨z.cells.toList.getD (j % szt P e) undef, ?_, .plain ?_⟩
      · have hzl : (Builtin.zeroCells z.cells k).toList = (List.range (k * szt P e)).map fun j => z.cells.toList.getD (j % szt P e) undef := by
          unfold Builtin.zeroCells
          rw [hzs]
          have := zeros_eq z.cells (k * szt P e) (by omega)
          rw [hzs] at this
          exact this
        rw [← Array.getElem?_toList, hcs]
        simp only [Array.toList_append, List.nil_append]
        rw [List.getElem?_append_left (by rw [hzl]; simp; omega), hzl, List.getElem?_map, List.getElem?_range hj]
        rfl
      · show plain1 (z.cells.toList.getD (j % szt P e) undef) = true
        rw [List.getD_eq_getElem?_getD, List.getElem?_eq_getElem hmod]
        exact List.all_eq_true.1 hzp _ (List.getElem_mem hmod))
  refine ⟨_, _, _, hr, pre_app _ _, ?_, hR2, Below.alloc (Below.drew (.refl _ _)) hR.base_le _⟩
  have : V (m ++ [⟨w.heap.size, 0, cs.size, some (szt P e)⟩]) (.slice (some ⟨H.length, 0, none⟩) k k) (.slice (some ⟨w.heap.size, 0 + 0, none⟩) k (grownCap w k 0 e)) :=
    .one (.sl (e := ⟨w.heap.size, 0, cs.size, some (szt P e)⟩) (by rw [← hlen2]; simp) hge (fun _ s hs => by cases hs; exact ⟨hsz, grownCap_le_maxLen _ _ _ _ hmx'⟩))
  simpa using this
theorem appstr_run (hR : Rel nro base γ m H w) {t u ty : TypeId} {s x s' x' v : Value} {H' : AH} (hu : und P u = .string) (hs : V m s s') (hx : V m x x') (h : xappstr P nro t s x H = some (v, H')) :
    ∃ m' v' w', (Builtin.append_ #[t, u] ty #[s', x']).run P w = .ok v' w' ∧ m <+: m' ∧ V m' v v' ∧ Rel nro base γ m' H' w' ∧ Below base w w' := by
  have hlen2 : m.length = H.length := hR.len
  have hu' := und_some hu (by simp)
  unfold xappstr at h
  split at h
  case h_2 => cases h
  rename_i e b hut
  have hut' := und_some hut (by simp)
  split at h
  case h_2 => cases h
  rename_i z hz
  split at h
  case isFalse => cases h
  rename_i hc
  obtain ⟨rfl, hsz, hby⟩ := hc
  have := hx.eq rfl
  subst this
  obtain ⟨i, hi, hisz⟩ := szt_info (P := P) (t := e) (by omega)
  rw [hsz] at hisz
  have hbyt : i.bytes = 1 := by rw [← hby]; simp [byt, hi]
  have hz' : i.zero = some (.int .u8 0) := by
    unfold zer at hz
    rw [hi] at hz
    exact hz
  have hce : iv .u8 (nums b) = Lib.strCells b := by simp [iv, nums, Lib.strCells]
  have hnl : (iv .u8 (nums b)).length = b.size := by rw [hce, Lib.strCells_length]
  have hvb : Vs m (iv .u8 (nums b)) (Lib.strCells b) := by
    rw [← hce]
    refine ⟨rfl, fun j x hj => ⟨x, hj, .plain ?_⟩⟩
    have := List.mem_of_getElem? hj
    simp only [iv, List.mem_map] at this
    obtain ⟨a, _, rfl⟩ := this
    rfl
  have grown : ∀ (H0 : AH) (n old : Nat) (xs oldc : List Value), Rel nro base γ m H0 w → H0.length = H.length → xs.length = n → Vs m oldc xs → old < n + b.size → n + b.size ≤ maxLen →
      (Builtin.append_ #[t, u] ty #[s', .string b]).run P w = .ok (.slice (some ⟨w.heap.size, 0, none⟩) (n + b.size) (grownCap w (n + b.size) old e))
        (w.drew.alloc (.cells (xs.toArray ++ (Lib.strCells b).toArray ++ Builtin.zeroCells (Value.int .u8 0).cells (grownCap w (n + b.size) old e - (n + b.size))) e)) →
      ∃ m' v' w', (Builtin.append_ #[t, u] ty #[s', .string b]).run P w = .ok v' w' ∧ m <+: m' ∧ V m' (.slice (some ⟨H.length, 0, none⟩) (n + b.size) (n + b.size)) v' ∧ Rel nro base γ m' (H0 ++ [some ⟨oldc ++ iv .u8 (nums b), e, some 1⟩]) w' ∧ Below base w w' := by
    intro H0 n old xs oldc hR0 hl0 hxl hvo ho hmx hr
    obtain ⟨cs, hcs⟩ : ∃ cs, cs = xs.toArray ++ (Lib.strCells b).toArray ++ Builtin.zeroCells (Value.int .u8 0).cells (grownCap w (n + b.size) old e - (n + b.size)) := ⟨_, rfl⟩
    rw [← hcs] at hr
    have hge := grownCap_ge w (n + b.size) old e
    have hz1 : (Value.int IntKind.u8 0).cells.size = 1 := rfl
    have hsz' : grownCap w (n + b.size) old e * 1 = cs.size := by
      rw [hcs]
      simp only [Array.size_append, List.size_toArray, size_zeroCells, hz1, hxl, Lib.strCells_length]
      omega
    have hvn : Vs m (oldc ++ iv .u8 (nums b)) (xs ++ Lib.strCells b) := hvo.append hvb
    have hR2 := (hR0.drewN 1).add (w' := w.drew.alloc (.cells cs e)) (b := w.heap.size) (cs := cs) (ty := e) (fr := (0, 0)) (es := some 1) (cells := oldc ++ iv .u8 (nums b)) (by simp)
      (fun i k e' hk he' => Below.heap_alloc w.drew _ _ (hR.inb i e' he')) hR.base_le (heap_alloc_new w.drew _) (fun o _ h => by simp at h) (fun _ => rfl)
      (fun i k e' _ _ he' h => by have := hR.inb i e' he'; omega)
      (fun j x hx => by
        obtain ⟨y, p, q⟩ := hvn.2 j x hx
        refine ⟨y, ?_, q.mono (pre_app _ _)⟩
        have hj : j < (xs ++ Lib.strCells b).length := (List.getElem?_eq_some_iff.1 p).1
        rw [hcs, Array.getElem?_append_left (by simpa using hj)]
        simpa using p)
    refine ⟨_, _, _, hr, pre_app _ _, ?_, hR2, Below.alloc (Below.drew (.refl _ _)) hR.base_le _⟩
    have : V (m ++ [⟨w.heap.size, 0, cs.size, some 1⟩]) (.slice (some ⟨H.length, 0, none⟩) (n + b.size) (n + b.size)) (.slice (some ⟨w.heap.size, 0 + 0, none⟩) (n + b.size) (grownCap w (n + b.size) old e)) :=
      .one (.sl (e := ⟨w.heap.size, 0, cs.size, some 1⟩) (by rw [← hlen2]; simp) hge (fun _ s hs => by cases hs; exact ⟨hsz', grownCap_le_maxLen _ _ _ _ hmx⟩))
    simpa using this
  split at h
  · -- onto nil
    split at h
    case isFalse => cases h
    rename_i hc
    obtain ⟨hbb, hmx⟩ := hc
    have := hs.eq rfl
    subst this
    split at h
    · rename_i hb0
      cases h
      refine ⟨m, .slice none 0 0, w, ?_, List.prefix_rfl, plainV_mk rfl, hR, .refl _ _⟩
      have hf := Lib.run_firstCells_string (P := P) w 1 b
      have hn : Lib.strCells b = [] := List.eq_nil_of_length_eq_zero (by rw [Lib.strCells_length]; exact hb0)
      rw [hb0] at hf
      simp [Builtin.append_, run_underlying hut', run_underlying hu', sizeOf, typeInfo, hi, hisz, Builtin.lenOf, hb0, hf, hn]
    · rename_i hb0
      cases h
      have hr := run_append_nil_string (P := P) w t u ty e i (.int .u8 0) hut' hu' hi hz' b (by omega) (by simp only [maxLen] at hmx; omega) (by rw [hbyt]; omega)
      have e1 : (b.data.map fun b => Value.int .u8 b.toNat) = (Lib.strCells b).toArray := by
        apply Array.ext'
        simp [Lib.strCells]
      rw [e1] at hr
      have := grown H 0 0 [] [] hR rfl rfl ⟨rfl, by simp⟩ (by omega) (by omega) (by simpa using hr)
      simpa using this
  · -- onto an own row
    rename_i ii len c0
    split at h
    case h_2 => cases h
    rename_i k hk
    split at h
    case isFalse => cases h
    rename_i hc
    obtain ⟨hcl, hii, hkt, hkes, hll, hbb, hmx⟩ := hc
    cases h
    obtain ⟨en, cap, _, hen, hlc, hcap, rfl⟩ := hs.sl_ hcl
    subst hcl
    obtain ⟨cur, fr, hcur, hcsz, hes, hfr, hcells⟩ := hR.cells ii k en (hget_some hk) hen
    have hown := hR.own ii en hii hen
    have hfr0 : fr = (0, 0) := (hfr hii).2 (by rw [hkes]; rfl)
    subst hfr0
    obtain ⟨hcap1, hcap2⟩ := hcap rfl 1 (by rw [hes, hkes])
    rw [hkt] at hcur
    have hcursz : cur.size = cap := by rw [hcsz hii, ← hcap1]; omega
    obtain ⟨olds, ho⟩ : ∃ olds, olds = cur.toList.take c0 := ⟨_, rfl⟩
    have holl : olds.length = c0 := by
      rw [ho, List.length_take, Array.length_toList, hcursz]
      exact Nat.min_eq_left hlc
    have hvo : Vs m (k.cells.take c0) olds := by
      refine ⟨by rw [holl, List.length_take]; omega, fun j x hj => ?_⟩
      have hjl : j < c0 := by
        rcases Nat.lt_or_ge j c0 with h | h
        · exact h
        · rw [List.getElem?_eq_none (by simp; omega)] at hj; cases hj
      rw [List.getElem?_take_of_lt hjl] at hj
      obtain ⟨y, p, q⟩ := hcells j x hj
      rw [hown.2, Nat.zero_add] at p
      exact ⟨y, by rw [ho, List.getElem?_take_of_lt hjl]; simpa using p, q⟩
    have hvn : Vs m (k.cells.take c0 ++ iv .u8 (nums b)) (olds ++ Lib.strCells b) := hvo.append hvb
    have hRk := hR.kill ii
    have hkept : ∀ (j : Nat) (q : Blk) (e' : Ent), nro ≤ j → (H.set ii none)[j]? = some (some q) → m[j]? = some e' → e'.b ≠ en.b := by
      intro j q e' hj hq he'
      by_cases ej : ii = j
      · subst ej
        have hil : ii < H.length := (List.getElem?_eq_some_iff.1 (hget_some hk)).1
        rw [List.getElem?_set_self hil] at hq; cases hq
      · rw [List.getElem?_set_ne ej] at hq
        exact hR.apart j ii q k e' en hj hii (Ne.symm ej) hq (hget_some hk) he' hen
    have hkept' : ∀ (j : Nat) (q : Blk) (e' : Ent), (H.set ii none)[j]? = some (some q) → m[j]? = some e' → e'.b ≠ en.b := by
      intro j q e' hq he'
      rcases Nat.lt_or_ge j nro with hj | hj
      · have := hR.ro j e' hj he'; have := hown.1; omega
      · exact hkept j q e' hj hq he'
    by_cases hroom : c0 + b.size ≤ cap
    · -- there is room
      have hr := Lib.run_append_room_string (P := P) w t u ty e i hut' hu' hi hisz en.b c0 cap cur hcur b hroom (by omega)
      have e0 : en.o = 0 := hown.2
      obtain ⟨cs, hcs⟩ : ∃ cs, cs = (cur.toList.take c0 ++ Lib.strCells b ++ cur.toList.drop (c0 + b.size)).toArray := ⟨_, rfl⟩
      rw [← hcs] at hr
      have hcs1 : cs.size = cur.size := by
        rw [hcs]
        simp only [List.size_toArray, List.length_append, List.length_take, List.length_drop, Array.length_toList, Lib.strCells_length]
        omega
      have hR2 := hRk.add (w' := w.setRow en.b cs) (b := en.b) (cs := cs) (ty := e) (fr := (0, 0)) (es := some 1) (cells := k.cells.take c0 ++ iv .u8 (nums b)) (by simp [World.setRow])
        (fun j q e' hq he' => setRow_other w en.b _ _ (hkept' j q e' hq he')) hown.1 (setRow_heap w en.b cur _ e _ hcur) (fun o _ h => by simp at h) (fun _ => rfl) hkept
        (fun j x hx => by
          obtain ⟨y, p, q⟩ := hvn.2 j x hx
          refine ⟨y, ?_, q.mono (pre_app _ _)⟩
          have hj : j < (olds ++ Lib.strCells b).length := (List.getElem?_eq_some_iff.1 p).1
          rw [hcs, List.getElem?_toArray, ← ho, List.getElem?_append_left hj]
          exact p)
      refine ⟨_, _, _, by rw [e0]; exact hr, pre_app _ _, ?_, hR2, Below.trans (.refl _ _) ⟨rfl, rfl, rfl, by simp [World.setRow], fun k hk => setRow_other w en.b k _ (by have := hown.1; omega)⟩⟩
      have hsl : (H.set ii none).length = H.length := by simp
      have : V (m ++ [⟨en.b, 0, cs.size, some 1⟩]) (.slice (some ⟨H.length, 0, none⟩) (c0 + b.size) (c0 + b.size)) (.slice (some ⟨en.b, 0 + 0, none⟩) (c0 + b.size) cap) :=
        .one (.sl (e := ⟨en.b, 0, cs.size, some 1⟩) (by rw [← hlen2]; simp) hroom (fun _ s hs => by cases hs; exact ⟨by show _ = cs.size; rw [hcs1, hcursz, Nat.mul_one], hcap2⟩))
      simpa using this
    · -- a new row
      have holds : ∀ (j : Nat) (u : Value), olds[j]? = some u → w.cell? ((⟨en.b, en.o + 0, none⟩ : Addr).add j) = some u := by
        intro j u hu'
        have hj : j < c0 := by rw [← holl]; exact (List.getElem?_eq_some_iff.1 hu').1
        rw [ho, List.getElem?_take_of_lt hj] at hu'
        rw [add_none, hown.2, Nat.add_zero, Nat.zero_add]
        simp only [World.cell?, hcur]
        simpa using hu'
      have hr := Lib.run_append_grow_string (P := P) w t u ty e i (.int .u8 0) hut' hu' hi hz' ⟨en.b, en.o + 0, none⟩ c0 cap olds (by rw [hisz, holl, Nat.mul_one]) holds b (by omega)
        (by simp only [maxLen] at hmx; omega) (by rw [hbyt]; exact growslice_fits (by omega) (by omega))
      have := grown (H.set ii none) c0 cap olds (k.cells.take c0) hRk (by simp) holl hvo (by omega) hmx hr
      simpa using this
  · cases h
theorem app2_run (hR : Rel nro base γ m H w) {t u ty : TypeId} {s x s' x' v : Value} {H' : AH} (hs : V m s s') (hx : V m x x') (h : xapp2 P nro t u s x H = some (v, H')) :
    ∃ m' v' w', (Builtin.append_ #[t, u] ty #[s', x']).run P w = .ok v' w' ∧ m <+: m' ∧ V m' v v' ∧ Rel nro base γ m' H' w' ∧ Below base w w' := by
  unfold xapp2 at h
  split at h
  · rename_i hu; exact appstr_run hR hu hs hx h
  · exact appmk_run hR hs hx h
end
end Go.Proofs.YtjfhdckcjkgjnaaDoor
