/-
  Maps: made, and written. Over any program.
-/
import Derived.Test.YtlaglpnbmkoakaaDoorFmA
import Derived.ProofKit
import Derived.OpenShut
import Derived.Carry
import Derived.WideKeyArgs
import Derived.Deep.RegionHeld3
import Derived.Lib.LaidTab
import Derived.SliceStrings
import Derived.ChangeSlices
import Derived.Deep.Slices
namespace Go.Proofs.YtlaglpnbmkoakaaDoor
open Go Go.RowKit
set_option linter.unusedSimpArgs false
set_option linter.unusedVariables false
set_option maxRecDepth 100000
set_option maxHeartbeats 8000000
section
theorem mblk_ty (t : TypeId) (l : List (Value × Value)) : (mblk t l).ty = t := rfl
section
variable {P : Program} {nro n base : Nat} {γ : Nat → Option Nat} {m : List Ent} {H : AH} {α : Fm} {a : Act} {w : World}
theorem mapR_nil : MapR m [] #[] 0 := ⟨rfl, fun j p hp => (by cases hp), rfl, fun j en h => (by simp at h)⟩
theorem Rel.addMap (hR : Rel nro base γ m H w) (t : TypeId) : Rel nro base γ (m ++ [⟨w.heap.size, 0, 0, none⟩]) (H ++ [some (mblk t [])]) (w.alloc (.map #[] 0)) := by
 have hpre := pre_app m ⟨w.heap.size, 0, 0, none⟩
 have hsz : (w.alloc (.map #[] 0)).heap.size = w.heap.size + 1 := by simp
 have hnew : (w.alloc (.map #[] 0)).heap[w.heap.size]? = some (.map #[] 0) := heap_alloc_new w _
 have hold : ∀ (i : Nat) (e : Ent), m[i]? = some e → (w.alloc (.map #[] 0)).heap[e.b]? = w.heap[e.b]? := fun i e he => Below.heap_alloc _ _ _ (hR.inb i e he)
 refine ⟨by simp [hR.len], by have := hR.le; simp; omega, by have := hR.base_le; omega, ?_, ?_, ?_, ?_, ?_, ?_, ?_⟩
 ·intro i e he
  rcases app_one he with ⟨_, he⟩ | ⟨_, rfl⟩
  ·have := hR.inb i e he; omega
  ·show w.heap.size < _; omega
 ·intro i e hi he
  rcases app_one he with ⟨_, he⟩ | ⟨h0, rfl⟩
  ·exact hR.ro i e hi he
  ·have h1 := hR.le; have h2 := hR.len; omega
 ·intro i e hi he
  rcases app_one he with ⟨_, he⟩ | ⟨_, rfl⟩
  ·exact hR.own i e hi he
  ·exact ⟨hR.base_le, rfl⟩
 ·intro i k e l hk hl he
  rcases app_one hk with ⟨hlt, hk⟩ | ⟨h0, hk⟩
  ·rw [List.getElem?_append_left (by rw [hR.len]; exact hlt)] at he
   obtain ⟨h1, h2, h3, es0, cl, h4, h5⟩ := hR.maps i k e l hk hl he
   exact ⟨h1, h2, h3, es0, cl, (hold i e he).trans h4, h5.mono hpre⟩
  ·cases hk
   cases hl
   rcases app_one he with ⟨hlt, he⟩ | ⟨_, rfl⟩
   ·have := hR.len; omega
   ·exact ⟨rfl, rfl, rfl, _, _, hnew, mapR_nil⟩
 ·intro i k e hk hm he
  rcases app_one hk with ⟨hlt, hk⟩ | ⟨h0, hk⟩
  ·rw [List.getElem?_append_left (by rw [hR.len]; exact hlt)] at he
   obtain ⟨cs0, fr0, h1, h2, h3, h4, h5⟩ := hR.cells i k e hk hm he
   exact ⟨cs0, fr0, (hold i e he).trans h1, h2, h3, h4, fun j x hx => let ⟨y, p, q⟩ := h5 j x hx; ⟨y, p, q.mono hpre⟩⟩
  ·cases hk
   cases hm
 ·intro i j ki kj ei ej hi hj hne hki hkj hei hej
  rcases app_one hki with ⟨hil, hki⟩ | ⟨hi0, hki⟩
  ·rw [List.getElem?_append_left (by rw [hR.len]; exact hil)] at hei
   rcases app_one hkj with ⟨hjl, hkj⟩ | ⟨hj0, hkj⟩
   ·rw [List.getElem?_append_left (by rw [hR.len]; exact hjl)] at hej
    exact hR.apart i j ki kj ei ej hi hj hne hki hkj hei hej
   ·rcases app_one hej with ⟨hlt, hej⟩ | ⟨_, rfl⟩
    ·have := hR.len; omega
    ·have := hR.inb i ei hei
     show ei.b ≠ w.heap.size
     omega
  ·rcases app_one hkj with ⟨hjl, hkj⟩ | ⟨hj0, hkj⟩
   ·rw [List.getElem?_append_left (by rw [hR.len]; exact hjl)] at hej
    rcases app_one hei with ⟨hlt, hei⟩ | ⟨_, rfl⟩
    ·have := hR.len; omega
    ·have := hR.inb j ej hej
     show w.heap.size ≠ ej.b
     omega
   ·omega
 ·exact hR.globs (Nat.le_refl _) (fun i e h => pre_get hpre h) (fun i k hi hk => by
   rcases app_one hk with ⟨_, hk⟩ | ⟨h0, _⟩
   ·exact hk
   ·have := hR.le; omega) (fun i k e _ hk he => hold i e he)
theorem Rel.writeMap (hR : Rel nro base γ m H w) {i : Nat} {k : Blk} {e : Ent} {l0 l : List (Value × Value)} (hi : nro ≤ i) (hk : H[i]? = some (some k)) (hkm : k.ents = some l0) (he : m[i]? = some e) {es : Array MapEntry} {cl : Nat} (hm : MapR m l es cl) :
  Rel nro base γ m (H.set i (some (mblk k.ty l))) { w with heap := w.heap.setIfInBounds e.b (.map es cl) } := by
 have hil : i < H.length := (List.getElem?_eq_some_iff.1 hk).1
 have heb := hR.inb i e he
 obtain ⟨_, _, hes, es0, cl0, g1, _⟩ := hR.maps i k e l0 hk hkm he
 obtain ⟨hn1, hn2⟩ := MapKept.heap_set (o' := Obj.map es cl) g1
 have hs : ∀ (j : Nat) (q : Blk), (H.set i (some (mblk k.ty l)))[j]? = some (some q) → (j = i ∧ q = mblk k.ty l) ∨ (j ≠ i ∧ H[j]? = some (some q)) := by
  intro j q h
  by_cases ej : i = j
  ·subst ej
   rw [List.getElem?_set_self hil] at h
   cases h; exact .inl ⟨rfl, rfl⟩
  ·rw [List.getElem?_set_ne ej] at h; exact .inr ⟨Ne.symm ej, h⟩
 have hb : ∀ (j : Nat) (q : Blk) (e' : Ent), j ≠ i → H[j]? = some (some q) → m[j]? = some e' → e'.b ≠ e.b := by
  intro j q e' hne hq he'
  rcases Nat.lt_or_ge j nro with hj | hj
  ·have := hR.ro j e' hj he'; have := (hR.own i e hi he).1; omega
  ·exact hR.apart j i q k e' e hj hi hne hq hk he' he
 refine ⟨by simp [hR.len], by simpa using hR.le, by simpa using hR.base_le, fun j e' he' => by simpa using hR.inb j e' he', hR.ro, hR.own, ?_, ?_, ?_, hR.globs (Nat.le_refl _) (fun _ _ h => h) (fun j q hj h => (hs j q h).elim (fun h => by have := h.1; omega) (fun h => h.2)) (fun j q e' hj _ he' => hn2 _ (by have := hR.ro j e' hj he'; have := (hR.own i e hi he).1; omega))⟩
 ·intro j q e' l' hq hl he'
  rcases hs j q hq with ⟨rfl, rfl⟩ | ⟨hne, hq⟩
  ·rw [he] at he'
   cases he'
   cases hl
   exact ⟨rfl, rfl, hes, es, cl, hn1, hm⟩
  ·obtain ⟨h1, h2, h3, es1, cl1, h4, h5⟩ := hR.maps j q e' l' hq hl he'
   exact ⟨h1, h2, h3, es1, cl1, (hn2 _ (hb j q e' hne hq he')).trans h4, h5⟩
 ·intro j q e' hq hqm he'
  rcases hs j q hq with ⟨rfl, rfl⟩ | ⟨hne, hq⟩
  ·cases hqm
  ·obtain ⟨cs0, fr0, h1, h2⟩ := hR.cells j q e' hq hqm he'
   exact ⟨cs0, fr0, (hn2 _ (hb j q e' hne hq he')).trans h1, h2⟩
 ·intro j1 j2 k1 k2 e1 e2 h1 h2 hne hk1 hk2 he1 he2
  have h1' : ∃ q, H[j1]? = some (some q) := by rcases hs j1 k1 hk1 with ⟨rfl, _⟩ | ⟨_, h⟩; exact ⟨k, hk⟩; exact ⟨_, h⟩
  have h2' : ∃ q, H[j2]? = some (some q) := by rcases hs j2 k2 hk2 with ⟨rfl, _⟩ | ⟨_, h⟩; exact ⟨k, hk⟩; exact ⟨_, h⟩
  obtain ⟨q1, hq1⟩ := h1'
  obtain ⟨q2, hq2⟩ := h2'
  exact hR.apart j1 j2 q1 q2 e1 e2 h1 h2 hne hq1 hq2 he1 he2
theorem makeMap_run (hR : Rel nro base γ m H w) {t : TypeId} {r r' : Option Value} {v : Value} {H' : AH} (hr : (r = none ∧ r' = none) ∨ ∃ x x', r = some x ∧ r' = some x' ∧ V m x x') (h : xmakeMap P t r H = some (v, H')) :
  ∃ m' v' w', (Instr.makeMap t r').run P w = .ok v' w' ∧ m <+: m' ∧ V m' v v' ∧ Rel nro base γ m' H' w' ∧ Below base w w' := by
 have hv : V (m ++ [⟨w.heap.size, 0, 0, none⟩]) (.map (some H.length)) (.map (some w.heap.size)) := .one (.mp (e := ⟨w.heap.size, 0, 0, none⟩) (by rw [← hR.len]; simp))
 unfold xmakeMap at h
 split at h
 ·rename_i hu
  cases h
  rcases hr with ⟨_, rfl⟩ | ⟨x, x', e, _⟩
  ·refine ⟨_, _, _, ?_, pre_app _ _, hv, hR.addMap t, (Below.refl _ _).alloc hR.base_le _⟩
   simp [Instr.makeMap]
  ·cases e
 ·rename_i kk z hu
  cases h
  rcases hr with ⟨e, _⟩ | ⟨x, x', e, rfl, hx⟩
  ·cases e
  ·cases e
   obtain rfl := hx.int_
   refine ⟨_, _, _, ?_, pre_app _ _, hv, hR.addMap t, (Below.refl _ _).alloc hR.base_le _⟩
   simp [Instr.makeMap, run_underlying (und_some hu (by simp)), asInt, asIntOf]
 ·cases h
theorem same_bits {kt : TypeId} {k k' : Value} (h : keyOk P kt k = true) (h' : keyOk P kt k' = true) (he : keyEq k k' = true) : Instr.sameBits 10000 k' k = true := by
 unfold keyOk at h h'
 split at h
 ·rename_i kk k1 z hu
  rw [hu] at h'
  cases k' <;> simp only [] at h' <;> try (cases h'; done)
  simp only [decide_eq_true_eq] at h h'
  subst h h'
  simp only [keyEq, beq_iff_eq] at he
  subst he
  simp [Instr.sameBits]
 ·rename_i z hu
  rw [hu] at h'
  cases k' <;> simp only [] at h' <;> try (cases h'; done)
  simp only [keyEq] at he
  have := (MapKept.bytes_beq _ _).1 he
  subst this
  simp only [Instr.sameBits]
  exact (MapKept.bytes_beq _ _).2 rfl
 ·rename_i n e cs hu
  cases hee : und P e <;> rw [hee] at h <;> simp only [] at h <;> try (cases h; done)
  rename_i kk
  rw [hu] at h'
  cases k' <;> simp only [] at h' <;> try (cases h'; done)
  rename_i ds
  rw [hee] at h'
  simp only [Bool.and_eq_true, decide_eq_true_eq] at h h'
  have h1 := allK_spec h.1.1.2
  have h2 := allK_spec h'.1.1.2
  simp only [keyEq, beq_iff_eq] at he
  have e1 : cs.toList = ds.toList := by rw [h1, h2, he]
  have e2 : cs = ds := Array.toList_inj.1 e1
  subst e2
  show ((cs.size == cs.size) && ((cs.toList.zip cs.toList).all fun (x, y) => Instr.sameBits 9999 x y)) = true
  simp only [beq_self_eq_true, Bool.true_and]
  rw [h1]
  generalize cs.toList.map num = xs
  rw [List.all_eq_true]
  intro p hp
  have : ∀ (l : List Int) (p : Value × Value), p ∈ (iv kk l).zip (iv kk l) → Instr.sameBits 9999 p.1 p.2 = true := by
   intro l
   induction l with
   | nil => intro p hp; cases hp
   | cons x l ih =>
    intro p hp
    simp only [iv, List.map_cons, List.zip_cons_cons, List.mem_cons] at hp
    rcases hp with rfl | hp
    ·simp [Instr.sameBits]
    ·exact ih p hp
  exact this xs p hp
 ·cases h
theorem born_mod {es : Array MapEntry} {j : Nat} {f : MapEntry → MapEntry} (hf : ∀ e, (f e).born = e.born) (h : ∀ (j : Nat) (en : MapEntry), es[j]? = some en → en.born = j) : ∀ (q : Nat) (en : MapEntry), (es.modify j f)[q]? = some en → en.born = q := by
 intro q en hq
 rw [Array.getElem?_modify] at hq
 split at hq
 ·cases he : es[q]? with
  | none => rw [he] at hq; cases hq
  | some e0 =>
   rw [he] at hq
   cases hq
   rw [hf]
   exact h q e0 he
 ·exact h q en hq
theorem born_push {es : Array MapEntry} {e0 : MapEntry} (hb : es.size = e0.born) (h : ∀ (j : Nat) (en : MapEntry), es[j]? = some en → en.born = j) : ∀ (q : Nat) (en : MapEntry), (es.push e0)[q]? = some en → en.born = q := by
 intro q en hq
 rw [Array.getElem?_push] at hq
 split at hq
 ·rename_i e
  cases hq
  omega
 ·exact h q en hq
theorem below_set {r : Nat} (hb : base ≤ r) (o : Obj) : Below base w { w with heap := w.heap.setIfInBounds r o } :=
 ⟨rfl, rfl, rfl, by simp, fun k hk => by simp [show r ≠ k by omega]⟩
theorem mapUpd_run (hR : Rel nro base γ m H w) {t : TypeId} {x k z x' k' z' v : Value} {H' : AH} (hx : V m x x') (hk : V m k k') (hz : V m z z') (h : xmapUpd P nro t x k z H = some (v, H')) :
  ∃ w', (Instr.mapUpdate t x' k' z').run P w = .ok () w' ∧ v = undef ∧ Rel nro base γ m H' w' ∧ Below base w w' := by
 unfold xmapUpd at h
 split at h
 case h_2 => cases h
 rename_i kt et i hu
 split at h
 case h_2 => cases h
 rename_i b hb
 split at h
 case h_2 => cases h
 rename_i l hl
 split at h
 case isFalse => cases h
 rename_i hc
 obtain ⟨hi, hko, hmo, hnt⟩ := hc
 cases h
 obtain ⟨e, he, rfl⟩ := hx.map_
 obtain ⟨_, _, _, es, cl, g1, g2⟩ := hR.maps i b e l (hget_some hb) hl he
 have hown := hR.own i e hi he
 have hkp := keyOk_plain hko
 obtain rfl : k' = k := hk.eq (by
  cases k <;> first | exact hkp | cases hkp)
 have hz2 := hz.v2 hnt
 have hf := find_run (P := P) hko hmo g2 w
 have hck := checkKey_run (P := P) hko false 9998 w
 have hck' : (Instr.checkKey false 10000 kt k').run P w = .ok () w := hck
 cases hm : mfind k' l with
 | some j =>
  rw [hm] at hf
  simp only [Option.map_some] at hf
  obtain ⟨hj, p, hp, heq⟩ := mfind_lt hm
  obtain ⟨_, en, a1, a2, a3⟩ := g2.2.1 j p hp
  have hmp : mput k' z l = l.set j (k', z) := by simp [mput, hm]
  have hsb := same_bits hko (List.all_eq_true.1 hmo p (List.mem_of_getElem? hp)) heq
  rw [← a2] at hsb
  have hjs : j < es.size := (Array.getElem?_eq_some_iff.1 a1).1
  rw [hmp]
  refine ⟨_, ?_, rfl, hR.writeMap hi (hget_some hb) hl he (cl := cl) (es := es.modify j fun e => { e with key := k', val := z' }) ⟨by simp [g2.1], fun q pp hq => ?_, by rw [List.length_set]; exact g2.2.2.1, born_mod (fun _ => rfl) g2.2.2.2⟩, below_set hown.1 _⟩
  ·unfold Instr.mapUpdate
   simp only [Sem.run_bind, run_underlying (und_some hu (by simp)), Result.andThen_ok, MapKept.run_getObj_map g1, hck', hf]
   have e1 : ((es[j]?).map (·.key)).getD k' = en.key := by rw [a1]; rfl
   rw [e1]
   unfold Instr.keyThatStays
   rw [if_pos hsb]
   simp only [Sem.run_pure, Result.andThen_ok, MapKept.run_setObj_map _ g1]
  ·by_cases hqj : j = q
   ·subst hqj
    rw [List.getElem?_set_self hj] at hq
    cases hq
    refine ⟨hkp, { en with key := k', val := z' }, ?_, rfl, hz2⟩
    simp [Array.getElem?_modify, a1]
   ·rw [List.getElem?_set_ne hqj] at hq
    obtain ⟨b0, en', b1, b2, b3⟩ := g2.2.1 q pp hq
    refine ⟨b0, en', ?_, b2, b3⟩
    simp [Array.getElem?_modify, hqj, b1]
 | none =>
  rw [hm] at hf
  simp only [Option.map_none] at hf
  have hmp : mput k' z l = l ++ [(k', z)] := by simp [mput, hm]
  rw [hmp]
  refine ⟨_, ?_, rfl, hR.writeMap hi (hget_some hb) hl he (cl := cl + 1) (es := es.push { key := k', val := z', born := cl }) ⟨by simp [g2.1], fun q pp hq => ?_, by rw [List.length_append, g2.2.2.1]; rfl, born_push (by rw [g2.1, g2.2.2.1]) g2.2.2.2⟩, below_set hown.1 _⟩
  ·unfold Instr.mapUpdate
   simp only [Sem.run_bind, run_underlying (und_some hu (by simp)), Result.andThen_ok, MapKept.run_getObj_map g1, hck', hf, MapKept.run_setObj_map _ g1]
  ·rcases app_one hq with ⟨hlt, hq⟩ | ⟨h0, hq⟩
   ·obtain ⟨b0, en', b1, b2, b3⟩ := g2.2.1 q pp hq
    have := (Array.getElem?_eq_some_iff.1 b1).1
    exact ⟨b0, en', by rw [Array.getElem?_push, if_neg (by omega)]; exact b1, b2, b3⟩
   ·subst hq
    exact ⟨hkp, { key := k', val := z', born := cl }, by rw [Array.getElem?_push, if_pos (by rw [g2.1]; exact h0)], rfl, hz2⟩
theorem pair_mk {z z' : Value} {q : Int} (h : V2 m z z') : V m (.tuple #[z, .int .i64 q]) (.tuple #[z', .int .i64 q]) := by
 refine .tup rfl fun j x hj => ?_
 match j, hj with
 | 0, hj => cases hj; exact ⟨z', rfl, h⟩
 | 1, hj => cases hj; exact ⟨.int .i64 q, rfl, .one (.plain rfl)⟩
 | j + 2, hj => simp at hj
theorem mapEnt_run (hR : Rel nro base γ m H w) {t : TypeId} {x k x' k' v : Value} {H' : AH} (hx : V m x x') (hk : V m k k') (h : xmapEnt P nro t x k H = some (v, H')) :
  ∃ w' v', (Instr.mapEntry t x' k').run P w = .ok v' w' ∧ V m v v' ∧ Rel nro base γ m H' w' ∧ Below base w w' := by
 unfold xmapEnt at h
 split at h
 case h_2 => cases h
 rename_i kt et i hu
 split at h
 case h_2 => cases h
 rename_i b hb
 split at h
 case h_2 => cases h
 rename_i l hl
 split at h
 case isFalse => cases h
 rename_i hc
 obtain ⟨hi, hko, hmo⟩ := hc
 obtain ⟨e, he, rfl⟩ := hx.map_
 obtain ⟨_, _, _, es, cl, g1, g2⟩ := hR.maps i b e l (hget_some hb) hl he
 have hown := hR.own i e hi he
 have hkp := keyOk_plain hko
 obtain rfl : k' = k := hk.eq (by
  cases k <;> first | exact hkp | cases hkp)
 have hf := find_run (P := P) hko hmo g2 w
 have hck := checkKey_run (P := P) hko false 9998 w
 have hck' : (Instr.checkKey false 10000 kt k').run P w = .ok () w := hck
 cases hm : mfind k' l with
 | some j =>
  rw [hm] at hf h
  simp only [Option.map_some] at hf h
  obtain ⟨hj, p, hp, heq⟩ := mfind_lt hm
  obtain ⟨_, en, a1, a2, a3⟩ := g2.2.1 j p hp
  have hsb := same_bits hko (List.all_eq_true.1 hmo p (List.mem_of_getElem? hp)) heq
  rw [← a2] at hsb
  have hgd : l.getD j (undef, undef) = p := by rw [List.getD_eq_getElem?_getD, hp]; rfl
  have hen : es.toList.getD j default = en := by rw [List.getD_eq_getElem?_getD, Array.getElem?_toList, a1]; rfl
  rw [hgd] at h
  rw [hen] at hf
  cases h
  have hbn := g2.2.2.2 j en a1
  refine ⟨_, _, ?_, pair_mk a3, hR.writeMap hi (hget_some hb) hl he (cl := cl) (es := es.modify j fun e => { e with key := k' }) ⟨by simp [g2.1], fun q pp hq => ?_, by rw [List.length_set]; exact g2.2.2.1, born_mod (fun _ => rfl) g2.2.2.2⟩, below_set hown.1 _⟩
  ·unfold Instr.mapEntry
   simp only [Sem.run_bind, run_underlying (und_some hu (by simp)), Result.andThen_ok, MapKept.run_getObj_map g1, hck', hf]
   have e1 : ((es[j]?).map (·.key)).getD k' = en.key := by rw [a1]; rfl
   have e2 : ((es[j]?).map (fun x => (x.born : Int))).getD 0 = (j : Int) := by
    rw [a1]
    show ((en.born : Nat) : Int) = j
    rw [hbn]
   rw [e1, e2]
   unfold Instr.keyThatStays
   rw [if_pos hsb]
   simp only [Sem.run_pure, Result.andThen_ok, MapKept.run_setObj_map _ g1, goInt]
  ·by_cases hqj : j = q
   ·subst hqj
    rw [List.getElem?_set_self hj] at hq
    cases hq
    refine ⟨hkp, { en with key := k' }, ?_, rfl, a3⟩
    simp [Array.getElem?_modify, a1]
   ·rw [List.getElem?_set_ne hqj] at hq
    obtain ⟨b0, en', b1, b2, b3⟩ := g2.2.1 q pp hq
    refine ⟨b0, en', ?_, b2, b3⟩
    simp [Array.getElem?_modify, hqj, b1]
 | none =>
  rw [hm] at hf h
  simp only [Option.map_none] at hf
  simp only at h
  split at h
  case h_2 => cases h
  rename_i z hz
  split at h
  case isFalse => cases h
  rename_i hzp
  cases h
  have hz2 := plain2_mk (m := m) hzp
  have hzr : (zeroValue et).run P w = .ok z w := by
   unfold zer at hz
   cases hi : P.info? et with
   | none => rw [hi] at hz; cases hz
   | some it =>
    rw [hi] at hz
    have h' : it.zero = some z := hz
    simp [zeroValue, typeInfo, hi, h']
  refine ⟨_, _, ?_, pair_mk hz2, hR.writeMap hi (hget_some hb) hl he (cl := cl + 1) (es := es.push { key := k', val := z, born := cl }) ⟨by simp [g2.1], fun q pp hq => ?_, by rw [List.length_append, g2.2.2.1]; rfl, born_push (by rw [g2.1, g2.2.2.1]) g2.2.2.2⟩, below_set hown.1 _⟩
  ·unfold Instr.mapEntry
   have hcl := g2.2.2.1
   simp only [Sem.run_bind, run_underlying (und_some hu (by simp)), Result.andThen_ok, MapKept.run_getObj_map g1, hck', hf, hzr, MapKept.run_setObj_map _ g1, Sem.run_pure, goInt, hcl]
  ·rcases app_one hq with ⟨hlt, hq⟩ | ⟨h0, hq⟩
   ·obtain ⟨b0, en', b1, b2, b3⟩ := g2.2.1 q pp hq
    have := (Array.getElem?_eq_some_iff.1 b1).1
    exact ⟨b0, en', by rw [Array.getElem?_push, if_neg (by omega)]; exact b1, b2, b3⟩
   ·subst hq
    exact ⟨hkp, { key := k', val := z, born := cl }, by rw [Array.getElem?_push, if_pos (by rw [g2.1]; exact h0)], rfl, hz2⟩
theorem entSt_run (hR : Rel nro base γ m H w) {t : TypeId} {x s z x' s' z' v : Value} {H' : AH} (hx : V m x x') (hs : V m s s') (hz : V m z z') (h : xentSt nro x s z H = some (v, H')) :
  ∃ w', (Instr.entryStore t x' s' z').run P w = .ok () w' ∧ v = undef ∧ Rel nro base γ m H' w' ∧ Below base w w' := by
 unfold xentSt at h
 split at h
 case h_2 => cases h
 rename_i i q
 split at h
 case h_2 => cases h
 rename_i b hb
 split at h
 case h_2 => cases h
 rename_i l hl
 split at h
 case isFalse => cases h
 rename_i hc
 obtain ⟨hi, hq0, hql, hnt⟩ := hc
 cases h
 obtain ⟨e, he, rfl⟩ := hx.map_
 obtain rfl := hs.int_
 obtain ⟨_, _, _, es, cl, g1, g2⟩ := hR.maps i b e l (hget_some hb) hl he
 have hown := hR.own i e hi he
 have hz2 := hz.v2 hnt
 obtain ⟨j, rfl⟩ := Int.eq_ofNat_of_zero_le hq0
 simp only [Int.toNat_natCast] at hql ⊢
 obtain ⟨p, hp⟩ : ∃ p, l[j]? = some p := ⟨_, List.getElem?_eq_getElem hql⟩
 obtain ⟨hkp, en, a1, a2, a3⟩ := g2.2.1 j p hp
 have hgd : l.getD j (undef, undef) = p := by rw [List.getD_eq_getElem?_getD, hp]; rfl
 have hjs : j < es.size := by rw [g2.1]; exact hql
 have hfi : es.findIdx? (fun e => (e.born : Int) == (j : Int)) = some j := by
  rw [Array.findIdx?_eq_some_iff_getElem]
  refine ⟨hjs, ?_, fun q hq => ?_⟩
  ·have := g2.2.2.2 j es[j] (Array.getElem?_eq_getElem hjs)
   simp [this]
  ·have := g2.2.2.2 q es[q] (Array.getElem?_eq_getElem (by omega))
   simp [this]
   omega
 rw [hgd]
 refine ⟨_, ?_, trivial, hR.writeMap hi (hget_some hb) hl he (cl := cl) (es := es.modify j fun e => { e with val := z' }) ⟨by simp [g2.1], fun q pp hq => ?_, by rw [List.length_set]; exact g2.2.2.1, born_mod (fun _ => rfl) g2.2.2.2⟩, below_set hown.1 _⟩
 ·unfold Instr.entryStore
  simp only [Sem.run_bind, Result.andThen_ok, MapKept.run_getObj_map g1, asInt, asIntOf, Sem.run_pure, hfi, MapKept.run_setObj_map _ g1]
 ·by_cases hqj : j = q
  ·subst hqj
   rw [List.getElem?_set_self hql] at hq
   cases hq
   refine ⟨hkp, { en with val := z' }, ?_, a2, hz2⟩
   simp [Array.getElem?_modify, a1]
  ·rw [List.getElem?_set_ne hqj] at hq
   obtain ⟨b0, en', b1, b2, b3⟩ := g2.2.1 q pp hq
   refine ⟨b0, en', ?_, b2, b3⟩
   simp [Array.getElem?_modify, hqj, b1]
end
end
section
section
variable {P : Program} {nro n base : Nat} {γ : Nat → Option Nat} {m : List Ent} {H : AH} {α : Fm} {a : Act} {w : World}
theorem iv_all (k : IntKind) (l : List Int) : (iv k l).all plain1 = true := by
 unfold iv
 rw [List.all_map, List.all_eq_true]
 intro x _
 rfl
theorem copy_store (hR : Rel nro base γ m H w) {i off len c : Nat} {k : Blk} {d' : Value} {news news' : List Value} (hd : V m (.slice (some ⟨i, off, none⟩) len c) d') (hk : hget H i = some k) (hi : nro ≤ i) (hv : Vs m news news')
  (hl : off + news.length ≤ k.cells.length) : ∃ (e : Ent) (c' : Nat) (w' : World), d' = .slice (some ⟨e.b, off, none⟩) len c' ∧ (storeCells ⟨e.b, off, none⟩ news').run P w = .ok () w' ∧ Rel nro base γ m (H.set i (some (k.with_ (setR k.cells off news)))) w' ∧ Below base w w' := by
 obtain ⟨en, c', hen, _, rfl, _⟩ := hd.slw_
 have ho := hR.own i en hi hen
 obtain ⟨w', h1, h2, h3⟩ := storeCells_rel (P := P) hi hen news news' off 0 H w k hv hR (hget_some hk) (by omega)
 exact ⟨en, c', w', by rw [ho.2, Nat.zero_add], h1, h2, h3⟩
theorem copy_run (hR : Rel nro base γ m H w) {t u ty : TypeId} {d x d' x' v : Value} {H' : AH} (hd : V m d d') (hx : V m x x') (h : xcopy P nro t d x H = some (v, H')) :
  ∃ v' w', (Builtin.copy_ #[t, u] ty #[d', x']).run P w = .ok v' w' ∧ V m v v' ∧ Rel nro base γ m H' w' ∧ Below base w w' := by
 unfold xcopy at h
 split at h
 case h_2 => cases h
 rename_i e hu
 have hus := und_some hu (by simp)
 have known : ∀ (news : List Value) (i off len c : Nat) (k : Blk), V m (.slice (some ⟨i, off, none⟩) len c) d' → xcells (szt P e) x H = some news → hget H i = some k → 0 < szt P e → nro ≤ i → off + len * szt P e ≤ k.cells.length →
   ∃ v' w', (Builtin.copy_ #[t, u] ty #[d', x']).run P w = .ok v' w' ∧ V m (.int .i64 ((min (news.length / szt P e) len : Nat) : Int)) v' ∧ Rel nro base γ m (H.set i (some (k.with_ (setR k.cells off (news.take (min (news.length / szt P e) len * szt P e)))))) w' ∧ Below base w w' := by
  intro news i off len c k hd hnews hk h0 hi hll
  obtain ⟨nn, hnn⟩ : ∃ nn, nn = min (news.length / szt P e) len := ⟨_, rfl⟩
  rw [← hnn]
  have hnl : nn ≤ len := by omega
  have hnl2 : nn * szt P e ≤ len * szt P e := Nat.mul_le_mul_right _ hnl
  have hnn2 : nn * szt P e ≤ news.length := Nat.le_trans (Nat.mul_le_mul_right _ (by omega : nn ≤ news.length / szt P e)) (Nat.div_mul_le_self _ _)
  have fin : ∀ (news' : List Value) (hv : Vs m (news.take (nn * szt P e)) news'), (∀ w', (Builtin.lenOf x').run P w' = .ok (news.length / szt P e) w') → (Builtin.firstCells (szt P e) nn x').run P w = .ok news'.toArray w →
    ∃ v' w', (Builtin.copy_ #[t, u] ty #[d', x']).run P w = .ok v' w' ∧ V m (.int .i64 (nn : Int)) v' ∧ Rel nro base γ m (H.set i (some (k.with_ (setR k.cells off (news.take (nn * szt P e)))))) w' ∧ Below base w w' := by
   intro news' hv hlen hfirst
   obtain ⟨en, c', w', rfl, h1, h2, h3⟩ := copy_store (P := P) hR hd hk hi hv (by simp; omega)
   refine ⟨.int .i64 (nn : Int), w', ?_, plainV_mk rfl, h2, h3⟩
   have hmin : Nat.min (news.length / szt P e) len = nn := hnn.symm
   simp [Builtin.copy_, run_underlying hus, hlen, run_sizeOf h0, hmin, hfirst, h1, goInt]
  by_cases hstr : ∃ s, x = .string s
  ·obtain ⟨s, rfl⟩ := hstr
   have := hx.eq rfl
   subst this
   unfold xcells at hnews
   simp only at hnews
   split at hnews
   case isFalse => cases hnews
   rename_i hsz
   cases hnews
   rw [hsz] at hnn fin ⊢
   simp only [Nat.mul_one, iv_length, List.length_map, Nat.div_one] at hnn fin ⊢
   have hsl : s.data.toList.length = s.size := by simp
   rw [hsl] at hnn fin
   refine fin (iv .u8 ((s.data.toList.map fun b => (b.toNat : Int)).take nn)) ?_ (fun w' => rfl) ?_
   ·rw [iv_take]; exact plain_Vs (iv_all _ _)
   ·show Result.ok ((s.extract 0 nn).data.map fun b => Value.int .u8 b.toNat) w = _
    congr 1
    have hle : nn ≤ s.size := by omega
    apply Array.ext'
    simp only [iv, List.map_take, List.map_map, ByteArray.data_extract, Array.toList_map]
    simp [Function.comp_def]
  ·rcases xcells_slice hR hx hnews (fun s e => hstr ⟨s, e⟩) with ⟨rfl, rfl⟩ | ⟨ad, cnt, c, news', rfl, hv, hl', hcell⟩
   ·have hn0 : nn = 0 := by rw [hnn]; simp
    refine fin [] ⟨by simp, by simp⟩ (fun w' => by simp [Builtin.lenOf]) (by simp [Builtin.firstCells])
   ·have hnlen : news.length = cnt * szt P e := by rw [← hv.1]; exact hl'
    have hdiv : news.length / szt P e = cnt := by rw [hnlen]; exact Nat.mul_div_cancel _ h0
    refine fin (news'.take (nn * szt P e)) (hv.take _) (fun w' => by simp [Builtin.lenOf, hdiv]) ?_
    refine run_firstCells_some w (szt P e) nn ad cnt c _ (by rw [List.length_take, hv.1]; omega) (fun j v hj => ?_)
    have hjl : j < nn * szt P e := by
     rcases Nat.lt_or_ge j (nn * szt P e) with h | h
     ·exact h
     ·rw [List.getElem?_eq_none (by simp; omega)] at hj; cases hj
    rw [List.getElem?_take_of_lt hjl] at hj
    exact hcell j v hj
 split at h
 ·-- into a known block
  rename_i news i off len c hnews
  split at h
  case h_2 => cases h
  rename_i k hk
  split at h
  case isFalse => cases h
  rename_i hc
  obtain ⟨h0, hi, hll⟩ := hc
  cases h
  exact known news i off len c k hd hnews hk h0 hi hll
 ·rename_i news b off hnews
  split at h
  case isFalse => cases h
  rename_i h0
  cases h
  have hy : ∃ a c, d' = .slice (some a) 0 c := by
   cases hd with
   | two h => cases h with
    | one h => cases h with
     | plain h => cases h
     | sl0 => exact ⟨_, _, rfl⟩
  obtain ⟨a', c', rfl⟩ := hy
  refine ⟨.int .i64 0, w, ?_, plainV_mk rfl, hR, .refl _ _⟩
  by_cases hstr : ∃ s, x = .string s
  ·obtain ⟨s, rfl⟩ := hstr
   have := hx.eq rfl
   subst this
   simp [Builtin.copy_, run_underlying hus, Builtin.lenOf, run_sizeOf h0, Builtin.firstCells, goInt, storeCells]
  ·rcases xcells_slice hR hx hnews (fun s e => hstr ⟨s, e⟩) with ⟨rfl, rfl⟩ | ⟨ad, cnt, c, news', rfl, hv, hl', hcell⟩
   ·simp [Builtin.copy_, run_underlying hus, Builtin.lenOf, run_sizeOf h0, Builtin.firstCells, goInt, storeCells]
   ·simp [Builtin.copy_, run_underlying hus, Builtin.lenOf, run_sizeOf h0, Builtin.firstCells, goInt, storeCells, loadCells, loadCellsFrom]
 ·rename_i news i cc len c hnews
  split at h
  case h_2 => cases h
  rename_i k hk
  split at h
  case isFalse => cases h
  rename_i hc
  obtain ⟨h0, hi, hll⟩ := hc
  cases h
  exact known news i 0 len _ k hd.slxw hnews hk h0 hi (by omega)
 ·cases h
theorem run_v2 {S : Sem Value} {x : Value} {w w' : World} (h : S.run P w = .ok x w') : (do pure (.value (← S)) : Sem Next).run P w = .ok (.value x) w' := by
 simp [h]
theorem xeff_ev {o : Oper} {v : Value} {H' : AH} (hR : Rel nro base γ m H w) (ev : ∀ x ∈ o.op.operands, V m (α.eval γ x) (a.eval x)) (h : xeff P nro γ o.op α H = some (v, H')) :
  ∃ m' x w' v', (execOp a.eval o).run P w = .ok x w' ∧ (x = .value v' ∨ x = .skip ∧ v' = undef) ∧ m <+: m' ∧ V m' v v' ∧ Rel nro base γ m' H' w' ∧ Below base w w' := by
 obtain ⟨dst, op, type, pos, after, guard⟩ := o
 simp only at ev h
 have hlen2 : m.length = H.length := hR.len
 have newp : ∀ (cs : Array Value), V (m ++ [⟨w.heap.size, 0, cs.size, none⟩]) (.pointer (some ⟨H.length, 0, none⟩)) (.pointer (some ⟨w.heap.size, 0, none⟩)) := fun cs =>
  .one (.ptr (e := ⟨w.heap.size, 0, cs.size, none⟩) (by rw [← hlen2]; simp))
 unfold xeff at h
 split at h
 ·rename_i t
  split at h
  case h_2 => cases h
  rename_i z hz
  split at h
  case isFalse => cases h
  rename_i hp
  cases h
  refine ⟨_, _, _, _, ?_, .inl rfl, pre_app _ _, newp z.cells, hR.alloc z.cells t none (plain_Vs hp), (Below.refl _ _).alloc hR.base_le _⟩
  refine run_v2 ?_
  simp [Instr.alloc, run_zero hz, newVar, run_newRow]
 ·rename_i t x
  split at h
  case isFalse => cases h
  rename_i hn
  cases h
  obtain ⟨hc, _⟩ := ((ev x (by simp [Op.operands])).v2 hn).cells hn
  refine ⟨_, _, _, _, ?_, .inl rfl, pre_app _ _, newp (a.eval x).cells, hR.alloc (a.eval x).cells t none hc, (Below.refl _ _).alloc hR.base_le _⟩
  refine run_v2 ?_
  simp [Instr.box, newVar, run_newRow]
 ·rename_i t p x
  split at h
  case h_2 => cases h
  rename_i i off hp
  split at h
  case h_2 => cases h
  rename_i k hk
  split at h
  case isFalse =>
   split at h
   case isFalse => cases h
   rename_i hc
   cases h
   obtain ⟨h0, ha, hn, hs, hi⟩ := hc
   have hp' := ev p (by simp [Op.operands])
   rw [hp] at hp'
   have h1 := store0_run (P := P) (w := w) hp' (ev x (by simp [Op.operands])) hn hs h0 ha
   refine ⟨m, .skip, w, undef, ?_, .inr ⟨rfl, rfl⟩, List.prefix_rfl, plainV_mk plainV_undef, hR, Below.refl _ _⟩
   simp [execOp, h1]
  rename_i hc
  cases h
  obtain ⟨hi, hn, hs, h0, hl⟩ := hc
  have hp' := ev p (by simp [Op.operands])
  rw [hp] at hp'
  obtain ⟨w', h1, h2, h3⟩ := storeAt_run (P := P) hR hp' (ev x (by simp [Op.operands])) hi hk hn hs h0 hl
  refine ⟨m, .skip, w', undef, ?_, .inr ⟨rfl, rfl⟩, List.prefix_rfl, plainV_mk plainV_undef, h2, h3⟩
  simp [execOp, h1]
 ·rename_i t len ps
  split at h
  case h_2 => cases h
  rename_i e hu
  split at h
  case h_2 => cases h
  rename_i z hz
  split at h
  case isFalse => cases h
  rename_i hc
  obtain ⟨h0, hzs, hp, hl, hn⟩ := hc
  split at h
  case h_2 => cases h
  rename_i cs hf
  cases h
  obtain ⟨m', v', w', h1, h2, h3, h4, h5⟩ := buildSlice_run (P := P) hR (t := t) (len := len) (parts := ps.toList.map fun p => (p.1, α.eval γ p.2)) (parts' := ps.toList.map fun p => (p.1, a.eval p.2)) hu hz h0 hzs hp hl
   (by rw [List.all_map]; exact hn) (by simp) (fun j p hj => by
   rw [List.getElem?_map] at hj ⊢
   cases hq : ps.toList[j]? with
   | none => rw [hq] at hj; cases hj
   | some q =>
    rw [hq] at hj
    cases hj
    refine ⟨_, rfl, rfl, ev q.2 ?_⟩
    simp only [Op.operands, List.mem_toArray, List.mem_map]
    exact ⟨q, List.mem_of_getElem? hq, rfl⟩) hf
  refine ⟨m', _, w', v', run_v2 ?_, .inl rfl, h2, h3, h4, h5⟩
  rw [← h1]
  congr 2
  apply Array.toList_inj.1
  simp
 ·rename_i t l c
  split at h
  case h_2 => cases h
  rename_i e k1 l1 k2 c1 hu hl hc
  split at h
  case h_2 => cases h
  rename_i z hz
  split at h
  case isFalse => cases h
  rename_i hcond
  obtain ⟨h0, hzs, hp, hl0, hlc, hb, hm⟩ := hcond
  cases h
  have hl' := ev l (by simp [Op.operands])
  have hc' := ev c (by simp [Op.operands])
  rw [hl] at hl'
  rw [hc] at hc'
  obtain ⟨m', v', w', h1, h2, h3, h4, h5⟩ := makeSlice_run (P := P) hR (t := t) (k := k1) (k' := k2) hu hz h0 hzs hp hl0 hlc hb hm
  refine ⟨m', _, w', v', run_v2 ?_, .inl rfl, h2, h3, h4, h5⟩
  rw [hl'.int_, hc'.int_]
  exact h1
 ·rename_i s d x
  split at h
  case h_2 => cases h
  rename_i e b hs hd hx
  split at h
  case h_2 => cases h
  rename_i he
  cases h
  have hx' := ev x (by simp [Op.operands])
  rw [hx] at hx'
  obtain ⟨m', v', w', h1, h2, h3, h4, h5⟩ := bytes_run (P := P) hR (b := b) hs hd he
  refine ⟨m', _, w', v', run_v2 ?_, .inl rfl, h2, h3, h4, h5⟩
  rw [hx'.eq rfl]
  exact h1
 ·rename_i c
  obtain ⟨callee, args, argTypes⟩ := c
  obtain ⟨args⟩ := args
  obtain ⟨argTypes⟩ := argTypes
  simp only at h
  split at h
  ·rename_i s x t u
   split at h
   case isFalse =>
    obtain ⟨m', v', w', h1, h2, h3, h4, h5⟩ := app2_run (P := P) (ty := type) hR (ev s (by simp [Op.operands, Call.operands])) (ev x (by simp [Op.operands, Call.operands])) h
    refine ⟨m', _, w', v', ?_, .inl rfl, h2, h3, h4, h5⟩
    simp [execOp, resolve, invoke, builtin, h1]
   rename_i htu
   subst htu
   obtain ⟨m', v', w', h1, h2, h3, h4, h5⟩ := append_run (P := P) (ty := type) hR (ev s (by simp [Op.operands, Call.operands])) (ev x (by simp [Op.operands, Call.operands])) h
   refine ⟨m', _, w', v', ?_, .inl rfl, h2, h3, h4, h5⟩
   simp [execOp, resolve, invoke, builtin, h1]
  ·rename_i d x t u
   obtain ⟨v', w', h1, h2, h3, h4⟩ := copy_run (P := P) (u := u) (ty := type) hR (ev d (by simp [Op.operands, Call.operands])) (ev x (by simp [Op.operands, Call.operands])) h
   refine ⟨m, _, w', v', ?_, .inl rfl, List.prefix_rfl, h2, h3, h4⟩
   simp [execOp, resolve, invoke, builtin, h1]
  ·cases h
 ·rename_i t r
  obtain ⟨m', v', w', h1, h2, h3, h4, h5⟩ := makeMap_run (P := P) (r := r.map (α.eval γ)) (r' := r.map a.eval) hR (by
   cases r with
   | none => exact .inl ⟨rfl, rfl⟩
   | some x => exact .inr ⟨_, _, rfl, rfl, ev x (by simp [Op.operands])⟩) h
  exact ⟨m', _, w', v', run_v2 h1, .inl rfl, h2, h3, h4, h5⟩
 ·rename_i t x k z
  obtain ⟨w', h1, rfl, h2, h3⟩ := mapUpd_run (P := P) hR (ev x (by simp [Op.operands])) (ev k (by simp [Op.operands])) (ev z (by simp [Op.operands])) h
  refine ⟨m, .skip, w', undef, ?_, .inr ⟨rfl, rfl⟩, List.prefix_rfl, plainV_mk plainV_undef, h2, h3⟩
  simp [execOp, h1]
 ·rename_i t x k
  obtain ⟨w', v', h1, hv, h2, h3⟩ := mapEnt_run (P := P) hR (ev x (by simp [Op.operands])) (ev k (by simp [Op.operands])) h
  exact ⟨m, _, w', v', run_v2 h1, .inl rfl, List.prefix_rfl, hv, h2, h3⟩
 ·rename_i t x k z
  obtain ⟨w', h1, rfl, h2, h3⟩ := entSt_run (P := P) (t := t) hR (ev x (by simp [Op.operands])) (ev k (by simp [Op.operands])) (ev z (by simp [Op.operands])) h
  refine ⟨m, .skip, w', undef, ?_, .inr ⟨rfl, rfl⟩, List.prefix_rfl, plainV_mk plainV_undef, h2, h3⟩
  simp [execOp, h1]
 ·cases h
theorem xeff_av {o : Oper} {v : Value} {H' : AH} (hok : o.op.operands.all (okOpd n γ) = true) (h : xeff P nro γ o.op α H = some (v, H')) : AV P nro n γ o α H v H' :=
 fun m base w a hR hF => xeff_ev hR (fun x hx => hF.eval hR (by
  obtain ⟨i, hi, rfl⟩ := Array.mem_iff_getElem.1 hx
  exact (Array.all_eq_true.1 hok) i hi)) h
end
end
section
def xop (P : Program) (nro : Nat) (γ : Nat → Option Nat) (op : Op) (α : Fm) (H : AH) : Option (Value × AH) :=
 match xread P γ op α H with
 | some v => some (v, H)
 | none => xeff P nro γ op α H
def callable (P : Program) (f : FuncId) : Bool :=
 match P.funcs[f]? with
 | some fn => !(fn.name == "runtime.NumGoroutine")
 | none => false
def calleeOf (γ : Nat → Option Nat) (α : Fm) : Op → Option (FuncId × Array Value)
 | .call ⟨.value (.func f), args, _⟩ => some (f, args.map (α.eval γ))
 | _ => none
def xmeth (P : Program) (t : TypeId) (name : String) : Option (FuncId × Option Nat) :=
 match P.info? t with
 | none => none
 | some i => match i.methods.find? (·.name == name) with
  | none => none
  | some m => match m.path.toList, m.func with
   | [], some (f, p) => (match und P t, p with
    | .invalid, _ => none
    | .pointer _, true => some (f, none)
    | .pointer _, false => none
    | _, true => none
    | _, false => some (f, none))
   | [s], some (f, true) => if s.deref then none else (match und P s.struct with
    | .struct fs => (match fs[s.index]? with
     | some fd => (match und P fd.type with | .pointer _ => some (f, some fd.offset) | _ => none)
     | none => none)
    | _ => none)
   | _, _ => none
def xrecv (P : Program) (t : TypeId) (name : String) (v : Value) : Option Value :=
 match xmeth P t name with
 | some (_, none) => if notTuple v = true then some v else none
 | some (_, some off) => (match v with | .agg cs => cs[off]? | _ => none)
 | none => none
def calleeX (P : Program) (γ : Nat → Option Nat) (α : Fm) : Op → Option (FuncId × Array Value)
 | .call ⟨.value (.tmp t), args, _⟩ => (match α t with
  | .func (.func f) fs cs => some (f, fs ++ args.map (α.eval γ) ++ cs)
  | _ => none)
 | .call ⟨.invoke r name, args, _⟩ => (match α.eval γ r with
  | .iface t v => (match xmeth P t name, xrecv P t name v with
   | some (f, _), some u => some (f, #[u] ++ args.map (α.eval γ))
   | _, _ => none)
  | _ => none)
 | _ => none
inductive St where
 | val (v : Value) (H : AH)
 | call (f : FuncId) (args : Array Value)
 | no
def step1 (P : Program) (nro n : Nat) (γ : Nat → Option Nat) (ops : Array Oper) (o : Oper) (α : Fm) (H : AH) : St :=
 match wantedA ops n α o with
 | none => .no
 | some false => .val undef H
 | some true =>
  match calleeOf γ α o.op with
  | some (f, args) => .call f args
  | none => match xop P nro γ o.op α H with
   | some (v, H') => .val v H'
   | none => match calleeX P γ α o.op with
    | some (f, args) => .call f args
    | none => .no
def XL (P : Program) (nro n : Nat) (γ : Nat → Option Nat) (ops : Array Oper) (Q : Fm → AH → Prop) : List Oper → Fm → AH → Prop
 | [], α, H => Q α H
 | o :: rest, α, H =>
  match step1 P nro n γ ops o α H with
  | .no => False
  | .val v H' => XL P nro n γ ops Q rest (α.put o.dst v) H'
  | .call f args => callable P f = true ∧ AC P nro γ f args H fun v H' => XL P nro n γ ops Q rest (α.put o.dst v) H'
def QL (P : Program) (n : Nat) (γ : Nat → Option Nat) (ops : Array Oper) (Q : Fm → Prop) (H : AH) : List Oper → Fm → Prop
 | [], α => Q α
 | o :: rest, α =>
  match wantedA ops n α o with
  | none => False
  | some false => QL P n γ ops Q H rest (α.put o.dst undef)
  | some true =>
   match calleeOf γ α o.op with
   | some (f, args) => callable P f = true ∧ ∃ v, VC P f args v ∧ (args.all plainV && plainV v) = true ∧ QL P n γ ops Q H rest (α.put o.dst v)
   | none =>
    match xread P γ o.op α H with
    | some v => QL P n γ ops Q H rest (α.put o.dst v)
    | none => False
def SL (P : Program) (n : Nat) (γ : Nat → Option Nat) (ops : Array Oper) (Q : Fm → Prop) (H : AH) : List Oper → Fm → Prop
 | [], α => Q α
 | o :: rest, α =>
  match wantedA ops n α o with
  | none => False
  | some false => SL P n γ ops Q H rest (α.put o.dst undef)
  | some true =>
   match xread P γ o.op α H with
   | some v => SL P n γ ops Q H rest (α.put o.dst v)
   | none => False
section
variable {P : Program} {nro n base : Nat} {γ : Nat → Option Nat} {m : List Ent} {H : AH} {α : Fm} {a : Act} {w : World} {Q : Exit → Fm → AH → Prop}
def okL (n : Nat) (γ : Nat → Option Nat) (l : List Oper) : Bool := l.all fun o => o.op.operands.all (okOpd n γ)
theorem callable_run {f : FuncId} (h : callable P f = true) (hbd : bodied P f = true) (args : Array Value) (w : World) : (callFunc f args).run P w = .ok (.enter f args) w := by
 unfold callable at h
 split at h
 ·rename_i fn hf
  have h1 : ¬ fn.name = "runtime.NumGoroutine" := by simpa using h
  have h2 : ¬ fn.body = none := by
   intro e
   unfold bodied at hbd
   rw [hf] at hbd
   simp only [e] at hbd
   cases hbd
  simp [callFunc, hf, h1, h2]
 ·cases h
theorem call_run {o : Oper} {f : FuncId} {args : Array Operand} {ts : Array TypeId} (ho : o.op = .call ⟨.value (.func f), args, ts⟩) (h : callable P f = true) (hbd : bodied P f = true) (w : World) :
  (execOp a.eval o).run P w = .ok (.enter f (args.map a.eval)) w := by
 have he : a.eval (.func f) = .func (.func f) #[] #[] := rfl
 simp [execOp, ho, resolve, he, Deferred.ofValue, invoke, callable_run h hbd]
theorem call_runV {o : Oper} {f : FuncId} {args : Array Operand} {ts : Array TypeId} {v : Value} (ho : o.op = .call ⟨.value (.func f), args, ts⟩) {w : World} (h : (callFunc f (args.map a.eval)).run P w = .ok (.value v) w) :
  (execOp a.eval o).run P w = .ok (.value v) w := by
 have he : a.eval (.func f) = .func (.func f) #[] #[] := rfl
 simp [execOp, ho, resolve, he, Deferred.ofValue, invoke, h]
theorem args_rel {args : Array Operand} (hR : Rel nro base γ m H w) (hF : FR n m α a) (hok : args.all (okOpd n γ) = true) :
  (args.map a.eval).size = (args.map (α.eval γ)).size ∧ ∀ (i : Nat) (x : Value), (args.map (α.eval γ))[i]? = some x → ∃ y, (args.map a.eval)[i]? = some y ∧ V m x y := by
 refine ⟨by simp, fun i x hx => ?_⟩
 rw [Array.getElem?_map] at hx ⊢
 cases hq : args[i]? with
 | none => rw [hq] at hx; cases hx
 | some q =>
  rw [hq] at hx
  cases hx
  obtain ⟨hi, he⟩ := Array.getElem?_eq_some_iff.1 hq
  exact ⟨_, rfl, hF.eval hR (by rw [← he]; exact (Array.all_eq_true.1 hok) i hi)⟩
theorem callee_ops {o : Oper} {f : FuncId} {args : Array Value} (h : calleeOf γ α o.op = some (f, args)) : ∃ xs ts, o.op = .call ⟨.value (.func f), xs, ts⟩ ∧ args = xs.map (α.eval γ) := by
 unfold calleeOf at h
 split at h
 ·rename_i f' xs ts he
  cases h
  exact ⟨xs, ts, he, rfl⟩
 ·cases h
theorem xop_av {o : Oper} {v : Value} {H' : AH} (hok : o.op.operands.all (okOpd n γ) = true) (h : xop P nro γ o.op α H = some (v, H')) : AV P nro n γ o α H v H' := by
 unfold xop at h
 split at h
 ·rename_i v' hv
  cases h
  exact (xread_aq hok hv).av
 ·exact xeff_av hok h
theorem get_app3 {cs as es : Array Value} {i : Nat} {x : Value} (h : (cs ++ as ++ es)[i]? = some x) :
  (i < cs.size ∧ cs[i]? = some x) ∨ (cs.size ≤ i ∧ i < cs.size + as.size ∧ as[i - cs.size]? = some x) ∨ (cs.size + as.size ≤ i ∧ es[i - cs.size - as.size]? = some x) := by
 rcases Nat.lt_or_ge i (cs.size + as.size) with h1 | h1
 ·rw [Array.getElem?_append_left (by simpa using h1)] at h
  rcases Nat.lt_or_ge i cs.size with h2 | h2
  ·rw [Array.getElem?_append_left h2] at h
   exact .inl ⟨h2, h⟩
  ·rw [Array.getElem?_append_right h2] at h
   exact .inr (.inl ⟨h2, h1, h⟩)
 ·rw [Array.getElem?_append_right (by simpa using h1)] at h
  exact .inr (.inr ⟨h1, by simpa [Nat.sub_sub] using h⟩)
theorem V.if_ {t : TypeId} {v y : Value} (h : V m (.iface t v) y) : ∃ v', y = .iface t v' ∧ V2 m v v' := by
 cases h with
 | two h => cases h with
  | one h => cases h with
   | plain h => cases h
   | ifc h => exact ⟨_, rfl, .one h⟩
   | ifa h1 h3 => exact ⟨_, rfl, .agg h1 fun i x hx => by
     have hlt := (Array.getElem?_eq_some_iff.1 hx).1
     exact ⟨_, Array.getElem?_eq_getElem (by omega), h3 i x _ hx (Array.getElem?_eq_getElem (by omega))⟩⟩
theorem method_run {t : TypeId} {name : String} {v v' u : Value} {f : FuncId} {o : Option Nat} (hm : xmeth P t name = some (f, o)) (hr : xrecv P t name v = some u) (hv : V2 m v v') (k : Nat) :
  ∃ u', V m u u' ∧ ∀ w : World, (method (k + 1) t v' name).run P w = .ok (f, u') w := by
 unfold xrecv at hr
 rw [hm] at hr
 unfold xmeth at hm
 split at hm
 ·cases hm
 rename_i i hi
 split at hm
 ·cases hm
 rename_i mm hf
 split at hm
 ·rename_i f' p hp hfn
  cases p with
  | true =>
   cases hu : und P t <;> rw [hu] at hm <;> cases hm
   simp only at hr
   split at hr
   case isFalse => cases hr
   cases hr
   refine ⟨v', .two hv, fun w => ?_⟩
   unfold method
   simp [typeInfo, hi, hf, hp, hfn, follow, receiverAt, Place.get, run_underlying (und_some hu (by simp))]
  | false =>
   cases hu : und P t <;> rw [hu] at hm <;> cases hm
   all_goals
    simp only at hr
    split at hr
    case isFalse => cases hr
    cases hr
    refine ⟨v', .two hv, fun w => ?_⟩
    unfold method
    simp [typeInfo, hi, hf, hp, hfn, follow, receiverAt, Place.get, run_underlying (und_some hu (by simp))]
 ·rename_i s f' hp hfn
  split at hm
  ·cases hm
  rename_i hd
  split at hm
  case h_2 => cases hm
  rename_i fs hu
  split at hm
  case h_2 => cases hm
  rename_i fd hfd
  split at hm
  case h_2 => cases hm
  rename_i e hue
  cases hm
  simp only at hr
  split at hr
  case h_2 => cases hr
  rename_i cs
  have hxp : xpart P fd.type cs fd.offset = some u := by
   unfold xpart
   rw [hue]
   simpa [isAggD, okD] using hr
  obtain ⟨ds, hy, hs, hvv⟩ : ∃ ds : Array Value, v' = .agg ds ∧ ds.size = cs.size ∧ ∀ (i : Nat) (x : Value), cs[i]? = some x → ∃ y, ds[i]? = some y ∧ V1 m x y := by
   cases hv with
   | one h => cases h with | plain h => cases h
   | agg hs h => exact ⟨_, rfl, hs, h⟩
  subst hy
  obtain ⟨u', h1, h2⟩ := xpart_run hs hvv hxp
  refine ⟨u', .two h1, fun w => ?_⟩
  have hdf : s.deref = false := by simpa using hd
  unfold method
  simp [typeInfo, hi, hf, hp, hfn, follow, hdf, run_underlying (und_some hu (by simp)), hfd, h2, receiverAt, Place.get, run_underlying (und_some hue (by simp))]
 ·cases hm
theorem calleeX_ev {o : Oper} {f : FuncId} {args : Array Value} (ev : ∀ x ∈ o.op.operands, V m (α.eval γ x) (a.eval x)) (h : calleeX P γ α o.op = some (f, args)) :
  ∃ args' : Array Value, args'.size = args.size ∧ (∀ (i : Nat) (x : Value), args[i]? = some x → ∃ y, args'[i]? = some y ∧ V m x y) ∧
   (callable P f = true → bodied P f = true → (execOp a.eval o).run P w = .ok (.enter f args') w) ∧
   (∀ v, (callFunc f args').run P w = .ok (.value v) w → (execOp a.eval o).run P w = .ok (.value v) w) := by
 unfold calleeX at h
 split at h
 case h_3 => cases h
 case h_2 =>
  rename_i r name xs ts ho
  split at h
  case h_2 => cases h
  rename_i t v hrv
  split at h
  case h_2 => cases h
  rename_i f' o' u hm hu
  cases h
  rw [ho] at ev
  have hr := ev r (by simp [Op.operands, Call.operands])
  rw [hrv] at hr
  obtain ⟨v', he, hv2⟩ := hr.if_
  obtain ⟨u', h1, h2⟩ := method_run (P := P) hm hu hv2 (P.types.size + Made.depth - 1)
  have hfuel : P.types.size + Made.depth - 1 + 1 = P.types.size + Made.depth := by
   have : Made.depth = 100 := rfl
   omega
  rw [hfuel] at h2
  have hrun : (execOp a.eval o).run P w = (callFunc f (#[u'] ++ xs.map a.eval)).run P w := by
   have h0 : (#[Value.iface t v'] ++ xs.map a.eval)[0]? = some (.iface t v') := by rw [Array.getElem?_append_left (by simp)]; rfl
   have h9 : (xs.map a.eval).extract 0 xs.size = xs.map a.eval := by rw [← Array.size_map (f := a.eval)]; exact Array.extract_size
   simp [execOp, ho, resolve, he, invoke, callMethod, h2, Array.extract_append, h0, h9]
  refine ⟨#[u'] ++ xs.map a.eval, by simp, fun i x hx => ?_, fun hcal hbd => ?_, fun v0 hr0 => ?_⟩
  ·cases i with
   | zero =>
    rw [Array.getElem?_append_left (by simp)] at hx ⊢
    cases hx
    exact ⟨u', rfl, h1⟩
   | succ i =>
    rw [Array.getElem?_append_right (by simp)] at hx ⊢
    simp only [List.size_toArray, List.length_cons, List.length_nil, Nat.zero_add, Nat.add_sub_cancel] at hx ⊢
    rw [Array.getElem?_map] at hx ⊢
    cases hq : xs[i]? with
    | none => rw [hq] at hx; cases hx
    | some q =>
     rw [hq] at hx
     cases hx
     exact ⟨_, rfl, ev q (by simp [Op.operands, Call.operands, Array.mem_of_getElem? hq])⟩
  ·rw [hrun]
   exact callable_run hcal hbd _ w
  ·rw [hrun]
   exact hr0
 rename_i t xs ts ho
 split at h
 case h_2 => cases h
 rename_i f' fs cs hfn
 cases h
 rw [ho] at ev
 have h1 : (xs.map a.eval).size = (xs.map (α.eval γ)).size := by simp
 have h2 : ∀ (i : Nat) (x : Value), (xs.map (α.eval γ))[i]? = some x → ∃ y, (xs.map a.eval)[i]? = some y ∧ V m x y := fun i x hx => by
  rw [Array.getElem?_map] at hx ⊢
  cases hq : xs[i]? with
  | none => rw [hq] at hx; cases hx
  | some q =>
   rw [hq] at hx
   cases hx
   exact ⟨_, rfl, ev q (by simp [Op.operands, Call.operands, Array.mem_of_getElem? hq])⟩
 have hv := ev (.tmp t) (by simp [Op.operands, Call.operands])
 rw [show α.eval γ (.tmp t) = α t from rfl, hfn] at hv
 have hv1 := hv.v1 rfl
 obtain ⟨ds, gs, he, k1, k2, k3, k4⟩ : ∃ ds gs, a.eval (.tmp t) = .func (.func f) ds gs ∧ ds.size = fs.size ∧ gs.size = cs.size ∧ (∀ (i : Nat) (x y : Value), fs[i]? = some x → ds[i]? = some y → V1 m x y) ∧ (∀ (i : Nat) (x y : Value), cs[i]? = some x → gs[i]? = some y → V1 m x y) := by
  generalize a.eval (.tmp t) = y at hv1
  cases hv1 with
  | plain hp =>
   have hp' : fs.isEmpty = true ∧ cs.isEmpty = true := by simpa [plain1] using hp
   rw [Array.isEmpty_iff, Array.isEmpty_iff] at hp'
   obtain ⟨rfl, rfl⟩ := hp'
   exact ⟨#[], #[], rfl, rfl, rfl, fun i x y hx => by simp at hx, fun i x y hx => by simp at hx⟩
  | clo k1 k2 k3 k4 => exact ⟨_, _, rfl, k1, k2, k3, k4⟩
 have some_of : ∀ {A : Array Value} {i : Nat}, i < A.size → ∃ y, A[i]? = some y := fun h => ⟨_, Array.getElem?_eq_getElem h⟩
 refine ⟨ds ++ xs.map a.eval ++ gs, by simp only [Array.size_append]; omega, fun i x hx => ?_, fun hcal hbd => ?_, fun v hr => ?_⟩
 ·rcases get_app3 hx with ⟨g1, g2⟩ | ⟨g1, g2, g3⟩ | ⟨g1, g2⟩
  ·obtain ⟨y, hy⟩ := some_of (A := ds) (i := i) (by omega)
   refine ⟨y, ?_, .one (k3 i x y g2 hy)⟩
   rw [Array.getElem?_append_left (by simp only [Array.size_append]; omega), Array.getElem?_append_left (by omega)]
   exact hy
  ·obtain ⟨y, hy, hvy⟩ := h2 _ x g3
   refine ⟨y, ?_, hvy⟩
   rw [Array.getElem?_append_left (by simp only [Array.size_append]; omega), Array.getElem?_append_right (by omega), k1]
   exact hy
  ·have hl : i - fs.size - (xs.map (α.eval γ)).size < cs.size := (Array.getElem?_eq_some_iff.1 g2).1
   obtain ⟨y, hy⟩ := some_of (A := gs) (i := i - fs.size - (xs.map (α.eval γ)).size) (by omega)
   refine ⟨y, ?_, .one (k4 _ x y g2 hy)⟩
   rw [Array.getElem?_append_right (by simp only [Array.size_append]; omega)]
   simp only [Array.size_append, k1, h1, ← Nat.sub_sub]
   exact hy
 ·simp [execOp, ho, resolve, he, Deferred.ofValue, invoke, callable_run hcal hbd]
 ·rw [Array.append_assoc] at hr
  simp [execOp, ho, resolve, he, Deferred.ofValue, invoke, hr]
theorem calleeX_run {o : Oper} {f : FuncId} {args : Array Value} (hR : Rel nro base γ m H w) (hF : FR n m α a) (hok : o.op.operands.all (okOpd n γ) = true) (h : calleeX P γ α o.op = some (f, args)) :
  ∃ args' : Array Value, args'.size = args.size ∧ (∀ (i : Nat) (x : Value), args[i]? = some x → ∃ y, args'[i]? = some y ∧ V m x y) ∧
   (callable P f = true → bodied P f = true → (execOp a.eval o).run P w = .ok (.enter f args') w) ∧
   (∀ v, (callFunc f args').run P w = .ok (.value v) w → (execOp a.eval o).run P w = .ok (.value v) w) :=
 calleeX_ev (fun x hx => hF.eval hR (by
  obtain ⟨i, hi, rfl⟩ := Array.mem_iff_getElem.1 hx
  exact (Array.all_eq_true.1 hok) i hi)) h
theorem XL.sound {ops : Array Oper} : ∀ (l : List Oper) (α : Fm) (H : AH), okL n γ l = true → XL P nro n γ ops (Q .normal) l α H → AL P nro n γ ops Q l α H
 | [], α, H, _, h => al_nil h
 | o :: rest, α, H, hok, h => by
  simp only [okL, List.all_cons, Bool.and_eq_true] at hok
  unfold XL at h
  split at h
  ·exact h.elim
  ·rename_i v H' hst
   unfold step1 at hst
   split at hst
   ·cases hst
   ·rename_i hw
    cases hst
    exact al_pass hw (XL.sound rest _ _ hok.2 h)
   ·rename_i hw
    split at hst
    ·cases hst
    ·split at hst
     ·rename_i v' H'' hx
      cases hst
      exact al_step hw (xop_av hok.1 hx) (XL.sound rest _ _ hok.2 h)
     ·split at hst <;> cases hst
  ·rename_i f args hst
   unfold step1 at hst
   split at hst
   ·cases hst
   ·cases hst
   ·rename_i hw
    split at hst
    case h_2 =>
     split at hst
     ·cases hst
     split at hst
     case h_2 => cases hst
     rename_i f' args' hc
     cases hst
     obtain ⟨hcal, hac⟩ := h
     intro m base w a hR hF
     obtain ⟨args', h1, h2, hrun1, hrun2⟩ := calleeX_run (P := P) hR hF hok.1 hc
     unfold wpList
     rw [wantedA_spec hF hw]
     simp only [if_true]
     refine .inl ?_
     unfold Oper.wp
     rcases hac m base w args' hR h1 h2 with ⟨hbd, hac'⟩ | ⟨v0, hrun, m', v, v', H', he, hm, hv, hR', hb, hx⟩
     ·rw [hrun1 hcal hbd, Oper.upon_enter]
      refine hac'.mono ?_
      rintro e w' ⟨m', v, v', H', rfl, hm, hv, hR', hb, hx⟩
      have := XL.sound rest _ _ hok.2 hx m' base w' (a.put o.dst v') hR' ((hF.mono hm).put hv)
      exact wpList_mono (fun e a w hc => hc.trans hm hb) _ _ _ this
     ·cases he
      rw [hrun2 v0 hrun, Oper.upon_value]
      have := XL.sound rest _ _ hok.2 hx m' base w (a.put o.dst v0) hR' ((hF.mono hm).put hv)
      exact wpList_mono (fun e a w hc => hc.trans hm hb) _ _ _ this
    rename_i f' args' hc
    cases hst
    obtain ⟨hcal, hac⟩ := h
    obtain ⟨xs, ts, ho, rfl⟩ := callee_ops hc
    intro m base w a hR hF
    unfold wpList
    rw [wantedA_spec hF hw]
    simp only [if_true]
    refine .inl ?_
    unfold Oper.wp
    have hxs : xs.all (okOpd n γ) = true := by
     have := hok.1
     rw [ho] at this
     rw [Array.all_eq_true] at this ⊢
     intro i hi
     have := this (i + 1) (by simp [Op.operands, Call.operands]; omega)
     simpa [Op.operands, Call.operands, Array.getElem_append] using this
    obtain ⟨h1, h2⟩ := args_rel hR hF hxs
    rcases hac m base w (xs.map a.eval) hR h1 h2 with ⟨hbd, hac'⟩ | ⟨v0, hrun, m', v, v', H', he, hm, hv, hR', hb, hx⟩
    ·rw [call_run ho hcal hbd, Oper.upon_enter]
     refine hac'.mono ?_
     rintro e w' ⟨m', v, v', H', rfl, hm, hv, hR', hb, hx⟩
     have := XL.sound rest _ _ hok.2 hx m' base w' (a.put o.dst v') hR' ((hF.mono hm).put hv)
     exact wpList_mono (fun e a w hc => hc.trans hm hb) _ _ _ this
    ·cases he
     rw [call_runV ho hrun, Oper.upon_value]
     have := XL.sound rest _ _ hok.2 hx m' base w (a.put o.dst v0) hR' ((hF.mono hm).put hv)
     exact wpList_mono (fun e a w hc => hc.trans hm hb) _ _ _ this
theorem aw_ops {id : Nat} {l : List Oper} (hok : okL n γ l = true) (h : ∀ K : Fm → AH → Prop, (∀ α' H', Q .normal α' H' → K α' H') → XL P nro n γ l.toArray K l α H) : AW P nro n γ (.region id l.toArray false) Q α H :=
 aw_region (XL.sound l α H hok (h _ fun _ _ h => h))
theorem aoo {id : Nat} {l : List Oper} (h : ∀ K : Fm → AH → Prop, (∀ α' H', Q .normal α' H' → K α' H') → XL P nro n γ l.toArray K l α H) (hok : okL n γ l = true := by kernel_rfl) : AW P nro n γ (.region id l.toArray false) Q α H := aw_ops hok h
theorem aw_t {c : Operand} {x y : Code} (hc : α.eval γ c = .bool true) (ho : okOpd n γ c = true) (h : AW P nro n γ x Q α H) : AW P nro n γ (.cond c x y) Q α H := aw_cond hc ho h
theorem aw_f {c : Operand} {x y : Code} (hc : α.eval γ c = .bool false) (ho : okOpd n γ c = true) (h : AW P nro n γ y Q α H) : AW P nro n γ (.cond c x y) Q α H := aw_cond hc ho h
def XLc (P : Program) (nro n : Nat) (γ : Nat → Option Nat) (ops : Array Oper) (K : Fm → AH → Prop) (r : St) (d : Option Tmp) (rest : List Oper) (α : Fm) (H : AH) : Prop :=
 match r with
 | .no => False
 | .val v H' => XL P nro n γ ops K rest (α.put d v) H'
 | .call f args => callable P f = true ∧ AC P nro γ f args H fun v H' => XL P nro n γ ops K rest (α.put d v) H'
theorem XL_nil {ops : Array Oper} {K : Fm → AH → Prop} : XL P nro n γ ops K [] α H = K α H := rfl
theorem XL_cons {ops : Array Oper} {K : Fm → AH → Prop} (o : Oper) (rest : List Oper) : XL P nro n γ ops K (o :: rest) α H = XLc P nro n γ ops K (step1 P nro n γ ops o α H) o.dst rest α H := by
 unfold XL XLc
 cases step1 P nro n γ ops o α H <;> rfl
theorem XLc_val {ops : Array Oper} {K : Fm → AH → Prop} (v : Value) (H' : AH) (d : Option Tmp) (rest : List Oper) : XLc P nro n γ ops K (.val v H') d rest α H = XL P nro n γ ops K rest (α.put d v) H' := rfl
theorem XLc_call {ops : Array Oper} {K : Fm → AH → Prop} (f : FuncId) (args : Array Value) (d : Option Tmp) (rest : List Oper) :
  XLc P nro n γ ops K (.call f args) d rest α H = (callable P f = true ∧ AC P nro γ f args H fun v H' => XL P nro n γ ops K rest (α.put d v) H') := rfl
def stepN (c : Option (FuncId × Array Value)) : St := match c with | some (f, args) => .call f args | none => .no
def stepX (P : Program) (γ : Nat → Option Nat) (op : Op) (α : Fm) (r : Option (Value × AH)) : St := match r with | some (v, H') => .val v H' | none => stepN (calleeX P γ α op)
def stepC (P : Program) (nro : Nat) (γ : Nat → Option Nat) (c : Option (FuncId × Array Value)) (op : Op) (α : Fm) (H : AH) : St :=
 match c with
 | some (f, args) => .call f args
 | none => stepX P γ op α (xop P nro γ op α H)
def stepW (P : Program) (nro : Nat) (γ : Nat → Option Nat) (g : Option Bool) (op : Op) (α : Fm) (H : AH) : St :=
 match g with
 | none => .no
 | some false => .val undef H
 | some true => stepC P nro γ (calleeOf γ α op) op α H
theorem step1_eq {ops : Array Oper} (o : Oper) : step1 P nro n γ ops o α H = stepW P nro γ (wantedA ops n α o) o.op α H := by
 unfold step1 stepW
 cases wantedA ops n α o with
 | none => rfl
 | some b =>
  cases b with
  | false => rfl
  | true =>
   simp only [stepC]
   cases calleeOf γ α o.op with
   | some c => rfl
   | none => rfl
theorem stepW_t (op : Op) : stepW P nro γ (some true) op α H = stepC P nro γ (calleeOf γ α op) op α H := rfl
theorem stepW_f (op : Op) : stepW P nro γ (some false) op α H = .val undef H := rfl
theorem stepC_n (op : Op) : stepC P nro γ none op α H = stepX P γ op α (xop P nro γ op α H) := rfl
theorem stepC_s (f : FuncId) (args : Array Value) (op : Op) : stepC P nro γ (some (f, args)) op α H = .call f args := rfl
theorem stepX_s (op : Op) (v : Value) (H' : AH) : stepX P γ op α (some (v, H')) = .val v H' := rfl
theorem stepX_n (op : Op) : stepX P γ op α none = stepN (calleeX P γ α op) := rfl
theorem stepN_s (f : FuncId) (args : Array Value) : stepN (some (f, args)) = .call f args := rfl
def xopR (P : Program) (nro : Nat) (γ : Nat → Option Nat) (r : Option Value) (op : Op) (α : Fm) (H : AH) : Option (Value × AH) := match r with | some v => some (v, H) | none => xeff P nro γ op α H
theorem xop_eq (op : Op) : xop P nro γ op α H = xopR P nro γ (xread P γ op α H) op α H := rfl
theorem xopR_s (v : Value) (op : Op) : xopR P nro γ (some v) op α H = some (v, H) := rfl
theorem xopR_n (op : Op) : xopR P nro γ none op α H = xeff P nro γ op α H := rfl
def wantedG (ops : Array Oper) (n : Nat) (α : Fm) (g : Option (Nat × Bool)) : Option Bool :=
 match g with
 | none => some true
 | some (j, want) => match (ops[j]?).bind (·.dst) with | some d => if d < n then wb (α d) want else none | none => none
theorem wantedA_eq {ops : Array Oper} (o : Oper) : wantedA ops n α o = wantedG ops n α o.guard := rfl
theorem wantedG_n {ops : Array Oper} : wantedG ops n α none = some true := rfl
theorem wantedG_s {ops : Array Oper} (j : Nat) (want : Bool) : wantedG ops n α (some (j, want)) = match (ops[j]?).bind (·.dst) with | some d => if d < n then wb (α d) want else none | none => none := rfl
def QLc (P : Program) (n : Nat) (γ : Nat → Option Nat) (ops : Array Oper) (K : Fm → Prop) (H : AH) (r : St) (d : Option Tmp) (rest : List Oper) (α : Fm) : Prop :=
 match r with
 | .no => False
 | .val v _ => QL P n γ ops K H rest (α.put d v)
 | .call f args => callable P f = true ∧ ∃ v, VC P f args v ∧ (args.all plainV && plainV v) = true ∧ QL P n γ ops K H rest (α.put d v)
def stepQX (r : Option Value) (H : AH) : St := match r with | some v => .val v H | none => .no
def stepQC (P : Program) (γ : Nat → Option Nat) (c : Option (FuncId × Array Value)) (op : Op) (α : Fm) (H : AH) : St :=
 match c with
 | some (f, args) => .call f args
 | none => stepQX (xread P γ op α H) H
def stepQ (P : Program) (γ : Nat → Option Nat) (g : Option Bool) (op : Op) (α : Fm) (H : AH) : St :=
 match g with
 | none => .no
 | some false => .val undef H
 | some true => stepQC P γ (calleeOf γ α op) op α H
theorem QL_nil {ops : Array Oper} {K : Fm → Prop} : QL P n γ ops K H [] α = K α := rfl
theorem QL_cons {ops : Array Oper} {K : Fm → Prop} (o : Oper) (rest : List Oper) : QL P n γ ops K H (o :: rest) α = QLc P n γ ops K H (stepQ P γ (wantedA ops n α o) o.op α H) o.dst rest α := by
 unfold QLc stepQ
 rw [QL]
 cases wantedA ops n α o with
 | none => rfl
 | some b =>
  cases b with
  | false => rfl
  | true =>
   simp only [stepQC]
   cases calleeOf γ α o.op with
   | some c => rfl
   | none =>
    simp only [stepQX]
    cases xread P γ o.op α H <;> rfl
theorem QLc_val {ops : Array Oper} {K : Fm → Prop} (v : Value) (H' : AH) (d : Option Tmp) (rest : List Oper) : QLc P n γ ops K H (.val v H') d rest α = QL P n γ ops K H rest (α.put d v) := rfl
theorem stepQ_t (op : Op) : stepQ P γ (some true) op α H = stepQC P γ (calleeOf γ α op) op α H := rfl
theorem stepQ_f (op : Op) : stepQ P γ (some false) op α H = .val undef H := rfl
theorem stepQC_n (op : Op) : stepQC P γ none op α H = stepQX (xread P γ op α H) H := rfl
theorem stepQC_s (f : FuncId) (args : Array Value) (op : Op) : stepQC P γ (some (f, args)) op α H = .call f args := rfl
theorem stepQX_s (v : Value) : stepQX (some v) H = .val v H := rfl
def SLc (P : Program) (n : Nat) (γ : Nat → Option Nat) (ops : Array Oper) (K : Fm → Prop) (H : AH) (r : St) (d : Option Tmp) (rest : List Oper) (α : Fm) : Prop :=
 match r with
 | .val v _ => SL P n γ ops K H rest (α.put d v)
 | _ => False
def stepS (P : Program) (γ : Nat → Option Nat) (g : Option Bool) (op : Op) (α : Fm) (H : AH) : St :=
 match g with
 | none => .no
 | some false => .val undef H
 | some true => stepQX (xread P γ op α H) H
theorem SL_nil {ops : Array Oper} {K : Fm → Prop} : SL P n γ ops K H [] α = K α := rfl
theorem SL_cons {ops : Array Oper} {K : Fm → Prop} (o : Oper) (rest : List Oper) : SL P n γ ops K H (o :: rest) α = SLc P n γ ops K H (stepS P γ (wantedA ops n α o) o.op α H) o.dst rest α := by
 unfold SLc stepS
 rw [SL]
 cases wantedA ops n α o with
 | none => rfl
 | some b =>
  cases b with
  | false => rfl
  | true =>
   simp only [stepQX]
   cases xread P γ o.op α H <;> rfl
theorem SLc_val {ops : Array Oper} {K : Fm → Prop} (v : Value) (H' : AH) (d : Option Tmp) (rest : List Oper) : SLc P n γ ops K H (.val v H') d rest α = SL P n γ ops K H rest (α.put d v) := rfl
theorem stepS_t (op : Op) : stepS P γ (some true) op α H = stepQX (xread P γ op α H) H := rfl
theorem stepS_f (op : Op) : stepS P γ (some false) op α H = .val undef H := rfl
theorem put_at (α : Fm) (d : Nat) (v : Value) (i : Nat) : Fm.put α (some d) v i = if i = d then v else α i := rfl
theorem put_none (α : Fm) (v : Value) : Fm.put α none v = α := rfl
theorem eval_tmp (γ : Nat → Option Nat) (α : Fm) (t : Nat) : Fm.eval γ α (.tmp t) = α t := rfl
theorem eval_const (γ : Nat → Option Nat) (α : Fm) (v : Value) : Fm.eval γ α (.const v) = v := rfl
theorem cells_agg (c : Array Value) : (Value.agg c).cells = c := rfl
theorem cells_int (k : IntKind) (x : Int) : (Value.int k x).cells = #[.int k x] := rfl
theorem cells_bool (b : Bool) : (Value.bool b).cells = #[.bool b] := rfl
theorem cells_string (b : ByteArray) : (Value.string b).cells = #[.string b] := rfl
theorem cells_ptr (b : Option Addr) : (Value.pointer b).cells = #[.pointer b] := rfl
theorem cells_slice (b : Option Addr) (l c : Nat) : (Value.slice b l c).cells = #[.slice b l c] := rfl
theorem hget_app (H L : AH) (k : Nat) : hget (H ++ L) (H.length + k) = hget L k := by
 unfold hget
 rw [List.getElem?_append_right (by omega)]
 congr 2
 omega
theorem hget_app0 (H L : AH) : hget (H ++ L) H.length = hget L 0 := hget_app H L 0
theorem set_app (H L : AH) (k : Nat) (x : Option Blk) : (H ++ L).set (H.length + k) x = H ++ L.set k x := by
 rw [List.set_append_right _ _ (by omega)]
 congr 2
 omega
theorem set_app0 (H L : AH) (x : Option Blk) : (H ++ L).set H.length x = H ++ L.set 0 x := set_app H L 0 x
theorem hget_cons0 (x : Option Blk) (L : AH) : hget (x :: L) 0 = x := by unfold hget; simp
theorem hget_cons (x : Option Blk) (L : AH) (k : Nat) : hget (x :: L) (k + 1) = hget L k := by unfold hget; simp
theorem QL.sound {ops : Array Oper} {Q : Fm → Prop} {K : Act → Prop} (hR : Rel nro base γ m H w) (hK : ∀ a α, FR n m α a → Q α → K a) : ∀ (l : List Oper) (α : Fm) (a : Act), okL n γ l = true → FR n m α a → QL P n γ ops Q H l α →
  wpQuiet P ops (fun w' => Below w.heap.size w w') K l a
 | [], α, a, _, hF, h => hK a α hF h
 | o :: rest, α, a, hok, hF, h => by
  simp only [okL, List.all_cons, Bool.and_eq_true] at hok
  unfold QL at h
  unfold wpQuiet
  split at h
  ·exact h.elim
  ·rename_i hw
   rw [wantedA_spec hF hw]
   simp only [Bool.false_eq_true, if_false]
   exact QL.sound hR hK rest _ _ hok.2 (hF.put (plainV_mk plainV_undef)) h
  ·rename_i hw
   rw [wantedA_spec hF hw]
   simp only [if_true]
   split at h
   ·rename_i f args hc
    obtain ⟨hcal, v, hvc, hpl, hrest⟩ := h
    simp only [Bool.and_eq_true] at hpl
    obtain ⟨xs, ts, ho, rfl⟩ := callee_ops hc
    have hxs : xs.all (okOpd n γ) = true := by
     have := hok.1
     rw [ho] at this
     rw [Array.all_eq_true] at this ⊢
     intro i hi
     have := this (i + 1) (by simp [Op.operands, Call.operands]; omega)
     simpa [Op.operands, Call.operands, Array.getElem_append] using this
    obtain ⟨h1, h2⟩ := args_rel hR hF hxs
    have heq : xs.map a.eval = xs.map (α.eval γ) := by
     apply Array.ext_getElem?
     intro i
     cases hq : (xs.map (α.eval γ))[i]? with
     | none => rw [Array.getElem?_eq_none_iff] at hq ⊢; omega
     | some x =>
      obtain ⟨y, hy, hv⟩ := h2 i x hq
      obtain ⟨hi, he⟩ := Array.getElem?_eq_some_iff.1 hq
      rw [hy, hv.eq (by rw [← he]; exact (Array.all_eq_true.1 hpl.1) i hi)]
    refine ⟨v, fun w' hb => ?_, QL.sound hR hK rest _ _ hok.2 (hF.put (plainV_mk hpl.2)) hrest⟩
    unfold Oper.quietAt
    rcases hvc w' with ⟨hbd, hc'⟩ | ⟨v0, hrun, he, hb'⟩
    ·rw [call_run ho hcal hbd, heq]
     refine ⟨rfl, hc'.mono ?_⟩
     rintro e w'' ⟨rfl, hb'⟩
     exact ⟨rfl, hb.trans (hb'.mono hb.size)⟩
    ·cases he
     rw [call_runV ho (by rw [heq]; exact hrun)]
     exact ⟨rfl, rfl⟩
   ·split at h
    ·rename_i v hx
     obtain ⟨v', h1, h2⟩ := xread_aq hok.1 hx m base w a hR hF
     refine ⟨v', fun w' hb => ?_, QL.sound hR hK rest _ _ hok.2 (hF.put h1) h⟩
     unfold Oper.quietAt
     rw [h2 w' hb]
     exact ⟨rfl, rfl⟩
    ·exact h.elim
theorem aw_quiet {id : Nat} {l : List Oper} (hm : P.follows .mixedOrders = true) (hB : Region.lexB .any l.toArray = true) (hok : okL n γ l = true)
  (h : ∀ K : Fm → Prop, (∀ α', Q .normal α' H → K α') → QL P n γ l.toArray K H l α) : AW P nro n γ (.region id l.toArray true) Q α H := by
 replace h : QL P n γ l.toArray (fun α' => Q .normal α' H) H l α := h _ fun _ h => h
 intro m base w a hR hF
 refine wp_region_quiet (C := fun w' => Below w.heap.size w w') hm hB ⟨rfl, rfl, rfl, Nat.le_refl _, fun _ _ => rfl⟩ ?_
 have := QL.sound (P := P) (ops := l.toArray) (K := fun a' => ∀ w', Below w.heap.size w w' → Con nro n γ m base w Q .normal a' w') hR
  (fun a' α' hF' hq w' hb => ⟨m, α', H, List.prefix_rfl, hR.below hb, hF', hb.mono hR.base_le, hq⟩) l α a hok hF h
 simpa using this
theorem okL_take {l : List Oper} (h : okL n γ l = true) (k : Nat) : okL n γ (l.take k) = true ∧ okL n γ (l.drop k) = true := by
 have : okL n γ (l.take k ++ l.drop k) = true := by rw [List.take_append_drop]; exact h
 simp only [okL, List.all_append, Bool.and_eq_true] at this
 exact this
def resL (P : Program) (n : Nat) (α : Fm) (H : AH) : List ResultVar → Option (List Value)
 | [] => some []
 | .tmp t :: r => if t < n then (resL P n α H r).map (α t :: ·) else none
 | .cell d t :: r => if d < n then (match xload P t (α d) H, resL P n α H r with | some v, some l => some (v :: l) | _, _ => none) else none
def resV : List Value → Option Value
 | [v] => some v
 | vs => if vs.all notTuple = true then some (.tuple vs.toArray) else none
def resOne (tmps : Array Value) : ResultVar → Sem Value
 | .tmp t => pure (tmps.getD t undef)
 | .cell d t => do loadVar t (← asAddr (tmps.getD d undef))
theorem results_eq (fn : Func) (tmps : Array Value) : results fn tmps = (do let vs ← fn.results.mapM (resOne tmps); pure (if h : vs.size = 1 then vs[0] else .tuple vs)) := by
 unfold results
 congr 1
theorem resL_run (hR : Rel nro base γ m H w) (hF : FR n m α a) : ∀ (rs : List ResultVar) (vs : List Value), resL P n α H rs = some vs →
  ∃ vs' : List Value, vs'.length = vs.length ∧ (∀ (i : Nat) (x : Value), vs[i]? = some x → ∃ y, vs'[i]? = some y ∧ V m x y) ∧
   (rs.mapM (resOne a.tmps)).run P w = .ok vs' w
 | [], vs, h => by
  cases h
  exact ⟨[], rfl, by simp, by simp⟩
 | .tmp t :: r, vs, h => by
  unfold resL at h
  split at h
  case isFalse => cases h
  rename_i ht
  cases hr : resL P n α H r with
  | none => rw [hr] at h; cases h
  | some l =>
   rw [hr] at h
   cases h
   obtain ⟨l', h1, h2, h3⟩ := resL_run hR hF r l hr
   refine ⟨a.tmps.getD t undef :: l', by simp [h1], fun i x hx => ?_, ?_⟩
   ·cases i with
    | zero => simp at hx; subst hx; exact ⟨_, rfl, hF.val t ht⟩
    | succ i => simp at hx; simpa using h2 i x hx
   ·simp only [List.mapM_cons, resOne, Sem.run_bind, Sem.run_pure, Result.andThen_ok, h3]
 | .cell d t :: r, vs, h => by
  unfold resL at h
  split at h
  case isFalse => cases h
  rename_i ht
  split at h
  ·rename_i v l hv hr
   cases h
   obtain ⟨l', h1, h2, h3⟩ := resL_run hR hF r l hr
   obtain ⟨v', h4, h5⟩ := xload_run hR (hF.val d ht) hv
   have hp : ∃ ad, a.tmps.getD d undef = .pointer (some ad) := by
    have hvv := hF.val d ht
    unfold xload at hv
    split at hv
    ·rename_i i off he
     rw [he] at hvv
     obtain ⟨e, _, h⟩ := hvv.ptr_
     exact ⟨_, h⟩
    ·cases hv
   obtain ⟨ad, hp⟩ := hp
   have h6 := h5 w (.refl _ _)
   rw [hp] at h6
   have h7 : (loadVar t ad).run P w = .ok v' w := by simpa [Instr.loadAt, Instr.sureAddr] using h6
   refine ⟨v' :: l', by simp [h1], fun i x hx => ?_, ?_⟩
   ·cases i with
    | zero => simp at hx; subst hx; exact ⟨_, rfl, h4⟩
    | succ i => simp at hx; simpa using h2 i x hx
   ·simp only [List.mapM_cons, resOne, Sem.run_bind, hp, asAddr, Sem.run_pure, Result.andThen_ok, h7, h3]
  ·cases h
theorem results_run {fn : Func} (hR : Rel nro base γ m H w) (hF : FR n m α a) {vs : List Value} {v : Value} (h1 : resL P n α H fn.results.toList = some vs) (h2 : resV vs = some v) :
  ∃ v', (results fn a.tmps).run P w = .ok v' w ∧ V m v v' := by
 obtain ⟨vs', h3, h4, h5⟩ := resL_run hR hF fn.results.toList vs h1
 have hrun : (fn.results.mapM (resOne a.tmps)).run P w = .ok vs'.toArray w := by
  rw [Array.mapM_eq_mapM_toList]
  simp [h5]
 unfold resV at h2
 split at h2
 ·cases h2
  match vs', h3 with
  | [v'], _ =>
   obtain ⟨y, hy, hv⟩ := h4 0 v rfl
   cases hy
   refine ⟨v', ?_, hv⟩
   rw [results_eq, Sem.run_bind, hrun]
   simp
 ·rename_i hne
  split at h2
  case isFalse => cases h2
  rename_i hall
  cases h2
  refine ⟨.tuple vs'.toArray, ?_, .tup (by simp [h3]) (fun i x hx => ?_)⟩
  ·rw [results_eq, Sem.run_bind, hrun]
   have : ¬ vs'.length = 1 := by
    intro h
    match vs, h3, hne with
    | [], h3, _ => simp at h3; simp [h3] at h
    | [v], _, hne => exact hne v rfl
    | _ :: _ :: _, h3, _ => simp at h3; omega
   simp [this]
  ·obtain ⟨y, hy, hv⟩ := h4 i x (by simpa using hx)
   exact ⟨y, by simpa using hy, hv.v2 (List.all_eq_true.1 hall x (List.mem_of_getElem? (by simpa using hx)))⟩
def fr0 (args : List Value) : Fm := fun i => args.getD i undef
theorem fr0_at (l : List Value) (i : Nat) : fr0 l i = l.getD i undef := rfl
def RQ (P : Program) (n : Nat) (rs : List ResultVar) (Q : Value → AH → Prop) : Exit → Fm → AH → Prop
 | .normal, α, H | .ret, α, H => ∃ vs v, resL P n α H rs = some vs ∧ resV vs = some v ∧ Q v H
 | _, _, _ => False
theorem ac_of_aw {f : FuncId} {fn : Func} {c : Code} {args : Array Value} {rs : Array ResultVar} {Q : Value → AH → Prop} (hf : P.funcs[f]? = some fn) (hb : fn.body = some c) (hn : fn.ntmps = n) (hrs : fn.results = rs) (hs : args.size ≤ n)
  (h : AW P nro n γ c (RQ P n rs.toList Q) (fr0 args.toList) H) : AC P nro γ f args H Q := by
 subst hn hrs
 intro m base w args' hR hsz hv
 refine .inl ⟨by unfold bodied; rw [hf]; simp [hb], ?_⟩
 refine calls_of_wp hf hb ?_
 have hF : FR fn.ntmps m (fr0 args.toList) { tmps := args' ++ Array.replicate (fn.ntmps - args'.size) undef, defers := [] } := by
  refine ⟨rfl, by simp; omega, fun i hi => ?_⟩
  unfold fr0
  rcases Nat.lt_or_ge i args.size with hl | hl
  ·obtain ⟨y, h1, h2⟩ := hv i args[i] (Array.getElem?_eq_getElem hl)
   have hl' : i < args'.size := by omega
   rw [Array.getElem?_eq_getElem hl'] at h1
   cases h1
   have e1 : args.toList.getD i undef = args[i] := by simp [List.getD_eq_getElem?_getD, hl]
   have e2 : (args' ++ Array.replicate (fn.ntmps - args'.size) undef).getD i undef = args'[i] := by
    simp [Array.getD_eq_getD_getElem?, Array.getElem?_append_left hl', Array.getElem?_eq_getElem hl']
   rw [e1, e2]
   exact h2
  ·have e1 : args.toList.getD i undef = undef := by simp [List.getD_eq_getElem?_getD, hl]
   have e2 : (args' ++ Array.replicate (fn.ntmps - args'.size) undef).getD i undef = undef := by
    simp only [Array.getD_eq_getD_getElem?]
    rw [Array.getElem?_append_right (by omega)]
    have : i - args'.size < fn.ntmps - args'.size := by omega
    simp [this]
   rw [e1, e2]
   exact plainV_mk plainV_undef
 refine Code.wp_mono ?_ (h m base w _ hR hF)
 rintro e a' w' ⟨m', α', H', hm, hR', hF', hb', hq⟩
 cases e with
 | normal =>
  obtain ⟨vs, v, h1, h2, h3⟩ := hq
  obtain ⟨v', h4, h5⟩ := results_run hR' hF' h1 h2
  exact ⟨hF'.defers, v', h4, m', v, v', H', rfl, hm, h5, hR', hb', h3⟩
 | ret =>
  obtain ⟨vs, v, h1, h2, h3⟩ := hq
  obtain ⟨v', h4, h5⟩ := results_run hR' hF' h1 h2
  exact ⟨hF'.defers, v', h4, m', v, v', H', rfl, hm, h5, hR', hb', h3⟩
 | _ => exact hq.elim
def noG : Nat → Option Nat := fun _ => none
theorem vc_of_ac {f : FuncId} {args : Array Value} {v : Value} (ha : args.all plainV = true) (hv : plainV v = true) (h : AC P 0 noG f args [] fun v' _ => v' = v) : VC P f args v := by
 intro w
 have hR : Rel 0 w.heap.size noG [] [] w := ⟨rfl, Nat.le_refl _, Nat.le_refl _, by simp, by simp, by simp, by simp, by simp, by simp, fun g i h => by cases h⟩
 refine (h [] w.heap.size w args hR rfl (fun i x hx => ⟨x, hx, plainV_mk ?_⟩)).mono ?_
 ·obtain ⟨hi, he⟩ := Array.getElem?_eq_some_iff.1 hx
  rw [← he]
  exact (Array.all_eq_true.1 ha) i hi
 ·rintro e w' ⟨m', v1, v', H', rfl, _, h2, _, h4, rfl⟩
  exact ⟨by rw [h2.eq hv], h4⟩
theorem ac_of_vc {f : FuncId} {args : Array Value} {v : Value} {Q : Value → AH → Prop} (ha : (args.all plainV && plainV v) = true) (h : VC P f args v) (hq : Q v H) : AC P nro γ f args H Q := by
 simp only [Bool.and_eq_true] at ha
 intro m base w args' hR hsz hv
 have heq : args' = args := by
  apply Array.ext_getElem?
  intro i
  cases hq : args[i]? with
  | none => rw [Array.getElem?_eq_none_iff] at hq ⊢; omega
  | some x =>
   obtain ⟨y, hy, hv⟩ := hv i x hq
   obtain ⟨hi, he⟩ := Array.getElem?_eq_some_iff.1 hq
   rw [hy, hv.eq (by rw [← he]; exact (Array.all_eq_true.1 ha.1) i hi)]
 subst heq
 refine (h w).mono ?_
 rintro e w' ⟨rfl, hb⟩
 exact ⟨m, v, v, H, rfl, List.prefix_rfl, plainV_mk ha.2, hR.below hb, hb.mono hR.base_le, hq⟩
end
end
section
theorem scopeQ_ret (Q : Exit → Fm → AH → Prop) : scopeQ Q .ret = Q .ret := rfl
theorem thenQ_ret (N : Fm → AH → Prop) (Q : Exit → Fm → AH → Prop) : thenQ N Q .ret = Q .ret := rfl
theorem inBlockQ_ret (id : Nat) (Q : Exit → Fm → AH → Prop) : inBlockQ id Q .ret = Q .ret := rfl
theorem pv_iv (k : IntKind) (l : List Int) : plainV (.agg (iv k l).toArray) = true := iv_plain k l
theorem pv_int (k : IntKind) (x : Int) : plainV (.int k x) = true := rfl
theorem pv_bool (b : Bool) : plainV (.bool b) = true := rfl
theorem pv_string (b : ByteArray) : plainV (.string b) = true := rfl
theorem pv_tup2 (a b : Value) : plainV (.tuple #[a, b]) = (plain2 a && plain2 b) := by simp [plainV]
theorem pv_tup3 (a b c : Value) : plainV (.tuple #[a, b, c]) = (plain2 a && (plain2 b && plain2 c)) := by simp [plainV]
theorem p2_int (k : IntKind) (x : Int) : plain2 (.int k x) = true := rfl
theorem p2_bool (b : Bool) : plain2 (.bool b) = true := rfl
theorem p2_string (b : ByteArray) : plain2 (.string b) = true := rfl
theorem plain1_int (k : IntKind) (x : Int) : plain1 (.int k x) = true := rfl
theorem plain1_bool (b : Bool) : plain1 (.bool b) = true := rfl
theorem plain1_string (b : ByteArray) : plain1 (.string b) = true := rfl
theorem bits_i64 : IntKind.bits .i64 = 64 := rfl
theorem bits_u64 : IntKind.bits .u64 = 64 := rfl
theorem bits_u32 : IntKind.bits .u32 = 32 := rfl
theorem bits_u16 : IntKind.bits .u16 = 16 := rfl
theorem bits_u8 : IntKind.bits .u8 = 8 := rfl
theorem wrap64_in {x : Int} (h : -9223372036854775808 ≤ x ∧ x ≤ 9223372036854775807) : IntKind.i64.wrap x = x := Go.IntWalk.i64_in _ h
theorem hget_lt {H : AH} {i : Nat} {k : Blk} (h : hget H i = some k) : i < H.length := (List.getElem?_eq_some_iff.1 (hget_some h)).1
theorem hget_left {H L : AH} {i : Nat} (h : i < H.length) : hget (H ++ L) i = hget H i := by
 unfold hget; rw [List.getElem?_append_left h]
theorem hget_left' {H L : AH} {i : Nat} {k : Blk} (h : hget H i = some k) : hget (H ++ L) i = some k := by rw [hget_left (hget_lt h)]; exact h
theorem hget_set_ne {H : AH} {i j : Nat} {x : Option Blk} (h : i ≠ j) : hget (H.set i x) j = hget H j := by
 unfold hget; rw [List.getElem?_set_ne h]
theorem hget_set_eq {H : AH} {i : Nat} {x : Option Blk} (h : i < H.length) : hget (H.set i x) i = x := by
 unfold hget; rw [List.getElem?_set_self h]; rfl
def Low (lo : Nat) (H H' : AH) : Prop := (∀ i, i < lo → hget H' i = hget H i) ∧ lo ≤ H'.length
theorem Low.trans {lo : Nat} {H H' H'' : AH} (h : Low lo H H') (k : Low lo H' H'') : Low lo H H'' := ⟨fun i hi => (k.1 i hi).trans (h.1 i hi), k.2⟩
theorem Low.refl {lo : Nat} {H : AH} (h : lo ≤ H.length) : Low lo H H := ⟨fun _ _ => rfl, h⟩
theorem Low.push {lo : Nat} {H : AH} (h : lo ≤ H.length) (L : AH) : Low lo H (H ++ L) := ⟨fun i hi => hget_left (by omega), by simp; omega⟩
end
section
open Go.ChangeShapes Go.WideShapes Go.ChangeAt Go.RowKit
section
variable {H : Type} {enc : TypeId × Value → H} {P : Program}
theorem trodAll_stay (hl : laidOutB P = true) {W W' : World} (hb : Below W.heap.size W W') : ∀ {ts : List TypeId} {vs : List Value} {ds : List (DataW H)} {ps : List MemPlace},
  (∀ t ∈ ts, P.readableRec t = true ∧ t < P.types.size) → (∀ x ∈ ps, x.block < W.heap.size) → DataW.TrodAll enc P W 0 (fun _ => true) true ts vs ds ps →
  DataW.TrodAll enc P W' 0 (fun b => decide (b < W.heap.size)) true ts vs ds ps := by
 intro ts
 induction ts with
 | nil =>
  intro vs ds ps _ _ h
  obtain ⟨rfl, rfl, rfl⟩ := trodAll_nil h
  exact trodAll_mk0
 | cons t ts ih =>
  intro vs ds ps hr hp h
  obtain ⟨v, vs', d, ds', p, q, rfl, rfl, rfl, h0, r0⟩ := trodAll_cons h
  exact trodAll_cons_mk (Below.trod hl (hr t (by simp)).1 (hr t (by simp)).2 h0 hb fun x hx => hp x (List.mem_append_left _ hx))
   (ih (fun t' ht' => hr t' (by simp [ht'])) (fun x hx => hp x (List.mem_append_right _ hx)) r0)
theorem law_post {f : Func} {s : ChangeSpec} {tb : TypeId} {W W' : World} {args : Array Value} {ds gs : List (DataW H)} {before : List MemPlace}
  (hW : DataW.Whole enc P f.params.toList s.vars false W args.toList ds gs before) (hv : s.vars = []) (hl : laidOutB P = true)
  (hr : ∀ t ∈ f.params.toList, P.readableRec t = true ∧ t < P.types.size) (hres : (s.fn H (ds ++ [])).results = [.lit (.bool true)]) (hargs : (s.fn H (ds ++ [])).args = ds) (hvars : (s.fn H (ds ++ [])).vars = [])
  (hrt : f.resultTypes = #[tb]) (hb : P.underlying tb = some .bool) (hbelow : Below W.heap.size W W') :
  s.post enc P f false true false false W args (.bool true) W' := by
 have hlt := hW.lt
 have hW' := hW
 obtain ⟨p, q, hA, hV, rfl, hfz, hnd⟩ := hW
 rw [hv] at hV
 obtain ⟨rfl, rfl⟩ := trodVars_none hV
 refine ⟨ds, [], p ++ [], [], p, [], hW', ?_, ?_, ?_, ?_, fun h => by cases h⟩
 ·rw [hrt, hres]
  exact trodAll_cons_mk (shut_bool hb _) trodAll_mk0
 ·rw [hargs]
  exact trodAll_stay hl hbelow hr (fun x hx => hlt x (by simpa using hx)) hA
 ·rw [hv, hvars]; exact rfl
 ·exact hbelow.frame _
end
end
section
def pureOp : Op → Bool
 | .move _ | .assign _ | .pick .. | .unOp .. | .fieldAddr .. | .field .. | .indexAddr .. | .index .. | .extract .. => true
 | .binOp .. | .nilCheck .. => true
 | _ => false
def sel (l : List Oper) : List Nat → List Oper
 | [] => []
 | i :: is => match l[i]? with
  | some o => o :: sel l is
  | none => []
def waitsT (ops : Array Oper) : Nat → Nat → Nat → Bool
 | 0, j, i => Region.waitsFor .any ops j i
 | f + 1, j, i => Region.waitsFor .any ops j i || (match ops[j]? with | some o => o.after.any fun e => Region.binds .any e && waitsT ops f e.on i | none => false)
def closedB (ops : Array Oper) (listed : Array Bool) : Bool :=
 (List.range ops.size).all fun k => !(listed.getD k true) || (match ops[k]? with | some o => o.after.all fun e => !(Region.binds .any e) || listed.getD e.on false | none => true)
def Closed (ops : Array Oper) (listed : Array Bool) : Prop := ∀ k o, ops[k]? = some o → listed.getD k true = true → ∀ e ∈ o.after, Region.binds .any e = true → listed.getD e.on false = true
theorem closedB_spec {ops : Array Oper} {listed : Array Bool} (h : closedB ops listed = true) : Closed ops listed := by
 intro k o hk hl e he hb
 unfold closedB at h
 rw [List.all_eq_true] at h
 have hlt : k < ops.size := (Array.getElem?_eq_some_iff.1 hk).1
 have h1 := h k (List.mem_range.2 hlt)
 rw [hl, hk] at h1
 simp only [Bool.not_true, Bool.false_or] at h1
 rw [Array.all_eq_true_iff_forall_mem] at h1
 have h2 := h1 e he
 rw [hb] at h2
 simpa using h2
theorem Closed.put {ops : Array Oper} {listed : Array Bool} (h : Closed ops listed) {j : Nat} {oj : Oper} (hoj : ops[j]? = some oj) (hall : ∀ e ∈ oj.after, Region.binds .any e = true → listed.getD e.on false = true) : Closed ops (listed.setIfInBounds j true) := by
 have up : ∀ x, listed.getD x false = true → (listed.setIfInBounds j true).getD x false = true := by
  intro x hx
  by_cases e : j = x
  ·subst e
   simp only [Array.getD_eq_getD_getElem?, Array.getElem?_setIfInBounds] at hx ⊢
   by_cases hs : j < listed.size
   ·simp [hs]
   ·simp [hs] at hx
  ·rw [getD_set_ne false e]; exact hx
 intro k o hk hl e he hb
 by_cases hjk : j = k
 ·subst hjk
  have : oj = o := Option.some.inj (hoj.symm.trans hk)
  subst this
  exact up _ (hall e he hb)
 ·rw [getD_set_ne true hjk] at hl
  exact up _ (h k o hk hl e he hb)
theorem waitsT_spec {ops : Array Oper} {listed : Array Bool} (hc : Closed ops listed) {i : Nat} (hi : listed.getD i true = false) : ∀ (f j : Nat), waitsT ops f j i = true → ∃ o, ops[j]? = some o ∧ ∃ e ∈ o.after, Region.binds .any e = true ∧ listed.getD e.on false = false := by
 have dir : ∀ j, Region.waitsFor .any ops j i = true → ∃ o, ops[j]? = some o ∧ ∃ e ∈ o.after, Region.binds .any e = true ∧ listed.getD e.on false = false := by
  intro j h
  obtain ⟨o, ho, e, he, hb, hon⟩ := Region.waitsFor_spec h
  exact ⟨o, ho, e, he, hb, by rw [hon]; exact getD_both hi⟩
 intro f
 induction f with
 | zero => intro j h; exact dir j h
 | succ f ih =>
  intro j h
  unfold waitsT at h
  rw [Bool.or_eq_true] at h
  rcases h with h | h
  ·exact dir j h
  ·split at h
   ·rename_i o ho
    rw [Array.any_eq_true'] at h
    obtain ⟨e, he, hb⟩ := h
    rw [Bool.and_eq_true] at hb
    obtain ⟨o', ho', e', he', hb', hl'⟩ := ih e.on hb.2
    refine ⟨o, ho, e, he, hb.1, ?_⟩
    cases hq : listed.getD e.on true with
    | false => exact getD_both hq
    | true =>
     have := hc e.on o' ho' hq e' he' hb'
     rw [hl'] at this
     cases this
   ·cases h
section
variable {P : Program} {nro n base : Nat} {γ : Nat → Option Nat} {m : List Ent} {H : AH} {α : Fm} {a : Act} {w : World} {Q : Exit → Fm → AH → Prop} {ops : Array Oper}
theorem xread_all {o : Oper} {v : Value} (hp : pureOp o.op = true) (hok : o.op.operands.all (okOpd n γ) = true) (h : xread P γ o.op α H = some v) (hR : Rel nro base γ m H w) (hF : FR n m α a) :
  ∃ v', V m v v' ∧ ∀ w', (execOp a.eval o).run P w' = .ok (.value v') w' := by
 obtain ⟨dst, op, type, pos, after, guard⟩ := o
 simp only at hok h hp
 have ev : ∀ x ∈ op.operands, V m (α.eval γ x) (a.eval x) := fun x hx => hF.eval hR (by
  obtain ⟨i, hi, rfl⟩ := Array.mem_iff_getElem.1 hx
  exact (Array.all_eq_true.1 hok) i hi)
 unfold xread at h
 split at h
 ·rename_i x
  cases h
  exact ⟨_, ev x (by simp [Op.operands]), fun w' => by simp [execOp]⟩
 ·rename_i x
  cases h
  exact ⟨_, ev x (by simp [Op.operands]), fun w' => by simp [execOp]⟩
 ·rename_i c x y
  split at h
  case h_2 => cases h
  rename_i t ht
  cases h
  have hc := ev c (by simp [Op.operands])
  rw [ht] at hc
  have hc := hc.eq rfl
  refine ⟨if t then a.eval x else a.eval y, ?_, fun w' => ?_⟩
  ·cases t
   ·exact ev y (by simp [Op.operands])
   ·exact ev x (by simp [Op.operands])
  ·cases t <;> simp [execOp, hc, asBool]
 ·rename_i op t x y _
  have hx := ev x (by simp [Op.operands])
  have hy := ev y (by simp [Op.operands])
  split at h
  ·rename_i v' hq
   cases h
   obtain ⟨_, p1, p2, p3⟩ := xeqA_run hq x y w
   rw [← hx.eq p1, ← hy.eq p2] at hq
   exact ⟨v, plainV_mk p3, fun w' => run_v (xeqA_run hq x y w').1⟩
  split at h
  case h_2 => exact ⟨v, plainV_mk (xnil_run hx hy h x y w).2, fun w' => run_v (xnil_run hx hy h x y w').1⟩
  rename_i v1 hq1
  cases h
  have h := hq1
  clear hq1
  have hp : plainV (α.eval γ x) = true ∧ plainV (α.eval γ y) = true := by
   unfold xbin at h
   split at h <;> first | (cases h; done) | (rename_i e1 e2; rw [e1, e2]; exact ⟨rfl, rfl⟩) | (constructor <;> simp [*, plainV, plain2, plain1])
  have hpl := xbin_plain h
  rw [← hx.eq hp.1, ← hy.eq hp.2] at h
  exact ⟨v, plainV_mk hpl, fun w' => run_v (xbin_run h x y w')⟩
 ·rename_i op t x
  have hx := ev x (by simp [Op.operands])
  have hp : plainV (α.eval γ x) = true ∧ plainV v = true := by
   unfold xun at h
   split at h <;> cases h <;> (constructor <;> simp [*, plainV, plain2, plain1])
  rw [← hx.eq hp.1] at h
  exact ⟨v, plainV_mk hp.2, fun w' => run_v (xun_run h w')⟩
 ·cases hp
 ·cases hp
 ·rename_i t x f
  obtain ⟨v', h1, h2⟩ := xfieldAddr_run (ev x (by simp [Op.operands])) h
  exact ⟨v', h1, fun w' => run_v (h2 w')⟩
 ·rename_i t x f
  obtain ⟨v', h1, h2⟩ := xfield_run (ev x (by simp [Op.operands])) h
  exact ⟨v', h1, fun w' => run_v (h2 w')⟩
 ·rename_i t x i
  obtain ⟨v', h1, h2⟩ := xindexAddr_run (ev x (by simp [Op.operands])) (ev i (by simp [Op.operands])) h
  exact ⟨v', h1, fun w' => run_v (h2 w')⟩
 ·rename_i t x i
  obtain ⟨v', h1, h2⟩ := xindex_run (ev x (by simp [Op.operands])) (ev i (by simp [Op.operands])) h
  exact ⟨v', h1, fun w' => run_v (h2 w')⟩
 ·cases hp
 ·rename_i x i
  split at h
  case h_2 => cases h
  rename_i vs hvs
  have hx := ev x (by simp [Op.operands])
  rw [hvs] at hx
  obtain ⟨ds, he, hs, hv⟩ := hx.tup_
  obtain ⟨y, hy, hyv⟩ := hv _ _ h
  refine ⟨y, .two hyv, fun w' => run_v ?_⟩
  simp [he, Instr.extract, hy]
 ·cases hp
 ·rename_i x
  split at h
  case h_2 => cases h
  rename_i ad hvs
  cases h
  have hx := ev x (by simp [Op.operands])
  rw [hvs] at hx
  refine ⟨a.eval x, hx, fun w' => ?_⟩
  have hp : ∃ ad', a.eval x = .pointer (some ad') := by
   generalize a.eval x = z at hx
   cases hx with
   | two h => cases h with
    | one h => cases h with
     | plain h => cases h
     | ptr h => exact ⟨_, rfl⟩
  obtain ⟨ad', hp⟩ := hp
  simp [execOp, hp]
 all_goals first
  | (cases hp; done)
  | (cases h; done)
end
end
section
section
variable {P : Program} {nro n base : Nat} {γ : Nat → Option Nat} {m : List Ent} {H : AH} {α : Fm} {a : Act} {w : World} {Q : Exit → Fm → AH → Prop}
theorem Rel.freeze (h : Rel nro base γ m H w) : Rel H.length w.heap.size γ m H w :=
  ⟨h.len, Nat.le_refl _, Nat.le_refl _, h.inb, fun i e _ he => h.inb i e he, fun i e hi he => by
    have := (List.getElem?_eq_some_iff.1 he).1
    rw [h.len] at this; omega,
   h.maps,
   fun i k e hk hkm he => by
    obtain ⟨cs, fr, h1, h2, h3, h4, h5⟩ := h.cells i k e hk hkm he
    have hi := (List.getElem?_eq_some_iff.1 hk).1
    exact ⟨cs, fr, h1, fun hn => by omega, h3, fun hn => by omega, h5⟩,
   fun i j ki kj ei ej hi hj _ hki => by
    have := (List.getElem?_eq_some_iff.1 hki).1
    omega, h.globs h.le (fun _ _ h => h) (fun _ _ _ h => h) (fun _ _ _ _ _ _ => rfl)⟩
end
end
section
def allocOp : Op → Bool
  | .alloc _ | .box .. | .buildSlice .. | .makeSlice .. => true
  | _ => false
def isCallF : Op → Bool
  | .call ⟨.value (.func _), _, _⟩ => true
  | _ => false
def reloc (i : Nat) : Value → Value
  | .pointer (some ⟨_, o, s⟩) => .pointer (some ⟨i, o, s⟩)
  | .slice (some ⟨_, o, s⟩) l c => .slice (some ⟨i, o, s⟩) l c
  | x => x
def plainB (b : Blk) : Bool := b.cells.all plain1 && b.ents.isNone
theorem plainB_lit (c : List Value) (t : TypeId) (e : Option Nat) : plainB ⟨c, t, e⟩ = c.all plain1 := by
  unfold plainB
  rw [ents_lit]
  simp
theorem plainB_c {b : Blk} (h : plainB b = true) : b.cells.all plain1 = true := by unfold plainB at h; simp only [Bool.and_eq_true] at h; exact h.1
theorem plainB_e {b : Blk} (h : plainB b = true) : b.ents = none := by unfold plainB at h; simp only [Bool.and_eq_true] at h; simpa using h.2
def Shown (h : Nat) (N : List Blk) (L : AH) : Value → Prop
  | .pointer (some ⟨i, _, none⟩) => ∀ j b, i = h + j → N[j]? = some b → hget L j = some b
  | .slice (some ⟨i, _, none⟩) _ _ => ∀ j b, i = h + j → N[j]? = some b → hget L j = some b
  | _ => True
def isNd (nd : List Tmp) : Option Tmp → Bool
  | some t => nd.contains t
  | none => false
def newOp (nd : List Tmp) (o : Oper) : Bool := allocOp o.op || (isNd nd o.dst && isCallF o.op)
def isSl : Value → Bool
  | .slice (some ⟨_, 0, none⟩) l c => decide (l = c)
  | _ => false
def Fresh (lo : Nat) (b : Blk) (len : Nat) (v : Value) (H : AH) : Prop := ∃ j, lo ≤ j ∧ v = .slice (some ⟨j, 0, none⟩) len len ∧ hget H j = some b
def isLoadF : Op → Bool
  | .load .. => true
  | .lookup .. => true
  | _ => false
def lookF : Op → Bool
  | .convert .. => true
  | .load .. => true
  | .lookup .. => true
  | .call ⟨.builtin .len, _, _⟩ => true
  | _ => false
inductive StP where
  | lookc (s t : TypeId) (x : Value)
  | lookl (t : TypeId) (x : Value)
  | val (v : Value)
  | new (v : Value) (b : Option Blk)
  | call (f : FuncId) (args : Array Value)
  | callV (f : FuncId) (args : Array Value)
  | no
def stepPN (r : Option (Value × AH)) (H : AH) : StP := match r with | some (v, H') => .new v (hget H' H.length) | none => .no
def stepPA (P : Program) (nro : Nat) (γ : Nat → Option Nat) (b : Bool) (op : Op) (α : Fm) (H : AH) : StP := match b with | true => stepPN (xeff P nro γ op α H) H | false => (match op with | .convert s d x => .lookc s d (α.eval γ x) | .load t x => .lookl t (α.eval γ x) | _ => .no)
def stepPV (P : Program) (nro : Nat) (γ : Nat → Option Nat) (c : Option (FuncId × Array Value)) (op : Op) (α : Fm) (H : AH) : StP := match c with | some (f, args) => .callV f args | none => stepPA P nro γ (allocOp op) op α H
def stepPX (P : Program) (nro : Nat) (γ : Nat → Option Nat) (r : Option Value) (op : Op) (α : Fm) (H : AH) : StP := match r with | some v => .val v | none => stepPV P nro γ (calleeX P γ α op) op α H
def stepPC (P : Program) (nro : Nat) (γ : Nat → Option Nat) (c : Option (FuncId × Array Value)) (op : Op) (α : Fm) (H : AH) : StP :=
  match c with
  | some (f, args) => .call f args
  | none => stepPX P nro γ (xread P γ op α H) op α H
def stepP (P : Program) (nro : Nat) (γ : Nat → Option Nat) (g : Option Bool) (op : Op) (α : Fm) (H : AH) : StP :=
  match g with
  | none => .no
  | some false => .val undef
  | some true => stepPC P nro γ (calleeOf γ α op) op α H
def PL (P : Program) (nro n : Nat) (γ : Nat → Option Nat) (nd : List Tmp) (ops : Array Oper) (Q : Fm → List Blk → Prop) (H : AH) : List Oper → Fm → List Blk → Prop
  | [], α, N => Q α N
  | o :: rest, α, N =>
    match stepP P nro γ (wantedA ops n α o) o.op α H with
    | .val v => PL P nro n γ nd ops Q H rest (α.put o.dst v) N
    | .new v (some b) => plainB b = true ∧ PL P nro n γ nd ops Q H rest (α.put o.dst (reloc (H.length + N.length) v)) (N ++ [b])
    | .new _ none => False
    | .call f args => callable P f = true ∧ ((∃ v, plainV v = true ∧ (∀ L : AH, (∀ x ∈ args.toList, Shown H.length N L x) → AC P (H ++ L).length γ f args (H ++ L) (fun v' _ => v' = v)) ∧ PL P nro n γ nd ops Q H rest (α.put o.dst v) N) ∨
      (isNd nd o.dst = true ∧ ∃ b len, plainB b = true ∧ (∀ L : AH, (∀ x ∈ args.toList, Shown H.length N L x) → AC P (H ++ L).length γ f args (H ++ L) (Fresh (H ++ L).length b len)) ∧ PL P nro n γ nd ops Q H rest (α.put o.dst (.slice (some ⟨H.length + N.length, 0, none⟩) len len)) (N ++ [b])) ∨
      (isNd nd o.dst = true ∧ ∃ x, x ∈ args.toList ∧ isSl x = true ∧ (∀ L : AH, (∀ x ∈ args.toList, Shown H.length N L x) → AC P (H ++ L).length γ f args (H ++ L) (fun v' _ => v' = x)) ∧ PL P nro n γ nd ops Q H rest (α.put o.dst x) N))
    | .callV f args => callable P f = true ∧ ∃ v, plainV v = true ∧ AC P H.length γ f args H (fun v' _ => v' = v) ∧ PL P nro n γ nd ops Q H rest (α.put o.dst v) N
    | .lookc s t x => ∃ v, plainV v = true ∧ (∀ L : AH, Shown H.length N L x → xconv P s t x (H ++ L) = some v) ∧ PL P nro n γ nd ops Q H rest (α.put o.dst v) N
    | .lookl t x => ∃ v, plainV v = true ∧ (∀ L : AH, Shown H.length N L x → xload P t x (H ++ L) = some v) ∧ PL P nro n γ nd ops Q H rest (α.put o.dst v) N
    | .no => False
def PLc (P : Program) (nro n : Nat) (γ : Nat → Option Nat) (nd : List Tmp) (ops : Array Oper) (Q : Fm → List Blk → Prop) (H : AH) (r : StP) (d : Option Tmp) (rest : List Oper) (α : Fm) (N : List Blk) : Prop :=
    match r with
    | .val v => PL P nro n γ nd ops Q H rest (α.put d v) N
    | .new v (some b) => plainB b = true ∧ PL P nro n γ nd ops Q H rest (α.put d (reloc (H.length + N.length) v)) (N ++ [b])
    | .new _ none => False
    | .call f args => callable P f = true ∧ ((∃ v, plainV v = true ∧ (∀ L : AH, (∀ x ∈ args.toList, Shown H.length N L x) → AC P (H ++ L).length γ f args (H ++ L) (fun v' _ => v' = v)) ∧ PL P nro n γ nd ops Q H rest (α.put d v) N) ∨
      (isNd nd d = true ∧ ∃ b len, plainB b = true ∧ (∀ L : AH, (∀ x ∈ args.toList, Shown H.length N L x) → AC P (H ++ L).length γ f args (H ++ L) (Fresh (H ++ L).length b len)) ∧ PL P nro n γ nd ops Q H rest (α.put d (.slice (some ⟨H.length + N.length, 0, none⟩) len len)) (N ++ [b])) ∨
      (isNd nd d = true ∧ ∃ x, x ∈ args.toList ∧ isSl x = true ∧ (∀ L : AH, (∀ x ∈ args.toList, Shown H.length N L x) → AC P (H ++ L).length γ f args (H ++ L) (fun v' _ => v' = x)) ∧ PL P nro n γ nd ops Q H rest (α.put d x) N))
    | .callV f args => callable P f = true ∧ ∃ v, plainV v = true ∧ AC P H.length γ f args H (fun v' _ => v' = v) ∧ PL P nro n γ nd ops Q H rest (α.put d v) N
    | .lookc s t x => ∃ v, plainV v = true ∧ (∀ L : AH, Shown H.length N L x → xconv P s t x (H ++ L) = some v) ∧ PL P nro n γ nd ops Q H rest (α.put d v) N
    | .lookl t x => ∃ v, plainV v = true ∧ (∀ L : AH, Shown H.length N L x → xload P t x (H ++ L) = some v) ∧ PL P nro n γ nd ops Q H rest (α.put d v) N
    | .no => False
section
variable {P : Program} {nro n base : Nat} {γ : Nat → Option Nat} {m : List Ent} {H : AH} {α : Fm} {a : Act} {w : World} {ops : Array Oper} {K : Fm → List Blk → Prop} {N : List Blk} {nd : List Tmp}
theorem stepP_t (op : Op) : stepP P nro γ (some true) op α H = stepPC P nro γ (calleeOf γ α op) op α H := rfl
theorem stepP_f (op : Op) : stepP P nro γ (some false) op α H = .val undef := rfl
theorem stepPC_n (op : Op) : stepPC P nro γ none op α H = stepPX P nro γ (xread P γ op α H) op α H := rfl
theorem stepPC_s (f : FuncId) (args : Array Value) (op : Op) : stepPC P nro γ (some (f, args)) op α H = .call f args := rfl
theorem stepPX_s (v : Value) (op : Op) : stepPX P nro γ (some v) op α H = .val v := rfl
theorem stepPX_n (op : Op) : stepPX P nro γ none op α H = stepPV P nro γ (calleeX P γ α op) op α H := rfl
theorem stepPV_n (op : Op) : stepPV P nro γ none op α H = stepPA P nro γ (allocOp op) op α H := rfl
theorem stepPV_s (f : FuncId) (args : Array Value) (op : Op) : stepPV P nro γ (some (f, args)) op α H = .callV f args := rfl
theorem stepPA_t (op : Op) : stepPA P nro γ true op α H = stepPN (xeff P nro γ op α H) H := rfl
theorem stepPA_c (s d : TypeId) (x : Operand) : stepPA P nro γ false (.convert s d x) α H = .lookc s d (α.eval γ x) := rfl
theorem stepPA_l (t : TypeId) (x : Operand) : stepPA P nro γ false (.load t x) α H = .lookl t (α.eval γ x) := rfl
theorem stepPN_s (v : Value) (H' : AH) : stepPN (some (v, H')) H = .new v (hget H' H.length) := rfl
theorem PL_nil : PL P nro n γ nd ops K H [] α N = K α N := rfl
theorem PL_cons (o : Oper) (rest : List Oper) : PL P nro n γ nd ops K H (o :: rest) α N = PLc P nro n γ nd ops K H (stepP P nro γ (wantedA ops n α o) o.op α H) o.dst rest α N := by
  unfold PLc
  rw [PL]
theorem PLc_val (v : Value) (d : Option Tmp) (rest : List Oper) : PLc P nro n γ nd ops K H (.val v) d rest α N = PL P nro n γ nd ops K H rest (α.put d v) N := rfl
theorem PLc_new (v : Value) (b : Blk) (d : Option Tmp) (rest : List Oper) : PLc P nro n γ nd ops K H (.new v (some b)) d rest α N = (plainB b = true ∧ PL P nro n γ nd ops K H rest (α.put d (reloc (H.length + N.length) v)) (N ++ [b])) := rfl
theorem PLc_call {f : FuncId} {args : Array Value} {d : Option Tmp} {rest : List Oper} {v : Value} (h1 : callable P f = true) (h2 : ∀ L : AH, (∀ x ∈ args.toList, Shown H.length N L x) → AC P (H ++ L).length γ f args (H ++ L) (fun v' _ => v' = v)) (h3 : plainV v = true)
    (h4 : PL P nro n γ nd ops K H rest (α.put d v) N) : PLc P nro n γ nd ops K H (.call f args) d rest α N := ⟨h1, .inl ⟨v, h3, h2, h4⟩⟩
theorem reloc_sl (i j o l c : Nat) (s : Option Nat) : reloc i (.slice (some ⟨j, o, s⟩) l c) = .slice (some ⟨i, o, s⟩) l c := rfl
theorem reloc_ptr (i j o : Nat) (s : Option Nat) : reloc i (.pointer (some ⟨j, o, s⟩)) = .pointer (some ⟨i, o, s⟩) := rfl
def StepOk (P : Program) (nro n : Nat) (γ : Nat → Option Nat) (nd : List Tmp) (ops : Array Oper) (H : AH) (o : Oper) (β : Fm) (N : List Blk) (v : Value) (nb : Option Blk) : Prop :=
  (wantedA ops n β o = some false ∧ v = undef ∧ nb = none) ∨
  (wantedA ops n β o = some true ∧ isCallF o.op = false ∧ (lookF o.op = false ∨ isLoadF o.op = true) ∧ xread P γ o.op β H = some v ∧ nb = none) ∨
  (wantedA ops n β o = some true ∧ allocOp o.op = true ∧ ∃ v0 H' b, xeff P nro γ o.op β H = some (v0, H') ∧ hget H' H.length = some b ∧ plainB b = true ∧ v = reloc (H.length + N.length) v0 ∧ nb = some b) ∨
  (wantedA ops n β o = some true ∧ isCallF o.op = true ∧ (∃ f args, calleeOf γ β o.op = some (f, args) ∧ callable P f = true ∧ plainV v = true ∧ (∀ L : AH, (∀ x ∈ args.toList, Shown H.length N L x) → AC P (H ++ L).length γ f args (H ++ L) (fun v' _ => v' = v))) ∧ nb = none) ∨
  (wantedA ops n β o = some true ∧ isCallF o.op = true ∧ isNd nd o.dst = true ∧ ∃ f args b len, calleeOf γ β o.op = some (f, args) ∧ callable P f = true ∧ plainB b = true ∧ (∀ L : AH, (∀ x ∈ args.toList, Shown H.length N L x) → AC P (H ++ L).length γ f args (H ++ L) (Fresh (H ++ L).length b len)) ∧ v = .slice (some ⟨H.length + N.length, 0, none⟩) len len ∧ nb = some b) ∨
  (wantedA ops n β o = some true ∧ isCallF o.op = true ∧ isNd nd o.dst = true ∧ ∃ f args, calleeOf γ β o.op = some (f, args) ∧ callable P f = true ∧ v ∈ args.toList ∧ isSl v = true ∧ (∀ L : AH, (∀ x ∈ args.toList, Shown H.length N L x) → AC P (H ++ L).length γ f args (H ++ L) (fun v' _ => v' = v)) ∧ nb = none) ∨
  (wantedA ops n β o = some true ∧ isCallF o.op = false ∧ lookF o.op = true ∧ plainV v = true ∧ (∀ L : AH, (∀ x ∈ o.op.operands, Shown H.length N L (β.eval γ x)) → xread P γ o.op β (H ++ L) = some v) ∧ nb = none) ∨
  (wantedA ops n β o = some true ∧ isCallF o.op = false ∧ lookF o.op = false ∧ (∃ f args, calleeX P γ β o.op = some (f, args) ∧ callable P f = true ∧ plainV v = true ∧ AC P H.length γ f args H (fun v' _ => v' = v)) ∧ nb = none)
theorem xconv_mono {s t : TypeId} {x v : Value} (h : xconv P s t x H = some v) (L : AH) : xconv P s t x (H ++ L) = some v ∧ plainV v = true := by
  unfold xconv at h ⊢
  split at h
  · split at h
    · rename_i he _ hk; rw [if_pos hk]; exact ⟨h, by cases h; rfl⟩
    · cases h
  · split at h
    · rename_i he _ hk; rw [if_pos hk]; exact ⟨h, by cases h; rfl⟩
    · cases h
  · refine ⟨h, ?_⟩
    repeat' split at h
    all_goals first | (cases h; done) | (cases h; rfl)
  · rename_i b i off len c hd
    cases hg : hget H i with
    | none => rw [hg] at h; repeat' split at h
              all_goals first | contradiction | (cases h; done)
    | some k =>
      rw [hget_left' hg]
      rw [hg] at h
      refine ⟨h, ?_⟩
      repeat' split at h
      all_goals first | (cases h; done) | (cases h; rfl)
  · cases h
theorem xload_new {t : TypeId} {i o : Nat} {q : Option Nat} {v : Value} (h : xload P t (.pointer (some ⟨i, o, q⟩)) H = some v) : i < H.length := by
  unfold xload at h
  split at h
  · rename_i e
    cases e
    split at h
    · cases h
    · rename_i k hk; exact hget_lt hk
  · cases h
theorem put_ne {α : Fm} {o : Option Tmp} {v : Value} {t : Tmp} (h : o ≠ some t) : α.put o v t = α t := by
  cases o with
  | none => rfl
  | some d =>
    show (if t = d then v else α t) = α t
    rw [if_neg (fun e => h (by rw [e]))]
def dstO (ops : Array Oper) (j : Nat) : Option Tmp := (ops[j]?).bind (·.dst)
def Planned (P : Program) (nro n : Nat) (γ : Nat → Option Nat) (nd : List Tmp) (ops : Array Oper) (H : AH) (val : Nat → Value) (nb : Nat → Option Blk) (Ns : Nat → List Blk) : List Nat → Fm → List Blk → Prop
  | [], _, _ => True
  | i :: hs, α, N => ∃ o, ops[i]? = some o ∧ Ns i = N ∧ StepOk P nro n γ nd ops H o α N (val i) (nb i) ∧ Planned P nro n γ nd ops H val nb Ns hs (α.put o.dst (val i)) (N ++ (nb i).toList)
def endF (ops : Array Oper) (val : Nat → Value) : List Nat → Fm → Fm
  | [], α => α
  | i :: hs, α => endF ops val hs (α.put (dstO ops i) (val i))
def endN (nb : Nat → Option Blk) : List Nat → List Blk → List Blk
  | [], N => N
  | i :: hs, N => endN nb hs (N ++ (nb i).toList)
theorem Planned.congr {val val' : Nat → Value} {nb nb' : Nat → Option Blk} {Ns Ns' : Nat → List Blk} : ∀ (hs : List Nat) (α : Fm) (N : List Blk), (∀ x ∈ hs, val x = val' x ∧ nb x = nb' x ∧ Ns x = Ns' x) →
    Planned P nro n γ nd ops H val' nb' Ns' hs α N → Planned P nro n γ nd ops H val nb Ns hs α N ∧ endF ops val hs α = endF ops val' hs α ∧ endN nb hs N = endN nb' hs N
  | [], α, N, _, _ => ⟨trivial, rfl, rfl⟩
  | i :: hs, α, N, hx, h => by
    obtain ⟨o, h1, h2, h3, h4⟩ := h
    obtain ⟨e1, e2, e3⟩ := hx i (by simp)
    obtain ⟨k1, k2, k3⟩ := Planned.congr hs _ _ (fun x hx' => hx x (by simp [hx'])) h4
    refine ⟨⟨o, h1, e3.trans h2, by rw [e1, e2]; exact h3, by rw [e1, e2]; exact k1⟩, ?_, ?_⟩
    · have hd : dstO ops i = o.dst := by simp [dstO, h1]
      show endF ops val hs (α.put (dstO ops i) (val i)) = endF ops val' hs (α.put (dstO ops i) (val' i))
      rw [hd, e1]; exact k2
    · show endN nb hs (N ++ (nb i).toList) = endN nb' hs (N ++ (nb' i).toList)
      rw [e2]; exact k3
theorem callee_isCall {op : Op} {c : FuncId × Array Value} (h : calleeOf γ α op = some c) : isCallF op = true := by
  unfold calleeOf at h
  split at h
  · rfl
  · cases h
theorem callee_notCall {op : Op} (h : calleeOf γ α op = none) : isCallF op = false := by
  unfold calleeOf at h
  split at h
  · cases h
  · rename_i hne
    unfold isCallF
    split
    · rename_i f args ts; exact absurd rfl (hne f args ts)
    · rfl
theorem PL.step {o : Oper} {rest : List Oper} (h : PL P nro n γ nd ops K H (o :: rest) α N) : ∃ v nb, StepOk P nro n γ nd ops H o α N v nb ∧ PL P nro n γ nd ops K H rest (α.put o.dst v) (N ++ nb.toList) := by
  rw [PL_cons] at h
  cases hw : wantedA ops n α o with
  | none => rw [hw] at h; exact h.elim
  | some b =>
    rw [hw] at h
    cases b with
    | false => exact ⟨undef, none, .inl ⟨hw, rfl, rfl⟩, by rw [stepP_f, PLc_val] at h; simpa using h⟩
    | true =>
      rw [stepP_t] at h
      cases hc : calleeOf γ α o.op with
      | some c =>
        obtain ⟨f, args⟩ := c
        rw [hc, stepPC_s] at h
        obtain ⟨h1, ⟨v, h2, h3, h4⟩ | ⟨hd, b, len, h2, h3, h4⟩ | ⟨hd, x, hx, hs, h3, h4⟩⟩ := h
        · exact ⟨v, none, .inr (.inr (.inr (.inl ⟨hw, callee_isCall hc, ⟨f, args, hc, h1, h2, h3⟩, rfl⟩))), by simpa using h4⟩
        · exact ⟨_, some b, .inr (.inr (.inr (.inr (.inl ⟨hw, callee_isCall hc, hd, f, args, b, len, hc, h1, h2, h3, rfl, rfl⟩)))), h4⟩
        · exact ⟨x, none, .inr (.inr (.inr (.inr (.inr (.inl ⟨hw, callee_isCall hc, hd, f, args, hc, h1, hx, hs, h3, rfl⟩))))), by simpa using h4⟩
      | none =>
        rw [hc, stepPC_n] at h
        cases hx : xread P γ o.op α H with
        | some v =>
          rw [hx, stepPX_s, PLc_val] at h
          refine ⟨v, none, ?_, by simpa using h⟩
          have hcf := callee_notCall hc
          by_cases hl : lookF o.op = false ∨ isLoadF o.op = true
          · exact .inr (.inl ⟨hw, hcf, hl, hx, rfl⟩)
          · have hl' : lookF o.op = true := by
              cases hq : lookF o.op with
              | true => rfl
              | false => exact absurd (.inl hq) hl
            have hp : plainV v = true ∧ ∀ L : AH, xread P γ o.op α (H ++ L) = some v := by
              obtain ⟨dst, op, type, pos, after, guard⟩ := o
              simp only at hl hl' hx ⊢
              unfold lookF at hl'
              split at hl'
              · simp only [xread] at hx ⊢
                exact ⟨(xconv_mono hx []).2, fun L => (xconv_mono hx L).1⟩
              · exact absurd (.inr rfl) hl
              · exact absurd (.inr rfl) hl
              · rename_i args ts
                simp only [xread] at hx ⊢
                split at hx
                · rename_i x t e1 e2 e3
                  refine ⟨?_, fun L => hx⟩
                  unfold xlen at hx
                  repeat' split at hx
                  all_goals first | (cases hx; done) | (cases hx; rfl)
                · exact absurd ‹Callee.builtin Builtin.len = Callee.builtin Builtin.min› (by simp)
                · exact absurd ‹Callee.builtin Builtin.len = Callee.builtin Builtin.max› (by simp)
                · exact absurd ‹Callee.builtin Builtin.len = Callee.builtin Builtin.cap› (by simp)
                · cases hx
              · cases hl'
            exact .inr (.inr (.inr (.inr (.inr (.inr (.inl ⟨hw, hcf, hl', hp.1, fun L _ => hp.2 L, rfl⟩))))))
        | none =>
          rw [hx, stepPX_n] at h
          cases hcx : calleeX P γ α o.op with
          | some c =>
            obtain ⟨f, args⟩ := c
            rw [hcx, stepPV_s] at h
            obtain ⟨h1, v, h2, h3, h4⟩ := h
            have hcf := callee_notCall hc
            have hlk : lookF o.op = false := by
              unfold calleeX at hcx
              split at hcx
              · rename_i he; rw [he]; rfl
              · rename_i he; rw [he]; rfl
              · cases hcx
            exact ⟨v, none, .inr (.inr (.inr (.inr (.inr (.inr (.inr ⟨hw, hcf, hlk, ⟨f, args, hcx, h1, h2, h3⟩, rfl⟩)))))), by simpa using h4⟩
          | none =>
          rw [hcx, stepPV_n] at h
          cases ha : allocOp o.op with
          | false =>
            rw [ha] at h
            obtain ⟨dst, op, type, pos, after, guard⟩ := o
            simp only at hc hx ha h hw ⊢
            have key : (∃ s t x, op = .convert s t x) ∨ (∃ t x, op = .load t x) ∨ PLc P nro n γ nd ops K H .no dst rest α N := by
              cases op <;> first | exact .inl ⟨_, _, _, rfl⟩ | exact .inr (.inl ⟨_, _, rfl⟩) | exact .inr (.inr h)
            rcases key with ⟨s, t, x, rfl⟩ | ⟨t, x, rfl⟩ | hno
            · obtain ⟨v, h1, h2, h3⟩ := h
              exact ⟨v, none, .inr (.inr (.inr (.inr (.inr (.inr (.inl ⟨hw, rfl, rfl, h1, fun L hs => h2 L (hs x (by simp [Op.operands])), rfl⟩)))))), by simpa using h3⟩
            · obtain ⟨v, h1, h2, h3⟩ := h
              exact ⟨v, none, .inr (.inr (.inr (.inr (.inr (.inr (.inl ⟨hw, rfl, rfl, h1, fun L hs => h2 L (hs x (by simp [Op.operands])), rfl⟩)))))), by simpa using h3⟩
            · exact hno.elim
          | true =>
            rw [ha, stepPA_t] at h
            cases he : xeff P nro γ o.op α H with
            | none => rw [he] at h; exact h.elim
            | some r =>
              obtain ⟨v0, H'⟩ := r
              rw [he, stepPN_s] at h
              cases hb : hget H' H.length with
              | none => rw [hb] at h; exact h.elim
              | some b =>
                rw [hb, PLc_new] at h
                exact ⟨_, some b, .inr (.inr (.inl ⟨hw, ha, v0, H', b, he, hb, h.1, rfl, rfl⟩)), h.2⟩
theorem PL.plan {l : List Oper} (hl : l.toArray = ops) : ∀ (hs : List Nat) (α : Fm) (N : List Blk), hs.Nodup → (∀ i ∈ hs, i < l.length) → PL P nro n γ nd ops K H (sel l hs) α N →
    ∃ val nb Ns, Planned P nro n γ nd ops H val nb Ns hs α N ∧ K (endF ops val hs α) (endN nb hs N)
  | [], α, N, _, _, h => ⟨fun _ => undef, fun _ => none, fun _ => [], trivial, h⟩
  | i :: hs, α, N, hnd, hlt, h => by
    have hi := hlt i (by simp)
    have hli : l[i]? = some l[i] := List.getElem?_eq_getElem hi
    have hoi : ops[i]? = some l[i] := by rw [← hl]; simp
    simp only [sel, hli] at h
    obtain ⟨v, b, h1, h2⟩ := PL.step h
    rw [List.nodup_cons] at hnd
    obtain ⟨val, nb, Ns, h3, h4⟩ := PL.plan hl hs _ _ hnd.2 (fun x hx => hlt x (by simp [hx])) h2
    have hne : ∀ x ∈ hs, x ≠ i := fun x hx e => hnd.1 (e ▸ hx)
    obtain ⟨k1, k2, k3⟩ := Planned.congr (val := fun x => if x = i then v else val x) (nb := fun x => if x = i then b else nb x) (Ns := fun x => if x = i then N else Ns x) hs _ _ (fun x hx => by simp [hne x hx]) h3
    refine ⟨fun x => if x = i then v else val x, fun x => if x = i then b else nb x, fun x => if x = i then N else Ns x, ⟨l[i], hoi, by simp, by simpa using h1, ?_⟩, ?_⟩
    · simpa using k1
    · have hd : dstO ops i = l[i].dst := by simp [dstO, hoi]
      show K (endF ops _ hs (α.put (dstO ops i) _)) (endN _ hs (N ++ _))
      rw [hd]
      simp only [if_true]
      rw [k2, k3]
      exact h4
variable {val : Nat → Value} {nb : Nat → Option Blk} {Ns : Nat → List Blk}
theorem endN_pre : ∀ (hs : List Nat) (N : List Blk), N <+: endN nb hs N
  | [], N => List.prefix_rfl
  | i :: hs, N => (List.prefix_append N _).trans (endN_pre hs _)
theorem Planned.pre : ∀ (hs : List Nat) (α : Fm) (N : List Blk), Planned P nro n γ nd ops H val nb Ns hs α N → ∀ i ∈ hs, N <+: Ns i
  | i0 :: hs, α, N, h, i, hi => by
    obtain ⟨o, h1, h2, h3, h4⟩ := h
    rcases List.mem_cons.1 hi with rfl | hi
    · rw [h2]; exact List.prefix_rfl
    · exact (List.prefix_append N _).trans (Planned.pre hs _ _ h4 i hi)
theorem Planned.at : ∀ (hs : List Nat) (α : Fm) (N : List Blk), hs.Pairwise (· < ·) → Planned P nro n γ nd ops H val nb Ns hs α N → ∀ i ∈ hs, ∃ o β, ops[i]? = some o ∧ StepOk P nro n γ nd ops H o β (Ns i) (val i) (nb i) ∧ Ns i ++ (nb i).toList <+: endN nb hs N ∧
    (∀ t, (∀ j ∈ hs, j < i → dstO ops j ≠ some t) → β t = α t) ∧ (∀ j ∈ hs, j < i → ∀ t, dstO ops j = some t → (∀ j' ∈ hs, j' ≠ j → dstO ops j' ≠ some t) → β t = val j)
  | i0 :: hs, α, N, hp, h, i, hi => by
    obtain ⟨o, h1, h2, h3, h4⟩ := h
    rw [List.pairwise_cons] at hp
    have hd : dstO ops i0 = o.dst := by simp [dstO, h1]
    rcases List.mem_cons.1 hi with rfl | hi
    · refine ⟨o, α, h1, by rw [h2]; exact h3, by rw [h2]; exact endN_pre hs _, fun t _ => rfl, fun j hj hlt => ?_⟩
      rcases List.mem_cons.1 hj with rfl | hj
      · omega
      · have := hp.1 j hj; omega
    · obtain ⟨o', β, k1, k2, k3, k4, k5⟩ := Planned.at hs _ _ hp.2 h4 i hi
      have hlt := hp.1 i hi
      refine ⟨o', β, k1, k2, k3, fun t ht => ?_, fun j hj hji t hjt hot => ?_⟩
      · rw [k4 t fun j hj hji => ht j (by simp [hj]) hji]
        have := ht i0 (by simp) hlt
        rw [hd] at this
        exact put_ne this
      · rcases List.mem_cons.1 hj with rfl | hj
        · rw [k4 t fun j' hj' hlt' => hot j' (by simp [hj']) (by have := hp.1 j' hj'; omega)]
          rw [hd] at hjt
          rw [hjt]
          simp [Fm.put]
        · exact k5 j hj hji t hjt fun j' hj' hne => hot j' (by simp [hj']) hne
theorem Planned.end_at : ∀ (hs : List Nat) (α : Fm) (N : List Blk), hs.Nodup → Planned P nro n γ nd ops H val nb Ns hs α N →
    (∀ t, (∀ j ∈ hs, dstO ops j ≠ some t) → endF ops val hs α t = α t) ∧ (∀ j ∈ hs, ∀ t, dstO ops j = some t → (∀ j' ∈ hs, j' ≠ j → dstO ops j' ≠ some t) → endF ops val hs α t = val j)
  | [], α, N, _, _ => ⟨fun _ _ => rfl, fun j hj => by cases hj⟩
  | i0 :: hs, α, N, hp, h => by
    obtain ⟨o, h1, h2, h3, h4⟩ := h
    rw [List.nodup_cons] at hp
    have hd : dstO ops i0 = o.dst := by simp [dstO, h1]
    obtain ⟨k4, k5⟩ := Planned.end_at hs _ _ hp.2 h4
    refine ⟨fun t ht => ?_, fun j hj t hjt hot => ?_⟩
    · show endF ops val hs (α.put (dstO ops i0) (val i0)) t = α t
      rw [hd, k4 t fun j hj => ht j (by simp [hj])]
      have := ht i0 (by simp)
      rw [hd] at this
      exact put_ne this
    · show endF ops val hs (α.put (dstO ops i0) (val i0)) t = val j
      rcases List.mem_cons.1 hj with rfl | hj
      · rw [hd, k4 t fun j' hj' => hot j' (by simp [hj']) (fun e => hp.1 (e ▸ hj'))]
        rw [hd] at hjt
        rw [hjt]
        simp [Fm.put]
      · rw [hd]
        exact k5 j hj t hjt fun j' hj' hne => hot j' (by simp [hj']) hne
theorem Planned.cover : ∀ (hs : List Nat) (α : Fm) (N : List Blk), Planned P nro n γ nd ops H val nb Ns hs α N → ∀ j, N.length ≤ j → j < (endN nb hs N).length → ∃ i ∈ hs, (Ns i).length = j ∧ (nb i).isSome = true
  | [], α, N, _, j, h1, h2 => by simp only [endN] at h2; omega
  | i0 :: hs, α, N, h, j, hj1, hj2 => by
    obtain ⟨o, h1, h2, h3, h4⟩ := h
    by_cases hj : (N ++ (nb i0).toList).length ≤ j
    · obtain ⟨i, hi, k⟩ := Planned.cover hs _ _ h4 j hj hj2
      exact ⟨i, by simp [hi], k⟩
    · refine ⟨i0, by simp, ?_⟩
      cases hb : nb i0 with
      | none => rw [hb] at hj; simp at hj; omega
      | some b =>
        rw [hb] at hj
        simp at hj
        exact ⟨by rw [h2]; omega, rfl⟩
theorem Planned.lt : ∀ (hs : List Nat) (α : Fm) (N : List Blk), hs.Pairwise (· < ·) → Planned P nro n γ nd ops H val nb Ns hs α N → ∀ i ∈ hs, ∀ i' ∈ hs, i < i' → Ns i ++ (nb i).toList <+: Ns i'
  | i0 :: hs, α, N, hp, h, i, hi, i', hi', hlt => by
    obtain ⟨o, h1, h2, h3, h4⟩ := h
    rw [List.pairwise_cons] at hp
    rcases List.mem_cons.1 hi with e | h5
    · rcases List.mem_cons.1 hi' with e' | h6
      · omega
      · rw [e, h2]; exact Planned.pre hs _ _ h4 i' h6
    · rcases List.mem_cons.1 hi' with e' | h6
      · have := hp.1 i h5; omega
      · exact Planned.lt hs _ _ hp.2 h4 i h5 i' h6 hlt
end
end
section
def seesB (ops : Array Oper) (hs : List Nat) (i : Nat) (o : Oper) : Bool :=
 hs.all fun j => decide (j = i) || (match dstO ops j with
  | none => true
  | some d => decide (o.dst ≠ some d) && (!(o.looksAt ops).contains d || ((decide (j < i) && Region.waitsFor .any ops i j) || (decide (i < j) && Region.waitsFor .any ops j i))))
def guardT (ops : Array Oper) (o : Oper) : List Tmp := match o.guard with | some (g, _) => (dstO ops g).toList | none => []
def oldB (nd : List Tmp) (ops : Array Oper) (hs : List Nat) (o : Oper) : Bool :=
 hs.all fun j => match ops[j]? with
  | some oj => !newOp nd oj || (match oj.dst with | some d => !(if isCallF o.op || lookF o.op then guardT ops o else o.looksAt ops).contains d | none => true)
  | none => true
def sortedB : List Nat → Bool
 | [] => true
 | [_] => true
 | i :: j :: l => decide (i < j) && sortedB (j :: l)
theorem sortedB_spec : ∀ {l : List Nat}, sortedB l = true → l.Pairwise (· < ·)
 | [], _ => .nil
 | [x], _ => List.pairwise_singleton _ x
 | i :: j :: l, h => by
  simp only [sortedB, Bool.and_eq_true, decide_eq_true_eq] at h
  have h2 := sortedB_spec h.2
  refine List.pairwise_cons.2 ⟨fun x hx => ?_, h2⟩
  rcases List.mem_cons.1 hx with rfl | hx
  ·exact h.1
  ·exact Nat.lt_trans h.1 ((List.pairwise_cons.1 h2).1 x hx)
def setAll (hs : List Nat) (listed : Array Bool) : Array Bool := hs.foldl (fun l i => l.setIfInBounds i true) listed
def opOkB (nd : List Tmp) (ops : Array Oper) (hs : List Nat) (listed : Array Bool) (i : Nat) : Bool :=
 match ops[i]? with
 | some o => !(listed.getD i true) && seesB ops hs i o && oldB nd ops hs o && o.after.all (fun e => !(Region.binds .any e) || listed.getD e.on false || (hs.contains e.on && decide (e.on < i)))
 | none => false
def headB (nd : List Tmp) (ops : Array Oper) (hs : List Nat) (k g : Nat) (listed : Array Bool) : Bool :=
 sortedB hs && closedB ops listed && decide (listed.size = ops.size) && hs.all (opOkB nd ops hs listed) && (Region.ready .any ops (setAll hs listed)).all (fun j => hs.all fun i => waitsT ops ops.size j i) && Region.seqB .any ops g k (setAll hs listed)
theorem setAll_size : ∀ (hs : List Nat) (listed : Array Bool), (setAll hs listed).size = listed.size
 | [], _ => rfl
 | i :: hs, listed => by
  show (setAll hs (listed.setIfInBounds i true)).size = _
  rw [setAll_size hs]; simp
theorem setAll_get : ∀ (hs : List Nat) (listed : Array Bool) (x : Nat), x < listed.size → ((setAll hs listed).getD x false = true ↔ listed.getD x false = true ∨ x ∈ hs)
 | [], listed, x, _ => by simp [setAll]
 | i :: hs, listed, x, hx => by
  show (setAll hs (listed.setIfInBounds i true)).getD x false = true ↔ _
  rw [setAll_get hs _ x (by simpa using hx)]
  by_cases e : i = x
  ·subst e
   simp [hx]
  ·rw [getD_set_ne false e]
   simp [Ne.symm e]
section
variable {P : Program} {nro n base : Nat} {γ : Nat → Option Nat} {m : List Ent} {H : AH} {α : Fm} {a : Act} {w : World} {ops : Array Oper} {K : Fm → List Blk → Prop} {N : List Blk}
theorem eval_ev (hR : Rel nro base γ m H w) {x : Operand} (hok : okOpd n γ x = true) (ht : ∀ t, x = .tmp t → t < n → V m (α t) (a.tmps.getD t undef)) : V m (α.eval γ x) (a.eval x) := by
 cases x with
 | tmp t => exact ht t rfl (by simpa [okOpd] using hok)
 | const v => exact plainV_mk hok
 | global g =>
  simp only [okOpd] at hok
  obtain ⟨i, hi⟩ := Option.isSome_iff_exists.1 hok
  obtain ⟨_, e, h1, h2, h3, _⟩ := hR.glob g i hi
  have h4 : α.eval γ (.global g) = .pointer (some ⟨i, 0, none⟩) := by simp [Fm.eval, hi]
  have h5 : a.eval (.global g) = .pointer (some ⟨e.b, e.o + 0, none⟩) := by simp [Act.eval, h2, h3]
  rw [h4, h5]
  exact .one (.ptr h1)
 | func f => exact .one (.plain rfl)
theorem wantedA_ev {o : Oper} (hsz : a.tmps.size = n) (hv : ∀ d, d ∈ guardT ops o → d < n → V m (α d) (a.tmps.getD d undef)) {b : Bool} (h : wantedA ops n α o = some b) : Region.wanted o (yielded ops a.tmps) = b := by
 unfold wantedA at h
 unfold Region.wanted
 cases hg : o.guard with
 | none => rw [hg] at h; exact Option.some.inj h
 | some jw =>
  obtain ⟨j, want⟩ := jw
  rw [hg] at h
  show (yielded ops a.tmps j == some want) = b
  unfold yielded
  cases hd : (ops[j]?).bind (·.dst) with
  | none => simp only [hd] at h; cases h
  | some d =>
   simp only [hd] at h
   by_cases hn : d < n
   ·rw [if_pos hn] at h
    have hv := hv d (by unfold guardT; simp [hg, dstO, hd]) hn
    have hget : a.tmps[d]? = some (a.tmps.getD d undef) := by
     have : d < a.tmps.size := by rw [hsz]; exact hn
     simp [this]
    unfold wb at h
    split at h
    ·rename_i b' hb
     rw [hb] at hv
     have h1 := hv.eq rfl
     have h3 : (some d).bind (fun x => a.tmps[x]?) = some (.bool b') := by show a.tmps[d]? = _; rw [hget, h1]
     rw [h3]
     simp only [Option.some.injEq] at h
     rw [← h]
     simp
    ·rename_i vs hb
     rw [hb] at hv
     have h1 : ∃ ds, a.tmps.getD d undef = .tuple ds := by
      generalize a.tmps.getD d undef = y at hv
      cases hv with
      | two h => cases h with | one h => cases h with | plain h => cases h
      | tup _ _ => exact ⟨_, rfl⟩
     obtain ⟨ds, h1⟩ := h1
     have h3 : (some d).bind (fun x => a.tmps[x]?) = some (.tuple ds) := by show a.tmps[d]? = _; rw [hget, h1]
     rw [h3]
     simp only [Option.some.injEq] at h
     rw [← h]
     rfl
    ·cases h
   ·rw [if_neg hn] at h; cases h
theorem xeff_alloc {op : Op} {v0 : Value} {H' : AH} (ha : allocOp op = true) (h : xeff P nro γ op α H = some (v0, H')) :
  (∃ b, H' = H ++ [some b]) ∧ (v0 = .pointer (some ⟨H.length, 0, none⟩) ∨ (∃ l, v0 = .slice (some ⟨H.length, 0, none⟩) l l) ∨ ∃ l c, v0 = .slice (some ⟨H.length, 0, some (c + 1)⟩) l l) ∧ ∀ nro', xeff P nro' γ op α H = some (v0, H') := by
 refine ⟨?_, ?_, ?_⟩
 ·cases op <;> first | (cases ha; done) | skip
  all_goals
   simp only [xeff] at h
   repeat' split at h
   all_goals first | (cases h; done) | (cases h; exact ⟨_, rfl⟩)
 ·cases op <;> first | (cases ha; done) | skip
  all_goals
   simp only [xeff] at h
   repeat' split at h
   all_goals first | (cases h; done) | (cases h; exact .inl rfl) | (cases h; exact .inr (.inl ⟨_, rfl⟩)) | (cases h; exact .inr (.inr ⟨_, _, rfl⟩))
 ·intro nro'
  cases op <;> first | (cases ha; done) | exact h
def BlkOk (w : World) (e : Ent) (b : Blk) : Prop :=
 e.o = 0 ∧ e.es = b.es ∧ (b.ents = none ∧ b.cells.all plain1 = true) ∧ ∃ cs fr, w.heap[e.b]? = some (.cells cs b.ty fr) ∧ cs.size = e.sz ∧ (∀ o, o < cs.size → ¬ (fr.1 ≤ o ∧ o < fr.2)) ∧ (b.es.isSome = true → fr = (0, 0)) ∧ ∀ (j : Nat) (x : Value), b.cells[j]? = some x → cs[j]? = some x
theorem BlkOk.below {w w' : World} {e : Ent} {b : Blk} (h : BlkOk w e b) (hb : Below w.heap.size w w') : BlkOk w' e b := by
 obtain ⟨h1, h2, h3, cs, fr, h4, h5⟩ := h
 exact ⟨h1, h2, h3, cs, fr, (hb.block _ (Array.getElem?_eq_some_iff.1 h4).1).trans h4, h5⟩
def VN (h : Nat) (E : Nat → Option Ent) (v v' : Value) : Prop :=
 ∃ j e, E j = some e ∧ ((v = .pointer (some ⟨h + j, 0, none⟩) ∧ v' = .pointer (some ⟨e.b, 0, none⟩)) ∨
  (∃ l c, v = .slice (some ⟨h + j, 0, none⟩) l l ∧ v' = .slice (some ⟨e.b, 0, none⟩) l c ∧ l ≤ c ∧ ∀ s, e.es = some s → c * s = e.sz ∧ c ≤ maxLen) ∨
  ∃ l c, v = .slice (some ⟨h + j, 0, some (c + 1)⟩) l l ∧ v' = .slice (some ⟨e.b, 0, none⟩) l c ∧ l ≤ c)
theorem VN.v {h : Nat} {E : Nat → Option Ent} {v v' : Value} (hv : VN h E v v') {m' : List Ent} (hm : ∀ j e, E j = some e → m'[h + j]? = some e) (ho : ∀ j e, E j = some e → e.o = 0) : V m' v v' := by
 obtain ⟨j, e, he, ⟨rfl, rfl⟩ | ⟨l, c, rfl, rfl, hl, hs⟩ | ⟨l, c, rfl, rfl, hl⟩⟩ := hv
 ·have := V.one (V1.ptr (off := 0) (hm j e he))
  simpa [ho j e he] using this
 ·have := V.one (V1.sl (off := 0) (hm j e he) hl (fun _ s h => hs s h))
  simpa [ho j e he] using this
 ·have := V.one (V1.slx (hm j e he) hl)
  simpa [ho j e he] using this
theorem VN.mono {h : Nat} {E E' : Nat → Option Ent} {v v' : Value} (hv : VN h E v v') (hE : ∀ j e, E j = some e → E' j = some e) : VN h E' v v' :=
 let ⟨j, e, he, r⟩ := hv
 ⟨j, e, hE j e he, r⟩
theorem Rel.news (hR : Rel nro base γ m H w) {L : AH} {mL : List Ent} (hl : mL.length = L.length) (h : ∀ (j : Nat) (e : Ent), mL[j]? = some e → e.b < w.heap.size)
  (hc : ∀ (j : Nat) (b : Blk) (e : Ent), L[j]? = some (some b) → mL[j]? = some e → BlkOk w e b) : Rel (H ++ L).length w.heap.size γ (m ++ mL) (H ++ L) w := by
 have hpre : m <+: m ++ mL := List.prefix_append _ _
 have inb : ∀ (i : Nat) (e : Ent), (m ++ mL)[i]? = some e → e.b < w.heap.size := fun i e he => by
  rcases Nat.lt_or_ge i m.length with hi | hi
  ·rw [List.getElem?_append_left hi] at he; exact hR.inb i e he
  ·rw [List.getElem?_append_right hi] at he; exact h _ e he
 refine ⟨by simp [hR.len, hl], Nat.le_refl _, Nat.le_refl _, inb, fun i e _ he => inb i e he, fun i e hi he => ?_, fun i k e l hk hkl he => ?_, fun i k e hk hkm he => ?_, fun i j ki kj ei ej hi hj _ hki => ?_, hR.globs (by have := hR.le; simp; omega) (fun i e h => pre_get hpre h) (fun i k hi h => by rwa [List.getElem?_append_left (Nat.lt_of_lt_of_le hi hR.le)] at h) (fun _ _ _ _ _ _ => rfl)⟩
 ·have := (List.getElem?_eq_some_iff.1 he).1
  simp [hR.len, hl] at this hi
  omega
 ·rcases Nat.lt_or_ge i m.length with hi | hi
  ·rw [List.getElem?_append_left hi] at he
   rw [List.getElem?_append_left (by rw [← hR.len]; exact hi)] at hk
   obtain ⟨h1, h2, h3, es, cl, h4, h5⟩ := hR.maps i k e l hk hkl he
   exact ⟨h1, h2, h3, es, cl, h4, h5.mono hpre⟩
  ·rw [List.getElem?_append_right hi] at he
   rw [List.getElem?_append_right (by rw [← hR.len]; exact hi), ← hR.len] at hk
   have := (hc _ k e hk he).2.2.1.1
   rw [this] at hkl
   cases hkl
 ·have hlt := (List.getElem?_eq_some_iff.1 hk).1
  rcases Nat.lt_or_ge i m.length with hi | hi
  ·rw [List.getElem?_append_left hi] at he
   rw [List.getElem?_append_left (by rw [← hR.len]; exact hi)] at hk
   obtain ⟨cs, fr, h1, h2, h3, h4, h5⟩ := hR.cells i k e hk hkm he
   exact ⟨cs, fr, h1, fun hn => by omega, h3, fun hn => by omega, fun j x hx => let ⟨y, p, q⟩ := h5 j x hx; ⟨y, p, q.mono hpre⟩⟩
  ·rw [List.getElem?_append_right hi] at he
   rw [List.getElem?_append_right (by rw [← hR.len]; exact hi), ← hR.len] at hk
   obtain ⟨h1, h2, h3, cs, fr, h4, h5, h6, h7, h8⟩ := hc _ k e hk he
   exact ⟨cs, fr, h4, fun hn => by omega, h2, fun hn => by omega, fun j x hx => ⟨x, by rw [h1, Nat.zero_add]; exact h8 j x hx, .plain (List.all_eq_true.1 h3.2 x (List.mem_of_getElem? hx))⟩⟩
 ·have := (List.getElem?_eq_some_iff.1 hki).1
  omega
theorem Rel.addAll : ∀ (N : List Blk) (mN m : List Ent) (H : AH), Rel nro base γ m H w → mN.length = N.length →
  (∀ (j : Nat) (b : Blk) (e : Ent), N[j]? = some b → mN[j]? = some e → BlkOk w e b ∧ base ≤ e.b) → (∀ (i j : Nat) (e e' : Ent), m[i]? = some e → mN[j]? = some e' → e.b ≠ e'.b) → (∀ (i j : Nat) (e e' : Ent), i ≠ j → mN[i]? = some e → mN[j]? = some e' → e.b ≠ e'.b) →
  Rel nro base γ (m ++ mN) (H ++ N.map some) w
 | [], mN, m, H, hR, hl, _, _, _ => by
  have : mN = [] := List.eq_nil_of_length_eq_zero hl
  subst this
  simpa using hR
 | b :: N, [], m, H, hR, hl, _, _, _ => by simp at hl
 | b :: N, e :: mN, m, H, hR, hl, hc, ho, hd => by
  obtain ⟨⟨h1, h2, h3, cs, fr, h4, h5, h6, h7, h8⟩, h9⟩ := hc 0 b e rfl rfl
  have h := hR.add (w' := w) (b := e.b) (cs := cs) (ty := b.ty) (fr := fr) (es := b.es) (cells := b.cells) (Nat.le_refl _) (fun _ _ _ _ _ => rfl) h9 h4 h6 h7 (fun i k e' hi hk he' => ho i 0 e' e he' rfl)
    (fun j x hx => ⟨x, h8 j x hx, .plain (List.all_eq_true.1 h3.2 x (List.mem_of_getElem? hx))⟩)
  have he0 : e = ⟨e.b, 0, cs.size, b.es⟩ := by cases e; simp_all
  rw [← he0, lit_self h3.1] at h
  clear he0
  have := Rel.addAll N mN (m ++ [e]) (H ++ [some b]) h (by simpa using hl) (fun j b' e' hj he => hc (j + 1) b' e' (by simpa using hj) (by simpa using he)) (fun i j e1 e2 g1 g2 => by
    rcases app_one g1 with ⟨_, g1⟩ | ⟨_, g1⟩
    ·exact ho i (j + 1) e1 e2 g1 (by simpa using g2)
    ·exact hd 0 (j + 1) e1 e2 (by omega) (by rw [g1]; rfl) (by simpa using g2))
   (fun i j e1 e2 hne g1 g2 => hd (i + 1) (j + 1) e1 e2 (by omega) (by simpa using g1) (by simpa using g2))
  simpa using this
end
end
section
structure PCtx where
 P : Program
 nro : Nat
 n : Nat
 base : Nat
 γ : Nat → Option Nat
 nd : List Tmp
 m : List Ent
 H : AH
 ops : Array Oper
 hs : List Nat
 α : Fm
 w0 : World
 listed0 : Array Bool
 val : Nat → Value
 nb : Nat → Option Blk
 Ns : Nat → List Blk
structure PCtx.Ok (c : PCtx) : Prop where
 rel : Rel c.nro c.base c.γ c.m c.H c.w0
 ok : ∀ (i : Nat) (o : Oper), c.ops[i]? = some o → o.op.operands.all (okOpd c.n c.γ) = true
 sel : Region.noSelect c.ops = true
 sorted : c.hs.Pairwise (· < ·)
 head : ∀ i ∈ c.hs, opOkB c.nd c.ops c.hs c.listed0 i = true
 size0 : c.listed0.size = c.ops.size
 plan : Planned c.P c.nro c.n c.γ c.nd c.ops c.H c.val c.nb c.Ns c.hs c.α []
structure PInv (c : PCtx) (listed : Array Bool) (a : Act) (w : World) (E : Nat → Option Ent) : Prop where
 dfr : a.defers = []
 size : a.tmps.size = c.n
 below : Below c.w0.heap.size c.w0 w
 lsz : listed.size = c.ops.size
 sub : ∀ x, c.listed0.getD x false = true → listed.getD x false = true
 only : ∀ x, listed.getD x false = true → c.listed0.getD x false = true ∨ x ∈ c.hs
 closed : Closed c.ops listed
 old : ∀ t, t < c.n → (∀ i ∈ c.hs, listed.getD i false = true → dstO c.ops i ≠ some t) → V c.m (c.α t) (a.tmps.getD t undef)
 got : ∀ i ∈ c.hs, ∀ (o : Oper) (t : Tmp), c.ops[i]? = some o → listed.getD i false = true → o.dst = some t → t < c.n → V c.m (c.val i) (a.tmps.getD t undef) ∨ (newOp c.nd o = true ∧ VN c.H.length E (c.val i) (a.tmps.getD t undef))
 ent : ∀ (j : Nat) (e : Ent), E j = some e → c.w0.heap.size ≤ e.b ∧ ∃ b, (endN c.nb c.hs [])[j]? = some b ∧ BlkOk w e b
 dist : ∀ (j j' : Nat) (e e' : Ent), j ≠ j' → E j = some e → E j' = some e' → e.b ≠ e'.b
 all : ∀ i ∈ c.hs, listed.getD i false = true → (c.nb i).isSome = true → (E (c.Ns i).length).isSome = true
 from' : ∀ (j : Nat) (e : Ent), E j = some e → ∃ i ∈ c.hs, (c.nb i).isSome = true ∧ (c.Ns i).length = j ∧ listed.getD i false = true
section
variable {c : PCtx} {listed : Array Bool} {a : Act} {w : World} {E : Nat → Option Ent}
theorem PCtx.Ok.dst (hc : c.Ok) {i j : Nat} (hi : i ∈ c.hs) (hj : j ∈ c.hs) (hne : i ≠ j) {t : Tmp} (h : dstO c.ops i = some t) : dstO c.ops j ≠ some t := by
 have h1 := hc.head i hi
 unfold opOkB at h1
 split at h1
 case h_2 => cases h1
 rename_i o ho
 simp only [Bool.and_eq_true, Bool.not_eq_true'] at h1
 have h2 := h1.1.1.2
 unfold seesB at h2
 have h3 := List.all_eq_true.1 h2 j hj
 simp only [Bool.or_eq_true, decide_eq_true_eq] at h3
 rcases h3 with h3 | h3
 ·exact absurd h3.symm hne
 ·intro e
  rw [e] at h3
  simp only [Bool.and_eq_true, decide_eq_true_eq] at h3
  have : dstO c.ops i = o.dst := by simp [dstO, ho]
  exact h3.1 (this ▸ h)
theorem getD_set_self {l : Array Bool} {i : Nat} (h : i < l.size) : (l.setIfInBounds i true).getD i false = true := by simp [h]
theorem getD_lt {l : Array Bool} {i : Nat} (h : l.getD i false = true) : i < l.size := by
 rcases Nat.lt_or_ge i l.size with h' | h'
 ·exact h'
 ·simp [Array.getElem?_eq_none h'] at h
theorem PInv.next (hc : c.Ok) (h : PInv c listed a w E) {i : Nat} {o : Oper} (hi : i ∈ c.hs) (ho : c.ops[i]? = some o) (hun : listed.getD i true = false) (hall : ∀ e ∈ o.after, Region.binds .any e = true → listed.getD e.on false = true)
  {v' : Value} {w' : World} {E' : Nat → Option Ent} (hE : ∀ (j : Nat) (e : Ent), E j = some e → E' j = some e) (hb : Below c.w0.heap.size c.w0 w')
  (hent : ∀ (j : Nat) (e : Ent), E' j = some e → c.w0.heap.size ≤ e.b ∧ ∃ b, (endN c.nb c.hs [])[j]? = some b ∧ BlkOk w' e b) (hdist : ∀ (j j' : Nat) (e e' : Ent), j ≠ j' → E' j = some e → E' j' = some e' → e.b ≠ e'.b)
  (hnb : (c.nb i).isSome = true → (E' (c.Ns i).length).isSome = true) (hfrom : ∀ (j : Nat) (e : Ent), E' j = some e → E j = some e ∨ ((c.nb i).isSome = true ∧ (c.Ns i).length = j))
  (htr : ∀ t, o.dst = some t → t < c.n → V c.m (c.val i) v' ∨ (newOp c.nd o = true ∧ VN c.H.length E' (c.val i) v')) :
  PInv c (listed.setIfInBounds i true) (a.put o.dst v') w' E' := by
 have hil : i < listed.size := by rw [h.lsz]; exact (Array.getElem?_eq_some_iff.1 ho).1
 have hd : dstO c.ops i = o.dst := by simp [dstO, ho]
 have put_get : ∀ t, o.dst ≠ some t → (a.put o.dst v').tmps.getD t undef = a.tmps.getD t undef := by
  intro t ht
  cases hq : o.dst with
  | none => rfl
  | some d =>
   have : d ≠ t := fun e => ht (by rw [hq, e])
   simp [Act.put, Array.getElem?_setIfInBounds_ne this]
 have put_self : ∀ t, o.dst = some t → t < c.n → (a.put o.dst v').tmps.getD t undef = v' := by
  intro t ht hn
  have : t < a.tmps.size := by rw [h.size]; exact hn
  rw [ht]
  simp [Act.put, this]
 have lget : ∀ x, (listed.setIfInBounds i true).getD x false = true → x = i ∨ listed.getD x false = true := by
  intro x hx
  by_cases e : i = x
  ·exact .inl e.symm
  ·rw [getD_set_ne false e] at hx; exact .inr hx
 refine ⟨?_, ?_, hb, by simpa using h.lsz, fun x hx => getD_set_true (h.sub x hx), fun x hx => ?_, h.closed.put ho hall, fun t ht hw => ?_, fun i' hi' o' t ho' hl' hdt ht => ?_, hent, hdist, fun i' hi' hl' hn => ?_, fun j e he => ?_⟩
 ·cases hq : o.dst <;> simpa [Act.put, hq] using h.dfr
 ·cases hq : o.dst <;> simpa [Act.put, hq] using h.size
 ·rcases lget x hx with rfl | hx
  ·exact .inr hi
  ·exact h.only x hx
 ·have h1 : o.dst ≠ some t := by
   have := hw i hi (getD_set_self hil)
   rwa [hd] at this
  rw [put_get t h1]
  exact h.old t ht fun i' hi' hl' => hw i' hi' (getD_set_true hl')
 ·by_cases e : i' = i
  ·subst e
   obtain rfl : o = o' := Option.some.inj (ho.symm.trans ho')
   rw [put_self t hdt ht]
   exact htr t hdt ht
  ·have hl2 : listed.getD i' false = true := by rcases lget i' hl' with e' | h'; exact absurd e' e; exact h'
   have h1 : o.dst ≠ some t := by
    have := hc.dst hi' hi e (t := t) (by simp [dstO, ho', hdt])
    rwa [hd] at this
   rw [put_get t h1]
   rcases h.got i' hi' o' t ho' hl2 hdt ht with h2 | ⟨h2, h3⟩
   ·exact .inl h2
   ·exact .inr ⟨h2, h3.mono hE⟩
 ·by_cases e : i' = i
  ·subst e; exact hnb hn
  ·have hl2 : listed.getD i' false = true := by rcases lget i' hl' with e' | h'; exact absurd e' e; exact h'
   obtain ⟨e', he'⟩ := Option.isSome_iff_exists.1 (h.all i' hi' hl2 hn)
   rw [hE _ _ he']; rfl
 ·rcases hfrom j e he with h1 | ⟨h1, h2⟩
  ·obtain ⟨i', k1, k2, k3, k4⟩ := h.from' j e h1
   exact ⟨i', k1, k2, k3, getD_set_true k4⟩
  ·exact ⟨i, hi, h1, h2, getD_set_self hil⟩
theorem PInv.looks (hc : c.Ok) (h : PInv c listed a w E) {i : Nat} {o : Oper} (hi : i ∈ c.hs) (ho : c.ops[i]? = some o) (hun : listed.getD i true = false) (hall : ∀ e ∈ o.after, Region.binds .any e = true → listed.getD e.on false = true)
  {β : Fm} (h1 : ∀ t, (∀ j ∈ c.hs, j < i → dstO c.ops j ≠ some t) → β t = c.α t) (h2 : ∀ j ∈ c.hs, j < i → ∀ t, dstO c.ops j = some t → (∀ j' ∈ c.hs, j' ≠ j → dstO c.ops j' ≠ some t) → β t = c.val j) :
  ∀ t ∈ o.looksAt c.ops, t < c.n → V c.m (β t) (a.tmps.getD t undef) ∨ ∃ j ∈ c.hs, ∃ oj, c.ops[j]? = some oj ∧ newOp c.nd oj = true ∧ oj.dst = some t ∧ listed.getD j false = true ∧ VN c.H.length E (β t) (a.tmps.getD t undef) := by
 intro t htl htn
 have hi0 := getD_both hun
 by_cases hw : ∃ j ∈ c.hs, j ≠ i ∧ dstO c.ops j = some t
 ·obtain ⟨j, hj, hne, hd⟩ := hw
  have hother : ∀ j' ∈ c.hs, j' ≠ j → dstO c.ops j' ≠ some t := fun j' hj' hn => hc.dst hj hj' (Ne.symm hn) hd
  have k1 := hc.head i hi
  unfold opOkB at k1
  rw [ho] at k1
  simp only [Bool.and_eq_true, Bool.not_eq_true'] at k1
  have k2 := k1.1.1.2
  unfold seesB at k2
  have k3 := List.all_eq_true.1 k2 j hj
  simp only [Bool.or_eq_true, decide_eq_true_eq] at k3
  rcases k3 with k3 | k3
  ·exact absurd k3 hne
  rw [hd] at k3
  simp only [Bool.and_eq_true, Bool.or_eq_true, decide_eq_true_eq, Bool.not_eq_true'] at k3
  rcases k3.2 with k4 | ⟨hlt, k4⟩ | ⟨hlt, k4⟩
  ·have : (o.looksAt c.ops).contains t = true := by simpa using htl
   rw [this] at k4; cases k4
  ·obtain ⟨o2, ho2, e, he, hb, hon⟩ := Region.waitsFor_spec k4
   obtain rfl : o = o2 := Option.some.inj (ho.symm.trans ho2)
   have hl := hall e he hb
   rw [hon] at hl
   rw [h2 j hj hlt t hd hother]
   obtain ⟨oj, hoj, hdj⟩ : ∃ oj, c.ops[j]? = some oj ∧ oj.dst = some t := by
    unfold dstO at hd
    cases hq : c.ops[j]? with
    | none => rw [hq] at hd; cases hd
    | some oj => rw [hq] at hd; exact ⟨oj, rfl, hd⟩
   rcases h.got j hj oj t hoj hl hdj htn with h3 | ⟨h3, h4⟩
   ·exact .inl h3
   ·exact .inr ⟨j, hj, oj, hoj, h3, hdj, hl, h4⟩
  ·have hjl : listed.getD j false = false := by
    cases hq : listed.getD j false with
    | false => rfl
    | true =>
     obtain ⟨o2, ho2, e, he, hb, hon⟩ := Region.waitsFor_spec k4
     have hqt : listed.getD j true = true := by
      have := getD_lt hq
      simp [this] at hq ⊢; exact hq
     have := h.closed j o2 ho2 hqt e he hb
     rw [hon, hi0] at this
     cases this
   left
   rw [h1 t fun j' hj' hlt' => hother j' hj' (by omega)]
   refine h.old t htn fun i' hi' hl' => hother i' hi' (fun e => ?_)
   rw [e, hjl] at hl'; cases hl'
 ·left
  have hw' : ∀ j ∈ c.hs, j ≠ i → dstO c.ops j ≠ some t := fun j hj hne hd => hw ⟨j, hj, hne, hd⟩
  rw [h1 t fun j hj hlt => hw' j hj (by omega)]
  refine h.old t htn fun i' hi' hl' => hw' i' hi' (fun e => ?_)
  rw [e, hi0] at hl'; cases hl'
theorem guard_looks {ops : Array Oper} {o : Oper} {d : Tmp} (h : d ∈ guardT ops o) : d ∈ o.looksAt ops := by
 refine List.mem_append_right _ ?_
 unfold guardT dstO at h
 split at h
 ·rename_i g b hg; simpa [hg] using h
 ·cases h
theorem oldB_spec {nd : List Tmp} {ops : Array Oper} {hs : List Nat} {o : Oper} (h : oldB nd ops hs o = true) {j : Nat} (hj : j ∈ hs) {oj : Oper} (hoj : ops[j]? = some oj) (ha : newOp nd oj = true) {t : Tmp} (hd : oj.dst = some t) :
  t ∉ (if isCallF o.op || lookF o.op then guardT ops o else o.looksAt ops) := by
 have h1 := List.all_eq_true.1 h j hj
 rw [hoj] at h1
 simp only [ha, hd, Bool.not_true, Bool.false_or, Bool.not_eq_true'] at h1
 intro hm
 have : (if isCallF o.op || lookF o.op then guardT ops o else o.looksAt ops).contains t = true := by simpa using hm
 rw [this] at h1
 cases h1
theorem PInv.finish (hc : c.Ok) (h : PInv c listed a w E) (hdone : ∀ i ∈ c.hs, listed.getD i false = true) : ∃ m', c.m <+: m' ∧ Rel c.nro c.base c.γ m' (c.H ++ (endN c.nb c.hs []).map some) w ∧ FR c.n m' (endF c.ops c.val c.hs c.α) a := by
 have hnd : c.hs.Nodup := hc.sorted.imp (fun h => Nat.ne_of_lt h)
 have hcov : ∀ j, j < (endN c.nb c.hs []).length → ∃ e, E j = some e := by
  intro j hj
  obtain ⟨i, hi, k1, k2⟩ := Planned.cover c.hs c.α [] hc.plan j (Nat.zero_le _) hj
  have := h.all i hi (hdone i hi) k2
  rw [k1] at this
  exact Option.isSome_iff_exists.1 this
 obtain ⟨N, hN⟩ : ∃ N, N = endN c.nb c.hs [] := ⟨_, rfl⟩
 let mN := (List.range N.length).map fun j => (E j).getD ⟨0, 0, 0, none⟩
 have hmN : ∀ j e, j < N.length → E j = some e → mN[j]? = some e := by
  intro j e hj he
  simp [mN, hj, he]
 have hget : ∀ (j : Nat) (e : Ent), mN[j]? = some e → j < N.length ∧ E j = some e := by
  intro j e he
  have hj : j < N.length := by
   have := (List.getElem?_eq_some_iff.1 he).1
   simpa [mN] using this
  obtain ⟨e', he'⟩ := hcov j (by rw [← hN]; exact hj)
  have := hmN j e' hj he'
  rw [he] at this
  cases this
  exact ⟨hj, he'⟩
 have hlow : ∀ (i : Nat) (e : Ent), c.m[i]? = some e → e.b < c.w0.heap.size := hc.rel.inb
 refine ⟨c.m ++ mN, List.prefix_append _ _, ?_, ?_⟩
 ·rw [← hN]
  refine Rel.addAll N mN c.m c.H (hc.rel.below h.below) (by simp [mN]) (fun j b e hj he => ?_) (fun i j e e' hi he => ?_) (fun i j e e' hne h1 h2 => ?_)
  ·obtain ⟨h1, h2⟩ := hget j e he
   obtain ⟨k1, b', k2, k3⟩ := h.ent j e h2
   rw [← hN, hj] at k2
   cases k2
   exact ⟨k3, Nat.le_trans hc.rel.base_le k1⟩
  ·have := hlow i e hi
   have := (h.ent j e' (hget j e' he).2).1
   omega
  ·exact h.dist i j e e' hne (hget i e h1).2 (hget j e' h2).2
 ·refine ⟨h.dfr, h.size, fun t ht => ?_⟩
  obtain ⟨k1, k2⟩ := Planned.end_at c.hs c.α [] hnd hc.plan
  by_cases hw : ∃ j ∈ c.hs, dstO c.ops j = some t
  ·obtain ⟨j, hj, hd⟩ := hw
   rw [k2 j hj t hd fun j' hj' hne => hc.dst hj hj' (Ne.symm hne) hd]
   obtain ⟨oj, hoj, hdj⟩ : ∃ oj, c.ops[j]? = some oj ∧ oj.dst = some t := by
    unfold dstO at hd
    cases hq : c.ops[j]? with
    | none => rw [hq] at hd; cases hd
    | some oj => rw [hq] at hd; exact ⟨oj, rfl, hd⟩
   rcases h.got j hj oj t hoj (hdone j hj) hdj ht with h3 | ⟨_, h4⟩
   ·exact h3.mono (List.prefix_append _ _)
   ·refine h4.v (fun j e he => ?_) (fun j e he => (h.ent j e he).2.choose_spec.2.1)
    rw [← hc.rel.len, List.getElem?_append_right (Nat.le_add_right _ _), Nat.add_sub_cancel_left]
    obtain ⟨_, b, hb, _⟩ := h.ent j e he
    exact hmN j e (by rw [hN]; exact (List.getElem?_eq_some_iff.1 hb).1) he
  ·have hw' : ∀ j ∈ c.hs, dstO c.ops j ≠ some t := fun j hj hd => hw ⟨j, hj, hd⟩
   rw [k1 t hw']
   exact (h.old t ht fun i hi _ => hw' i hi).mono (List.prefix_append _ _)
end
end
section
theorem Shown.of_V {m : List Ent} {h : Nat} {N : List Blk} {L : AH} {x y : Value} (hm : m.length = h) (hv : V m x y) : Shown h N L x := by
 have lt : ∀ {i : Nat} {e : Ent}, m[i]? = some e → i < h := fun he => hm ▸ (List.getElem?_eq_some_iff.1 he).1
 cases hv with
 | tup _ _ => trivial
 | two h2 =>
  cases h2 with
  | agg _ _ => trivial
  | one h1 =>
   cases h1 with
   | plain hp =>
    unfold Shown
    split
    ·cases hp
    ·cases hp
    ·trivial
   | ptr he => intro j b hj; have := lt he; omega
   | sl he _ _ => intro j b hj; have := lt he; omega
   | slv he _ => intro j b hj; have := lt he; omega
   | slx he _ => trivial
   | mp _ => trivial
   | sl0 => trivial
   | clo _ _ _ _ => trivial
   | ifc _ => trivial
   | ifa _ _ => trivial
section
variable {c : PCtx} {listed : Array Bool} {a : Act} {w : World} {E : Nat → Option Ent}
theorem alloc_notCall {op : Op} (h : allocOp op = true) : isCallF op = false := by cases op <;> first | (cases h; done) | rfl
theorem alloc_notLook {op : Op} (h : allocOp op = true) : lookF op = false := by cases op <;> first | (cases h; done) | rfl
theorem PInv.grow (hc : c.Ok) (h : PInv c listed a w E) {i : Nat} {o : Oper} (hi : i ∈ c.hs) (ho : c.ops[i]? = some o) (hun : listed.getD i true = false) (hall : ∀ e ∈ o.after, Region.binds .any e = true → listed.getD e.on false = true)
  (hpre : c.Ns i ++ (c.nb i).toList <+: endN c.nb c.hs []) {b : Blk} (hn : c.nb i = some b) {e : Ent} {v' : Value} {w' : World} (hfresh : w.heap.size ≤ e.b) (hblk : BlkOk w' e b) (h6 : Below w.heap.size w w')
  (htr : ∀ E' : Nat → Option Ent, E' (c.Ns i).length = some e → ∀ t, o.dst = some t → t < c.n → V c.m (c.val i) v' ∨ (newOp c.nd o = true ∧ VN c.H.length E' (c.val i) v')) :
  ∃ E', PInv c (listed.setIfInBounds i true) (a.put o.dst v') w' E' := by
 have hfree : ∀ e0, E (c.Ns i).length ≠ some e0 := by
  intro e0 he0
  obtain ⟨i', k1, k2, k3, k4⟩ := h.from' _ e0 he0
  have hne : i' ≠ i := fun e => by rw [e, getD_both hun] at k4; cases k4
  rcases Nat.lt_or_gt_of_ne hne with hlt | hlt
  ·have := (Planned.lt c.hs c.α [] hc.sorted hc.plan i' k1 i hi hlt).length_le
   cases hq : c.nb i' with
   | none => rw [hq] at k2; cases k2
   | some b0 => rw [hq] at this; simp at this; omega
  ·have := (Planned.lt c.hs c.α [] hc.sorted hc.plan i hi i' k1 hlt).length_le
   rw [hn] at this; simp at this; omega
 have hN : (endN c.nb c.hs [])[(c.Ns i).length]? = some b := by
  rw [hn] at hpre
  obtain ⟨t, ht⟩ := hpre
  rw [← ht]; simp
 have hEE : ∀ j e1, E j = some e1 → (if j = (c.Ns i).length then some e else E j) = some e1 := fun j e1 he1 => by
  have hj : j ≠ (c.Ns i).length := fun e2 => hfree e1 (by rw [← e2]; exact he1)
  rw [if_neg hj]; exact he1
 have hlow : ∀ j e1, E j = some e1 → e1.b < w.heap.size := fun j e1 he1 => by
  obtain ⟨_, b1, _, hb⟩ := h.ent j e1 he1
  obtain ⟨_, _, _, cs, fr, q, _⟩ := hb
  exact (Array.getElem?_eq_some_iff.1 q).1
 have hnext := h.next hc hi ho hun hall (v' := v') (w' := w') (E' := fun j => if j = (c.Ns i).length then some e else E j) hEE (h.below.trans (h6.mono h.below.size)) (fun j e1 he1 => by
   by_cases hj : j = (c.Ns i).length
   ·simp only [hj, if_true] at he1
    cases he1
    exact ⟨Nat.le_trans h.below.size hfresh, b, by rw [hj]; exact hN, hblk⟩
   ·simp only [hj, if_false] at he1
    obtain ⟨k1, b1, k2, k3⟩ := h.ent j e1 he1
    exact ⟨k1, b1, k2, k3.below h6⟩)
  (fun j j' e1 e2 hne h1 h2 => by
   by_cases hj : j = (c.Ns i).length
   ·by_cases hj' : j' = (c.Ns i).length
    ·omega
    ·simp only [hj, if_true] at h1
     simp only [hj', if_false] at h2
     cases h1
     have := hlow j' e2 h2
     omega
   ·simp only [hj, if_false] at h1
    by_cases hj' : j' = (c.Ns i).length
    ·simp only [hj', if_true] at h2
     cases h2
     have := hlow j e1 h1
     omega
    ·simp only [hj', if_false] at h2
     exact h.dist j j' e1 e2 hne h1 h2)
  (fun _ => by simp) (fun j e1 he1 => by
   by_cases hj : j = (c.Ns i).length
   ·exact .inr ⟨by rw [hn]; rfl, hj.symm⟩
   ·simp only [hj, if_false] at he1
    exact .inl he1)
  (htr _ (by simp))
 exact ⟨_, hnext⟩
theorem plan_args (hc : c.Ok) (h : PInv c listed a w E) {i : Nat} {o : Oper} {β : Fm} {xs : Array Operand} (hxs : ∀ x ∈ xs, x ∈ o.op.operands) (hpre : c.Ns i ++ (c.nb i).toList <+: endN c.nb c.hs [])
  (hlk : ∀ t ∈ o.looksAt c.ops, t < c.n → V c.m (β t) (a.tmps.getD t undef) ∨ ∃ j ∈ c.hs, ∃ oj, c.ops[j]? = some oj ∧ newOp c.nd oj = true ∧ oj.dst = some t ∧ listed.getD j false = true ∧ VN c.H.length E (β t) (a.tmps.getD t undef))
  (hokx : ∀ x ∈ o.op.operands, okOpd c.n c.γ x = true) (hmem : ∀ t, Operand.tmp t ∈ o.op.operands → t ∈ o.looksAt c.ops) :
  ∃ (L : AH) (mL : List Ent), Rel (c.H ++ L).length w.heap.size c.γ (c.m ++ mL) (c.H ++ L) w ∧ (∀ x ∈ xs, V (c.m ++ mL) (β.eval c.γ x) (a.eval x)) ∧ (∀ x ∈ (xs.map (β.eval c.γ)).toList, Shown c.H.length (c.Ns i) L x) ∧ (∀ j e, E j = some e → (c.m ++ mL)[c.H.length + j]? = some e) := by
 have hlow : ∀ j e1, E j = some e1 → e1.b < w.heap.size := fun j e1 he1 => by
  obtain ⟨_, b1, _, hb⟩ := h.ent j e1 he1
  obtain ⟨_, _, _, cs, fr, q, _⟩ := hb
  exact (Array.getElem?_eq_some_iff.1 q).1
 obtain ⟨N, hN⟩ : ∃ N, N = endN c.nb c.hs [] := ⟨_, rfl⟩
 obtain ⟨L, mL, hl, hin, hcL, hLE⟩ : ∃ (L : AH) (mL : List Ent), mL.length = L.length ∧ (∀ (j : Nat) (e : Ent), mL[j]? = some e → e.b < w.heap.size) ∧ (∀ (j : Nat) (b : Blk) (e : Ent), L[j]? = some (some b) → mL[j]? = some e → BlkOk w e b) ∧
   (∀ (j : Nat) (e : Ent) (b : Blk), E j = some e → N[j]? = some b → mL[j]? = some e ∧ L[j]? = some (some b)) := by
  by_cases hex : ∃ j e, E j = some e
  ·obtain ⟨j0, e0, h0⟩ := hex
   refine ⟨(List.range N.length).map fun j => (E j).bind fun _ => N[j]?, (List.range N.length).map fun j => (E j).getD e0, by simp, fun j e he => ?_, fun j b e hL he => ?_, fun j e b he hb => ?_⟩
   ·rw [List.getElem?_map] at he
    cases hq : (List.range N.length)[j]? with
    | none => rw [hq] at he; cases he
    | some q =>
     rw [hq] at he
     simp only [Option.map_some, Option.some.injEq] at he
     cases hE : E q with
     | none => rw [hE] at he; rw [← he]; exact hlow j0 e0 h0
     | some e1 => rw [hE] at he; rw [← he]; exact hlow q e1 hE
   ·rw [List.getElem?_map] at he hL
    cases hq : (List.range N.length)[j]? with
    | none => rw [hq] at he; cases he
    | some q =>
     rw [hq] at he hL
     simp only [Option.map_some, Option.some.injEq] at he hL
     cases hE : E q with
     | none => rw [hE] at hL; cases hL
     | some e1 =>
      rw [hE] at he hL
      simp only [Option.bind_some] at hL
      obtain ⟨_, b1, k2, k3⟩ := h.ent q e1 hE
      rw [← hN, hL] at k2
      cases k2
      rw [← he]; exact k3
   ·have hj : j < N.length := (List.getElem?_eq_some_iff.1 hb).1
    have hrng : (List.range N.length)[j]? = some j := by simp [hj]
    exact ⟨by rw [List.getElem?_map, hrng]; simp [he], by rw [List.getElem?_map, hrng]; simp only [Option.map_some, he, Option.bind_some, hb]⟩
  ·exact ⟨[], [], rfl, fun j e he => by simp at he, fun j b e hb => by simp at hb, fun j e b he => absurd ⟨j, e, he⟩ hex⟩
 have hR := (hc.rel.below h.below).news hl hin hcL
 have hmE : ∀ j e, E j = some e → (c.m ++ mL)[c.H.length + j]? = some e := fun j e he => by
  obtain ⟨_, b, hb, _⟩ := h.ent j e he
  rw [← hc.rel.len, List.getElem?_append_right (Nat.le_add_right _ _), Nat.add_sub_cancel_left]
  exact (hLE j e b he (by rw [hN]; exact hb)).1
 have hargs : ∀ x ∈ xs, V (c.m ++ mL) (β.eval c.γ x) (a.eval x) := fun x hx => eval_ev hR (hokx x (hxs x hx)) fun t ht htn => by
  subst ht
  rcases hlk t (hmem t (hxs _ hx)) htn with h1 | ⟨j, hj, oj, hoj, ha, hdj, _, h4⟩
  ·exact h1.mono (List.prefix_append _ _)
  ·exact h4.v hmE fun j e he => (h.ent j e he).2.choose_spec.2.1
 have hshown : ∀ x ∈ (xs.map (β.eval c.γ)).toList, Shown c.H.length (c.Ns i) L x := by
  intro x hx
  simp only [Array.toList_map, List.mem_map] at hx
  obtain ⟨q, hq, rfl⟩ := hx
  have hq : q ∈ xs := by simpa using hq
  have hokq := hokx q (hxs q hq)
  cases q with
  | tmp t =>
   have htn : t < c.n := by simpa [okOpd] using hokq
   rcases hlk t (hmem t (hxs _ hq)) htn with h1 | ⟨j, hj, oj, hoj, ha, hdj, _, h4⟩
   ·exact Shown.of_V hc.rel.len h1
   ·obtain ⟨j1, e1, he1, hcase⟩ := h4
    have hb : ∀ j b, c.H.length + j1 = c.H.length + j → (c.Ns i)[j]? = some b → hget L j = some b := by
     intro j b hjj hb
     obtain rfl : j1 = j := by omega
     have hNb : N[j1]? = some b := by
      rw [hN]
      obtain ⟨t2, ht2⟩ := hpre
      rw [← ht2, List.append_assoc, List.getElem?_append_left (List.getElem?_eq_some_iff.1 hb).1]
      exact hb
     have := (hLE j1 e1 b he1 hNb).2
     unfold hget
     rw [this]; rfl
    have heval : β.eval c.γ (.tmp t) = β t := rfl
    rw [heval]
    rcases hcase with ⟨hv1, _⟩ | ⟨l1, c1, hv1, _⟩ | ⟨l1, c1, hv1, _⟩
    ·rw [hv1]; exact hb
    ·rw [hv1]; exact hb
    ·rw [hv1]; trivial
  | const v => exact Shown.of_V hc.rel.len (plainV_mk (m := c.m) hokq)
  | global g => exact Shown.of_V hc.rel.len (eval_ev (x := .global g) (a := a) (α := β) hc.rel hokq (fun t ht => by cases ht))
  | func f => trivial
 exact ⟨L, mL, hR, hargs, hshown, hmE⟩
theorem plan_step (hc : c.Ok) (h : PInv c listed a w E) {i : Nat} (hi : i ∈ c.hs) (hr : i ∈ Region.ready .any c.ops listed) {K : Act → World → Prop} {Q' : Exit → Act → World → Prop}
  (hK : ∀ a' w' E', PInv c (listed.setIfInBounds i true) a' w' E' → K a' w') : wpOp c.P c.ops Q' i K a w := by
 obtain ⟨hun, o, ho, hall⟩ := mem_ready.1 hr
 obtain ⟨o', β, ho', hst, hpre, hb1, hb2⟩ := Planned.at c.hs c.α [] hc.sorted hc.plan i hi
 obtain rfl : o = o' := Option.some.inj (ho.symm.trans ho')
 have hlk := h.looks hc hi ho hun hall hb1 hb2
 have hokx : ∀ x ∈ o.op.operands, okOpd c.n c.γ x = true := fun x hx => by
  obtain ⟨q, hq, rfl⟩ := Array.mem_iff_getElem.1 hx
  exact (Array.all_eq_true.1 (hc.ok i o ho)) q hq
 have hold : oldB c.nd c.ops c.hs o = true := by
  have k1 := hc.head i hi
  unfold opOkB at k1
  rw [ho] at k1
  simp only [Bool.and_eq_true] at k1
  exact k1.1.2
 have hmem : ∀ t, Operand.tmp t ∈ o.op.operands → t ∈ o.looksAt c.ops := fun t ht => List.mem_append_left _ (List.mem_filterMap.2 ⟨.tmp t, by simpa using ht, rfl⟩)
 have hg : ∀ d ∈ guardT c.ops o, d < c.n → V c.m (β d) (a.tmps.getD d undef) := by
  intro d hd hn
  rcases hlk d (guard_looks hd) hn with h1 | ⟨j, hj, oj, hoj, ha, hdj, _, _⟩
  ·exact h1
  ·refine absurd ?_ (oldB_spec hold hj hoj ha hdj)
   split
   ·exact hd
   ·exact guard_looks hd
 have hev : isCallF o.op = false → lookF o.op = false → ∀ x ∈ o.op.operands, V c.m (β.eval c.γ x) (a.eval x) := fun hcf hlf x hx => eval_ev hc.rel (hokx x hx) fun t ht htn => by
  subst ht
  rcases hlk t (hmem t hx) htn with h1 | ⟨j, hj, oj, hoj, ha, hdj, _, _⟩
  ·exact h1
  ·refine absurd ?_ (oldB_spec hold hj hoj ha hdj)
   rw [hcf, hlf]
   exact hmem t hx
 unfold wpOp
 simp only [ho]
 rcases hst with ⟨hw, hv, hn⟩ | ⟨hw, hcf, hlf, hx, hn⟩ | ⟨hw, ha, v0, H', b, hx, hgt, hpl, hv, hn⟩ | ⟨hw, hcf, ⟨f, args, hca, hcal, hpl, hac⟩, hn⟩ | ⟨hw, hcf, hnd, f, args, b, len, hca, hcal, hplb, hac, hv, hn⟩ | ⟨hw, hcf, hnd, f, args, hca, hcal, hvm, hsl, hac, hn⟩ | ⟨hw, hcf, hlf, hpl, hx, hn⟩ | ⟨hw, hcf, hlf, ⟨f, args, hca, hcal, hpl, hac⟩, hn⟩
 ·rw [wantedA_ev h.size hg hw]
  simp only [Bool.false_eq_true, if_false]
  exact hK _ _ E (h.next hc hi ho hun hall (fun _ _ h => h) h.below h.ent h.dist (by rw [hn]; simp) (fun j e he => .inl he) (fun t _ _ => .inl (by rw [hv]; exact plainV_mk plainV_undef)))
 ·rw [wantedA_ev h.size hg hw]
  simp only [if_true]
  refine .inl ?_
  have hevx : ∀ x ∈ o.op.operands, V c.m (β.eval c.γ x) (a.eval x) := by
   rcases hlf with hlf | hlf
   ·exact hev hcf hlf
   ·intro x hxm
    refine eval_ev hc.rel (hokx x hxm) fun t ht htn => ?_
    subst ht
    rcases hlk t (hmem t hxm) htn with h1 | ⟨j, hj, oj, hoj, ha, hdj, _, j1, e1, he1, hcase⟩
    ·exact h1
    ·exfalso
     obtain ⟨dst, op, type, pos, after, guard⟩ := o
     simp only at hlf hx hxm
     unfold isLoadF at hlf
     split at hlf
     ·rename_i tt y
      simp only [Op.operands] at hxm
      have hy : y = .tmp t := by
       have h9 := hxm
       simp at h9
       exact h9.symm
      subst hy
      have hx' : xload c.P tt (β t) c.H = some (c.val i) := hx
      rcases hcase with ⟨hv1, _⟩ | ⟨l1, c1, hv1, _⟩ | ⟨l1, c1, hv1, _⟩
      ·rw [hv1] at hx'
       have := xload_new hx'
       omega
      ·rw [hv1] at hx'
       simp [xload] at hx'
      ·rw [hv1] at hx'
       simp [xload] at hx'
     ·rename_i tt y z okk
      simp only [Op.operands] at hxm
      have hyz : y = .tmp t ∨ z = .tmp t := by
       have h9 := hxm
       simp at h9
       rcases h9 with h9 | h9
       ·exact .inl h9.symm
       ·exact .inr h9.symm
      have hx' : xlookup c.P tt (β.eval c.γ y) (β.eval c.γ z) okk c.H = some (c.val i) := hx
      obtain ⟨⟨q, hq⟩, hz⟩ := xlookup_shape hx'
      rcases hyz with rfl | rfl
      ·have hq : β t = _ := hq
       rcases hcase with ⟨hv1, _⟩ | ⟨l1, c1, hv1, _⟩ | ⟨l1, c1, hv1, _⟩
       ·rw [hv1] at hq; cases hq
       ·rw [hv1] at hq; cases hq
       ·rw [hv1] at hq; cases hq
      ·have hz : plain2 (β t) = true := hz
       rcases hcase with ⟨hv1, _⟩ | ⟨l1, c1, hv1, _⟩ | ⟨l1, c1, hv1, _⟩
       ·rw [hv1] at hz; cases hz
       ·rw [hv1] at hz; cases hz
       ·rw [hv1] at hz; cases hz
     ·cases hlf
  obtain ⟨v', h1, h2⟩ := xread_ev hc.rel hevx hx
  unfold Oper.wp
  rw [h2 w h.below]
  exact hK _ _ E (h.next hc hi ho hun hall (fun _ _ h => h) h.below h.ent h.dist (by rw [hn]; simp) (fun j e he => .inl he) (fun t _ _ => .inl h1))
 ·rw [wantedA_ev h.size hg hw]
  simp only [if_true]
  refine .inl ?_
  have hR := (hc.rel.below h.below).freeze
  obtain ⟨⟨b', hb'⟩, hform, hnro⟩ := xeff_alloc ha hx
  obtain ⟨m', x, w', v', h1, h2, h3, h4, h5, h6⟩ := xeff_ev hR (hev (alloc_notCall ha) (alloc_notLook ha)) (hnro c.H.length)
  have hbb : b' = b := by
   rw [hb', hget_app0, hget_cons0] at hgt
   exact Option.some.inj hgt
  rw [hb', hbb] at h5
  have hml : m'.length = c.H.length + 1 := by have := h5.len; simpa using this
  obtain ⟨e, he⟩ : ∃ e, m'[c.H.length]? = some e := ⟨_, List.getElem?_eq_getElem (by omega)⟩
  obtain ⟨hfresh, heo⟩ := h5.own c.H.length e (Nat.le_refl _) he
  obtain ⟨cs, fr, g1, g2, g3, g4, g5⟩ := h5.cells c.H.length b e (by simp) (plainB_e hpl) he
  have hblk : BlkOk w' e b := ⟨heo, g3, ⟨plainB_e hpl, plainB_c hpl⟩, cs, fr, g1, g2 (Nat.le_refl _), (g4 (Nat.le_refl _)).1, (g4 (Nat.le_refl _)).2, fun j x hx => by
   obtain ⟨y, p, q⟩ := g5 j x hx
   rw [heo, Nat.zero_add] at p
   rw [p, q.eq (List.all_eq_true.1 (plainB_c hpl) x (List.mem_of_getElem? hx))]⟩
  have hVN : ∀ E' : Nat → Option Ent, E' (c.Ns i).length = some e → VN c.H.length E' (c.val i) v' := by
   intro E' hE'
   refine ⟨(c.Ns i).length, e, hE', ?_⟩
   rw [hv]
   rcases hform with rfl | ⟨len, rfl⟩ | ⟨len, cc, rfl⟩
   ·obtain ⟨e2, he2, rfl⟩ := h4.ptr_
    rw [he] at he2
    cases he2
    exact .inl ⟨rfl, by rw [heo]⟩
   ·obtain ⟨e2, c', _, he2, hl, hs, rfl⟩ := h4.sl_
    rw [he] at he2
    cases he2
    exact .inr (.inl ⟨len, c', rfl, by rw [heo], hl, fun s hs' => hs rfl s hs'⟩)
   ·obtain ⟨e2, he2, hl, rfl⟩ := h4.slx_
    rw [he] at he2
    cases he2
    exact .inr (.inr ⟨len, cc, rfl, by rw [heo], hl⟩)
  obtain ⟨E', hnext⟩ := h.grow hc hi ho hun hall hpre hn hfresh hblk h6 (fun E' hE' t _ _ => .inr ⟨by unfold newOp; rw [ha]; rfl, hVN E' hE'⟩)
  unfold Oper.wp
  rw [h1]
  rcases h2 with rfl | ⟨rfl, rfl⟩
  ·exact hK _ _ _ hnext
  ·exact hK _ _ _ hnext
 ·rw [wantedA_ev h.size hg hw]
  simp only [if_true]
  refine .inl ?_
  obtain ⟨xs, ts, hop, rfl⟩ := callee_ops hca
  obtain ⟨L, mL, hR, hargs, hshown, _⟩ := plan_args hc h (xs := xs) (fun x hx => by rw [hop]; simp [Op.operands, Call.operands, hx]) hpre hlk hokx hmem
  have h2 := hac L hshown
  have hfin : ∀ w'', Below w.heap.size w w'' → K (a.put o.dst (c.val i)) w'' := fun w'' hb =>
   hK _ _ E (h.next hc hi ho hun hall (fun _ _ h => h) (h.below.trans (hb.mono h.below.size)) (fun j e he => let ⟨k1, b, k2, k3⟩ := h.ent j e he; ⟨k1, b, k2, k3.below hb⟩) h.dist (by rw [hn]; simp) (fun j e he => .inl he) (fun t _ _ => .inl (plainV_mk hpl)))
  unfold Oper.wp
  rcases h2 (c.m ++ mL) w.heap.size w (xs.map a.eval) hR (by simp) (fun q x hx => by
   rw [Array.getElem?_map] at hx ⊢
   cases hq : xs[q]? with
   | none => rw [hq] at hx; cases hx
   | some y =>
    rw [hq] at hx
    cases hx
    exact ⟨_, rfl, hargs y (Array.mem_of_getElem? hq)⟩) with ⟨hbd, hac'⟩ | ⟨v1, hrun, m', v2, v', H', he, _, hv, _, hb', rfl⟩
  ·rw [call_run hop hcal hbd, Oper.upon_enter]
   refine hac'.mono ?_
   rintro e w'' ⟨m', v2, v', H', rfl, _, hv, _, hb', rfl⟩
   show K (a.put o.dst v') w''
   rw [hv.eq hpl]
   exact hfin _ hb'
  ·cases he
   rw [call_runV hop hrun, hv.eq hpl, Oper.upon_value]
   exact hfin _ hb'
 ·rw [wantedA_ev h.size hg hw]
  simp only [if_true]
  refine .inl ?_
  obtain ⟨xs, ts, hop, rfl⟩ := callee_ops hca
  obtain ⟨L, mL, hR, hargs, hshown, _⟩ := plan_args hc h (xs := xs) (fun x hx => by rw [hop]; simp [Op.operands, Call.operands, hx]) hpre hlk hokx hmem
  have h2 := hac L hshown
  have hfin : ∀ w'' m' v' H', Rel (c.H ++ L).length w.heap.size c.γ m' H' w'' → Below w.heap.size w w'' → (∃ v2, V m' v2 v' ∧ Fresh (c.H ++ L).length b len v2 H') → K (a.put o.dst v') w'' := by
   rintro w'' m' v' H' hR' hb ⟨v2, hv2, j0, hj0, rfl, hgt⟩
   have hj0' : j0 < m'.length := by rw [hR'.len]; exact (List.getElem?_eq_some_iff.1 (hget_some hgt)).1
   obtain ⟨e, he⟩ : ∃ e, m'[j0]? = some e := ⟨_, List.getElem?_eq_getElem hj0'⟩
   obtain ⟨hfresh, heo⟩ := hR'.own j0 e hj0 he
   obtain ⟨cs, fr, g1, g2, g3, g4, g5⟩ := hR'.cells j0 b e (hget_some hgt) (plainB_e hplb) he
   have hblk : BlkOk w'' e b := ⟨heo, g3, ⟨plainB_e hplb, plainB_c hplb⟩, cs, fr, g1, g2 hj0, (g4 hj0).1, (g4 hj0).2, fun j x hx => by
    obtain ⟨y, p, q⟩ := g5 j x hx
    rw [heo, Nat.zero_add] at p
    rw [p, q.eq (List.all_eq_true.1 (plainB_c hplb) x (List.mem_of_getElem? hx))]⟩
   obtain ⟨e2, c', _, he2, hl, hs, rfl⟩ := hv2.sl_
   rw [he] at he2
   cases he2
   have hVN : ∀ E' : Nat → Option Ent, E' (c.Ns i).length = some e → VN c.H.length E' (c.val i) (.slice (some ⟨e.b, e.o + 0, none⟩) len c') := fun E' hE' =>
    ⟨(c.Ns i).length, e, hE', .inr (.inl ⟨len, c', hv, by rw [heo], hl, fun s hs' => hs rfl s hs'⟩)⟩
   obtain ⟨E', hnext⟩ := h.grow hc hi ho hun hall hpre hn hfresh hblk hb (fun E' hE' t _ _ => .inr ⟨by unfold newOp; rw [hnd, hcf]; simp, hVN E' hE'⟩)
   exact hK _ _ _ hnext
  unfold Oper.wp
  rcases h2 (c.m ++ mL) w.heap.size w (xs.map a.eval) hR (by simp) (fun q x hx => by
   rw [Array.getElem?_map] at hx ⊢
   cases hq : xs[q]? with
   | none => rw [hq] at hx; cases hx
   | some y =>
    rw [hq] at hx
    cases hx
    exact ⟨_, rfl, hargs y (Array.mem_of_getElem? hq)⟩) with ⟨hbd, hac'⟩ | ⟨v1, hrun, m', v2, v', H', he, _, hv2, hR2, hb', hq⟩
  ·rw [call_run hop hcal hbd, Oper.upon_enter]
   refine hac'.mono ?_
   rintro e w'' ⟨m', v2, v', H', rfl, _, hv2, hR2, hb', hq⟩
   exact hfin w'' m' v' H' hR2 hb' ⟨v2, hv2, hq⟩
  ·cases he
   rw [call_runV hop hrun, Oper.upon_value]
   exact hfin w m' v1 H' hR2 (.refl _ _) ⟨v2, hv2, hq⟩
 ·rw [wantedA_ev h.size hg hw]
  simp only [if_true]
  refine .inl ?_
  obtain ⟨xs, ts, hop, rfl⟩ := callee_ops hca
  obtain ⟨L, mL, hR, hargs, hshown, hmE⟩ := plan_args hc h (xs := xs) (fun x hx => by rw [hop]; simp [Op.operands, Call.operands, hx]) hpre hlk hokx hmem
  have hxs : ∀ x ∈ xs, x ∈ o.op.operands := fun x hx => by
   rw [hop]; simp [Op.operands, Call.operands, hx]
  have h2 := hac L hshown
  have hEq : ∀ j e1 e, E j = some e1 → (c.m ++ mL)[c.H.length + j]? = some e → e1 = e := fun j e1 e h1 h2 => by rw [hmE j e1 h1] at h2; exact Option.some.inj h2
  have hEm : ∀ j e, E j = some e → e.o = 0 := fun j e he => (h.ent j e he).2.choose_spec.2.1
  have hfin : ∀ w'' m' v', c.m ++ mL <+: m' → Below w.heap.size w w'' → V m' (c.val i) v' → K (a.put o.dst v') w'' := by
   intro w'' m' v' hm' hb hv'
   obtain ⟨i0, l, hval⟩ : ∃ i0 l, c.val i = .slice (some ⟨i0, 0, none⟩) l l := by
    unfold isSl at hsl
    split at hsl
    ·rename_i i0 l c0 he
     have : l = c0 := by simpa using hsl
     subst this
     exact ⟨i0, l, he⟩
    ·cases hsl
   have htr : V c.m (c.val i) v' ∨ (newOp c.nd o = true ∧ VN c.H.length E (c.val i) v') := by
    rw [hval] at hv' hvm ⊢
    obtain ⟨e, c', _, he, hl, hs, rfl⟩ := hv'.sl_
    rcases Nat.lt_or_ge i0 c.m.length with hi0 | hi0
    ·left
     have hme : c.m[i0]? = some e := by
      have h3 := pre_get ((List.prefix_append c.m mL).trans hm') (List.getElem?_eq_getElem hi0)
      rw [he] at h3
      cases h3
      exact List.getElem?_eq_getElem hi0
     exact .one (.sl hme hl hs)
    ·right
     refine ⟨by unfold newOp; rw [hnd, hcf]; simp, ?_⟩
     simp only [Array.toList_map, List.mem_map] at hvm
     obtain ⟨q, hq, hqe⟩ := hvm
     have hq : q ∈ xs := by simpa using hq
     have hokq := hokx q (hxs q hq)
     cases q with
     | tmp t =>
      have htn : t < c.n := by simpa [okOpd] using hokq
      have heval : β.eval c.γ (.tmp t) = β t := rfl
      rw [heval] at hqe
      rcases hlk t (hmem t (hxs _ hq)) htn with h1 | ⟨j, hj, oj, hoj, ha, hdj, _, h4⟩
      ·rw [hqe] at h1
       obtain ⟨e2, _, _, he2, _⟩ := h1.sl_
       have := (List.getElem?_eq_some_iff.1 he2).1
       omega
      ·have hva := hargs _ hq
       obtain ⟨j1, e1, he1, ⟨hv1, _⟩ | ⟨l1, c1, hv1, _⟩ | ⟨l1, c1, hv1, _⟩⟩ := h4
       ·rw [hqe] at hv1; cases hv1
       rotate_left
       ·rw [hqe] at hv1; cases hv1
       ·rw [hqe] at hv1
        cases hv1
        have hv2 : V (c.m ++ mL) (β t) (a.tmps.getD t undef) := hva
        rw [hqe] at hv2
        obtain ⟨e2, c2, _, he2, _, _, hy2⟩ := hv2.sl_
        have h5 := pre_get hm' he2
        rw [he] at h5
        cases h5
        have hee : e1 = e := hEq j1 e1 e he1 he2
        subst hee
        exact ⟨j1, e1, he1, .inr (.inl ⟨l, c', rfl, by rw [hEm j1 e1 he1], hl, fun s hs' => hs rfl s hs'⟩)⟩
     | const v =>
      have hpv : plainV v = true := hokq
      have : v = .slice (some ⟨i0, 0, none⟩) l l := hqe
      rw [this] at hpv; cases hpv
     | global g =>
      have h1 := eval_ev (x := .global g) (a := a) (α := β) hc.rel hokq (fun t ht => by cases ht)
      rw [hqe] at h1
      obtain ⟨e2, _, _, he2, _⟩ := h1.sl_
      have := (List.getElem?_eq_some_iff.1 he2).1
      omega
     | func f => cases hqe
   exact hK _ _ E (h.next hc hi ho hun hall (fun _ _ h => h) (h.below.trans (hb.mono h.below.size)) (fun j e he => let ⟨k1, b, k2, k3⟩ := h.ent j e he; ⟨k1, b, k2, k3.below hb⟩) h.dist (by rw [hn]; simp) (fun j e he => .inl he) (fun t _ _ => htr))
  unfold Oper.wp
  rcases h2 (c.m ++ mL) w.heap.size w (xs.map a.eval) hR (by simp) (fun q x hx => by
   rw [Array.getElem?_map] at hx ⊢
   cases hq : xs[q]? with
   | none => rw [hq] at hx; cases hx
   | some y =>
    rw [hq] at hx
    cases hx
    exact ⟨_, rfl, hargs y (Array.mem_of_getElem? hq)⟩) with ⟨hbd, hac'⟩ | ⟨v1, hrun, m', v2, v', H', he, hm', hv2, hR2, hb', rfl⟩
  ·rw [call_run hop hcal hbd, Oper.upon_enter]
   refine hac'.mono ?_
   rintro e w'' ⟨m', v2, v', H', rfl, hm', hv2, hR2, hb', rfl⟩
   exact hfin w'' m' v' hm' hb' hv2
  ·cases he
   rw [call_runV hop hrun, Oper.upon_value]
   exact hfin w m' v1 hm' (.refl _ _) hv2
 ·rw [wantedA_ev h.size hg hw]
  simp only [if_true]
  refine .inl ?_
  obtain ⟨L, mL, hR, hargs, hshown, _⟩ := plan_args hc h (xs := o.op.operands) (fun x hx => hx) hpre hlk hokx hmem
  have hx2 := hx L (fun x hxm => hshown _ (by simp only [Array.toList_map, List.mem_map]; exact ⟨x, by simpa using hxm, rfl⟩))
  obtain ⟨v', h1, h2⟩ := xread_ev hR hargs hx2
  unfold Oper.wp
  rw [h2 w (.refl _ _)]
  rw [h1.eq hpl]
  exact hK _ _ E (h.next hc hi ho hun hall (fun _ _ h => h) h.below h.ent h.dist (by rw [hn]; simp) (fun j e he => .inl he) (fun t _ _ => .inl (plainV_mk hpl)))
 ·rw [wantedA_ev h.size hg hw]
  simp only [if_true]
  refine .inl ?_
  obtain ⟨args', k1, k2, k3, k4⟩ := calleeX_ev (P := c.P) (w := w) (hev hcf hlf) hca
  have hR := (hc.rel.below h.below).freeze
  have hfin : ∀ w'', Below w.heap.size w w'' → K (a.put o.dst (c.val i)) w'' := fun w'' hb =>
   hK _ _ E (h.next hc hi ho hun hall (fun _ _ h => h) (h.below.trans (hb.mono h.below.size)) (fun j e he => let ⟨k1, b, k2, k3⟩ := h.ent j e he; ⟨k1, b, k2, k3.below hb⟩) h.dist (by rw [hn]; simp) (fun j e he => .inl he) (fun t _ _ => .inl (plainV_mk hpl)))
  unfold Oper.wp
  rcases hac c.m w.heap.size w args' hR k1 k2 with ⟨hbd, hac'⟩ | ⟨v1, hrun, m', v2, v', H', he, _, hv, _, hb', rfl⟩
  ·rw [k3 hcal hbd, Oper.upon_enter]
   refine hac'.mono ?_
   rintro e w'' ⟨m', v2, v', H', rfl, _, hv, _, hb', rfl⟩
   show K (a.put o.dst v') w''
   rw [hv.eq hpl]
   exact hfin _ hb'
  ·cases he
   rw [k4 v1 hrun, hv.eq hpl, Oper.upon_value]
   exact hfin _ hb'
theorem plan_run (hc : c.Ok) {Q' : Exit → Act → World → Prop} {g : Nat} (hready : (Region.ready .any c.ops (setAll c.hs c.listed0)).all (fun j => c.hs.all fun i => waitsT c.ops c.ops.size j i) = true)
  (hend : ∀ a w m', c.m <+: m' → Rel c.nro c.base c.γ m' (c.H ++ (endN c.nb c.hs []).map some) w → FR c.n m' (endF c.ops c.val c.hs c.α) a → Below c.w0.heap.size c.w0 w → wpAny c.P .any c.ops Q' g (setAll c.hs c.listed0) a w) :
  ∀ (f : Nat) (listed : Array Bool) (a : Act) (w : World) (E : Nat → Option Ent), PInv c listed a w E → (c.hs.filter fun i => !listed.getD i false).length = f → wpAny c.P .any c.ops Q' (f + g) listed a w := by
 have hnd : c.hs.Nodup := hc.sorted.imp (fun h => Nat.ne_of_lt h)
 intro f
 induction f with
 | zero =>
  intro listed a w E h hf
  have hdone : ∀ i ∈ c.hs, listed.getD i false = true := by
   intro i hi
   have h0 := List.eq_nil_of_length_eq_zero hf
   cases hq : listed.getD i false with
   | true => rfl
   | false =>
    have : i ∈ c.hs.filter fun i => !listed.getD i false := List.mem_filter.2 ⟨hi, by rw [hq]; rfl⟩
    rw [h0] at this; cases this
  have hsz : (setAll c.hs c.listed0).size = listed.size := by rw [setAll_size, hc.size0, h.lsz]
  have heq : listed = setAll c.hs c.listed0 := by
   apply Array.ext hsz.symm
   intro x h1 h2
   have k1 := setAll_get c.hs c.listed0 x (by rw [hc.size0, ← h.lsz]; exact h1)
   have e1 : listed.getD x false = listed[x] := by simp [h1]
   have e2 : (setAll c.hs c.listed0).getD x false = (setAll c.hs c.listed0)[x] := by simp [h2]
   rw [← e1, ← e2]
   cases hq : (setAll c.hs c.listed0).getD x false with
   | true =>
    rcases k1.1 hq with k | k
    ·exact h.sub x k
    ·exact hdone x k
   | false =>
    cases hq2 : listed.getD x false with
    | false => rfl
    | true =>
     have := k1.2 (h.only x hq2)
     rw [hq] at this; cases this
  obtain ⟨m', g1, g2, g3⟩ := h.finish hc hdone
  rw [Nat.zero_add, heq]
  exact hend a w m' g1 g2 g3 h.below
 | succ f ih =>
  intro listed a w E h hf
  have hex : ∃ i, i ∈ c.hs ∧ listed.getD i false = false := by
   rcases hq : c.hs.filter fun i => !listed.getD i false with _ | ⟨i, l⟩
   ·rw [hq] at hf; cases hf
   ·have : i ∈ c.hs.filter fun i => !listed.getD i false := by rw [hq]; simp
    rw [List.mem_filter] at this
    exact ⟨i, this.1, by simpa using this.2⟩
  obtain ⟨i0, ⟨hi0, hl0⟩, hmin⟩ := least hex
  have hlt0 : i0 < listed.size := by
   have k1 := hc.head i0 hi0
   unfold opOkB at k1
   split at k1
   ·rename_i o ho
    rw [h.lsz]; exact (Array.getElem?_eq_some_iff.1 ho).1
   ·cases k1
  have hr0 : i0 ∈ Region.ready .any c.ops listed := by
   rw [mem_ready]
   have k1 := hc.head i0 hi0
   unfold opOkB at k1
   split at k1
   case h_2 => cases k1
   rename_i o ho
   simp only [Bool.and_eq_true] at k1
   refine ⟨getD_in hlt0 hl0, o, ho, fun e he hb => ?_⟩
   have k2 := Array.all_eq_true_iff_forall_mem.1 k1.2 e he
   rw [hb] at k2
   simp only [Bool.not_true, Bool.false_or, Bool.or_eq_true, Bool.and_eq_true, decide_eq_true_eq, List.contains_iff_mem] at k2
   rcases k2 with k2 | ⟨k2, k3⟩
   ·exact h.sub _ k2
   ·cases hq : listed.getD e.on false with
    | true => rfl
    | false => exact absurd ⟨k2, hq⟩ (hmin _ k3)
  rw [show f + 1 + g = (f + g) + 1 by omega]
  refine ⟨fun h0 => absurd hr0 (by rw [h0]; simp), fun j hj => ?_⟩
  obtain ⟨hjun, oj, hoj, hjall⟩ := mem_ready.1 hj
  by_cases hjh : j ∈ c.hs
  ·refine plan_step hc h hjh hj fun a' w' E' h' => ih _ a' w' E' h' ?_
   have hfe : (c.hs.filter fun i => !(listed.setIfInBounds j true).getD i false) = (c.hs.filter fun i => !listed.getD i false).erase j := by
    rw [(hnd.sublist List.filter_sublist).erase_eq_filter, List.filter_filter]
    apply List.filter_congr
    intro x hx
    by_cases e : j = x
    ·subst e
     have : j < listed.size := by rw [h.lsz]; exact (Array.getElem?_eq_some_iff.1 hoj).1
     rw [getD_set_self this]; simp
    ·rw [getD_set_ne false e]
     simp [Ne.symm e]
   rw [hfe, List.length_erase_of_mem (List.mem_filter.2 ⟨hjh, by rw [getD_both hjun]; rfl⟩), hf]
   rfl
  ·exfalso
   have hjlt : j < c.listed0.size := by rw [hc.size0]; exact (Array.getElem?_eq_some_iff.1 hoj).1
   have hjr : j ∈ Region.ready .any c.ops (setAll c.hs c.listed0) := by
    rw [mem_ready]
    refine ⟨getD_in (by rw [setAll_size]; exact hjlt) ?_, oj, hoj, fun e he hb => ?_⟩
    ·cases hq : (setAll c.hs c.listed0).getD j false with
     | false => rfl
     | true =>
      rcases (setAll_get c.hs c.listed0 j hjlt).1 hq with k | k
      ·have := h.sub j k
       rw [getD_both hjun] at this; cases this
      ·exact absurd k hjh
    ·have k := hjall e he hb
     have hlt : e.on < c.listed0.size := by rw [hc.size0, ← h.lsz]; exact getD_lt k
     exact (setAll_get c.hs c.listed0 e.on hlt).2 (h.only _ k)
   have k1 := List.all_eq_true.1 hready j hjr
   have k2 := List.all_eq_true.1 k1 i0 hi0
   obtain ⟨o2, ho2, e, he, hb, hl⟩ := waitsT_spec h.closed (getD_in hlt0 hl0) _ _ k2
   obtain rfl : oj = o2 := Option.some.inj (hoj.symm.trans ho2)
   rw [hjall e he hb] at hl
   cases hl
end
def pureB (ops : Array Oper) : List Nat → Array Bool → Bool
 | [], _ => true
 | i :: is, listed => (Region.ready .any ops listed).contains i && Region.free .any ops listed i && (match ops[i]? with | some o => pureOp o.op | none => false) && pureB ops is (listed.setIfInBounds i true)
def planB (nd : List Tmp) (ops : Array Oper) (ps hs : List Nat) (k g : Nat) : Bool :=
 Region.noSelect ops && decide (ps.length + (hs.length + g) = ops.size) && decide (k + g = ops.size) && pureB ops ps (Array.replicate ops.size false) && headB nd ops hs k g (setAll ps (Array.replicate ops.size false))
section
variable {P : Program} {nro n base : Nat} {γ : Nat → Option Nat} {m : List Ent} {H : AH} {α : Fm} {a : Act} {w : World} {Q : Exit → Fm → AH → Prop} {ops : Array Oper}
theorem SL.sound_pureB {l : List Oper} (hl : l.toArray = ops) (hok : okL n γ l = true) {Qk : Fm → Prop} {Q' : Exit → Act → World → Prop} (hQ : ∀ c a w, ¬ Q' (.panic c) a w) (hsel : Region.noSelect ops = true)
  (hR : Rel nro base γ m H w) {F : Nat} : ∀ (ps : List Nat) (listed : Array Bool) (α : Fm) (a : Act), (∀ a α, FR n m α a → Qk α → wpAny P .any ops Q' F (setAll ps listed) a w) → pureB ops ps listed = true → FR n m α a → SL P n γ ops Qk H (sel l ps) α → wpAny P .any ops Q' (ps.length + F) listed a w
 | [], listed, α, a, hK, hB, hF, h => by
  simp only [List.length_nil, Nat.zero_add]
  exact hK a α hF h
 | i :: ps, listed, α, a, hK, hB, hF, h => by
  simp only [pureB, Bool.and_eq_true] at hB
  obtain ⟨⟨⟨hr, hf⟩, hp⟩, hB'⟩ := hB
  have hr' : i ∈ Region.ready .any ops listed := by simpa using hr
  obtain ⟨_, oi, hoi, _⟩ := mem_ready.1 hr'
  have hli : l[i]? = some oi := by rw [← hoi, ← hl]; simp
  simp only [hoi] at hp
  have hoki : oi.op.operands.all (okOpd n γ) = true := by
   have := List.all_eq_true.1 hok oi (List.mem_of_getElem? hli)
   exact this
  simp only [sel, hli] at h
  unfold SL at h
  rw [show (i :: ps).length + F = (ps.length + F) + 1 by simp; omega]
  split at h
  ·exact h.elim
  ·rename_i hw
   have hwt := wantedA_spec hF hw
   exact wpAny_take hoi hsel hf hr (fun c a w h => absurd h (hQ c _ w)) (.inr ⟨hwt, rfl⟩) (SL.sound_pureB hl hok hQ hsel hR ps _ _ _ hK hB' (hF.put (plainV_mk plainV_undef)) h)
  ·rename_i hw
   have hwt := wantedA_spec hF hw
   split at h
   ·rename_i v hx
    obtain ⟨v', h1, h2⟩ := xread_all hp hoki hx hR hF
    exact wpAny_take hoi hsel hf hr (fun c a w h => absurd h (hQ c _ w)) (.inl ⟨hwt, h2⟩) (SL.sound_pureB hl hok hQ hsel hR ps _ _ _ hK hB' (hF.put h1) h)
   ·exact h.elim
theorem aw_plan {id : Nat} {l : List Oper} (nd : List Tmp) (ps hs : List Nat) (k g : Nat) (hm : P.follows .mixedOrders = true) (hB : planB nd l.toArray ps hs k g = true) (hok : okL n γ l = true)
  (h : ∀ K : Fm → AH → Prop, (∀ α' H', Q .normal α' H' → K α' H') → SL P n γ l.toArray (fun α1 => PL P nro n γ nd l.toArray (fun α' N => XL P nro n γ l.toArray K (l.drop k) α' (H ++ N.map some)) H (sel l hs) α1 []) H (sel l ps) α) :
  AW P nro n γ (.region id l.toArray true) Q α H := by
 intro m base w a hR hF
 simp only [planB, Bool.and_eq_true, decide_eq_true_eq] at hB
 obtain ⟨⟨⟨⟨hsel, hn1⟩, hn2⟩, hpb⟩, hhb⟩ := hB
 simp only [headB, Bool.and_eq_true, decide_eq_true_eq] at hhb
 obtain ⟨⟨⟨⟨⟨hso, hcl⟩, hsz⟩, hop⟩, hrd⟩, hsq⟩ := hhb
 have hsorted := sortedB_spec hso
 refine wp_region_noPanic (wp_region_any hm ?_)
 have hR' : Rel nro base γ m H { w with drawn := w.drawn + 1 } := hR.drewN 1
 rw [← hn1]
 have hrep : Array.replicate (ps.length + (hs.length + g)) false = Array.replicate l.toArray.size false := by rw [hn1]
 rw [hrep]
 refine SL.sound_pureB rfl hok (fun c a w h => h) hsel hR' ps _ α a (fun a1 α1 hF1 hq => ?_) hpb hF (h _ fun _ _ h => h)
 have hhlt : ∀ i ∈ hs, i < l.length := fun i hi => by
  have k1 := List.all_eq_true.1 hop i hi
  unfold opOkB at k1
  split at k1
  ·rename_i o ho
   simpa using (Array.getElem?_eq_some_iff.1 ho).1
  ·cases k1
 obtain ⟨val, nb, Ns, hpl, hK⟩ := PL.plan rfl hs α1 [] (hsorted.imp (fun h => Nat.ne_of_lt h)) hhlt hq
 let c : PCtx := ⟨P, nro, n, base, γ, nd, m, H, l.toArray, hs, α1, { w with drawn := w.drawn + 1 }, setAll ps (Array.replicate l.toArray.size false), val, nb, Ns⟩
 have hc : c.Ok := ⟨hR', fun i o ho => List.all_eq_true.1 hok o (List.mem_of_getElem? (i := i) (by have h2 : l.toArray[i]? = some o := ho; simpa using h2)), hsel, hsorted, fun i hi => List.all_eq_true.1 hop i hi, hsz, hpl⟩
 have hnot : ∀ i ∈ hs, (setAll ps (Array.replicate l.toArray.size false)).getD i false = false := fun i hi => by
  have k1 := List.all_eq_true.1 hop i hi
  unfold opOkB at k1
  split at k1
  case h_2 => cases k1
  simp only [Bool.and_eq_true, Bool.not_eq_true'] at k1
  exact getD_both k1.1.1.1
 have hinv : PInv c (setAll ps (Array.replicate l.toArray.size false)) a1 { w with drawn := w.drawn + 1 } (fun _ => none) :=
  ⟨hF1.defers, hF1.size, .refl _ _, hsz, fun x h => h, fun x h => .inl h, closedB_spec hcl, fun t ht _ => hF1.val t ht, fun i hi o t ho hl => (by rw [hnot i hi] at hl; cases hl), fun j e h => (by cases h), fun j j' e e' _ h => (by cases h), fun i hi hl => (by rw [hnot i hi] at hl; cases hl), fun j e h => (by cases h)⟩
 have hlen : (hs.filter fun i => !(setAll ps (Array.replicate l.toArray.size false)).getD i false).length = hs.length := by
  rw [List.filter_eq_self.2 fun i hi => by rw [hnot i hi]; rfl]
 refine plan_run hc (g := g) hrd (fun a2 w2 m2 hm2 hR2 hF2 hb2 => ?_) hs.length _ a1 _ _ hinv hlen
 have hdl : (l.drop k).length = g := by
  have : l.toArray.size = l.length := by simp
  simp; omega
 have hseq := wpAny_of_seq (P := P) (md := .any) (ops := l.toArray) (Q' := NoPanic (Con nro n γ m base w Q)) (l.drop k) k (setAll hs (setAll ps (Array.replicate l.toArray.size false))) a2 w2 (fun j => by simp [List.getElem?_drop]) (by rw [hdl]; exact hsq) ?_
 ·rwa [hdl] at hseq
 have := XL.sound (Q := fun e α H => match e with | .panic _ => False | e => Q e α H) _ _ _ (okL_take hok k).2 hK m2 base w2 a2 hR2 hF2
 refine wpList_mono (fun e a w' hc' => ?_) _ _ _ this
 have hc2 := Con.trans (w := w2) hm2 ((Below.drew (.refl base w)).trans (hb2.mono hR'.base_le)) hc'
 cases e with
 | panic c => obtain ⟨_, _, _, _, _, _, _, hf⟩ := hc2; exact hf
 | _ => exact hc2
end
end
section
def gam (gs : List Nat) : Nat → Option Nat := fun g => gs.findIdx? (· == g)
section
variable {P : Program} {nro n base : Nat} {γ : Nat → Option Nat} {m : List Ent} {H : AH} {α : Fm} {a : Act} {w : World} {Q : Value → AH → Prop}
theorem ac_of_rc {f : FuncId} {args : Array Value} {v : Value} (h : AC P H.length γ f args H (fun v' _ => v' = v)) (hv : plainV v = true) (hq : Q v H) : AC P nro γ f args H Q := by
 intro m base w args' hR hsz hva
 refine (h m w.heap.size w args' hR.freeze hsz hva).mono ?_
 rintro e w' ⟨m', v1, v', H', rfl, _, hv', _, hb, rfl⟩
 exact ⟨m, v1, v1, H, by rw [hv'.eq hv], List.prefix_rfl, plainV_mk hv, hR.below hb, hb.mono hR.base_le, hq⟩
end
section
variable {P : Program} {W : World}
theorem rel_ro (L : List (Ent × Blk)) (γ : Nat → Option Nat)
  (h : ∀ x ∈ L, x.1.b < W.heap.size ∧ x.2 = ⟨x.2.cells, x.2.ty, x.1.es⟩ ∧ ∃ cs fr, W.heap[x.1.b]? = some (.cells cs x.2.ty fr) ∧ ∀ (j : Nat) (v : Value), x.2.cells[j]? = some v → ∃ y, cs[x.1.o + j]? = some y ∧ V1 (L.map (·.1)) v y)
  (hg : ∀ (g i : Nat), γ g = some i → ∃ e : Ent, (L.map (·.1))[i]? = some e ∧ e.b = g ∧ e.o = 0)
  (hz : ∀ (g i : Nat) (x : Ent × Blk), γ g = some i → L[i]? = some x → ∀ (cs : Array Value) (ty : TypeId) (fr : Nat × Nat), W.heap[x.1.b]? = some (.cells cs ty fr) → cs.size = x.2.cells.length := by intro _ _ _ h; cases h) :
  Rel L.length W.heap.size γ (L.map (·.1)) (L.map fun x => some x.2) W := by
 have get : ∀ (i : Nat) (e : Ent), (L.map (·.1))[i]? = some e → ∃ x, L[i]? = some x ∧ x ∈ L ∧ e = x.1 := by
  intro i e he
  rw [List.getElem?_map] at he
  cases hx : L[i]? with
  | none => rw [hx] at he; cases he
  | some x => rw [hx] at he; cases he; exact ⟨x, rfl, List.mem_of_getElem? hx, rfl⟩
 refine ⟨by simp, by simp, Nat.le_refl _, fun i e he => ?_, fun i e _ he => ?_, fun i e hi he => ?_, fun i k e l hk hl he => ?_, fun i k e hk _ he => ?_, fun i j ki kj ei ej hi hj _ hki => ?_, fun g i hgi => ?_⟩
 ·obtain ⟨x, _, hx, rfl⟩ := get i e he; exact (h x hx).1
 ·obtain ⟨x, _, hx, rfl⟩ := get i e he; exact (h x hx).1
 ·obtain ⟨x, hx, _, _⟩ := get i e he
  have := (List.getElem?_eq_some_iff.1 hx).1
  omega
 ·obtain ⟨x, hx, hm, rfl⟩ := get i e he
  rw [List.getElem?_map, hx] at hk
  cases hk
  have h2 := (h x hm).2.1
  rw [h2] at hl
  cases hl
 ·obtain ⟨x, hx, hm, rfl⟩ := get i e he
  rw [List.getElem?_map, hx] at hk
  cases hk
  obtain ⟨_, h2, cs, fr, h3, h4⟩ := h x hm
  have h2 : x.1.es = x.2.es := (congrArg Blk.es h2).symm
  have hi := (List.getElem?_eq_some_iff.1 hx).1
  exact ⟨cs, fr, h3, fun hn => by omega, h2, fun hn => by omega, h4⟩
 ·have := (List.getElem?_eq_some_iff.1 hki).1
  simp at this
  omega
 ·obtain ⟨e, h1, h2, h3⟩ := hg g i hgi
  obtain ⟨x, hx, hm, rfl⟩ := get i e h1
  refine ⟨(List.getElem?_eq_some_iff.1 hx).1, _, h1, h2, h3, fun k cs ty fr hk _ hc => ?_⟩
  rw [List.getElem?_map, hx] at hk
  cases hk
  exact hz g i x hgi hx cs ty fr hc
theorem Rel.tab {nro base : Nat} {m : List Ent} {H : AH} {w : World} {γ : Nat → Option Nat} (hR : Rel nro base γ m H w) {name : String} {g i : Nat} {k : IntKind} {zs : List Int} {ty : TypeId} (hn : P.globalNamed name = some g) (hg : γ g = some i) (hk : hget H i = some ⟨iv k zs, ty, none⟩) : Lib.TabIs P w name k zs := by
 obtain ⟨_, e, h1, h2, h3, h4⟩ := hR.glob g i hg
 obtain ⟨cs, fr, a, _, _, _, f⟩ := hR.cells i _ e (hget_some hk) rfl h1
 have hsz := h4 _ cs ty fr (hget_some hk) rfl a
 have e1 : cs = (zs.map fun z => Value.int k z).toArray := by
  apply Array.ext_getElem?
  intro j
  cases hj : (iv k zs)[j]? with
  | some v =>
   obtain ⟨y, hy, hv⟩ := f j v hj
   rw [h3, Nat.zero_add] at hy
   have hj' : ((zs.map fun z => Value.int k z).toArray)[j]? = some v := by simpa [iv] using hj
   rw [hy, hj']
   unfold iv at hj
   rw [List.getElem?_map] at hj
   cases hz : zs[j]? with
   | none => rw [hz] at hj; cases hj
   | some z =>
    rw [hz] at hj
    cases hj
    cases hv with
    | plain _ => rfl
  | none =>
   have hl : (iv k zs).length ≤ j := by simpa using hj
   have hsz' : cs.size = (iv k zs).length := hsz
   rw [Array.getElem?_eq_none (by omega), Array.getElem?_eq_none (by simpa [iv] using hl)]
 unfold Lib.TabIs World.var?
 rw [hn]
 simp only [Option.bind_some]
 rw [← h2, a, e1]
theorem tab_block {name : String} {k : IntKind} {zs : List Int} {g : Nat} (h : Lib.TabIs P W name k zs) (hg : P.globalNamed name = some g) : ∃ t fr, W.heap[g]? = some (.cells (iv k zs).toArray t fr) := by
 unfold Lib.TabIs World.var? at h
 rw [hg] at h
 simp only [Option.bind_some] at h
 split at h
 ·rename_i cs t fr hb
  cases h
  exact ⟨t, fr, hb⟩
 ·cases h
theorem iv_v1 {m : List Ent} {k : IntKind} {zs : List Int} (j : Nat) (v : Value) (h : (iv k zs)[j]? = some v) : ∃ y, ((iv k zs).toArray)[0 + j]? = some y ∧ V1 m v y := by
 refine ⟨v, by simpa using h, ?_⟩
 unfold iv at h
 rw [List.getElem?_map] at h
 cases hz : zs[j]? with
 | none => rw [hz] at h; cases h
 | some z => rw [hz] at h; cases h; exact .plain rfl
theorem calls_of_ac {f : FuncId} {args args' : Array Value} {v : Value} {m : List Ent} {H : AH} {γ : Nat → Option Nat} (hR : Rel H.length W.heap.size γ m H W) (hv : plainV v = true) (hs : args'.size = args.size)
  (ha : ∀ (i : Nat) (x : Value), args[i]? = some x → ∃ y, args'[i]? = some y ∧ V m x y) (h : AC P H.length γ f args H (fun v' _ => v' = v)) (hbd : bodied P f = true := by kernel_rfl) (hcl : callable P f = true := by kernel_rfl) : Calls P f args' W fun e W' => e = .returned v ∧ Below W.heap.size W W' := by
 rcases h m W.heap.size W args' hR hs ha with ⟨_, h'⟩ | ⟨v0, hrun, _⟩
 case inr =>
  rw [callable_run hcl hbd] at hrun
  cases hrun
 refine h'.mono ?_
 rintro e w' ⟨m', v1, v', H', rfl, _, hv', _, hb, rfl⟩
 exact ⟨by rw [hv'.eq hv], hb⟩
end
end
section
theorem lnS : (∀ {α : Type} (l : List α) (i : Nat) (x : α), (l.set i x).length = l.length) ∧ (∀ {α : Type} (a b : List α), (a ++ b).length = a.length + b.length) ∧ (∀ {α : Type} (x : α) (l : List α), (x :: l).length = l.length + 1) ∧ (∀ {α : Type}, ([] : List α).length = 0) ∧ (∀ (k : IntKind) (l : List Int), (iv k l).length = l.length) ∧ ∀ n : Nat, (zl n).length = n :=
 ⟨fun _ _ _ => List.length_set, fun _ _ => List.length_append, fun _ _ => rfl, rfl, iv_length, zl_length⟩
theorem ltT {a b : Int} (h : a < b) : (a < b) = True := eq_true h
theorem ltF {a b : Int} (h : b ≤ a) : (a < b) = False := eq_false (by omega)
theorem leT {a b : Int} (h : a ≤ b) : (a ≤ b) = True := eq_true h
theorem leF {a b : Int} (h : b < a) : (a ≤ b) = False := eq_false (by omega)
theorem eqT {a b : Int} (h : a = b) : (a = b) = True := eq_true h
theorem eqF {a b : Int} (h : a ≠ b) : (a = b) = False := eq_false h
theorem ltTn {a b : Nat} (h : a < b) : (a < b) = True := eq_true h
theorem ltFn {a b : Nat} (h : b ≤ a) : (a < b) = False := eq_false (by omega)
theorem leTn {a b : Nat} (h : a ≤ b) : (a ≤ b) = True := eq_true h
theorem leFn {a b : Nat} (h : b < a) : (a ≤ b) = False := eq_false (by omega)
theorem eqTn {a b : Nat} (h : a = b) : (a = b) = True := eq_true h
theorem eqFn {a b : Nat} (h : a ≠ b) : (a = b) = False := eq_false h
theorem beqT {a b : Int} (h : a = b) : (a == b) = true := by simpa using h
theorem beqF {a b : Int} (h : a ≠ b) : (a == b) = false := by simpa using h
theorem bneT {a b : Int} (h : a ≠ b) : (a != b) = true := by simpa using h
theorem bneF {a b : Int} (h : a = b) : (a != b) = false := by simpa using h
theorem wi64 {x : Int} (h : -9223372036854775808 ≤ x ∧ x ≤ 9223372036854775807) : IntKind.i64.wrap x = x := wrap64_in h
theorem wu64 {x : Int} (h : 0 ≤ x ∧ x ≤ 18446744073709551615) : IntKind.u64.wrap x = x := by simp only [IntKind.wrap, IntKind.bits, IntKind.signed]; simp; omega
theorem wu32 {x : Int} (h : 0 ≤ x ∧ x ≤ 4294967295) : IntKind.u32.wrap x = x := by simp only [IntKind.wrap, IntKind.bits, IntKind.signed]; simp; omega
theorem wu16 {x : Int} (h : 0 ≤ x ∧ x ≤ 65535) : IntKind.u16.wrap x = x := by simp only [IntKind.wrap, IntKind.bits, IntKind.signed]; simp; omega
theorem wu8 {x : Int} (h : 0 ≤ x ∧ x ≤ 255) : IntKind.u8.wrap x = x := by simp only [IntKind.wrap, IntKind.bits, IntKind.signed]; simp; omega
theorem tmodP {a b : Int} (h : 0 ≤ a) : a.tmod b = a % b := Int.tmod_eq_emod_of_nonneg h
theorem tdivP {a b : Int} (h : 0 ≤ a) : a.tdiv b = a / b := Int.tdiv_eq_ediv_of_nonneg h
theorem hgetL {H L : AH} {i : Nat} (h : i < H.length) : hget (H ++ L) i = hget H i := hget_left h
theorem hgetNe {H : AH} {i j : Nat} {x : Option Blk} (h : i ≠ j) : hget (H.set i x) j = hget H j := hget_set_ne h
theorem hgetEq {H : AH} {i : Nat} {x : Option Blk} (h : i < H.length) : hget (H.set i x) i = x := hget_set_eq h
theorem setL {H L : AH} {i : Nat} {x : Option Blk} (h : i < H.length) : (H ++ L).set i x = H.set i x ++ L := List.set_append_left _ _ h
theorem iv_getN (k : IntKind) (l : List Int) (i : Nat) (h : i < l.length) : (iv k l)[i]? = some (.int k (l.getD i 0)) := iv_get k l i h
theorem nums_def (s : ByteArray) : (s.data.toList.map fun b => (b.toNat : Int)) = nums s := rfl
theorem nums_len (s : ByteArray) : (nums s).length = s.size := by unfold nums; simp
theorem nums_bd (s : ByteArray) : ∀ x ∈ nums s, 0 ≤ x ∧ x ≤ 255 := by
 intro x hx
 unfold nums at hx
 obtain ⟨b, _, rfl⟩ := List.mem_map.1 hx
 have := b.toNat_lt
 omega
theorem agB : isAggD .bool = false := rfl
theorem agI (k : IntKind) : isAggD (.int k) = false := rfl
theorem agS : isAggD .string = false := rfl
theorem agP (t : TypeId) : isAggD (.pointer t) = false := rfl
theorem agL (t : TypeId) : isAggD (.slice t) = false := rfl
theorem agA (n : Nat) (t : TypeId) : isAggD (.array n t) = true := rfl
theorem agM (k t : TypeId) : isAggD (.map k t) = false := rfl
theorem okM (k t : TypeId) : okD (.map k t) = true := rfl
theorem okB : okD .bool = true := rfl
theorem okI (k : IntKind) : okD (.int k) = true := rfl
theorem okS : okD .string = true := rfl
theorem okP (t : TypeId) : okD (.pointer t) = true := rfl
theorem okSl (t : TypeId) : okD (.slice t) = true := rfl
theorem okA (n : Nat) (t : TypeId) : okD (.array n t) = true := rfl
def By (l : List Int) : Prop := ∀ x ∈ l, 0 ≤ x ∧ x ≤ 255
theorem nums_of (l : List Int) (h : By l) : nums (strOfNums l) = l := by
 unfold nums
 rw [strOfNums_data, List.map_map]
 refine (List.map_congr_left fun x hx => ?_).trans (List.map_id' l)
 have := h x hx
 simp only [Function.comp_apply]
 rw [UInt8.toNat_ofNat']
 omega
theorem of_nums' (s : ByteArray) : strOfNums (nums s) = s := by
 unfold nums strOfNums
 rw [List.map_map]
 have : (fun n : Int => UInt8.ofNat n.toNat) ∘ (fun b : UInt8 => (b.toNat : Int)) = id := by
  funext b
  simp
 rw [this, List.map_id]
theorem By.get {l : List Int} (h : By l) (p : Nat) : 0 ≤ l.getD p 0 ∧ l.getD p 0 ≤ 255 := by
 rw [List.getD_eq_getElem?_getD]
 cases hq : l[p]? with
 | none => simp
 | some x => simpa using h x (List.mem_of_getElem? hq)
end
section
open Go Go.RowKit Go.ChangeShapes Go.WideShapes Go.ChangeAt
section
variable {P : Program} {W : World} {H : Type} {enc : TypeId × Value → H}
theorem add_none' (b off i : Nat) : (⟨b, off, none⟩ : Addr).add i = ⟨b, off + i, none⟩ := by
 unfold Addr.add
 split
 ·rename_i h; subst h; rfl
 ·rfl
end
end
section
structure Fr (H H' : AH) (F F' : List Nat) : Prop where
 len : H.length ≤ H'.length
 out : ∀ j, j < H.length → j ∉ F → hget H' j = hget H j
 new : ∀ j ∈ F', j ∈ F ∨ H.length ≤ j
theorem Fr.refl (H : AH) (F : List Nat) : Fr H H F F := ⟨Nat.le_refl _, fun _ _ _ => rfl, fun _ h => .inl h⟩
theorem Fr.trans {H H' H'' : AH} {F F' F'' : List Nat} (h : Fr H H' F F') (k : Fr H' H'' F' F'') : Fr H H'' F F'' := by
 refine ⟨Nat.le_trans h.len k.len, fun j hj hn => ?_, fun j hj => ?_⟩
 ·rw [k.out j (Nat.lt_of_lt_of_le hj h.len) (fun hm => ?_), h.out j hj hn]
  rcases h.new j hm with h1 | h1
  ·exact hn h1
  ·omega
 ·rcases k.new j hj with h1 | h1
  ·exact h.new j h1
  ·exact .inr (Nat.le_trans h.len h1)
section
variable {β : Type}
theorem hga {G L : AH} {i k : Nat} {v : Option Blk} : hget (G.set i v ++ L) (G.length + k) = hget L k := by
 have := hget_app (G.set i v) L k
 rwa [List.length_set] at this
theorem hga0 {G L : AH} {i : Nat} {v : Option Blk} : hget (G.set i v ++ L) G.length = hget L 0 := hga (k := 0)
theorem fl_len {L : List (List β)} {n : Nat} (h : ∀ r ∈ L, r.length = n) : L.flatten.length = L.length * n := by
 induction L with
 | nil => simp
 | cons x L ih =>
  rw [List.flatten_cons, List.length_append, ih (fun r hr => h r (List.mem_cons_of_mem _ hr)), h x List.mem_cons_self, List.length_cons, Nat.add_mul]
  omega
theorem fl_drop {L : List (List β)} {n : Nat} (h : ∀ r ∈ L, r.length = n) : ∀ k, k ≤ L.length → L.flatten.drop (k * n) = (L.drop k).flatten := by
 induction L with
 | nil => intro k hk; simp
 | cons x L ih =>
  intro k hk
  cases k with
  | zero => simp
  | succ k =>
   have hx := h x List.mem_cons_self
   rw [List.flatten_cons, List.drop_succ_cons, ← ih (fun r hr => h r (List.mem_cons_of_mem _ hr)) k (by simpa using hk), Nat.add_mul, Nat.one_mul]
   rw [show k * n + n = x.length + k * n by omega, List.drop_append, List.drop_of_length_le (by omega), List.nil_append, show x.length + k * n - x.length = k * n by omega]
theorem fl_get {L : List (List β)} {n k : Nat} {r : List β} (h : ∀ r ∈ L, r.length = n) (hk : L[k]? = some r) : (L.flatten.drop (k * n)).take n = r := by
 obtain ⟨hl, he⟩ := List.getElem?_eq_some_iff.1 hk
 rw [fl_drop h k (by omega), List.drop_eq_getElem_cons hl, List.flatten_cons, he]
 have := h r (List.mem_of_getElem? hk)
 rw [List.take_append_of_le_length (by omega), List.take_of_length_le (by omega)]
end
theorem nums_appF (a b : ByteArray) : nums (a ++ b) = nums a ++ nums b := by simp [nums]
def sv (s : ByteArray) : List Value := iv .u8 (nums s)
def zs (n : Nat) : ByteArray := ⟨(List.replicate n (0 : UInt8)).toArray⟩
end
section
open Go Go.RowKit Go.ChangeShapes Go.WideShapes Go.ChangeAt
section
variable {P : Program} {W : World} {H : Type} {enc : TypeId × Value → H}
theorem trod_bool' {base : Nat} {sp : Nat → Bool} {hd : Bool} {t : TypeId} {fuel : Nat} {cs : List Value} {x : DataW H × List MemPlace} (ht : P.underlying t = some .bool) (h : DataW.trod enc P W base sp hd fuel t cs = some x) : ∃ b, cs = [.bool b] := by
 cases fuel with
 | zero => simp [DataW.trod] at h
 | succ n =>
  unfold DataW.trod at h
  rw [ht] at h
  split at h <;> simp_all
theorem choose_list {β γ : Type} (R : Nat → β → γ → Prop) : ∀ (l : List β) (o : Nat), (∀ i x, l[i]? = some x → ∃ y, R (o + i) x y) → ∃ l' : List γ, l'.length = l.length ∧ ∀ i x, l[i]? = some x → ∃ y, l'[i]? = some y ∧ R (o + i) x y
 | [], o, _ => ⟨[], rfl, fun i x h => by simp at h⟩
 | x :: l, o, h => by
  obtain ⟨y, hy⟩ := h 0 x rfl
  obtain ⟨l', h1, h2⟩ := choose_list R l (o + 1) (fun i x hx => by
   have := h (i + 1) x (by simpa using hx)
   rwa [show o + (i + 1) = o + 1 + i by omega] at this)
  refine ⟨y :: l', by simp [h1], fun i z hz => ?_⟩
  cases i with
  | zero => simp at hz; subst hz; exact ⟨y, rfl, hy⟩
  | succ i =>
   obtain ⟨w, hw1, hw2⟩ := h2 i z (by simpa using hz)
   exact ⟨w, by simpa using hw1, by rwa [show o + (i + 1) = o + 1 + i by omega]⟩
end
end
end Go.Proofs.YtlaglpnbmkoakaaDoor
