/-
  A map from keys of any kind to numbers, told as a function from keys: no program is spoken of. (For a map that a call makes, looks up in and writes into.)
-/
import Derived.Maps.OwnOps
import Derived.Maps.Views
import Derived.DeepKeys5
namespace Go.Proofs.Ytjmpdilffmpkgaa.Sx
open Go Go.RowKit Go.ChangeShapes Go.WideShapes Go.Maps
set_option linter.unusedVariables false

variable {P : Program} {k e t : TypeId} {q : IntKind} {w : World} {b n : Nat} {f : Value → Option Int}
/-- The map in block b gives the number f key for a key, or nothing; n entries at most. -/
def Gives (P : Program) (k e : TypeId) (q : IntKind) (w : World) (b n : Nat) (f : Value → Option Int) : Prop :=
  ∃ D, w.ownsMap P k (plainElem (H := Unit) P e) b n D ∧ IsMap D ∧ ∀ key kl, keyOf P k key = some kl → ∀ zd, D.atKey kl zd = match f key with | some c => .lit (.int q c) | none => zd
theorem Gives.made (w : World) : Gives P k e q (w.alloc (.map #[] 0)) w.heap.size 0 (fun _ => none) :=
  ⟨_, World.ownsMap_made w P k _, isMap_empty, fun key kl _ zd => by simp [DataW.atKey]⟩
theorem Gives.kept {w' : World} {row : Option Nat} (h : Gives P k e q w b n f) (hg : w.grownBy w' row) (hne : some b ≠ row) : Gives P k e q w' b n f := by
  obtain ⟨D, h1, h2, h3⟩ := h
  exact ⟨D, h1.kept hg hne, h2, h3⟩
theorem Gives.lt (h : Gives P k e q w b n f) : b < w.heap.size := by
  obtain ⟨D, h1, _⟩ := h
  exact h1.lt
/-- What a look-up with two results gives. -/
theorem Gives.look (h : Gives P k e q w b n f) (K : Keyed P k) (ht : P.underlying t = some (.map k e)) (he : P.underlying e = some (.int q)) (hz : (zeroValue e).run P w = .ok (.int q 0) w) {key : Value} {kl : Lit} (hkey : keyOf P k key = some kl) :
    (Instr.lookup t (.map (some b)) key true).run P w = .ok (match f key with | some c => .tuple #[.int q c, .bool true] | none => .tuple #[.int q 0, .bool false]) w := by
  obtain ⟨D, ⟨es, clock, hb, F, hs, rfl⟩, h2, h3⟩ := h
  have hk := h3 key kl hkey
  rcases fit_look true K ht hz hb F hkey with ⟨hrun, _, hat⟩ | ⟨e0, y, _, _, hrun, hRv, hat, _⟩
  · cases hf : f key with
    | none => exact hrun
    | some c =>
      rw [hf] at hk
      have := (hk (.map [])).symm.trans (hat (.map []))
      cases this
  · cases hf : f key with
    | none =>
      rw [hf] at hk
      have h4 := (hk (.map [])).symm.trans (hat (.map []))
      have h5 := (hk (.lit (.bool true))).symm.trans (hat (.lit (.bool true)))
      rw [← h5] at h4
      cases h4
    | some c =>
      rw [hf] at hk
      obtain ⟨a, hv, hy, _⟩ := plainElem_int_inv he hRv
      have h4 := (hk (.map [])).symm.trans (hat (.map []))
      rw [hy] at h4
      simp only [DataW.lit.injEq, Lit.int.injEq, true_and] at h4
      rw [hrun, hv, h4]
      rfl
open Classical in
/-- What the map gives behind a write. -/
noncomputable def updF (f : Value → Option Int) (key : Value) (c : Int) : Value → Option Int := fun x => if x = key then some c else f x
theorem updF_same (f : Value → Option Int) (key : Value) (c : Int) : updF f key c key = some c := by unfold updF; rw [if_pos rfl]
theorem updF_other (f : Value → Option Int) {key x : Value} (c : Int) (h : x ≠ key) : updF f key c x = f x := by unfold updF; rw [if_neg h]
/-- What a write does. -/
theorem Gives.put (h : Gives P k e q w b n f) (K : Keyed P k) (ht : P.underlying t = some (.map k e)) (he : P.underlying e = some (.int q)) (hn : n < maxLen) {key : Value} {kl : Lit} (hkey : keyOf P k key = some kl) {c : Int} (hw : (Lit.int q c).wf = true) :
    ∃ w', (Instr.mapUpdate t (.map (some b)) key (.int q c)).run P w = .ok () w' ∧ Gives P k e q w' b (n + 1) (updF f key c) ∧ w.grownBy w' (some b) := by
  obtain ⟨D, h1, h2, h3⟩ := h
  obtain ⟨w', hrun, how, hg⟩ := h1.update K ht hn hkey (plainElem_int he hw)
  refine ⟨w', hrun, ⟨_, how, h2.put _ _, fun key' kl' hk' zd => ?_⟩, hg⟩
  by_cases hx : key' = key
  · subst hx
    rw [hkey] at hk'
    cases hk'
    rw [updF_same, atKey_put_same h2 (K.key hkey)]
  · rw [updF_other _ _ hx, atKey_put_other (show kl' ≠ kl from fun e => hx (K.inj (by rw [hk', e]) hkey))]
    exact h3 key' kl' hk' zd
end Go.Proofs.Ytjmpdilffmpkgaa.Sx
