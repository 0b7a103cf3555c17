/-
  The library's function that cuts off bytes: its contract; when nothing is left.
-/
import Derived.Test.YtlgccppfjclncaaDoorU2
import Derived.Test.YtlgccppfjclncaaDoorL0
namespace Go.Proofs.YtlgccppfjclncaaDoor.Sx
open Go Go.RowKit Go.Shelf
set_option linter.unusedVariables false
set_option linter.unusedSimpArgs false

theorem u8_back (l : List UInt8) : (l.map fun b => (b.toNat : Int)).map u8 = l := by
  rw [List.map_map]
  conv => rhs; rw [← List.map_id l]
  refine List.map_congr_left fun b _ => ?_
  show UInt8.ofNat (Int.toNat (b.toNat : Int)) = b
  rw [Int.toNat_natCast]
  exact UInt8.ofNat_toNat
theorem mem_drop_rev {p : UInt8 → Bool} : ∀ {l : List UInt8}, l.dropWhile p = [] → ∀ b ∈ l, p b = true
  | [], _, b, h => by cases h
  | a :: r, e, b, h => by
    simp only [List.dropWhile] at e
    split at e
    · rename_i ha
      rcases List.mem_cons.1 h with rfl | h
      · exact ha
      · exact mem_drop_rev e b h
    · cases e
theorem drop_all {p : UInt8 → Bool} : ∀ {l : List UInt8}, (∀ b ∈ l, p b = true) → l.dropWhile p = []
  | [], _ => rfl
  | a :: r, h => by
    rw [List.dropWhile_cons_of_pos (h a (List.mem_cons_self ..))]
    exact drop_all fun b hb => h b (List.mem_cons_of_mem _ hb)
theorem dropW_le (p : UInt8 → Bool) : ∀ l : List UInt8, (l.dropWhile p).length ≤ l.length
  | [] => Nat.le_refl _
  | a :: r => by
    simp only [List.dropWhile]
    split
    · exact Nat.le_succ_of_le (dropW_le p r)
    · exact Nat.le_refl _
theorem trim_le (l cs : List UInt8) : (Lib.trimS l cs).length ≤ l.length := by
  unfold Lib.trimS Lib.trimLeftS Lib.trimRightS
  refine Nat.le_trans (dropW_le _ _) ?_
  rw [List.length_reverse]
  exact Nat.le_trans (dropW_le _ _) (by simp)
theorem trim_nil (l cs : List UInt8) : Lib.trimS l cs = [] ↔ ∀ b ∈ l, cs.contains b = true := by
  unfold Lib.trimS Lib.trimLeftS Lib.trimRightS
  constructor
  · intro h
    have h := mem_drop_rev h
    have : List.dropWhile (cs.contains ·) l.reverse = [] := by
      cases e : List.dropWhile (cs.contains ·) l.reverse with
      | nil => rfl
      | cons a r =>
        have h1 : (cs.contains ·) a = true := h a (by rw [e]; simp)
        have h2 : ¬ (cs.contains ·) a = true := by
          have := List.head_dropWhile_not (cs.contains ·) (l := l.reverse) (by rw [e]; simp)
          simp only [e, List.head_cons] at this
          simpa using this
        exact absurd h1 h2
    exact fun b hb => mem_drop_rev this b (by simpa using hb)
  · intro h
    have e : List.dropWhile (cs.contains ·) l.reverse = [] := drop_all fun b hb => h b (by simpa using hb)
    rw [e]; rfl
theorem u8_inj1 {x y : Int} (hx : 0 ≤ x ∧ x ≤ 255) (hy : 0 ≤ y ∧ y ≤ 255) (h : u8 x = u8 y) : x = y := by
  have := u8_inj (x := [x]) (y := [y]) (by simpa using ⟨hx.1, by omega⟩) (by simpa using ⟨hy.1, by omega⟩) (by simp [h])
  simpa using this
theorem trimL_LR {l : List Int} (h : ∀ x ∈ l, 0 ≤ x ∧ x ≤ 255) : trimL l [76, 82] = [] ↔ LRs l := by
  unfold trimL LRs
  rw [List.map_eq_nil_iff, trim_nil]
  constructor
  · intro k x hx
    have := k (u8 x) (List.mem_map_of_mem hx)
    simp only [List.map_cons, List.map_nil, List.contains_cons, List.contains_nil, Bool.or_false, Bool.or_eq_true, beq_iff_eq] at this
    rcases this with e | e
    · exact .inl (u8_inj1 (h x hx) (by omega) e)
    · exact .inr (u8_inj1 (h x hx) (by omega) e)
  · intro k b hb
    obtain ⟨x, hx, rfl⟩ := List.mem_map.1 hb
    rcases k x hx with rfl | rfl <;> decide
theorem cTrim : CTS Tryd.prog tbC.fns (presQ prC) 7 s7 := by
  intro w xs ls args hx hl ha hp
  match xs, ls, hx, hl, ha, hp with
  | [], [l, cs], hx, hl, ha, hp =>
    have hp : cs = [76, 82] := hp
    subst hp
    obtain ⟨r1, rfl, hb1, r2, rfl, hb2, rfl⟩ := ha
    have hl' : ((∀ x ∈ l, 0 ≤ x ∧ x ≤ 255) ∧ (l.length : Int) ≤ 9223372036854775807 * 1) ∧ _ := hl
    have hcon := Any.strings_Trim_laid lays160 (by kernel_rfl) ⟨(l.map u8).toArray⟩ ⟨#[76, 82]⟩ w (by rw [Lib.size_mk, List.length_map]; omega) (by decide) (ascii_of_all (by decide))
    refine Calls.mono (show Calls Tryd.prog 7 #[.string ⟨(l.map u8).toArray⟩, .string ⟨#[76, 82]⟩] w _ from hcon) ?_
    rintro e w' ⟨rfl, hB⟩
    have hr : tbC.fns 7 [] [l, [76, 82]] = ([], [trimL l [76, 82]]) := rfl
    rw [hr]
    refine ⟨⟨?_, trivial, ⟨⟨fun x hx => ?_, ?_⟩, trivial⟩⟩, hB⟩
    · show _ = Ending.returned (byteV (trimL l [76, 82]))
      unfold byteV trimL
      rw [u8_back]
      rfl
    · obtain ⟨b, _, rfl⟩ := List.mem_map.1 hx
      have := b.toNat_lt
      show (0 : Int) ≤ _ ∧ _ ≤ (255 : Int)
      omega
    · show ((List.length (trimL l [76, 82]) : Nat) : Int) ≤ 9223372036854775807
      have := trim_le (l.map u8) (([76, 82] : List Int).map u8)
      simp only [trimL, List.length_map] at this ⊢
      omega
end Go.Proofs.YtlgccppfjclncaaDoor.Sx
