/-
  'FnExactFirstDigitApart': THE TIED CARD: the first digit at which two trees differ is as its model says, for all trees, every stream and number; no argument is written into. CONDITION (the card ties it): the variable of the package errors holds the type of errors, as the program's text lays it.
-/
import Derived.Test.YtingfbohkchgbaaDoorXL
import Derived.Test.YtingfbohkchgbaaDoorWR
import Derived.Test.YtingfbohkchgbaaDoorCards
import Derived.Test.YtingfbohkchgbaaDoorTie
import Derived.ProofKit
import Derived.OpenShut
import Derived.ChangeSame
import Derived.ChangeVars
import Derived.LaidLaws
import Derived.LaidHandle
import Derived.SevenTiedAt
import Derived.Stop.Joined
namespace Go.Proofs.YtingfbohkchgbaaDoor.fnExactFirstDigitApart
open Go.ChangeShapes Go.WideShapes Go.ChangeAt Go.RowKit
open Go.ChangeMaps (open_string shut_string)
set_option linter.unusedVariables false

theorem own : ownKnob Tryd.prog.godebug = none := by kernel_rfl
theorem laidOut : laidOutB Tryd.prog = true := by kernel_rfl
abbrev laid : List (String × DataW Unit) := Rows.fnExactFirstDigitApartRow.laid
theorem et : Tryd.prog.globalNamed "errors.errorType" = some 0 := by kernel_rfl
theorem rt : (Tryd.prog.cutTypes.find? (·.1 == "internal/reflectlite.rtype")).map (·.2) = some 157 := by kernel_rfl
theorem oneRow : ((List.range 222).filter fun t => Tryd.prog.rowNamed t [101, 114, 114, 111, 114]) = [69] := by kernel_rfl
theorem tsize : Tryd.prog.types.size = 222 := by kernel_rfl

/-- What the condition gives. -/
theorem errG_of_laid {W : World} (h : laidMetH Tryd.prog laid W) : Sx.ErrG W := by
  have h' : laidMet Tryd.prog [] W ∧ handlesMet Tryd.prog laid W := h
  obtain ⟨name, u, ty, e1, e2, e3, e4, e5⟩ := h'.2 _ (List.mem_singleton.2 rfl)
  have en : name = [101, 114, 114, 111, 114] := (Option.some.inj e1).symm
  subst en
  obtain rfl := Option.some.inj (rt.symm.trans e2)
  have hm : ty ∈ (List.range 222).filter fun t => Tryd.prog.rowNamed t [101, 114, 114, 111, 114] := List.mem_filter.2 ⟨List.mem_range.2 (by rw [← tsize]; exact e3), e4⟩
  rw [oneRow] at hm
  obtain rfl := List.mem_singleton.1 hm
  have hh : typeHandle Tryd.prog 69 = .pointer (some ⟨1, 69, none⟩) := by kernel_rfl
  rw [hh] at e5
  have h5 := World.var?_cell et e5 0
  unfold Sx.ErrG
  simpa using h5
/-- A world that meets the condition. -/
noncomputable def laidWorld (os : Os) : World :=
  let w0 := World.holding Tryd.prog os ⟨#[], #[], []⟩
  { w0 with heap := w0.heap.modify 0 fun
      | .cells _ t frozen => .cells #[.iface 157 (.agg #[.pointer (some ⟨1, 69, none⟩)])] t frozen
      | o => o }
theorem laidWorld_met (os : Os) (args : Array Value) : laidMetH Tryd.prog laid ((laidWorld os).forCall (fun _ _ => 0) ⟨#[], args, []⟩).memory :=
  laidMetH_of_parts (laidMet_nil _ _) (by kernel_rfl)

/-- The law returns true, and leaves what was there. -/
theorem walk (w : World) (T U : List Sx.Fk) (n : Int) (a b : List Int) (tv uv v0 v1 : Value) (hg : Sx.ErrG w) (hF : Sx.IsF w T tv) (hW : Sx.Wid T) (lT : T.length ≤ 9223372036854775807) (hU : Sx.IsF w U uv) (hX : Sx.Wid U) (lU : U.length ≤ 9223372036854775807) (h0 : Sx.IsL .i8 w a v0) (h1 : Sx.IsL .i8 w b v1) (la : a.length ≤ 9223372036854775807) (lb : b.length ≤ 9223372036854775807) :
    Calls Tryd.prog 4 #[.agg #[tv], .agg #[uv], .agg #[v0, v1], .int .i64 n] w fun e w' => e = .returned (.bool true) ∧ Below w.heap.size w w' := by
  obtain ⟨x, c, h⟩ : ∃ x c : Int, ((Sx.trB T && Sx.trB U && Sx.vsB a b) = false ∧ x = 0 ∧ c = 1) ∨ ((Sx.trB T && Sx.trB U && Sx.vsB a b) = true ∧ ¬ (0 ≤ n ∧ n ≤ 60) ∧ x = 0 ∧ c = 2) ∨ ((Sx.trB T && Sx.trB U && Sx.vsB a b) = true ∧ (0 ≤ n ∧ n ≤ 60) ∧ ∃ J1 l1 k1 c1 J2 l2 k2 c2, ((∀ i, i < J1 → Sx.OkT T a b n.toNat i) ∧ J1 ≤ n.toNat + 400 ∧ Sx.EndT T a b n.toNat J1 l1 k1 c1) ∧ ((∀ i, i < J2 → Sx.OkT U a b n.toNat i) ∧ J2 ≤ n.toNat + 400 ∧ Sx.EndT U a b n.toNat J2 l2 k2 c2) ∧ ((¬ (c1 = 0 ∧ c2 = 0) ∧ x = 0 ∧ c = 7) ∨ (c1 = 0 ∧ c2 = 0 ∧ Sx.ApE l1 l2 n.toNat x c))) := by
    cases hv : (Sx.trB T && Sx.trB U && Sx.vsB a b)
    · exact ⟨0, 1, .inl ⟨rfl, rfl, rfl⟩⟩
    · by_cases hn : 0 ≤ n ∧ n ≤ 60
      · obtain ⟨J1, l1, k1, c1, h2, h3, h4⟩ := Sx.runT_ex T a b n.toNat
        obtain ⟨J2, l2, k2, c2, g2, g3, g4⟩ := Sx.runT_ex U a b n.toNat
        by_cases hc : c1 = 0 ∧ c2 = 0
        · obtain ⟨x, c, hx⟩ := Sx.apE_ex l1 l2 n.toNat
          exact ⟨x, c, .inr (.inr ⟨rfl, hn, J1, l1, k1, c1, J2, l2, k2, c2, ⟨h2, h3, h4⟩, ⟨g2, g3, g4⟩, .inr ⟨hc.1, hc.2, hx⟩⟩)⟩
        · exact ⟨0, 7, .inr (.inr ⟨rfl, hn, J1, l1, k1, c1, J2, l2, k2, c2, ⟨h2, h3, h4⟩, ⟨g2, g3, g4⟩, .inl ⟨hc, rfl, rfl⟩⟩)⟩
      · exact ⟨0, 2, .inr (.inl ⟨rfl, hn, rfl, rfl⟩)⟩
  exact Sx.law_Apart (x := x) (c := c) hg hF hU h0 h1 lT lU la lb (fun k1 k2 w t u v0 v1 _ ht hu i0 i1 _ _ => Sx.apartS ht hu i0 i1 k1 k2 hW hX la lb h) (fun k1 k2 w t u v0 v1 g ht hu i0 i1 b0 b1 => Sx.apartI g ht hu i0 i1 b0 b1 k1 k2 hW hX la lb h)

set_option maxRecDepth 100000 in
theorem lifted (os : Os) (started : os.Started) (H : Type) (enc : TypeId × Value → H) :
    ReturnsInHanded {} Tryd.checked os 4 .any (fun w args => (Rows.fnExactFirstDigitApartSpec.pre enc Tryd.prog Tryd.f4 [] false w args ∧ laidMetH Tryd.prog laid w) ∧ sizedMet enc Tryd.prog Tryd.f4 (OpenSpec.ofChange Rows.fnExactFirstDigitApartSpec) false w args)
      (Rows.fnExactFirstDigitApartSpec.post enc Tryd.prog Tryd.f4 false true false false) := by
  refine returnsInHanded_of_change_and (C := Tryd.checked) (X := fun w _ => laidMetH Tryd.prog laid w) (fun _ _ _ hh h => h.of_heap hh) own started (by kernel_rfl) Tryd.func4
    (ChangeSpec.witness_at (enc := enc) (C := Tryd.checked) (os := os) (X := fun w _ => laidMetH Tryd.prog laid w) false (laidWorld os) #[.agg #[.slice none 0 0], .agg #[.slice none 0 0], .agg #[.slice none 0 0, .slice none 0 0], .int .i64 0] 8 rfl (by kernel_rfl) (by kernel_rfl) (by kernel_rfl) (by kernel_rfl) (by kernel_rfl) (laidWorld_met os _)) ?_
  intro W base args ds gs before hval0 hW _ _ hL _
  have hval : ∀ (j : Nat) t v, Tryd.f4.params[j]? = some t → args[j]? = some v → Value.okWide Tryd.prog W .any base t v := hval0
  have hW' := hW
  obtain ⟨p, q, hA0, hV, rfl, hfz, hnd⟩ := hW
  have hA : DataW.TrodAll enc Tryd.prog W 0 (fun _ => true) true Tryd.f4.params.toList args.toList ds p := hA0
  rw [Tryd.params4] at hA hval
  obtain ⟨v0, vv0, d0, ds0, p0, q0, hargs, rfl, rfl, g0, r0⟩ := trodAll_cons hA
  obtain ⟨v1, vs1, d1, ds1, p1, q1, rfl, rfl, rfl, g1, r1⟩ := trodAll_cons r0
  obtain ⟨v2, vs2, d2, ds2, p2, q2, rfl, rfl, rfl, g2, r2⟩ := trodAll_cons r1
  obtain ⟨v3, vs3, d3, ds3, p3, q3, rfl, rfl, rfl, g3, r3⟩ := trodAll_cons r2
  obtain ⟨rfl, rfl, rfl⟩ := trodAll_nil r3
  obtain rfl : args = #[v0, v1, v2, v3] := by cases args; simp_all
  obtain ⟨rfl, rfl⟩ := trodVars_none hV
  have k0 := g0
  have k1 := g1
  have k2 := g2
  have k3 := g3
  have lt3 : ∀ x ∈ p3, x.block < W.heap.size := by obtain ⟨m, hm⟩ := k3; exact DataW.trod_lt m _ _ _ hm
  have lt2 : ∀ x ∈ p2, x.block < W.heap.size := by obtain ⟨m, hm⟩ := k2; exact DataW.trod_lt m _ _ _ hm
  have lt1 : ∀ x ∈ p1, x.block < W.heap.size := by obtain ⟨m, hm⟩ := k1; exact DataW.trod_lt m _ _ _ hm
  have lt0 : ∀ x ∈ p0, x.block < W.heap.size := by obtain ⟨m, hm⟩ := k0; exact DataW.trod_lt m _ _ _ hm
  obtain ⟨T, tv, rfl, hF, hWd, lT⟩ := Sx.open_tree Tryd.underlying24 (by kernel_rfl) rfl (by kernel_rfl) (by kernel_rfl) Tryd.underlying22 Tryd.underlying99 (by kernel_rfl) Tryd.underlying75 Tryd.underlying75 Tryd.underlying94 Tryd.underlying92 (by kernel_rfl) rfl rfl rfl (by kernel_rfl) (by kernel_rfl) (by kernel_rfl) (hval 0 24 v0 rfl rfl) g0
  obtain ⟨U, uv, rfl, hU, hXd, lU⟩ := Sx.open_tree Tryd.underlying24 (by kernel_rfl) rfl (by kernel_rfl) (by kernel_rfl) Tryd.underlying22 Tryd.underlying99 (by kernel_rfl) Tryd.underlying75 Tryd.underlying75 Tryd.underlying94 Tryd.underlying92 (by kernel_rfl) rfl rfl rfl (by kernel_rfl) (by kernel_rfl) (by kernel_rfl) (hval 1 24 v1 rfl rfl) g1
  obtain ⟨a0, b0, u0, u1, rfl, h0, h1, la, lb⟩ := Sx.open_lists2 Tryd.underlying27 (by kernel_rfl) Tryd.underlying25 Tryd.underlying25 Tryd.underlying75 (by kernel_rfl) rfl rfl (by kernel_rfl) (by kernel_rfl) (by kernel_rfl) (hval 2 27 v2 rfl rfl) g2
  obtain ⟨n, rfl, _, _, _⟩ := open_int Tryd.underlying2 (hval 3 2 v3 rfl rfl) g3
  clear hA0 hval0
  refine (walk W T U n a0 b0 tv uv u0 u1 (errG_of_laid hL) hF hWd lT hU hXd lU h0 h1 la lb).mono fun e W2 ⟨he, bel⟩ => ?_
  subst he
  exact ⟨_, rfl, _, _, _, [], _, [], hW', trodAll_mk1 (shut_bool Tryd.underlying4 _), (trodAll_cons_mk (Below.trod laidOut (by kernel_rfl) (of_decide_eq_true (by kernel_rfl)) k0 bel lt0) (trodAll_cons_mk (Below.trod laidOut (by kernel_rfl) (of_decide_eq_true (by kernel_rfl)) k1 bel lt1) (trodAll_cons_mk (Below.trod laidOut (by kernel_rfl) (of_decide_eq_true (by kernel_rfl)) k2 bel lt2) (trodAll_cons_mk (Below.trod laidOut (by kernel_rfl) (of_decide_eq_true (by kernel_rfl)) k3 bel lt3) trodAll_mk0)))), rfl, bel.frame _, fun h => by cases h⟩

theorem row_holds : Rows.FnExactFirstDigitApartSaid :=
  OpenClaim.holds_of_wide 4 Tryd.f4 rfl rfl rfl rfl rfl rfl rfl ⟨rfl, rfl, rfl, rfl, rfl⟩ rfl rfl rfl rfl rfl (by kernel_rfl) Tryd.func4 (by kernel_rfl)
    (of_decide_eq_true (by kernel_rfl)) (by unfold Func.isWrapper; rw [if_neg (of_decide_eq_false (by kernel_rfl))]; exact ⟨rfl, rfl⟩)
    (fun os started H enc _ => lifted os started H enc)

theorem proved : Rows.FnExactFirstDigitApartCardSaid :=
  Claim7.holds_tied_plain_at .later [] [.handle] true (true, "c04b7cf48d67a0321efeae7a718e9182796eb515f36b427871c19114d019cc47") true
    row_holds (fun _ h => by cases h) (by kernel_rfl) (fun _ h => by cases h) Go.Proofs.YtingfbohkchgbaaDoor.fnExactFirstDigitApart_row_tie rfl ⟨rfl, rfl⟩ (by kernel_rfl) rfl
    (fun f fn hf hfn => by
      obtain rfl : f = 4 := Option.some.inj ((show Tryd.prog.funcNamed "loop.example/g01242/laws.FnExactFirstDigitApart" = some 4 by kernel_rfl).symm.trans hf) |>.symm
      obtain rfl : fn = Tryd.f4 := (Option.some.inj (Tryd.func4.symm.trans hfn)).symm
      exact ⟨by kernel_rfl, fun j t ht => by
        rw [Tryd.params4] at ht
        have hm : t ∈ [24, 27, 2] := by simpa using Array.mem_of_getElem? ht
        have hall : ([24, 27, 2].all fun u => !Tryd.prog.wantsStandIn u) = true := by kernel_rfl
        exact (show Tryd.prog.wantsStandIn t = false by simpa using List.all_eq_true.1 hall t hm)⟩)
    (by kernel_rfl)
end Go.Proofs.YtingfbohkchgbaaDoor.fnExactFirstDigitApart
