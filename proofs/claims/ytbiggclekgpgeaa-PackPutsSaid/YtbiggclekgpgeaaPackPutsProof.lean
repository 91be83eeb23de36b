/- PackPuts: for every input the Go function answers true, and each argument reads behind the call as it read before. Conditions: none beyond the row's own. -/
import Derived.Test.YtbiggclekgpgeaaRows
import Derived.Test.YtbiggclekgpgeaaFrame
import Derived.Test.YtbiggclekgpgeaaFrame2
import Derived.Test.YtbiggclekgpgeaaPackRow
import Derived.Test.YtbiggclekgpgeaaPack
import Derived.Test.YtbiggclekgpgeaaPackL1
import Derived.WalkKit
import Derived.ProofKit
import Derived.OpenShut
import Derived.ShutString
import Derived.ChangeOld
import Derived.Below
import Derived.Lib.SmallJoins
namespace Go.Proofs.Ytbiggclekgpgeaa.packPuts
open Go Go.ChangeShapes Go.WideShapes Go.ChangeAt Go.RowKit
open Go.ChangeMaps (open_string shut_string)
set_option linter.unusedVariables false

theorem own : ownKnob Try.prog.godebug = none := by kernel_rfl
theorem laidOut : laidOutB Try.prog = true := by kernel_rfl

theorem open_struct24 {H : Type} {enc : TypeId × Value → H} {W : World} {base : Nat} {v : Value} {d : DataW H} {p : List MemPlace} (hv : Value.okWide Try.prog W .any base 24 v) (h : DataW.Trod enc Try.prog W 0 (fun _ => true) true 24 v d p) :
    ∃ (b0 : Int) (b1 : Int) (b2 : Int) (b3 : Option Addr) (l3 c3 : Nat) (z3 : List Int), v = .agg #[.int .i64 b0, .int .i64 b1, .int .i64 b2, .slice b3 l3 c3] ∧ (Lit.int .i64 b0).wf = true ∧ (Lit.int .i64 b1).wf = true ∧ (Lit.int .i64 b2).wf = true ∧ IsRow .i64 W b3 l3 c3 z3 := by
  obtain ⟨cs, rfl, hsz⟩ := okWide_struct Try.underlying24 hv
  obtain ⟨fuel, hf⟩ := h
  rw [show Try.prog.cellsOf 24 = 4 by kernel_rfl] at hsz
  obtain ⟨l⟩ := cs
  match l, hsz with
  | [y0, y1, y2, y3], _ =>
    obtain ⟨b0, e0, k0⟩ := int_of_struct Try.underlying24 hf 0 _ rfl Try.underlying3 (by kernel_rfl)
    obtain ⟨b1, e1, k1⟩ := int_of_struct Try.underlying24 hf 1 _ rfl Try.underlying2 (by kernel_rfl)
    obtain ⟨b2, e2, k2⟩ := int_of_struct Try.underlying24 hf 2 _ rfl Try.underlying3 (by kernel_rfl)
    obtain ⟨b3, l3, c3, z3, e3, k3⟩ := ints_of_struct Try.underlying24 hf 3 _ rfl Try.underlying22 Try.underlying2 (by kernel_rfl) (by kernel_rfl)
    obtain rfl : y0 = _ := by simpa [Value.cells] using e0
    obtain rfl : y1 = _ := by simpa [Value.cells] using e1
    obtain rfl : y2 = _ := by simpa [Value.cells] using e2
    obtain rfl : y3 = _ := by simpa [Value.cells] using e3
    exact ⟨b0, b1, b2, b3, l3, c3, z3, rfl, k0, k1, k2, k3⟩

set_option maxRecDepth 100000 in
theorem lifted (os : Os) (started : os.Started) (H : Type) (enc : TypeId × Value → H) :
    ReturnsInHanded {} Try.checked os 3 .any (Rows.packPutsSpec.pre6 enc Try.prog Try.f3 Rows.packPutsRow.domain false) (Rows.packPutsSpec.post enc Try.prog Try.f3 false true false false) := by
  refine returnsInHanded_of_change (C := Try.checked) own started (by kernel_rfl) Try.func3
    (ChangeSpec.witness6 (enc := enc) (C := Try.checked) false ⟨#[], #[.agg #[.int .i64 0, .int .i64 0, .int .i64 0, .slice none 0 0]], []⟩ 8 (by kernel_rfl) (by kernel_rfl) (by kernel_rfl) (by kernel_rfl)) ?_
  intro W base args ds gs before hval0 hW hcnd _
  have hval : ∀ (j : Nat) t v, Try.f3.params[j]? = some t → args[j]? = some v → Value.okWide Try.prog W .any base t v := hval0
  have hW' := hW
  obtain ⟨p, q, hA0, hV, rfl, hfz, hnd⟩ := hW
  have hA : DataW.TrodAll enc Try.prog W 0 (fun _ => true) true Try.f3.params.toList args.toList ds p := hA0
  rw [Try.params3] at hA hval
  obtain ⟨v0, vs0, d0, ds0, p0, q0, hargs, rfl, rfl, h0, r0⟩ := trodAll_cons hA
  obtain ⟨rfl, rfl, rfl⟩ := trodAll_nil r0
  obtain rfl : args = #[v0] := by cases args; simp_all
  obtain ⟨rfl, rfl⟩ := trodVars_none hV
  have k0 := h0
  have lt0 : ∀ x ∈ p0, x.block < W.heap.size := by obtain ⟨m, hm⟩ := k0; exact DataW.trod_lt m _ _ _ hm
  obtain ⟨a0_0, a0_1, a0_2, a0_3, la0_3, ca0_3, z0_3, rfl, w0_0, w0_1, w0_2, w0_3⟩ := open_struct24 (hval 0 24 v0 rfl rfl) h0
  clear hA0 hval0
  have walk : Calls Try.prog 3 #[.agg #[.int .i64 a0_0, .int .i64 a0_1, .int .i64 a0_2, .slice a0_3 la0_3 ca0_3]] W fun e w' => e = .returned (.bool true) ∧ Below W.heap.size W w' := by
    obtain ⟨hE, hle, hm⟩ := row_elems w0_3
    exact packPuts_walk (Lib.hid pack_any) a0_0 a0_1 a0_2 a0_3 la0_3 ca0_3 _ W (i64_bounds w0_0) (i64_bounds w0_1) (i64_bounds w0_2) hE hle
  refine walk.mono fun e W' ⟨he, bel⟩ => ?_
  subst he
  exact ⟨_, rfl, _, _, _, [], _, [], hW', trodAll_mk1 (shut_bool Try.underlying4 _), (trodAll_cons_mk (Below.trod laidOut (by kernel_rfl) (of_decide_eq_true (by kernel_rfl)) k0 bel lt0) trodAll_mk0), rfl, bel.frame _, fun h => by cases h⟩

theorem over : Rows.packPutsRow.holds Try.pinned (OpenSpec.ofChange Rows.packPutsSpec) :=
  OpenClaim.holds_of_wide 3 Try.f3 rfl rfl rfl rfl rfl rfl rfl ⟨rfl, rfl, rfl, rfl, rfl⟩ rfl rfl rfl rfl rfl (by kernel_rfl) Try.func3 (by kernel_rfl)
    (of_decide_eq_true (by kernel_rfl)) (by unfold Func.isWrapper; first | (rw [if_pos (by decide +kernel)]; kernel_rfl) | (rw [if_neg (by decide +kernel)]; exact ⟨rfl, rfl⟩))
    (fun os started H enc _ => lifted os started H enc)

theorem proved : Rows.PackPutsSaid := over
#print axioms proved
end Go.Proofs.Ytbiggclekgpgeaa.packPuts
