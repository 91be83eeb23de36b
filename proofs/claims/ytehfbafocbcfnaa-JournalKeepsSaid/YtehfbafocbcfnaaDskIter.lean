/- The keys of the map of blocks, sorted; a copy of bytes: the library's contracts at this dump. -/
import Derived.Test.YtehfbafocbcfnaaIter
import Derived.Test.YtehfbafocbcfnaaDskLaw
namespace Go.Proofs.Ytehfbafocbcfnaa
open Go Go.RowKit Go.Maps Go.Sort Go.Shelf
set_option linter.unusedVariables false

theorem sorts_any (m : Nat) : AnyZI.SortsIn Try.prog Try.sortedA_ren Fence.wide m :=
  ⟨fun blk off cap ss W hH hblk hsz => callsIn_wide.2 (AnyM.slices_Sort_int Try.sortA blk off cap ss W hH hblk hsz),
   fun p cap W => callsIn_wide.2 (AnyM.slices_Sort_int_none Try.sortA p cap W)⟩

theorem keys_any (mb : Option Nat) (W : World) : Calls Try.prog 49 #[.map mb] W fun e w' =>
    e = .returned (.func (.func 57) #[] #[.pointer (some ⟨W.heap.size, 0, none⟩)]) ∧ w' = W.alloc (.cells #[.map mb] 71) :=
  (callsIn_wide (n := 5)).1 (AnyZI.keys_in Try.keysA Fence.wide 5 trivial rfl mb W)

set_option maxHeartbeats 1000000 in
theorem sorted_any {H : Type} (b nn : Nat) (D0 : DataW H) (R : Value → Option (DataW H × List MemPlace)) (w : World) (hown : w.ownsMap Try.prog 3 R b nn D0) (hmax : Maps.size D0 ≤ 1024) :
    Calls Try.prog 48 #[.func (.func 57) #[] #[.pointer (some ⟨w.heap.size, 0, none⟩)]] (w.alloc (.cells #[.map (some b)] 71)) fun e w' => ∃ (v : Value) (ss : List Int), e = .returned v ∧ ss.Perm (intKeys D0) ∧
      w'.ownsRow (w.alloc (.cells #[.map (some b)] 71)).heap.size 3 1 v ss.length ((ss.mergeSort (fun x y => decide (x ≤ y))).map encZ) ∧ Below (w.alloc (.cells #[.map (some b)] 71)).heap.size (w.alloc (.cells #[.map (some b)] 71)) w' := by
  have hbl := hown.lt
  have hseq : SeqGives Fence.wide 2 Try.prog 57 #[.pointer (some ⟨w.heap.size, 0, none⟩)] encZ (fun ss => ss.Perm (intKeys D0)) (Maps.size D0) (w.alloc (.cells #[.map (some b)] 71)) :=
    AnyZI.keys_gives (ρ := Try.keysA_ren) { Try.keysA with } Fence.wide _ trivial rfl (by omega) w.heap.size b nn D0 _ (by simp) (by simp) (by
      obtain ⟨es, clock, hb, Ft, hs, hD⟩ := hown
      exact ⟨es, clock, (Below.heap_alloc _ _ b hbl).trans hb, Ft, hs, hD⟩)
  have cS := AnyZI.sorted_in Try.sortedA Fence.wide 5 trivial trivial trivial trivial rfl (by omega) (sorts_any _) (enters_of Try.func56 (by kernel_rfl) rfl) 57 #[.pointer (some ⟨w.heap.size, 0, none⟩)] trivial
    (enters_of Try.func57 (by kernel_rfl) rfl) _ _ (by unfold maxLen; omega) (by omega) _ hseq
  refine ((callsIn_wide (n := 5)).1 cS).mono ?_
  rintro e w' ⟨v, ss, rfl, hS, hrow, -, hb⟩
  exact ⟨v, ss, rfl, hS, hrow, hb⟩

/-- a copy of bytes -/
theorem clone_any (b off n c : Nat) (bs : List Nat) (w : World) (hl : bs.length = n) (hn : n ≤ 65536) (hc : ∀ j, j < n → w.cell? ⟨b, off + j, none⟩ = some (b8 (bs.getD j 0))) :
    Calls Try.prog 45 #[.slice (some ⟨b, off, none⟩) n c] w fun e w' => ∃ v, e = .returned v ∧ w'.ownsRow w.heap.size 5 1 v n (bs.map b8) ∧ Below w.heap.size w w' := by
  have hi : ∃ i0 : TypeInfo, Try.prog.info? 5 = some i0 ∧ i0.zero = some (.int .u8 0) ∧ i0.size = 1 ∧ i0.bytes = 1 := by
    have h := info_u8
    cases hh : Try.prog.info? 5 with
    | none => rw [hh] at h; cases h
    | some i0 => rw [hh] at h; simp at h; exact ⟨i0, rfl, h.1, h.2.1, h.2.2⟩
  obtain ⟨i0, hi, hz0, hz1, hz2⟩ := hi
  refine (AnyE.slices_Clone Try.cloneA i0 (.int .u8 0) 1 1 hi hz0 hz1 hz2 rfl (by omega) Try.sizeOf5 b off n c (bs.map b8) w (by simp [hl]) (by unfold maxLen; omega) (by omega) ?_ (b8_one bs)).mono ?_
  · intro j u hj
    rw [List.getElem?_map] at hj
    cases hg : bs[j]? with
    | none => rw [hg] at hj; cases hj
    | some x =>
      rw [hg] at hj
      have hx : j < bs.length := (List.getElem?_eq_some_iff.1 hg).1
      rw [hc j (by omega), List.getD_eq_getElem?_getD, hg]
      exact hj
  · rintro e w' ⟨v, rfl, ho, -, hb⟩
    exact ⟨v, rfl, ho, hb⟩
end Go.Proofs.Ytehfbafocbcfnaa
