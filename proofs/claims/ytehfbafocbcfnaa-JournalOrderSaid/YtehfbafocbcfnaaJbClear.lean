/- The landed journal: what stands behind is cleared. -/
import Derived.Test.YtehfbafocbcfnaaJbPut
namespace Go.Proofs.Ytehfbafocbcfnaa
open Go Go.RowKit
set_option linter.unusedVariables false

theorem zeros_new (w : World) (m : Nat) : Cells (w.alloc (Obj.cells (Array.replicate m (Value.int .u8 0)) 5)) (some ⟨w.heap.size, 0, none⟩) m ((List.replicate m 0).map b8) := by
  have h := Row.new w (List.replicate m (Value.int .u8 0)) 5
  rw [List.toArray_replicate] at h
  have h2 := h.cells
  rw [List.length_replicate] at h2
  have e : (List.replicate m 0).map b8 = List.replicate m (Value.int .u8 0) := by rw [List.map_replicate]; rfl
  rw [e]
  exact h2

set_option maxRecDepth 100000 in
set_option maxHeartbeats 16000000 in
theorem clear_any {n g h t : Nat} {s : Dsk} {K e : Nat} (a : Option Addr) (m c : Nat) (rest : List Nat) (w : World) (H : Putting n g h t s K e a m rest w w) (hK : ¬ foot g h t K) (hf : ∀ x, a = some x → m = 0 ∨ ¬ foot g h t x.block)
    (h256 : ∀ x ∈ rest, x < 256) (hm : e + m ≤ 64 * n) :
    Calls Try.prog 42 #[.pointer (some ⟨K, 0, none⟩), .slice a m c] w fun ed w' => ed = .returned .nilIface ∧ Only (foot g h t) w w' ∧
      DAt n g h t (if rest.any (· != 0) = true then (s.write e (List.replicate m 0)).sync else s) w' := by
  have hn := H.dk.ok.2.2.2
  have hcf := containsFunc_any a m c rest w H.bs h256 (by omega)
  obtain ⟨o, ho⟩ : ∃ o, rest.any (· != 0) = o := ⟨_, rfl⟩
  rw [ho] at hcf ⊢
  have H0 := Lib.hid H
  have HK := Lib.hid hK
  have HF := Lib.hid hf
  have hT := Lib.hid (H.up (Below.drew (Below.refl _ _)))
  clear H hK hf h256 ho
  cases o
  · go_enter Try.func42, Try.ntmps42
    go_wp2_with fail
    refine hcf.mono ?_
    rintro ed w1 ⟨rfl, rfl⟩
    go_wp2_with fail
    go_ret
    exact ⟨rfl, Only.refl _ _, H0.out.dk⟩
  · have hm1 := run_make_row' (P := Try.prog) 27 5 (.int .u8 0) 1 Try.underlying27 info_u8 rfl .i64 .i64 m (by omega) (by omega)
    simp only [made_rep, List.toArray_replicate] at hm1
    have hba : Below w.heap.size w (w.alloc (Obj.cells (Array.replicate m (Value.int .u8 0)) 5)).drew := Below.drew ((Below.refl _ _).alloc (Nat.le_refl _) _)
    have HTA := Lib.hid (H0.out.up hba)
    have HCZ : Hid (Cells (w.alloc (Obj.cells (Array.replicate m (Value.int .u8 0)) 5)).drew (some ⟨w.heap.size, 0, none⟩) m ((List.replicate m 0).map b8)) := (zeros_new w m).upB (Below.drew (Below.refl _ _))
    clear hba
    have HFN : Hid (∀ x, some (⟨w.heap.size, 0, none⟩ : Addr) = some x → m = 0 ∨ ¬ foot g h t x.block) := far_new H0.out.dk.lt
    have c0 := hT.out.c0
    go_enter Try.func42, Try.ntmps42
    go_wp2_with fail
    refine hcf.mono ?_
    rintro ed w1 ⟨rfl, rfl⟩
    go_wp2_with fail
    go_region_held3 (fun w' => w'.cell? ⟨K, 0, none⟩ = some (.pointer (some ⟨g, 0, none⟩)) ∧ w'.cell? ⟨K, 2, none⟩ = some (.int .i64 (e : Int)))
      (first | exact ⟨hT.out.c0, hT.out.c2⟩ | exact ⟨HTA.out.c0, HTA.out.c2⟩)
      (first
        | (go_at_call 15; with_reducible refine (write_yes (e : Int) e rfl _ m m (List.replicate m 0) _ HTA.out.dk HCZ.out HFN.out hm).mono ?_; rintro ed w4 ⟨rfl, hd4, ho4⟩; have hT := Lib.hid (HTA.out.turn HK.out HF.out hd4 ho4); clear hd4 ho4))
    have c0 := hT.out.c0
    go_wp2_with fail
    refine (sync_yes _ hT.out.dk).mono ?_
    rintro ed w5 ⟨rfl, hd5, ho5⟩
    have hT := Lib.hid (hT.out.turn HK.out HF.out hd5 ho5)
    clear hd5 ho5
    go_wp2_with fail
    go_ret
    exact ⟨by simp, hT.out.only, hT.out.dk⟩
end Go.Proofs.Ytehfbafocbcfnaa
