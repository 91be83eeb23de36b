/- The landed journal's helpers: is a byte no 0? -/
import Derived.Test.YtehfbafocbcfnaaJbHead
namespace Go.Proofs.Ytehfbafocbcfnaa
open Go Go.RowKit
set_option linter.unusedVariables false

abbrev oddF : Value := .func (.func 54) #[] #[]

set_option maxHeartbeats 4000000 in
theorem oddF_any (x : Nat) (hx : x < 256) (w : World) : Calls Try.prog 54 #[.int .u8 (x : Int)] w fun e w' => e = .returned (.bool (x != 0)) ∧ w' = w := by
  go_enter Try.func54, Try.ntmps54
  go_wp2_with fail
  go_ret
  refine ⟨?_, rfl⟩
  by_cases h : x = 0
  · subst h; rfl
  · have h1 : (x != 0) = true := by simpa using h
    have h2 : ((x : Int) != 0) = true := by simp; omega
    rw [h1]
    simp [h]

set_option maxHeartbeats 4000000 in
theorem indexFunc_any (a : Option Addr) (m c : Nat) (bs : List Nat) (w : World) (h : Cells w a m (bs.map b8)) (hb : ∀ x ∈ bs, x < 256) (hm : m ≤ 1000000) :
    Calls Try.prog 58 #[.slice a m c, oddF] w fun e w' => w' = w ∧ ∃ k : Int, e = .returned (.int .i64 k) ∧ (decide (0 ≤ k)) = bs.any (· != 0) ∧ -1 ≤ k ∧ k ≤ 1000000 := by
  have hl : bs.length = m := by have := h.1; rwa [List.length_map] at this
  have HL := Lib.hid hl
  have HC := Lib.hid h
  have HB := Lib.hid hb
  clear h hl hb
  go_enter Try.func58, Try.ntmps58
  go_wp2_with fail
  go_loopw [8] (fun i wr => ∃ (j : Nat), j ≤ m ∧ i = .int .i64 (j : Int) ∧ wr = w ∧ Hid ((bs.take j).any (· != 0) = false)) (fun i _ => m - (RowKit.intOf i).toNat)
  case atStart => exact ⟨0, by omega, rfl, rfl, by rfl⟩
  case round =>
    obtain ⟨j, hj, rfl, rfl, hz⟩ := hrel
    by_cases hlt : j < m
    · obtain ⟨b, off, rfl, hcell⟩ := HC.out.2.resolve_left (by omega)
      have hcj := hcell j hlt
      have hsn : (bs.take (j + 1)).any (· != 0) = (bs.getD j 0 != 0) := by
        rw [take_snoc bs j (by rw [HL.out]; exact hlt), List.any_append, hz.out]; simp
      have hx256 : bs.getD j 0 < 256 := HB.out _ (by simp [List.getD, show j < bs.length by rw [HL.out]; exact hlt])
      rw [show (bs.map b8).getD j undef = b8 (bs.getD j 0) by simp [List.getD, show j < bs.length by rw [HL.out]; exact hlt]] at hcj
      have hmem : bs.getD j 0 ∈ bs := by simp [List.getD, show j < bs.length by rw [HL.out]; exact hlt]
      obtain ⟨x, hx⟩ : ∃ x, bs.getD j 0 = x := ⟨_, rfl⟩
      rw [hx] at hcj hsn hx256 hmem
      simp only [b8] at hcj
      have t6 : (j : Int) < (m : Int) := by omega
      have t7 : (0 : Int) ≤ (j : Int) := by omega
      have s9 : IntKind.i64.wrap ((j : Int) + 1) = (j : Int) + 1 := IntWalk.i64_in _ (by omega)
      have HSN := Lib.hid hsn
      have HMEM := Lib.hid hmem
      clear hcell hx hsn hmem
      go_wp2_with fail
      refine (oddF_any x hx256 _).mono ?_
      rintro e w1 ⟨rfl, rfl⟩
      by_cases hx0 : x = 0
      · subst hx0
        go_wp2_with fail
        go_roundw
        case rel => exact ⟨j + 1, by omega, by go_num, trivial, HSN.out⟩
        case measure => simp [RowKit.intOf]; omega
      · have h1 : (x != 0) = true := by simpa using hx0
        rw [h1]
        have hany : bs.any (· != 0) = true := List.any_eq_true.2 ⟨x, HMEM.out, h1⟩
        have HA := Lib.hid hany
        clear hany h1
        go_wp2_with fail
        go_ret
        exact ⟨rfl, (j : Int), rfl, by rw [HA.out]; simp, by omega, by omega⟩
    · obtain rfl : j = m := by omega
      have hall : bs.any (· != 0) = false := by have := hz.out; rwa [List.take_of_length_le (by rw [HL.out]; omega)] at this
      go_wp2_with fail
      go_ret
      exact ⟨rfl, -1, rfl, by rw [hall]; rfl, by omega, by omega⟩

set_option maxHeartbeats 4000000 in
theorem containsFunc_any (a : Option Addr) (m c : Nat) (bs : List Nat) (w : World) (h : Cells w a m (bs.map b8)) (hb : ∀ x ∈ bs, x < 256) (hm : m ≤ 1000000) :
    Calls Try.prog 53 #[.slice a m c, oddF] w fun e w' => e = .returned (.bool (bs.any (· != 0))) ∧ w' = w := by
  have hi := indexFunc_any a m c bs w h hb hm
  obtain ⟨o, ho⟩ : ∃ o, bs.any (· != 0) = o := ⟨_, rfl⟩
  rw [ho]
  rw [ho] at hi
  clear h hb ho
  go_enter Try.func53, Try.ntmps53
  go_wp2_with fail
  refine hi.mono ?_
  rintro e w1 ⟨rfl, k, rfl, hk, hk1, hk2⟩
  subst hk
  by_cases h0 : 0 ≤ k
  · go_wp2_with fail
    go_ret
    exact ⟨by simp [h0], rfl⟩
  · go_wp2_with fail
    go_ret
    exact ⟨by simp, rfl⟩
end Go.Proofs.Ytehfbafocbcfnaa
