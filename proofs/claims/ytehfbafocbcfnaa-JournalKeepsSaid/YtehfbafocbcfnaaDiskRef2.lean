/- The contracts of the document's answer of layer 7: what stands. -/
import Derived.Test.YtehfbafocbcfnaaDiskRef1
namespace Go.Proofs.Ytehfbafocbcfnaa
open Go Go.RowKit
set_option linter.unusedVariables false

set_option maxHeartbeats 8000000 in
theorem refSettle_any (n : Nat) (G : Lies) (s : Dsk) (w : World) (h : MAt n G s w) :
    Calls Try.prog 43 #[.pointer (some ⟨G.g0, 0, none⟩)] w fun e w' => e = .returned (.tuple #[]) ∧ MAt n G ⟨s.st, s.st, List.replicate n false⟩ w' ∧ Only G.all w w' := by
  have hn := h.ok.2.2.2
  obtain ⟨l1, l2, l3, -⟩ := h.ok
  have L1 := Lib.hid l1
  have L2 := Lib.hid l2
  have L3 := Lib.hid l3
  have H := Lib.hid h
  clear l1 l2 l3 h
  go_enter Try.func43, Try.ntmps43
  go_wp2_with fail
  go_loopw [2] (fun i wr => ∃ (j : Nat), j ≤ 64 * n ∧ i = .int .i64 (j : Int) ∧ Hid (MAt n G ⟨s.st, cpyN s.nw s.st j, s.di⟩ wr) ∧ Hid (Only G.all w wr)) (fun i _ => 64 * n - (RowKit.intOf i).toNat)
  case atStart => exact ⟨0, by omega, rfl, H, Only.refl _ _⟩
  case round =>
    obtain ⟨j, hj, rfl, hA, hO⟩ := hrel
    obtain ⟨c0, c1, c2⟩ := hA.out.cells
    by_cases hlt : j < 64 * n
    · have hb1 : wr.cell? ⟨G.g1, j, none⟩ = some (.int .u8 ((s.st.getD j 0 : Nat) : Int)) := hA.out.r1.byte (by have := L2.out; simpa [this] using hlt)
      have hb2 := hA.out.r2.byte (j := j) (by have := hA.out.ok.2.2.1; simp only at this ⊢; omega)
      have hf2 := hA.out.r2.frozen j
      obtain ⟨x, hx⟩ : ∃ x, s.st.getD j 0 = x := ⟨_, rfl⟩
      obtain ⟨y, hy⟩ : ∃ y, (cpyN s.nw s.st j).getD j 0 = y := ⟨_, rfl⟩
      simp only at hb2
      rw [hx] at hb1
      rw [hy] at hb2
      have HX := Lib.hid hx
      clear hx hy
      have t6 : (j : Int) < 64 * (n : Int) := by omega
      have t7 : (0 : Int) ≤ (j : Int) := by omega
      go_wp2_with fail
      go_region
      go_wp2_with fail
      go_roundw
      case rel => exact ⟨j + 1, by omega, by go_num, by
          have := (hA.out.nw j x).drewN 1
          rw [← HX.out] at this ⊢
          exact this, (hO.out.setCell (Or.inr (Or.inr (Or.inl rfl))) _).drew⟩
      case measure => simp [RowKit.intOf]; omega
    · obtain rfl : j = 64 * n := by omega
      have hcp : cpyN s.nw s.st (64 * n) = s.st := by
        have := cpyN_all s.nw s.st (by rw [L3.out, L2.out])
        rwa [L3.out] at this
      rw [hcp] at hA
      have hlt' : ¬ ((64 : Int) * (n : Int) < 64 * (n : Int)) := by omega
      clear hcp hlt hj H
      go_wp2_with fail
      obtain ⟨W8, rfl⟩ : ∃ W8, W8 = wr := ⟨_, rfl⟩
      go_loopw [3] (fun i wr => ∃ (j : Nat), j ≤ n ∧ i = .int .i64 (j : Int) ∧ Hid (MAt n G ⟨s.st, s.st, clrN s.di j⟩ wr) ∧ Hid (Only G.all w wr)) (fun i _ => n - (RowKit.intOf i).toNat)
      case atStart => exact ⟨0, by omega, rfl, hA, hO⟩
      case round =>
        obtain ⟨j, hj, rfl, hA, hO⟩ := hrel
        obtain ⟨c0, c1, c2⟩ := hA.out.cells
        by_cases hlt : j < n
        · have hb3 := hA.out.r3.bit (j := j) (by have := hA.out.ok.1; simp only at this ⊢; omega)
          have hf3 := hA.out.r3.frozen j
          obtain ⟨y, hy⟩ : ∃ y, (clrN s.di j).getD j false = y := ⟨_, rfl⟩
          simp only at hb3
          rw [hy] at hb3
          clear hy
          have t6 : (j : Int) < (n : Int) := by omega
          have t7 : (0 : Int) ≤ (j : Int) := by omega
          go_wp2_with fail
          go_roundw
          case rel => exact ⟨j + 1, by omega, by go_num, hA.out.di j false, hO.out.setCell (Or.inr (Or.inr (Or.inr rfl))) _⟩
          case measure => simp [RowKit.intOf]; omega
        · obtain rfl : j = n := by omega
          have hcl : clrN s.di j = List.replicate j false := by
            have := clrN_all s.di
            rwa [L1.out] at this
          rw [hcl] at hA
          clear hcl
          go_wp2_with fail
          go_end0
          exact ⟨rfl, hA.out, hO.out⟩

set_option maxHeartbeats 8000000 in
theorem refSync_any (n : Nat) (G : Lies) (s : Dsk) (w : World) (h : MAt n G s w) :
    Calls Try.prog 20 #[.pointer (some ⟨G.g0, 0, none⟩)] w fun e w' => e = .returned (.tuple #[]) ∧ MAt n G s.sync w' ∧ Only G.all w w' := by
  have hn := h.ok.2.2.2
  obtain ⟨l1, l2, l3, -⟩ := h.ok
  have L1 := Lib.hid l1
  have L2 := Lib.hid l2
  have L3 := Lib.hid l3
  have H := Lib.hid h
  clear l1 l2 l3 h
  go_enter Try.func20, Try.ntmps20
  go_wp2_with fail
  go_loopw [2] (fun i wr => ∃ (j : Nat), j ≤ 64 * n ∧ i = .int .i64 (j : Int) ∧ Hid (MAt n G ⟨cpyN s.st s.nw j, s.nw, s.di⟩ wr) ∧ Hid (Only G.all w wr)) (fun i _ => 64 * n - (RowKit.intOf i).toNat)
  case atStart => exact ⟨0, by omega, rfl, H, Only.refl _ _⟩
  case round =>
    obtain ⟨j, hj, rfl, hA, hO⟩ := hrel
    obtain ⟨c0, c1, c2⟩ := hA.out.cells
    by_cases hlt : j < 64 * n
    · have hb1 : wr.cell? ⟨G.g2, j, none⟩ = some (.int .u8 ((s.nw.getD j 0 : Nat) : Int)) := hA.out.r2.byte (by have := L3.out; simpa [this] using hlt)
      have hb2 := hA.out.r1.byte (j := j) (by have := hA.out.ok.2.1; simp only at this ⊢; omega)
      have hf2 := hA.out.r1.frozen j
      obtain ⟨x, hx⟩ : ∃ x, s.nw.getD j 0 = x := ⟨_, rfl⟩
      obtain ⟨y, hy⟩ : ∃ y, (cpyN s.st s.nw j).getD j 0 = y := ⟨_, rfl⟩
      simp only at hb2
      rw [hx] at hb1
      rw [hy] at hb2
      have HX := Lib.hid hx
      clear hx hy
      have t6 : (j : Int) < 64 * (n : Int) := by omega
      have t7 : (0 : Int) ≤ (j : Int) := by omega
      go_wp2_with fail
      go_region
      go_wp2_with fail
      go_roundw
      case rel => exact ⟨j + 1, by omega, by go_num, by
          have := (hA.out.st j x).drewN 1
          rw [← HX.out] at this ⊢
          exact this, (hO.out.setCell (Or.inr (Or.inl rfl)) _).drew⟩
      case measure => simp [RowKit.intOf]; omega
    · obtain rfl : j = 64 * n := by omega
      have hcp : cpyN s.st s.nw (64 * n) = s.nw := by
        have := cpyN_all s.st s.nw (by rw [L3.out, L2.out])
        rwa [L2.out] at this
      rw [hcp] at hA
      have hlt' : ¬ ((64 : Int) * (n : Int) < 64 * (n : Int)) := by omega
      clear hcp hlt hj H
      go_wp2_with fail
      refine (refSettle_any n G _ _ hA.out).mono ?_
      rintro e w2 ⟨rfl, hA2, hO2⟩
      have HA2 := Lib.hid hA2
      have HO2 := Lib.hid (hO.out.trans hO2)
      clear hA2 hO2
      go_wp2_with fail
      go_end0
      exact ⟨rfl, by rw [Dsk.sync, L1.out]; exact HA2.out, HO2.out⟩

set_option maxHeartbeats 8000000 in
theorem refWrite7_any (n : Nat) (G : Lies) (s : Dsk) (p : Nat) (a : Option Addr) (m c : Nat) (bs : List Nat) (w : World) (h : MAt n G s w) (hb : Cells w a m (bs.map b8)) (hfar : ∀ x, a = some x → m = 0 ∨ ¬ G.all x.block) (hc : m ≤ c) (hp : p + m ≤ 64 * n) :
    Calls Try.prog 19 #[.pointer (some ⟨G.g0, 0, none⟩), .int .i64 (p : Int), .slice a m c] w fun e w' => e = .returned (.tuple #[]) ∧ MAt n G (s.write p bs) w' ∧ Only G.all w w' := by
  have hn := h.ok.2.2.2
  have hbl : bs.length = m := by have := hb.1; rwa [List.length_map] at this
  have HBL := Lib.hid hbl
  have H := Lib.hid h
  have HB : Hid (∀ W, Only G.all w W → ∀ j, j < m → ∃ b off, a = some ⟨b, off, none⟩ ∧ W.cell? ⟨b, off + j, none⟩ = some (.int .u8 ((bs.getD j 0 : Nat) : Int))) := fun W hW j hj => by
    rcases hb.2 with h0 | ⟨b, off, e, hcc⟩
    · omega
    · refine ⟨b, off, e, ?_⟩
      have hcj := hcc j hj
      have hF : ¬ G.all b := (hfar _ e).resolve_left (by omega)
      rw [World.cell?_of_block (w := w) (hW.block b (cell_lt hcj) hF), hcj]
      simp [List.getD, b8, show j < bs.length by omega]
  clear h hb hfar hbl
  go_enter Try.func19, Try.ntmps19
  go_wp2_with fail
  go_loopw [6] (fun i wr => ∃ (j : Nat), j ≤ m ∧ i = .int .i64 (j : Int) ∧ Hid (MAt n G ⟨s.st, putN s.nw p bs j, dirN s.di p j⟩ wr) ∧ Hid (Only G.all w wr)) (fun i _ => m - (RowKit.intOf i).toNat)
  case atStart => exact ⟨0, by omega, rfl, H, Only.refl _ _⟩
  case round =>
    obtain ⟨j, hj, rfl, hA, hO⟩ := hrel
    obtain ⟨c0, c1, c2⟩ := hA.out.cells
    by_cases hlt : j < m
    · obtain ⟨b, off, rfl, hb1⟩ := HB.out _ hO.out j hlt
      have hb2 := hA.out.r2.byte (j := p + j) (by have := hA.out.ok.2.2.1; simp only at this ⊢; omega)
      have hf2 := hA.out.r2.frozen (p + j)
      obtain ⟨x, hx⟩ : ∃ x, bs.getD j 0 = x := ⟨_, rfl⟩
      obtain ⟨y, hy⟩ : ∃ y, (putN s.nw p bs j).getD (p + j) 0 = y := ⟨_, rfl⟩
      simp only at hb2
      rw [hx] at hb1
      rw [hy] at hb2
      have HX := Lib.hid hx
      clear hx hy
      have t6 : (j : Int) < (m : Int) := by omega
      have t7 : (0 : Int) ≤ (j : Int) := by omega
      have t8 : IntKind.i64.wrap ((p : Int) + (j : Int)) = ((p + j : Nat) : Int) := by rw [IntWalk.i64_in _ (by omega)]; omega
      have t9 : ((p + j : Nat) : Int) < 64 * (n : Int) := by omega
      have t10 : (0 : Int) ≤ ((p + j : Nat) : Int) := by omega
      go_wp2_with fail
      go_region
      have hA2 := Lib.hid ((hA.out.nw (p + j) x).drewN 1)
      have hO2 : Hid (Only G.all w ((wr.setCell ⟨G.g2, p + j, none⟩ (.int .u8 (x : Int))).drewN 1)) := (hO.out.setCell (Or.inr (Or.inr (Or.inl rfl))) _).drewN 1
      obtain ⟨W2, hW2⟩ : ∃ W2, W2 = (wr.setCell ⟨G.g2, p + j, none⟩ (.int .u8 (x : Int))).drew := ⟨_, rfl⟩
      have hW2' : (wr.setCell ⟨G.g2, p + j, none⟩ (.int .u8 (x : Int))).drewN 1 = W2 := hW2.symm
      rw [show b8 x = .int .u8 (x : Int) from rfl, hW2'] at hA2
      rw [hW2'] at hO2
      rw [← hW2]
      clear hW2 hW2' hb1 hb2 hf2 c0 c1 c2
      obtain ⟨c0, c1, c2⟩ := hA2.out.cells
      have hq : (p + j) / 64 < n := by omega
      have hb3 := hA2.out.r3.bit (j := (p + j) / 64) (by have := hA2.out.ok.1; simp only at this ⊢; omega)
      have hf3 := hA2.out.r3.frozen ((p + j) / 64)
      obtain ⟨z, hz⟩ : ∃ z, (dirN s.di p j).getD ((p + j) / 64) false = z := ⟨_, rfl⟩
      simp only at hb3
      rw [hz] at hb3
      have t11 : Int.tdiv ((p : Int) + (j : Int)) 64 = (((p + j) / 64 : Nat) : Int) := by
        rw [Int.tdiv_eq_ediv_of_nonneg (by omega)]; omega
      have t12 : (((p + j) / 64 : Nat) : Int) < (n : Int) := by omega
      have t13 : (0 : Int) ≤ (((p + j) / 64 : Nat) : Int) := by omega
      have t14 : IntKind.i64.wrap (((p + j) / 64 : Nat) : Int) = (((p + j) / 64 : Nat) : Int) := IntWalk.i64_in _ (by omega)
      obtain ⟨Q, hQ⟩ : ∃ Q, (p + j) / 64 = Q := ⟨_, rfl⟩
      rw [hQ] at hq hb3 hf3 t11 t12 t13 t14
      have HQ := Lib.hid hQ
      have HZ := Lib.hid hz
      clear hz hQ
      go_wp2_with fail
      refine ⟨⟨j + 1, by omega, by go_num, ?_, hO2.out.setCell (Or.inr (Or.inr (Or.inr rfl))) _⟩, by simp [RowKit.intOf]; omega⟩
      have h3 := hA2.out.di Q true
      rw [← HX.out, ← HQ.out] at h3
      rw [← HQ.out]
      exact h3
    · obtain rfl : j = m := by omega
      have hA' : Hid (MAt n G (s.write p bs) wr) := by rw [Dsk.write, HBL.out]; exact hA.out
      clear H hA HB hlt
      go_wp2_with fail
      go_end0
      exact ⟨rfl, hA'.out, hO.out⟩
end Go.Proofs.Ytehfbafocbcfnaa
