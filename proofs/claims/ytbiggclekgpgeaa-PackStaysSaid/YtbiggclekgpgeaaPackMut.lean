/- What Put and Get tell, whatever it is: one value for one command, and one for the same bytes; rows that a caller may write. -/
import Derived.Test.YtbiggclekgpgeaaPackC
import Derived.Test.YtbiggclekgpgeaaPackL3
import Derived.Test.YtbiggclekgpgeaaMine
import Derived.Laws.OwnMore
namespace Go.Proofs.Ytbiggclekgpgeaa
open Go Go.RowKit
set_option linter.unusedVariables false

theorem CmdAt.setOther {B : Nat} {k y l : Int} {v : Value} {w : World} (h : CmdAt B k y l v w) {p : Addr} (hp : p.block ≠ B) (u : Value) : CmdAt B k y l v (w.setCell p u) := by
  refine ⟨?_, ?_, ?_, ?_, ?_, ?_⟩
  · rw [World.cell?_setCell_other _ _ _ _ (fun e => hp (by rw [e]))]; exact h.c0
  · rw [World.cell?_setCell_other _ _ _ _ (fun e => hp (by rw [e]))]; exact h.c1
  · rw [World.cell?_setCell_other _ _ _ _ (fun e => hp (by rw [e]))]; exact h.c2
  · rw [World.cell?_setCell_other _ _ _ _ (fun e => hp (by rw [e]))]; exact h.c3
  · rw [World.frozen?_setCell]; exact h.f3
  · simpa using h.lt

theorem Elems.setOther {w : World} {a : Option Addr} {n : Nat} {N : List Int} (h : Elems w a n N) {p : Addr} (hp : N = [] ∨ ∀ x, a = some x → p.block ≠ x.block) (u : Value) : Elems (w.setCell p u) a n N := by
  refine ⟨h.1, h.2.1, ?_⟩
  rcases hp with rfl | hp
  · exact Or.inl (by have := h.1; simpa using this.symm)
  · rcases h.2.2 with h0 | ⟨b, off, rfl, hc⟩
    · exact Or.inl h0
    · refine Or.inr ⟨b, off, rfl, fun j hj => ?_⟩
      have := hp _ rfl
      rw [World.cell?_setCell_other _ _ _ _ (fun e => this (by rw [e]))]
      exact hc j hj

/-- what Put tells of a command, whatever it is -/
def PutGot (w : World) (P : List Nat) (er : Value) (e : Ending) (w' : World) : Prop :=
  Below w.heap.size w w' ∧ ∃ a m c, e = .returned (.tuple #[.slice a m c, er]) ∧ Cells w' a m (P.map b8) ∧ Mine w.heap.size w'.heap.size a m w' ∧ m ≤ 1000 ∧ m ≤ c

theorem put_got (PC : Hid PackC) (k y l : Int) (n : Nat) (N : List Int) (hk : i64 k) (hy : i64 y) (hl : i64 l) (hn : n ≤ 1000) :
    ∃ P er, (er = .nilIface ∨ er = errK 1) ∧ ∀ (a : Option Addr) (c : Nat) (w : World), Elems w a n N → n ≤ c →
      Calls Try.prog 8 #[cmdV k y l (.slice a n c)] w (PutGot w P er) := by
  by_cases h16 : n ≤ 16
  · refine ⟨putB k y l N, _, Or.inl rfl, fun a c w hE hc => (PC.out.put k y l a n c N w hk hy hl hE hn hc).mono ?_⟩
    rintro e w' ⟨hb, ⟨_, v, rfl, ho⟩ | ⟨h, _⟩⟩
    · obtain ⟨pa, pc, rfl, hcl, -, hpc, -⟩ := own_bytes ho
      have hPl := putB_le (k := k) (y := y) (l := l) (N := N) ⟨hk, hy, hl, by rw [hE.1]; exact h16, hE.2.1⟩
      exact ⟨hb, pa, _, pc, rfl, hcl, Mine.of_own ho, by omega, hpc⟩
    · omega
  · refine ⟨[], _, Or.inr rfl, fun a c w hE hc => (PC.out.put k y l a n c N w hk hy hl hE hn hc).mono ?_⟩
    rintro e w' ⟨hb, ⟨h, _⟩ | ⟨_, p, c', rfl⟩⟩
    · omega
    · exact ⟨hb, p, 0, c', rfl, ⟨rfl, Or.inl rfl⟩, Mine.empty (Nat.le_refl _), by omega, by omega⟩

/-- what Get tells of bytes, whatever they are -/
def GetGot (w : World) (k y l : Int) (N : List Int) (er : Value) (e : Ending) (w' : World) : Prop :=
  Below w.heap.size w w' ∧ ∃ a c, e = .returned (.tuple #[cmdV k y l (.slice a N.length c), er]) ∧ Elems w' a N.length N ∧ (N = [] ∨ ∀ x, a = some x → w.heap.size ≤ x.block)

theorem get_got (PC : Hid PackC) (bs : List Nat) (h256 : ∀ b ∈ bs, b < 256) :
    ∃ k y l N er, (er = .nilIface ∨ er = errK 2) ∧ N.length ≤ 16 ∧ ∀ (a : Option Addr) (n c : Nat) (w : World), Cells w a n (bs.map b8) → n ≤ 1000 → n ≤ c → c ≤ maxLen →
      Calls Try.prog 10 #[.slice a n c] w (GetGot w k y l N er) := by
  by_cases hno : NoCmd bs
  · refine ⟨0, 0, 0, [], _, Or.inr rfl, by simp, fun a n c w hb hn hc hm => (PC.out.get a n c bs w hb h256 hn hc hm).mono ?_⟩
    rintro e w' ⟨hbl, ⟨k, y, l, N, _, _, hok, he, _⟩ | ⟨_, a1, c1, rfl⟩⟩
    · exact absurd he (hno _ _ _ _ hok)
    · exact ⟨hbl, a1, c1, rfl, ⟨rfl, (fun n hn => by cases hn), Or.inl rfl⟩, Or.inl rfl⟩
  · have hex : ∃ k y l N, okC k y l N ∧ bs = putB k y l N := by
      refine Classical.byContradiction fun h => hno fun k y l N hok e => h ⟨k, y, l, N, hok, e⟩
    obtain ⟨k, y, l, N, hok, he⟩ := hex
    refine ⟨k, y, l, N, _, Or.inl rfl, hok.2.2.2.1, fun a n c w hb hn hc hm => (PC.out.get a n c bs w hb h256 hn hc hm).mono ?_⟩
    rintro e w' ⟨hbl, ⟨k', y', l', N', a1, c1, hok', he', hel, hx, -, rfl⟩ | ⟨hno', _⟩⟩
    · have hp := putB_prefix (k := k) (y := y) (l := l) (N := N) (k' := k') (y' := y') (l' := l') (N' := N') (r := []) (s := []) (by rw [List.append_nil, List.append_nil, ← he, ← he'])
      obtain ⟨rfl, rfl, rfl, rfl, -⟩ := hp
      refine ⟨hbl, a1, c1, rfl, hel, ?_⟩
      by_cases h0 : N = []
      · exact Or.inl h0
      · exact Or.inr fun x hxx => (hx x hxx).resolve_left h0
    · exact absurd he (hno' _ _ _ _ hok)
end Go.Proofs.Ytbiggclekgpgeaa
