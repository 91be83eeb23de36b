/- The landed journal: stages of an append on the disk. -/
import Derived.Test.YtehfbafocbcfnaaJbAt
namespace Go.Proofs.Ytehfbafocbcfnaa
open Go Go.RowKit
set_option linter.unusedVariables false

theorem sync_yes {n g h t : Nat} {s : Dsk} (w : World) (H : DAt n g h t s w) :
    Calls Try.prog 16 #[.pointer (some ⟨g, 0, none⟩)] w fun e w' => e = .returned (.tuple #[]) ∧ DAt n g h t s.sync w' ∧ Only (foot g h t) w w' := by
  refine (sync_any w H).mono ?_
  rintro e w1 ⟨rfl, ho, hd⟩
  exact ⟨rfl, hd, ho.mono fun k _ hk => Or.inr (Or.inr hk)⟩

theorem head_cells {g m : Nat} {w : World} (h : Row g 5 ((headN m).map b8) w) : Cells w (some ⟨g, 0, none⟩) 8 ((headN m).map b8) := by
  have h1 := h.cells
  rw [List.length_map, headN_len] at h1
  exact h1

theorem far_new {g h t N L : Nat} (hl : g < N ∧ h < N ∧ t < N) : ∀ x, some (⟨N, 0, none⟩ : Addr) = some x → L = 0 ∨ ¬ foot g h t x.block := fun x hx => Or.inr fun hf => by
  cases hx
  rcases hf with h1 | h1 | h1
  · have h2 : N = g := h1; omega
  · have h2 : N = h := h1; omega
  · have h2 : N = t := h1; omega

/-- what is held while a record is put -/
structure Putting (n g h t : Nat) (s : Dsk) (K e : Nat) (a : Option Addr) (m : Nat) (b : List Nat) (w W : World) : Prop where
  dk : DAt n g h t s W
  c0 : W.cell? ⟨K, 0, none⟩ = some (.pointer (some ⟨g, 0, none⟩))
  c2 : W.cell? ⟨K, 2, none⟩ = some (.int .i64 (e : Int))
  bs : Cells W a m (b.map b8)
  only : Only (foot g h t) w W
section
variable {n g h t : Nat} {s s' : Dsk} {K e : Nat} {a : Option Addr} {m : Nat} {b : List Nat} {w W W' : World}
theorem Putting.turn (H : Putting n g h t s K e a m b w W) (hK : ¬ foot g h t K) (hf : ∀ x, a = some x → m = 0 ∨ ¬ foot g h t x.block) (hd : DAt n g h t s' W') (ho : Only (foot g h t) W W') : Putting n g h t s' K e a m b w W' := by
  have hKl : K < W.heap.size := cell_lt H.c0
  refine ⟨hd, ?_, ?_, ?_, H.only.trans ho⟩
  · rw [World.cell?_of_block (w := W) (ho.block K hKl hK)]; exact H.c0
  · rw [World.cell?_of_block (w := W) (ho.block K hKl hK)]; exact H.c2
  · obtain ⟨h1, h2⟩ := H.bs
    refine ⟨h1, ?_⟩
    rcases h2 with h0 | ⟨b', off, rfl, hcc⟩
    · exact Or.inl h0
    · by_cases h0 : m = 0
      · exact Or.inl h0
      · refine Or.inr ⟨b', off, rfl, fun j hj => ?_⟩
        rw [World.cell?_of_block (w := W) (ho.block b' (cell_lt (hcc j hj)) ((hf _ rfl).resolve_left h0))]
        exact hcc j hj
theorem Putting.up (H : Putting n g h t s K e a m b w W) (hb : Below W.heap.size W W') : Putting n g h t s K e a m b w W' :=
  ⟨H.dk.up hb, by rw [hb.cell (p := ⟨K, 0, none⟩) (cell_lt H.c0)]; exact H.c0, by rw [hb.cell (p := ⟨K, 2, none⟩) (cell_lt H.c2)]; exact H.c2, H.bs.upB hb, H.only.trans (Only.of_below hb)⟩
end

set_option maxRecDepth 100000 in
set_option maxHeartbeats 16000000 in
theorem put_any {n g h t : Nat} {s : Dsk} {K : Nat} (r : Jr) (a : Option Addr) (m c : Nat) (b : List Nat) (k : Int) (w : World) (H : Putting n g h t s K r.fin a m b w w) (hK : ¬ foot g h t K) (hf : ∀ x, a = some x → m = 0 ∨ ¬ foot g h t x.block)
    (hm1 : m ≤ 1024) (hm2 : r.fin + 8 + m ≤ 64 * n) (hk : 1 ≤ k ∧ k ≤ 4) :
    Calls Try.prog 47 #[.pointer (some ⟨K, 0, none⟩), .slice a m c, .int .i64 k] w fun e w' => e = .returned .nilIface ∧ DAt n g h t (stgS s r b k) w' ∧ Only (foot g h t) w w' := by
  have hbl : b.length = m := by have := H.bs.1; rwa [List.length_map] at this
  have HBL := Lib.hid hbl
  have hn := H.dk.ok.2.2.2
  obtain ⟨e, he⟩ : ∃ e, r.fin = e := ⟨_, rfl⟩
  have HE := Lib.hid he
  rw [he] at H hm2
  have H0 := Lib.hid H
  have HK := Lib.hid hK
  have HF := Lib.hid hf
  have s1 : IntKind.i64.wrap ((e : Int) + 8) = (e : Int) + 8 := IntWalk.i64_in _ (by omega)
  have hT := Lib.hid (H.up (Below.drew (Below.refl _ _)))
  clear H hK hf hbl he
  go_enter Try.func47, Try.ntmps47
  go_wp2_with fail
  go_region_held3 (fun w' => w'.cell? ⟨K, 0, none⟩ = some (.pointer (some ⟨g, 0, none⟩)) ∧ w'.cell? ⟨K, 2, none⟩ = some (.int .i64 (e : Int)))
    (exact ⟨hT.out.c0, hT.out.c2⟩)
    (first
      | (go_at_call 15; with_reducible refine (write_yes ((e : Int) + 8) (e + 8) (by omega) a m c b _ hT.out.dk hT.out.bs HF.out (by omega)).mono ?_; rintro ed w1 ⟨rfl, hd1, ho1⟩; have hT := Lib.hid (hT.out.turn HK.out HF.out hd1 ho1); clear hd1 ho1))
  have hk4 : k = 1 ∨ k = 2 ∨ k = 3 ∨ k = 4 := by omega
  clear hk
  rcases hk4 with rfl | rfl | rfl | rfl
  · go_wp2_with fail
    go_ret
    exact ⟨by simp, by rw [show stgS s r b 1 = s.write (r.fin + 8) b from rfl, HE.out]; exact hT.out.dk, hT.out.only⟩
  · have c0 := hT.out.c0
    go_wp2_with fail
    refine (sync_yes _ hT.out.dk).mono ?_
    rintro ed w2 ⟨rfl, hd2, ho2⟩
    have hT := Lib.hid (hT.out.turn HK.out HF.out hd2 ho2)
    clear hd2 ho2
    go_wp2_with fail
    go_ret
    exact ⟨by simp, by rw [show stgS s r b 2 = (s.write (r.fin + 8) b).sync from rfl, HE.out]; exact hT.out.dk, hT.out.only⟩
  all_goals
    have c0 := hT.out.c0
    go_wp2_with fail
    refine (sync_yes _ hT.out.dk).mono ?_
    rintro ed w2 ⟨rfl, hd2, ho2⟩
    have HT2 := Lib.hid (hT.out.turn HK.out HF.out hd2 ho2)
    have hT := Lib.hid (HT2.out.up (Below.drew (Below.refl _ _)))
    have hsz2 : w2.drew.heap.size = w2.heap.size := rfl
    have HN3 : Hid (∀ x, some (⟨w2.heap.size, 0, none⟩ : Addr) = some x → 8 = 0 ∨ ¬ foot g h t x.block) := far_new HT2.out.dk.lt
    clear hd2 ho2 c0
    go_wp2_with fail
    go_region_held3 (fun w' => w'.cell? ⟨K, 0, none⟩ = some (.pointer (some ⟨g, 0, none⟩)) ∧ w'.cell? ⟨K, 2, none⟩ = some (.int .i64 (e : Int)))
      (exact ⟨hT.out.c0, hT.out.c2⟩)
      (first
        | (go_at_call 52; with_reducible refine (head_any m hm1 _).mono ?_; rintro ed w3 ⟨rfl, hr3, hb3⟩; rw [hsz2] at hr3; have HR3 := Lib.hid (head_cells hr3); have hT := Lib.hid (hT.out.up hb3); clear hr3 hb3)
        | (go_at_call 15; with_reducible refine (write_yes (e : Int) e rfl _ 8 8 (headN m) _ hT.out.dk HR3.out HN3.out (by omega)).mono ?_; rintro ed w4 ⟨rfl, hd4, ho4⟩; have hT := Lib.hid (hT.out.turn HK.out HF.out hd4 ho4); clear hd4 ho4))
  · go_wp2_with fail
    go_ret
    exact ⟨by simp, by rw [show stgS s r b 3 = ((s.write (r.fin + 8) b).sync).write r.fin (headN b.length) from rfl, HE.out, HBL.out]; exact hT.out.dk, hT.out.only⟩
  · have c0 := hT.out.c0
    go_wp2_with fail
    refine (sync_yes _ hT.out.dk).mono ?_
    rintro ed w5 ⟨rfl, hd5, ho5⟩
    have hT := Lib.hid (hT.out.turn HK.out HF.out hd5 ho5)
    clear hd5 ho5
    go_wp2_with fail
    go_ret
    exact ⟨by simp, by rw [show stgS s r b 4 = (((s.write (r.fin + 8) b).sync).write r.fin (headN b.length)).sync from rfl, HE.out, HBL.out]; exact hT.out.dk, hT.out.only⟩
end Go.Proofs.Ytehfbafocbcfnaa
