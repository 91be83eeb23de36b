/- The landed package book: Reverse. -/
import Derived.Test.YtcdkgfjjgebcnaaDoorBkPost
namespace Go.Proofs.YtcdkgfjjgebcnaaDoor
open Go Go.RowKit
set_option linter.unusedVariables false

theorem BAt.froz {F : Nat → Prop} {g m : Nat} {es : List En} {s : Bk} {N : Nat} {f : Int → Int → Option Int} {w : World} {q n c : Nat} (H : BAt F g m (.slice (some ⟨q, 0, none⟩) n c) es s N f w) (i : Nat) : w.frozen? ⟨q, i, none⟩ = false := by
  obtain ⟨a, c', h1, -, -, -, -, -, h7⟩ := H.ent.open
  simp only [Value.slice.injEq] at h1
  exact h7 _ i h1.1.symm

theorem BAt.mono {F F' : Nat → Prop} {g m : Nat} {v : Value} {es : List En} {s : Bk} {N : Nat} {f : Int → Int → Option Int} {w : World} (H : BAt F g m v es s N f w) (hF : ∀ k, F k → F' k) (hl : ∀ k, F' k → k < w.heap.size) (hk : ∀ k, F' k → 0 < k) : BAt F' g m v es s N f w where
  r0 := H.r0
  ent := H.ent
  le := H.le
  ld := H.ld
  row := fun j x ls h1 h2 => by
    obtain ⟨q1, q2, q3, q4, q5, q6⟩ := H.row j x ls h1 h2
    exact ⟨q1, q2, q3, q4, q5, fun ad e => ⟨hF _ (q6 ad e).1, (q6 ad e).2⟩⟩
  mp := H.mp
  fg := hF _ H.fg
  fm := ⟨hF _ H.fm.1, H.fm.2⟩
  fv := fun q hq => ⟨hF _ (H.fv q hq).1, (H.fv q hq).2⟩
  lt := hl
  low := hk
  kin := H.kin
  big := H.big
  ok := H.ok
theorem only_plusF {F : Nat → Prop} {w w3 w5 : World} {q : Nat} (h : Only F w w3) (hq : PlusF F w w3 q) (ho : Only (fun k => k = q) w3 w5) : Only F w w5 :=
  ⟨ho.os.trans h.os, ho.tape.trans h.tape, ho.output.trans h.output, Nat.le_trans h.size ho.size, fun k hk hF => (ho.block k (Nat.lt_of_lt_of_le hk h.size) fun e => by
    rw [e] at hF hk
    exact hq.elim hF fun h' => by omega).trans (h.block k hk hF)⟩

/-- an entry is paired -/
theorem bat_pair {F : Nat → Prop} {g m : Nat} {v : Value} {es : List En} {s : Bk} {N : Nat} {f : Int → Int → Option Int} {w : World} {q j : Nat} {x : En} (H : BAt F g m v es s N f w) (hv : v.ownBlock = some q) (hx : es[j]? = some x) :
    BAt F g m v (es.set j ⟨x.a, x.n, x.c, true⟩) ⟨s.L, s.done.set j true⟩ N f (w.setCell ⟨q, j * 2 + 1, none⟩ (.bool true)) ∧ Only (fun k => k = q) w (w.setCell ⟨q, j * 2 + 1, none⟩ (.bool true)) := by
  obtain ⟨fq, qg, qm⟩ := H.fv q hv
  have ho : Only (fun k => k = q) w (w.setCell ⟨q, j * 2 + 1, none⟩ (.bool true)) := (Only.refl (fun k => k = q) w).setCell (p := ⟨q, j * 2 + 1, none⟩) rfl _
  refine ⟨⟨H.r0.only ho (fun e => qg e.symm), ownsE_setD H.ent hv hx true, by rw [List.length_set]; exact H.le, by show (s.done.set j true).length = _; rw [List.length_set]; exact H.ld, fun i y ls h1 h2 => ?_, H.mp.only ho (fun e => qm e.symm), H.fg, H.fm, H.fv, fun k hk => Nat.lt_of_lt_of_le (H.lt k hk) ho.size, H.low, H.kin.only ho (fun e => by have := H.low q fq; omega), H.big, H.ok⟩, ho⟩
  by_cases hij : j = i
  · subst hij
    have hjl := (List.getElem?_eq_some_iff.1 hx).1
    rw [List.getElem?_set_self hjl] at h1
    cases h1
    obtain ⟨q1, q2, q3, q4, q5, q6⟩ := H.row j x ls hx h2
    refine ⟨?_, q2, q3.only ho (fun ad e => Or.inr fun hk => (q6 ad e).2.2.1 (by rw [hv, hk])), q4, q5, q6⟩
    show (s.done.set j true)[j]? = some true
    rw [List.getElem?_set_self (by rw [H.ld, ← H.le]; exact hjl)]
  · rw [List.getElem?_set_ne hij] at h1
    obtain ⟨q1, q2, q3, q4, q5, q6⟩ := H.row i y ls h1 h2
    refine ⟨?_, q2, q3.only ho (fun ad e => Or.inr fun hk => (q6 ad e).2.2.1 (by rw [hv, hk])), q4, q5, q6⟩
    show (s.done.set j true)[i]? = _
    rw [List.getElem?_set_ne hij]
    exact q1

theorem ok_turn {ls : List Ln} (h : OkE ls) : OkL (turnL ls) := fun y hy => by
  obtain ⟨x, hx, rfl⟩ := List.mem_map.1 hy
  have h1 := h.2.2.1 x hx
  have h2 := h.2.2.2 x hx
  obtain ⟨q1, q2, q3⟩ := h1
  refine ⟨q1, q2, ?_⟩
  show in64 (-x.v)
  unfold in64 at *
  omega

set_option maxRecDepth 100000 in
set_option maxHeartbeats 8000000 in
theorem reverse10_any {F : Nat → Prop} {g m : Nat} {v : Value} {es : List En} {s : Bk} (n : Int) (w : World) (H : BAt F g m v es s (32 * s.L.length) (balF s) w) (hn : in64 n) :
    Calls Tryd.prog 21 #[.pointer (some ⟨g, 0, none⟩), .int .i64 n] w fun e w' => Only F w w' ∧
      ((s.revN n = 0 ∧ e = .returned (.tuple #[.int .i64 (s.L.length : Int), .nilIface]) ∧ ∃ v' es', BAt (PlusF F w w') g m v' es' (s.rev n) (32 * (s.L.length + 1)) (balF (s.rev n)) w') ∨
        (s.revN n ≠ 0 ∧ e = .returned (.tuple #[.int .i64 0, errv (s.revN n : Int)]) ∧ BAt F g m v es s (32 * s.L.length) (balF s) w')) := by
  have r1 := run_neq_errv_nil
  have g1 := guard_neq_errv_nil
  have hst := stands_any n w H hn
  have HH := Lib.hid H
  by_cases h : 0 ≤ n ∧ n < (s.L.length : Int)
  · rw [show standsN s n = true from decide_eq_true h] at hst
    obtain ⟨h1, h2⟩ := h
    obtain ⟨j, rfl⟩ : ∃ j : Nat, n = (j : Int) := ⟨n.toNat, by omega⟩
    have hj : j < s.L.length := by omega
    obtain ⟨q, c, x, ls, rfl, -, -, -, hx, hl, hm, hd, hxn, hla, hxc, hxm, hxb, e0, e1⟩ := H.entry hj
    obtain ⟨c0, c1⟩ := H.cells
    have hR : s.revN (j : Int) = if x.d = true then 5 else s.mayN (turnL ls) := by
      unfold Bk.revN
      rw [if_neg (by omega), Int.toNat_natCast]
      simp [List.getD, hd, hl]
    have HREV : Hid (s.rev (j : Int) = ⟨(s.post (turnL ls)).L, ((s.post (turnL ls)).done.set j true).set s.L.length true⟩) := by
      show _ = _
      unfold Bk.rev Bk.post
      rw [Int.toNat_natCast]
      simp [List.getD, hl]
    have HOK := Lib.hid (H.ok ls hm)
    have HBIG := Lib.hid H.big
    have HTU := Lib.hid (fun W (hb : Below w.heap.size w W) => turned_any x.a x.n x.c ls W (hla.up hb) (by rw [hxn]; exact (H.ok ls hm).1) (by rw [hxn]; have := (H.ok ls hm).2.1; omega) (fun y hy => ⟨((H.ok ls hm).2.2.1 y hy).2.2, (H.ok ls hm).2.2.2 y hy⟩))
    obtain ⟨xa, xn, xc, xd⟩ := x
    simp only at hR HTU e0 e1 hxn
    clear H hx hl hm hd hla hxc hxm hxb hxn
    cases xd with
    | true =>
      have HR : Hid (s.revN (j : Int) = 5) := hR
      clear hR HTU
      go_enter Tryd.func21, Tryd.ntmps21
      go_wp2_with fail
      refine hst.mono ?_
      rintro e w1 ⟨rfl, hw1⟩
      obtain rfl : w = w1 := hw1.symm
      go_wp2_with fail
      go_ret2
      exact ⟨Only.refl _ _, Or.inr ⟨by rw [HR.out]; decide, by rw [HR.out]; rfl, HH.out⟩⟩
    | false =>
      have HR : Hid (s.revN (j : Int) = s.mayN (turnL ls)) := hR
      have hturn := HTU.out w (Below.refl _ _)
      clear hR HTU
      go_enter Tryd.func21, Tryd.ntmps21
      go_wp2_with fail
      refine hst.mono ?_
      rintro e w1 ⟨rfl, hw1⟩
      obtain rfl : w = w1 := hw1.symm
      go_wp2_with fail
      refine hturn.mono ?_
      rintro e w2 ⟨vt, rfl, ho, hb⟩
      obtain ⟨ta, tc, rfl, t2, t3, t4, t5, t6, t7⟩ := ho.open
      have hpo := post10_any ta (turnL ls).length tc (turnL ls) w2 (HH.out.up hb) t2 (ok_turn HOK.out) (fun y e => Or.inr fun hf => by
        have h1 := (t6 y e).1
        have h2 := HH.out.lt _ hf
        omega) t3 (by unfold turnL; rw [List.length_map]; have := HOK.out.2.1; omega)
      have HB := Lib.hid hb
      clear ho t2 t3 t4 t5 t6 t7 hb
      obtain ⟨tl, htl⟩ : ∃ tl, turnL ls = tl := ⟨_, rfl⟩
      rw [htl] at hpo HR HREV ⊢
      have hlen : (s.post tl).L.length = s.L.length + 1 := by simp [Bk.post]
      have hj2 : j < (s.post tl).L.length := by omega
      have hl2 : s.L.length < (s.post tl).L.length := by omega
      have HJ := Lib.hid (And.intro hj2 hl2)
      have HLEN := Lib.hid hlen
      clear htl hlen hj2 hl2
      go_wp2_with fail
      with_reducible refine hpo.mono ?_
      rintro e w3 ⟨hO, ⟨hm0, rfl, v', es', hB⟩ | ⟨hm0, rfl, hB⟩⟩
      · have HM : Hid (s.revN (j : Int) = 0) := HR.out.trans hm0
        have HO3 : Hid (Only F w w3) := (Only.of_below HB.out).trans hO
        have HB3 := Lib.hid (hB.widen (Only.of_below HB.out : Only F w w2) HH.out.kin)
        clear hO hB hm0
        obtain ⟨q3, c3, x3, l3, rfl, f3, -, -, hx3, -, -, -, -, -, -, -, -, -, z1⟩ := HB3.out.entry HJ.out.1
        obtain ⟨z0, -⟩ := HB3.out.cells
        have fz := HB3.out.froz (j * 2 + 1)
        have HP := Lib.hid (bat_pair HB3.out rfl hx3)
        have HF3 := Lib.hid f3
        have HLEN3 := HLEN.out
        rw [HLEN3] at z0
        have t5 : (j : Int) < ((s.L.length + 1 : Nat) : Int) := by omega
        have t6 : j < s.L.length + 1 := by omega
        obtain ⟨w4, hw4⟩ : ∃ w4, w3.setCell ⟨q3, j * 2 + 1, none⟩ (.bool true) = w4 := ⟨_, rfl⟩
        rw [hw4] at HP
        obtain ⟨q4, c4, x4, l4, e4, f4, -, -, hx4, -, -, -, -, -, -, -, -, -, z4⟩ := HP.out.1.entry HJ.out.2
        simp only [Value.slice.injEq, Option.some.injEq, Addr.mk.injEq, true_and, and_true] at e4
        obtain ⟨rfl, -⟩ := e4
        obtain ⟨y0, -⟩ := HP.out.1.cells
        have fz4 := HP.out.1.froz (s.L.length * 2 + 1)
        have y0' : w4.cell? ⟨g, 0, none⟩ = some (.slice (some ⟨q3, 0, none⟩) (s.L.length + 1) c3) := by rw [y0]; show some (Value.slice _ (s.post tl).L.length _) = _; rw [HLEN3]
        have HQ := Lib.hid (bat_pair HP.out.1 rfl hx4)
        have HHB := Lib.hid HBIG.out
        clear hx3 f3 c0 c1 e0 e1 HLEN3 y0 hx4 f4
        go_wp2_with fail
        go_ret2
        have ho5 := HP.out.2.trans HQ.out.2
        have hO5 := only_plusF HO3.out HF3.out ho5
        have hfin := HQ.out.1.mono (F' := PlusF F w (w4.setCell ⟨q3, s.L.length * 2 + 1, none⟩ (.bool true))) (fun k hk => hk.elim Or.inl fun h => Or.inr ⟨h.1, Nat.lt_of_lt_of_le h.2 ho5.size⟩) (fun k hk => hk.elim (fun h => Nat.lt_of_lt_of_le (HH.out.lt k h) hO5.size) (·.2)) (fun k hk => hk.elim (HH.out.low k) fun h => Nat.lt_of_lt_of_le HH.out.kin.s1 h.1)
        refine ⟨hO5, Or.inl ⟨HM.out, rfl, ?_⟩⟩
        rw [HREV.out]
        exact ⟨_, _, hfin⟩
      · have HM : Hid (s.revN (j : Int) ≠ 0) := by show _ ≠ _; rw [HR.out]; exact hm0
        have HO3 : Hid (Only F w w3) := (Only.of_below HB.out).trans hO
        have HB3 := Lib.hid hB
        obtain ⟨k, hk⟩ : ∃ k, s.mayN tl = k := ⟨_, rfl⟩
        rw [hk] at hm0 HR ⊢
        have t2 : ((k : Int) != 0) = true := by simpa using hm0
        clear hO hB hm0 hk
        go_wp2_with fail
        go_ret2
        exact ⟨HO3.out, Or.inr ⟨HM.out, by rw [HR.out]; rfl, HB3.out⟩⟩
  · rw [show standsN s n = false from decide_eq_false h] at hst
    have HR : Hid (s.revN n = 4) := if_pos (by omega)
    clear H hn h
    go_enter Tryd.func21, Tryd.ntmps21
    go_wp2_with fail
    refine hst.mono ?_
    rintro e w1 ⟨rfl, hw1⟩
    obtain rfl : w = w1 := hw1.symm
    go_wp2_with fail
    go_ret2
    exact ⟨Only.refl _ _, Or.inr ⟨by rw [HR.out]; decide, by rw [HR.out]; rfl, HH.out⟩⟩
end Go.Proofs.YtcdkgfjjgebcnaaDoor
