/- The landed package book: where books lie in memory; New, Len, stands, Balance. -/
import Derived.Test.YtcdkgfjjgebcnaaDoorBkMap
import Derived.Test.YtcdkgfjjgebcnaaDoorGRows
import Derived.Test.YtcdkgfjjgebcnaaDoorBookC
import Derived.Test.YtcdkgfjjgebcnaaDoorLines
namespace Go.Proofs.YtcdkgfjjgebcnaaDoor
open Go Go.RowKit
set_option linter.unusedVariables false

/-- the table stays where other blocks are written -/
theorem Kin.only {X : Nat → Prop} {w w' : World} (h : Kin w) (ho : Only X w w') (hX : ¬ X 0) : Kin w' where
  s1 := Nat.lt_of_lt_of_le h.s1 ho.size
  nm := fun k hk => (World.cell?_of_block (a := ⟨0, 3 * k, none⟩) (ho.block _ h.s1 hX)).trans (h.nm k hk)
  mo := fun k hk => (World.cell?_of_block (a := ⟨0, 3 * k + 1, none⟩) (ho.block _ h.s1 hX)).trans (h.mo k hk)
  de := fun k hk => (World.cell?_of_block (a := ⟨0, 3 * k + 2, none⟩) (ho.block _ h.s1 hX)).trans (h.de k hk)

/-- an entry as it lies: its lines' slice, whether it is paired -/
structure En where
  a : Option Addr
  n : Nat
  c : Nat
  d : Bool

def GEn : GR En where
  e := 71
  sT := 61
  k := 2
  bytes := 32
  z := .agg #[.slice none 0 0, .bool false]
  enc x := [.slice x.a x.n x.c, .bool x.d]
  hk _ := rfl
  h1 x v hv := by
    simp only [List.mem_cons, List.not_mem_nil, or_false] at hv
    rcases hv with rfl | rfl <;> rfl
  hi := by kernel_rfl
  hz := rfl
  h0 := by decide
  hT := Tryd.underlying61
  hb := by decide

/-- the balances that aren't 0 -/
def balF (s : Bk) : Int → Int → Option Int := fun k o => if s.bal k o = 0 then none else some (s.bal k o)
theorem balF_get (s : Bk) (k o : Int) : (balF s k o).getD 0 = s.bal k o := by
  unfold balF
  by_cases h : s.bal k o = 0
  · rw [if_pos h, h]; rfl
  · rw [if_neg h]; rfl

/-- an entry's lines -/
def OkE (l : List Ln) : Prop := 1 ≤ l.length ∧ l.length ≤ 32 ∧ OkL l ∧ ∀ x ∈ l, x.v ≠ -9223372036854775808

/-- books: their struct in block g, the entries' slice v, the map in m -/
structure BAt (F : Nat → Prop) (g m : Nat) (v : Value) (es : List En) (s : Bk) (N : Nat) (f : Int → Int → Option Int) (w : World) : Prop where
  r0 : Row g 63 [v, .map (some m)] w
  ent : OwnsG GEn 0 v es w
  le : es.length = s.L.length
  ld : s.done.length = s.L.length
  row : ∀ (j : Nat) (x : En) (ls : List Ln), es[j]? = some x → s.L[j]? = some ls → s.done[j]? = some x.d ∧ x.n = ls.length ∧ LinesAt w x.a x.n ls ∧ x.n ≤ x.c ∧ x.c ≤ maxLen ∧ ∀ ad, x.a = some ad → F ad.block ∧ ad.block ≠ g ∧ v.ownBlock ≠ some ad.block ∧ ad.block ≠ m
  mp : OwnM m N f w
  fg : F g
  fm : F m ∧ m ≠ g
  fv : ∀ q, v.ownBlock = some q → F q ∧ q ≠ g ∧ q ≠ m
  lt : ∀ k, F k → k < w.heap.size
  low : ∀ k, F k → 0 < k
  kin : Kin w
  big : s.L.length ≤ 4096
  ok : ∀ l ∈ s.L, OkE l

def BB (F : Nat → Prop) (p : Addr) (s : Bk) (w : World) : Prop := ∃ g m v es, p = ⟨g, 0, none⟩ ∧ BAt F g m v es s (32 * s.L.length) (balF s) w

theorem ownsG_only {α : Type} {G : GR α} {X : Nat → Prop} {w w' : World} {B : Nat} {v : Value} {ls : List α} (h : OwnsG G B v ls w) (ho : Only X w w') (hX : ∀ q, v.ownBlock = some q → ¬ X q) : OwnsG G B v ls w' := by
  have hl := fun q hq => (World.ownsRow.lt h q hq).2
  obtain ⟨h1, h2⟩ := h
  refine ⟨h1, ?_⟩
  rcases h2 with h2 | ⟨g, cap, cur, rfl, hg, hh, r⟩
  · exact Or.inl h2
  · exact Or.inr ⟨g, cap, cur, rfl, hg, by rw [ho.block g (hl g rfl) (hX g rfl)]; exact hh, r⟩

section
variable {F X : Nat → Prop} {g m : Nat} {v : Value} {es : List En} {s : Bk} {N : Nat} {f : Int → Int → Option Int} {w w' : World}
theorem BAt.only (H : BAt F g m v es s N f w) (ho : Only X w w') (hX : ∀ k, X k → ¬ F k) (T : Kin w') : BAt F g m v es s N f w' where
  r0 := H.r0.only ho fun hx => hX _ hx H.fg
  ent := ownsG_only H.ent ho fun q hq hx => hX _ hx (H.fv q hq).1
  le := H.le
  ld := H.ld
  row := fun j x ls h1 h2 => by
    obtain ⟨q1, q2, q3, q4, q5, q6⟩ := H.row j x ls h1 h2
    exact ⟨q1, q2, q3.only ho (fun ad e => Or.inr fun hx => hX _ hx (q6 ad e).1), q4, q5, q6⟩
  mp := H.mp.only ho fun hx => hX _ hx H.fm.1
  fg := H.fg
  fm := H.fm
  fv := H.fv
  lt := fun k hk => Nat.lt_of_lt_of_le (H.lt k hk) ho.size
  low := H.low
  kin := T
  big := H.big
  ok := H.ok
theorem BAt.up (H : BAt F g m v es s N f w) (hb : Below w.heap.size w w') : BAt F g m v es s N f w' :=
  H.only (X := fun _ => False) (Only.of_below hb) (fun _ h => h.elim) (H.kin.of hb)
theorem BAt.cells (H : BAt F g m v es s N f w) : w.cell? ⟨g, 0, none⟩ = some v ∧ w.cell? ⟨g, 1, none⟩ = some (.map (some m)) := ⟨H.r0.cell (j := 0) (by simp), H.r0.cell (j := 1) (by simp)⟩
theorem BAt.slice (H : BAt F g m v es s N f w) : ∃ a c, v = .slice a s.L.length c ∧ s.L.length ≤ c ∧ c ≤ maxLen ∧ RowsAt GEn w a s.L.length es := by
  obtain ⟨a, c, h1, h2, h3, h4, -⟩ := H.ent.open
  rw [H.le] at h1 h2 h3
  exact ⟨a, c, h1, h3, h4, h2⟩
/-- the entry at a place -/
theorem BAt.entry (H : BAt F g m v es s N f w) {j : Nat} (hj : j < s.L.length) : ∃ q c x ls, v = .slice (some ⟨q, 0, none⟩) s.L.length c ∧ F q ∧ q ≠ g ∧ q ≠ m ∧ es[j]? = some x ∧ s.L[j]? = some ls ∧ ls ∈ s.L ∧ s.done[j]? = some x.d ∧ x.n = ls.length ∧ LinesAt w x.a x.n ls ∧ x.n ≤ x.c ∧ x.c ≤ maxLen ∧
    (∀ ad, x.a = some ad → F ad.block ∧ ad.block ≠ g ∧ v.ownBlock ≠ some ad.block ∧ ad.block ≠ m) ∧ w.cell? ⟨q, j * 2, none⟩ = some (.slice x.a x.n x.c) ∧ w.cell? ⟨q, j * 2 + 1, none⟩ = some (.bool x.d) := by
  have hje : j < es.length := by rw [H.le]; exact hj
  obtain ⟨a, c, h1, h2, h3, h4, h5, h6, h7⟩ := H.ent.open
  obtain ⟨b, off, x, rfl, hx, -, hc⟩ := h2.get hje
  obtain ⟨g1, g2, g3, g4⟩ := h6 _ rfl
  simp only at g2
  subst g2
  have hl := List.getElem?_eq_getElem hj
  obtain ⟨q1, q2, q3, q4, q5, q6⟩ := H.row j x _ hx hl
  have hv : v.ownBlock = some b := by rw [h1]; rfl
  obtain ⟨f1, f2, f3⟩ := H.fv b hv
  rw [H.le] at h1
  have c0 := hc 0 _ rfl
  have c1 := hc 1 _ rfl
  rw [show GEn.k = 2 from rfl, Nat.zero_add, Nat.add_zero] at c0
  rw [show GEn.k = 2 from rfl, Nat.zero_add] at c1
  exact ⟨b, c, x, _, h1, f1, f2, f3, hx, hl, List.getElem_mem hj, q1, q2, q3, q4, q5, q6, c0, c1⟩
/-- the map has turned -/
theorem BAt.remap {N' : Nat} {f' : Int → Int → Option Int} (H : BAt F g m v es s N f w) (ho : Only (fun k => k = m) w w') (hm : OwnM m N' f' w') (T : Kin w') : BAt F g m v es s N' f' w' where
  r0 := H.r0.only ho (fun e => H.fm.2 e.symm)
  ent := ownsG_only H.ent ho fun q hq hx => (H.fv q hq).2.2 hx
  le := H.le
  ld := H.ld
  row := fun j x ls h1 h2 => by
    obtain ⟨q1, q2, q3, q4, q5, q6⟩ := H.row j x ls h1 h2
    exact ⟨q1, q2, q3.only ho (fun ad e => Or.inr (q6 ad e).2.2.2), q4, q5, q6⟩
  mp := hm
  fg := H.fg
  fm := H.fm
  fv := H.fv
  lt := fun k hk => Nat.lt_of_lt_of_le (H.lt k hk) ho.size
  low := H.low
  kin := T
  big := H.big
  ok := H.ok
end

theorem build_book (m : Nat) (w : World) : (Instr.build 63 #[(1, .map (some m))]).run Tryd.prog w = .ok (.agg #[.slice none 0 0, .map (some m)]) w := run_build w 63 _ _ (by kernel_rfl)

set_option maxHeartbeats 2000000 in
theorem new10_any (w : World) (T : Kin w) : Calls Tryd.prog 11 #[] w fun e w' => Below w.heap.size w w' ∧ ∃ p F, e = .returned (.pointer (some p)) ∧ BB F p Bk.zero w' ∧ ∀ k, F k → w.heap.size ≤ k := by
  have hmm := @run_makeMap Tryd.prog
  have hbb := build_book
  have hM := OwnM.made w
  have hB1 := (Below.refl w.heap.size w).alloc (Nat.le_refl _) (.map #[] 0)
  have HB := Lib.hid (hB1.alloc (by simp) (Obj.cells #[.slice none 0 0, .map (some w.heap.size)] 63))
  have HR := Lib.hid (Row.new (w.alloc (.map #[] 0)) [.slice none 0 0, .map (some w.heap.size)] 63)
  have HM := Lib.hid (hM.up ((Below.refl _ (w.alloc (.map #[] 0))).alloc (Nat.le_refl _) (Obj.cells #[.slice none 0 0, .map (some w.heap.size)] 63)))
  have HT := Lib.hid (T.of HB.out)
  have HTK := Lib.hid T.s1
  clear T hM hB1
  go_enter Tryd.func11, Tryd.ntmps11
  go_wp2_with fail
  go_ret
  refine ⟨HB.out, ⟨w.heap.size + 1, 0, none⟩, fun k => w.heap.size ≤ k ∧ k < w.heap.size + 2, by simp, ⟨w.heap.size + 1, w.heap.size, .slice none 0 0, [], rfl, ?_⟩, fun k hk => hk.1⟩
  have hr := HR.out
  rw [World.size_alloc] at hr
  exact ⟨hr, ownsG_nil _ _, rfl, rfl, (fun j x ls h => by simp at h), HM.out.cong (fun k o _ _ => rfl), ⟨by omega, by omega⟩, ⟨⟨by omega, by omega⟩, by omega⟩, (fun q h => by cases h), (fun k hk => by simp; omega), (fun k hk => Nat.lt_of_lt_of_le HTK.out hk.1), HT.out, by simp [Bk.zero], (fun l hl => by cases hl)⟩

set_option maxHeartbeats 2000000 in
theorem len10_any {F : Nat → Prop} {g m : Nat} {v : Value} {es : List En} {s : Bk} {N : Nat} {f : Int → Int → Option Int} (w : World) (H : BAt F g m v es s N f w) :
    Calls Tryd.prog 15 #[.pointer (some ⟨g, 0, none⟩)] w fun e w' => e = .returned (.int .i64 (s.L.length : Int)) ∧ w' = w := by
  obtain ⟨c0, c1⟩ := H.cells
  obtain ⟨a, c, rfl, -⟩ := H.slice
  clear H
  go_enter Tryd.func15, Tryd.ntmps15
  go_wp2_with fail
  go_ret
  exact ⟨by simp, rfl⟩

/-- is there such an entry? -/
def standsN (s : Bk) (n : Int) : Bool := decide (0 ≤ n ∧ n < (s.L.length : Int))

set_option maxHeartbeats 2000000 in
theorem stands_any {F : Nat → Prop} {g m : Nat} {v : Value} {es : List En} {s : Bk} {N : Nat} {f : Int → Int → Option Int} (n : Int) (w : World) (H : BAt F g m v es s N f w) (hn : in64 n) :
    Calls Tryd.prog 30 #[.pointer (some ⟨g, 0, none⟩), .int .i64 n] w fun e w' => e = .returned (.bool (standsN s n)) ∧ w' = w := by
  obtain ⟨c0, c1⟩ := H.cells
  obtain ⟨a, c, rfl, -⟩ := H.slice
  have HN := Lib.hid hn
  clear H hn
  by_cases h1 : 0 ≤ n
  · by_cases h2 : n < (s.L.length : Int)
    · have HS : Hid (standsN s n = true) := decide_eq_true ⟨h1, h2⟩
      go_enter Tryd.func30, Tryd.ntmps30
      go_wp2_with fail
      go_ret
      exact ⟨by rw [HS.out]; simp, rfl⟩
    · have HS : Hid (standsN s n = false) := decide_eq_false fun h => h2 h.2
      go_enter Tryd.func30, Tryd.ntmps30
      go_wp2_with fail
      go_ret
      exact ⟨by rw [HS.out]; simp, rfl⟩
  · have HS : Hid (standsN s n = false) := decide_eq_false fun h => h1 h.1
    go_enter Tryd.func30, Tryd.ntmps30
    go_wp2_with fail
    go_ret
    exact ⟨by rw [HS.out]; simp, rfl⟩

set_option maxHeartbeats 4000000 in
theorem balance10_any {F : Nat → Prop} {g m : Nat} {v : Value} {es : List En} {s : Bk} {N : Nat} (k o : Int) (w : World) (H : BAt F g m v es s N (balF s) w) (hk : in64 k) (ho : in64 o) :
    Calls Tryd.prog 16 #[.pointer (some ⟨g, 0, none⟩), .agg #[.int .i64 k, .int .i64 o]] w fun e w' => Below w.heap.size w w' ∧ e = .returned (.int .i64 (s.bal k o)) := by
  obtain ⟨w1, hw1⟩ : ∃ w1, w1 = w.alloc (Obj.cells #[.int .i64 k, .int .i64 o] 24) := ⟨_, rfl⟩
  have hb1 : Below w.heap.size w w1 := hw1 ▸ (Below.refl w.heap.size w).alloc (Nat.le_refl _) _
  have H1 := H.up hb1
  obtain ⟨c0, c1⟩ := H1.cells
  obtain ⟨bx, hbx⟩ : ∃ bx, bx = w.heap.size := ⟨_, rfl⟩
  have b0 : w1.cell? ⟨bx, 0, none⟩ = some (.int .i64 k) := by rw [hw1, hbx]; simp
  have b1 : w1.cell? ⟨bx, 1, none⟩ = some (.int .i64 o) := by rw [hw1, hbx]; simp
  have hl : ∀ q, (Instr.lookup TMap (.map (some m)) (.agg #[.int .i64 k, .int .i64 o]) false).run Tryd.prog (w1.drewN q) = .ok (.int .i64 (s.bal k o)) (w1.drewN q) := fun q => by
    have h := (H1.mp.up (below_drewN (Below.refl _ w1) q)).look hk ho
    rw [balF_get] at h
    exact h
  have HB := Lib.hid hb1
  clear H H1 hk ho hb1
  go_enter Tryd.func16, Tryd.ntmps16
  go_wp2_with fail
  rw [← hw1, ← hbx]
  clear hw1 hbx
  go_quiet (fail)
  go_wp2_with fail
  go_ret
  exact ⟨below_drewN HB.out _, rfl⟩
end Go.Proofs.YtcdkgfjjgebcnaaDoor
