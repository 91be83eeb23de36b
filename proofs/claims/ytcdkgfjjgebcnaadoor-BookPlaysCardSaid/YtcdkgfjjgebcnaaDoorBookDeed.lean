/- A script of deeds in memory (layer 10); which of n things a raw number speaks of; whether lines are few. -/
import Derived.Test.YtcdkgfjjgebcnaaDoorBookC
namespace Go.Proofs.YtcdkgfjjgebcnaaDoor
open Go Go.RowKit
set_option linter.unusedVariables false

structure DeedL where
  (k n : Int) (a : Option Addr) (m c : Nat) (ls : List Ln)
structure DeedL.Ok (v : DeedL) (w : World) : Prop where
  hk : in64 v.k
  hn : in64 v.n
  hl : LinesAt w v.a v.m v.ls
  ho : OkL v.ls
  hc : v.m ≤ v.c
  hm : v.c ≤ maxLen
  hz : v.a = none → v.c = 0
structure DeedLAt (w : World) (b o : Nat) (v : DeedL) : Prop where
  c0 : w.cell? ⟨b, o, none⟩ = some (.int .i64 v.k)
  c1 : w.cell? ⟨b, o + 1, none⟩ = some (.int .i64 v.n)
  c2 : w.cell? ⟨b, o + 2, none⟩ = some (.slice v.a v.m v.c)
theorem DeedLAt.up {w W : World} {b o : Nat} {v : DeedL} (h : DeedLAt w b o v) (hb : Below w.heap.size w W) : DeedLAt W b o v :=
  ⟨by rw [hb.cell (p := ⟨b, o, none⟩) (cell_lt h.c0)]; exact h.c0, by rw [hb.cell (p := ⟨b, o + 1, none⟩) (cell_lt h.c1)]; exact h.c1, by rw [hb.cell (p := ⟨b, o + 2, none⟩) (cell_lt h.c2)]; exact h.c2⟩
theorem DeedL.Ok.up {w W : World} {v : DeedL} (h : v.Ok w) (hb : Below w.heap.size w W) : v.Ok W := ⟨h.hk, h.hn, h.hl.up hb, h.ho, h.hc, h.hm, h.hz⟩
/-- a script as it came in -/
def Deeds10 (w : World) (a : Option Addr) (vs : List DeedL) : Prop := vs.length = 0 ∨ ∃ b o, a = some ⟨b, o, none⟩ ∧ ∀ (j : Nat) (v : DeedL), vs[j]? = some v → DeedLAt w b (o + j * 3) v ∧ v.Ok w
theorem Deeds10.up {w W : World} {a : Option Addr} {vs : List DeedL} (h : Deeds10 w a vs) (hb : Below w.heap.size w W) : Deeds10 W a vs := by
  rcases h with h | ⟨b, o, e, h⟩
  · exact Or.inl h
  · exact Or.inr ⟨b, o, e, fun j v hj => ⟨(h j v hj).1.up hb, (h j v hj).2.up hb⟩⟩
theorem Deeds10.get {w : World} {a : Option Addr} {vs : List DeedL} (h : Deeds10 w a vs) {j : Nat} (hj : j < vs.length) : ∃ b o v, a = some ⟨b, o, none⟩ ∧ vs[j]? = some v ∧ DeedLAt w b (o + j * 3) v ∧ v.Ok w := by
  rcases h with h | ⟨b, o, e, h⟩
  · omega
  · obtain ⟨h1, h2⟩ := h j _ (List.getElem?_eq_getElem hj)
    exact ⟨b, o, vs[j], e, List.getElem?_eq_getElem hj, h1, h2⟩

/-- are deeds' lines few? -/
def shortL (vs : List DeedL) : Bool := (vs.take 40).all fun v => decide (v.m ≤ 100)
theorem shortL_at {vs : List DeedL} (h : shortL vs = true) {j : Nat} (hj : j < 40) {v : DeedL} (hv : vs[j]? = some v) : v.m ≤ 100 := by
  unfold shortL at h
  rw [List.all_eq_true] at h
  have hm : v ∈ vs.take 40 := by
    have hl := (List.getElem?_eq_some_iff.1 hv).1
    rw [List.mem_take_iff_getElem]
    exact ⟨j, by omega, (List.getElem?_eq_some_iff.1 hv).2⟩
  simpa using h v hm

set_option maxHeartbeats 4000000 in
theorem short_any (a : Option Addr) (c : Nat) (vs : List DeedL) (w : World) (h : Deeds10 w a vs) (hc : vs.length ≤ c) (hm : c ≤ maxLen) :
    Calls Tryd.prog 10 #[.slice a vs.length c] w fun e w' => e = .returned (.bool (shortL vs)) ∧ Below w.heap.size w w' := by
  have HD := Lib.hid h
  have hml : vs.length ≤ 9223372036854775807 := by unfold maxLen at hm; omega
  obtain ⟨len, hlen⟩ : ∃ len, vs.length = len := ⟨_, rfl⟩
  have HL := Lib.hid hlen
  rw [hlen] at hc hml ⊢
  clear hlen h hm
  go_enter Tryd.func10, Tryd.ntmps10
  go_wp2_with fail
  go_loopw [3] (fun i wr => ∃ j : Nat, i = .int .i64 (j : Int) ∧ j ≤ len ∧ j ≤ 40 ∧ Hid ((vs.take j).all (fun v => decide (v.m ≤ 100)) = true) ∧ Hid (Below w.heap.size w wr)) (fun i _ => 40 - (RowKit.intOf i).toNat)
  case atStart => exact ⟨0, rfl, by omega, by omega, (show _ = _ by simp), Below.refl _ _⟩
  case round =>
    obtain ⟨j, rfl, hj, hj40, hall, hbel⟩ := hrel
    by_cases hlt : j < len ∧ j < 40
    · obtain ⟨hl1, hl2⟩ := hlt
      have t1 : (j : Int) < (len : Int) := by omega
      have t2 : (j : Int) < 40 := by omega
      obtain ⟨b, o, v, rfl, hv, hat, hok⟩ := (HD.out.up hbel.out).get (j := j) (by rw [HL.out]; exact hl1)
      obtain ⟨-, -, c2⟩ := hat
      have HV := Lib.hid hv
      clear hok hv
      by_cases hbig : 100 < v.m
      · have t3 : (100 : Int) < (v.m : Int) := by omega
        have hs : Hid (shortL vs = false) := by
          show shortL vs = false
          cases hh : shortL vs with
          | false => rfl
          | true => have := shortL_at hh hl2 HV.out; omega
        go_wp2_with fail
        go_ret
        exact ⟨by rw [hs.out]; rfl, hbel.out⟩
      · have t3 : ¬ (100 : Int) < (v.m : Int) := by omega
        have hnew : Hid ((vs.take (j + 1)).all (fun v => decide (v.m ≤ 100)) = true) := by
          show _ = _
          rw [List.take_add_one, HV.out, List.all_append, hall.out]
          simp
          omega
        clear hall
        go_wp2_with fail
        go_roundw
        case rel => exact ⟨j + 1, by go_num, by omega, by omega, hnew, hbel⟩
        case measure => simp [RowKit.intOf]; omega
    · have hs : Hid (shortL vs = true) := by
        show shortL vs = true
        have h1 := hall.out
        unfold shortL
        rcases Nat.lt_or_ge j 40 with h | h
        · rw [List.take_of_length_le (by rw [HL.out]; omega)] at h1 ⊢
          exact h1
        · rw [show j = 40 by omega] at h1
          exact h1
      by_cases hl1 : j < len
      · have t1 : (j : Int) < (len : Int) := by omega
        have t2 : ¬ (j : Int) < 40 := by omega
        clear hlt
        go_wp2_with fail
        go_ret
        exact ⟨by rw [hs.out]; rfl, hbel.out⟩
      · have t1 : ¬ (j : Int) < (len : Int) := by omega
        clear hlt
        go_wp2_with fail
        go_ret
        exact ⟨by rw [hs.out]; rfl, hbel.out⟩

/-- which of n things a raw number speaks of -/
def pickB (c : Int) (n : Nat) : Nat := ((if c < 0 then -(c + 1) else c) % (n : Int)).toNat

set_option maxHeartbeats 4000000 in
theorem pick10_any (c : Int) (n : Nat) (w : World) (hc : in64 c) (hn : 1 ≤ n) (hn2 : n ≤ 1000) :
    Calls Tryd.prog 20 #[.int .i64 c, .int .i64 (n : Int)] w fun e w' => e = .returned (.int .i64 (pickB c n : Int)) ∧ w' = w := by
  obtain ⟨x, hx, hx0, hx1⟩ : ∃ x : Int, (if c < 0 then -(c + 1) else c) = x ∧ 0 ≤ x ∧ x ≤ 9223372036854775807 := by
    obtain ⟨h1, h2⟩ := hc
    refine ⟨_, rfl, ?_, ?_⟩ <;> split <;> omega
  have hp : Hid ((pickB c n : Int) = x % (n : Int)) := by
    show (pickB c n : Int) = _
    rw [pickB, hx]
    exact Int.toNat_of_nonneg (Int.emod_nonneg _ (by omega))
  have hr0 := Int.emod_nonneg x (show (n : Int) ≠ 0 by omega)
  have hr1 := Int.emod_lt_of_pos x (show 0 < (n : Int) by omega)
  obtain ⟨r, hr⟩ : ∃ r, x % (n : Int) = r := ⟨_, rfl⟩
  rw [hr] at hp hr0 hr1
  have tq : Int.tmod x (n : Int) = r := by rw [Int.tmod_eq_emod_of_nonneg hx0, hr]
  have tw : IntKind.i64.wrap r = r := IntWalk.i64_in _ (by omega)
  have tn : ((n : Int) == 0) = false := by simp; omega
  have HX := Lib.hid hx
  have hc1 := hc.1
  have hc2 := hc.2
  clear hx hr hc
  go_enter Tryd.func20, Tryd.ntmps20
  by_cases hneg : c < 0
  all_goals
    have hin := HX.out
    first
      | rw [if_pos hneg] at hin
      | rw [if_neg hneg] at hin
    first
      | (have e0 : IntKind.i64.wrap (c + 1) = c + 1 := IntWalk.i64_in _ (by omega); have e1 : -(c + 1) = x := hin; have e2 : IntKind.i64.wrap x = x := IntWalk.i64_in _ (by omega); clear hin)
      | (subst hin)
    go_wp2_with fail
    go_ret
    exact ⟨by rw [hp.out]; rfl, rfl⟩
end Go.Proofs.YtcdkgfjjgebcnaaDoor
