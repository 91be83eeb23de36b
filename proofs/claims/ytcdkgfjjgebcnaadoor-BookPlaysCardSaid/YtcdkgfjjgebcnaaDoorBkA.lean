/- Several texts as one (made by merge.py): KinLaid, KinLaid10, PackNum, ChartC, ChartL4, Chart, ChartNum3, Chart2, Num, Div, Cents, MulDiv, Up01, Add, CentsBack, Sum. -/
import Derived.Test.YtcdkgfjjgebcnaaDoorKin
import Derived.MakeChecks
import Derived.LaidMore
import Derived.Stop.LaidErr
import Derived.Deep.Strs
import Derived.Shelf.Vars
import Derived.WalkKit
import Derived.Test.YtcdkgfjjgebcnaaDoorErr
import Derived.LoopTactic
import Derived.RegionTactic
import Derived.Deep.QuietTactic
import Derived.BigQuiet
import Derived.Lib.Hide
import Derived.Deep.Draws
import Derived.Below
import Derived.WalkSmall
import Derived.WalkSpells
import Derived.Laws.Strings
import Derived.Deep.RegionHeld3
import Derived.Test.YtcdkgfjjgebcnaaDoorShelf
import Derived.Test.YtcdkgfjjgebcnaaDoorChartNum
import Derived.Lib.AtoiAll
import Derived.Lib.IndexMore
import Derived.Lib.ItoaNum
import Derived.Sort.Grow
import Derived.ProofKit
import Derived.Deep.LoopGhost
import Derived.Test.YtcdkgfjjgebcnaaDoorInts
import Derived.Test.YtcdkgfjjgebcnaaDoorRnd
import Derived.Laws.Externs
/- That chart's table and what the library reads lie in a world: out of a row's own condition, and of the world's shape. -/
namespace Go.Proofs.YtcdkgfjjgebcnaaDoor
open Go Go.RowKit

theorem gKinds : Tryd.prog.globalNamed "trivet/chart.kinds" = some 0 := by kernel_rfl
theorem gKindsType : (Tryd.prog.globals[0]?).map (·.type) = some 112 := by kernel_rfl
/-- a row of the table as it is listed -/
def kinRow (k : Nat) : DataW Unit := .agg [.lit (.string (namK k)), .lit (.int .i64 (moK k)), .lit (.bool (deK k))]
def kinData : DataW Unit := .agg ((List.range 13).map kinRow)

theorem kin_row {w : World} {fuel : Nat} {cs : List Value} {p : List MemPlace} (h : DataW.trod (fun _ => ()) Tryd.prog w 0 (fun _ => true) false fuel 112 cs = some (kinData, p)) (k : Nat) (hk : k < 13) :
    cs[3 * k]? = some (.string (strL (namK k))) ∧ cs[3 * k + 1]? = some (.int .i64 (moK k)) ∧ cs[3 * k + 2]? = some (.bool (deK k)) := by
  cases fuel with
  | zero => simp [DataW.trod] at h
  | succ fuel =>
    have hu : Tryd.prog.underlying 112 = some (.array 13 111) := by kernel_rfl
    have hc : Tryd.prog.cellsOf 111 = 3 := by kernel_rfl
    simp only [DataW.trod, hu, hc] at h
    split at h
    · obtain ⟨xs, hm, hx⟩ := Option.map_eq_some_iff.1 h
      obtain ⟨b, hb, hf⟩ := Lib.mapM_at hm k k (by simp [hk])
      have hxs : xs.map (·.1) = (List.range 13).map kinRow := by
        have := congrArg Prod.fst hx
        simpa [kinData] using this
      have hb1 : b.1 = kinRow k := by
        have h1 : (xs.map (·.1))[k]? = some b.1 := by simp [hb]
        rw [hxs] at h1
        simp [hk] at h1
        exact h1.symm
      obtain ⟨ys, n, _, rfl, _, hlen, hg⟩ := DataW.trod_struct Tryd.underlying111 hf
      obtain ⟨y0, y1, y2, rfl⟩ : ∃ y0 y1 y2, ys = [y0, y1, y2] := by
        match ys, hlen with
        | [y0, y1, y2], _ => exact ⟨y0, y1, y2, rfl⟩
      have h0 := hg 0 _ rfl
      have h1 := hg 1 _ rfl
      have h2 := hg 2 _ rfl
      simp only [List.getElem?_cons_zero, List.getElem?_cons_succ] at h0 h1 h2
      clear hg
      obtain ⟨s, e0, rfl, _⟩ := DataW.trod_string (by kernel_rfl) h0
      obtain ⟨i, e1, rfl, _⟩ := DataW.trod_int (k := .i64) (by kernel_rfl) h1
      obtain ⟨d, e2, rfl⟩ := DataW.trod_bool (by kernel_rfl) h2
      simp only [kinRow, List.map_cons, List.map_nil, DataW.agg.injEq, List.cons.injEq, DataW.lit.injEq, Lit.string.injEq, Lit.int.injEq, Lit.bool.injEq, true_and, and_true] at hb1
      obtain ⟨k0, k1, k2⟩ := hb1
      simp only [List.getElem_toArray, List.getElem_cons_zero, List.getElem_cons_succ] at e0 e1 e2
      rw [show Tryd.prog.cellsOf 9 = 1 by kernel_rfl] at e0
      rw [show Tryd.prog.cellsOf 3 = 1 by kernel_rfl] at e1
      rw [show Tryd.prog.cellsOf 4 = 1 by kernel_rfl] at e2
      have f0 := congrArg (·[0]?) e0
      have f1 := congrArg (·[0]?) e1
      have f2 := congrArg (·[0]?) e2
      simp [List.getElem?_drop] at f0 f1 f2
      rw [Nat.mul_comm k 3] at f0 f1 f2
      refine ⟨?_, ?_, ?_⟩
      · rw [f0, ← k0]; simp [strL]
      · rw [f1, k1]
      · rw [f2, k2]
    · cases h

theorem iface_cell {P : Program} {w : World} {fuel : Nat} {t : TypeId} {ms : Array (String × TypeId)} {cs : List Value} {x : DataW Unit × List MemPlace} (ht : P.underlying t = some (.interface ms))
    (h : DataW.trod (fun _ => ()) P w 0 (fun _ => true) false fuel t cs = some x) : ∃ ev, cs[0]? = some ev ∧ (ev = .nilIface ∨ ∃ te pe, ev = .iface te pe) := by
  cases fuel with
  | zero => simp [DataW.trod] at h
  | succ n =>
    unfold DataW.trod at h
    rw [ht] at h
    split at h <;> simp_all

theorem laid_mem {P : Program} {w : World} {n : String} {d : DataW Unit} : ∀ {l : List (String × DataW Unit)} {ps : List MemPlace}, DataW.LaidVars P w l ps → (n, d) ∈ l →
    ∃ g t cs fuel p, P.globalNamed n = some g ∧ (P.globals[g]?).map (·.type) = some t ∧ w.var? P n = some cs ∧ DataW.trod (fun _ => ()) P w 0 (fun _ => true) false fuel t cs.toList = some (d, p)
  | [], _, _, hm => by cases hm
  | (n', d') :: r, ps, h, hm => by
    obtain ⟨g, t, cs, fuel, p, q, h1, h2, h3, h4, h5, _⟩ := h
    rcases List.mem_cons.1 hm with e | hm
    · obtain ⟨rfl, rfl⟩ := Prod.mk.inj e
      exact ⟨g, t, cs, fuel, p, h1, h2, h3, h4⟩
    · exact laid_mem h5 hm

end Go.Proofs.YtcdkgfjjgebcnaaDoor

/- That chart's table lies in a world: out of a row's own condition (where the code reads no other variable). -/
namespace Go.Proofs.YtcdkgfjjgebcnaaDoor
open Go Go.RowKit

theorem kin_laid10 {W : World} {l : List (String × DataW Unit)} (h : laidMetH Tryd.prog l W) (hl : (l.all fun x => x.2.handleName?.isNone) = true) (m1 : ("trivet/chart.kinds", kinData) ∈ l) : Kin W := by
  rw [MakeChecks.laidMetH_plain _ _ _ hl] at h
  obtain ⟨ps, hv, _⟩ := h
  obtain ⟨g, t, cs, fuel, p, hg, ht, hvar, hd⟩ := laid_mem hv m1
  obtain rfl := Option.some.inj (gKinds.symm.trans hg)
  obtain rfl := Option.some.inj (gKindsType.symm.trans ht)
  have hrow := kin_row hd
  have hcell := fun i => World.var?_cell hg hvar i
  have hk0 := (hrow 0 (by omega)).1
  have q0 : W.cell? ⟨0, 3 * 0, none⟩ = some (.string (strL (namK 0))) := by rw [hcell]; simpa using hk0
  refine ⟨World.block_lt_of_cell? W _ q0, fun k hk => ?_, fun k hk => ?_, fun k hk => ?_⟩
  · rw [hcell]; simpa using (hrow k hk).1
  · rw [hcell]; simpa using (hrow k hk).2.1
  · rw [hcell]; simpa using (hrow k hk).2.2
end Go.Proofs.YtcdkgfjjgebcnaaDoor

/- Plain bytes of layer 6: numbers and commands as bytes. No program in sight. -/
namespace Go.Proofs.YtcdkgfjjgebcnaaDoor
open Go
set_option linter.unusedVariables false

/-- a number of whatever sign as one that isn't below 0 -/
def zig (n : Int) : Nat := if 0 ≤ n then (2 * n).toNat else (-2 * n - 1).toNat
theorem zig_inj {a b : Int} (h : zig a = zig b) : a = b := by unfold zig at h; split at h <;> split at h <;> omega

/-- seven-bit digits, the lowest first -/
def dig7 (u : Nat) : List Nat := if h : u < 128 then [u] else (u % 128 + 128) :: dig7 (u / 128)
termination_by u
decreasing_by omega

theorem dig7_lt {u : Nat} (h : u < 128) : dig7 u = [u] := by rw [dig7]; simp [h]
theorem dig7_ge {u : Nat} (h : 128 ≤ u) : dig7 u = (u % 128 + 128) :: dig7 (u / 128) := by rw [dig7]; simp [show ¬ u < 128 by omega]

theorem dig7_byte (u : Nat) : ∀ b ∈ dig7 u, b < 256 := by
  induction u using Nat.strongRecOn with
  | _ u ih =>
    intro b hb
    by_cases h : u < 128
    · rw [dig7_lt h] at hb; simp at hb; omega
    · rw [dig7_ge (by omega)] at hb
      simp only [List.mem_cons] at hb
      rcases hb with rfl | hb
      · omega
      · exact ih _ (by omega) b hb

/-- prefix-free: where one's digits end the other's do -/
theorem dig7_prefix : ∀ (u v : Nat) (r s : List Nat), dig7 u ++ r = dig7 v ++ s → u = v ∧ r = s := by
  intro u
  induction u using Nat.strongRecOn with
  | _ u ih =>
    intro v r s h
    by_cases hu : u < 128
    · rw [dig7_lt hu] at h
      by_cases hv : v < 128
      · rw [dig7_lt hv] at h
        simp at h
        exact h
      · rw [dig7_ge (by omega)] at h
        simp only [List.cons_append, List.nil_append, List.cons.injEq] at h
        omega
    · rw [dig7_ge (by omega)] at h
      by_cases hv : v < 128
      · rw [dig7_lt hv] at h
        simp only [List.cons_append, List.nil_append, List.cons.injEq] at h
        omega
      · rw [dig7_ge (u := v) (by omega)] at h
        simp only [List.cons_append, List.cons.injEq] at h
        obtain ⟨h1, h2⟩ := h
        obtain ⟨h3, h4⟩ := ih (u / 128) (by omega) (v / 128) r s h2
        exact ⟨by omega, h4⟩

theorem dig7_len (u : Nat) : 1 ≤ (dig7 u).length := by
  rw [dig7]; split <;> simp

/-- how many digits there are at most -/
theorem dig7_le : ∀ (k u : Nat), u < 128 ^ (k + 1) → (dig7 u).length ≤ k + 1 := by
  intro k
  induction k with
  | zero => intro u h; rw [dig7_lt (by simpa using h)]; simp
  | succ k ih =>
    intro u h
    by_cases hu : u < 128
    · rw [dig7_lt hu]; simp
    · rw [dig7_ge (by omega)]
      have : u / 128 < 128 ^ (k + 1) := by
        rw [Nat.div_lt_iff_lt_mul (by omega)]
        have e : 128 ^ (k + 1 + 1) = 128 ^ (k + 1) * 128 := Nat.pow_succ ..
        omega
      have := ih _ this
      simp only [List.length_cons]
      omega

/-- what digits are worth -/
def val7 : List Nat → Nat
  | [] => 0
  | b :: r => b % 128 + 128 * val7 r

theorem val7_dig7 (u : Nat) : val7 (dig7 u) = u := by
  induction u using Nat.strongRecOn with
  | _ u ih =>
    by_cases h : u < 128
    · rw [dig7_lt h]; simp [val7]; omega
    · rw [dig7_ge (by omega)]
      simp only [val7]
      rw [ih _ (by omega)]
      omega

/-- how many bytes that say that another one follows stand at the beginning, nine at most counted by the caller -/
def more : List Nat → Nat
  | [] => 0
  | b :: r => if 127 < b then more r + 1 else 0

theorem more_dig7 (u : Nat) (r : List Nat) : more (dig7 u ++ r) + 1 = (dig7 u).length := by
  induction u using Nat.strongRecOn with
  | _ u ih =>
    by_cases h : u < 128
    · rw [dig7_lt h]; simp only [List.cons_append, List.nil_append, more, List.length_cons, List.length_nil]; rw [if_neg (by omega)]
    · rw [dig7_ge (by omega)]
      simp only [List.cons_append, more, List.length_cons]
      rw [if_pos (by omega)]
      have := ih (u / 128) (by omega)
      omega

/-- a number's bytes -/
def numB (n : Int) : List Nat := dig7 (zig n)

theorem numB_prefix {a b : Int} {r s : List Nat} (h : numB a ++ r = numB b ++ s) : a = b ∧ r = s := by
  obtain ⟨h1, h2⟩ := dig7_prefix _ _ _ _ h
  exact ⟨zig_inj h1, h2⟩

def i64 (n : Int) : Prop := -9223372036854775808 ≤ n ∧ n ≤ 9223372036854775807

theorem zig_64 {n : Int} (h : i64 n) : zig n < 18446744073709551616 := by unfold zig; obtain ⟨h1, h2⟩ := h; split <;> omega
theorem numB_len {n : Int} (h : i64 n) : 1 ≤ (numB n).length ∧ (numB n).length ≤ 10 := by
  refine ⟨dig7_len _, dig7_le 9 _ ?_⟩
  have := zig_64 h
  have e : 128 ^ (9 + 1) = 1180591620717411303424 := by decide
  omega

/-- all numbers' bytes -/
def allB : List Int → List Nat
  | [] => []
  | n :: r => numB n ++ allB r

theorem allB_append (l r : List Int) : allB (l ++ r) = allB l ++ allB r := by
  induction l with
  | nil => rfl
  | cons a l ih => simp only [List.cons_append, allB, ih, List.append_assoc]

theorem allB_prefix : ∀ (l l' : List Int) (r s : List Nat), l.length = l'.length → allB l ++ r = allB l' ++ s → l = l' ∧ r = s := by
  intro l
  induction l with
  | nil =>
    intro l' r s hl h
    cases l' with
    | nil => exact ⟨rfl, h⟩
    | cons a l' => simp at hl
  | cons a l ih =>
    intro l' r s hl h
    cases l' with
    | nil => simp at hl
    | cons b l' =>
      simp only [allB, List.append_assoc] at h
      obtain ⟨rfl, h2⟩ := numB_prefix h
      obtain ⟨rfl, h4⟩ := ih l' r s (by simpa using hl) h2
      exact ⟨rfl, h4⟩

/-- a command's bytes -/
def putB (kind key loan : Int) (N : List Int) : List Nat := allB (kind :: key :: loan :: (N.length : Int) :: N)

theorem putB_prefix {k y l k' y' l' : Int} {N N' : List Int} {r s : List Nat} (h : putB k y l N ++ r = putB k' y' l' N' ++ s) : k = k' ∧ y = y' ∧ l = l' ∧ N = N' ∧ r = s := by
  unfold putB at h
  simp only [allB, List.append_assoc] at h
  obtain ⟨h1, h⟩ := numB_prefix h
  obtain ⟨h2, h⟩ := numB_prefix h
  obtain ⟨h3, h⟩ := numB_prefix h
  obtain ⟨h4, h⟩ := numB_prefix h
  obtain ⟨h5, h6⟩ := allB_prefix N N' r s (by omega) h
  exact ⟨h1, h2, h3, h5, h6⟩

theorem putB_len (k y l : Int) (N : List Int) : 4 ≤ (putB k y l N).length := by
  unfold putB
  simp only [allB, List.length_append]
  have h1 := dig7_len (zig k)
  have h2 := dig7_len (zig y)
  have h3 := dig7_len (zig l)
  have h4 := dig7_len (zig (N.length : Int))
  unfold numB
  omega

theorem allB_byte (l : List Int) : ∀ b ∈ allB l, b < 256 := by
  induction l with
  | nil => intro b hb; cases hb
  | cons a l ih =>
    intro b hb
    simp only [allB, List.mem_append] at hb
    rcases hb with hb | hb
    · exact dig7_byte _ b hb
    · exact ih b hb

theorem allB_len (l : List Int) (h : ∀ n ∈ l, i64 n) : (allB l).length ≤ 10 * l.length := by
  induction l with
  | nil => simp [allB]
  | cons a l ih =>
    simp only [allB, List.length_append, List.length_cons]
    have := (numB_len (h a (by simp))).2
    have := ih (fun n hn => h n (by simp [hn]))
    omega

/-- a number of whatever sign, back -/
def unzig (u : Nat) : Int := if u % 2 = 1 then -((u / 2 : Nat) : Int) - 1 else ((u / 2 : Nat) : Int)
theorem zig_unzig (u : Nat) : zig (unzig u) = u := by unfold zig unzig; split <;> split <;> omega
theorem unzig_zig (n : Int) : unzig (zig n) = n := zig_inj (zig_unzig _)
theorem unzig_64 {u : Nat} (h : u < 18446744073709551616) : i64 (unzig u) := by unfold i64 unzig; split <;> omega

/-- where digits end -/
theorem dig7_end (u : Nat) : (∀ i, i + 1 < (dig7 u).length → 127 < (dig7 u).getD i 0) ∧ (dig7 u).getD ((dig7 u).length - 1) 0 ≤ 127 := by
  induction u using Nat.strongRecOn with
  | _ u ih =>
    by_cases h : u < 128
    · rw [dig7_lt h]
      exact ⟨fun i hi => by simp at hi, by simp; omega⟩
    · rw [dig7_ge (by omega)]
      obtain ⟨h1, h2⟩ := ih (u / 128) (by omega)
      have h3 := dig7_len (u / 128)
      refine ⟨fun i hi => ?_, ?_⟩
      · cases i with
        | zero => simp
        | succ i =>
          simp only [List.length_cons] at hi
          simpa using h1 i (by omega)
      · simp only [List.length_cons, Nat.add_sub_cancel]
        have e : (dig7 (u / 128)).length = ((dig7 (u / 128)).length - 1) + 1 := by omega
        rw [e]
        simpa using h2

theorem getD_left (l r : List Nat) {i : Nat} (h : i < l.length) : (l ++ r).getD i 0 = l.getD i 0 := by
  simp [List.getD, List.getElem?_append_left h]

/-- where a number's bytes end in what begins with them -/
theorem rd_end {l r : List Nat} {v : Int} (h : i64 v) (e : l = numB v ++ r) : ∃ m, (numB v).length = m + 1 ∧ m ≤ 9 ∧ m < l.length ∧ (∀ i, i < m → 127 < l.getD i 0) ∧ l.getD m 0 ≤ 127 := by
  obtain ⟨h1, h2⟩ := numB_len h
  obtain ⟨g1, g2⟩ := dig7_end (zig v)
  have g1' : ∀ i, i + 1 < (numB v).length → 127 < (numB v).getD i 0 := g1
  have g2' : (numB v).getD ((numB v).length - 1) 0 ≤ 127 := g2
  refine ⟨(numB v).length - 1, by omega, by omega, by rw [e, List.length_append]; omega, fun i hi => ?_, ?_⟩
  · rw [e, getD_left _ _ (by omega)]; exact g1' i (by omega)
  · rw [e, getD_left _ _ (by omega)]; exact g2'

/-- no number begins there -/
def RdNo (l : List Nat) : Prop := ∀ v r, i64 v → l ≠ numB v ++ r

theorem rd_no {l : List Nat} {j : Nat} (h : ∀ i, i < j → 127 < l.getD i 0) (hj : l.length ≤ j ∨ 10 ≤ j) : RdNo l := by
  intro v r hv e
  obtain ⟨m, _, h2, h3, _, h5⟩ := rd_end hv e
  have := h m (by omega)
  omega

theorem rd_seg {l r : List Nat} {j : Nat} {v : Int} (h : ∀ i, i < j → 127 < l.getD i 0) (hj : l.getD j 0 ≤ 127) (hv : i64 v) (e : l = numB v ++ r) : l.take (j + 1) = numB v := by
  obtain ⟨m, h1, h2, h3, h4, h5⟩ := rd_end hv e
  have hm : m = j := by
    rcases Nat.lt_trichotomy m j with c | c | c
    · have := h m c; omega
    · exact c
    · have := h4 j c; omega
  subst hm
  rw [e, ← h1]
  simp

/-- what the bytes are worth tells the number, if it is one's -/
theorem rd_or {l : List Nat} {j : Nat} (h : ∀ i, i < j → 127 < l.getD i 0) (hj : l.getD j 0 ≤ 127) (hl : j < l.length) :
    (numB (unzig (val7 (l.take (j + 1)) % 18446744073709551616)) = l.take (j + 1) → ∃ r, l = numB (unzig (val7 (l.take (j + 1)) % 18446744073709551616)) ++ r) ∧
    (numB (unzig (val7 (l.take (j + 1)) % 18446744073709551616)) ≠ l.take (j + 1) → RdNo l) := by
  refine ⟨fun e => ⟨l.drop (j + 1), by rw [e, List.take_append_drop]⟩, fun hne v r hv e => hne ?_⟩
  have hs := rd_seg h hj hv e
  rw [hs]
  have h1 : val7 (numB v) = zig v := val7_dig7 _
  rw [h1, Nat.mod_eq_of_lt (zig_64 hv), unzig_zig]

theorem val7_step {l : List Nat} {c : Nat} (h : c < l.length) : val7 (l.drop c) = l.getD c 0 % 128 + 128 * val7 (l.drop (c + 1)) := by
  rw [List.drop_eq_getElem_cons h]
  simp [val7, List.getD, h]

/-- the numbers of a command -/
def cmdL (k y l : Int) (N : List Int) : List Int := k :: y :: l :: (N.length : Int) :: N

/-- what begins as numbers' bytes, and is a command's: these numbers are its first ones -/
theorem parse_prefix {bs rest : List Nat} {L : List Int} (h : bs = allB L ++ rest) {k y l : Int} {N : List Int} (e : bs = putB k y l N) (hle : L.length ≤ 4 + N.length) :
    L = (cmdL k y l N).take L.length ∧ rest = allB ((cmdL k y l N).drop L.length) := by
  have e2 : allB L ++ rest = allB ((cmdL k y l N).take L.length) ++ allB ((cmdL k y l N).drop L.length) := by
    rw [← allB_append, List.take_append_drop, ← h, e]; rfl
  exact allB_prefix _ _ _ _ (by rw [List.length_take]; simp [cmdL]; omega) e2

theorem drop_cons {M : List Int} {n : Nat} (h : n < M.length) : allB (M.drop n) = numB M[n] ++ allB (M.drop (n + 1)) := by
  rw [List.drop_eq_getElem_cons h]; rfl

/-- may these be a command's numbers? -/
def okC (k y l : Int) (N : List Int) : Prop := i64 k ∧ i64 y ∧ i64 l ∧ N.length ≤ 16 ∧ ∀ n ∈ N, i64 n
/-- no command's bytes -/
def NoCmd (bs : List Nat) : Prop := ∀ k y l N, okC k y l N → bs ≠ putB k y l N

theorem cmdL_64 {k y l : Int} {N : List Int} (h : okC k y l N) : ∀ n ∈ cmdL k y l N, i64 n := by
  obtain ⟨h1, h2, h3, h4, h5⟩ := h
  intro n hn
  simp only [cmdL, List.mem_cons] at hn
  rcases hn with rfl | rfl | rfl | rfl | hn
  · exact h1
  · exact h2
  · exact h3
  · unfold i64; omega
  · exact h5 n hn

/-- where no number begins though one is due -/
theorem noCmd_short {bs rest : List Nat} {L : List Int} (h : bs = allB L ++ rest) (hno : RdNo rest) (hL : L.length < 4 ∨ (∃ k y l n : Int, ∃ c, L = k :: y :: l :: n :: c ∧ (c.length : Int) < n)) : NoCmd bs := by
  intro k y l N hok e
  have hlt : L.length < 4 + N.length := by
    rcases hL with h | ⟨k', y', l', n', c, rfl, hc⟩
    · omega
    · have h4 : [k', y', l', n'].length ≤ 4 + N.length := by simp
      have h5 : bs = allB [k', y', l', n'] ++ (allB c ++ rest) := by rw [h]; simp [allB]
      have h6 := (parse_prefix h5 e h4).1
      simp [cmdL] at h6
      simp only [List.length_cons]
      omega
  obtain ⟨h1, h2⟩ := parse_prefix h e (by omega)
  have h3 : L.length < (cmdL k y l N).length := by simp [cmdL]; omega
  rw [drop_cons h3] at h2
  exact hno _ _ (cmdL_64 hok _ (List.getElem_mem _)) h2

theorem noCmd_count {bs rest : List Nat} {k y l n : Int} (h : bs = allB [k, y, l, n] ++ rest) (hn : n < 0 ∨ 16 < n) : NoCmd bs := by
  intro k' y' l' N hok e
  have h6 := (parse_prefix h e (by simp)).1
  simp [cmdL] at h6
  have := hok.2.2.2.1
  omega

theorem noCmd_rest {bs rest : List Nat} {k y l n : Int} {c : List Int} (h : bs = allB (k :: y :: l :: n :: c) ++ rest) (hn : (c.length : Int) = n) (hr : rest ≠ []) : NoCmd bs := by
  intro k' y' l' N hok e
  have h5 : bs = allB [k, y, l, n] ++ (allB c ++ rest) := by rw [h]; simp [allB]
  have h6 := (parse_prefix h5 e (by simp)).1
  simp [cmdL] at h6
  obtain ⟨h1, h2⟩ := parse_prefix h e (by simp; omega)
  apply hr
  rw [h2, List.drop_eq_nil_of_le (by simp [cmdL]; omega)]
  rfl

theorem isCmd {bs : List Nat} {k y l n : Int} {c : List Int} (h : bs = allB (k :: y :: l :: n :: c)) (hn : (c.length : Int) = n) : bs = putB k y l c := by
  rw [h]; unfold putB; rw [hn]
end Go.Proofs.YtcdkgfjjgebcnaaDoor

/- What is asked of package chart's calls; the examples at the head of layer 9's statements. -/
namespace Go.Proofs.YtcdkgfjjgebcnaaDoor
open Go Go.RowKit
set_option linter.unusedVariables false

/-- an account -/
abbrev accV (k o : Int) : Value := .agg #[.int .i64 k, .int .i64 o]
/-- what Name tells -/
def NameTo (w : World) (k o : Int) (e : Ending) (w' : World) : Prop :=
  Below w.heap.size w w' ∧ ((MayK k o ∧ e = .returned (.tuple #[.string (strL (nameL k.toNat o.toNat)), .nilIface])) ∨
    (¬ MayK k o ∧ e = .returned (.tuple #[.string (strL []), .iface 42 (.int .i64 1)])))
/-- what Parse tells -/
def AccTo (w : World) (s : ByteArray) (e : Ending) (w' : World) : Prop :=
  Below w.heap.size w w' ∧ ((∃ k o : Nat, MayK k o ∧ s = strL (nameL k o) ∧ e = .returned (.tuple #[accV k o, .nilIface])) ∨
    ((∀ k o : Nat, MayK k o → s ≠ strL (nameL k o)) ∧ e = .returned (.tuple #[accV 0 0, .iface 42 (.int .i64 2)])))

/-- the contracts of package chart -/
structure ChartC : Prop where
  may : ∀ (k o : Int) (w : World), Kin w → i64 k → i64 o → Calls Tryd.prog 51 #[accV k o] w fun e w' => e = .returned (.bool (decide (MayK k o))) ∧ Below w.heap.size w w'
  less : ∀ (k o k' o' : Int) (w : World), i64 k → i64 o → i64 k' → i64 o' → Calls Tryd.prog 50 #[accV k o, accV k' o'] w fun e w' => e = .returned (.bool (decide (LessK k o k' o'))) ∧ Below w.heap.size w w'
theorem decL_7 : decL 7 = [55] := by rw [decL_pos (by omega)]; simp [decL_zero]
theorem name_up : nameL 5 7 = [101, 115, 99, 114, 111, 119, 46, 55] := by
  simp only [nameL, decL_7]
  rfl
theorem nameL_ne (k o : Nat) (h : MayK k o) : nameL k o ≠ [] := by
  have hk : 1 ≤ k ∧ k ≤ 12 := by unfold MayK at h; omega
  have := (nam_len ⟨k, by omega⟩ hk.1).1
  intro e
  have := congrArg List.length e
  simp only [nameL, List.length_append, List.length_nil] at this
  simp only at *
  omega

end Go.Proofs.YtcdkgfjjgebcnaaDoor

/- The walk of ChartOrder: accounts are ordered, by Kind, then by Of. -/
namespace Go.Proofs.YtcdkgfjjgebcnaaDoor
open Go Go.RowKit
set_option linter.unusedVariables false

/-- an account lies at block b -/
structure At2 (b : Nat) (k o : Int) (w : World) : Prop where
  c0 : w.cell? ⟨b, 0, none⟩ = some (.int .i64 k)
  c1 : w.cell? ⟨b, 1, none⟩ = some (.int .i64 o)
  lt : b < w.heap.size
theorem At2.new (w : World) (k o : Int) : At2 w.heap.size k o (w.alloc (Obj.cells #[.int .i64 k, .int .i64 o] 24)) := ⟨by simp, by simp, by simp⟩
theorem At2.up {b : Nat} {k o : Int} {w w' : World} (h : At2 b k o w) (hb : Below w.heap.size w w') : At2 b k o w' :=
  ⟨by rw [hb.cell h.lt]; exact h.c0, by rw [hb.cell h.lt]; exact h.c1, Nat.lt_of_lt_of_le h.lt hb.size⟩

theorem At2.alloc {b : Nat} {k o : Int} {w : World} (h : At2 b k o w) (x : Obj) : At2 b k o (w.alloc x) := h.up ((Below.refl _ _).alloc (Nat.le_refl _) x)

/-- three accounts at their blocks, and all that was there -/
structure AccAt (w0 : World) (B : Nat) (ka oa kb ob kc oc : Int) (w : World) : Prop where
  a : At2 B ka oa w
  b : At2 (B + 1) kb ob w
  c : At2 (B + 1 + 1) kc oc w
  base : Below w0.heap.size w0 w
section
variable {w0 w1 w2 w : World} {B : Nat} {ka oa kb ob kc oc : Int}
theorem AccAt.call (h : AccAt w0 B ka oa kb ob kc oc w1) (hb : Below w1.heap.size w1 w2) : AccAt w0 B ka oa kb ob kc oc w2 := ⟨h.a.up hb, h.b.up hb, h.c.up hb, h.base.trans (hb.mono h.base.size)⟩
theorem AccAt.drew (h : AccAt w0 B ka oa kb ob kc oc w1) : AccAt w0 B ka oa kb ob kc oc w1.drew := h.call (Below.refl _ _).drew
theorem AccAt.s (h : AccAt w0 B ka oa kb ob kc oc w1) : w1.cell? ⟨B, 0, none⟩ = some (.int .i64 ka) ∧ w1.cell? ⟨B, 1, none⟩ = some (.int .i64 oa) ∧ w1.cell? ⟨B + 1, 0, none⟩ = some (.int .i64 kb) ∧ w1.cell? ⟨B + 1, 1, none⟩ = some (.int .i64 ob) := ⟨h.a.c0, h.a.c1, h.b.c0, h.b.c1⟩
theorem AccAt.new (w : World) (ka oa kb ob kc oc : Int) : AccAt w w.heap.size ka oa kb ob kc oc (((w.alloc (Obj.cells #[.int .i64 ka, .int .i64 oa] 24)).alloc (Obj.cells #[.int .i64 kb, .int .i64 ob] 24)).alloc (Obj.cells #[.int .i64 kc, .int .i64 oc] 24)) := by
  have hb := At2.new (w.alloc (Obj.cells #[.int .i64 ka, .int .i64 oa] 24)) kb ob
  have hc := At2.new ((w.alloc (Obj.cells #[.int .i64 ka, .int .i64 oa] 24)).alloc (Obj.cells #[.int .i64 kb, .int .i64 ob] 24)) kc oc
  rw [World.size_alloc] at hb hc
  rw [World.size_alloc] at hc
  exact ⟨((At2.new w ka oa).alloc _).alloc _, hb.alloc _, hc, (((Below.refl w.heap.size w).alloc (Nat.le_refl _) _).alloc (by simp) _).alloc (by simp; omega) _⟩
end

theorem lessK_trans {a b c d e f : Int} (h : LessK a b c d) (h' : LessK c d e f) : LessK a b e f := by unfold LessK at *; omega

end Go.Proofs.YtcdkgfjjgebcnaaDoor

/- The landed package chart keeps its contracts: May, Debit, Less, Name, numbered, Parse. -/
namespace Go.Proofs.YtcdkgfjjgebcnaaDoor
open Go Go.RowKit
set_option linter.unusedVariables false

theorem Kin.nm3 {w : World} (T : Kin w) (k : Nat) (hk : k < 13) : w.cell? ⟨0, k * 3, none⟩ = some (.string (strL (namK k))) := by rw [Nat.mul_comm]; exact T.nm k hk
theorem Kin.mo3 {w : World} (T : Kin w) (k : Nat) (hk : k < 13) : w.cell? ⟨0, k * 3 + 1, none⟩ = some (.int .i64 (moK k)) := by rw [Nat.mul_comm]; exact T.mo k hk
theorem Kin.de3 {w : World} (T : Kin w) (k : Nat) (hk : k < 13) : w.cell? ⟨0, k * 3 + 2, none⟩ = some (.bool (deK k)) := by rw [Nat.mul_comm]; exact T.de k hk

theorem deK_eq (j : Nat) (h1 : 1 ≤ j) (h : j < 13) : deK j = decide ((j : Int) ≤ 3 ∨ (j : Int) = 7 ∨ (j : Int) = 12) := by
  have : ∀ j : Fin 13, 1 ≤ j.1 → deK j.1 = decide ((j.1 : Int) ≤ 3 ∨ (j.1 : Int) = 7 ∨ (j.1 : Int) = 12) := by decide +kernel
  exact this ⟨j, h⟩ h1

set_option maxHeartbeats 2000000 in
theorem may_any (k o : Int) (w : World) (T : Kin w) (hk : i64 k) (ho : i64 o) : Calls Tryd.prog 51 #[accV k o] w fun e w' => e = .returned (.bool (decide (MayK k o))) ∧ Below w.heap.size w w' := by
  have hA := Below.alloc (Below.refl w.heap.size w) (Nat.le_refl _) (Obj.cells #[.int .i64 k, .int .i64 o] 24)
  have HA := Lib.hid hA
  have T1 := T.of hA
  clear hA
  by_cases h1 : k < 1
  · have hM : ¬ MayK k o := by unfold MayK; omega
    rw [decide_eq_false hM]
    clear hM T T1
    go_enter Tryd.func51, Tryd.ntmps51
    go_wp2_with fail
    go_ret
    exact ⟨rfl, HA.out⟩
  · by_cases h2 : 12 < k
    · have hM : ¬ MayK k o := by unfold MayK; omega
      rw [decide_eq_false hM]
      clear hM T T1
      go_enter Tryd.func51, Tryd.ntmps51
      go_wp2_with fail
      go_ret
      exact ⟨rfl, HA.out⟩
    · obtain ⟨j, rfl⟩ : ∃ j : Nat, k = (j : Int) := ⟨k.toNat, by omega⟩
      have hc := T1.mo3 j (by omega)
      clear T T1
      by_cases h3 : j ≤ 3
      · rw [show moK j = 0 from if_pos h3] at hc
        have hM : decide (MayK (j : Int) o) = decide (o = 0) := by
          apply decide_eq_decide.2
          unfold MayK
          omega
        rw [hM]
        clear hM
        have hcase : (o < 0 ∧ decide (o = 0) = false) ∨ (0 ≤ o ∧ o ≤ 0 ∧ decide (o = 0) = true) ∨ (0 ≤ o ∧ 0 < o ∧ decide (o = 0) = false) := by
          have e1 : decide (o = 0) = false ↔ ¬ o = 0 := by simp
          have e2 : decide (o = 0) = true ↔ o = 0 := by simp
          rw [e1, e2]; omega
        rcases hcase with ⟨t1, e1⟩ | ⟨t1, t2, e1⟩ | ⟨t1, t2, e1⟩
        all_goals
          rw [e1]
          clear e1
          go_enter Tryd.func51, Tryd.ntmps51
          go_wp2_with fail
          go_ret
          exact ⟨by first | rfl | (simp; omega), HA.out⟩
      · rw [show moK j = 65536 from if_neg h3] at hc
        have hM : decide (MayK (j : Int) o) = decide (1 ≤ o ∧ o ≤ 65536) := by
          apply decide_eq_decide.2
          unfold MayK
          omega
        rw [hM]
        clear hM
        have hcase : (o < 1 ∧ decide (1 ≤ o ∧ o ≤ 65536) = false) ∨ (1 ≤ o ∧ o ≤ 65536 ∧ decide (1 ≤ o ∧ o ≤ 65536) = true) ∨ (1 ≤ o ∧ 65536 < o ∧ decide (1 ≤ o ∧ o ≤ 65536) = false) := by
          have e1 : decide (1 ≤ o ∧ o ≤ 65536) = false ↔ ¬ (1 ≤ o ∧ o ≤ 65536) := decide_eq_false_iff_not
          have e2 : decide (1 ≤ o ∧ o ≤ 65536) = true ↔ 1 ≤ o ∧ o ≤ 65536 := decide_eq_true_iff
          rw [e1, e2]; omega
        rcases hcase with ⟨t1, e1⟩ | ⟨t1, t2, e1⟩ | ⟨t1, t2, e1⟩
        all_goals
          rw [e1]
          clear e1
          go_enter Tryd.func51, Tryd.ntmps51
          go_wp2_with fail
          go_ret
          exact ⟨by first | rfl | (simp; omega), HA.out⟩

end Go.Proofs.YtcdkgfjjgebcnaaDoor

/- Plain facts of names as package chart makes and reads them: cut at the dot, digits. -/
namespace Go.Proofs.YtcdkgfjjgebcnaaDoor
open Go
set_option linter.unusedVariables false

theorem index_dot : ∀ (l t : List UInt8), (∀ c ∈ l, (c != 46) = true) → Lib.index (l ++ 46 :: t) [46] = l.length
  | [], t, _ => by simp [Lib.index]
  | c :: l, t, h => by
    have h1 := index_dot l t (fun x hx => h x (List.mem_cons_of_mem _ hx))
    have hc := h c (List.mem_cons_self ..)
    have hc' : ¬ 46 = c := fun e => by rw [← e] at hc; simp at hc
    rw [List.cons_append, Lib.index, h1]
    have e1 : ([46] : List UInt8).isPrefixOf (c :: (l ++ 46 :: t)) = false := by simp [List.isPrefixOf]; exact hc'
    rw [e1]
    have e2 : ((l.length : Int) == -1) = false := by simp
    simp [e2]
theorem index_nodot : ∀ (l : List UInt8), (∀ c ∈ l, (c != 46) = true) → Lib.index l [46] = -1
  | [], _ => by simp [Lib.index]
  | c :: l, h => by
    have h1 := index_nodot l (fun x hx => h x (List.mem_cons_of_mem _ hx))
    have hc := h c (List.mem_cons_self ..)
    have hc' : ¬ 46 = c := fun e => by rw [← e] at hc; simp at hc
    rw [Lib.index, h1]
    have e1 : ([46] : List UInt8).isPrefixOf (c :: l) = false := by simp [List.isPrefixOf]; exact hc'
    rw [e1]
    simp
theorem cut_low {k o : Nat} (h : MayK k o) (ho : o = 0) : Lib.cut (nameL k o) [46] = (nam k, [], false) := by
  subst ho
  have hk : k < 13 := by unfold MayK at h; omega
  have e : nameL k 0 = nam k := by simp [nameL]
  rw [e, Lib.cut, index_nodot _ (nam_nodot ⟨k, hk⟩)]
  simp
theorem cut_high {k o : Nat} (h : MayK k o) (ho : o ≠ 0) : Lib.cut (nameL k o) [46] = (nam k, decL o, true) := by
  have hk : k < 13 := by unfold MayK at h; omega
  have e : nameL k o = nam k ++ 46 :: decL o := by simp [nameL, ho]
  rw [e, Lib.cut, index_dot _ _ (nam_nodot ⟨k, hk⟩)]
  simp

theorem parse_fold : ∀ (l : List UInt8) (acc a : Nat), (∀ c ∈ l, 48 ≤ c.toNat ∧ c.toNat ≤ 57) → acc < 10 ^ a → a + l.length ≤ 18 → Lib.parseUint10 acc l = .ok (l.foldl (fun n c => n * 10 + (c.toNat - 48)) acc)
  | [], _, _, _, _, _ => rfl
  | c :: r, acc, a, h, ha, hl => by
    have hc := h c (List.mem_cons_self ..)
    rw [List.length_cons] at hl
    have h10 : (10 : Nat) ^ a ≤ 10 ^ 17 := Nat.pow_le_pow_right (by omega) (by omega)
    have e1 : ¬ 1844674407370955162 ≤ acc := by omega
    have e2 : ¬ 18446744073709551616 ≤ acc * 10 + (c.toNat - 48) := by omega
    rw [Lib.parseUint10, if_pos hc, if_neg e1, if_neg e2, List.foldl_cons]
    exact parse_fold r _ (a + 1) (fun x hx => h x (List.mem_cons_of_mem _ hx)) (by rw [Nat.pow_succ]; omega) (by omega)
theorem atoi_dec {o : Nat} (h : o ≠ 0) (h5 : o ≤ 65536) : Lib.atoiAll (decL o) = .ok (o : Int) := by
  have hd := decL_digit o
  have hp : Lib.parseUint10 0 (decL o) = .ok o := by
    have := parse_fold (decL o) 0 0 hd (by omega) (by have := decL_len 5 o (by omega); omega)
    rw [this]
    exact congrArg _ (numL_decL o)
  have hne := decL_ne h
  obtain ⟨c, r, e⟩ : ∃ c r, decL o = c :: r := by
    cases hl : decL o with
    | nil => rw [hl] at hne; simp at hne
    | cons c r => exact ⟨c, r, rfl⟩
  rw [e] at hp hd ⊢
  have hc := hd c (List.mem_cons_self ..)
  have e1 : ¬ (c.toNat = 43 ∨ c.toNat = 45) := by omega
  have e2 : ¬ c.toNat = 45 := by omega
  simp only [Lib.atoiAll, if_neg e1, Lib.parseMag, List.cons_ne_nil, if_false, hp]
  rw [if_neg (by omega), if_neg (by omega), if_neg e2]
theorem itoa_dec : ∀ (o : Nat), o ≠ 0 → Lib.decDigits o = decL o := fun o => by
  induction o using Nat.strongRecOn with
  | ind o ih =>
    intro h
    rw [Lib.decDigits, decL_pos h]
    by_cases h9 : o < 10
    · rw [dif_pos h9, show o / 10 = 0 by omega, decL_zero, show o % 10 = o by omega]; rfl
    · rw [dif_neg h9, ih (o / 10) (by omega) (by omega)]
theorem itoa_of {o : Nat} (h : o ≠ 0) : (⟨(Lib.itoa (o : Int)).toArray⟩ : ByteArray) = strL (decL o) := by
  unfold Lib.itoa
  rw [if_neg (by omega), Int.toNat_natCast, itoa_dec o h]
  rfl
end Go.Proofs.YtcdkgfjjgebcnaaDoor

/- The landed package chart: cmp.Or, Less, numbered. -/
namespace Go.Proofs.YtcdkgfjjgebcnaaDoor
open Go Go.RowKit
set_option linter.unusedVariables false

set_option maxHeartbeats 2000000 in
theorem or2_any (b : Nat) (x y z : Int) (w : World) (hz : (if x = 0 then y else x) = z) (c0 : w.cell? ⟨b, 0, none⟩ = some (.int .i64 x)) (c1 : w.cell? ⟨b, 1, none⟩ = some (.int .i64 y)) :
    Calls Tryd.prog 66 #[.slice (some ⟨b, 0, none⟩) 2 2] w fun e w' => e = .returned (.int .i64 z) ∧ w' = w := by
  subst hz
  go_enter Tryd.func66, Tryd.ntmps66
  go_wp2_with fail
  go_loopw [8] (fun i wr => wr = w ∧ (i = .int .i64 0 ∨ (i = .int .i64 1 ∧ x = 0) ∨ (i = .int .i64 2 ∧ x = 0 ∧ y = 0))) (fun i _ => 2 - (RowKit.intOf i).toNat)
  case atStart => exact ⟨rfl, Or.inl rfl⟩
  case round =>
    obtain ⟨rfl, rfl | ⟨rfl, rfl⟩ | ⟨rfl, rfl, rfl⟩⟩ := hrel
    · by_cases hx : x = 0
      · subst hx
        go_wp2_with fail
        go_roundw
        case rel => simp
        case measure => simp [RowKit.intOf]
      · have h1 : (x != 0) = true := by simpa using hx
        have HX := Lib.hid hx
        clear hx
        go_wp2_with fail
        go_ret
        exact ⟨by first | rfl | (rw [if_neg HX.out]; rfl), rfl⟩
    · by_cases hx : y = 0
      · subst hx
        go_wp2_with fail
        go_roundw
        case rel => simp
        case measure => simp [RowKit.intOf]
      · have h1 : (y != 0) = true := by simpa using hx
        go_wp2_with fail
        go_ret
        exact ⟨by simp, rfl⟩
    · go_wp2_with fail
      go_ret
      exact ⟨by simp, rfl⟩

theorem two_c0 {W : World} {n : Nat} {x y : Value} {t : TypeId} (h : W.heap.size = n) : ((W.alloc (Obj.cells #[x, y] t)).drew).cell? ⟨n, 0, none⟩ = some x := by subst h; simp
theorem two_c1 {W : World} {n : Nat} {x y : Value} {t : TypeId} (h : W.heap.size = n) : ((W.alloc (Obj.cells #[x, y] t)).drew).cell? ⟨n, 1, none⟩ = some y := by subst h; simp

/-- nothing but draws and new blocks -/
def GrownTo (w w' : World) : Prop := ∃ (q : Nat) (os : Array Obj), w' = Sort.grow (w.drewN q) os
theorem GrownTo.refl (w : World) : GrownTo w w := ⟨0, #[], by rw [Sort.grow_empty]; rfl⟩
theorem GrownTo.alloc {w w' : World} (h : GrownTo w w') (o : Obj) : GrownTo w (w'.alloc o) := by
  obtain ⟨q, os, rfl⟩ := h
  exact ⟨q, os ++ #[o], by rw [Sort.alloc_eq_grow, Sort.grow_grow]⟩
theorem GrownTo.drew {w w' : World} (h : GrownTo w w') : GrownTo w w'.drew := by
  obtain ⟨q, os, rfl⟩ := h
  exact ⟨q + 1, os, rfl⟩
theorem GrownTo.drewN {w w' : World} (h : GrownTo w w') (n : Nat) : GrownTo w (w'.drewN n) := by
  obtain ⟨q, os, rfl⟩ := h
  exact ⟨q + n, os, by rw [show (Sort.grow (w.drewN q) os).drewN n = Sort.grow ((w.drewN q).drewN n) os from rfl, World.drewN_drewN]⟩
theorem GrownTo.trans {a b c : World} (h : GrownTo a b) (k : GrownTo b c) : GrownTo a c := by
  obtain ⟨q, os, rfl⟩ := h
  obtain ⟨q', os', rfl⟩ := k
  exact ⟨q + q', os ++ os', by rw [show (Sort.grow (a.drewN q) os).drewN q' = Sort.grow ((a.drewN q).drewN q') os from rfl, World.drewN_drewN, Sort.grow_grow]⟩

/-- two accounts at their blocks, and all that was there -/
structure PairAt (w0 : World) (B : Nat) (ka oa kb ob : Int) (w : World) : Prop where
  a : At2 B ka oa w
  b : At2 (B + 1) kb ob w
  base : Below w0.heap.size w0 w
  gr : GrownTo w0 w
section
variable {w0 w1 w2 w : World} {B : Nat} {ka oa kb ob : Int}
theorem PairAt.alloc (h : PairAt w0 B ka oa kb ob w1) (o : Obj) : PairAt w0 B ka oa kb ob (w1.alloc o) :=
  have hb : Below w1.heap.size w1 (w1.alloc o) := (Below.refl _ _).alloc (Nat.le_refl _) o
  ⟨h.a.up hb, h.b.up hb, h.base.trans (hb.mono h.base.size), h.gr.alloc o⟩
theorem PairAt.drew (h : PairAt w0 B ka oa kb ob w1) : PairAt w0 B ka oa kb ob w1.drew :=
  have hb : Below w1.heap.size w1 w1.drew := (Below.refl _ _).drew
  ⟨h.a.up hb, h.b.up hb, h.base.trans (hb.mono h.base.size), h.gr.drew⟩
theorem PairAt.s (h : PairAt w0 B ka oa kb ob w1) : w1.cell? ⟨B, 0, none⟩ = some (.int .i64 ka) ∧ w1.cell? ⟨B, 1, none⟩ = some (.int .i64 oa) ∧ w1.cell? ⟨B + 1, 0, none⟩ = some (.int .i64 kb) ∧ w1.cell? ⟨B + 1, 1, none⟩ = some (.int .i64 ob) := ⟨h.a.c0, h.a.c1, h.b.c0, h.b.c1⟩
theorem PairAt.new (w : World) (ka oa kb ob : Int) : PairAt w w.heap.size ka oa kb ob ((w.alloc (Obj.cells #[.int .i64 ka, .int .i64 oa] 24)).alloc (Obj.cells #[.int .i64 kb, .int .i64 ob] 24)) := by
  have hb := At2.new (w.alloc (Obj.cells #[.int .i64 ka, .int .i64 oa] 24)) kb ob
  rw [World.size_alloc] at hb
  exact ⟨(At2.new w ka oa).alloc _, hb, ((Below.refl w.heap.size w).alloc (Nat.le_refl _) _).alloc (by simp) _, ((GrownTo.refl w).alloc _).alloc _⟩
end

set_option linter.unusedSimpArgs false in
set_option maxRecDepth 100000 in
set_option maxHeartbeats 4000000 in
theorem less_free (k o k' o' : Int) (w : World) : Calls Tryd.prog 50 #[accV k o, accV k' o'] w fun e w' => e = .returned (.bool (decide (LessK k o k' o'))) ∧ Below w.heap.size w w' ∧ GrownTo w w' := by
  have hX := Lib.hid (PairAt.new w k o k' o')
  obtain ⟨z, hz⟩ : ∃ z, (if Lib.compareInt k k' = 0 then Lib.compareInt o o' else Lib.compareInt k k') = z := ⟨_, rfl⟩
  have hL : decide (LessK k o k' o') = decide (z < 0) := by
    rw [← hz]
    apply decide_eq_decide.2
    unfold LessK Lib.compareInt
    repeat' split
    all_goals omega
  rw [hL]
  have HZ := Lib.hid hz
  clear hL hz
  go_enter Tryd.func50, Tryd.ntmps50
  go_wp2_with fail
  refine wp_region_held_drew (S := fun w' => w'.cell? ⟨w.heap.size, 0, none⟩ = some (.int .i64 k) ∧ w'.cell? ⟨w.heap.size, 1, none⟩ = some (.int .i64 o) ∧ w'.cell? ⟨w.heap.size + 1, 0, none⟩ = some (.int .i64 k') ∧ w'.cell? ⟨w.heap.size + 1, 1, none⟩ = some (.int .i64 o')) (by kernel_rfl) hX.out.drew.s (fun hHeld => ?_)
  refine wpAnyH_take (i := 0) (v := ?_) rfl (by kernel_rfl) (by kernel_rfl) (by kernel_rfl) (fun _ _ _ h => h) (Or.inl ⟨by rfl, ?_⟩) (by assumption) ?_
  rotate_left
  · (intro w hSw; (try dsimp only at hSw); go_simp) <;> with_reducible rfl
  try simp only [Act.put, List.getElem_toArray, List.getElem_cons_zero, List.getElem_cons_succ, List.setIfInBounds_toArray, List.set_cons_zero, List.set_cons_succ]
  refine wpAnyH_take (i := 1) (v := ?_) rfl (by kernel_rfl) (by kernel_rfl) (by kernel_rfl) (fun _ _ _ h => h) (Or.inl ⟨by rfl, ?_⟩) (by assumption) ?_
  rotate_left
  · (intro w hSw; (try dsimp only at hSw); go_simp) <;> with_reducible rfl
  try simp only [Act.put, List.getElem_toArray, List.getElem_cons_zero, List.getElem_cons_succ, List.setIfInBounds_toArray, List.set_cons_zero, List.set_cons_succ]
  refine wpAnyH_take (i := 2) (v := ?_) rfl (by kernel_rfl) (by kernel_rfl) (by kernel_rfl) (fun _ _ _ h => h) (Or.inl ⟨by rfl, ?_⟩) (by assumption) ?_
  rotate_left
  · (intro w hSw; (try dsimp only at hSw); go_simp) <;> with_reducible rfl
  try simp only [Act.put, List.getElem_toArray, List.getElem_cons_zero, List.getElem_cons_succ, List.setIfInBounds_toArray, List.set_cons_zero, List.set_cons_succ]
  refine wpAnyH_take (i := 3) (v := ?_) rfl (by kernel_rfl) (by kernel_rfl) (by kernel_rfl) (fun _ _ _ h => h) (Or.inl ⟨by rfl, ?_⟩) (by assumption) ?_
  rotate_left
  · (intro w hSw; (try dsimp only at hSw); go_simp) <;> with_reducible rfl
  try simp only [Act.put, List.getElem_toArray, List.getElem_cons_zero, List.getElem_cons_succ, List.setIfInBounds_toArray, List.set_cons_zero, List.set_cons_succ]
  refine wpAnyH_take (i := 5) (v := ?_) rfl (by kernel_rfl) (by kernel_rfl) (by kernel_rfl) (fun _ _ _ h => h) (Or.inl ⟨by rfl, ?_⟩) (by assumption) ?_
  rotate_left
  · (intro w hSw; (try dsimp only at hSw); go_simp) <;> with_reducible rfl
  try simp only [Act.put, List.getElem_toArray, List.getElem_cons_zero, List.getElem_cons_succ, List.setIfInBounds_toArray, List.set_cons_zero, List.set_cons_succ]
  refine wpAnyH_take (i := 6) (v := ?_) rfl (by kernel_rfl) (by kernel_rfl) (by kernel_rfl) (fun _ _ _ h => h) (Or.inl ⟨by rfl, ?_⟩) (by assumption) ?_
  rotate_left
  · (intro w hSw; (try dsimp only at hSw); go_simp) <;> with_reducible rfl
  try simp only [Act.put, List.getElem_toArray, List.getElem_cons_zero, List.getElem_cons_succ, List.setIfInBounds_toArray, List.set_cons_zero, List.set_cons_succ]
  refine wpAnyH_take (i := 7) (v := ?_) rfl (by kernel_rfl) (by kernel_rfl) (by kernel_rfl) (fun _ _ _ h => h) (Or.inl ⟨by rfl, ?_⟩) (by assumption) ?_
  rotate_left
  · (intro w hSw; (try dsimp only at hSw); go_simp) <;> with_reducible rfl
  try simp only [Act.put, List.getElem_toArray, List.getElem_cons_zero, List.getElem_cons_succ, List.setIfInBounds_toArray, List.set_cons_zero, List.set_cons_succ]
  refine wpAnyH_take (i := 8) (v := ?_) rfl (by kernel_rfl) (by kernel_rfl) (by kernel_rfl) (fun _ _ _ h => h) (Or.inl ⟨by rfl, ?_⟩) (by assumption) ?_
  rotate_left
  · (intro w hSw; (try dsimp only at hSw); go_simp) <;> with_reducible rfl
  try simp only [Act.put, List.getElem_toArray, List.getElem_cons_zero, List.getElem_cons_succ, List.setIfInBounds_toArray, List.set_cons_zero, List.set_cons_succ]
  refine wpAnyH_ready (rs := [4]) (by kernel_rfl) (by simp) ?_
  refine AllReadyH.cons rfl (fun K hK => ?_) AllReadyH.nil
  go_simp
  go_at_call 67
  with_reducible refine (Tryd.cmp_Compare_int _ _ _).mono ?_
  rintro e w1 ⟨rfl, rfl⟩
  go_wp2_with fail
  refine hK.out _ _ hX.out.drew.s (fun hHeld => ?_)
  clear hK K
  try simp only [Act.put, List.getElem_toArray, List.getElem_cons_zero, List.getElem_cons_succ, List.setIfInBounds_toArray, List.set_cons_zero, List.set_cons_succ]
  refine wpAnyH_ready (rs := [9]) (by kernel_rfl) (by simp) ?_
  refine AllReadyH.cons rfl (fun K hK => ?_) AllReadyH.nil
  go_simp
  go_at_call 67
  with_reducible refine (Tryd.cmp_Compare_int _ _ _).mono ?_
  rintro e w1 ⟨rfl, rfl⟩
  go_wp2_with fail
  refine hK.out _ _ hX.out.drew.s (fun hHeld => ?_)
  clear hK K
  try simp only [Act.put, List.getElem_toArray, List.getElem_cons_zero, List.getElem_cons_succ, List.setIfInBounds_toArray, List.set_cons_zero, List.set_cons_succ]
  refine wpAnyH_ready (rs := [10]) (by kernel_rfl) (by simp) ?_
  refine AllReadyH.cons rfl (fun K hK => ?_) AllReadyH.nil
  go_simp
  have hY := Lib.hid ((hX.out.alloc (Obj.cells #[.int .i64 (Lib.compareInt k k'), .int .i64 (Lib.compareInt o o')] 3)).drew)
  have d0 : ((((w.alloc (Obj.cells #[.int .i64 k, .int .i64 o] 24)).alloc (Obj.cells #[.int .i64 k', .int .i64 o'] 24)).alloc (Obj.cells #[.int .i64 (Lib.compareInt k k'), .int .i64 (Lib.compareInt o o')] 3)).drew).cell? ⟨w.heap.size + 1 + 1, 0, none⟩ = some (.int .i64 (Lib.compareInt k k')) := two_c0 (by simp)
  have d1 : ((((w.alloc (Obj.cells #[.int .i64 k, .int .i64 o] 24)).alloc (Obj.cells #[.int .i64 k', .int .i64 o'] 24)).alloc (Obj.cells #[.int .i64 (Lib.compareInt k k'), .int .i64 (Lib.compareInt o o')] 3)).drew).cell? ⟨w.heap.size + 1 + 1, 1, none⟩ = some (.int .i64 (Lib.compareInt o o')) := two_c1 (by simp)
  generalize (((w.alloc (Obj.cells #[.int .i64 k, .int .i64 o] 24)).alloc (Obj.cells #[.int .i64 k', .int .i64 o'] 24)).alloc (Obj.cells #[.int .i64 (Lib.compareInt k k'), .int .i64 (Lib.compareInt o o')] 3)).drew = w5 at hY d0 d1 ⊢
  refine hK.out _ _ hY.out.s (fun hHeld => ?_)
  clear hK K
  try simp only [Act.put, List.getElem_toArray, List.getElem_cons_zero, List.getElem_cons_succ, List.setIfInBounds_toArray, List.set_cons_zero, List.set_cons_succ]
  refine wpAnyH_ready (rs := [11]) (by kernel_rfl) (by simp) ?_
  refine AllReadyH.cons rfl (fun K hK => ?_) AllReadyH.nil
  go_simp
  go_at_call 66
  with_reducible refine (or2_any _ _ _ z _ HZ.out d0 d1).mono ?_
  rintro e w1 ⟨rfl, rfl⟩
  go_wp2_with fail
  refine hK.out _ _ hY.out.s (fun hHeld => ?_)
  clear hK K
  try simp only [Act.put, List.getElem_toArray, List.getElem_cons_zero, List.getElem_cons_succ, List.setIfInBounds_toArray, List.set_cons_zero, List.set_cons_succ]
  refine wpAnyH_take (i := 12) (v := ?_) rfl (by kernel_rfl) (by kernel_rfl) (by kernel_rfl) (fun _ _ _ h => h) (Or.inl ⟨by rfl, ?_⟩) (by assumption) ?_
  rotate_left
  · (intro w hSw; (try dsimp only at hSw); go_simp) <;> with_reducible rfl
  try simp only [Act.put, List.getElem_toArray, List.getElem_cons_zero, List.getElem_cons_succ, List.setIfInBounds_toArray, List.set_cons_zero, List.set_cons_succ]
  refine wpAnyH_take (i := 13) (v := ?_) rfl (by kernel_rfl) (by kernel_rfl) (by kernel_rfl) (fun _ _ _ h => h) (Or.inl ⟨by rfl, ?_⟩) (by assumption) ?_
  rotate_left
  · (intro w hSw; (try dsimp only at hSw); go_simp) <;> with_reducible rfl
  try simp only [Act.put, List.getElem_toArray, List.getElem_cons_zero, List.getElem_cons_succ, List.setIfInBounds_toArray, List.set_cons_zero, List.set_cons_succ]
  refine wpAnyH_done (by kernel_rfl) ?_ _
  go_wp2_with fail
  go_ret
  exact ⟨rfl, hY.out.base, hY.out.gr⟩

theorem lessC_any (k o k' o' : Int) (w : World) (hk : i64 k) (ho : i64 o) (hk' : i64 k') (ho' : i64 o') : Calls Tryd.prog 50 #[accV k o, accV k' o'] w fun e w' => e = .returned (.bool (decide (LessK k o k' o'))) ∧ Below w.heap.size w w' :=
  (less_free k o k' o' w).mono fun _ _ h => ⟨h.1, h.2.1⟩
end Go.Proofs.YtcdkgfjjgebcnaaDoor

/- Plain numbers, no program in sight: one digit of a long division, a quotient rounded in four ways, and its magnitude. -/
namespace Go.Proofs.YtcdkgfjjgebcnaaDoor.Num
open Go
set_option linter.unusedVariables false

/-! ### one digit of the long division of 128 bits by 64 -/

theorem mulsplit (q n1 n0 : Nat) : q * (n1 * 4294967296 + n0) = q * n1 * 4294967296 + q * n0 := by
  rw [Nat.mul_add, Nat.mul_assoc]

/-- the guess is not above the digit -/
theorem dig_le {q n1 n0 r u x : Nat} (hq : q * n1 + r = u) (h : q * n0 ≤ 4294967296 * r + x) (hpos : 0 < n1 * 4294967296 + n0) :
    q ≤ (u * 4294967296 + x) / (n1 * 4294967296 + n0) := by
  rw [Nat.le_div_iff_mul_le hpos, mulsplit]
  generalize q * n1 = p at *
  generalize q * n0 = s at *
  omega

/-- the guess is above the digit -/
theorem dig_gt {q n1 n0 r u x : Nat} (hq : q * n1 + r = u) (h : 4294967296 * r + x < q * n0) (hpos : 0 < n1 * 4294967296 + n0) :
    (u * 4294967296 + x) / (n1 * 4294967296 + n0) < q := by
  rw [Nat.div_lt_iff_lt_mul hpos, mulsplit]
  generalize q * n1 = p at *
  generalize q * n0 = s at *
  omega

theorem dig_lt {y u x : Nat} (hu : u < y) (hx : x < 4294967296) : (u * 4294967296 + x) / y < 4294967296 := by
  rw [Nat.div_lt_iff_lt_mul (by omega)]
  have : (u + 1) * 4294967296 ≤ y * 4294967296 := Nat.mul_le_mul_right _ hu
  rw [Nat.mul_comm 4294967296 y]
  omega

/-- the first guess is at most one above 2^32 -/
theorem dig_start {n1 n0 u : Nat} (hn1 : 2147483648 ≤ n1) (hn0 : n0 < 4294967296) (hu : u < n1 * 4294967296 + n0) : u / n1 ≤ 4294967297 := by
  have h : u / n1 < 4294967298 := by
    rw [Nat.div_lt_iff_lt_mul (by omega)]
    omega
  omega

theorem dig_start_le {n1 n0 u x : Nat} (hpos : 0 < n1) : (u * 4294967296 + x) / (n1 * 4294967296 + n0) ≤ (u * 4294967296 + x) / (n1 * 4294967296) := by
  apply Nat.div_le_div_left
  · omega
  · omega

theorem dig_first {n1 n0 u x : Nat} (hpos : 0 < n1) (hx : x < 4294967296) : (u * 4294967296 + x) / (n1 * 4294967296 + n0) ≤ u / n1 := by
  refine Nat.le_trans (dig_start_le hpos) ?_
  rw [Nat.mul_comm n1, ← Nat.div_div_eq_div_mul]
  have : (u * 4294967296 + x) / 4294967296 = u := by omega
  rw [this]
  exact Nat.le_refl _

theorem prod_small {q n0 : Nat} (hq : q ≤ 4294967297) (hn0 : n0 < 4294967296) : q * n0 ≤ 18446744073709551615 := by
  have : q * n0 ≤ 4294967297 * 4294967295 := Nat.mul_le_mul hq (by omega)
  omega

theorem prod_small' {q n0 : Nat} (hq : q ≤ 4294967296) (hn0 : n0 < 4294967296) : q * n0 < 18446744073709551616 := by
  have : q * n0 ≤ 4294967296 * 4294967295 := Nat.mul_le_mul hq (by omega)
  omega

/-- the relation of the guess's loop: q is the guess, r what is left of u, d the digit -/
def Dig (n1 n0 u x q r : Nat) : Prop :=
  q * n1 + r = u ∧ r < 4294967296 ∧ q ≤ 4294967297 ∧ (u * 4294967296 + x) / (n1 * 4294967296 + n0) ≤ q

theorem Dig.start {n1 n0 u x : Nat} (hn1 : 2147483648 ≤ n1) (hn1' : n1 < 4294967296) (hn0 : n0 < 4294967296) (hu : u < n1 * 4294967296 + n0) (hx : x < 4294967296) :
    Dig n1 n0 u x (u / n1) (u - u / n1 * n1) := by
  have h := Nat.div_add_mod u n1
  have hm := Nat.mod_lt u (show 0 < n1 by omega)
  have hc : u / n1 * n1 = n1 * (u / n1) := Nat.mul_comm _ _
  refine ⟨by omega, by omega, dig_start hn1 hn0 hu, dig_first (by omega) hx⟩

/-- the loop goes on: the guess is one less -/
theorem Dig.down {n1 n0 u x q r : Nat} (h : Dig n1 n0 u x q r) (hn1 : 2147483648 ≤ n1) (hu : u < n1 * 4294967296 + n0) (hx : x < 4294967296)
    (hc : 4294967296 ≤ q ∨ 4294967296 * r + x < q * n0) : (q - 1) * n1 + (r + n1) = u ∧ 1 ≤ q ∧ q - 1 ≤ 4294967296 ∧ (u * 4294967296 + x) / (n1 * 4294967296 + n0) ≤ q - 1 := by
  obtain ⟨a, b, c, d⟩ := h
  have hlt := dig_lt (x := x) hu hx
  have hq : (u * 4294967296 + x) / (n1 * 4294967296 + n0) < q := by
    rcases hc with hc | hc
    · omega
    · exact dig_gt a hc (by omega)
  have h1 : 1 ≤ q := Nat.lt_of_le_of_lt (Nat.zero_le _) hq
  refine ⟨?_, h1, by omega, by omega⟩
  obtain ⟨k, rfl⟩ : ∃ k, q = k + 1 := ⟨q - 1, by omega⟩
  rw [Nat.add_mul] at a
  simp only [Nat.add_sub_cancel]
  omega

/-- the loop ends by its test -/
theorem Dig.stop {n1 n0 u x q r : Nat} (h : Dig n1 n0 u x q r) (hn1 : 2147483648 ≤ n1)
    (hc : ¬ 4294967296 * r + x < q * n0) : q = (u * 4294967296 + x) / (n1 * 4294967296 + n0) := by
  obtain ⟨a, b, c, d⟩ := h
  have := dig_le (x := x) a (by omega) (show 0 < n1 * 4294967296 + n0 by omega)
  omega

/-- the loop ends by its break -/
theorem Dig.broke {n1 n0 u x q r : Nat} (hn1 : 2147483648 ≤ n1) (hn0 : n0 < 4294967296) (a : q * n1 + r = u) (hq : q ≤ 4294967296)
    (d : (u * 4294967296 + x) / (n1 * 4294967296 + n0) ≤ q) (hr : 4294967296 ≤ r) : q = (u * 4294967296 + x) / (n1 * 4294967296 + n0) := by
  have := prod_small' hq hn0
  have := dig_le (x := x) a (by omega) (show 0 < n1 * 4294967296 + n0 by omega)
  omega

theorem Dig.go_on {n1 n0 u x : Nat} {q r m : Int} (h : Dig n1 n0 u x q.toNat r.toNat) (hq0 : 0 ≤ q) (hr0 : 0 ≤ r) (hn1 : 2147483648 ≤ n1) (hn0 : n0 < 4294967296)
    (hu : u < n1 * 4294967296 + n0) (hx : x < 4294967296) (hm : m = ((q.toNat * n0 : Nat) : Int)) (hc : 4294967296 ≤ q ∨ 4294967296 * r + (x : Int) < m) :
    1 ≤ q ∧ (r + (n1 : Int) < 4294967296 → Dig n1 n0 u x (q - 1).toNat (r + (n1 : Int)).toNat) ∧
    (4294967296 ≤ r + (n1 : Int) → q = (((u * 4294967296 + x) / (n1 * 4294967296 + n0) : Nat) : Int) + 1) := by
  have hc' : 4294967296 ≤ q.toNat ∨ 4294967296 * r.toNat + x < q.toNat * n0 := by
    rcases hc with hc | hc
    · left; omega
    · right; rw [hm] at hc; generalize q.toNat * n0 = k at *; omega
  obtain ⟨a, b, c, d⟩ := h.down hn1 hu hx hc'
  have e1 : (q - 1).toNat = q.toNat - 1 := by omega
  have e2 : (r + (n1 : Int)).toNat = r.toNat + n1 := by omega
  refine ⟨by omega, fun hr => ?_, fun hr => ?_⟩
  · rw [e1, e2]
    exact ⟨a, by omega, by omega, d⟩
  · have := Dig.broke hn1 hn0 a c d (by omega)
    rw [← this]
    omega

theorem Dig.ends {n1 n0 u x : Nat} {q r m : Int} (h : Dig n1 n0 u x q.toNat r.toNat) (hq0 : 0 ≤ q) (hr0 : 0 ≤ r) (hn1 : 2147483648 ≤ n1)
    (hm : m = ((q.toNat * n0 : Nat) : Int)) (hc : ¬ 4294967296 * r + (x : Int) < m) :
    q = (((u * 4294967296 + x) / (n1 * 4294967296 + n0) : Nat) : Int) := by
  have := h.stop hn1 (by rw [hm] at hc; generalize q.toNat * n0 = k at *; omega)
  rw [← this]
  omega

theorem digit_rest {y v : Nat} : v - v / y * y = v % y := by
  have h := Nat.div_add_mod v y
  rw [Nat.mul_comm] at h
  omega

/-- two digits are the quotient of four -/
theorem two_digits' (B : Nat) {y v x0 : Nat} (hy : 0 < y) :
    (v * B + x0) / y = v / y * B + (v % y * B + x0) / y ∧ (v * B + x0) % y = (v % y * B + x0) % y := by
  have h := Nat.div_add_mod v y
  have e : v * B + x0 = (v % y * B + x0) + y * (v / y * B) := by
    have : v * B = y * (v / y * B) + v % y * B := by
      rw [← Nat.mul_assoc, ← Nat.add_mul, h]
    omega
  constructor
  · rw [e, Nat.add_mul_div_left _ _ hy]; omega
  · rw [e, Nat.add_mul_mod_self_left]

theorem two_digits {y u x1 x0 : Nat} (hy : 0 < y) :
    ((u * 4294967296 + x1) * 4294967296 + x0) / y = (u * 4294967296 + x1) / y * 4294967296 + ((u * 4294967296 + x1) % y * 4294967296 + x0) / y ∧
    ((u * 4294967296 + x1) * 4294967296 + x0) % y = ((u * 4294967296 + x1) % y * 4294967296 + x0) % y :=
  two_digits' 4294967296 hy

/-- both numbers shifted left alike: the same quotient, the rest shifted -/
theorem shifted {n y p : Nat} (hp : 0 < p) : n * p / (y * p) = n / y ∧ n * p % (y * p) / p = n % y := by
  constructor
  · exact Nat.mul_div_mul_right _ _ hp
  · rw [Nat.mul_mod_mul_right, Nat.mul_div_cancel _ hp]

theorem spread (B a b p : Nat) : (a * B + b) * p = a * p * B + b * p := by
  rw [Nat.add_mul, Nat.mul_right_comm]

theorem glue {H K T U X1 X0 : Nat} (hL : K = T * 18446744073709551616 + K % 18446744073709551616) (hU : U = H + T) (h1 : X1 = K % 18446744073709551616 / 4294967296)
    (h0 : X0 = K % 18446744073709551616 % 4294967296) : H * 18446744073709551616 + K = (U * 4294967296 + X1) * 4294967296 + X0 := by
  generalize K % 18446744073709551616 = R at *
  omega

end Go.Proofs.YtcdkgfjjgebcnaaDoor.Num

/- math/bits.Div64: a contract, walked. -/
namespace Go.Proofs.YtcdkgfjjgebcnaaDoor.Div
open Go Go.RowKit Go.Lib
set_option linter.unusedVariables false

theorem wrapM (a : Int) : IntKind.u64.wrap a = a % 18446744073709551616 := IntKind.wrap_u64 a

theorem round_sub {U x k r : Nat} (h : U * 4294967296 + x = k + r) (hr : r < 18446744073709551616) :
    IntKind.u64.wrap (IntKind.u64.wrap (IntKind.u64.wrap ((U : Int) * 4294967296) + (x : Int)) - IntKind.u64.wrap (k : Int)) = (r : Int) := by
  simp only [wrapM]
  omega

end Go.Proofs.YtcdkgfjjgebcnaaDoor.Div

/- The contracts of package cents. -/
namespace Go.Proofs.YtcdkgfjjgebcnaaDoor
open Go Go.RowKit
set_option linter.unusedVariables false

theorem ret2 {a b : Int} {k j : Int} (h : a = b) (g : errv k = errv j) : Ending.returned (.tuple #[.int .i64 a, errv k]) = .returned (.tuple #[.int .i64 b, errv j]) := by rw [h, g]

theorem wrapU (a : Int) : IntKind.u64.wrap a = a % 18446744073709551616 := IntKind.wrap_u64 a

theorem ret1 {k : IntKind} {a b : Int} (h : a = b) : Ending.returned (.int k a) = .returned (.int k b) := by rw [h]

theorem retb {a b : Bool} (h : a = b) : Ending.returned (.bool a) = .returned (.bool b) := by rw [h]

end Go.Proofs.YtcdkgfjjgebcnaaDoor

/- The contract of cents.MulDiv. -/
namespace Go.Proofs.YtcdkgfjjgebcnaaDoor
open Go Go.RowKit
set_option linter.unusedVariables false

theorem mag_nat (a : Int) : mag a = ((a.natAbs : Nat) : Int) := by
  unfold mag; split <;> omega

end Go.Proofs.YtcdkgfjjgebcnaaDoor

/- The examples at the head of the statements of layer 1. -/
namespace Go.Proofs.YtcdkgfjjgebcnaaDoor
open Go Go.RowKit
set_option linter.unusedVariables false

end Go.Proofs.YtcdkgfjjgebcnaaDoor

/- The contracts of cents.Add and cents.Sub. -/
namespace Go.Proofs.YtcdkgfjjgebcnaaDoor
open Go Go.RowKit
set_option linter.unusedVariables false

set_option maxHeartbeats 400000 in
theorem add_any (a b : Int) (ha : -9223372036854775808 ≤ a ∧ a ≤ 9223372036854775807) (hb : -9223372036854775808 ≤ b ∧ b ≤ 9223372036854775807) (w : World) :
    Calls Tryd.prog 53 #[.int .i64 a, .int .i64 b] w fun e w' => e = .returned (.tuple #[.int .i64 (ovV (a + b)), errv (ovE (a + b))]) ∧ w' = w := by
  by_cases h : -9223372036854775808 ≤ a + b ∧ a + b ≤ 9223372036854775807
  · obtain ⟨h1, h2⟩ := ov_in h
    rw [h1, h2, errv_0]
    clear h1 h2
    by_cases c1 : a < 0 <;> by_cases c2 : b < 0 <;> by_cases c3 : a + b < 0
    all_goals first
      | (exfalso; omega)
      | (go_enter Tryd.func53, Tryd.ntmps53
         go_wp2
         go_ret2
         exact ⟨rfl, rfl⟩)
  · obtain ⟨h1, h2⟩ := ov_out h
    rw [h1, h2, errv_3]
    clear h1 h2
    by_cases c1 : a < 0
    · have c2 : b < 0 := by omega
      have c3 : ¬ wrap64 (a + b) < 0 := by unfold wrap64; omega
      go_enter Tryd.func53, Tryd.ntmps53
      go_wp2
      go_ret2
      exact ⟨rfl, rfl⟩
    · have c2 : ¬ b < 0 := by omega
      have c3 : wrap64 (a + b) < 0 := by unfold wrap64; omega
      go_enter Tryd.func53, Tryd.ntmps53
      go_wp2
      go_ret2
      exact ⟨rfl, rfl⟩

end Go.Proofs.YtcdkgfjjgebcnaaDoor

/- The walk of CentsBack: what was added is taken away again. -/
namespace Go.Proofs.YtcdkgfjjgebcnaaDoor
open Go Go.RowKit
set_option linter.unusedVariables false

theorem add_is (a b v k : Int) (ha : -9223372036854775808 ≤ a ∧ a ≤ 9223372036854775807) (hb : -9223372036854775808 ≤ b ∧ b ≤ 9223372036854775807)
    (hv : ovV (a + b) = v) (hk : ovE (a + b) = k) (w : World) :
    Calls Tryd.prog 53 #[.int .i64 a, .int .i64 b] w fun e w' => e = .returned (.tuple #[.int .i64 v, errv k]) ∧ w' = w := by
  rw [← hv, ← hk]; exact add_any a b ha hb w
end Go.Proofs.YtcdkgfjjgebcnaaDoor

/- The contract of cents.Sum. -/
namespace Go.Proofs.YtcdkgfjjgebcnaaDoor
open Go Go.RowKit
set_option linter.unusedVariables false

/-- the two halves of a sum -/
def Halves (s H L : Int) : Prop := L = s % 18446744073709551616 ∧ H = s / 18446744073709551616 % 18446744073709551616

theorem Halves.bounds {s H L : Int} (h : Halves s H L) : 0 ≤ L ∧ L ≤ 18446744073709551615 ∧ 0 ≤ H ∧ H ≤ 18446744073709551615 := by
  obtain ⟨rfl, rfl⟩ := h
  omega

def sb (x : Int) : Int := if x < 0 then 18446744073709551615 else 0

theorem Halves.step {s H L x : Int} (h : Halves s H L) (hx : -9223372036854775808 ≤ x ∧ x ≤ 9223372036854775807) :
    Halves (s + x) ((H + sb x + (L + IntKind.u64.wrap x + 0) / 18446744073709551616) % 18446744073709551616) ((L + IntKind.u64.wrap x + 0) % 18446744073709551616) := by
  obtain ⟨rfl, rfl⟩ := h
  rw [wrapU]
  unfold Halves sb
  by_cases c : x < 0
  · rw [if_pos c]; constructor <;> omega
  · rw [if_neg c]; constructor <;> omega

theorem Halves.test {s H L : Int} (h : Halves s H L) (hs : -85070591730234615865843651857942052864 ≤ s ∧ s ≤ 85070591730234615865843651857942052864) :
    (H = sb (wrap64 L) ↔ (-9223372036854775808 ≤ s ∧ s ≤ 9223372036854775807)) ∧ ((-9223372036854775808 ≤ s ∧ s ≤ 9223372036854775807) → wrap64 L = s) := by
  obtain ⟨rfl, rfl⟩ := h
  unfold sb wrap64
  constructor
  · constructor
    · intro h; split at h <;> omega
    · intro h; split <;> omega
  · intro h; omega

theorem add64_run (x y c : Int) (hx : 0 ≤ x) (hy : 0 ≤ y) (hc0 : 0 ≤ c) (hc : c ≤ 1) (w : World) :
    (callFunc 68 #[.int .u64 x, .int .u64 y, .int .u64 c]).run Tryd.prog w =
      .ok (.value (.tuple #[.int .u64 ((x + y + c) % 18446744073709551616), .int .u64 ((x + y + c) / 18446744073709551616)])) w := by
  rw [run_callFunc_extern Tryd.func68 (by kernel_rfl) (by kernel_rfl) (by kernel_rfl) (e := add64Entry) (by kernel_rfl), run_add64 x y c hx hy hc0 hc]
  rfl

theorem signBits_any (x : Int) (hx : -9223372036854775808 ≤ x ∧ x ≤ 9223372036854775807) (w : World) :
    Calls Tryd.prog 69 #[.int .i64 x] w fun e w' => e = .returned (.int .u64 (sb x)) ∧ w' = w := by
  have e : IntKind.u64.wrap (x / 9223372036854775808) = sb x := by
    rw [wrapU]; unfold sb; split <;> omega
  go_enter Tryd.func69, Tryd.ntmps69
  go_wp2
  go_ret
  exact ⟨rfl, rfl⟩

set_option maxHeartbeats 1000000 in
theorem sum_walk (b off len cap : Nat) (zs : List Int) (w : World) (hz : zs.length = len) (hlen : len ≤ 9223372036854775807) (hpos : 0 < len)
    (hb : Hid (∀ n ∈ zs, -9223372036854775808 ≤ n ∧ n ≤ 9223372036854775807))
    (hc : Hid (∀ j, j < len → w.cell? ⟨b, off + j, none⟩ = some (.int .i64 (zs.getD j 0)))) :
    Calls Tryd.prog 52 #[.slice (some ⟨b, off, none⟩) len cap] w fun e w' => e = .returned (.tuple #[.int .i64 (ovV (sumI zs)), errv (ovE (sumI zs))]) ∧ w' = w := by
  have HZ := Lib.hid hz
  clear hz
  go_enter Tryd.func52, Tryd.ntmps52
  go_wp2_with fail
  go_loop [4, 5, 11] (fun h l i => ∃ (k : Nat) (H L : Int), k ≤ len ∧ i = .int .i64 k ∧ h = .int .u64 H ∧ l = .int .u64 L ∧ Halves (sumI (zs.take k)) H L) (fun _ _ i => len - (RowKit.intOf i).toNat)
  case atStart => exact ⟨0, 0, 0, Nat.zero_le _, rfl, rfl, rfl, by simp [sumI, Halves]⟩
  case round =>
    obtain ⟨k, H, L, hk, rfl, rfl, rfl, hinv⟩ := hrel
    obtain ⟨b1, b2, b3, b4⟩ := hinv.bounds
    by_cases hlt : k < len
    · obtain ⟨x, hx⟩ : ∃ x, zs.getD k 0 = x := ⟨_, rfl⟩
      have hcell := hc.out k hlt
      rw [hx] at hcell
      have hxb : -9223372036854775808 ≤ x ∧ x ≤ 9223372036854775807 := by
        rw [← hx, List.getD_eq_getElem?_getD, List.getElem?_eq_getElem (by rw [HZ.out]; exact hlt)]
        exact hb.out _ (List.getElem_mem _)
      have hst := hinv.step hxb
      rw [← hx, ← sumI_take zs k (by rw [HZ.out]; exact hlt), hx] at hst
      have hw0 : 0 ≤ IntKind.u64.wrap x ∧ IntKind.u64.wrap x ≤ 18446744073709551615 := by rw [wrapU]; omega
      have hs0 : 0 ≤ sb x ∧ sb x ≤ 18446744073709551615 := by unfold sb; split <;> omega
      have A1 := fun w => add64_run L (IntKind.u64.wrap x) 0 b1 hw0.1 (by omega) (by omega) w
      obtain ⟨c, hcd⟩ : ∃ c, (L + IntKind.u64.wrap x + 0) / 18446744073709551616 = c := ⟨_, rfl⟩
      have hc01 : 0 ≤ c ∧ c ≤ 1 := by omega
      have A2 := fun w => add64_run H (sb x) c b3 hs0.1 hc01.1 hc01.2 w
      rw [hcd] at hst
      simp only [hcd] at A1
      generalize (L + IntKind.u64.wrap x + 0) % 18446744073709551616 = L' at *
      generalize (H + sb x + c) % 18446744073709551616 = H' at *
      generalize (H + sb x + c) / 18446744073709551616 = c' at *
      clear hinv hx hcd hs0
      go_wp2_with (go_at_call 69; refine (signBits_any _ hxb _).mono ?_; rintro e w' ⟨rfl, rfl⟩)
      go_round
      case rel => exact ⟨k + 1, H', L', by omega, by go_num, rfl, rfl, hst⟩
      case measure => simp [RowKit.intOf]; omega
    · have hk' : k = len := by omega
      subst hk'
      have hbd := sumI_bound zs hb.out
      rw [HZ.out] at hbd
      rw [List.take_of_length_le (by rw [HZ.out]; exact Nat.le_refl _)] at hinv
      obtain ⟨t1, t2⟩ := hinv.test (by omega)
      obtain ⟨s, hs⟩ : ∃ s, sumI zs = s := ⟨_, rfl⟩
      rw [hs] at t1 t2
      have HS := Lib.hid hs
      clear hinv hbd hs
      by_cases hin : -9223372036854775808 ≤ s ∧ s ≤ 9223372036854775807
      · have c1 := t1.2 hin
        have c2 := t2 hin
        have e1 : ovV s = s := (ov_in hin).1
        have e2 : ovE s = 0 := (ov_in hin).2
        have E1 := Lib.hid e1
        have E2 := Lib.hid e2
        have c3 : (H != sb s) = false := by rw [c2] at c1; simpa using c1
        clear e1 e2 t1 t2 c1
        go_wp2_with (go_at_call 69; refine (signBits_any _ hin _).mono ?_; rintro e w' ⟨rfl, rfl⟩)
        go_ret2
        exact ⟨by rw [HS.out, E1.out, E2.out, ← c2]; rfl, rfl⟩
      · have c3 : (H != sb (wrap64 L)) = true := by simpa using fun h => hin (t1.1 h)
        have hw : -9223372036854775808 ≤ wrap64 L ∧ wrap64 L ≤ 9223372036854775807 := by unfold wrap64; omega
        have E1 := Lib.hid (ov_out hin).1
        have E2 := Lib.hid (ov_out hin).2
        clear t1 t2
        go_wp2_with (go_at_call 69; refine (signBits_any _ hw _).mono ?_; rintro e w' ⟨rfl, rfl⟩)
        go_ret2
        exact ⟨by rw [HS.out, E1.out, E2.out]; rfl, rfl⟩

theorem sum_empty (a : Option Addr) (cap : Nat) (w : World) :
    Calls Tryd.prog 52 #[.slice a 0 cap] w fun e w' => e = .returned (.tuple #[.int .i64 0, .nilIface]) ∧ w' = w := by
  have c3 : sb 0 = 0 := rfl
  go_enter Tryd.func52, Tryd.ntmps52
  go_wp2_with fail
  go_loop [4, 5, 11] (fun h l i => i = .int .i64 0 ∧ h = .int .u64 0 ∧ l = .int .u64 0) (fun _ _ _ => 0)
  case atStart => exact ⟨rfl, rfl, rfl⟩
  case round =>
    obtain ⟨rfl, rfl, rfl⟩ := hrel
    go_wp2_with (go_at_call 69; refine (signBits_any _ (by omega) _).mono ?_; rintro e w' ⟨rfl, rfl⟩)
    go_ret2
    exact ⟨rfl, rfl⟩

/-- the contract -/
theorem sum_any (a : Option Addr) (len cap : Nat) (zs : List Int) (w : World) (hlen : len ≤ 9223372036854775807) (h : Elems w a len zs) :
    Calls Tryd.prog 52 #[.slice a len cap] w fun e w' => e = .returned (.tuple #[.int .i64 (ovV (sumI zs)), errv (ovE (sumI zs))]) ∧ w' = w := by
  obtain ⟨hz, hb, h0⟩ := h
  by_cases hl : len = 0
  · subst hl
    have : zs = [] := List.eq_nil_of_length_eq_zero hz
    subst this
    exact sum_empty a cap w
  · rcases h0 with h0 | ⟨b, off, rfl, hc⟩
    · exact absurd h0 hl
    · exact sum_walk b off len cap zs w hz hlen (by omega) (Lib.hid hb) (Lib.hid hc)
end Go.Proofs.YtcdkgfjjgebcnaaDoor
