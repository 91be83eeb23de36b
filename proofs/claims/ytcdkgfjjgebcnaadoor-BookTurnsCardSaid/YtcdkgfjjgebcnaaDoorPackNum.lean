/- Plain bytes of layer 6: numbers and commands as bytes. No program in sight. -/
import Derived.WalkKit
namespace Go.Proofs.YtcdkgfjjgebcnaaDoor
open Go
set_option linter.unusedVariables false

/-- a number of whatever sign as one that isn't below 0 -/
def zig (n : Int) : Nat := if 0 ≤ n then (2 * n).toNat else (-2 * n - 1).toNat
theorem zig_inj {a b : Int} (h : zig a = zig b) : a = b := by unfold zig at h; split at h <;> split at h <;> omega

/-- seven-bit digits, the lowest first -/
def dig7 (u : Nat) : List Nat := if h : u < 128 then [u] else (u % 128 + 128) :: dig7 (u / 128)
termination_by u
decreasing_by omega

theorem dig7_lt {u : Nat} (h : u < 128) : dig7 u = [u] := by rw [dig7]; simp [h]
theorem dig7_ge {u : Nat} (h : 128 ≤ u) : dig7 u = (u % 128 + 128) :: dig7 (u / 128) := by rw [dig7]; simp [show ¬ u < 128 by omega]

theorem dig7_byte (u : Nat) : ∀ b ∈ dig7 u, b < 256 := by
  induction u using Nat.strongRecOn with
  | _ u ih =>
    intro b hb
    by_cases h : u < 128
    · rw [dig7_lt h] at hb; simp at hb; omega
    · rw [dig7_ge (by omega)] at hb
      simp only [List.mem_cons] at hb
      rcases hb with rfl | hb
      · omega
      · exact ih _ (by omega) b hb

/-- prefix-free: where one's digits end the other's do -/
theorem dig7_prefix : ∀ (u v : Nat) (r s : List Nat), dig7 u ++ r = dig7 v ++ s → u = v ∧ r = s := by
  intro u
  induction u using Nat.strongRecOn with
  | _ u ih =>
    intro v r s h
    by_cases hu : u < 128
    · rw [dig7_lt hu] at h
      by_cases hv : v < 128
      · rw [dig7_lt hv] at h
        simp at h
        exact h
      · rw [dig7_ge (by omega)] at h
        simp only [List.cons_append, List.nil_append, List.cons.injEq] at h
        omega
    · rw [dig7_ge (by omega)] at h
      by_cases hv : v < 128
      · rw [dig7_lt hv] at h
        simp only [List.cons_append, List.nil_append, List.cons.injEq] at h
        omega
      · rw [dig7_ge (u := v) (by omega)] at h
        simp only [List.cons_append, List.cons.injEq] at h
        obtain ⟨h1, h2⟩ := h
        obtain ⟨h3, h4⟩ := ih (u / 128) (by omega) (v / 128) r s h2
        exact ⟨by omega, h4⟩

theorem dig7_len (u : Nat) : 1 ≤ (dig7 u).length := by
  rw [dig7]; split <;> simp

/-- how many digits there are at most -/
theorem dig7_le : ∀ (k u : Nat), u < 128 ^ (k + 1) → (dig7 u).length ≤ k + 1 := by
  intro k
  induction k with
  | zero => intro u h; rw [dig7_lt (by simpa using h)]; simp
  | succ k ih =>
    intro u h
    by_cases hu : u < 128
    · rw [dig7_lt hu]; simp
    · rw [dig7_ge (by omega)]
      have : u / 128 < 128 ^ (k + 1) := by
        rw [Nat.div_lt_iff_lt_mul (by omega)]
        have e : 128 ^ (k + 1 + 1) = 128 ^ (k + 1) * 128 := Nat.pow_succ ..
        omega
      have := ih _ this
      simp only [List.length_cons]
      omega

/-- what digits are worth -/
def val7 : List Nat → Nat
  | [] => 0
  | b :: r => b % 128 + 128 * val7 r

theorem val7_dig7 (u : Nat) : val7 (dig7 u) = u := by
  induction u using Nat.strongRecOn with
  | _ u ih =>
    by_cases h : u < 128
    · rw [dig7_lt h]; simp [val7]; omega
    · rw [dig7_ge (by omega)]
      simp only [val7]
      rw [ih _ (by omega)]
      omega

/-- how many bytes that say that another one follows stand at the beginning, nine at most counted by the caller -/
def more : List Nat → Nat
  | [] => 0
  | b :: r => if 127 < b then more r + 1 else 0

theorem more_dig7 (u : Nat) (r : List Nat) : more (dig7 u ++ r) + 1 = (dig7 u).length := by
  induction u using Nat.strongRecOn with
  | _ u ih =>
    by_cases h : u < 128
    · rw [dig7_lt h]; simp only [List.cons_append, List.nil_append, more, List.length_cons, List.length_nil]; rw [if_neg (by omega)]
    · rw [dig7_ge (by omega)]
      simp only [List.cons_append, more, List.length_cons]
      rw [if_pos (by omega)]
      have := ih (u / 128) (by omega)
      omega

/-- a number's bytes -/
def numB (n : Int) : List Nat := dig7 (zig n)

theorem numB_prefix {a b : Int} {r s : List Nat} (h : numB a ++ r = numB b ++ s) : a = b ∧ r = s := by
  obtain ⟨h1, h2⟩ := dig7_prefix _ _ _ _ h
  exact ⟨zig_inj h1, h2⟩

def i64 (n : Int) : Prop := -9223372036854775808 ≤ n ∧ n ≤ 9223372036854775807

theorem zig_64 {n : Int} (h : i64 n) : zig n < 18446744073709551616 := by unfold zig; obtain ⟨h1, h2⟩ := h; split <;> omega
theorem numB_len {n : Int} (h : i64 n) : 1 ≤ (numB n).length ∧ (numB n).length ≤ 10 := by
  refine ⟨dig7_len _, dig7_le 9 _ ?_⟩
  have := zig_64 h
  have e : 128 ^ (9 + 1) = 1180591620717411303424 := by decide
  omega

/-- all numbers' bytes -/
def allB : List Int → List Nat
  | [] => []
  | n :: r => numB n ++ allB r

theorem allB_append (l r : List Int) : allB (l ++ r) = allB l ++ allB r := by
  induction l with
  | nil => rfl
  | cons a l ih => simp only [List.cons_append, allB, ih, List.append_assoc]

theorem allB_prefix : ∀ (l l' : List Int) (r s : List Nat), l.length = l'.length → allB l ++ r = allB l' ++ s → l = l' ∧ r = s := by
  intro l
  induction l with
  | nil =>
    intro l' r s hl h
    cases l' with
    | nil => exact ⟨rfl, h⟩
    | cons a l' => simp at hl
  | cons a l ih =>
    intro l' r s hl h
    cases l' with
    | nil => simp at hl
    | cons b l' =>
      simp only [allB, List.append_assoc] at h
      obtain ⟨rfl, h2⟩ := numB_prefix h
      obtain ⟨rfl, h4⟩ := ih l' r s (by simpa using hl) h2
      exact ⟨rfl, h4⟩

/-- a command's bytes -/
def putB (kind key loan : Int) (N : List Int) : List Nat := allB (kind :: key :: loan :: (N.length : Int) :: N)

theorem putB_prefix {k y l k' y' l' : Int} {N N' : List Int} {r s : List Nat} (h : putB k y l N ++ r = putB k' y' l' N' ++ s) : k = k' ∧ y = y' ∧ l = l' ∧ N = N' ∧ r = s := by
  unfold putB at h
  simp only [allB, List.append_assoc] at h
  obtain ⟨h1, h⟩ := numB_prefix h
  obtain ⟨h2, h⟩ := numB_prefix h
  obtain ⟨h3, h⟩ := numB_prefix h
  obtain ⟨h4, h⟩ := numB_prefix h
  obtain ⟨h5, h6⟩ := allB_prefix N N' r s (by omega) h
  exact ⟨h1, h2, h3, h5, h6⟩

theorem putB_len (k y l : Int) (N : List Int) : 4 ≤ (putB k y l N).length := by
  unfold putB
  simp only [allB, List.length_append]
  have h1 := dig7_len (zig k)
  have h2 := dig7_len (zig y)
  have h3 := dig7_len (zig l)
  have h4 := dig7_len (zig (N.length : Int))
  unfold numB
  omega

theorem allB_byte (l : List Int) : ∀ b ∈ allB l, b < 256 := by
  induction l with
  | nil => intro b hb; cases hb
  | cons a l ih =>
    intro b hb
    simp only [allB, List.mem_append] at hb
    rcases hb with hb | hb
    · exact dig7_byte _ b hb
    · exact ih b hb

theorem allB_len (l : List Int) (h : ∀ n ∈ l, i64 n) : (allB l).length ≤ 10 * l.length := by
  induction l with
  | nil => simp [allB]
  | cons a l ih =>
    simp only [allB, List.length_append, List.length_cons]
    have := (numB_len (h a (by simp))).2
    have := ih (fun n hn => h n (by simp [hn]))
    omega

/-- a number of whatever sign, back -/
def unzig (u : Nat) : Int := if u % 2 = 1 then -((u / 2 : Nat) : Int) - 1 else ((u / 2 : Nat) : Int)
theorem zig_unzig (u : Nat) : zig (unzig u) = u := by unfold zig unzig; split <;> split <;> omega
theorem unzig_zig (n : Int) : unzig (zig n) = n := zig_inj (zig_unzig _)
theorem unzig_64 {u : Nat} (h : u < 18446744073709551616) : i64 (unzig u) := by unfold i64 unzig; split <;> omega

/-- where digits end -/
theorem dig7_end (u : Nat) : (∀ i, i + 1 < (dig7 u).length → 127 < (dig7 u).getD i 0) ∧ (dig7 u).getD ((dig7 u).length - 1) 0 ≤ 127 := by
  induction u using Nat.strongRecOn with
  | _ u ih =>
    by_cases h : u < 128
    · rw [dig7_lt h]
      exact ⟨fun i hi => by simp at hi, by simp; omega⟩
    · rw [dig7_ge (by omega)]
      obtain ⟨h1, h2⟩ := ih (u / 128) (by omega)
      have h3 := dig7_len (u / 128)
      refine ⟨fun i hi => ?_, ?_⟩
      · cases i with
        | zero => simp
        | succ i =>
          simp only [List.length_cons] at hi
          simpa using h1 i (by omega)
      · simp only [List.length_cons, Nat.add_sub_cancel]
        have e : (dig7 (u / 128)).length = ((dig7 (u / 128)).length - 1) + 1 := by omega
        rw [e]
        simpa using h2

theorem getD_left (l r : List Nat) {i : Nat} (h : i < l.length) : (l ++ r).getD i 0 = l.getD i 0 := by
  simp [List.getD, List.getElem?_append_left h]

/-- where a number's bytes end in what begins with them -/
theorem rd_end {l r : List Nat} {v : Int} (h : i64 v) (e : l = numB v ++ r) : ∃ m, (numB v).length = m + 1 ∧ m ≤ 9 ∧ m < l.length ∧ (∀ i, i < m → 127 < l.getD i 0) ∧ l.getD m 0 ≤ 127 := by
  obtain ⟨h1, h2⟩ := numB_len h
  obtain ⟨g1, g2⟩ := dig7_end (zig v)
  have g1' : ∀ i, i + 1 < (numB v).length → 127 < (numB v).getD i 0 := g1
  have g2' : (numB v).getD ((numB v).length - 1) 0 ≤ 127 := g2
  refine ⟨(numB v).length - 1, by omega, by omega, by rw [e, List.length_append]; omega, fun i hi => ?_, ?_⟩
  · rw [e, getD_left _ _ (by omega)]; exact g1' i (by omega)
  · rw [e, getD_left _ _ (by omega)]; exact g2'

/-- no number begins there -/
def RdNo (l : List Nat) : Prop := ∀ v r, i64 v → l ≠ numB v ++ r

theorem rd_no {l : List Nat} {j : Nat} (h : ∀ i, i < j → 127 < l.getD i 0) (hj : l.length ≤ j ∨ 10 ≤ j) : RdNo l := by
  intro v r hv e
  obtain ⟨m, _, h2, h3, _, h5⟩ := rd_end hv e
  have := h m (by omega)
  omega

theorem rd_seg {l r : List Nat} {j : Nat} {v : Int} (h : ∀ i, i < j → 127 < l.getD i 0) (hj : l.getD j 0 ≤ 127) (hv : i64 v) (e : l = numB v ++ r) : l.take (j + 1) = numB v := by
  obtain ⟨m, h1, h2, h3, h4, h5⟩ := rd_end hv e
  have hm : m = j := by
    rcases Nat.lt_trichotomy m j with c | c | c
    · have := h m c; omega
    · exact c
    · have := h4 j c; omega
  subst hm
  rw [e, ← h1]
  simp

/-- what the bytes are worth tells the number, if it is one's -/
theorem rd_or {l : List Nat} {j : Nat} (h : ∀ i, i < j → 127 < l.getD i 0) (hj : l.getD j 0 ≤ 127) (hl : j < l.length) :
    (numB (unzig (val7 (l.take (j + 1)) % 18446744073709551616)) = l.take (j + 1) → ∃ r, l = numB (unzig (val7 (l.take (j + 1)) % 18446744073709551616)) ++ r) ∧
    (numB (unzig (val7 (l.take (j + 1)) % 18446744073709551616)) ≠ l.take (j + 1) → RdNo l) := by
  refine ⟨fun e => ⟨l.drop (j + 1), by rw [e, List.take_append_drop]⟩, fun hne v r hv e => hne ?_⟩
  have hs := rd_seg h hj hv e
  rw [hs]
  have h1 : val7 (numB v) = zig v := val7_dig7 _
  rw [h1, Nat.mod_eq_of_lt (zig_64 hv), unzig_zig]

theorem val7_step {l : List Nat} {c : Nat} (h : c < l.length) : val7 (l.drop c) = l.getD c 0 % 128 + 128 * val7 (l.drop (c + 1)) := by
  rw [List.drop_eq_getElem_cons h]
  simp [val7, List.getD, h]

/-- the numbers of a command -/
def cmdL (k y l : Int) (N : List Int) : List Int := k :: y :: l :: (N.length : Int) :: N

/-- what begins as numbers' bytes, and is a command's: these numbers are its first ones -/
theorem parse_prefix {bs rest : List Nat} {L : List Int} (h : bs = allB L ++ rest) {k y l : Int} {N : List Int} (e : bs = putB k y l N) (hle : L.length ≤ 4 + N.length) :
    L = (cmdL k y l N).take L.length ∧ rest = allB ((cmdL k y l N).drop L.length) := by
  have e2 : allB L ++ rest = allB ((cmdL k y l N).take L.length) ++ allB ((cmdL k y l N).drop L.length) := by
    rw [← allB_append, List.take_append_drop, ← h, e]; rfl
  exact allB_prefix _ _ _ _ (by rw [List.length_take]; simp [cmdL]; omega) e2

theorem drop_cons {M : List Int} {n : Nat} (h : n < M.length) : allB (M.drop n) = numB M[n] ++ allB (M.drop (n + 1)) := by
  rw [List.drop_eq_getElem_cons h]; rfl

/-- may these be a command's numbers? -/
def okC (k y l : Int) (N : List Int) : Prop := i64 k ∧ i64 y ∧ i64 l ∧ N.length ≤ 16 ∧ ∀ n ∈ N, i64 n
/-- no command's bytes -/
def NoCmd (bs : List Nat) : Prop := ∀ k y l N, okC k y l N → bs ≠ putB k y l N

theorem cmdL_64 {k y l : Int} {N : List Int} (h : okC k y l N) : ∀ n ∈ cmdL k y l N, i64 n := by
  obtain ⟨h1, h2, h3, h4, h5⟩ := h
  intro n hn
  simp only [cmdL, List.mem_cons] at hn
  rcases hn with rfl | rfl | rfl | rfl | hn
  · exact h1
  · exact h2
  · exact h3
  · unfold i64; omega
  · exact h5 n hn

/-- where no number begins though one is due -/
theorem noCmd_short {bs rest : List Nat} {L : List Int} (h : bs = allB L ++ rest) (hno : RdNo rest) (hL : L.length < 4 ∨ (∃ k y l n : Int, ∃ c, L = k :: y :: l :: n :: c ∧ (c.length : Int) < n)) : NoCmd bs := by
  intro k y l N hok e
  have hlt : L.length < 4 + N.length := by
    rcases hL with h | ⟨k', y', l', n', c, rfl, hc⟩
    · omega
    · have h4 : [k', y', l', n'].length ≤ 4 + N.length := by simp
      have h5 : bs = allB [k', y', l', n'] ++ (allB c ++ rest) := by rw [h]; simp [allB]
      have h6 := (parse_prefix h5 e h4).1
      simp [cmdL] at h6
      simp only [List.length_cons]
      omega
  obtain ⟨h1, h2⟩ := parse_prefix h e (by omega)
  have h3 : L.length < (cmdL k y l N).length := by simp [cmdL]; omega
  rw [drop_cons h3] at h2
  exact hno _ _ (cmdL_64 hok _ (List.getElem_mem _)) h2

theorem noCmd_count {bs rest : List Nat} {k y l n : Int} (h : bs = allB [k, y, l, n] ++ rest) (hn : n < 0 ∨ 16 < n) : NoCmd bs := by
  intro k' y' l' N hok e
  have h6 := (parse_prefix h e (by simp)).1
  simp [cmdL] at h6
  have := hok.2.2.2.1
  omega

theorem noCmd_rest {bs rest : List Nat} {k y l n : Int} {c : List Int} (h : bs = allB (k :: y :: l :: n :: c) ++ rest) (hn : (c.length : Int) = n) (hr : rest ≠ []) : NoCmd bs := by
  intro k' y' l' N hok e
  have h5 : bs = allB [k, y, l, n] ++ (allB c ++ rest) := by rw [h]; simp [allB]
  have h6 := (parse_prefix h5 e (by simp)).1
  simp [cmdL] at h6
  obtain ⟨h1, h2⟩ := parse_prefix h e (by simp; omega)
  apply hr
  rw [h2, List.drop_eq_nil_of_le (by simp [cmdL]; omega)]
  rfl

theorem isCmd {bs : List Nat} {k y l n : Int} {c : List Int} (h : bs = allB (k :: y :: l :: n :: c)) (hn : (c.length : Int) = n) : bs = putB k y l c := by
  rw [h]; unfold putB; rw [hn]
end Go.Proofs.YtcdkgfjjgebcnaaDoor
