/- A journal by definition, as lists: plain. -/
import Derived.Test.YtehfbafocbcfnaaDiskNum
namespace Go.Proofs.Ytehfbafocbcfnaa
set_option linter.unusedVariables false

/-- a record's head -/
def headN (n : Nat) : List Nat := [n % 256, n / 256 % 256, n / 65536 % 256, n / 16777216 % 256, 255 - n % 256, 255 - n / 256 % 256, 255 - n / 65536 % 256, 255 - n / 16777216 % 256]
theorem headN_len (n : Nat) : (headN n).length = 8 := rfl
theorem headN_256 (n : Nat) : ∀ b ∈ headN n, b < 256 := by
  intro b hb
  simp only [headN, List.mem_cons, List.not_mem_nil, or_false] at hb
  omega

/-- which number's head stands at a place, of the numbers up to one -/
def fndN (bs : List Nat) (p : Nat) : Nat → Nat
  | 0 => 0
  | n + 1 => if headN (n + 1) = (bs.drop p).take 8 then n + 1 else fndN bs p n
def foundN (bs : List Nat) (p : Nat) : Nat := fndN bs p (min 1024 (bs.length - (p + 8)))
theorem fndN_le (bs : List Nat) (p n : Nat) : fndN bs p n ≤ n := by
  induction n with
  | zero => simp [fndN]
  | succ n ih => simp only [fndN]; split <;> omega
theorem foundN_le (bs : List Nat) (p : Nat) : foundN bs p ≤ 1024 ∧ foundN bs p ≤ bs.length - (p + 8) := by
  have := fndN_le bs p (min 1024 (bs.length - (p + 8)))
  unfold foundN
  omega

/-- the records that stand from a place on, and where they end -/
def scanN (bs : List Nat) : Nat → Nat → List (List Nat) × Nat
  | 0, p => ([], p)
  | m + 1, p => if p + 8 < bs.length ∧ foundN bs p ≠ 0 then ((bs.drop (p + 8)).take (foundN bs p) :: (scanN bs m (p + 8 + foundN bs p)).1, (scanN bs m (p + 8 + foundN bs p)).2) else ([], p)
def recsOf (bs : List Nat) : List (List Nat) := (scanN bs bs.length 0).1
def endOf (bs : List Nat) : Nat := (scanN bs bs.length 0).2

theorem scanN_end (bs : List Nat) (m p : Nat) (h : p ≤ bs.length) : p ≤ (scanN bs m p).2 ∧ (scanN bs m p).2 ≤ bs.length := by
  induction m generalizing p with
  | zero => exact ⟨Nat.le_refl _, h⟩
  | succ m ih =>
    unfold scanN
    by_cases hc : p + 8 < bs.length ∧ foundN bs p ≠ 0
    · rw [if_pos hc]
      have h1 := foundN_le bs p
      have := ih (p + 8 + foundN bs p) (by omega)
      simp only
      omega
    · rw [if_neg hc]
      exact ⟨Nat.le_refl _, h⟩
theorem endOf_le (bs : List Nat) : endOf bs ≤ bs.length := (scanN_end bs _ 0 (Nat.zero_le _)).2

/-- what stands of records, one behind the other -/
def encN (rs : List (List Nat)) : List Nat := rs.flatMap fun r => headN r.length ++ r
theorem encN_snoc (rs : List (List Nat)) (b : List Nat) : encN (rs ++ [b]) = encN rs ++ (headN b.length ++ b) := by simp [encN]
theorem encN_nil : encN [] = [] := rfl

/-- a journal: its records, where they end, and whether it is spoilt -/
structure Jr where
  recs : List (List Nat)
  fin : Nat
  bad : Bool

/-- is a byte behind a place no 0? -/
def oddN (bs : List Nat) (p : Nat) : Bool := (bs.drop p).any (· != 0)
/-- what becomes of a disk that is opened -/
def openS (s : Dsk) : Dsk := if oddN s.nw (endOf s.nw) = true then (s.write (endOf s.nw) (List.replicate (s.nw.length - endOf s.nw) 0)).sync else s
def openR (s : Dsk) : Jr := ⟨recsOf s.nw, endOf s.nw, false⟩
/-- how many bytes the greatest record may have -/
def freeN (n : Nat) (r : Jr) : Nat := if r.bad = true then 0 else min 1024 (64 * n - r.fin - 8)
/-- may a record be appended? an error's number -/
def mayN (n : Nat) (r : Jr) (b : List Nat) : Nat := if r.bad = true then 7 else if b.length < 1 ∨ 1024 < b.length then 1 else if freeN n r < b.length then 8 else 0
def startN (n : Nat) (r : Jr) (b : List Nat) (stage : Int) : Nat := if mayN n r b = 0 then (if stage < 1 ∨ 3 < stage then 1 else 0) else mayN n r b
/-- stages of an append -/
def stgS (s : Dsk) (r : Jr) (b : List Nat) (k : Int) : Dsk :=
  let s1 := s.write (r.fin + 8) b
  let s2 := if 2 ≤ k then s1.sync else s1
  let s3 := if 3 ≤ k then s2.write r.fin (headN b.length) else s2
  if 4 ≤ k then s3.sync else s3
def stgR (r : Jr) (b : List Nat) (k : Int) : Jr := if 4 ≤ k then ⟨r.recs ++ [b], r.fin + 8 + b.length, r.bad⟩ else ⟨r.recs, r.fin, true⟩

/-- bytes are bytes -/
def Dsk.byt (s : Dsk) : Prop := (∀ x ∈ s.st, x < 256) ∧ ∀ x ∈ s.nw, x < 256
theorem putN_byt {nw : List Nat} {p : Nat} {bs : List Nat} (h : ∀ x ∈ nw, x < 256) (hb : ∀ x ∈ bs, x < 256) (i : Nat) : ∀ x ∈ putN nw p bs i, x < 256 := by
  induction i with
  | zero => exact h
  | succ i ih =>
    intro x hx
    rcases List.mem_or_eq_of_mem_set hx with h1 | rfl
    · exact ih x h1
    · by_cases hi : i < bs.length
      · exact hb _ (by simp [List.getD, hi])
      · simp [List.getD, Nat.le_of_not_lt hi]
theorem pkN_byt {st nw : List Nat} (hs : ∀ x ∈ st, x < 256) (hn : ∀ x ∈ nw, x < 256) (base : Nat) (pk : Int) (i : Nat) : ∀ x ∈ pkN st nw base pk i, x < 256 := by
  induction i with
  | zero => exact hs
  | succ i ih =>
    intro x hx
    simp only [pkN] at hx
    split at hx
    · rcases List.mem_or_eq_of_mem_set hx with h1 | rfl
      · exact ih x h1
      · by_cases hi : base + i < nw.length
        · exact hn _ (by simp [List.getD, hi])
        · simp [List.getD, Nat.le_of_not_lt hi]
    · exact ih x hx
theorem crsN_byt {st nw : List Nat} (hs : ∀ x ∈ st, x < 256) (hn : ∀ x ∈ nw, x < 256) (di : List Bool) (picks : List Int) (b : Nat) : ∀ x ∈ (crsN st nw di picks b).1, x < 256 := by
  induction b with
  | zero => exact hs
  | succ b ih =>
    intro x hx
    simp only [crsN] at hx
    split at hx
    · exact pkN_byt ih hn _ _ _ x hx
    · exact ih x hx
theorem Dsk.byt_zero (n : Nat) : (Dsk.zero n).byt := by
  constructor <;> intro x hx <;> simp [Dsk.zero] at hx <;> omega
theorem Dsk.byt_write {s : Dsk} (h : s.byt) {p : Nat} {b : List Nat} (hb : ∀ x ∈ b, x < 256) : (s.write p b).byt := ⟨h.1, putN_byt h.2 hb _⟩
theorem Dsk.byt_sync {s : Dsk} (h : s.byt) : s.sync.byt := ⟨h.2, h.2⟩
theorem Dsk.byt_crash {s : Dsk} (h : s.byt) (picks : List Int) : (s.crash picks).byt := ⟨crsN_byt h.1 h.2 _ _ _, crsN_byt h.1 h.2 _ _ _⟩
theorem byt_openS {s : Dsk} (h : s.byt) : (openS s).byt := by
  unfold openS
  split
  · exact Dsk.byt_sync (Dsk.byt_write h fun x hx => by simp at hx; omega)
  · exact h
theorem byt_stgS {s : Dsk} (h : s.byt) (r : Jr) {b : List Nat} (hb : ∀ x ∈ b, x < 256) (k : Int) : (stgS s r b k).byt := by
  have h1 : (s.write (r.fin + 8) b).byt := Dsk.byt_write h hb
  have h2 : (if 2 ≤ k then (s.write (r.fin + 8) b).sync else s.write (r.fin + 8) b).byt := by split; exact Dsk.byt_sync h1; exact h1
  unfold stgS
  simp only
  have h3 : (if 3 ≤ k then (if 2 ≤ k then (s.write (r.fin + 8) b).sync else s.write (r.fin + 8) b).write r.fin (headN b.length) else (if 2 ≤ k then (s.write (r.fin + 8) b).sync else s.write (r.fin + 8) b)).byt := by
    split
    · exact Dsk.byt_write h2 (headN_256 _)
    · exact h2
  split
  · exact Dsk.byt_sync h3
  · exact h3
end Go.Proofs.Ytehfbafocbcfnaa
