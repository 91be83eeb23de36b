/- The contracts asked of package disk hold of the landed body. -/
import Derived.Test.YtehfbafocbcfnaaDskNew
import Derived.Test.YtehfbafocbcfnaaDskCrash
namespace Go.Proofs.Ytehfbafocbcfnaa
open Go Go.RowKit
set_option linter.unusedVariables false

theorem disk_any : DiskC DD where
  lt := by
    rintro n F d s w ⟨g, h, m, -, rfl, H⟩ k (rfl | rfl | rfl)
    · exact H.lt.1
    · exact H.lt.2.1
    · exact H.lt.2.2
  ok := by
    rintro n F d s w ⟨g, h, m, -, -, H⟩
    exact H.ok
  keep := by
    rintro n F d s w w' X ⟨g, h, m, rfl, rfl, H⟩ ho hX
    exact ⟨g, h, m, rfl, rfl, H.only ho hX⟩
  new := fun b w hb => new_any b w hb
  size := by
    rintro n F d s w ⟨g, h, m, rfl, rfl, H⟩
    refine (size_any w H).mono ?_
    rintro e w1 ⟨rfl, rfl⟩
    exact ⟨Below.refl _ _, rfl⟩
  dirty := by
    rintro n F d s w ⟨g, h, m, rfl, rfl, H⟩
    refine (dirty_any w H).mono ?_
    rintro e w1 ⟨rfl, rfl⟩
    refine ⟨Below.refl _ _, ?_⟩
    unfold Dsk.many
    rw [H.ok.1]
  read := by
    rintro n F d s w p m ⟨g, h, t, rfl, rfl, H⟩ hp hm
    exact read_any p m w H hp hm
  write := by
    rintro n F d s w p a m c bs ⟨g, h, t, rfl, rfl, H⟩ hp hc h256 ha hmc hcm hm
    refine (write_any p a m c bs w H hp hc ha (by omega)).mono ?_
    rintro e w1 ⟨ho, h1 | h1⟩
    · exact ⟨ho, _, fun k hk => Or.inl hk, Or.inl ⟨h1.1, h1.2.1, g, h, t, rfl, rfl, h1.2.2⟩⟩
    · exact ⟨ho, _, fun k hk => Or.inl hk, Or.inr ⟨h1.1, h1.2.1, g, h, t, rfl, rfl, h1.2.2⟩⟩
  sync := by
    rintro n F d s w ⟨g, h, t, rfl, rfl, H⟩
    refine (sync_any w H).mono ?_
    rintro e w1 ⟨rfl, ho, h1⟩
    exact ⟨ho.mono fun k _ e => Or.inr (Or.inr e), _, fun k hk => Or.inl hk, rfl, g, h, t, rfl, rfl, h1⟩
  crash := by
    rintro n F d s w a m c picks ⟨g, h, t, rfl, rfl, H⟩ hel ha hmc hm
    refine (crash_any a m c picks w H hel ha hm).mono ?_
    rintro e w1 ⟨rfl, ho, h1⟩
    exact ⟨ho, _, fun k hk => Or.inl hk, rfl, g, h, t, rfl, rfl, h1⟩
end Go.Proofs.Ytehfbafocbcfnaa
