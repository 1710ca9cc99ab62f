/- The document's memory: Store. -/
import Derived.Test.YtblhnjoophhliaaM31
import Derived.Test.YtblhnjoophhliaaM19
namespace Go.Proofs.Ytblhnjoophhliaa
open Go.RowKit
set_option maxRecDepth 100000 in
set_option maxHeartbeats 4000000 in
theorem rStore_acc {S : Nat → Prop} {ad : Option Addr} {rs : List RB} (cap : Nat) (p v : Val) (n : Int) (w : World) (h : RefAt S w ad rs) (ha : accI (rsB rs) p n ≠ 0) :
    Calls Try.prog 20 #[.slice ad rs.length cap, valV p, .int .i64 n, valV v] w fun e w' => e = .returned (.tuple #[.slice ad rs.length cap, .int .i64 (accI (rsB rs) p n)]) ∧ w.grownBy w' none := by
  have HR := Lib.hid h
  have HACC := Lib.hid (fun W (hW : RefAt S W ad rs) => access_any cap p n W hW)
  generalize accI (rsB rs) p n = a at *
  have e0 : (a != 0) = true := by simpa using ha
  obtain ⟨pn, pb, pf⟩ := p
  obtain ⟨vn, vb, vf⟩ := v
  unfold valV valC at *
  dsimp only at *
  have HV0 := Lib.hid (P2.new w pn pb pf vn vb vf)
  clear h ha
  go_enter Try.func20, Try.ntmps20
  go_wp2_with fail
  refine (HACC.out _ (HR.out.gr HV0.out.gr)).mono ?_
  rintro e w1 ⟨rfl, g1⟩
  have HG := Lib.hid (grownBy_trans HV0.out.gr g1)
  clear g1
  go_wp2_with fail
  go_ret2
  exact ⟨rfl, HG.out⟩
set_option maxRecDepth 100000 in
set_option maxHeartbeats 4000000 in
theorem rStore_bad {S : Nat → Prop} {ad : Option Addr} {rs : List RB} (cap : Nat) (p v : Val) (n : Int) (w : World) (h : RefAt S w ad rs) (ha : accI (rsB rs) p n = 0) (hb : (ptrB v = true ∧ n ≠ 8) ∨ (ptrB v = false ∧ v.f ≠ 0 ∧ n ≠ 1)) :
    Calls Try.prog 20 #[.slice ad rs.length cap, valV p, .int .i64 n, valV v] w fun e w' => e = .returned (.tuple #[.slice ad rs.length cap, .int .i64 9]) ∧ w.grownBy w' none := by
  have HR := Lib.hid h
  have HACC := Lib.hid (fun W (hW : RefAt S W ad rs) => access_any cap p n W hW)
  rw [ha] at HACC
  obtain ⟨pn, pb, pf⟩ := p
  obtain ⟨vn, vb, vf⟩ := v
  unfold valV valC at *
  dsimp only at *
  have HV0 := Lib.hid (P2.new w pn pb pf vn vb vf)
  have HP := Lib.hid (fun W => r10_Pointer_any ⟨vn, vb, vf⟩ W)
  unfold valV valC at HP
  dsimp only at HP
  clear h ha
  rcases hb with ⟨hp, hn⟩ | ⟨hp, hf, hn⟩
  · have e8 : (n != 8) = true := by simpa using hn
    rw [hp] at HP
    clear hp hn
    go_enter Try.func20, Try.ntmps20
    go_wp2_with fail
    refine (HACC.out _ (HR.out.gr HV0.out.gr)).mono ?_
    rintro e w1 ⟨rfl, g1⟩
    have HV1 := Lib.hid (HV0.out.grown g1)
    clear g1
    obtain ⟨y0, y1, y2, z0, z1, z2⟩ := P2.r1 HV1.out
    go_wp2_with fail
    refine (HP.out _).mono ?_
    rintro e w2 ⟨rfl, g2⟩
    have HV2 := Lib.hid (HV1.out.grown g2)
    clear g2
    go_wp2_with fail
    go_ret2
    exact ⟨rfl, HV2.out.gr⟩
  · have e8 : (n != 1) = true := by simpa using hn
    have ef : (vf != 0) = true := by simpa using hf
    rw [hp] at HP
    clear hp hn hf
    go_enter Try.func20, Try.ntmps20
    go_wp2_with fail
    refine (HACC.out _ (HR.out.gr HV0.out.gr)).mono ?_
    rintro e w1 ⟨rfl, g1⟩
    have HV1 := Lib.hid (HV0.out.grown g1)
    clear g1
    obtain ⟨y0, y1, y2, z0, z1, z2⟩ := P2.r1 HV1.out
    go_wp2_with fail
    refine (HP.out _).mono ?_
    rintro e w2 ⟨rfl, g2⟩
    have HV2 := Lib.hid (HV1.out.grown g2)
    clear g2 y0 y1 y2 z0 z1 z2
    obtain ⟨y0, y1, y2, z0, z1, z2⟩ := P2.r1 HV2.out
    go_wp2_with fail
    go_ret2
    exact ⟨rfl, HV2.out.gr⟩

end Go.Proofs.Ytblhnjoophhliaa
