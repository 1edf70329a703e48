/- LexNumbers, walked. -/
import Derived.Test.YtnflohejjgmlnaaDoorNwA
import Derived.Test.YtnflohejjgmlnaaDoorNwB
set_option linter.unusedSimpArgs false
set_option linter.unusedVariables false
namespace Go.Proofs.YtnflohejjgmlnaaDoor
open Go.RowKit Go.Sort
theorem numbers_walk (n no sg : Int) (w : World) (hE : Env w) (n0 : 0 ≤ n) (n1 : n ≤ 4294967295) (h0 : 0 ≤ no) (h1 : no ≤ 255) (g0 : 0 ≤ sg) (g1 : sg ≤ 255) :
    Calls Tryd.prog 6 #[.int .u32 n, .int .u8 no, .int .u8 sg] w fun e w' => e = .returned (.bool true) ∧ Below w.heap.size w w' := by
  obtain ⟨u, rfl⟩ : ∃ u : Nat, n = (u : Int) := ⟨n.toNat, by omega⟩
  have hno := Int.tmod_eq_emod_of_nonneg (a := no) (b := 6) h0
  have hsg := Int.tmod_eq_emod_of_nonneg (a := sg) (b := 5) g0
  obtain ⟨z, hz⟩ : ∃ z : Nat, no.tmod 6 = (z : Int) := ⟨(no.tmod 6).toNat, by omega⟩
  have z6 : z < 6 := by omega
  have hu : u < 4294967296 := by omega
  have c5 : sg.tmod 5 = 0 ∨ sg.tmod 5 = 1 ∨ sg.tmod 5 = 2 ∨ sg.tmod 5 = 3 ∨ sg.tmod 5 = 4 := by omega
  rcases c5 with h | h | h | h | h
  · by_cases e : z = 0
    · exact nw0ok u z no sg hu z6 hz h e w hE
    · exact nw0bad u z no sg hu z6 hz h e w hE
  · by_cases e : z = 0
    · exact nw1ok u z no sg hu z6 hz h e w hE
    · exact nw1bad u z no sg hu z6 hz h e w hE
  · by_cases e : z = 0
    · exact nw2ok u z no sg hu z6 hz h e w hE
    · exact nw2bad u z no sg hu z6 hz h e w hE
  · by_cases e : z = 0
    · exact nw3ok u z no sg hu z6 hz h e w hE
    · exact nw3bad u z no sg hu z6 hz h e w hE
  · by_cases e : z = 0
    · by_cases e0 : u = 0
      · exact nw4bad0 u z no sg hu z6 hz h e e0 w hE
      · exact nw4ok u z no sg hu z6 hz h e e0 w hE
    · exact nw4bad u z no sg hu z6 hz h e w hE
end Go.Proofs.YtnflohejjgmlnaaDoor
