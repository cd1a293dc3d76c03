/-
  The library's slices.Clone, Sort and Compact at this program: the shelf's contracts, laid. Conditions: none.
-/
import Derived.Test.YtbnnfhpphelmfaaInternKit
import Derived.Shelf.Sort.Plain
import Derived.Shelf.Slices.In.SortNone
import Derived.Shelf.Slices.Clone
import Derived.Shelf.Slices.CompactI
namespace Go.Proofs.Ytbnnfhpphelmfaa
open Go.RowKit Go.Shelf

def srt0Ren : Ren := ⟨fun | 125 => 34 | 128 => 45 | 129 => 46 | 189 => 26 | 215 => 47 | 216 => 42 | 257 => 33 | 294 => 36 | 295 => 37 | 296 => 38 | 297 => 39 | 298 => 40 | 299 => 41 | 300 => 43 | 301 => 44 | 328 => 48 | 329 => 49 | 330 => 50 | 331 => 51 | 332 => 52 | 343 => 53 | n => n, fun | 0 => 0 | 3 => 3 | 4 => 4 | 5 => 5 | 9 => 9 | 28 => 22 | 46 => 60 | 51 => 74 | 53 => 63 | 131 => 38 | 182 => 66 | 183 => 67 | 218 => 76 | 222 => 80 | 228 => 82 | 229 => 83 | n => n, fun n => n⟩

theorem srt0Lays : Lays.n189 Try.prog srt0Ren :=
  { mixed := by kernel_rfl
    f125 := by kernel_rfl
    f128 := by kernel_rfl
    f129 := by kernel_rfl
    f189 := by kernel_rfl
    f215 := by kernel_rfl
    f216 := by kernel_rfl
    f257 := by kernel_rfl
    f294 := by kernel_rfl
    f295 := by kernel_rfl
    f296 := by kernel_rfl
    f297 := by kernel_rfl
    f298 := by kernel_rfl
    f299 := by kernel_rfl
    f300 := by kernel_rfl
    f301 := by kernel_rfl
    f328 := by kernel_rfl
    f329 := by kernel_rfl
    f330 := by kernel_rfl
    f331 := by kernel_rfl
    f332 := by kernel_rfl
    f343 := by kernel_rfl
    t0 := by kernel_rfl
    a0 := fun _ => by kernel_rfl
    z0 := fun _ => by kernel_rfl
    v0 := fun _ => by kernel_rfl
    t3 := by kernel_rfl
    a3 := fun _ => by kernel_rfl
    z3 := fun _ => by kernel_rfl
    v3 := fun _ => by kernel_rfl
    t4 := by kernel_rfl
    a4 := fun _ => by kernel_rfl
    z4 := fun _ => by kernel_rfl
    v4 := fun _ => by kernel_rfl
    t5 := by kernel_rfl
    a5 := fun _ => by kernel_rfl
    z5 := fun _ => by kernel_rfl
    v5 := fun _ => by kernel_rfl
    t9 := by kernel_rfl
    a9 := fun _ => by kernel_rfl
    z9 := fun _ => by kernel_rfl
    v9 := fun _ => by kernel_rfl
    t28 := by kernel_rfl
    a28 := fun _ => by kernel_rfl
    z28 := fun _ => by kernel_rfl
    v28 := fun _ => by kernel_rfl
    t46 := by kernel_rfl
    a46 := fun _ => by kernel_rfl
    z46 := fun _ => by kernel_rfl
    v46 := fun _ => by kernel_rfl
    t51 := by kernel_rfl
    a51 := fun _ => by kernel_rfl
    z51 := fun _ => by kernel_rfl
    v51 := fun _ => by kernel_rfl
    t53 := by kernel_rfl
    a53 := fun _ => by kernel_rfl
    z53 := fun _ => by kernel_rfl
    v53 := fun _ => by kernel_rfl
    t131 := by kernel_rfl
    a131 := fun _ => by kernel_rfl
    z131 := fun _ => by kernel_rfl
    v131 := fun _ => by kernel_rfl
    t182 := by kernel_rfl
    a182 := fun _ => by kernel_rfl
    z182 := fun _ => by kernel_rfl
    v182 := fun _ => by kernel_rfl
    t183 := by kernel_rfl
    a183 := fun _ => by kernel_rfl
    z183 := fun _ => by kernel_rfl
    v183 := fun _ => by kernel_rfl
    t218 := by kernel_rfl
    a218 := fun _ => by kernel_rfl
    z218 := fun _ => by kernel_rfl
    v218 := fun _ => by kernel_rfl
    t222 := by kernel_rfl
    a222 := fun _ => by kernel_rfl
    z222 := fun _ => by kernel_rfl
    v222 := fun _ => by kernel_rfl
    t228 := by kernel_rfl
    a228 := fun _ => by kernel_rfl
    z228 := fun _ => by kernel_rfl
    v228 := fun _ => by kernel_rfl
    t229 := by kernel_rfl
    a229 := fun _ => by kernel_rfl
    z229 := fun _ => by kernel_rfl
    v229 := fun _ => by kernel_rfl }

def clone0Ren : Ren := ⟨fun | 15 => 25 | n => n, fun | 3 => 3 | 4 => 4 | 22 => 22 | n => n, fun n => n⟩

theorem clone0Lays : Lays2.n15 Try.prog clone0Ren :=
  { mixed := by kernel_rfl
    f15 := by kernel_rfl
    t3 := by kernel_rfl
    a3 := fun _ => by kernel_rfl
    z3 := fun _ => by kernel_rfl
    v3 := fun _ => by kernel_rfl
    t4 := by kernel_rfl
    a4 := fun _ => by kernel_rfl
    z4 := fun _ => by kernel_rfl
    v4 := fun _ => by kernel_rfl
    t22 := by kernel_rfl
    a22 := fun _ => by kernel_rfl
    z22 := fun _ => by kernel_rfl
    v22 := fun _ => by kernel_rfl
    i3 := by kernel_rfl }

def compact0Ren : Ren := ⟨fun | 20 => 27 | n => n, fun | 0 => 0 | 3 => 3 | 4 => 4 | 22 => 22 | n => n, fun n => n⟩

theorem compact0Lays : Lays2.n20 Try.prog compact0Ren :=
  { mixed := by kernel_rfl
    f20 := by kernel_rfl
    t0 := by kernel_rfl
    a0 := fun _ => by kernel_rfl
    z0 := fun _ => by kernel_rfl
    v0 := fun _ => by kernel_rfl
    t3 := by kernel_rfl
    a3 := fun _ => by kernel_rfl
    z3 := fun _ => by kernel_rfl
    v3 := fun _ => by kernel_rfl
    t4 := by kernel_rfl
    a4 := fun _ => by kernel_rfl
    z4 := fun _ => by kernel_rfl
    v4 := fun _ => by kernel_rfl
    t22 := by kernel_rfl
    a22 := fun _ => by kernel_rfl
    z22 := fun _ => by kernel_rfl
    v22 := fun _ => by kernel_rfl
    i3 := by kernel_rfl }
end Go.Proofs.Ytbnnfhpphelmfaa
