/-
  Layer 1: the library's functions that lex calls. Written by an AI agent.
-/
import Derived.Test.YtgelggdgbmldiaaDoorLxG
import Derived.Shelf.Lay
import Derived.Ground.NamesProg
import Derived.Shelf.Strings.Prefix
import Derived.Shelf.Small.Strs
import Derived.Shelf.Strings.Count
import Derived.Shelf.Strconv.ErrVarParseInt
namespace Go.Proofs.YtgelggdgbmldiaaDoor
open Go.RowKit Go.Shelf
set_option linter.unusedVariables false
set_option linter.unusedSimpArgs false

shelf_lay Lays.n99 Nm 99 at Tryd as laysPrefix
shelf_lay Lays.n137 Nm 137 at Tryd as laysIndexByte
shelf_lay Lays.n138 Nm 138 at Tryd as laysCount
shelf_lay LaysC.n174 Nm 174 at Tryd as laysParseInt

theorem prefix_any (s p : ByteArray) (w : World) : Calls Tryd.prog 44 #[.string s, .string p] w fun e w' => e = .returned (.bool (p.data.toList.isPrefixOf s.data.toList)) ∧ w' = w :=
  Any.strings_HasPrefix laysPrefix s p w
theorem index_any (s : ByteArray) (c : UInt8) (w : World) : Calls Tryd.prog 45 #[.string s, .int .u8 (c.toNat : Int)] w fun e w' => e = .returned (.int .i64 (Lib.indexByte s.data.toList c)) ∧ w' = w := by
  have h := Any.strings_IndexByte laysIndexByte s (c.toNat : Int) w
  rw [show ((c.toNat : Int)).toNat.toUInt8 = c by simp] at h
  exact h
theorem count_any (s : ByteArray) (c : UInt8) (w : World) : Calls Tryd.prog 109 #[.string s, .string ⟨#[c]⟩] w fun e w' => e = .returned (.int .i64 (s.data.toList.count c)) ∧ w' = w :=
  Any.strings_Count_one laysCount s c w

end Go.Proofs.YtgelggdgbmldiaaDoor
