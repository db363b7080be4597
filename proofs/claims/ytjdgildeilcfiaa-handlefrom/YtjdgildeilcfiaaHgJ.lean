/- What do answers. -/
import Derived.Test.YtjdgildeilcfiaaHgC
import Derived.Test.YtjdgildeilcfiaaHgD
import Derived.Test.YtjdgildeilcfiaaHgE
import Derived.Test.YtjdgildeilcfiaaHgF
import Derived.Test.YtjdgildeilcfiaaHgG
import Derived.Test.YtjdgildeilcfiaaHgH
import Derived.Test.YtjdgildeilcfiaaHgI
namespace Go.Proofs.Ytjdgildeilcfiaa
open Go.RowKit
set_option linter.unusedVariables false

theorem do_any (w wr : World) (b : Nat) (a : Option Addr) (c mb mg n : Nat) (L : List Rw) (pb : Nat) (ah : Option Addr) (ch : Nat) (M : List Nat) (kd cn : Int) (hh : Nat) (k2 pl : Int) (hT : Tw w wr b a c mb mg n L L pb ah ch M) (hH0 : hh < 18446744073709551616) (hM : M.length ≤ 100000) :
    Calls Try.prog 12 #[.pointer (some ⟨b, 0, none⟩), .pointer (some ⟨mb, 0, none⟩), .agg #[.int .i64 kd, .int .i64 cn, .int .u64 (hh : Nat), .int .i64 k2, .int .i64 pl], .pointer (some ⟨pb, 0, none⟩)] wr (DoPost w b mb mg n pb M) := by
  by_cases g : kd < 5
  · by_cases g1 : kd = 1
    · exact do_make w wr b a c mb mg n L pb ah ch M kd cn hh k2 pl hT hH0 hM g1
    · by_cases g2 : kd = 2
      · exact do_get w wr b a c mb mg n L pb ah ch M kd cn hh k2 pl hT hH0 hM g2
      · by_cases g3 : kd = 3
        · exact do_put w wr b a c mb mg n L pb ah ch M kd cn hh k2 pl hT hH0 hM g3
        · by_cases g4 : kd = 4
          · exact do_drop w wr b a c mb mg n L pb ah ch M kd cn hh k2 pl hT hH0 hM g4
          · exact do_else w wr b a c mb mg n L pb ah ch M kd cn hh k2 pl hT hH0 hM g g1 g2 g3 g4
  · by_cases z : M.length = 0
    · by_cases g1 : kd = 5
      · exact do_get_none w wr b a c mb mg n L pb ah ch M kd cn hh k2 pl hT hH0 hM g1 z
      · by_cases g2 : kd = 6
        · exact do_put_none w wr b a c mb mg n L pb ah ch M kd cn hh k2 pl hT hH0 hM g2 z
        · by_cases g3 : kd = 7
          · exact do_drop_none w wr b a c mb mg n L pb ah ch M kd cn hh k2 pl hT hH0 hM g3 z
          · exact do_else_none w wr b a c mb mg n L pb ah ch M kd cn hh k2 pl hT hH0 hM (by omega) z
    · by_cases g1 : kd = 5
      · exact do_get_made w wr b a c mb mg n L pb ah ch M kd cn hh k2 pl hT hH0 hM g1 (by omega)
      · by_cases g2 : kd = 6
        · exact do_put_made w wr b a c mb mg n L pb ah ch M kd cn hh k2 pl hT hH0 hM g2 (by omega)
        · by_cases g3 : kd = 7
          · exact do_drop_made w wr b a c mb mg n L pb ah ch M kd cn hh k2 pl hT hH0 hM g3 (by omega)
          · exact do_else_made w wr b a c mb mg n L pb ah ch M kd cn hh k2 pl hT hH0 hM (by omega) (by omega)
end Go.Proofs.Ytjdgildeilcfiaa
