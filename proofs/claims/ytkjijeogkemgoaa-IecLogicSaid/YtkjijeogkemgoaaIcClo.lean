/-
  The closures of the laws IecRings and IecLogic, walked. Conditions: that the calls answer as is asked.
-/
import Derived.Test.YtkjijeogkemgoaaIcDoesW
import Derived.Test.YtkjijeogkemgoaaIcRing
namespace Go.Proofs.Ytkjijeogkemgoaa.Ic
open Go.RowKit

/-- The law's kind, and whether all was fine, in blocks of its own. -/
structure Rg (B : Base) (N : Nat) (w0 w : World) (k : Int) (pk pf : Nat) : Prop where
  cur : Cur B N w0 w
  ck : w.cell? ⟨pk, 0, none⟩ = some (.int .i64 k)
  cf : w.cell? ⟨pf, 0, none⟩ = some (.bool true)
  ff : w.frozen? ⟨pf, 0, none⟩ = false
  gf : N ≤ pf
  ne : pk ≠ pf
theorem Rg.next {B : Base} {N pk pf : Nat} {w0 w w' : World} {k : Int} (h : Rg B N w0 w k pk pf) (hb : Below w.heap.size w w') : Rg B N w0 w' k pk pf :=
  ⟨h.cur.next hb, kept1 h.ck hb, kept1 h.cf hb, (World.frozen?_of_block (a := ⟨pf, 0, none⟩) (hb.block pf (World.block_lt_of_cell? w ⟨pf, 0, none⟩ h.cf))).trans h.ff, h.gf, h.ne⟩
theorem Rg.drew {B : Base} {N pk pf : Nat} {w0 w : World} {k : Int} (h : Rg B N w0 w k pk pf) : Rg B N w0 w.drew k pk pf := h.next (Below.refl _ _).drew
theorem Rg.store {B : Base} {N pk pf : Nat} {w0 w : World} {k : Int} (h : Rg B N w0 w k pk pf) : Rg B N w0 (w.setCell ⟨pf, 0, none⟩ (.bool true)) k pk pf := by
  have hb : Below N w (w.setCell ⟨pf, 0, none⟩ (.bool true)) := (Below.refl N w).setCell (p := ⟨pf, 0, none⟩) h.gf _
  refine ⟨⟨B.next h.cur.e hb, h.cur.below.trans hb, by have := h.cur.size; simpa [World.setCell] using this⟩, ?_, World.cell?_setCell_same _ _ _ h.cf, (World.frozen?_setCell _ _ _ _).trans h.ff, h.gf, h.ne⟩
  rw [World.cell?_setCell_other _ _ _ _ (by intro e; injection e with e1; exact h.ne e1.symm)]
  exact h.ck

set_option maxRecDepth 100000 in
set_option maxHeartbeats 4000000 in
theorem ring_clo {B : Base} (C : Code B) {N pk pf : Nat} {w0 w : World} {k : Int} (hR : Rg B N w0 w k pk pf) (op x y v : Int) (hk : I64 k) (ho : 0 ≤ op ∧ op ≤ 100) (hm : mayI op k = true) (h13 : op ≠ 13) (hx : isI k x = true) (hy : isI k y = true) (hv : doV op k x y = v) (hi : isI k v = true) :
    Calls Try.prog 30 #[.int .i64 op, .int .i64 x, .int .i64 y, .pointer (some ⟨pk, 0, none⟩), .pointer (some ⟨pf, 0, none⟩)] w fun e w' => e = .returned (.int .i64 v) ∧ Rg B N w0 w' k pk pf := by
  have CC := Lib.hid C
  have HR := Lib.hid hR
  obtain ⟨e1, e2⟩ := do_fine hm h13 hx hy
  have bx := is_bd hx
  have by_ := is_bd hy
  have bv := is_bd hi
  have HD := Lib.hid (show Calls Try.prog 19 #[.int .i64 op, .int .i64 k, .int .i64 x, .int .i64 y] w (Tells (.tuple #[.int .i64 v, .int .i64 0]) w) from by
    have := C.do_ N op k x y w hR.cur.e hR.cur.size (by unfold I64; omega) hk (by unfold I64; omega) (by unfold I64; omega)
    rw [e1, e2, hv] at this
    exact this)
  have HI := Lib.hid (fun W (h : Rg B N w0 W k pk pf) => show Calls Try.prog 15 #[.int .i64 k, .int .i64 v] W (Tells (.bool true) W) from by
    have := C.is_ N k v W h.cur.e h.cur.size hk (by unfold I64; omega)
    rw [hi] at this
    exact this)
  have ck := hR.ck
  clear C hR ho hm h13 hx hy hv hi e1 e2 bx by_ bv hk
  go_enter Try.func30, Try.ntmps30
  go_wp2_with fail
  refine (HD.out).mono ?_
  rintro e w1 ⟨rfl, hb1⟩
  have HR1 := Lib.hid (HR.out.next hb1)
  clear hb1 HR HD ck
  have ck := HR1.out.ck
  have cf := HR1.out.cf
  go_wp2_with fail
  refine (HI.out _ HR1.out).mono ?_
  rintro e w2 ⟨rfl, hb2⟩
  have HR2 := Lib.hid (HR1.out.next hb2)
  clear hb2 HR1 ck cf
  have cf := HR2.out.cf
  have ff := HR2.out.ff
  go_wp2
  go_ret
  exact ⟨rfl, HR2.out.store⟩

/-- The law's kind in a block of its own. -/
structure Lg (B : Base) (N : Nat) (w0 w : World) (k : Int) (pk : Nat) : Prop where
  cur : Cur B N w0 w
  ck : w.cell? ⟨pk, 0, none⟩ = some (.int .i64 k)
theorem Lg.next {B : Base} {N pk : Nat} {w0 w w' : World} {k : Int} (h : Lg B N w0 w k pk) (hb : Below w.heap.size w w') : Lg B N w0 w' k pk :=
  ⟨h.cur.next hb, kept1 h.ck hb⟩
theorem Lg.drew {B : Base} {N pk : Nat} {w0 w : World} {k : Int} (h : Lg B N w0 w k pk) : Lg B N w0 w.drew k pk := h.next (Below.refl _ _).drew

set_option maxRecDepth 100000 in
set_option maxHeartbeats 4000000 in
theorem log_clo {B : Base} (C : Code B) {N pk : Nat} {w0 w : World} {k : Int} (hR : Lg B N w0 w k pk) (op x y v : Int) (hk : I64 k) (ho : 0 ≤ op ∧ op ≤ 100) (hm : mayI op k = true) (h13 : op ≠ 13) (hx : isI k x = true) (hy : isI k y = true) (hv : doV op k x y = v) :
    Calls Try.prog 31 #[.int .i64 op, .int .i64 x, .int .i64 y, .pointer (some ⟨pk, 0, none⟩)] w fun e w' => e = .returned (.int .i64 v) ∧ Below w.heap.size w w' := by
  obtain ⟨e1, e2⟩ := do_fine hm h13 hx hy
  have bx := is_bd hx
  have by_ := is_bd hy
  have HD := Lib.hid (show Calls Try.prog 19 #[.int .i64 op, .int .i64 k, .int .i64 x, .int .i64 y] w (Tells (.tuple #[.int .i64 v, .int .i64 0]) w) from by
    have := C.do_ N op k x y w hR.cur.e hR.cur.size (by unfold I64; omega) hk (by unfold I64; omega) (by unfold I64; omega)
    rw [e1, e2, hv] at this
    exact this)
  have ck := hR.ck
  clear C hR ho hm h13 hx hy hv e1 e2 bx by_ hk
  go_enter Try.func31, Try.ntmps31
  go_wp2_with fail
  refine (HD.out).mono ?_
  rintro e w1 ⟨rfl, hb1⟩
  clear HD ck
  go_wp2
  go_ret
  exact ⟨rfl, hb1⟩

end Go.Proofs.Ytkjijeogkemgoaa.Ic
