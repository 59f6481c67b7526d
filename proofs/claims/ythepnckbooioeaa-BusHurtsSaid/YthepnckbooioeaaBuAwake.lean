/-
  The laws' first look, walked: true, where the calls answer as is asked. Conditions: that.
-/
import Derived.Test.YthepnckbooioeaaBuCode
namespace Go.Proofs.Ythepnckbooioeaa.Bus
open Go.RowKit

set_option maxRecDepth 100000 in
set_option maxHeartbeats 4000000 in
theorem awake_true {F : Face} (C : Code F) (w : World) : Calls Try.prog 7 #[] w (Tells (.bool true) w) := by
  have CC := Lib.hid C
  clear C
  obtain ⟨f1, f2, f3, f4, f5, f6, f7, f8⟩ := first_facts
  have HS := Lib.hid (fun p ms w hx => CC.out.send p ms Bs.zero 1 bab w hx ⟨by omega, by omega⟩ (by decide))
  have HD1 := Lib.hid (fun p ms w hx => CC.out.deliver p ms x1 0 2 w hx ⟨by omega, by omega⟩ ⟨by omega, by omega⟩)
  have HD2 := Lib.hid (fun p ms w hx => CC.out.deliver p ms x2 0 2 w hx ⟨by omega, by omega⟩ ⟨by omega, by omega⟩)
  have HP := Lib.hid (fun p ms w hx => CC.out.piece p ms x2 0 w hx ⟨by omega, by omega⟩)
  have HL := Lib.hid (fun p ms w hx => CC.out.len p ms x2 w hx)
  rw [f1] at HS
  rw [f2, f3] at HD1
  rw [f4, f5] at HD2
  rw [f6] at HP
  rw [f8] at HL
  replace HS : Hid (∀ p ms w, F.At w p ms Bs.zero → Calls Try.prog 16 #[.pointer (some ⟨p, 0, none⟩), .int .i64 1, .string bab] w (Done F p ms (.int .i64 0) x1 w)) := HS
  replace HD1 : Hid (∀ p ms w, F.At w p ms x1 → Calls Try.prog 21 #[.pointer (some ⟨p, 0, none⟩), .int .i64 0, .int .i64 2] w (Done F p ms (.tuple #[.string bab, .int .i64 0]) x2 w)) := HD1
  unfold Pc.val at HP
  rw [f7] at HP
  have hb2 : bab = ⟨#[97, 98]⟩ := rfl
  rw [hb2] at HS HD1
  generalize shownP x2 0 = q at *
  generalize delS x2 0 2 = sx at *
  generalize x2 = y2 at *
  generalize x1 = y1 at *
  clear f1 f2 f3 f4 f5 f6 f7 f8 hb2
  go_enter Try.func7, Try.ntmps7
  go_wp2_with fail
  refine (CC.out.new _).mono ?_
  rintro e w1 ⟨p, ms, rfl, hx, hm, hb⟩
  have hr1 : Run F w.heap.size w w1 p ms Bs.zero := Run.first hx hm hb (Below.refl _ _) (Nat.le_refl _)
  clear hx hm hb
  go_wp2_with fail
  refine (HS.out _ _ _ hr1.at_).mono ?_
  rintro e w2 hd
  obtain ⟨rfl, ns, hr2, -, -⟩ := hr1.done hd
  clear hd hr1 HS
  go_wp2_with fail
  refine (HD1.out _ _ _ hr2.at_).mono ?_
  rintro e w3 hd
  obtain ⟨rfl, ns3, hr3, -, -⟩ := hr2.done hd
  clear hd hr2 HD1
  go_wp2_with fail
  refine (HD2.out _ _ _ hr3.at_).mono ?_
  rintro e w4 hd
  obtain ⟨rfl, ns4, hr4, -, -⟩ := hr3.done hd
  clear hd hr3 HD2
  go_wp2_with fail
  refine (HP.out _ _ _ hr4.at_).mono ?_
  rintro e w5 ⟨rfl, hb5⟩
  have hr5 := hr4.more hb5
  clear hr4 hb5 HP
  have hr6 := hr5.more ((Below.refl w5.heap.size w5).alloc (Nat.le_refl _) (Obj.cells #[Value.string q.b, Value.int .i64 q.src, Value.int .u32 4294967289, Value.bool q.hurt] 43))
  have HL6 := Lib.hid (HL.out _ _ _ hr6.at_)
  have HR6 := Lib.hid hr6.below
  clear hr5 hr6 HL
  go_wp2_with fail
  refine (HL6.out).mono ?_
  rintro e w7 ⟨rfl, rfl⟩
  go_wp2
  go_ret
  exact ⟨by simp, HR6.out⟩

end Go.Proofs.Ythepnckbooioeaa.Bus
