/-
  The laws' act on the code's bus, and on the reference's, walked: what both answer and leave is the same. Conditions: that the calls answer as is asked.
-/
import Derived.Test.YthepnckbooioeaaBuActs
namespace Go.Proofs.Ythepnckbooioeaa.Bus
open Go.RowKit

def doX (x : Bs) (y : Ac) : Bs :=
  if y.a % 7 = 0 then sendX x y.at_ y.s else if y.a % 7 = 1 then delX x y.k y.at_ else if y.a % 7 = 2 then delX x y.k y.at_ else if y.a % 7 = 3 then dropX x y.k
  else if y.a % 7 = 4 then twiceX x y.k else if y.a % 7 = 5 then hurX x y.k y.at_ y.pat else cutX x y.k y.at_
def doE (x : Bs) (y : Ac) : Int :=
  if y.a % 7 = 0 then sendE x y.at_ y.s else if y.a % 7 = 1 then delE x y.k y.at_ else if y.a % 7 = 2 then delE x y.k y.at_ else if y.a % 7 = 3 then dropE x y.k
  else if y.a % 7 = 4 then twiceE x y.k else if y.a % 7 = 5 then hurE x y.k else cutE x y.k y.at_
def doS (x : Bs) (y : Ac) : ByteArray := if y.a % 7 = 1 then delS x y.k y.at_ else ⟨#[]⟩

theorem Done.from {F : Face} {p : Nat} {ms : List Nat} {v : Value} {x : Bs} {w w1 w2 : World} {e : Ending} (hb : Below w.heap.size w w1) (h : Done F p ms v x w1 e w2) : ∃ ns, F.At w2 p ns x ∧ OnlyL ms w w2 ∧ ∀ j ∈ ns, j ∈ ms ∨ w.heap.size ≤ j := by
  obtain ⟨_, ns, h1, h2, h3⟩ := Done.after hb h
  exact ⟨ns, h1, h2, h3⟩

set_option maxRecDepth 100000 in
set_option maxHeartbeats 4000000 in
theorem do0 {F : Face} (C : Code F) (p : Nat) (ms : List Nat) (x : Bs) (y : Ac) (w : World) (hx : F.At w p ms x) (hy : y.Fit) (hc : y.a % 7 = 0) :
    Calls Try.prog 10 #[.pointer (some ⟨p, 0, none⟩), .agg #[.int .u8 y.a, .int .i64 y.k, .int .i64 y.at_, .int .u16 (y.pat.toNat : Int), .string y.s]] w (Done F p ms (.tuple #[.string ⟨#[]⟩, .int .i64 (sendE x y.at_ y.s)]) (sendX x y.at_ y.s) w) := by
  obtain ⟨h0, h1, h2, hs⟩ := hy
  have HA := Lib.hid (ActAt.new w y 33)
  have hb := alloc_below w (.cells #[.int .u8 y.a, .int .i64 y.k, .int .i64 y.at_, .int .u16 (y.pat.toNat : Int), .string y.s] 33)
  have HB := Lib.hid hb
  have HC := Lib.hid (C.send p ms x y.at_ y.s _ (Face.below hx hb) h2 hs)
  have t0 : ((y.a : Int) % 7 == 0) = true := by rw [beq_iff_eq]; omega
  clear hx hb h1 h2 hs hc C
  go_enter Try.func10, Try.ntmps10
  go_wp2_with fail
  refine (HC.out).mono ?_
  rintro e w2 hd
  obtain ⟨rfl, -⟩ := id hd
  have HD := Lib.hid (Done.from HB.out hd)
  clear hd HC HA
  go_wp2
  go_ret2
  exact ⟨rfl, HD.out⟩

set_option maxRecDepth 100000 in
set_option maxHeartbeats 4000000 in
theorem do1 {F : Face} (C : Code F) (p : Nat) (ms : List Nat) (x : Bs) (y : Ac) (w : World) (hx : F.At w p ms x) (hy : y.Fit) (hc : y.a % 7 = 1) :
    Calls Try.prog 10 #[.pointer (some ⟨p, 0, none⟩), .agg #[.int .u8 y.a, .int .i64 y.k, .int .i64 y.at_, .int .u16 (y.pat.toNat : Int), .string y.s]] w (Done F p ms (.tuple #[.string (delS x y.k y.at_), .int .i64 (delE x y.k y.at_)]) (delX x y.k y.at_) w) := by
  obtain ⟨h0, h1, h2, hs⟩ := hy
  have HA := Lib.hid (ActAt.new w y 33)
  have hb := alloc_below w (.cells #[.int .u8 y.a, .int .i64 y.k, .int .i64 y.at_, .int .u16 (y.pat.toNat : Int), .string y.s] 33)
  have HB := Lib.hid hb
  have HC := Lib.hid (C.deliver p ms x y.k y.at_ _ (Face.below hx hb) h1 h2)
  have t0 : ((y.a : Int) % 7 == 0) = false := by rw [beq_eq_false_iff_ne]; omega
  have t1 : ((y.a : Int) % 7 == 1) = true := by rw [beq_iff_eq]; omega
  clear hx hb h1 h2 hs hc C
  go_enter Try.func10, Try.ntmps10
  go_wp2_with fail
  refine (HC.out).mono ?_
  rintro e w2 hd
  obtain ⟨rfl, -⟩ := id hd
  have HD := Lib.hid (Done.from HB.out hd)
  clear hd HC HA
  go_wp2
  go_ret2
  exact ⟨rfl, HD.out⟩

set_option maxRecDepth 100000 in
set_option maxHeartbeats 4000000 in
theorem do2 {F : Face} (C : Code F) (p : Nat) (ms : List Nat) (x : Bs) (y : Ac) (w : World) (hx : F.At w p ms x) (hy : y.Fit) (hc : y.a % 7 = 2) :
    Calls Try.prog 10 #[.pointer (some ⟨p, 0, none⟩), .agg #[.int .u8 y.a, .int .i64 y.k, .int .i64 y.at_, .int .u16 (y.pat.toNat : Int), .string y.s]] w (Done F p ms (.tuple #[.string ⟨#[]⟩, .int .i64 (delE x y.k y.at_)]) (delX x y.k y.at_) w) := by
  obtain ⟨h0, h1, h2, hs⟩ := hy
  have HA := Lib.hid (ActAt.new w y 33)
  have hb := alloc_below w (.cells #[.int .u8 y.a, .int .i64 y.k, .int .i64 y.at_, .int .u16 (y.pat.toNat : Int), .string y.s] 33)
  have HB := Lib.hid hb
  have HC := Lib.hid (C.lose p ms x y.k y.at_ _ (Face.below hx hb) h1 h2)
  have t0 : ((y.a : Int) % 7 == 0) = false := by rw [beq_eq_false_iff_ne]; omega
  have t1 : ((y.a : Int) % 7 == 1) = false := by rw [beq_eq_false_iff_ne]; omega
  have t2 : ((y.a : Int) % 7 == 2) = true := by rw [beq_iff_eq]; omega
  clear hx hb h1 h2 hs hc C
  go_enter Try.func10, Try.ntmps10
  go_wp2_with fail
  refine (HC.out).mono ?_
  rintro e w2 hd
  obtain ⟨rfl, -⟩ := id hd
  have HD := Lib.hid (Done.from HB.out hd)
  clear hd HC HA
  go_wp2
  go_ret2
  exact ⟨rfl, HD.out⟩

set_option maxRecDepth 100000 in
set_option maxHeartbeats 4000000 in
theorem do3 {F : Face} (C : Code F) (p : Nat) (ms : List Nat) (x : Bs) (y : Ac) (w : World) (hx : F.At w p ms x) (hy : y.Fit) (hc : y.a % 7 = 3) :
    Calls Try.prog 10 #[.pointer (some ⟨p, 0, none⟩), .agg #[.int .u8 y.a, .int .i64 y.k, .int .i64 y.at_, .int .u16 (y.pat.toNat : Int), .string y.s]] w (Done F p ms (.tuple #[.string ⟨#[]⟩, .int .i64 (dropE x y.k)]) (dropX x y.k) w) := by
  obtain ⟨h0, h1, h2, hs⟩ := hy
  have HA := Lib.hid (ActAt.new w y 33)
  have hb := alloc_below w (.cells #[.int .u8 y.a, .int .i64 y.k, .int .i64 y.at_, .int .u16 (y.pat.toNat : Int), .string y.s] 33)
  have HB := Lib.hid hb
  have HC := Lib.hid (C.drop p ms x y.k _ (Face.below hx hb) h1)
  have t0 : ((y.a : Int) % 7 == 0) = false := by rw [beq_eq_false_iff_ne]; omega
  have t1 : ((y.a : Int) % 7 == 1) = false := by rw [beq_eq_false_iff_ne]; omega
  have t2 : ((y.a : Int) % 7 == 2) = false := by rw [beq_eq_false_iff_ne]; omega
  have t3 : ((y.a : Int) % 7 == 3) = true := by rw [beq_iff_eq]; omega
  clear hx hb h1 h2 hs hc C
  go_enter Try.func10, Try.ntmps10
  go_wp2_with fail
  refine (HC.out).mono ?_
  rintro e w2 hd
  obtain ⟨rfl, -⟩ := id hd
  have HD := Lib.hid (Done.from HB.out hd)
  clear hd HC HA
  go_wp2
  go_ret2
  exact ⟨rfl, HD.out⟩

set_option maxRecDepth 100000 in
set_option maxHeartbeats 4000000 in
theorem do4 {F : Face} (C : Code F) (p : Nat) (ms : List Nat) (x : Bs) (y : Ac) (w : World) (hx : F.At w p ms x) (hy : y.Fit) (hc : y.a % 7 = 4) :
    Calls Try.prog 10 #[.pointer (some ⟨p, 0, none⟩), .agg #[.int .u8 y.a, .int .i64 y.k, .int .i64 y.at_, .int .u16 (y.pat.toNat : Int), .string y.s]] w (Done F p ms (.tuple #[.string ⟨#[]⟩, .int .i64 (twiceE x y.k)]) (twiceX x y.k) w) := by
  obtain ⟨h0, h1, h2, hs⟩ := hy
  have HA := Lib.hid (ActAt.new w y 33)
  have hb := alloc_below w (.cells #[.int .u8 y.a, .int .i64 y.k, .int .i64 y.at_, .int .u16 (y.pat.toNat : Int), .string y.s] 33)
  have HB := Lib.hid hb
  have HC := Lib.hid (C.twice p ms x y.k _ (Face.below hx hb) h1)
  have t0 : ((y.a : Int) % 7 == 0) = false := by rw [beq_eq_false_iff_ne]; omega
  have t1 : ((y.a : Int) % 7 == 1) = false := by rw [beq_eq_false_iff_ne]; omega
  have t2 : ((y.a : Int) % 7 == 2) = false := by rw [beq_eq_false_iff_ne]; omega
  have t3 : ((y.a : Int) % 7 == 3) = false := by rw [beq_eq_false_iff_ne]; omega
  have t4 : ((y.a : Int) % 7 == 4) = true := by rw [beq_iff_eq]; omega
  clear hx hb h1 h2 hs hc C
  go_enter Try.func10, Try.ntmps10
  go_wp2_with fail
  refine (HC.out).mono ?_
  rintro e w2 hd
  obtain ⟨rfl, -⟩ := id hd
  have HD := Lib.hid (Done.from HB.out hd)
  clear hd HC HA
  go_wp2
  go_ret2
  exact ⟨rfl, HD.out⟩

set_option maxRecDepth 100000 in
set_option maxHeartbeats 4000000 in
theorem do5 {F : Face} (C : Code F) (p : Nat) (ms : List Nat) (x : Bs) (y : Ac) (w : World) (hx : F.At w p ms x) (hy : y.Fit) (hc : y.a % 7 = 5) :
    Calls Try.prog 10 #[.pointer (some ⟨p, 0, none⟩), .agg #[.int .u8 y.a, .int .i64 y.k, .int .i64 y.at_, .int .u16 (y.pat.toNat : Int), .string y.s]] w (Done F p ms (.tuple #[.string ⟨#[]⟩, .int .i64 (hurE x y.k)]) (hurX x y.k y.at_ y.pat) w) := by
  obtain ⟨h0, h1, h2, hs⟩ := hy
  have HA := Lib.hid (ActAt.new w y 33)
  have hb := alloc_below w (.cells #[.int .u8 y.a, .int .i64 y.k, .int .i64 y.at_, .int .u16 (y.pat.toNat : Int), .string y.s] 33)
  have HB := Lib.hid hb
  have HC := Lib.hid (C.burst p ms x y.k y.at_ y.pat _ (Face.below hx hb) h1 h2)
  have t0 : ((y.a : Int) % 7 == 0) = false := by rw [beq_eq_false_iff_ne]; omega
  have t1 : ((y.a : Int) % 7 == 1) = false := by rw [beq_eq_false_iff_ne]; omega
  have t2 : ((y.a : Int) % 7 == 2) = false := by rw [beq_eq_false_iff_ne]; omega
  have t3 : ((y.a : Int) % 7 == 3) = false := by rw [beq_eq_false_iff_ne]; omega
  have t4 : ((y.a : Int) % 7 == 4) = false := by rw [beq_eq_false_iff_ne]; omega
  have t5 : ((y.a : Int) % 7 == 5) = true := by rw [beq_iff_eq]; omega
  clear hx hb h1 h2 hs hc C
  go_enter Try.func10, Try.ntmps10
  go_wp2_with fail
  refine (HC.out).mono ?_
  rintro e w2 hd
  obtain ⟨rfl, -⟩ := id hd
  have HD := Lib.hid (Done.from HB.out hd)
  clear hd HC HA
  go_wp2
  go_ret2
  exact ⟨rfl, HD.out⟩

set_option maxRecDepth 100000 in
set_option maxHeartbeats 4000000 in
theorem do6 {F : Face} (C : Code F) (p : Nat) (ms : List Nat) (x : Bs) (y : Ac) (w : World) (hx : F.At w p ms x) (hy : y.Fit) (hc : y.a % 7 = 6) :
    Calls Try.prog 10 #[.pointer (some ⟨p, 0, none⟩), .agg #[.int .u8 y.a, .int .i64 y.k, .int .i64 y.at_, .int .u16 (y.pat.toNat : Int), .string y.s]] w (Done F p ms (.tuple #[.string ⟨#[]⟩, .int .i64 (cutE x y.k y.at_)]) (cutX x y.k y.at_) w) := by
  obtain ⟨h0, h1, h2, hs⟩ := hy
  have HA := Lib.hid (ActAt.new w y 33)
  have hb := alloc_below w (.cells #[.int .u8 y.a, .int .i64 y.k, .int .i64 y.at_, .int .u16 (y.pat.toNat : Int), .string y.s] 33)
  have HB := Lib.hid hb
  have HC := Lib.hid (C.cut p ms x y.k y.at_ _ (Face.below hx hb) h1 h2)
  have t0 : ((y.a : Int) % 7 == 0) = false := by rw [beq_eq_false_iff_ne]; omega
  have t1 : ((y.a : Int) % 7 == 1) = false := by rw [beq_eq_false_iff_ne]; omega
  have t2 : ((y.a : Int) % 7 == 2) = false := by rw [beq_eq_false_iff_ne]; omega
  have t3 : ((y.a : Int) % 7 == 3) = false := by rw [beq_eq_false_iff_ne]; omega
  have t4 : ((y.a : Int) % 7 == 4) = false := by rw [beq_eq_false_iff_ne]; omega
  have t5 : ((y.a : Int) % 7 == 5) = false := by rw [beq_eq_false_iff_ne]; omega
  clear hx hb h1 h2 hs hc C
  go_enter Try.func10, Try.ntmps10
  go_wp2_with fail
  refine (HC.out).mono ?_
  rintro e w2 hd
  obtain ⟨rfl, -⟩ := id hd
  have HD := Lib.hid (Done.from HB.out hd)
  clear hd HC HA
  go_wp2
  go_ret2
  exact ⟨rfl, HD.out⟩

set_option maxRecDepth 100000 in
set_option maxHeartbeats 4000000 in
theorem rdo0 (p : Nat) (ms : List Nat) (x : Bs) (y : Ac) (w : World) (hx : RefAt w p ms x) (hy : y.Fit) (hc : y.a % 7 = 0) :
    Calls Try.prog 11 #[.pointer (some ⟨p, 0, none⟩), .agg #[.int .u8 y.a, .int .i64 y.k, .int .i64 y.at_, .int .u16 (y.pat.toNat : Int), .string y.s]] w (Done refFace p ms (.tuple #[.string ⟨#[]⟩, .int .i64 (sendE x y.at_ y.s)]) (sendX x y.at_ y.s) w) := by
  obtain ⟨h0, h1, h2, hs⟩ := hy
  have HA := Lib.hid (ActAt.new w y 33)
  have hb := alloc_below w (.cells #[.int .u8 y.a, .int .i64 y.k, .int .i64 y.at_, .int .u16 (y.pat.toNat : Int), .string y.s] 33)
  have HB := Lib.hid hb
  have HC := Lib.hid (rSend_any p ms x y.at_ y.s _ (Face.below (F := refFace) hx hb))
  have t0 : ((y.a : Int) % 7 == 0) = true := by rw [beq_iff_eq]; omega
  clear hx hb h1 h2 hs hc
  go_enter Try.func11, Try.ntmps11
  go_wp2_with fail
  refine (HC.out).mono ?_
  rintro e w2 hd
  obtain ⟨rfl, -⟩ := id hd
  have HD := Lib.hid (Done.from HB.out hd)
  clear hd HC HA
  go_wp2
  go_ret2
  exact ⟨rfl, HD.out⟩

set_option maxRecDepth 100000 in
set_option maxHeartbeats 4000000 in
theorem rdo1 (p : Nat) (ms : List Nat) (x : Bs) (y : Ac) (w : World) (hx : RefAt w p ms x) (hy : y.Fit) (hc : y.a % 7 = 1) :
    Calls Try.prog 11 #[.pointer (some ⟨p, 0, none⟩), .agg #[.int .u8 y.a, .int .i64 y.k, .int .i64 y.at_, .int .u16 (y.pat.toNat : Int), .string y.s]] w (Done refFace p ms (.tuple #[.string (delS x y.k y.at_), .int .i64 (delE x y.k y.at_)]) (delX x y.k y.at_) w) := by
  obtain ⟨h0, h1, h2, hs⟩ := hy
  have HA := Lib.hid (ActAt.new w y 33)
  have hb := alloc_below w (.cells #[.int .u8 y.a, .int .i64 y.k, .int .i64 y.at_, .int .u16 (y.pat.toNat : Int), .string y.s] 33)
  have HB := Lib.hid hb
  have HC := Lib.hid (rDeliver_any p ms x y.k y.at_ _ (Face.below (F := refFace) hx hb))
  have t0 : ((y.a : Int) % 7 == 0) = false := by rw [beq_eq_false_iff_ne]; omega
  have t1 : ((y.a : Int) % 7 == 1) = true := by rw [beq_iff_eq]; omega
  clear hx hb h1 h2 hs hc
  go_enter Try.func11, Try.ntmps11
  go_wp2_with fail
  refine (HC.out).mono ?_
  rintro e w2 hd
  obtain ⟨rfl, -⟩ := id hd
  have HD := Lib.hid (Done.from HB.out hd)
  clear hd HC HA
  go_wp2
  go_ret2
  exact ⟨rfl, HD.out⟩

set_option maxRecDepth 100000 in
set_option maxHeartbeats 4000000 in
theorem rdo2 (p : Nat) (ms : List Nat) (x : Bs) (y : Ac) (w : World) (hx : RefAt w p ms x) (hy : y.Fit) (hc : y.a % 7 = 2) :
    Calls Try.prog 11 #[.pointer (some ⟨p, 0, none⟩), .agg #[.int .u8 y.a, .int .i64 y.k, .int .i64 y.at_, .int .u16 (y.pat.toNat : Int), .string y.s]] w (Done refFace p ms (.tuple #[.string ⟨#[]⟩, .int .i64 (delE x y.k y.at_)]) (delX x y.k y.at_) w) := by
  obtain ⟨h0, h1, h2, hs⟩ := hy
  have HA := Lib.hid (ActAt.new w y 33)
  have hb := alloc_below w (.cells #[.int .u8 y.a, .int .i64 y.k, .int .i64 y.at_, .int .u16 (y.pat.toNat : Int), .string y.s] 33)
  have HB := Lib.hid hb
  have HC := Lib.hid (rDeliver_any p ms x y.k y.at_ _ (Face.below (F := refFace) hx hb))
  have t0 : ((y.a : Int) % 7 == 0) = false := by rw [beq_eq_false_iff_ne]; omega
  have t1 : ((y.a : Int) % 7 == 1) = false := by rw [beq_eq_false_iff_ne]; omega
  have t2 : ((y.a : Int) % 7 == 2) = true := by rw [beq_iff_eq]; omega
  clear hx hb h1 h2 hs hc
  go_enter Try.func11, Try.ntmps11
  go_wp2_with fail
  refine (HC.out).mono ?_
  rintro e w2 hd
  obtain ⟨rfl, -⟩ := id hd
  have HD := Lib.hid (Done.from HB.out hd)
  clear hd HC HA
  go_wp2
  go_ret2
  exact ⟨rfl, HD.out⟩

set_option maxRecDepth 100000 in
set_option maxHeartbeats 4000000 in
theorem rdo3 (p : Nat) (ms : List Nat) (x : Bs) (y : Ac) (w : World) (hx : RefAt w p ms x) (hy : y.Fit) (hc : y.a % 7 = 3) :
    Calls Try.prog 11 #[.pointer (some ⟨p, 0, none⟩), .agg #[.int .u8 y.a, .int .i64 y.k, .int .i64 y.at_, .int .u16 (y.pat.toNat : Int), .string y.s]] w (Done refFace p ms (.tuple #[.string ⟨#[]⟩, .int .i64 (dropE x y.k)]) (dropX x y.k) w) := by
  obtain ⟨h0, h1, h2, hs⟩ := hy
  have HA := Lib.hid (ActAt.new w y 33)
  have hb := alloc_below w (.cells #[.int .u8 y.a, .int .i64 y.k, .int .i64 y.at_, .int .u16 (y.pat.toNat : Int), .string y.s] 33)
  have HB := Lib.hid hb
  have HC := Lib.hid (rDrop_any p ms x y.k _ (Face.below (F := refFace) hx hb))
  have t0 : ((y.a : Int) % 7 == 0) = false := by rw [beq_eq_false_iff_ne]; omega
  have t1 : ((y.a : Int) % 7 == 1) = false := by rw [beq_eq_false_iff_ne]; omega
  have t2 : ((y.a : Int) % 7 == 2) = false := by rw [beq_eq_false_iff_ne]; omega
  have t3 : ((y.a : Int) % 7 == 3) = true := by rw [beq_iff_eq]; omega
  clear hx hb h1 h2 hs hc
  go_enter Try.func11, Try.ntmps11
  go_wp2_with fail
  refine (HC.out).mono ?_
  rintro e w2 hd
  obtain ⟨rfl, -⟩ := id hd
  have HD := Lib.hid (Done.from HB.out hd)
  clear hd HC HA
  go_wp2
  go_ret2
  exact ⟨rfl, HD.out⟩

set_option maxRecDepth 100000 in
set_option maxHeartbeats 4000000 in
theorem rdo4 (p : Nat) (ms : List Nat) (x : Bs) (y : Ac) (w : World) (hx : RefAt w p ms x) (hy : y.Fit) (hc : y.a % 7 = 4) :
    Calls Try.prog 11 #[.pointer (some ⟨p, 0, none⟩), .agg #[.int .u8 y.a, .int .i64 y.k, .int .i64 y.at_, .int .u16 (y.pat.toNat : Int), .string y.s]] w (Done refFace p ms (.tuple #[.string ⟨#[]⟩, .int .i64 (twiceE x y.k)]) (twiceX x y.k) w) := by
  obtain ⟨h0, h1, h2, hs⟩ := hy
  have HA := Lib.hid (ActAt.new w y 33)
  have hb := alloc_below w (.cells #[.int .u8 y.a, .int .i64 y.k, .int .i64 y.at_, .int .u16 (y.pat.toNat : Int), .string y.s] 33)
  have HB := Lib.hid hb
  have HC := Lib.hid (rTwice_any p ms x y.k _ (Face.below (F := refFace) hx hb))
  have t0 : ((y.a : Int) % 7 == 0) = false := by rw [beq_eq_false_iff_ne]; omega
  have t1 : ((y.a : Int) % 7 == 1) = false := by rw [beq_eq_false_iff_ne]; omega
  have t2 : ((y.a : Int) % 7 == 2) = false := by rw [beq_eq_false_iff_ne]; omega
  have t3 : ((y.a : Int) % 7 == 3) = false := by rw [beq_eq_false_iff_ne]; omega
  have t4 : ((y.a : Int) % 7 == 4) = true := by rw [beq_iff_eq]; omega
  clear hx hb h1 h2 hs hc
  go_enter Try.func11, Try.ntmps11
  go_wp2_with fail
  refine (HC.out).mono ?_
  rintro e w2 hd
  obtain ⟨rfl, -⟩ := id hd
  have HD := Lib.hid (Done.from HB.out hd)
  clear hd HC HA
  go_wp2
  go_ret2
  exact ⟨rfl, HD.out⟩

set_option maxRecDepth 100000 in
set_option maxHeartbeats 4000000 in
theorem rdo5 (p : Nat) (ms : List Nat) (x : Bs) (y : Ac) (w : World) (hx : RefAt w p ms x) (hy : y.Fit) (hc : y.a % 7 = 5) :
    Calls Try.prog 11 #[.pointer (some ⟨p, 0, none⟩), .agg #[.int .u8 y.a, .int .i64 y.k, .int .i64 y.at_, .int .u16 (y.pat.toNat : Int), .string y.s]] w (Done refFace p ms (.tuple #[.string ⟨#[]⟩, .int .i64 (hurE x y.k)]) (hurX x y.k y.at_ y.pat) w) := by
  obtain ⟨h0, h1, h2, hs⟩ := hy
  have HA := Lib.hid (ActAt.new w y 33)
  have hb := alloc_below w (.cells #[.int .u8 y.a, .int .i64 y.k, .int .i64 y.at_, .int .u16 (y.pat.toNat : Int), .string y.s] 33)
  have HB := Lib.hid hb
  have HC := Lib.hid (rBurst_any p ms x y.k y.at_ y.pat _ (Face.below (F := refFace) hx hb))
  have t0 : ((y.a : Int) % 7 == 0) = false := by rw [beq_eq_false_iff_ne]; omega
  have t1 : ((y.a : Int) % 7 == 1) = false := by rw [beq_eq_false_iff_ne]; omega
  have t2 : ((y.a : Int) % 7 == 2) = false := by rw [beq_eq_false_iff_ne]; omega
  have t3 : ((y.a : Int) % 7 == 3) = false := by rw [beq_eq_false_iff_ne]; omega
  have t4 : ((y.a : Int) % 7 == 4) = false := by rw [beq_eq_false_iff_ne]; omega
  have t5 : ((y.a : Int) % 7 == 5) = true := by rw [beq_iff_eq]; omega
  clear hx hb h1 h2 hs hc
  go_enter Try.func11, Try.ntmps11
  go_wp2_with fail
  refine (HC.out).mono ?_
  rintro e w2 hd
  obtain ⟨rfl, -⟩ := id hd
  have HD := Lib.hid (Done.from HB.out hd)
  clear hd HC HA
  go_wp2
  go_ret2
  exact ⟨rfl, HD.out⟩

set_option maxRecDepth 100000 in
set_option maxHeartbeats 4000000 in
theorem rdo6 (p : Nat) (ms : List Nat) (x : Bs) (y : Ac) (w : World) (hx : RefAt w p ms x) (hy : y.Fit) (hc : y.a % 7 = 6) :
    Calls Try.prog 11 #[.pointer (some ⟨p, 0, none⟩), .agg #[.int .u8 y.a, .int .i64 y.k, .int .i64 y.at_, .int .u16 (y.pat.toNat : Int), .string y.s]] w (Done refFace p ms (.tuple #[.string ⟨#[]⟩, .int .i64 (cutE x y.k y.at_)]) (cutX x y.k y.at_) w) := by
  obtain ⟨h0, h1, h2, hs⟩ := hy
  have HA := Lib.hid (ActAt.new w y 33)
  have hb := alloc_below w (.cells #[.int .u8 y.a, .int .i64 y.k, .int .i64 y.at_, .int .u16 (y.pat.toNat : Int), .string y.s] 33)
  have HB := Lib.hid hb
  have HC := Lib.hid (rCut_any p ms x y.k y.at_ _ (Face.below (F := refFace) hx hb))
  have t0 : ((y.a : Int) % 7 == 0) = false := by rw [beq_eq_false_iff_ne]; omega
  have t1 : ((y.a : Int) % 7 == 1) = false := by rw [beq_eq_false_iff_ne]; omega
  have t2 : ((y.a : Int) % 7 == 2) = false := by rw [beq_eq_false_iff_ne]; omega
  have t3 : ((y.a : Int) % 7 == 3) = false := by rw [beq_eq_false_iff_ne]; omega
  have t4 : ((y.a : Int) % 7 == 4) = false := by rw [beq_eq_false_iff_ne]; omega
  have t5 : ((y.a : Int) % 7 == 5) = false := by rw [beq_eq_false_iff_ne]; omega
  clear hx hb h1 h2 hs hc
  go_enter Try.func11, Try.ntmps11
  go_wp2_with fail
  refine (HC.out).mono ?_
  rintro e w2 hd
  obtain ⟨rfl, -⟩ := id hd
  have HD := Lib.hid (Done.from HB.out hd)
  clear hd HC HA
  go_wp2
  go_ret2
  exact ⟨rfl, HD.out⟩

theorem seven (n : Nat) : n % 7 = 0 ∨ n % 7 = 1 ∨ n % 7 = 2 ∨ n % 7 = 3 ∨ n % 7 = 4 ∨ n % 7 = 5 ∨ n % 7 = 6 := by omega
theorem do_any {F : Face} (C : Code F) (p : Nat) (ms : List Nat) (x : Bs) (y : Ac) (w : World) (hx : F.At w p ms x) (hy : y.Fit) :
    Calls Try.prog 10 #[.pointer (some ⟨p, 0, none⟩), .agg #[.int .u8 y.a, .int .i64 y.k, .int .i64 y.at_, .int .u16 (y.pat.toNat : Int), .string y.s]] w (Done F p ms (.tuple #[.string (doS x y), .int .i64 (doE x y)]) (doX x y) w) := by
  unfold doS doE doX
  rcases seven y.a with h | h | h | h | h | h | h
  · simpa [h] using do0 C p ms x y w hx hy h
  · simpa [h] using do1 C p ms x y w hx hy h
  · simpa [h] using do2 C p ms x y w hx hy h
  · simpa [h] using do3 C p ms x y w hx hy h
  · simpa [h] using do4 C p ms x y w hx hy h
  · simpa [h] using do5 C p ms x y w hx hy h
  · simpa [h] using do6 C p ms x y w hx hy h
theorem should_any (p : Nat) (ms : List Nat) (x : Bs) (y : Ac) (w : World) (hx : RefAt w p ms x) (hy : y.Fit) :
    Calls Try.prog 11 #[.pointer (some ⟨p, 0, none⟩), .agg #[.int .u8 y.a, .int .i64 y.k, .int .i64 y.at_, .int .u16 (y.pat.toNat : Int), .string y.s]] w (Done refFace p ms (.tuple #[.string (doS x y), .int .i64 (doE x y)]) (doX x y) w) := by
  unfold doS doE doX
  rcases seven y.a with h | h | h | h | h | h | h
  · simpa [h] using rdo0 p ms x y w hx hy h
  · simpa [h] using rdo1 p ms x y w hx hy h
  · simpa [h] using rdo2 p ms x y w hx hy h
  · simpa [h] using rdo3 p ms x y w hx hy h
  · simpa [h] using rdo4 p ms x y w hx hy h
  · simpa [h] using rdo5 p ms x y w hx hy h
  · simpa [h] using rdo6 p ms x y w hx hy h

end Go.Proofs.Ythepnckbooioeaa.Bus
