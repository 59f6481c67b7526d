/-
  The law's first look, walked; its acts, as a slice that lies in memory; the code's queue and the reference's side by side. Conditions: that the calls answer as is asked.
-/
import Derived.Test.YtpbiigpnbhgilaaQuTake
import Derived.Deep.RegionHeld3
namespace Go.Proofs.Ytpbiigpnbhgilaa.Qu
open Go.RowKit

def sa : ByteArray := ⟨#[97]⟩
def sb : ByteArray := ⟨#[98]⟩
def y1 : Qs ByteArray := putX (newX 1) sa true
def y2 : Qs ByteArray := putX y1 sb false
def y3 : Qs ByteArray := takeX y2 true
theorem first_facts : putE (newX 1 : Qs ByteArray) = 0 ∧ putE y1 = 8 ∧ headD y2 true noStr = sa ∧ hasC y2 true = true ∧ y3.f = true ∧ (calmX y3).f = false := by
  refine ⟨?_, ?_, ?_, ?_, ?_, ?_⟩ <;> rfl

set_option maxRecDepth 100000 in
set_option maxHeartbeats 4000000 in
theorem awake_true {F : Face ByteArray} (C : CodeS F) (w : World) : Calls Try.prog 5 #[] w (Tells (.bool true) w) := by
  have CC := Lib.hid C
  clear C
  obtain ⟨f1, f2, f3, f4, f5, f6⟩ := first_facts
  have HN := Lib.hid (CC.out.new 1 w ⟨by omega, by omega⟩)
  have H1 := Lib.hid (fun p ms w hx => CC.out.put p ms (newX 1) sa true w hx (by decide))
  have H2 := Lib.hid (fun p ms w hx => CC.out.put p ms y1 sb false w hx (by decide))
  have H3 := Lib.hid (fun p ms w hx => CC.out.take p ms y2 true w hx)
  have H4 := Lib.hid (fun p ms w hx => CC.out.fault p ms y3 w hx)
  have H5 := Lib.hid (fun p ms w hx => CC.out.fault p ms (calmX y3) w hx)
  rw [f1] at H1
  rw [f2] at H2
  rw [f3, f4] at H3
  rw [f5] at H4
  rw [f6] at H5
  replace H1 : Hid (∀ p ms w, F.At w p ms (newX 1) → Calls Try.prog 8 #[.pointer (some ⟨p, 0, none⟩), .string ⟨#[97]⟩, .bool true] w (Done F p ms (.int .i64 0) y1 w)) := H1
  replace H2 : Hid (∀ p ms w, F.At w p ms y1 → Calls Try.prog 8 #[.pointer (some ⟨p, 0, none⟩), .string ⟨#[98]⟩, .bool false] w (Done F p ms (.int .i64 8) y2 w)) := H2
  replace H3 : Hid (∀ p ms w, F.At w p ms y2 → Calls Try.prog 10 #[.pointer (some ⟨p, 0, none⟩), .bool true] w (Done F p ms (.tuple #[.string ⟨#[97]⟩, .bool true]) y3 w)) := H3
  generalize calmX (calmX y3) = z5 at *
  generalize calmX y3 = z4 at *
  generalize y3 = z3 at *
  generalize y2 = z2 at *
  generalize y1 = z1 at *
  generalize (newX 1 : Qs ByteArray) = z0 at *
  clear f1 f2 f3 f4 f5 f6
  go_enter Try.func5, Try.ntmps5
  go_wp2_with fail
  refine (HN.out).mono ?_
  rintro e w1 ⟨p, ms, rfl, hx, hm, hb⟩
  have hr1 := Run.first hx hm hb (Below.refl w.heap.size w) (Nat.le_refl _)
  clear hx hm hb
  go_wp2_with fail
  refine (H1.out _ _ _ hr1.at_).mono ?_
  rintro e w2 hd
  obtain ⟨rfl, ns2, hr2, -, -⟩ := hr1.done hd
  clear hd hr1
  go_wp2_with fail
  refine (H2.out _ _ _ hr2.at_).mono ?_
  rintro e w3 hd
  obtain ⟨rfl, ns3, hr3, -, -⟩ := hr2.done hd
  clear hd hr2
  go_wp2_with fail
  refine (H3.out _ _ _ hr3.at_).mono ?_
  rintro e w4 hd
  obtain ⟨rfl, ns4, hr4, -, -⟩ := hr3.done hd
  clear hd hr3
  go_wp2_with fail
  refine (H4.out _ _ _ hr4.at_).mono ?_
  rintro e w5 hd
  obtain ⟨rfl, ns5, hr5, -, -⟩ := hr4.done hd
  clear hd hr4
  go_wp2_with fail
  refine (H5.out _ _ _ hr5.at_).mono ?_
  rintro e w6 hd
  obtain ⟨rfl, ns6, hr6, -, -⟩ := hr5.done hd
  have HB := Lib.hid hr6.below
  clear hd hr5 hr6
  go_wp2
  go_ret
  exact ⟨by simp, HB.out⟩

structure Ac where
  a : Nat
  hi : Bool
  s : ByteArray
def Items (w : World) (b o : Nat) (xs : List Ac) : Prop :=
  ∀ (i : Nat) (x : Ac), xs[i]? = some x → w.cell? ⟨b, o + i * 3, none⟩ = some (.int .u8 x.a) ∧ w.cell? ⟨b, o + i * 3 + 1, none⟩ = some (.bool x.hi) ∧ w.cell? ⟨b, o + i * 3 + 2, none⟩ = some (.string x.s)
def Ac.Fit (x : Ac) : Prop := (x.a : Int) ≤ 255 ∧ x.s.size ≤ maxLen
def Fit (xs : List Ac) : Prop := ∀ (i : Nat) (x : Ac), xs[i]? = some x → x.Fit
theorem Items.below {w w' : World} {b o : Nat} {xs : List Ac} (h : Items w b o xs) {N : Nat} (hb : Below N w w') (hN : b < N) : Items w' b o xs := by
  intro i x hx
  obtain ⟨h1, h2, h3⟩ := h i x hx
  exact ⟨(hb.cell (p := ⟨b, _, none⟩) hN).trans h1, (hb.cell (p := ⟨b, _, none⟩) hN).trans h2, (hb.cell (p := ⟨b, _, none⟩) hN).trans h3⟩
def Lies (w : World) (N : Nat) (ao : Option Addr) (xs : List Ac) : Prop := 1 ≤ xs.length → ∃ b o, ao = some ⟨b, o, none⟩ ∧ b < N ∧ Items w b o xs
theorem Lies.below {w w' : World} {N : Nat} {ao : Option Addr} {xs : List Ac} (h : Lies w N ao xs) (hb : Below N w w') : Lies w' N ao xs := by
  intro h1
  obtain ⟨b, o, ha, hlt, hI⟩ := h h1
  exact ⟨b, o, ha, hlt, hI.below hb hlt⟩
structure ActAt (w : World) (t : Nat) (y : Ac) : Prop where
  c0 : w.cell? ⟨t, 0, none⟩ = some (.int .u8 y.a)
  c1 : w.cell? ⟨t, 1, none⟩ = some (.bool y.hi)
  c2 : w.cell? ⟨t, 2, none⟩ = some (.string y.s)
theorem ActAt.of {w w' : World} {t : Nat} {y : Ac} (h : ActAt w t y) (hb : w'.heap[t]? = w.heap[t]?) : ActAt w' t y :=
  ⟨(World.cell?_of_block (a := ⟨t, 0, none⟩) hb).trans h.c0, (World.cell?_of_block (a := ⟨t, 1, none⟩) hb).trans h.c1, (World.cell?_of_block (a := ⟨t, 2, none⟩) hb).trans h.c2⟩
theorem ActAt.lt {w : World} {t : Nat} {y : Ac} (h : ActAt w t y) : t < w.heap.size := World.block_lt_of_cell? w ⟨t, 0, none⟩ h.c0
theorem ActAt.below {w w' : World} {t : Nat} {y : Ac} (h : ActAt w t y) (hb : Below w.heap.size w w') : ActAt w' t y := h.of (hb.block t h.lt)
theorem ActAt.only {w w' : World} {t : Nat} {ms : List Nat} {y : Ac} (h : ActAt w t y) (hb : OnlyL ms w w') (h1 : t ∉ ms) : ActAt w' t y := h.of (hb.block t h.lt h1)
theorem ActAt.new (w : World) (y : Ac) (k : TypeId) : ActAt (w.alloc (.cells #[.int .u8 y.a, .bool y.hi, .string y.s] k)) w.heap.size y := by
  have hc : ∀ j v, #[Value.int .u8 y.a, .bool y.hi, .string y.s][j]? = some v → (w.alloc (.cells #[.int .u8 y.a, .bool y.hi, .string y.s] k)).cell? ⟨w.heap.size, j, none⟩ = some v := by
    intro j v hv
    rw [cell_of_row _ _ j _ k (0, 0) (heap_alloc_new w _)]
    exact hv
  exact ⟨hc 0 _ rfl, hc 1 _ rfl, hc 2 _ rfl⟩

/-- The code's queue and the reference's, of the call's own, apart. -/
structure Pair (F : Face ByteArray) (N : Nat) (w0 w : World) (p : Nat) (ms : List Nat) (b : Nat) (ns : List Nat) (x y : Qs ByteArray) : Prop where
  run : Run F N w0 w p ms x
  ref : RefAt w b ns y
  nb : ∀ k ∈ ns, N ≤ k
  apart : ∀ k ∈ ms, k ∉ ns
section
variable {F : Face ByteArray} {N p b b' : Nat} {ms ns ms' ns' : List Nat} {w0 w w' : World} {x y z : Qs ByteArray}
theorem Pair.code (h : Pair F N w0 w p ms b ns x y) (hx : F.At w' p ms' z) (ho : OnlyL ms w w') (hn : ∀ j ∈ ms', j ∈ ms ∨ w.heap.size ≤ j) : Pair F N w0 w' p ms' b ns z y :=
  ⟨h.run.next hx ho hn, Face.only (F := refFace) h.ref ho (fun k hk hin => h.apart k hin hk), h.nb, fun k hk hin => (hn k hk).elim (fun h1 => h.apart k h1 hin) (fun h1 => by have := refFace.lt h.ref k hin; omega)⟩
theorem Pair.refd (h : Pair F N w0 w p ms b ns x y) (hx : RefAt w' b ns' z) (ho : OnlyL ns w w') (hn : ∀ j ∈ ns', j ∈ ns ∨ w.heap.size ≤ j) : Pair F N w0 w' p ms b ns' x z :=
  ⟨⟨Face.only h.run.at_ ho h.apart, h.run.below.trans (ho.below h.nb h.run.size), h.run.hm, Nat.le_trans h.run.size ho.size⟩, hx, fun k hk => (hn k hk).elim (h.nb k) (fun hle => Nat.le_trans h.run.size hle), fun k hk hin => (hn k hin).elim (h.apart k hk) (fun h1 => by have := F.lt h.run.at_ k hk; omega)⟩
theorem Pair.more (h : Pair F N w0 w p ms b ns x y) (hb : Below w.heap.size w w') : Pair F N w0 w' p ms b ns x y := ⟨h.run.more hb, Face.below (F := refFace) h.ref hb, h.nb, h.apart⟩
theorem Pair.drewN (h : Pair F N w0 w p ms b ns x y) (n : Nat) : Pair F N w0 (w.drewN n) p ms b ns x y := h.more ⟨rfl, rfl, rfl, Nat.le_refl _, fun _ _ => rfl⟩
theorem Pair.drew (h : Pair F N w0 w p ms b ns x y) : Pair F N w0 w.drew p ms b ns x y := h.more (Below.refl _ _).drew
/-- Another one of the reference's, a new one. -/
theorem Pair.new (h : Run F N w0 w p ms x) (hx : RefAt w' b' ns' y) (hn : ∀ j ∈ ns', w.heap.size ≤ j) (hb : Below w.heap.size w w') : Pair F N w0 w' p ms b' ns' x y :=
  ⟨h.more hb, hx, fun k hk => Nat.le_trans h.size (hn k hk), fun k hk hin => by have := hn k hin; have := F.lt h.at_ k hk; omega⟩
end
theorem RefAt.calm {w : World} {b : Nat} {ms : List Nat} {x : Qs ByteArray} (h : RefAt w b ms x) : RefAt (w.setCell ⟨b, 3, none⟩ (.bool false)) b ms (calmX x) := by
  obtain ⟨v, rfl, hv⟩ := h
  exact ⟨v, rfl, hv.fault false⟩
theorem RefAt.mem {w : World} {b : Nat} {ms : List Nat} {x : Qs ByteArray} (h : RefAt w b ms x) : b ∈ ms := by
  obtain ⟨v, rfl, hv⟩ := h
  simp
theorem RefAt.cells {w : World} {b : Nat} {ms : List Nat} {x : Qs ByteArray} (h : RefAt w b ms x) : w.cell? ⟨b, 0, none⟩ = some (.int .i64 (x.pl : Nat)) ∧ w.cell? ⟨b, 3, none⟩ = some (.bool x.f) ∧ w.frozen? ⟨b, 3, none⟩ = false := by
  obtain ⟨v, rfl, hv⟩ := h
  exact ⟨hv.c0, hv.c3, hv.fz 3⟩
theorem room_int {x : Qs ByteArray} (h : x.Ok) : ((roomN x : Nat) : Int) = (x.pl : Int) - x.hi.length - x.lo.length := by
  have := h.fits
  unfold roomN
  omega

end Go.Proofs.Ytpbiigpnbhgilaa.Qu
