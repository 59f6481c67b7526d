/-
  A frame's text: the code, walked. Conditions: numbers such as their kinds hold; the library's table of powers is as the program lays it.
-/
import Derived.Test.YtindekpmicbbiaaDoorEnc
import Derived.Test.YtindekpmicbbiaaDoorEpRefText
namespace Go.Proofs.YtindekpmicbbiaaDoor
open Go.RowKit
open Oct Sums

set_option linter.unusedSimpArgs false
attribute [local go_sem ↓] exec_bd exec_ld exec_st load_row loadVar_row store_row
attribute [local go_sem] bd_0 bd_1 bd_5 bd_6 ld_row st_row set_cell_lt set_cell_gt one_int one_bool one_str row_new ok_new free_new row_old ok_old_iff free_old_iff put_in put_cell_lt put_cell_gt put_frozen row_put_in row_put_lt row_put_gt ok_put_iff free_put_iff put_size row_set_in row_set_lt row_set_gt ok_set_iff free_set_iff drew_cell drew_frozen drew_size row_drew ok_drew free_drew

open Epo
def nameB (k : Int) : ByteArray := if k = 1 then ⟨#[116, 111, 107, 101, 110]⟩ else if k = 2 then ⟨#[112, 111, 108, 108]⟩ else if k = 3 then ⟨#[115, 116, 97, 116, 117, 115]⟩ else if k = 4 then ⟨#[100, 97, 116, 97]⟩ else if k = 5 then ⟨#[108, 101, 97, 118, 101]⟩ else ⟨#[63]⟩

set_option maxHeartbeats 1000000 in
theorem kindName_any (k : Int) (w : World) : Calls Tryd.prog 33 #[.int .i64 k] w fun e w' => e = .returned (.string (nameB k)) ∧ w = w' := by
  by_cases h1 : k = 1
  · have d1 : (k == 1) = true := by simp; omega
    rw [show nameB k = ⟨#[116, 111, 107, 101, 110]⟩ by unfold nameB; simp [h1]]
    clear h1
    go_enter Tryd.func33, Tryd.ntmps33
    go_wp2
    go_ret
    exact ⟨rfl, rfl⟩
  by_cases h2 : k = 2
  · have d1 : (k == 1) = false := by simp; omega
    have d2 : (k == 2) = true := by simp; omega
    rw [show nameB k = ⟨#[112, 111, 108, 108]⟩ by unfold nameB; simp [h1, h2]]
    clear h1 h2
    go_enter Tryd.func33, Tryd.ntmps33
    go_wp2
    go_ret
    exact ⟨rfl, rfl⟩
  by_cases h3 : k = 3
  · have d1 : (k == 1) = false := by simp; omega
    have d2 : (k == 2) = false := by simp; omega
    have d3 : (k == 3) = true := by simp; omega
    rw [show nameB k = ⟨#[115, 116, 97, 116, 117, 115]⟩ by unfold nameB; simp [h1, h2, h3]]
    clear h1 h2 h3
    go_enter Tryd.func33, Tryd.ntmps33
    go_wp2
    go_ret
    exact ⟨rfl, rfl⟩
  by_cases h4 : k = 4
  · have d1 : (k == 1) = false := by simp; omega
    have d2 : (k == 2) = false := by simp; omega
    have d3 : (k == 3) = false := by simp; omega
    have d4 : (k == 4) = true := by simp; omega
    rw [show nameB k = ⟨#[100, 97, 116, 97]⟩ by unfold nameB; simp [h1, h2, h3, h4]]
    clear h1 h2 h3 h4
    go_enter Tryd.func33, Tryd.ntmps33
    go_wp2
    go_ret
    exact ⟨rfl, rfl⟩
  by_cases h5 : k = 5
  · have d1 : (k == 1) = false := by simp; omega
    have d2 : (k == 2) = false := by simp; omega
    have d3 : (k == 3) = false := by simp; omega
    have d4 : (k == 4) = false := by simp; omega
    have d5 : (k == 5) = true := by simp; omega
    rw [show nameB k = ⟨#[108, 101, 97, 118, 101]⟩ by unfold nameB; simp [h1, h2, h3, h4, h5]]
    clear h1 h2 h3 h4 h5
    go_enter Tryd.func33, Tryd.ntmps33
    go_wp2
    go_ret
    exact ⟨rfl, rfl⟩
  have d1 : (k == 1) = false := by simp; omega
  have d2 : (k == 2) = false := by simp; omega
  have d3 : (k == 3) = false := by simp; omega
  have d4 : (k == 4) = false := by simp; omega
  have d5 : (k == 5) = false := by simp; omega
  rw [show nameB k = ⟨#[63]⟩ by unfold nameB; simp [h1, h2, h3, h4, h5]]
  clear h1 h2 h3 h4 h5
  go_enter Tryd.func33, Tryd.ntmps33
  go_wp2
  go_ret
  exact ⟨rfl, rfl⟩

set_option maxRecDepth 100000 in
set_option maxHeartbeats 4000000 in
theorem fdigits_any (u : Nat) (hu : (u : Int) ≤ 4294967296) (w : World) (hE : Env w) : Calls Tryd.prog 34 #[.int .u64 u] w fun e w' => e = .returned (.string (dgs u)) ∧ Below w.heap.size w w' := by
  go_enter Tryd.func34, Tryd.ntmps34
  go_wp2_with (go_at_call 50; go_in)
  go_wp2_with fail
  refine (fmt_any u (by omega) _ hE.1).mono ?_
  rintro e w' ⟨rfl, hb⟩
  go_wp2
  go_ret
  exact ⟨rfl, hb⟩
theorem dgs_size2 (u : Nat) (hu : (u : Int) ≤ 4294967296) : (dgs u).size ≤ 20 := by
  have h : (dgs u).size = (Lib.decDigits u).length := by simp [dgs, ByteArray.size]
  rw [h, Lib.decDigits_length]
  by_cases h1 : 1 ≤ u
  · have := Lib.numDigits_eq u h1 (by omega)
    split at this <;> omega
  · obtain rfl : u = 0 := by omega
    rw [Lib.nDigits_small (by omega)]; omega
/-- To whom. -/
def targetB (f : Fr) : ByteArray := if f.kind = 4 then ⟨#[42]⟩ else dgs f.dst
set_option maxRecDepth 100000 in
set_option maxHeartbeats 4000000 in
theorem target_any (f : Fr) (hu : (f.dst : Int) ≤ 255) (w : World) (hE : Env w) : Calls Tryd.prog 35 #[.agg #[.int .i64 f.kind, .int .u8 f.src, .int .u8 f.dst, .int .u16 f.sinc, .int .u16 f.dinc, .int .u16 f.ec, .int .u8 f.ea, .int .u16 f.ei, .int .u16 f.hop, .int .u16 f.hc, .int .u8 f.ha, .int .u16 f.hi, .bool f.wants, .int .u8 f.blk, .int .u16 f.vinc, .int .u32 f.vseq, .int .u8 f.part, .int .u8 f.parts, .string f.bytes]] w fun e w' => e = .returned (.string (targetB f)) ∧ Below w.heap.size w w' := by
  by_cases h4 : f.kind = 4
  · have d4 : (f.kind == 4) = true := by simp [h4]
    rw [show targetB f = ⟨#[42]⟩ by unfold targetB; rw [if_pos h4]]
    clear h4
    go_enter Tryd.func35, Tryd.ntmps35
    go_wp2
    go_ret
    exact ⟨rfl, (Below.refl _ _).alloc (Nat.le_refl _) _⟩
  · have d4 : (f.kind == 4) = false := by simp [h4]
    rw [show targetB f = dgs f.dst by unfold targetB; rw [if_neg h4]]
    have hw : IntKind.u64.wrap (f.dst : Int) = f.dst := by rw [IntKind.wrap_u64]; omega
    have HE := Lib.hid hE
    clear h4 hE
    go_enter Tryd.func35, Tryd.ntmps35
    go_wp2_with fail
    refine (fdigits_any f.dst (by omega) _ (HE.out.below ((Below.refl _ _).alloc (Nat.le_refl _) _))).mono ?_
    rintro e w' ⟨rfl, hb⟩
    go_wp2
    go_ret
    exact ⟨rfl, ((Below.refl _ _).alloc (Nat.le_refl _) _).trans (hb.mono (by simp))⟩

/-- A frame in a block, and the library's table. -/
def TS (n : Nat) (c : Array Value) (w W : World) : Prop := At n c w W ∧ Env W
theorem TS.mem {n : Nat} {c : Array Value} {w W W' : World} (h : TS n c w W) (hb : Below W.heap.size W W') : TS n c w W' := ⟨h.1.mem hb, h.2.below hb⟩
theorem TS.alloc {n : Nat} {c : Array Value} {w W : World} (h : TS n c w W) (o : Obj) : TS n c w (W.alloc o) := h.mem ((Below.refl _ _).alloc (Nat.le_refl _) _)
theorem TS.drew {n : Nat} {c : Array Value} {w W : World} (h : TS n c w W) : TS n c w W.drew := ⟨h.1.drew, h.2⟩
theorem TS.env {n : Nat} {c : Array Value} {w W : World} (h : TS n c w W) : Env W := h.2
/-- Its epoch. -/
def epB (f : Fr) : ByteArray := textE ⟨f.ec, f.ea, f.ei⟩ ++ ⟨#[47]⟩ ++ dgs f.hop
theorem textE_size (x : Ep) (hx : x.fit) : (textE x).size ≤ 62 := by
  obtain ⟨h1, h2, h3⟩ := hx
  have s1 := dgs_size x.c h1
  have s2 := dgs_size x.a (by omega)
  have s3 := dgs_size x.i h3
  have sd : dot.size = 1 := rfl
  unfold textE
  simp only [ByteArray.size_append]
  omega
def joinB (xs : List ByteArray) : ByteArray := ⟨(Lib.join (xs.map (·.data.toList)) [32]).toArray⟩
def words5 (f : Fr) : List ByteArray := [nameB f.kind, dgs f.src, ⟨#[62]⟩, targetB f, epB f]

theorem nameB_size (k : Int) : (nameB k).size ≤ 6 := by
  unfold nameB
  split
  · decide
  · split
    · decide
    · split
      · decide
      · split
        · decide
        · split <;> decide
theorem words5_len (f : Fr) (h1 : (f.src : Int) ≤ 255) (h2 : (f.dst : Int) ≤ 255) (h3 : (f.hop : Int) ≤ 65535) (hx : (⟨f.ec, f.ea, f.ei⟩ : Ep).fit) : (Lib.join ((words5 f).map (·.data.toList)) [32]).length ≤ 1000 := by
  have s1 := textE_size _ hx
  have s2 := dgs_size2 f.hop (by omega)
  have s3 := dgs_size2 f.src (by omega)
  have s4 : (targetB f).size ≤ 20 := by
    unfold targetB
    split
    · decide
    · exact dgs_size2 f.dst (by omega)
  have s5 := nameB_size f.kind
  have s6 : (epB f).size ≤ 83 := by
    unfold epB
    simp only [ByteArray.size_append]
    have : (⟨#[47]⟩ : ByteArray).size = 1 := rfl
    omega
  have e : ∀ b : ByteArray, b.data.toList.length = b.size := fun b => size_list b
  have t1 := e (epB f)
  have t2 := e (targetB f)
  have t3 := e (nameB f.kind)
  have t4 := e (dgs f.src)
  simp only [words5, List.map_cons, List.map_nil]
  rw [Lib.join_length]
  simp only [Lib.lens, List.map_cons, List.map_nil, List.sum_cons, List.sum_nil, List.length_cons, List.length_nil, t1, t2, t3, t4]
  have t5 : (⟨#[62]⟩ : ByteArray).data.toList.length = 1 := rfl
  omega
set_option maxRecDepth 100000 in
set_option maxHeartbeats 4000000 in
theorem text_plain (f : Fr) (hf : f.fit) (h3 : ¬ f.kind = 3) (h4 : ¬ f.kind = 4) (w : World) (hE : Env w) : Calls Tryd.prog 12 #[.agg #[.int .i64 f.kind, .int .u8 f.src, .int .u8 f.dst, .int .u16 f.sinc, .int .u16 f.dinc, .int .u16 f.ec, .int .u8 f.ea, .int .u16 f.ei, .int .u16 f.hop, .int .u16 f.hc, .int .u8 f.ha, .int .u16 f.hi, .bool f.wants, .int .u8 f.blk, .int .u16 f.vinc, .int .u32 f.vseq, .int .u8 f.part, .int .u8 f.parts, .string f.bytes]] w fun e w' => e = .returned (.string (joinB (words5 f))) ∧ Below w.heap.size w w' := by
  have d3 : (f.kind == 3) = false := by simp [h3]
  have d4 : (f.kind == 4) = false := by simp [h4]
  obtain ⟨u1, u2, u3, u4, u5, u6, u7, u8, -⟩ := hf
  have hx : (⟨f.ec, f.ea, f.ei⟩ : Ep).fit := ⟨by simp only; omega, by simp only; omega, by simp only; omega⟩
  have s1 := textE_size _ hx
  have s2 := dgs_size2 f.hop (by omega)
  have sd : (⟨#[47]⟩ : ByteArray).size ≤ 1 := by decide
  have a1 := add_run 62 1 s1 sd (by omega)
  have a2 := add_run 63 20 (add_size s1 sd) s2 (by omega)
  have w1' : IntKind.u64.wrap (f.src : Int) = f.src := by rw [IntKind.wrap_u64]; omega
  have w2' : IntKind.u64.wrap (f.hop : Int) = f.hop := by rw [IntKind.wrap_u64]; omega
  have HX := Lib.hid hx
  have HE := Lib.hid hE
  have v1 : (f.src : Int) ≤ 4294967296 := by omega
  have v2 : (f.hop : Int) ≤ 4294967296 := by omega
  clear h3 h4 s1 s2 sd hx hE
  go_enter Tryd.func12, Tryd.ntmps12
  go_wp2
  refine world_cut (G := fun W => Code.wp _ _ _ _ W) (fun W => TS w.heap.size #[.int .i64 f.kind, .int .u8 f.src, .int .u8 f.dst, .int .u16 f.sinc, .int .u16 f.dinc, .int .u16 f.ec, .int .u8 f.ea, .int .u16 f.ei, .int .u16 f.hop, .int .u16 f.hc, .int .u8 f.ha, .int .u16 f.hi, .bool f.wants, .int .u8 f.blk, .int .u16 f.vinc, .int .u32 f.vseq, .int .u8 f.part, .int .u8 f.parts, .string f.bytes] w W.drew) (by
    exact TS.drew ⟨⟨ok_new _ _ _ _ rfl rfl, row_new _ _ _ _ rfl rfl, (Below.refl _ _).alloc (Nat.le_refl _) _, by simp⟩, HE.out.below ((Below.refl _ _).alloc (Nat.le_refl _) _)⟩) ?_
  rintro W hA1
  generalize hn : w.heap.size = n at *
  have HN := Lib.hid hn
  clear hn
  go_region_held3 (fun W' => RowOk W' n ∧ rowArr W' n = #[.int .i64 f.kind, .int .u8 f.src, .int .u8 f.dst, .int .u16 f.sinc, .int .u16 f.dinc, .int .u16 f.ec, .int .u8 f.ea, .int .u16 f.ei, .int .u16 f.hop, .int .u16 f.hc, .int .u8 f.ha, .int .u16 f.hi, .bool f.wants, .int .u8 f.blk, .int .u16 f.vinc, .int .u32 f.vseq, .int .u8 f.part, .int .u8 f.parts, .string f.bytes] ∧ W'.cell? ⟨n, 0, none⟩ = some (.int .i64 f.kind) ∧ W'.cell? ⟨n, 1, none⟩ = some (.int .u8 f.src) ∧ W'.cell? ⟨n, 5, none⟩ = some (.int .u16 f.ec) ∧ W'.cell? ⟨n, 6, none⟩ = some (.int .u8 f.ea) ∧ W'.cell? ⟨n, 7, none⟩ = some (.int .u16 f.ei) ∧ W'.cell? ⟨n, 8, none⟩ = some (.int .u16 f.hop)) ((first | exact ⟨hA1.1.1, hA1.1.2.1, hA1.1.cell 0 _ rfl, hA1.1.cell 1 _ rfl, hA1.1.cell 5 _ rfl, hA1.1.cell 6 _ rfl, hA1.1.cell 7 _ rfl, hA1.1.cell 8 _ rfl⟩ | exact ⟨(TS.alloc hA1 _).1.1, (TS.alloc hA1 _).1.2.1, (TS.alloc hA1 _).1.cell 0 _ rfl, (TS.alloc hA1 _).1.cell 1 _ rfl, (TS.alloc hA1 _).1.cell 5 _ rfl, (TS.alloc hA1 _).1.cell 6 _ rfl, (TS.alloc hA1 _).1.cell 7 _ rfl, (TS.alloc hA1 _).1.cell 8 _ rfl⟩))
    ((first | (go_at_call 33; (with_reducible refine (kindName_any _ _).mono ?_); rintro e w1 ⟨rfl, rfl⟩) | (go_at_call 34; (with_reducible refine (fdigits_any _ (by assumption) _ hA1.env).mono ?_); rintro e w1 ⟨rfl, hb1⟩; have hA2 := TS.mem hA1 hb1; clear hA1 hb1; have hA1 := hA2; clear hA2) | (go_at_call 35; (with_reducible refine (target_any f u2 _ hA1.env).mono ?_); rintro e w1 ⟨rfl, hb1⟩; have hA2 := TS.mem hA1 hb1; clear hA1 hb1; have hA1 := hA2; clear hA2) | (go_at_call 36; (with_reducible refine (Epo.text_any ⟨f.ec, f.ea, f.ei⟩ HX.out _ hA1.env).mono ?_); rintro e w1 ⟨rfl, hb1⟩; have hA2 := TS.mem hA1 hb1; clear hA1 hb1; have hA1 := hA2; clear hA2)))
  have c0 := hA1.1.cell 0 _ rfl
  have hlt := hA1.1.2.2.2
  have HA := Lib.hid hA1
  clear hA1
  go_wp2_with fail
  refine (Tryd.strings_Join _ 0 5 (words5 f) ⟨#[32]⟩ _ (fun j x hx => by
    rw [Nat.zero_add, World.cell?_alloc_new]
    show ((words5 f).map Value.string).toArray[j]? = _
    simp [hx]) (by simp) (by simp [words5]) (by simp [words5]) (Nat.le_trans (words5_len f (by omega) (by omega) (by omega) HX.out) (by decide))).mono ?_
  rintro e w2 ⟨rfl, hb2⟩
  go_wp2
  go_ret
  refine ⟨rfl, ?_⟩
  rw [HN.out]
  have hB := HA.out.1.2.2.1
  exact (below_new hB (Nat.le_of_lt hlt) _).trans (hb2.mono (by simp; omega))

end Go.Proofs.YtindekpmicbbiaaDoor
