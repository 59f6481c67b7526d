/-
  A frame's text, of Status and Data too: the code, walked. Conditions: numbers such as their kinds hold; the library's table of powers is as the program lays it.
-/
import Derived.Test.YtindekpmicbbiaaDoorTxt
import Derived.Maps.AppendAt
import Derived.Laws.OwnMore
import Derived.OwnWalk
namespace Go.Proofs.YtindekpmicbbiaaDoor
open Go.RowKit
open Oct Sums

set_option linter.unusedSimpArgs false
attribute [local go_sem ↓] exec_bd exec_ld exec_st load_row loadVar_row store_row
attribute [local go_sem] bd_0 bd_1 bd_5 bd_6 ld_row st_row set_cell_lt set_cell_gt one_int one_bool one_str row_new ok_new free_new row_old ok_old_iff free_old_iff put_in put_cell_lt put_cell_gt put_frozen row_put_in row_put_lt row_put_gt ok_put_iff free_put_iff put_size row_set_in row_set_lt row_set_gt ok_set_iff free_set_iff drew_cell drew_frozen drew_size row_drew ok_drew free_drew

open Epo
theorem Tryd.infoStr : (Tryd.prog.info? 9).map (fun i => (i.zero, i.size, i.bytes)) = some (some (.string ⟨#[]⟩), 1, 16) := by kernel_rfl
def strs (l : List ByteArray) : List Value := l.map Value.string
def sideB (b : Bool) : ByteArray := if b then ⟨#[105, 110]⟩ else ⟨#[111, 117, 116]⟩
theorem side_any (b : Bool) (w : World) : Calls Tryd.prog 37 #[.bool b] w fun e w' => e = .returned (.string (sideB b)) ∧ w = w' := by
  cases b
  all_goals
    go_enter Tryd.func37, Tryd.ntmps37
    go_wp2
    go_ret
    exact ⟨rfl, rfl⟩
def tailW (f : Fr) : List ByteArray :=
  if f.kind = 3 then [⟨#[104, 105, 103, 104]⟩, textE ⟨f.hc, f.ha, f.hi⟩, sideB f.wants]
  else if f.kind = 4 then [⟨#[98, 108, 111, 99, 107]⟩, dgs f.blk, dgs f.vinc ++ ⟨#[46]⟩ ++ dgs f.vseq, dgs (f.part + 1), ⟨#[111, 102]⟩, dgs f.parts]
  else []
def wordsB (f : Fr) : List ByteArray := words5 f ++ tailW f

theorem own_base {w : World} {base n size : Nat} {e : TypeId} {v : Value} {xs : List Value} (h : w.ownsRow base e size v n xs) (g : Nat) (hg : v.ownBlock = some g) : base ≤ g := by
  rcases h.2 with ⟨rfl, _⟩ | ⟨g', cap, cur, rfl, hb, _⟩
  · simp [Value.ownBlock] at hg
  · simp [Value.ownBlock] at hg; omega
theorem own_below {w w' : World} {base n size : Nat} {e : TypeId} {v : Value} {xs : List Value} (h : w.ownsRow base e size v n xs) (hb : Below w.heap.size w w') : w'.ownsRow base e size v n xs :=
  h.kept (row := none) ⟨hb.os, hb.tape, hb.output, hb.size, fun k hk _ => hb.block k hk⟩ (by
    rcases h.2 with ⟨rfl, _⟩ | ⟨g, cap, cur, rfl, _⟩
    · exact .inl rfl
    · exact .inr (by simp [Value.ownBlock]))

theorem join_own (xs : List ByteArray) (hx : xs ≠ []) (base : Nat) (v : Value) (w : World) (h : w.ownsRow base 9 1 v xs.length (strs xs)) (hlen : (Lib.join (xs.map (·.data.toList)) [32]).length ≤ 5000) (hn : xs.length ≤ 100) :
    Calls Tryd.prog 38 #[v, .string ⟨#[32]⟩] w fun e w' => e = .returned (.string (joinB xs)) ∧ Below w.heap.size w w' := by
  rcases h.2 with ⟨rfl, h0⟩ | ⟨g, cap, cur, rfl, hb, hg, hc, _⟩
  · exact absurd (List.eq_nil_of_length_eq_zero h0) hx
  · have hlt : g < w.heap.size := by
      rcases Nat.lt_or_ge g w.heap.size with hlt | hge
      · exact hlt
      · rw [Array.getElem?_eq_none hge] at hg; simp at hg
    exact Tryd.strings_Join g 0 cap xs ⟨#[32]⟩ w (fun j x hx => by
      have hj : j < xs.length := (List.getElem?_eq_some_iff.1 hx).1
      rw [Nat.zero_add, h.cellAt j (by omega)]
      simp [strs, hx]) hlt (by omega) hc (Nat.le_trans hlen (by decide))

/-- The frame's block, the table, and the words' row. -/
def WS (n : Nat) (c : Array Value) (w W : World) (v : Value) (l : List ByteArray) : Prop := TS n c w W ∧ W.ownsRow (n + 1) 9 1 v l.length (strs l)
theorem WS.mem {n : Nat} {c : Array Value} {w W W' : World} {v : Value} {l : List ByteArray} (h : WS n c w W v l) (hb : Below W.heap.size W W') : WS n c w W' v l := ⟨h.1.mem hb, own_below h.2 hb⟩
theorem WS.new {n : Nat} {c : Array Value} {w W : World} {v : Value} {l : List ByteArray} (h : WS n c w W v l) (o : Obj) : WS n c w (W.alloc o) v l := h.mem ((Below.refl _ _).alloc (Nat.le_refl _) _)
theorem WS.drew {n : Nat} {c : Array Value} {w W : World} {v : Value} {l : List ByteArray} (h : WS n c w W v l) : WS n c w W.drew v l := h.mem (Below.refl _ _).drew
theorem WS.env {n : Nat} {c : Array Value} {w W : World} {v : Value} {l : List ByteArray} (h : WS n c w W v l) : Env W := h.1.env
theorem WS.cell {n : Nat} {c : Array Value} {w W : World} {v : Value} {l : List ByteArray} (h : WS n c w W v l) (k : Nat) (u : Value) (hv : c[k]? = some u) : W.cell? ⟨n, k, none⟩ = some u := h.1.1.cell k u hv
theorem WS.start {n : Nat} {c : Array Value} {w W : World} (h : TS n c w W) (l : List ByteArray) (hl : l.length ≤ 100) : WS n c w (W.alloc (.cells (strs l).toArray 9)) (.slice (some ⟨W.heap.size, 0, none⟩) l.length l.length) l :=
  ⟨h.alloc _, by
    have h1 := World.ownsRow_lit (e := 9) (size := 1) (base := n + 1) W (strs l).toArray l.length h.1.2.2.2 (by unfold maxLen; omega) (by simp [strs])
    simpa using h1⟩
/-- Behind an append. -/
theorem WS.app {n : Nat} {c : Array Value} {w W W' : World} {v : Value} {l : List ByteArray} (h : WS n c w W v l) (hg : W.grownBy W' v.ownBlock) : Below n w W' := by
  have h1 : Below (n + 1) W W' := (Below.refl (n + 1) W).grown hg h.1.1.2.2.2 (own_base h.2)
  exact h.1.1.2.2.1.trans (h1.mono (Nat.le_succ n))

theorem news_at (w : World) (l : List Value) (t : TypeId) : ∀ j u, l[j]? = some u → (w.alloc (.cells l.toArray t)).cell? ((⟨w.heap.size, 0, none⟩ : Addr).add j) = some u := by
  intro j u h
  have e : (⟨w.heap.size, 0, none⟩ : Addr).add j = ⟨w.heap.size, j, none⟩ := by unfold Addr.add; split <;> simp_all
  rw [e, World.cell?_alloc_new]
  simpa using h
theorem WS.appcell {n : Nat} {c : Array Value} {w W W' : World} {v : Value} {l : List ByteArray} (h : WS n c w W v l) (hg : W.grownBy W' v.ownBlock) (k : Nat) (u : Value) (hv : c[k]? = some u) : W'.cell? ⟨n, k, none⟩ = some u := by
  have hb := hg.block n h.1.1.2.2.2 (fun e => by have := own_base h.2 n e.symm; omega)
  exact (World.cell?_of_block (a := ⟨n, k, none⟩) hb).trans (h.cell k u hv)
theorem join_bound (xs : List ByteArray) (h : ∀ x ∈ xs, x.size ≤ 100) (hn : xs.length ≤ 20) : (Lib.join (xs.map (·.data.toList)) [32]).length ≤ 5000 := by
  cases xs with
  | nil => simp [Lib.join_nil]
  | cons a r =>
    rw [List.map_cons, Lib.join_length]
    have hl : ∀ (l : List ByteArray), (∀ x ∈ l, x.size ≤ 100) → Lib.lens (l.map (·.data.toList)) ≤ 100 * l.length := by
      intro l
      induction l with
      | nil => intro _; simp [Lib.lens]
      | cons y l ih =>
        intro hy
        have h1 := ih (fun x hx => hy x (by simp [hx]))
        have h2 := hy y (by simp)
        have h3 := size_list y
        simp only [Lib.lens, List.map_cons, List.sum_cons, List.length_cons] at *
        omega
    have h2 := hl (a :: r) h
    simp only [List.map_cons, List.length_cons, List.length_map, List.length_nil] at *
    omega
theorem words5_size (f : Fr) (hf : f.fit) : ∀ x ∈ words5 f, x.size ≤ 100 := by
  obtain ⟨u1, u2, u3, u4, u5, u6, u7, u8, -⟩ := hf
  have hx : (⟨f.ec, f.ea, f.ei⟩ : Ep).fit := ⟨by simp only; omega, by simp only; omega, by simp only; omega⟩
  have s1 := textE_size _ hx
  have s2 := dgs_size2 f.hop (by omega)
  have s3 := dgs_size2 f.src (by omega)
  have s4 : (targetB f).size ≤ 20 := by
    unfold targetB
    split
    · decide
    · exact dgs_size2 f.dst (by omega)
  have s5 := nameB_size f.kind
  have s6 : (epB f).size ≤ 83 := by
    unfold epB
    simp only [ByteArray.size_append]
    have : (⟨#[47]⟩ : ByteArray).size = 1 := rfl
    omega
  have s7 : (⟨#[62]⟩ : ByteArray).size = 1 := rfl
  intro x hx
  simp only [words5, List.mem_cons, List.not_mem_nil, or_false] at hx
  rcases hx with rfl | rfl | rfl | rfl | rfl <;> omega

set_option maxRecDepth 100000 in
set_option maxHeartbeats 4000000 in
theorem text_status (f : Fr) (hf : f.fit) (h3 : f.kind = 3) (w : World) (hE : Env w) : Calls Tryd.prog 12 #[.agg #[.int .i64 f.kind, .int .u8 f.src, .int .u8 f.dst, .int .u16 f.sinc, .int .u16 f.dinc, .int .u16 f.ec, .int .u8 f.ea, .int .u16 f.ei, .int .u16 f.hop, .int .u16 f.hc, .int .u8 f.ha, .int .u16 f.hi, .bool f.wants, .int .u8 f.blk, .int .u16 f.vinc, .int .u32 f.vseq, .int .u8 f.part, .int .u8 f.parts, .string f.bytes]] w fun e w' => e = .returned (.string (joinB (wordsB f))) ∧ Below w.heap.size w w' := by
  have d3 : (f.kind == 3) = true := by simp [h3]
  have d4 : (f.kind == 4) = false := by simp [h3]
  have hf0 := hf
  obtain ⟨i0, hi, hz0, hz1, hz2⟩ := info_parts Tryd.infoStr
  have HI := Lib.hid hi
  have H0 := Lib.hid hz0
  have H1 := Lib.hid hz1
  have H2 := Lib.hid hz2
  clear hi hz0 hz1 hz2
  obtain ⟨u1, u2, u3, u4, u5, u6, u7, u8, -⟩ := hf
  have hx : (⟨f.ec, f.ea, f.ei⟩ : Ep).fit := ⟨by simp only; omega, by simp only; omega, by simp only; omega⟩
  have s1 := textE_size _ hx
  have s2 := dgs_size2 f.hop (by omega)
  have sd : (⟨#[47]⟩ : ByteArray).size ≤ 1 := by decide
  have a1 := add_run 62 1 s1 sd (by omega)
  have a2 := add_run 63 20 (add_size s1 sd) s2 (by omega)
  have w1' : IntKind.u64.wrap (f.src : Int) = f.src := by rw [IntKind.wrap_u64]; omega
  have w2' : IntKind.u64.wrap (f.hop : Int) = f.hop := by rw [IntKind.wrap_u64]; omega
  have HX := Lib.hid hx
  have HE := Lib.hid hE
  have v1 : (f.src : Int) ≤ 4294967296 := by omega
  have v2 : (f.hop : Int) ≤ 4294967296 := by omega
  have hx2 : (⟨f.hc, f.ha, f.hi⟩ : Ep).fit := by
    obtain ⟨_, _, _, _, _, _, _, _, u9, u10, u11, -⟩ := hf0
    exact ⟨by simp only; omega, by simp only; omega, by simp only; omega⟩
  have HX2 := Lib.hid hx2
  have HW : Hid (wordsB f = words5 f ++ [⟨#[104, 105, 103, 104]⟩, textE ⟨f.hc, f.ha, f.hi⟩, sideB f.wants]) := Lib.hid (by unfold wordsB tailW; rw [if_pos h3])
  have HNE : Hid (wordsB f ≠ []) := Lib.hid (by rw [HW.out]; simp)
  have HLN : Hid ((wordsB f).length ≤ 100) := Lib.hid (by rw [HW.out]; simp [words5])
  have HJ : Hid ((Lib.join ((wordsB f).map (·.data.toList)) [32]).length ≤ 5000) := Lib.hid (by
    apply join_bound
    · rw [HW.out]
      intro x hx
      rcases List.mem_append.1 hx with h | h
      · exact words5_size f hf0 x h
      · have t1 := textE_size _ hx2
        have t2 : (sideB f.wants).size ≤ 3 := by unfold sideB; split <;> decide
        have t3 : (⟨#[104, 105, 103, 104]⟩ : ByteArray).size = 4 := rfl
        simp only [List.mem_cons, List.not_mem_nil, or_false] at h
        rcases h with rfl | rfl | rfl <;> omega
    · rw [HW.out]; simp [words5])
  clear h3 s1 s2 sd hx hE hx2 hf0
  go_enter Tryd.func12, Tryd.ntmps12
  go_wp2
  refine world_cut (G := fun W => Code.wp _ _ _ _ W) (fun W => TS w.heap.size #[.int .i64 f.kind, .int .u8 f.src, .int .u8 f.dst, .int .u16 f.sinc, .int .u16 f.dinc, .int .u16 f.ec, .int .u8 f.ea, .int .u16 f.ei, .int .u16 f.hop, .int .u16 f.hc, .int .u8 f.ha, .int .u16 f.hi, .bool f.wants, .int .u8 f.blk, .int .u16 f.vinc, .int .u32 f.vseq, .int .u8 f.part, .int .u8 f.parts, .string f.bytes] w W.drew) (by
    exact TS.drew ⟨⟨ok_new _ _ _ _ rfl rfl, row_new _ _ _ _ rfl rfl, (Below.refl _ _).alloc (Nat.le_refl _) _, by simp⟩, HE.out.below ((Below.refl _ _).alloc (Nat.le_refl _) _)⟩) ?_
  rintro W hA1
  generalize hn : w.heap.size = n at *
  have HN := Lib.hid hn
  clear hn
  go_region_held3 (fun W' => RowOk W' n ∧ rowArr W' n = #[.int .i64 f.kind, .int .u8 f.src, .int .u8 f.dst, .int .u16 f.sinc, .int .u16 f.dinc, .int .u16 f.ec, .int .u8 f.ea, .int .u16 f.ei, .int .u16 f.hop, .int .u16 f.hc, .int .u8 f.ha, .int .u16 f.hi, .bool f.wants, .int .u8 f.blk, .int .u16 f.vinc, .int .u32 f.vseq, .int .u8 f.part, .int .u8 f.parts, .string f.bytes] ∧ W'.cell? ⟨n, 0, none⟩ = some (.int .i64 f.kind) ∧ W'.cell? ⟨n, 1, none⟩ = some (.int .u8 f.src) ∧ W'.cell? ⟨n, 5, none⟩ = some (.int .u16 f.ec) ∧ W'.cell? ⟨n, 6, none⟩ = some (.int .u8 f.ea) ∧ W'.cell? ⟨n, 7, none⟩ = some (.int .u16 f.ei) ∧ W'.cell? ⟨n, 8, none⟩ = some (.int .u16 f.hop)) ((first | exact ⟨hA1.1.1, hA1.1.2.1, hA1.1.cell 0 _ rfl, hA1.1.cell 1 _ rfl, hA1.1.cell 5 _ rfl, hA1.1.cell 6 _ rfl, hA1.1.cell 7 _ rfl, hA1.1.cell 8 _ rfl⟩ | exact ⟨(TS.alloc hA1 _).1.1, (TS.alloc hA1 _).1.2.1, (TS.alloc hA1 _).1.cell 0 _ rfl, (TS.alloc hA1 _).1.cell 1 _ rfl, (TS.alloc hA1 _).1.cell 5 _ rfl, (TS.alloc hA1 _).1.cell 6 _ rfl, (TS.alloc hA1 _).1.cell 7 _ rfl, (TS.alloc hA1 _).1.cell 8 _ rfl⟩))
    ((first | (go_at_call 33; (with_reducible refine (kindName_any _ _).mono ?_); rintro e w1 ⟨rfl, rfl⟩) | (go_at_call 34; (with_reducible refine (fdigits_any _ (by assumption) _ hA1.env).mono ?_); rintro e w1 ⟨rfl, hb1⟩; have hA2 := TS.mem hA1 hb1; clear hA1 hb1; have hA1 := hA2; clear hA2) | (go_at_call 35; (with_reducible refine (target_any f u2 _ hA1.env).mono ?_); rintro e w1 ⟨rfl, hb1⟩; have hA2 := TS.mem hA1 hb1; clear hA1 hb1; have hA1 := hA2; clear hA2) | (go_at_call 36; (with_reducible refine (Epo.text_any ⟨f.ec, f.ea, f.ei⟩ HX.out _ hA1.env).mono ?_); rintro e w1 ⟨rfl, hb1⟩; have hA2 := TS.mem hA1 hb1; clear hA1 hb1; have hA1 := hA2; clear hA2)))
  have hq := WS.start hA1 (words5 f) (by simp [words5])
  have c0 := hA1.1.cell 0 _ rfl
  have HA0 := Lib.hid hA1
  clear hA1
  go_wp2
  refine world_cut (G := fun W => Code.wp _ _ _ _ W) (fun W' => WS n #[.int .i64 f.kind, .int .u8 f.src, .int .u8 f.dst, .int .u16 f.sinc, .int .u16 f.dinc, .int .u16 f.ec, .int .u8 f.ea, .int .u16 f.ei, .int .u16 f.hop, .int .u16 f.hc, .int .u8 f.ha, .int .u16 f.hi, .bool f.wants, .int .u8 f.blk, .int .u16 f.vinc, .int .u32 f.vseq, .int .u8 f.part, .int .u8 f.parts, .string f.bytes] w W' (.slice (some ⟨_, 0, none⟩) 5 5) (words5 f)) hq ?_
  clear hq c0 HA0
  rintro V hA1
  generalize w1.heap.size = q at *
  have hA2 := hA1.drew
  clear hA1
  have hA1 := hA2
  clear hA2
  go_region_held3 (fun W' => W'.cell? ⟨n, 9, none⟩ = some (.int .u16 f.hc) ∧ W'.cell? ⟨n, 10, none⟩ = some (.int .u8 f.ha) ∧ W'.cell? ⟨n, 11, none⟩ = some (.int .u16 f.hi) ∧ W'.cell? ⟨n, 12, none⟩ = some (.bool f.wants)) ((first | exact ⟨hA1.cell 9 _ rfl, hA1.cell 10 _ rfl, hA1.cell 11 _ rfl, hA1.cell 12 _ rfl⟩ | exact ⟨(hA1.new _).cell 9 _ rfl, (hA1.new _).cell 10 _ rfl, (hA1.new _).cell 11 _ rfl, (hA1.new _).cell 12 _ rfl⟩ | exact ⟨hA9.appcell hg9 9 _ rfl, hA9.appcell hg9 10 _ rfl, hA9.appcell hg9 11 _ rfl, hA9.appcell hg9 12 _ rfl⟩))
    ((first | (go_at_call 36; (with_reducible refine (Epo.text_any ⟨f.hc, f.ha, f.hi⟩ HX2.out _ hA1.env).mono ?_); rintro e w1 ⟨rfl, hb1⟩; have hA2 := WS.mem hA1 hb1; clear hA1 hb1; have hA1 := hA2; clear hA2) | (go_at_call 37; (with_reducible refine (side_any _ _).mono ?_); rintro e w1 ⟨rfl, rfl⟩) | (rw [if_pos (by rfl)]; have hA9 := hA1.new (.cells [.string ⟨#[104, 105, 103, 104]⟩, .string (textE ⟨f.hc, f.ha, f.hi⟩), .string (sideB f.wants)].toArray 9); refine wp_append_own _ (.tmp 27) (.tmp 34) 62 rfl (n + 1) 9 i0 (.string ⟨#[]⟩) 1 16 Tryd.underlying62 HI.out H0.out H1.out H2.out rfl (by decide) _ 5 (strs (words5 f)) rfl hA9.2 ⟨_, 0, none⟩ 3 3 [.string ⟨#[104, 105, 103, 104]⟩, .string (textE ⟨f.hc, f.ha, f.hi⟩), .string (sideB f.wants)] rfl rfl (news_at _ _ _) (by intro u hu; simp at hu; rcases hu with rfl | rfl | rfl <;> rfl) (by unfold maxLen; omega) (by omega) (Nat.le_trans hA9.1.1.2.2.2 (Nat.le_refl _)) ?_; intro v9 w9 hown9 hg9 _)))
  go_wp2_with fail
  have hown : w9.ownsRow (n + 1) 9 1 v9 (wordsB f).length (strs (wordsB f)) := by rw [HW.out]; exact hown9
  refine (join_own (wordsB f) HNE.out (n + 1) v9 w9 hown HJ.out HLN.out).mono ?_
  rintro e w10 ⟨rfl, hb10⟩
  go_wp2
  go_ret
  refine ⟨rfl, ?_⟩
  rw [HN.out]
  have q0 := hA9.app hg9
  exact q0.trans (hb10.mono (Nat.le_trans (Nat.le_of_lt hA9.1.1.2.2.2) hg9.size))

set_option maxRecDepth 100000 in
set_option maxHeartbeats 4000000 in
theorem text_data (f : Fr) (hf : f.fit) (h4 : f.kind = 4) (w : World) (hE : Env w) : Calls Tryd.prog 12 #[.agg #[.int .i64 f.kind, .int .u8 f.src, .int .u8 f.dst, .int .u16 f.sinc, .int .u16 f.dinc, .int .u16 f.ec, .int .u8 f.ea, .int .u16 f.ei, .int .u16 f.hop, .int .u16 f.hc, .int .u8 f.ha, .int .u16 f.hi, .bool f.wants, .int .u8 f.blk, .int .u16 f.vinc, .int .u32 f.vseq, .int .u8 f.part, .int .u8 f.parts, .string f.bytes]] w fun e w' => e = .returned (.string (joinB (wordsB f))) ∧ Below w.heap.size w w' := by
  have d3 : (f.kind == 3) = false := by simp [h4]
  have d4 : (f.kind == 4) = true := by simp [h4]
  have hf0 := hf
  obtain ⟨i0, hi, hz0, hz1, hz2⟩ := info_parts Tryd.infoStr
  have HI := Lib.hid hi
  have H0 := Lib.hid hz0
  have H1 := Lib.hid hz1
  have H2 := Lib.hid hz2
  clear hi hz0 hz1 hz2
  obtain ⟨u1, u2, u3, u4, u5, u6, u7, u8, -⟩ := hf
  have hx : (⟨f.ec, f.ea, f.ei⟩ : Ep).fit := ⟨by simp only; omega, by simp only; omega, by simp only; omega⟩
  have s1 := textE_size _ hx
  have s2 := dgs_size2 f.hop (by omega)
  have sd : (⟨#[47]⟩ : ByteArray).size ≤ 1 := by decide
  have a1 := add_run 62 1 s1 sd (by omega)
  have a2 := add_run 63 20 (add_size s1 sd) s2 (by omega)
  have w1' : IntKind.u64.wrap (f.src : Int) = f.src := by rw [IntKind.wrap_u64]; omega
  have w2' : IntKind.u64.wrap (f.hop : Int) = f.hop := by rw [IntKind.wrap_u64]; omega
  have HX := Lib.hid hx
  have HE := Lib.hid hE
  have v1 : (f.src : Int) ≤ 4294967296 := by omega
  have v2 : (f.hop : Int) ≤ 4294967296 := by omega
  obtain ⟨p1, hp1⟩ : ∃ p, p = f.part + 1 := ⟨_, rfl⟩
  have u13 : f.blk ≤ 255 ∧ f.vinc ≤ 65535 ∧ f.vseq ≤ 4294967295 ∧ f.part ≤ 255 ∧ f.parts ≤ 255 := by
    obtain ⟨_, _, _, _, _, _, _, _, _, _, _, q1, q2, q3, q4, q5⟩ := hf0
    omega
  obtain ⟨q1, q2, q3, q4, q5⟩ := u13
  have z1 := dgs_size2 f.vinc (by omega)
  have z2 := dgs_size2 f.vseq (by omega)
  have zd : (⟨#[46]⟩ : ByteArray).size ≤ 1 := by decide
  have a3 := add_run 20 1 z1 zd (by omega)
  have a4 := add_run 21 20 (add_size z1 zd) z2 (by omega)
  have w3 : IntKind.u64.wrap (f.blk : Int) = f.blk := by rw [IntKind.wrap_u64]; omega
  have w4 : IntKind.u64.wrap (f.vinc : Int) = f.vinc := by rw [IntKind.wrap_u64]; omega
  have w5 : IntKind.u64.wrap (f.vseq : Int) = f.vseq := by rw [IntKind.wrap_u64]; omega
  have w6 : IntKind.u64.wrap (f.part : Int) = f.part := by rw [IntKind.wrap_u64]; omega
  have w7 : IntKind.u64.wrap (f.parts : Int) = f.parts := by rw [IntKind.wrap_u64]; omega
  have w8 : IntKind.u64.wrap ((f.part : Int) + 1) = p1 := by rw [IntKind.wrap_u64]; omega
  have v3 : (f.blk : Int) ≤ 4294967296 := by omega
  have v4 : (f.vinc : Int) ≤ 4294967296 := by omega
  have v5 : (f.vseq : Int) ≤ 4294967296 := by omega
  have v6 : (p1 : Int) ≤ 4294967296 := by omega
  have v7 : (f.parts : Int) ≤ 4294967296 := by omega
  have HW : Hid (wordsB f = words5 f ++ [⟨#[98, 108, 111, 99, 107]⟩, (dgs f.blk), (dgs f.vinc ++ ⟨#[46]⟩ ++ dgs f.vseq), (dgs p1), ⟨#[111, 102]⟩, (dgs f.parts)]) := Lib.hid (by unfold wordsB tailW; rw [if_neg (by omega), if_pos h4, hp1])
  have HNE : Hid (wordsB f ≠ []) := Lib.hid (by rw [HW.out]; simp)
  have HLN : Hid ((wordsB f).length ≤ 100) := Lib.hid (by rw [HW.out]; simp [words5])
  have HJ : Hid ((Lib.join ((wordsB f).map (·.data.toList)) [32]).length ≤ 5000) := Lib.hid (by
    apply join_bound
    · rw [HW.out]
      intro x hx
      rcases List.mem_append.1 hx with h | h
      · exact words5_size f hf0 x h
      · have t1 := dgs_size2 f.blk (by omega)
        have t2 := dgs_size2 p1 (by omega)
        have t3 := dgs_size2 f.parts (by omega)
        have t4 : (dgs f.vinc ++ ⟨#[46]⟩ ++ dgs f.vseq).size ≤ 41 := by simp only [ByteArray.size_append]; omega
        have t5 : (⟨#[98, 108, 111, 99, 107]⟩ : ByteArray).size = 5 := rfl
        have t6 : (⟨#[111, 102]⟩ : ByteArray).size = 2 := rfl
        simp only [List.mem_cons, List.not_mem_nil, or_false] at h
        rcases h with rfl | rfl | rfl | rfl | rfl | rfl <;> omega
    · rw [HW.out]; simp [words5])
  clear h4 s1 s2 sd hx hE hf0 z1 z2 zd hp1 q1 q2 q3 q4 q5
  go_enter Tryd.func12, Tryd.ntmps12
  go_wp2
  refine world_cut (G := fun W => Code.wp _ _ _ _ W) (fun W => TS w.heap.size #[.int .i64 f.kind, .int .u8 f.src, .int .u8 f.dst, .int .u16 f.sinc, .int .u16 f.dinc, .int .u16 f.ec, .int .u8 f.ea, .int .u16 f.ei, .int .u16 f.hop, .int .u16 f.hc, .int .u8 f.ha, .int .u16 f.hi, .bool f.wants, .int .u8 f.blk, .int .u16 f.vinc, .int .u32 f.vseq, .int .u8 f.part, .int .u8 f.parts, .string f.bytes] w W.drew) (by
    exact TS.drew ⟨⟨ok_new _ _ _ _ rfl rfl, row_new _ _ _ _ rfl rfl, (Below.refl _ _).alloc (Nat.le_refl _) _, by simp⟩, HE.out.below ((Below.refl _ _).alloc (Nat.le_refl _) _)⟩) ?_
  rintro W hA1
  generalize hn : w.heap.size = n at *
  have HN := Lib.hid hn
  clear hn
  go_region_held3 (fun W' => RowOk W' n ∧ rowArr W' n = #[.int .i64 f.kind, .int .u8 f.src, .int .u8 f.dst, .int .u16 f.sinc, .int .u16 f.dinc, .int .u16 f.ec, .int .u8 f.ea, .int .u16 f.ei, .int .u16 f.hop, .int .u16 f.hc, .int .u8 f.ha, .int .u16 f.hi, .bool f.wants, .int .u8 f.blk, .int .u16 f.vinc, .int .u32 f.vseq, .int .u8 f.part, .int .u8 f.parts, .string f.bytes] ∧ W'.cell? ⟨n, 0, none⟩ = some (.int .i64 f.kind) ∧ W'.cell? ⟨n, 1, none⟩ = some (.int .u8 f.src) ∧ W'.cell? ⟨n, 5, none⟩ = some (.int .u16 f.ec) ∧ W'.cell? ⟨n, 6, none⟩ = some (.int .u8 f.ea) ∧ W'.cell? ⟨n, 7, none⟩ = some (.int .u16 f.ei) ∧ W'.cell? ⟨n, 8, none⟩ = some (.int .u16 f.hop)) ((first | exact ⟨hA1.1.1, hA1.1.2.1, hA1.1.cell 0 _ rfl, hA1.1.cell 1 _ rfl, hA1.1.cell 5 _ rfl, hA1.1.cell 6 _ rfl, hA1.1.cell 7 _ rfl, hA1.1.cell 8 _ rfl⟩ | exact ⟨(TS.alloc hA1 _).1.1, (TS.alloc hA1 _).1.2.1, (TS.alloc hA1 _).1.cell 0 _ rfl, (TS.alloc hA1 _).1.cell 1 _ rfl, (TS.alloc hA1 _).1.cell 5 _ rfl, (TS.alloc hA1 _).1.cell 6 _ rfl, (TS.alloc hA1 _).1.cell 7 _ rfl, (TS.alloc hA1 _).1.cell 8 _ rfl⟩))
    ((first | (go_at_call 33; (with_reducible refine (kindName_any _ _).mono ?_); rintro e w1 ⟨rfl, rfl⟩) | (go_at_call 34; (with_reducible refine (fdigits_any _ (by assumption) _ hA1.env).mono ?_); rintro e w1 ⟨rfl, hb1⟩; have hA2 := TS.mem hA1 hb1; clear hA1 hb1; have hA1 := hA2; clear hA2) | (go_at_call 35; (with_reducible refine (target_any f u2 _ hA1.env).mono ?_); rintro e w1 ⟨rfl, hb1⟩; have hA2 := TS.mem hA1 hb1; clear hA1 hb1; have hA1 := hA2; clear hA2) | (go_at_call 36; (with_reducible refine (Epo.text_any ⟨f.ec, f.ea, f.ei⟩ HX.out _ hA1.env).mono ?_); rintro e w1 ⟨rfl, hb1⟩; have hA2 := TS.mem hA1 hb1; clear hA1 hb1; have hA1 := hA2; clear hA2)))
  have hq := WS.start hA1 (words5 f) (by simp [words5])
  have c0 := hA1.1.cell 0 _ rfl
  have HA0 := Lib.hid hA1
  clear hA1
  go_wp2
  refine world_cut (G := fun W => Code.wp _ _ _ _ W) (fun W' => WS n #[.int .i64 f.kind, .int .u8 f.src, .int .u8 f.dst, .int .u16 f.sinc, .int .u16 f.dinc, .int .u16 f.ec, .int .u8 f.ea, .int .u16 f.ei, .int .u16 f.hop, .int .u16 f.hc, .int .u8 f.ha, .int .u16 f.hi, .bool f.wants, .int .u8 f.blk, .int .u16 f.vinc, .int .u32 f.vseq, .int .u8 f.part, .int .u8 f.parts, .string f.bytes] w W' (.slice (some ⟨_, 0, none⟩) 5 5) (words5 f)) hq ?_
  clear hq c0 HA0
  rintro V hA1
  generalize w1.heap.size = q at *
  have hA2 := hA1.drew
  clear hA1
  have hA1 := hA2
  clear hA2
  go_region_held3 (fun W' => W'.cell? ⟨n, 13, none⟩ = some (.int .u8 f.blk) ∧ W'.cell? ⟨n, 14, none⟩ = some (.int .u16 f.vinc) ∧ W'.cell? ⟨n, 15, none⟩ = some (.int .u32 f.vseq) ∧ W'.cell? ⟨n, 16, none⟩ = some (.int .u8 f.part) ∧ W'.cell? ⟨n, 17, none⟩ = some (.int .u8 f.parts)) ((first | exact ⟨hA1.cell 13 _ rfl, hA1.cell 14 _ rfl, hA1.cell 15 _ rfl, hA1.cell 16 _ rfl, hA1.cell 17 _ rfl⟩ | exact ⟨(hA1.new _).cell 13 _ rfl, (hA1.new _).cell 14 _ rfl, (hA1.new _).cell 15 _ rfl, (hA1.new _).cell 16 _ rfl, (hA1.new _).cell 17 _ rfl⟩ | exact ⟨hA9.appcell hg9 13 _ rfl, hA9.appcell hg9 14 _ rfl, hA9.appcell hg9 15 _ rfl, hA9.appcell hg9 16 _ rfl, hA9.appcell hg9 17 _ rfl⟩))
    ((first | (go_at_call 34; (with_reducible refine (fdigits_any _ (by assumption) _ hA1.env).mono ?_); rintro e w1 ⟨rfl, hb1⟩; have hA2 := WS.mem hA1 hb1; clear hA1 hb1; have hA1 := hA2; clear hA2) | (rw [if_pos (by rfl)]; have hA9 := hA1.new (.cells [.string ⟨#[98, 108, 111, 99, 107]⟩, .string (dgs f.blk), .string (dgs f.vinc ++ ⟨#[46]⟩ ++ dgs f.vseq), .string (dgs p1), .string ⟨#[111, 102]⟩, .string (dgs f.parts)].toArray 9); refine wp_append_own _ (.tmp 38) (.tmp 64) 62 rfl (n + 1) 9 i0 (.string ⟨#[]⟩) 1 16 Tryd.underlying62 HI.out H0.out H1.out H2.out rfl (by decide) _ 5 (strs (words5 f)) rfl hA9.2 ⟨_, 0, none⟩ 6 6 [.string ⟨#[98, 108, 111, 99, 107]⟩, .string (dgs f.blk), .string (dgs f.vinc ++ ⟨#[46]⟩ ++ dgs f.vseq), .string (dgs p1), .string ⟨#[111, 102]⟩, .string (dgs f.parts)] rfl rfl (news_at _ _ _) (by intro u hu; simp at hu; rcases hu with rfl | rfl | rfl | rfl | rfl | rfl <;> rfl) (by unfold maxLen; omega) (by omega) (Nat.le_trans hA9.1.1.2.2.2 (Nat.le_refl _)) ?_; intro v9 w9 hown9 hg9 _)))
  go_wp2_with fail
  have hown : w9.ownsRow (n + 1) 9 1 v9 (wordsB f).length (strs (wordsB f)) := by rw [HW.out]; exact hown9
  refine (join_own (wordsB f) HNE.out (n + 1) v9 w9 hown HJ.out HLN.out).mono ?_
  rintro e w10 ⟨rfl, hb10⟩
  go_wp2
  go_ret
  refine ⟨rfl, ?_⟩
  rw [HN.out]
  have q0 := hA9.app hg9
  exact q0.trans (hb10.mono (Nat.le_trans (Nat.le_of_lt hA9.1.1.2.2.2) hg9.size))

theorem ftext_any (f : Fr) (hf : f.fit) (w : World) (hE : Env w) : Calls Tryd.prog 12 #[.agg #[.int .i64 f.kind, .int .u8 f.src, .int .u8 f.dst, .int .u16 f.sinc, .int .u16 f.dinc, .int .u16 f.ec, .int .u8 f.ea, .int .u16 f.ei, .int .u16 f.hop, .int .u16 f.hc, .int .u8 f.ha, .int .u16 f.hi, .bool f.wants, .int .u8 f.blk, .int .u16 f.vinc, .int .u32 f.vseq, .int .u8 f.part, .int .u8 f.parts, .string f.bytes]] w fun e w' => e = .returned (.string (joinB (wordsB f))) ∧ Below w.heap.size w w' := by
  by_cases h3 : f.kind = 3
  · exact text_status f hf h3 w hE
  by_cases h4 : f.kind = 4
  · exact text_data f hf h4 w hE
  have e : wordsB f = words5 f := by unfold wordsB tailW; rw [if_neg h3, if_neg h4, List.append_nil]
  rw [e]
  exact text_plain f hf h3 h4 w hE

end Go.Proofs.YtindekpmicbbiaaDoor
