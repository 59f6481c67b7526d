/-
  Of, the program's and the reference's; same: walked. Conditions: none.
-/
import Derived.Test.YtnpdcbccooinpaaBlFind
namespace Go.Proofs.Ytnpdcbccooinpaa.Bl
open Go.RowKit

theorem infoInt : (Try.prog.info? 3).map (fun i => (i.zero, i.size, i.bytes)) = some (some (.int .i64 0), 1, 8) := by kernel_rfl
theorem info_parts {P : Program} {t : TypeId} {z : Option Value} {a b : Nat} (h : (P.info? t).map (fun i => (i.zero, i.size, i.bytes)) = some (z, a, b)) : ∃ i, P.info? t = some i ∧ i.zero = z ∧ i.size = a ∧ i.bytes = b := by
  cases hi : P.info? t with
  | none => rw [hi] at h; cases h
  | some i =>
    rw [hi] at h
    simp at h
    exact ⟨i, rfl, h.1, h.2.1, h.2.2⟩
def ints (l : List Int) : List Value := l.map (Value.int .i64)
theorem ints_length (l : List Int) : (ints l).length = l.length := by simp [ints]
theorem own_base {w : World} {base n size : Nat} {e : TypeId} {v : Value} {xs : List Value} (h : w.ownsRow base e size v n xs) (g : Nat) (hg : v.ownBlock = some g) : base ≤ g := by
  rcases h.2 with ⟨rfl, _⟩ | ⟨g', cap, cur, rfl, hb, _⟩
  · simp [Value.ownBlock] at hg
  · simp [Value.ownBlock] at hg; omega
theorem own_form {w : World} {base n size : Nat} {e : TypeId} {v : Value} {xs : List Value} (h : w.ownsRow base e size v n xs) : ∃ A c, v = .slice A n c := by
  rcases h.2 with ⟨rfl, h0⟩ | ⟨g', cap, cur, rfl, _⟩
  · exact ⟨none, 0, by rw [h0]⟩
  · exact ⟨_, _, rfl⟩
/-- Numbers in a row of the call's own. -/
def Row (N : Nat) (w : World) (v : Value) (l : List Int) : Prop := w.ownsRow N 3 1 v l.length (ints l)
theorem Row.nil (N : Nat) (w : World) : Row N w (.slice none 0 0) [] := ⟨rfl, .inl ⟨rfl, rfl⟩⟩
theorem cell_one_new (w : World) (v : Value) (t : TypeId) : ∀ (j : Nat) (u : Value), [v][j]? = some u → (w.alloc (.cells #[v] t)).cell? ((⟨w.heap.size, 0, none⟩ : Addr).add j) = some u := by
  intro j u hu
  match j with
  | 0 =>
    simp at hu
    subst hu
    simp [Addr.add]
  | j + 1 => simp at hu

set_option maxRecDepth 100000 in
set_option maxHeartbeats 4000000 in
theorem rOf_any (l : List Blk) (ao : Option Addr) (cap : Nat) (a : Int) (w : World) (hI : Lies w w.heap.size ao l) (hm : l.length ≤ 40) :
    Calls Try.prog 13 #[.slice ao l.length cap, .int .i64 a] w fun e w' => ∃ v, e = .returned v ∧ Row w.heap.size w' v (ofB l a) ∧ Below w.heap.size w w' := by
  obtain ⟨i0, hi, hz0, hz1, hz2⟩ := info_parts infoInt
  have HZ := Lib.hid (⟨hi, hz0, hz1, hz2⟩ : _ ∧ _ ∧ _ ∧ _)
  have HS := Lib.hid (show Lies w w.heap.size ao l ∧ Below w.heap.size w w ∧ Row w.heap.size w (.slice none 0 0) (ofB (l.take 0) a) from ⟨hI, Below.refl _ _, Row.nil _ _⟩)
  clear hI hi hz0 hz1 hz2
  go_enter Try.func13, Try.ntmps13
  go_wp2
  generalize hN : w.heap.size = N at *
  go_loopw [5, 6] (fun v i W => ∃ k : Nat, k ≤ l.length ∧ i = .int .i64 k ∧ Hid (Lies W N ao l ∧ Below N w W ∧ Row N W v (ofB (l.take k) a))) (fun _ i _ => l.length - (intOf i).toNat)
  case atStart => exact ⟨0, Nat.zero_le _, rfl, HS⟩
  case round =>
    obtain ⟨k, hk, rfl, hS⟩ := hrel
    clear HS
    obtain ⟨A, c, rfl⟩ := own_form hS.out.2.2
    by_cases hlt : k < l.length
    · have e1 : decide ((k : Int) < l.length) = true := by simp; omega
      obtain ⟨x, hx⟩ : ∃ x, l[k]? = some x := ⟨_, List.getElem?_eq_getElem hlt⟩
      obtain ⟨b, o, rfl, hb, hI⟩ := hS.out.1 (by omega)
      obtain ⟨c0, c1, c2, c3⟩ := hI k x hx
      have hlen : (ofB (l.take k) a).length ≤ 40 := by have := of_len (l.take k) a; rw [List.length_take] at this; omega
      have hsz : N ≤ wr.heap.size := by have := hS.out.2.1.size; omega
      clear hI
      by_cases he : x.ad = a
      · have e2 : (x.ad == a) = true := beq_iff_eq.2 he
        have hof := of_at hx a
        rw [if_pos he] at hof
        have hof := Lib.hid hof
        have HO := Lib.hid (hS.out.2.2.alloc (.cells #[.int .i64 x.id] 3))
        clear he hx
        go_wp2_with (at_builtin; refine wpList_append_own _ rfl (.tmp 20) (.tmp 26) 34 rfl N 3 i0 (.int .i64 0) 1 8 Try.underlying34 HZ.out.1 HZ.out.2.1 HZ.out.2.2.1 HZ.out.2.2.2 rfl (by decide) _ (ofB (l.take k) a).length (ints (ofB (l.take k) a)) rfl HO.out ⟨wr.heap.size, 0, none⟩ 1 1 [.int .i64 x.id] rfl rfl (cell_one_new _ _ _) (by intro u hu; simp at hu; subst hu; rfl) (by unfold maxLen; omega) (by omega) (by simp; omega) ?_)
        intro v1 w1 hown hgrow _
        have hS1 := Lib.hid (show Lies w1 N (some ⟨b, o, none⟩) l ∧ Below N w w1 ∧ Row N w1 v1 (ofB (l.take (k + 1)) a) by
          rw [hof.out]
          have hbel : Below N wr w1 := ((Below.refl N wr).alloc hsz _).grown hgrow (by simp; omega) (fun g hg => own_base hS.out.2.2 g hg)
          refine ⟨hS.out.1.below hbel, hS.out.2.1.trans hbel, ?_⟩
          unfold Row; simpa [ints] using hown)
        clear hown hgrow HO
        go_wp2
        go_roundw
        case rel => exact ⟨k + 1, by omega, by go_num, hS1⟩
        case measure => simp [intOf]; omega
      · have e2 : (x.ad == a) = false := beq_eq_false_iff_ne.2 he
        have hof := of_at hx a
        rw [if_neg he, List.append_nil] at hof
        have hS1 := Lib.hid (show Lies wr N (some ⟨b, o, none⟩) l ∧ Below N w wr ∧ Row N wr (.slice A (ofB (l.take k) a).length c) (ofB (l.take (k + 1)) a) by rw [hof]; exact hS.out)
        clear he hx hof
        go_wp2
        go_roundw
        case rel => exact ⟨k + 1, by omega, by go_num, hS1⟩
        case measure => simp [intOf]; omega
    · obtain rfl : k = l.length := by omega
      have hT : Row N wr (.slice A (ofB (l.take l.length) a).length c) (ofB l a) := by
        have := hS.out.2.2
        rwa [List.take_length] at this ⊢
      have hH := Lib.hid (show Row N wr _ (ofB l a) ∧ Below N w wr from ⟨hT, hS.out.2.1⟩)
      clear hT
      go_wp2
      go_ret
      exact ⟨_, rfl, hN ▸ hH.out.1, hN ▸ hH.out.2⟩
set_option maxRecDepth 100000 in
set_option maxHeartbeats 4000000 in
theorem cOf_any (l : List Blk) (ao : Option Addr) (cap : Nat) (a : Int) (w : World) (hI : Lies w w.heap.size ao l) (hm : l.length ≤ 40) :
    Calls Try.prog 12 #[.slice ao l.length cap, .int .i64 a] w fun e w' => ∃ v, e = .returned v ∧ Row w.heap.size w' v (ofB l a) ∧ Below w.heap.size w w' := by
  obtain ⟨i0, hi, hz0, hz1, hz2⟩ := info_parts infoInt
  have HZ := Lib.hid (⟨hi, hz0, hz1, hz2⟩ : _ ∧ _ ∧ _ ∧ _)
  have HS := Lib.hid (show Lies w w.heap.size ao l ∧ Below w.heap.size w w ∧ Row w.heap.size w (.slice none 0 0) (ofB (l.take 0) a) from ⟨hI, Below.refl _ _, Row.nil _ _⟩)
  clear hI hi hz0 hz1 hz2
  go_enter Try.func12, Try.ntmps12
  go_wp2
  generalize hN : w.heap.size = N at *
  go_loopw [5, 10] (fun v i W => ∃ k : Nat, k ≤ l.length ∧ i = .int .i64 k ∧ Hid (Lies W N ao l ∧ Below N w W ∧ Row N W v (ofB (l.take k) a))) (fun _ i _ => l.length - (intOf i).toNat)
  case atStart => exact ⟨0, Nat.zero_le _, rfl, HS⟩
  case round =>
    obtain ⟨k, hk, rfl, hS⟩ := hrel
    clear HS
    obtain ⟨A, c, rfl⟩ := own_form hS.out.2.2
    by_cases hlt : k < l.length
    · have e1 : decide ((k : Int) < l.length) = true := by simp; omega
      obtain ⟨x, hx⟩ : ∃ x, l[k]? = some x := ⟨_, List.getElem?_eq_getElem hlt⟩
      obtain ⟨b, o, rfl, hb, hI⟩ := hS.out.1 (by omega)
      obtain ⟨c0, c1, c2, c3⟩ := hI k x hx
      have hlen : (ofB (l.take k) a).length ≤ 40 := by have := of_len (l.take k) a; rw [List.length_take] at this; omega
      have hsz : N ≤ wr.heap.size := by have := hS.out.2.1.size; omega
      clear hI
      have one := one_S wr #[.int .i64 x.id, .int .i64 x.ad, .int .i64 x.sz, .bool x.hi] 30
      have hS2 := Lib.hid (show Lies (wr.alloc (.cells #[.int .i64 x.id, .int .i64 x.ad, .int .i64 x.sz, .bool x.hi] 30)) N (some ⟨b, o, none⟩) l ∧ Below N w (wr.alloc (.cells #[.int .i64 x.id, .int .i64 x.ad, .int .i64 x.sz, .bool x.hi] 30)) ∧ Row N (wr.alloc (.cells #[.int .i64 x.id, .int .i64 x.ad, .int .i64 x.sz, .bool x.hi] 30)) (.slice A (ofB (l.take k) a).length c) (ofB (l.take k) a) from ⟨hS.out.1.below (one.mono hsz), hS.out.2.1.trans (one.mono hsz), hS.out.2.2.alloc (.cells #[.int .i64 x.id, .int .i64 x.ad, .int .i64 x.sz, .bool x.hi] 30)⟩)
      clear one
      have hsz2 : N ≤ (wr.alloc (.cells #[.int .i64 x.id, .int .i64 x.ad, .int .i64 x.sz, .bool x.hi] 30)).heap.size := by simp; omega
      by_cases he : x.ad = a
      · have e2 : (x.ad == a) = true := beq_iff_eq.2 he
        have hof := of_at hx a
        rw [if_pos he] at hof
        have hof := Lib.hid hof
        have HO := Lib.hid (hS2.out.2.2.alloc (.cells #[.int .i64 x.id] 3))
        clear he hx
        go_wp2_with (at_builtin; refine wpList_append_own _ rfl (.tmp 18) (.tmp 21) 34 rfl N 3 i0 (.int .i64 0) 1 8 Try.underlying34 HZ.out.1 HZ.out.2.1 HZ.out.2.2.1 HZ.out.2.2.2 rfl (by decide) _ (ofB (l.take k) a).length (ints (ofB (l.take k) a)) rfl HO.out ⟨wr.heap.size + 1, 0, none⟩ 1 1 [.int .i64 x.id] rfl rfl (by have := cell_one_new (wr.alloc (.cells #[.int .i64 x.id, .int .i64 x.ad, .int .i64 x.sz, .bool x.hi] 30)) (.int .i64 x.id) 3; rwa [show (wr.alloc (.cells #[.int .i64 x.id, .int .i64 x.ad, .int .i64 x.sz, .bool x.hi] 30)).heap.size = wr.heap.size + 1 by simp] at this) (by intro u hu; simp at hu; subst hu; rfl) (by unfold maxLen; omega) (by omega) (by simp; omega) ?_)
        intro v1 w1 hown hgrow _
        have hS1 := Lib.hid (show Lies w1 N (some ⟨b, o, none⟩) l ∧ Below N w w1 ∧ Row N w1 v1 (ofB (l.take (k + 1)) a) by
          rw [hof.out]
          have hbel : Below N wr w1 := (((Below.refl N wr).alloc hsz _).alloc hsz2 _).grown hgrow (by simp; omega) (fun g hg => own_base hS.out.2.2 g hg)
          refine ⟨hS.out.1.below hbel, hS.out.2.1.trans hbel, ?_⟩
          unfold Row; simpa [ints] using hown)
        clear hown hgrow HO
        go_wp2
        go_roundw
        case rel => exact ⟨k + 1, by omega, by go_num, hS1⟩
        case measure => simp [intOf]; omega
      · have e2 : (x.ad == a) = false := beq_eq_false_iff_ne.2 he
        have hof := of_at hx a
        rw [if_neg he, List.append_nil] at hof
        have hS1 := Lib.hid (show Lies (wr.alloc (.cells #[.int .i64 x.id, .int .i64 x.ad, .int .i64 x.sz, .bool x.hi] 30)) N (some ⟨b, o, none⟩) l ∧ Below N w (wr.alloc (.cells #[.int .i64 x.id, .int .i64 x.ad, .int .i64 x.sz, .bool x.hi] 30)) ∧ Row N (wr.alloc (.cells #[.int .i64 x.id, .int .i64 x.ad, .int .i64 x.sz, .bool x.hi] 30)) (.slice A (ofB (l.take k) a).length c) (ofB (l.take (k + 1)) a) by rw [hof]; exact hS2.out)
        clear he hx hof
        go_wp2
        go_roundw
        case rel => exact ⟨k + 1, by omega, by go_num, hS1⟩
        case measure => simp [intOf]; omega
    · obtain rfl : k = l.length := by omega
      have hT : Row N wr (.slice A (ofB (l.take l.length) a).length c) (ofB l a) := by
        have := hS.out.2.2
        rwa [List.take_length] at this ⊢
      have hH := Lib.hid (show Row N wr _ (ofB l a) ∧ Below N w wr from ⟨hT, hS.out.2.1⟩)
      clear hT
      go_wp2
      go_ret
      exact ⟨_, rfl, hN ▸ hH.out.1, hN ▸ hH.out.2⟩
end Go.Proofs.Ytnpdcbccooinpaa.Bl
