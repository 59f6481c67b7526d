/-
  The code of records answers as is asked of it. Conditions: none.
-/
import Derived.Test.YtahmngmbgbcmhaaDoorRtCom
namespace Go.Proofs.YtahmngmbgbcmhaaDoor.Ret
open Go.RowKit
open Oct
open Sto (St CodeAt Only)

def comR (x : St) (inc : Nat) (d : ByteArray) : Rc := if cmE x false inc d = 0 then nextR x.l false inc d else Rc.zero

theorem com_any (p g cap : Nat) (x : St) (inc : Nat) (d : ByteArray) (w : World) (hx : CodeAt w p g cap x) (hinc : (inc : Int) ≤ 65535) (hm : d.size ≤ maxLen) (hf : Fine x) :
    Calls Tryd.prog 27 #[.pointer (some ⟨p, 0, none⟩), .int .u16 inc, .string d] w (ComEnd p g cap (.agg #[.int .u32 (comR x inc d).q, .int .u16 (comR x inc d).i, .string (comR x inc d).d]) (cmE x false inc d) (cmX x false inc d) w) := by
  have hN : ∀ w, CodeAt w p g cap x → Calls Tryd.prog 28 #[.pointer (some ⟨p, 0, none⟩)] w fun e w' => e = .returned (.tuple #[.agg #[.int .u32 (loadR x.l).q, .int .u16 (loadR x.l).i, .string (loadR x.l).d], .int .i64 (newK x.l), .bool (loadB x.l)]) ∧ Below w.heap.size w w' := fun w hx => newest_any p g cap x w hx
  have bad : ∀ k : Int, nextE x.l false d = k → k ≠ 0 → cmE x false inc d = k ∧ cmX x false inc d = x ∧ comR x inc d = Rc.zero := fun k hk h0 => by
    have e : cmE x false inc d = k := by unfold cmE; rw [hk, if_pos h0]
    refine ⟨e, by unfold cmX; rw [hk, if_pos h0], ?_⟩
    unfold comR
    rw [e, if_neg h0]
  by_cases hd : d.size ≤ 64
  · by_cases h148 : 148 ≤ x.l.length
    · have hl : loadR x.l = newR x.l := if_pos h148
      have hok := newR_ok h148
      by_cases hq : (newR x.l).q = 4294967295
      · have hE : nextE x.l false d = 13 := by
          unfold nextE
          rw [if_neg (by intro h; omega), if_neg (by omega), if_neg (by intro h; cases h.1), if_pos hq]
        obtain ⟨e1, e2, e3⟩ := bad 13 hE (by decide)
        rw [e1, e2, e3]
        exact com_sat p g cap x _ _ _ _ _ inc d w hx hN hd (by rw [hl, hq]; rfl)
      · obtain ⟨hE, hR⟩ := next_commit (inc := inc) h148 hd hq
        have e1 : cmE x false inc d = threeE x (goes x.l) (slot (nextR x.l false inc d)) := by unfold cmE; rw [hE]; rfl
        have e2 : cmX x false inc d = three x (goes x.l) (slot (nextR x.l false inc d)) := by unfold cmX; rw [hE]; rfl
        have hk : newK x.l = (goes x.l : Int) := if_pos h148
        have hq0 := hok.q
        have hro : (nextR x.l false inc d).Ok := by
          rw [hR]
          exact ⟨by show (((newR x.l).q + 1 : Nat) : Int) ≤ _; omega, hinc, hd⟩
        have hP := fun w hx => put_any p g cap x (goes x.l) (newK x.l) (nextR x.l false inc d) w hx hk (by have := goes_le x.l; omega) hf hro
        unfold comR
        rw [e1, e2]
        rw [← hl] at hq hR hq0
        generalize threeE x (goes x.l) (slot (nextR x.l false inc d)) = E at *
        generalize three x (goes x.l) (slot (nextR x.l false inc d)) = y at *
        rw [hR] at hP ⊢
        by_cases h0 : E = 0
        · subst h0
          rw [if_pos rfl]
          exact com_done p g cap x y _ _ _ _ _ inc d w hx hN hd (by omega) (by omega) (by omega) hP
        · rw [if_neg h0]
          exact com_fell p g cap x y _ _ _ _ _ inc d E w hx hN hd (by omega) (by omega) (by omega) hP h0
    · have hE : nextE x.l false d = 1 := by
        unfold nextE
        rw [if_neg (by intro h; omega), if_pos (by omega)]
      obtain ⟨e1, e2, e3⟩ := bad 1 hE (by decide)
      rw [e1, e2, e3]
      have hl : loadR x.l = Rc.zero := if_neg h148
      exact com_short p g cap x _ _ _ _ _ inc d w hx hN hd (by rw [hl]; decide) (by omega)
  · have hE : nextE x.l false d = 2 := by
      unfold nextE
      rw [if_pos ⟨rfl, by omega⟩]
    obtain ⟨e1, e2, e3⟩ := bad 2 hE (by decide)
    rw [e1, e2, e3]
    exact com_long p g cap x _ _ _ _ _ inc d w hx hN hm (by omega)

set_option maxRecDepth 100000 in
set_option maxHeartbeats 4000000 in
theorem commit_any (p g cap : Nat) (x : St) (inc : Nat) (d : ByteArray) (w : World) (hx : CodeAt w p g cap x) (hinc : (inc : Int) ≤ 65535) (hm : d.size ≤ maxLen) (hf : Fine x) :
    Calls Tryd.prog 14 #[.pointer (some ⟨p, 0, none⟩), .int .u16 inc, .string d] w (Committed p g cap x inc d w) := by
  have HC := Lib.hid (com_any p g cap x inc d w hx hinc hm hf)
  unfold Committed
  generalize cmE x false inc d = E at *
  generalize cmX x false inc d = y at *
  generalize comR x inc d = R at *
  obtain ⟨q, i, t⟩ := R
  replace HC : Hid (Calls Tryd.prog 27 #[.pointer (some ⟨p, 0, none⟩), .int .u16 inc, .string d] w (ComEnd p g cap (.agg #[.int .u32 q, .int .u16 i, .string t]) E y w)) := HC
  clear hx hinc hm hf
  go_enter Tryd.func14, Tryd.ntmps14
  go_wp2_with fail
  refine (HC.out).mono ?_
  rintro e w1 ⟨rfl, hx1, ho1⟩
  have HF := Lib.hid (fun o => fin_alloc ⟨hx1, ho1⟩ o)
  clear hx1 ho1
  go_wp2
  go_ret
  exact ⟨rfl, HF.out _⟩

/-- A boot is a commit of the newest data. -/
theorem boot_com (x : St) (hi : (loadR x.l).i ≠ 65535) : nextE x.l true ⟨#[]⟩ = nextE x.l false (loadR x.l).d ∧ nextR x.l true 0 ⟨#[]⟩ = nextR x.l false ((loadR x.l).i + 1) (loadR x.l).d := by
  by_cases h : 148 ≤ x.l.length
  · have hl : loadR x.l = newR x.l := if_pos h
    rw [hl] at hi ⊢
    have hok := newR_ok h
    have e1 : nextE x.l true ⟨#[]⟩ = if (newR x.l).q = 4294967295 then 13 else 0 := by
      unfold nextE
      rw [if_neg (by intro h; cases h.1), if_neg (by omega), if_neg (by intro h; exact hi h.2)]
    have e2 : nextE x.l false (newR x.l).d = if (newR x.l).q = 4294967295 then 13 else 0 := by
      unfold nextE
      rw [if_neg (by intro h; have := hok.d; omega), if_neg (by omega), if_neg (by intro h; cases h.1)]
    have hE : nextE x.l true ⟨#[]⟩ = nextE x.l false (newR x.l).d := by rw [e1, e2]
    refine ⟨hE, ?_⟩
    unfold nextR
    rw [hE]
    rfl
  · have hl : loadR x.l = Rc.zero := if_neg h
    rw [hl]
    have e1 : nextE x.l true ⟨#[]⟩ = 1 := by
      unfold nextE
      rw [if_neg (by intro h; cases h.1), if_pos (by omega)]
    have e2 : nextE x.l false Rc.zero.d = 1 := by
      unfold nextE
      rw [if_neg (by intro h; exact absurd h.2 (by decide)), if_pos (by omega)]
    refine ⟨by rw [e1, e2], ?_⟩
    unfold nextR
    rw [e1, e2]
    rfl

set_option maxRecDepth 100000 in
set_option maxHeartbeats 4000000 in
theorem boot_sat (p g cap : Nat) (x : St) (q i : Int) (t : ByteArray) (B : Bool) (w : World) (hx : CodeAt w p g cap x)
    (hn : ∀ w, CodeAt w p g cap x → Calls Tryd.prog 15 #[.pointer (some ⟨p, 0, none⟩)] w fun e w' => e = .returned (.tuple #[.agg #[.int .u32 q, .int .u16 i, .string t], .bool B]) ∧ Below w.heap.size w w')
    (hi : i = 65535) :
    Calls Tryd.prog 19 #[.pointer (some ⟨p, 0, none⟩)] w (ComEnd p g cap (.agg #[.int .u32 0, .int .u16 0, .string ⟨#[]⟩]) 13 x w) := by
  have hp := hx.plt
  have hg := hx.glt
  have HX := Lib.hid hx
  have HN := Lib.hid hn
  clear hx hn
  go_enter Tryd.func19, Tryd.ntmps19
  have hL := (Below.refl w.heap.size w).alloc (Nat.le_refl _) (Obj.cells #[Value.int IntKind.u32 0, Value.int IntKind.u16 0, Value.string { data := #[] }] 39)
  have hz := BoxAt.new w (.int .u32 0) (.int .u16 0) (.string ⟨#[]⟩) 39
  have HZ := Lib.hid (⟨only_of (p := p) (g := g) hL, hz, HX.out.below hL hp hg⟩ : _ ∧ _ ∧ _)
  clear hL hz HX
  go_wp2_with fail
  obtain ⟨hL, hz, hx⟩ := HZ.out
  clear HZ
  generalize w.alloc (Obj.cells #[Value.int IntKind.u32 0, Value.int IntKind.u16 0, Value.string { data := #[] }] 39) = W0 at *
  generalize hNN : w.heap.size = N at *
  have HNN := Lib.hid hNN
  clear hNN
  refine (HN.out _ hx).mono ?_
  rintro e w1 ⟨rfl, hb1⟩
  have hz1 := hz.below hb1
  have hL1 := hL.trans (only_of hb1)
  have hx1 := hx.below hb1 hx.plt hx.glt
  have hlt : N < w1.heap.size := hz1.lt
  clear hb1 hz hL hx HN
  have z0 := hz1.c0
  have z1 := hz1.c1
  have z2 := hz1.c2
  have z3 := hz1.f0
  have z4 := hz1.f1
  have z5 := hz1.f2
  have HF := Lib.hid (fun a b c => fin_set hx1 hL1 hp hg HNN.out a b c)
  clear hz1 hL1 hx1
  go_wp2
  exact bodyPost_ret (v := .tuple #[.agg #[.int .u32 0, .int .u16 0, .string ⟨#[]⟩], .int .i64 13]) (by simp [results, Tryd.results19, go_sem, *]) rfl ⟨rfl, fin_alloc (HF.out _ _ _) _⟩

set_option maxRecDepth 100000 in
set_option maxHeartbeats 4000000 in
theorem boot_go (p g cap : Nat) (x y : St) (q i : Int) (t : ByteArray) (B : Bool) (w : World) (hx : CodeAt w p g cap x)
    (hn : ∀ w, CodeAt w p g cap x → Calls Tryd.prog 15 #[.pointer (some ⟨p, 0, none⟩)] w fun e w' => e = .returned (.tuple #[.agg #[.int .u32 q, .int .u16 i, .string t], .bool B]) ∧ Below w.heap.size w w')
    (Q J : Int) (u : ByteArray) (E : Int) (hi0 : 0 ≤ i) (hi1 : i + 1 ≤ 65535)
    (hc : ∀ w, CodeAt w p g cap x → Calls Tryd.prog 27 #[.pointer (some ⟨p, 0, none⟩), .int .u16 (i + 1), .string t] w (ComEnd p g cap (.agg #[.int .u32 Q, .int .u16 J, .string u]) E y w)) :
    Calls Tryd.prog 19 #[.pointer (some ⟨p, 0, none⟩)] w (ComEnd p g cap (.agg #[.int .u32 Q, .int .u16 J, .string u]) E y w) := by
  have hp := hx.plt
  have hg := hx.glt
  have HX := Lib.hid hx
  have HN := Lib.hid hn
  have HC := Lib.hid hc
  have hw : IntKind.u16.wrap (i + 1) = i + 1 := IntWalk.u16_in _ (by omega)
  clear hc
  clear hx hn
  go_enter Tryd.func19, Tryd.ntmps19
  have hL := (Below.refl w.heap.size w).alloc (Nat.le_refl _) (Obj.cells #[Value.int IntKind.u32 0, Value.int IntKind.u16 0, Value.string { data := #[] }] 39)
  have hz := BoxAt.new w (.int .u32 0) (.int .u16 0) (.string ⟨#[]⟩) 39
  have HZ := Lib.hid (⟨only_of (p := p) (g := g) hL, hz, HX.out.below hL hp hg⟩ : _ ∧ _ ∧ _)
  clear hL hz HX
  go_wp2_with fail
  obtain ⟨hL, hz, hx⟩ := HZ.out
  clear HZ
  generalize w.alloc (Obj.cells #[Value.int IntKind.u32 0, Value.int IntKind.u16 0, Value.string { data := #[] }] 39) = W0 at *
  generalize hNN : w.heap.size = N at *
  have HNN := Lib.hid hNN
  clear hNN
  refine (HN.out _ hx).mono ?_
  rintro e w1 ⟨rfl, hb1⟩
  have hz1 := hz.below hb1
  have hL1 := hL.trans (only_of hb1)
  have hx1 := hx.below hb1 hx.plt hx.glt
  have hlt : N < w1.heap.size := hz1.lt
  clear hb1 hz hL hx HN
  have hal := (Below.refl w1.heap.size w1).alloc (Nat.le_refl _) (Obj.cells #[Value.int IntKind.u32 q, Value.int IntKind.u16 i, Value.string t] 39)
  have HZ := Lib.hid (⟨hz1.below hal, hL1.trans (only_of hal), hx1.below hal hx1.plt hx1.glt⟩ : _ ∧ _ ∧ _)
  clear hz1 hL1 hal hx1
  go_wp2_with fail
  obtain ⟨hz, hL, hx⟩ := HZ.out
  clear HZ
  generalize w1.alloc (Obj.cells #[Value.int IntKind.u32 q, Value.int IntKind.u16 i, Value.string t] 39) = W1 at *
  generalize w1.heap.size = b at *
  refine (HC.out _ hx).mono ?_
  rintro e w4 ⟨rfl, hx4, ho4⟩
  have hz4 := hz.only ho4 (by omega) (by omega)
  have hL4 := hL.trans ho4
  have z0 := hz4.c0
  have z1 := hz4.c1
  have z2 := hz4.c2
  have z3 := hz4.f0
  have z4 := hz4.f1
  have z5 := hz4.f2
  have HF := Lib.hid (fun a b c => fin_set hx4 hL4 hp hg HNN.out a b c)
  clear hz hL hx hz4 hL4 hx4 ho4 HC
  go_wp2
  exact bodyPost_ret (v := .tuple #[.agg #[.int .u32 Q, .int .u16 J, .string u], .int .i64 E]) (by simp [results, Tryd.results19, go_sem, *]) rfl ⟨rfl, HF.out _ _ _⟩

theorem boot_any (p g cap : Nat) (x : St) (w : World) (hx : CodeAt w p g cap x) (hf : Fine x) :
    Calls Tryd.prog 19 #[.pointer (some ⟨p, 0, none⟩)] w (Booted p g cap x w) := by
  have hN : ∀ w, CodeAt w p g cap x → Calls Tryd.prog 15 #[.pointer (some ⟨p, 0, none⟩)] w fun e w' => e = .returned (.tuple #[.agg #[.int .u32 (loadR x.l).q, .int .u16 (loadR x.l).i, .string (loadR x.l).d], .bool (loadB x.l)]) ∧ Below w.heap.size w w' := fun w hx => load_any p g cap x w hx
  by_cases hi : (loadR x.l).i = 65535
  · have h148 : 148 ≤ x.l.length := Classical.byContradiction fun h => by
      have hl : loadR x.l = Rc.zero := if_neg h
      rw [hl] at hi
      cases hi
    have hl : loadR x.l = newR x.l := if_pos h148
    have hE : nextE x.l true ⟨#[]⟩ = 13 := by
      unfold nextE
      rw [if_neg (by intro h; cases h.1), if_neg (by omega), if_pos ⟨rfl, by rw [← hl]; exact hi⟩]
    have e1 : cmE x true 0 ⟨#[]⟩ = 13 := by unfold cmE; rw [hE]; rfl
    have e2 : cmX x true 0 ⟨#[]⟩ = x := by unfold cmX; rw [hE]; rfl
    have e3 : btR x = Rc.zero := by unfold btR; rw [e1]; rfl
    unfold Booted
    rw [e1, e2, e3]
    exact boot_sat p g cap x _ _ _ _ w hx hN (by rw [hi]; rfl)
  · obtain ⟨hE, hR⟩ := boot_com x hi
    have hok : (loadR x.l).i ≤ 65535 ∧ (loadR x.l).d.size ≤ 64 := by
      by_cases h148 : 148 ≤ x.l.length
      · have hl : loadR x.l = newR x.l := if_pos h148
        rw [hl]
        have hok := newR_ok h148
        exact ⟨by have := hok.i; omega, hok.d⟩
      · have hl : loadR x.l = Rc.zero := if_neg h148
        rw [hl]
        exact ⟨by decide, by decide⟩
    obtain ⟨hi1, hd⟩ := hok
    have e1 : cmE x true 0 ⟨#[]⟩ = cmE x false ((loadR x.l).i + 1) (loadR x.l).d := by unfold cmE; rw [hE, hR]
    have e2 : cmX x true 0 ⟨#[]⟩ = cmX x false ((loadR x.l).i + 1) (loadR x.l).d := by unfold cmX; rw [hE, hR]
    have e3 : btR x = comR x ((loadR x.l).i + 1) (loadR x.l).d := by unfold btR comR; rw [e1, hR]
    have hC := fun w hx => com_any p g cap x ((loadR x.l).i + 1) (loadR x.l).d w hx (by omega) (by unfold maxLen; omega) hf
    have ei : (((loadR x.l).i + 1 : Nat) : Int) = ((loadR x.l).i : Int) + 1 := by omega
    rw [ei] at hC
    unfold Booted
    rw [e1, e2, e3]
    exact boot_go p g cap x _ _ _ _ _ w hx hN _ _ _ _ (by omega) (by omega) hC

/-- All that the laws ask of the code. -/
theorem the_code : Code where
  load := fun p g cap x w hx => load_any p g cap x w hx
  commit := fun p g cap x inc d w hx h1 h2 h3 => commit_any p g cap x inc d w hx h1 h2 h3
  boot := fun p g cap x w hx h => boot_any p g cap x w hx h
  size := size_any
  cost := cost_any

end Go.Proofs.YtahmngmbgbcmhaaDoor.Ret
