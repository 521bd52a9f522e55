/- Contract of package join: keysDown: a row of one's own, no longer than the treap is high. -/
import Derived.Test.YtellkcppgfghhaaJnC
import Derived.Test.YtellkcppgfghhaaJnT
namespace Go.Proofs.Ytellkcppgfghhaa
open Go.RowKit
set_option linter.all false

/-- What stands at a treap: nothing; or its top key and its halves. -/
def AtT (L : List It) (m : List Pr) (B : Bool) (k x y : Int) : Prop :=
  (B = false ∧ m = []) ∨ (B = true ∧ 0 < hi m ∧ ∃ A C : List Pr, Srt A ∧ Srt C ∧ A.length ≤ m.length ∧ C.length ≤ m.length ∧ hi A + 1 ≤ hi m ∧ hi C + 1 ≤ hi m ∧ Tree L x A ∧ Tree L y C)
theorem at_t {w : World} {p : Nat} {F : Nat → Prop} {room st : Int} {L : List It} {t : Int} {l : List Pr} (hA : Arena w p F room st L) (T : Tree L t l) (hs : Srt l) (hl : l.length ≤ 1000) :
    ∃ (k v x y s h : Int) (b : Bool), AtT L l b k x y ∧ ∀ W, Below w.heap.size w W → Calls Try.prog 51 #[.pointer (some ⟨p, 0, none⟩), .int .i64 t] W fun e w' =>
      e = .returned (.tuple #[.agg #[.int .i64 k, .int .i64 v, .int .i64 x, .int .i64 y, .int .i64 s, .int .i64 h], .bool b]) ∧ Below W.heap.size W w' := by
  rcases T.apart hs with ⟨rfl, rfl⟩ | ⟨x, y, A, B, q, rfl, AP⟩
  · exact ⟨0, 0, 0, 0, 0, 0, false, .inl ⟨rfl, rfl⟩, fun W hb => at_zero (hA.below hb)⟩
  · have hlen : (A ++ q :: B).length = A.length + B.length + 1 := by simp; omega
    obtain ⟨s, hh, c⟩ := at_apart2 hA AP (by omega)
    have hh1 := hi_app hs AP.top
    obtain ⟨sA, sB, _, _⟩ := hs.parts
    exact ⟨q.1, q.2, x, y, s, hh, true, .inr ⟨rfl, by omega, A, B, sA, sB, by omega, by omega, by omega, by omega, AP.tx, AP.ty⟩, c⟩

def lenV : Value → Nat
  | .slice _ n _ => n
  | _ => 0

/-- What the loop keeps. -/
structure DownS (w : World) (L : List It) (l : List Pr) (wr : World) (b : Nat) (B : Bool) (k v x y s h : Int) (a : Option Addr) (n c : Nat) (m : List Pr) (ks : List Int) : Prop where
  nd : NodeAt wr b k v x y s h
  lb : w.heap.size ≤ b
  at_ : AtT L m B k x y
  ml : m.length ≤ 1000
  row : Nums wr (fun j => j < w.heap.size ∨ j = b) (.slice a n c) ks
  hn : n = ks.length
  hc : n ≤ c
  hm : c ≤ maxLen
  sum : ks.length + hi m ≤ hi l
  some_ : l ≠ [] → ks ≠ [] ∨ m ≠ []
  o : Below w.heap.size w wr

theorem AtT.none {L : List It} {m : List Pr} {k x y : Int} (h : AtT L m false k x y) : m = [] := by
  rcases h with ⟨_, h⟩ | ⟨h, _⟩
  · exact h
  · cases h
theorem AtT.yes {L : List It} {m : List Pr} {k x y : Int} (h : AtT L m true k x y) : 0 < hi m ∧ ∃ A C : List Pr, Srt A ∧ Srt C ∧ A.length ≤ m.length ∧ C.length ≤ m.length ∧ hi A + 1 ≤ hi m ∧ hi C + 1 ≤ hi m ∧ Tree L x A ∧ Tree L y C := by
  rcases h with ⟨h, _⟩ | ⟨_, h⟩
  · cases h
  · exact h

section
variable {w : World} {p : Nat} {F : Nat → Prop} {room st : Int} {L : List It} {t : Int} {l : List Pr}
/-- What keysDown tells. -/
def DownSays (w : World) (l : List Pr) (e : Ending) (w' : World) : Prop :=
  ∃ (a : Option Addr) (c : Nat) (ks : List Int), e = .returned (.slice a ks.length c) ∧ Nums w' (fun j => j < w.heap.size) (.slice a ks.length c) ks ∧ ks.length ≤ c ∧ c ≤ maxLen ∧ ks.length ≤ hi l ∧ (l ≠ [] → ks ≠ []) ∧ Below w.heap.size w w'

set_option maxRecDepth 100000 in
set_option maxHeartbeats 6400000 in
theorem keysL_any (hA : Arena w p F room st L) (T : Tree L t l) (hs : Srt l) (hl : l.length ≤ 1000) :
    Calls Try.prog 59 #[.pointer (some ⟨p, 0, none⟩), .int .i64 t, .func (.func 60) #[] #[]] w (DownSays w l) := by
  obtain ⟨k, v, x, y, s, h, B, hat, ca⟩ := at_t hA T hs hl
  have HA := Lib.hid hA
  have HAT := Lib.hid hat
  have HL := Lib.hid hl
  have HH := Lib.hid (hi_le _ l (Nat.le_refl _))
  clear hA hat T hs hl
  go_enter Try.func59, Try.ntmps59
  go_wp2_with (go_at_call 51; ((with_reducible refine (ca _ (Below.refl _ _)).mono ?_); clear ca; rintro e w1 ⟨rfl, hb1⟩))
  go_loopw [7, 8, 9] (fun kv n ok wr => ∃ (b : Nat) (B : Bool) (k v x y s h : Int) (a : Option Addr) (nn c : Nat) (m : List Pr) (ks : List Int), kv = .slice a nn c ∧ n = .pointer (some ⟨b, 0, none⟩) ∧ ok = .bool B ∧ DownS w L l wr b B k v x y s h a nn c m ks) (fun kv _ _ _ => hi l + 1 - lenV kv)
  case atStart =>
    exact ⟨_, B, k, v, x, y, s, h, none, 0, 0, l, [], rfl, rfl, rfl, (Six.new w1 k v x y s h _).toNodeAt, hb1.size, HAT.out, HL.out, Nums.nil _ _, rfl, Nat.le_refl _, Nat.zero_le _, by simp, fun h => .inr h, hb1.alloc hb1.size _⟩
  case round =>
    clear hb1 HAT
    obtain ⟨b, B, k, v, x, y, s, h, a, nn, c, m, ks, rfl, rfl, rfl, hS⟩ := hrel
    cases B
    · have HS := Lib.hid hS
      clear hS
      go_wp2_with (fail)
      go_ret
      obtain rfl := HS.out.at_.none
      obtain rfl := HS.out.hn
      exact ⟨a, c, ks, rfl, HS.out.row.sub (fun j _ hj => .inl hj), HS.out.hc, HS.out.hm, by have := HS.out.sum; omega, fun h => (HS.out.some_ h).resolve_right (fun h => h rfl), HS.out.o⟩
    · obtain ⟨c0, c1, c2, c3, c4, c5⟩ := hS.nd
      have hbl := hS.nd.lt
      have HS := Lib.hid hS
      obtain ⟨hpos, A, C, sA, sC, lA, lC, hiA, hiC, TA, TC⟩ := hS.at_.yes
      obtain ⟨E, sE, lE, hiE, TE⟩ : ∃ E : List Pr, Srt E ∧ E.length ≤ m.length ∧ hi E + 1 ≤ hi m ∧ Tree L (x) E := by
        exact ⟨A, sA, lA, hiA, TA⟩
      obtain ⟨k2, v2, x2, y2, s2, h2, B2, hat2, ca⟩ := at_t HA.out TE sE (by have := hS.ml; omega)
      have HAT2 := Lib.hid hat2
      have HE := Lib.hid (And.intro lE hiE)
      have HP := Lib.hid hpos
      have hlen : nn ≤ 1000 := by have := hS.sum; have := HH.out; have := HL.out; have := hS.hn; omega
      have hbw := hS.o
      have hszw := hbw.size
      have hS0 : ∀ j, (j < w.heap.size ∨ j = b) → j < (wr.alloc (.cells #[.int .i64 k] 3)).heap.size := fun j hj => by simp; omega
      have HS0 := Lib.hid hS0
      have R0 := Lib.hid (hS.row.below ((Below.refl _ _).alloc (Nat.le_refl _) (.cells #[.int .i64 k] 3)))
      have N0 := Lib.hid (hS.nd.keep ((Below.refl _ _).alloc (Nat.le_refl _) (.cells #[.int .i64 k] 3)))
      have HNN := Lib.hid hS.hn
      have OB := Lib.hid (hbw.alloc hbw.size (.cells #[.int .i64 k] 3))
      have hks : ks.length ≤ 1000 := by have := hS.hn; omega
      clear hS hpos sA sC lA lC hiA hiC TA TC sE lE hiE TE hat2 hbw hszw hS0
      go_wp2_with (first
        | (at_builtin; refine wpList_nums rfl (.tmp 25) (.tmp 29) rfl (fun j => j < w.heap.size ∨ j = b) (.slice a nn c) ks [k] rfl R0.out HS0.out (.slice (some ⟨wr.heap.size, 0, none⟩) 1 1) rfl (src_one k) (by simp; omega) (ks.length + 1) (by simp) _ rfl ?_; intro ao cp w2 hcp1 hcp2 hR2 hO2; have NE := hR2.form; obtain ⟨d0, d1, d2, d3, d4, d5⟩ := N0.out.only hO2 (fun h => h (.inr rfl)); have N2 := Lib.hid (N0.out.only hO2 (fun h => h (.inr rfl))); have R2 := Lib.hid hR2; have B2' := Lib.hid (OB.out.trans (hO2.below (fun i hi => by omega) OB.out.size)); clear hR2 hO2 NE c0 c1 c2 c3 c4 c5)
        | (go_at_call 60; ((with_reducible refine (toLeft_any k v x y s h).mono ?_); rintro e w3 ⟨rfl, hb3⟩; have hb23 := below_past (Below.refl _ w2) hb3; have S3 := Lib.hid ((Six.new w2 k v x y s h 67).keep hb3); have B3 := Lib.hid (B2'.out.trans (hb23.mono B2'.out.size)); have B23 := Lib.hid hb23; clear hb3 hb23 d0 d1 d2 d3 d4 d5))
        | (go_at_call 51; ((with_reducible refine (ca _ B3.out).mono ?_); clear ca; rintro e w4 ⟨rfl, hb4⟩; have s4 := S3.out.keep hb4; obtain ⟨Wf, hWf, hNf, rb⟩ := s4.put k2 v2 x2 y2 s2 h2; obtain ⟨⟨z0, z1, z2, z3, z4, z5⟩, f0, f1, f2, f3, f4, f5⟩ := s4; have HWF := Lib.hid hWf; have FIN := Lib.hid (And.intro hNf ((B23.out.trans (hb4.mono B23.out.size)).trans rb)); clear hWf hNf rb hb4)))
      go_roundw
      case rel =>
        rw [← HWF.out]
        have hbf := FIN.out.2
        have hE := HE.out
        refine ⟨_, B2, k2, v2, x2, y2, s2, h2, ao, _, cp, E, ks ++ [k], rfl, rfl, rfl, FIN.out.1, B2'.out.size, HAT2.out, by have := HS.out.ml; omega, ?_, by simp, hcp2, hcp1, ?_, fun _ => .inl (by simp), B2'.out.trans (hbf.mono B2'.out.size)⟩
        · exact (R2.out.sub (S' := fun j => j < w.heap.size ∨ j = w2.heap.size) (fun j hj h => h.elim .inl (fun e => by omega))).below hbf
        · have := HS.out.sum
          simp
          omega
      case measure =>
        have h1 := HS.out.sum
        have h2 := HP.out
        have h3 := HNN.out
        show hi l + 1 - (ks.length + 1) < hi l + 1 - nn
        omega
set_option maxRecDepth 100000 in
set_option maxHeartbeats 6400000 in
theorem keysR_any (hA : Arena w p F room st L) (T : Tree L t l) (hs : Srt l) (hl : l.length ≤ 1000) :
    Calls Try.prog 59 #[.pointer (some ⟨p, 0, none⟩), .int .i64 t, .func (.func 63) #[] #[]] w (DownSays w l) := by
  obtain ⟨k, v, x, y, s, h, B, hat, ca⟩ := at_t hA T hs hl
  have HA := Lib.hid hA
  have HAT := Lib.hid hat
  have HL := Lib.hid hl
  have HH := Lib.hid (hi_le _ l (Nat.le_refl _))
  clear hA hat T hs hl
  go_enter Try.func59, Try.ntmps59
  go_wp2_with (go_at_call 51; ((with_reducible refine (ca _ (Below.refl _ _)).mono ?_); clear ca; rintro e w1 ⟨rfl, hb1⟩))
  go_loopw [7, 8, 9] (fun kv n ok wr => ∃ (b : Nat) (B : Bool) (k v x y s h : Int) (a : Option Addr) (nn c : Nat) (m : List Pr) (ks : List Int), kv = .slice a nn c ∧ n = .pointer (some ⟨b, 0, none⟩) ∧ ok = .bool B ∧ DownS w L l wr b B k v x y s h a nn c m ks) (fun kv _ _ _ => hi l + 1 - lenV kv)
  case atStart =>
    exact ⟨_, B, k, v, x, y, s, h, none, 0, 0, l, [], rfl, rfl, rfl, (Six.new w1 k v x y s h _).toNodeAt, hb1.size, HAT.out, HL.out, Nums.nil _ _, rfl, Nat.le_refl _, Nat.zero_le _, by simp, fun h => .inr h, hb1.alloc hb1.size _⟩
  case round =>
    clear hb1 HAT
    obtain ⟨b, B, k, v, x, y, s, h, a, nn, c, m, ks, rfl, rfl, rfl, hS⟩ := hrel
    cases B
    · have HS := Lib.hid hS
      clear hS
      go_wp2_with (fail)
      go_ret
      obtain rfl := HS.out.at_.none
      obtain rfl := HS.out.hn
      exact ⟨a, c, ks, rfl, HS.out.row.sub (fun j _ hj => .inl hj), HS.out.hc, HS.out.hm, by have := HS.out.sum; omega, fun h => (HS.out.some_ h).resolve_right (fun h => h rfl), HS.out.o⟩
    · obtain ⟨c0, c1, c2, c3, c4, c5⟩ := hS.nd
      have hbl := hS.nd.lt
      have HS := Lib.hid hS
      obtain ⟨hpos, A, C, sA, sC, lA, lC, hiA, hiC, TA, TC⟩ := hS.at_.yes
      obtain ⟨E, sE, lE, hiE, TE⟩ : ∃ E : List Pr, Srt E ∧ E.length ≤ m.length ∧ hi E + 1 ≤ hi m ∧ Tree L (y) E := by
        exact ⟨C, sC, lC, hiC, TC⟩
      obtain ⟨k2, v2, x2, y2, s2, h2, B2, hat2, ca⟩ := at_t HA.out TE sE (by have := hS.ml; omega)
      have HAT2 := Lib.hid hat2
      have HE := Lib.hid (And.intro lE hiE)
      have HP := Lib.hid hpos
      have hlen : nn ≤ 1000 := by have := hS.sum; have := HH.out; have := HL.out; have := hS.hn; omega
      have hbw := hS.o
      have hszw := hbw.size
      have hS0 : ∀ j, (j < w.heap.size ∨ j = b) → j < (wr.alloc (.cells #[.int .i64 k] 3)).heap.size := fun j hj => by simp; omega
      have HS0 := Lib.hid hS0
      have R0 := Lib.hid (hS.row.below ((Below.refl _ _).alloc (Nat.le_refl _) (.cells #[.int .i64 k] 3)))
      have N0 := Lib.hid (hS.nd.keep ((Below.refl _ _).alloc (Nat.le_refl _) (.cells #[.int .i64 k] 3)))
      have HNN := Lib.hid hS.hn
      have OB := Lib.hid (hbw.alloc hbw.size (.cells #[.int .i64 k] 3))
      have hks : ks.length ≤ 1000 := by have := hS.hn; omega
      clear hS hpos sA sC lA lC hiA hiC TA TC sE lE hiE TE hat2 hbw hszw hS0
      go_wp2_with (first
        | (at_builtin; refine wpList_nums rfl (.tmp 25) (.tmp 29) rfl (fun j => j < w.heap.size ∨ j = b) (.slice a nn c) ks [k] rfl R0.out HS0.out (.slice (some ⟨wr.heap.size, 0, none⟩) 1 1) rfl (src_one k) (by simp; omega) (ks.length + 1) (by simp) _ rfl ?_; intro ao cp w2 hcp1 hcp2 hR2 hO2; have NE := hR2.form; obtain ⟨d0, d1, d2, d3, d4, d5⟩ := N0.out.only hO2 (fun h => h (.inr rfl)); have N2 := Lib.hid (N0.out.only hO2 (fun h => h (.inr rfl))); have R2 := Lib.hid hR2; have B2' := Lib.hid (OB.out.trans (hO2.below (fun i hi => by omega) OB.out.size)); clear hR2 hO2 NE c0 c1 c2 c3 c4 c5)
        | (go_at_call 63; ((with_reducible refine (toRight_any k v x y s h).mono ?_); rintro e w3 ⟨rfl, hb3⟩; have hb23 := below_past (Below.refl _ w2) hb3; have S3 := Lib.hid ((Six.new w2 k v x y s h 67).keep hb3); have B3 := Lib.hid (B2'.out.trans (hb23.mono B2'.out.size)); have B23 := Lib.hid hb23; clear hb3 hb23 d0 d1 d2 d3 d4 d5))
        | (go_at_call 51; ((with_reducible refine (ca _ B3.out).mono ?_); clear ca; rintro e w4 ⟨rfl, hb4⟩; have s4 := S3.out.keep hb4; obtain ⟨Wf, hWf, hNf, rb⟩ := s4.put k2 v2 x2 y2 s2 h2; obtain ⟨⟨z0, z1, z2, z3, z4, z5⟩, f0, f1, f2, f3, f4, f5⟩ := s4; have HWF := Lib.hid hWf; have FIN := Lib.hid (And.intro hNf ((B23.out.trans (hb4.mono B23.out.size)).trans rb)); clear hWf hNf rb hb4)))
      go_roundw
      case rel =>
        rw [← HWF.out]
        have hbf := FIN.out.2
        have hE := HE.out
        refine ⟨_, B2, k2, v2, x2, y2, s2, h2, ao, _, cp, E, ks ++ [k], rfl, rfl, rfl, FIN.out.1, B2'.out.size, HAT2.out, by have := HS.out.ml; omega, ?_, by simp, hcp2, hcp1, ?_, fun _ => .inl (by simp), B2'.out.trans (hbf.mono B2'.out.size)⟩
        · exact (R2.out.sub (S' := fun j => j < w.heap.size ∨ j = w2.heap.size) (fun j hj h => h.elim .inl (fun e => by omega))).below hbf
        · have := HS.out.sum
          simp
          omega
      case measure =>
        have h1 := HS.out.sum
        have h2 := HP.out
        have h3 := HNN.out
        show hi l + 1 - (ks.length + 1) < hi l + 1 - nn
        omega
end
end Go.Proofs.Ytellkcppgfghhaa
