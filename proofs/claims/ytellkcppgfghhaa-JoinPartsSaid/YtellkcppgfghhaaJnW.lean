/- osierlaw8.made, osierlaw8.awake; treaps laid from rows written out, rows of treaps written out. -/
import Derived.Test.YtellkcppgfghhaaJnA
import Derived.Test.YtellkcppgfghhaaLkMade
import Derived.Test.YtellkcppgfghhaaNSays
namespace Go.Proofs.Ytellkcppgfghhaa
open Go.RowKit
set_option linter.all false

section
variable {w w0 w1 : World} {p : Nat} {room st : Int} {L : List It}
/-- Numbers written out. -/
theorem Nums.lits (w : World) (l : List Int) (cs : Array Value) (hc : cs.toList = cellsI l) (n : Nat) (hn : n = l.length) (hl : l.length ≤ 1000) : Nums (w.alloc (.cells cs 3)) (fun j => j < w.heap.size) (.slice (some ⟨w.heap.size, 0, none⟩) n n) l := by
  subst hn
  have hs : cs.size = l.length := by rw [← Array.length_toList, hc, cellsI_len]
  refine ⟨?_, fun k hk hs => by simp [Value.ownBlock] at hk; omega⟩
  have := World.ownsRow_lit (base := 0) (e := 3) (size := 1) w cs l.length (Nat.zero_le _) (by unfold maxLen; omega) (by omega)
  rw [hc] at this
  exact this
/-- Laid of a row that was made just now. -/
theorem laid_new (h : Held w0 w1 p room st L) (hG : Good L) (o : Obj) (cap n : Nat) (l : List Pr) (hn : n = l.length) (hP : Prs (w1.alloc o) (some ⟨w1.heap.size, 0, none⟩) cap l) (hr : ((L.length + l.length : Nat) : Int) ≤ room) (hl : l.length ≤ 1000) :
    Calls Try.prog 13 #[.pointer (some ⟨p, 0, none⟩), .slice (some ⟨w1.heap.size, 0, none⟩) n cap] (w1.alloc o) fun e w' =>
      ∃ (t : Int) (M : List It), e = .returned (.tuple #[.int .i64 t, .bool true]) ∧ Held w0 w' p room st (L ++ M) ∧ M.length = l.length ∧ Tree (L ++ M) t l ∧ Good (L ++ M) := by
  subst hn
  have hb : Below w1.heap.size w1 (w1.alloc o) := (Below.refl _ _).alloc (Nat.le_refl _) _
  have h0 : HeldS (fun k => w0.heap.size ≤ k ∧ k < w1.heap.size) (w1.alloc o) (w1.alloc o) p room st L :=
    ⟨((h.a.mono (G := fun k => w0.heap.size ≤ k ∧ k < w1.heap.size) (fun k hk hlt => ⟨hk, hlt⟩)).below hb).mono (fun k hk _ => .inl hk), Only.refl _ _⟩
  refine (laidS_any _ _ p room st l.length _ cap l _ L (Nat.le_refl _) hP (fun b o e => by cases e; omega) h0 hG hr hl).mono ?_
  rintro e w' ⟨t, M, rfl, hH, hM, hT, hG2⟩
  have hbw := h.b.trans (hb.mono h.b.size)
  refine ⟨t, M, rfl, ⟨hH.a.mono (fun k hk _ => ?_), hbw.trans (hH.b.below (B := w0.heap.size) (fun i hi => hi.1) hbw.size)⟩, hM, hT, hG2⟩
  rcases hk with hk | hk
  · exact hk.1
  · exact Nat.le_trans hbw.size hk
theorem Held.grown (h : Held w0 w1 p room st L) {F : Nat → Prop} {L' : List It} {W w' : World} (hb : Below w1.heap.size w1 W) (hF : ∀ k, F k → w0.heap.size ≤ k) (m : Grew W p F room st L' w') : Held w0 w' p room st L' :=
  (h.below hb).grew m hF
/-- All of treaps written out. -/
theorem all_new (h : Held w0 w1 p room st L) (ts : List Int) (ls : List (List Pr)) (cs : Array Value) (hc : cs.toList = cellsI ts) (n : Nat) (hn : n = ts.length) (hts : ts.length ≤ 1000)
    (hT : Forest L ts ls) (hs : Srt ls.flatten) (hl : ls.flatten.length ≤ 500) (hroom : ((L.length + cost 0 ls : Nat) : Int) ≤ room) :
    Calls Try.prog 27 #[.pointer (some ⟨p, 0, none⟩), .slice (some ⟨w1.heap.size, 0, none⟩) n n] (w1.alloc (.cells cs 3)) fun e w' =>
      ∃ (x : Int) (M : List It), e = .returned (.tuple #[.int .i64 x, .int .i64 0]) ∧ Held w0 w' p room st (L ++ M) ∧ M.length ≤ cost 0 ls ∧ Tree (L ++ M) x ls.flatten := by
  have hb : Below w1.heap.size w1 (w1.alloc (.cells cs 3)) := (Below.refl _ _).alloc (Nat.le_refl _) _
  have hA := (h.a.mono (G := fun k => w0.heap.size ≤ k ∧ k < w1.heap.size) (fun k hk hlt => ⟨hk, hlt⟩)).below hb
  refine (all_ok hA (Nums.lits w1 ts cs hc n hn hts) (fun k hk h => h.2) hn (Nat.le_refl _) (by omega) hT hs hl hroom).mono ?_
  rintro e w' ⟨x, M, rfl, hg, hM, hX⟩
  exact ⟨x, M, rfl, h.grown hb (fun k hk => hk.1) hg, hM, hX⟩
end

def duoL : List Pr := [(7, 0), (9, 0)]
theorem duo_prs (w : World) : Prs (w.alloc (.cells #[.int .i64 7, .int .i64 0, .int .i64 9, .int .i64 0] 24)) (some ⟨w.heap.size, 0, none⟩) 2 duoL := by
  refine ⟨by decide, by unfold maxLen; decide, fun n q hq => ⟨w.heap.size, 0, rfl, ?_⟩⟩
  unfold duoL at hq
  match n with
  | 0 => simp at hq; subst hq; simp
  | 1 => simp at hq; subst hq; simp
  | n + 2 => simp at hq
theorem want_prs (w : World) : Prs (w.alloc (.cells #[.int .i64 1, .int .i64 5, .int .i64 2, .int .i64 6, .int .i64 3, .int .i64 7, .int .i64 7, .int .i64 0, .int .i64 9, .int .i64 0] 24)) (some ⟨w.heap.size, 0, none⟩) 5 (madeL ++ duoL) := by
  refine ⟨by decide, by unfold maxLen; decide, fun n q hq => ⟨w.heap.size, 0, rfl, ?_⟩⟩
  unfold madeL duoL at hq
  match n with
  | 0 => simp at hq; subst hq; simp
  | 1 => simp at hq; subst hq; simp
  | 2 => simp at hq; subst hq; simp
  | 3 => simp at hq; subst hq; simp
  | 4 => simp at hq; subst hq; simp
  | n + 5 => simp at hq
theorem want_srt : Srt (madeL ++ duoL) := by unfold Srt madeL duoL; simp

set_option maxRecDepth 100000 in
set_option maxHeartbeats 1600000 in
theorem made8_any (w : World) : Calls Try.prog 43 #[] w (MadeSays w) := by
  have c1 := new_any 100 w
  rw [show min (max (100 : Int) 0) 60000 = 100 by decide] at c1
  have hA : Arena (w.alloc (.cells #[.int .i64 100, .int .i64 0, .slice none 0 0, .slice none 0 0] 58)) w.heap.size (fun k => k = w.heap.size) 100 0 [] := new_arena 100 w (by decide) (by decide)
  have cl := fun x hx => laid_lit w (w.alloc (.cells #[.int .i64 100, .int .i64 0, .slice none 0 0, .slice none 0 0] 58)) w.heap.size x (by simp) (Nat.le_refl _) ((Below.refl _ _).alloc (Nat.le_refl _) _) hA hx
  have HL := Lib.hid cl
  clear hA cl
  go_enter Try.func43, Try.ntmps43
  go_wp2_with (first
    | (go_at_call 12; ((with_reducible refine c1.mono ?_); clear c1; rintro e w1 ⟨rfl, rfl⟩))
    | (go_at_call 13; (refine (HL.out _ (by simp)).mono ?_; rintro e w2 ⟨t, L, rfl, hH, hl, hT, hG⟩)))
  go_ret2
  exact ⟨_, t, L, rfl, hH, hl, hT, hG⟩

set_option maxRecDepth 100000 in
set_option maxHeartbeats 3200000 in
theorem jawake_any (w : World) : Calls Try.prog 25 #[] w fun e w' => e = .returned (.bool true) ∧ Below w.heap.size w w' := by
  have cm := made8_any w
  have m1 := hi_le _ madeL (Nat.le_refl _)
  have m2 := hi_le _ duoL (Nat.le_refl _)
  have HM := Lib.hid (show hi madeL + hi duoL ≤ 5 from Nat.add_le_add m1 m2)
  have MT := Lib.hid (show meetL duoL madeL = true from rfl)
  have FL := Lib.hid (show [[], madeL, [], duoL].flatten = madeL ++ duoL from rfl)
  have CO := Lib.hid (show cost 0 [[], madeL, [], duoL] = 8 from rfl)
  clear m1 m2
  go_enter Try.func25, Try.ntmps25
  go_wp2_with (first
    | (go_at_call 43; ((with_reducible refine cm.mono ?_); clear cm; rintro e W1 ⟨p, t, L, rfl, h1, hl, hT, hG⟩; have HT := Lib.hid hT; have HL := Lib.hid hl; have HG := Lib.hid hG; clear hT hG hl))
    | (go_at_call 13; (refine (laid_new h1 HG.out _ 2 2 duoL rfl (duo_prs W1) (by rw [HL.out]; decide) (by decide)).mono ?_; rintro e W2 ⟨u, M1, rfl, h2, hl1, hT1, hG1⟩; have HU := Lib.hid hT1; have HL1 := Lib.hid (show (L ++ M1).length = 5 by rw [List.length_append, HL.out, hl1]; rfl); have HTA := Lib.hid (HT.out.app M1); clear hT1 hG1 hl1 h1))
    | (go_at_call 24; have cc := two_ok h2 HTA.out HU.out (by decide) want_srt (by rw [HL1.out]; have := HM.out; omega); ((with_reducible refine cc.mono ?_); clear cc; rintro e W3 ⟨x, M2, rfl, h3, hM2, hX⟩; have HX := Lib.hid hX; have HXN : (x != 0) = true := (by simpa using hX.pos' (by decide)); have HL2 := Lib.hid (show (L ++ M1 ++ M2).length ≤ 10 by rw [List.length_append, HL1.out]; have := HM.out; omega); clear hX hM2 h2))
    | (go_at_call 24; have cc := two_wrong h3.a (HU.out.app M2) (HTA.out.app M2) (by decide) (by decide) MT.out; ((with_reducible refine cc.mono ?_); clear cc; rintro e W4 ⟨rfl, hb4⟩; have h4 := h3.below hb4; clear h3 hb4))
    | (go_at_call 27; (refine (all_new h4 [0, t, 0, u] [[], madeL, [], duoL] _ (by simp [cellsI]) 4 rfl (by simp) ((((Forest.nil _).snoc .nil).snoc (HTA.out.app M2)).snoc .nil |>.snoc (HU.out.app M2)) (by rw [FL.out]; exact want_srt) (by rw [FL.out]; decide) (by rw [CO.out]; have := HL2.out; omega)).mono ?_; rintro e W5 ⟨y, M3, rfl, h5, hM3, hY⟩; rw [FL.out] at hY; have HY := Lib.hid hY; have HW := Lib.hid (want_prs W5); have h6 := h5.alloc (.cells #[.int .i64 1, .int .i64 5, .int .i64 2, .int .i64 6, .int .i64 3, .int .i64 7, .int .i64 7, .int .i64 0, .int .i64 9, .int .i64 0] 24); clear hY hM3 h4 h5))
    | (go_at_call 18; (refine (says_any p _ 100 0 _ x (madeL ++ duoL) (HX.out.app M3) _ 5 _ HW.out h6.a (by decide)).mono ?_; rintro e W7 ⟨rfl, hb7⟩; have h7 := h6.below hb7; have HW7 := Lib.hid (HW.out.below hb7); clear h6 hb7))
    | (go_at_call 18; (refine (says_any p _ 100 0 _ y (madeL ++ duoL) HY.out _ 5 _ HW7.out h7.a (by decide)).mono ?_; rintro e W8 ⟨rfl, hb8⟩; have h8 := h7.below hb8; clear h7 hb8)))
  go_ret
  exact ⟨rfl, h8.b⟩
end Go.Proofs.Ytellkcppgfghhaa
