/- Put and Of where there is room, in an arena that a law holds; osierlaw5.awake. -/
import Derived.Test.YtmbeaefgakfbnaaPt7
import Derived.Test.YtmbeaefgakfbnaaLkMade
namespace Go.Proofs.Ytmbeaefgakfbnaa
open Go.RowKit
set_option linter.all false

section
variable {w0 w W W' : World} {p : Nat} {F : Nat → Prop} {room st : Int} {L : List It} {t k v : Int} {l : List Pr}
theorem Held.grew {L' : List It} {G : Nat → Prop} (h : Held w0 w p room st L) (m : Grew w p G room st L' W) (hG : ∀ k, G k → w0.heap.size ≤ k) : Held w0 W p room st L' := h.only m.1 m.2 hG

theorem put_ok (h : Held w0 w p room st L) (T : Tree L t l) (hs : Srt l) (hl : l.length ≤ 990) (hr : ((L.length + hi l + 1 : Nat) : Int) ≤ room) (k v old : Int) (there : Bool) (hold : ((findL l k).map (·.2)).getD 0 = old) (hthere : (findL l k).isSome = there) :
    Calls Try.prog 12 #[.pointer (some ⟨p, 0, none⟩), .int .i64 t, .agg #[.int .i64 k, .int .i64 v]] w fun e w' =>
      ∃ (n : Int) (M : List It), e = .returned (.tuple #[.int .i64 n, .int .i64 old, .bool there, .int .i64 0]) ∧ Held w0 w' p room st (L ++ M) ∧ M.length ≤ hi l + 1 ∧ Tree (L ++ M) n (withL l k v) := by
  subst hold; subst hthere
  refine (put_any h.a T hs hl).mono ?_
  rintro e w' ⟨n, old, er, there, M, rfl, hg, ⟨rfl, hM, hT, rfl, rfl⟩ | ⟨_, _, _, _, hr2, hM⟩⟩
  · exact ⟨n, M, rfl, h.grew hg (fun _ hk => hk), hM, hT⟩
  · exfalso
    rw [List.length_append] at hr2
    omega

theorem of_ok {G : Nat → Prop} (h : Held w0 w p room st L) (hA : Arena w p G room st L) (hG : ∀ k, G k → w0.heap.size ≤ k) (a : Option Addr) (cap n : Nat) (ps : List Pr) (hP : Prs w a cap ps) (hn : n = ps.length) (hF : ∀ b o, a = some ⟨b, o, none⟩ → ¬ G b) (hl : ps.length ≤ 900) (hr : ((L.length + ps.length * (ps.length + 1) : Nat) : Int) ≤ room) :
    Calls Try.prog 19 #[.pointer (some ⟨p, 0, none⟩), .slice a n cap] w fun e w' =>
      ∃ (t : Int) (M : List It), e = .returned (.tuple #[.int .i64 t, .int .i64 0]) ∧ Held w0 w' p room st (L ++ M) ∧ M.length ≤ ps.length * (ps.length + 1) ∧ Tree (L ++ M) t (putL [] ps) := by
  subst hn
  refine (of_any hA a cap ps hP hF hl hr).mono ?_
  rintro e w' ⟨t, M, rfl, hg, hM, hT⟩
  exact ⟨t, M, rfl, h.grew hg hG, hM, hT⟩
end

theorem lit_two (w : World) : Prs (w.alloc (.cells #[.int .i64 4, .int .i64 0, .int .i64 3, .int .i64 0] 24)) (some ⟨w.heap.size, 0, none⟩) 2 [(4, 0), (3, 0)] := by
  refine ⟨by decide, by unfold maxLen; decide, fun n q hq => ⟨w.heap.size, 0, rfl, ?_⟩⟩
  match n with
  | 0 => simp at hq; subst hq; simp
  | 1 => simp at hq; subst hq; simp
  | n + 2 => simp at hq

set_option maxRecDepth 100000 in
set_option maxHeartbeats 3200000 in
theorem pawake_any (w : World) : Calls Try.prog 18 #[] w fun e w' => e = .returned (.bool true) ∧ Below w.heap.size w w' := by
  have cm := made_any w
  have e1 : withL madeL 2 9 = [(1, 5), (2, 9), (3, 7)] := by rw [withL_cat madeL_srt]; rfl
  have E1 := Lib.hid e1
  have s2 := Lib.hid (withL_is_srt madeL 2 9 madeL_srt)
  have hm := hi_le _ madeL (Nat.le_refl _)
  have HM := Lib.hid (show hi madeL ≤ 3 from hm)
  have e2 : (putL [] [(4, 0), (3, 0)]).length = 2 := by rfl
  have E2 := Lib.hid e2
  have ps := putL_srt [(4, 0), (3, 0)] Srt.nil
  clear e1 hm e2
  go_enter Try.func18, Try.ntmps18
  go_wp2_with (first
    | (go_at_call 27; ((with_reducible refine cm.mono ?_); clear cm; rintro e W1 ⟨p, t, L, rfl, h1, hl, hT, hG⟩; have HT := Lib.hid hT; have HL := Lib.hid hl; clear hT hG hl))
    | (go_at_call 12; have cc := put_ok h1 HT.out madeL_srt (by decide) (by rw [HL.out]; have := HM.out; omega) 2 9 6 true rfl rfl; ((with_reducible refine cc.mono ?_); clear cc; rintro e W2 ⟨u, M, rfl, h2, hM, hT2⟩; have HT2 := Lib.hid hT2; have HM2 := Lib.hid hM; clear hM hT2 h1))
    | (go_at_call 19; have cc := of_ok (h2.alloc (.cells #[.int .i64 4, .int .i64 0, .int .i64 3, .int .i64 0] 24)) (h2.a.fresh (.cells #[.int .i64 4, .int .i64 0, .int .i64 3, .int .i64 0] 24)) (fun k hk => hk.1) (some ⟨W2.heap.size, 0, none⟩) 2 2 [(4, 0), (3, 0)] (lit_two W2) rfl (fun b o e => by cases e; exact fun h => h.2 rfl) (by decide) (by rw [List.length_append, HL.out]; have := HM.out; have := HM2.out; simp; omega); ((with_reducible refine cc.mono ?_); clear cc; rintro e W3 ⟨z, M3, rfl, h3, hM3, hT3⟩; have HT3 := Lib.hid hT3; clear hM3 hT3 h2))
    | (go_at_call 20; have cc := tget h3 (HT2.out.app M3) s2.out 2 9 true (by rw [E1.out]; rfl) (by rw [E1.out]; rfl); ((with_reducible refine cc.mono ?_); clear cc; rintro e W4 ⟨rfl, hb4⟩; have h4 := h3.below hb4; clear h3 hb4))
    | (go_at_call 21; have cc := tsize h4 HT3.out 2 (by rw [E2.out]; rfl); ((with_reducible refine cc.mono ?_); clear cc; rintro e W5 ⟨rfl, hb5⟩; have h5 := h4.below hb5; clear h4)))
  go_ret
  exact ⟨rfl, h5.b⟩
end Go.Proofs.Ytmbeaefgakfbnaa
