/- put's Of; Add over a treap; the mathematics of putting some pairs one behind the other. -/
import Derived.Test.YtmbeaefgakfbnaaPt6
namespace Go.Proofs.Ytmbeaefgakfbnaa
open Go.RowKit
set_option linter.all false

def putL (l : List Pr) (ps : List Pr) : List Pr := ps.foldl (fun acc q => withL acc q.1 q.2) l
theorem putL_srt {l : List Pr} (ps : List Pr) : Srt l → Srt (putL l ps) := by
  induction ps generalizing l with
  | nil => exact id
  | cons q ps ih => intro h; exact ih (withL_is_srt l q.1 q.2 h)
theorem putL_snoc (l ps : List Pr) (q : Pr) : putL l (ps ++ [q]) = withL (putL l ps) q.1 q.2 := by unfold putL; rw [List.foldl_append]; rfl
theorem putL_len {l : List Pr} (ps : List Pr) : Srt l → (putL l ps).length ≤ l.length + ps.length := by
  induction ps generalizing l with
  | nil => intro _; exact Nat.le_refl _
  | cons q ps ih =>
    intro h
    have h1 := ih (withL_is_srt l q.1 q.2 h)
    have h2 := withL_len l q.1 q.2 h
    rw [List.length_cons]
    exact Nat.le_trans h1 (by omega)

section
variable {w W W' : World} {p : Nat} {F : Nat → Prop} {room st : Int} {L : List It} {t k v : Int} {l : List Pr}
theorem Grew.trans {L' : List It} (h : Grew w p F room st L W) (m : Grew W p (Plus F w W) room st L' W') : Grew w p F room st L' W' := by
  obtain ⟨hA, hO⟩ := m
  have hs := h.2.size
  have hs2 := hO.size
  refine ⟨hA.mono (fun k hk hlt => ?_), h.2.trans hO (fun i hi hlt => ?_)⟩
  · rcases hk with (hk | hk) | hk
    · exact .inl hk
    · exact .inr ⟨hk.1, by omega⟩
    · exact .inr ⟨by omega, hk.2⟩
  · rcases hi with hi | hi
    · exact hi
    · omega
theorem Grew.below (h : Grew w p F room st L W) (hb : Below W.heap.size W W') : Grew w p F room st L W' := h.trans (Grew.ofBelow h.1 hb)
theorem PutSays.since {e : Ending} (m : PutSays W p F room st L k v l e W') (b : Below w.heap.size w W) : PutSays w p F room st L k v l e W' := by
  obtain ⟨n, old, er, there, M, he, hg, hc⟩ := m
  exact ⟨n, old, er, there, M, he, hg.since b (fun k hk => hk), hc⟩

theorem add_any (hA : Arena w p F room st L) (T : Tree L t l) (hs : Srt l) (hl : l.length ≤ 990) (hn : findL l k = none) :
    Calls Try.prog 11 #[.pointer (some ⟨p, 0, none⟩), .int .i64 t, .agg #[.int .i64 k, .int .i64 v]] w (PutSays w p F room st L k v l) := by
  refine (add_put _ t k v 0 w (fun n old there er w' => PutSays w p F room st L k v l (.returned (.tuple #[.int .i64 n, .int .i64 old, .bool there, .int .i64 er])) w') (fun W hb => lget_any t k W (Gets.ofArena (hA.below hb)) 0 false (by rw [get_tree T k hs, hn]; rfl) (by rw [get_tree T k hs, hn]; rfl)) (fun W hb => (put_any (hA.below hb) T hs hl).mono ?_)).mono ?_
  · intro e w' m
    have m2 := m.since hb
    obtain ⟨n, old, er, there, M, he, hg, hc⟩ := m2
    exact ⟨n, old, there, er, he, n, old, er, there, M, rfl, hg, hc⟩
  · rintro e w' ⟨n, old, there, er, rfl, m⟩
    exact m

/-! ### Of -/

def OfSays (w : World) (p : Nat) (F : Nat → Prop) (room st : Int) (L : List It) (ps : List Pr) (e : Ending) (w' : World) : Prop :=
  ∃ (t : Int) (M : List It), e = .returned (.tuple #[.int .i64 t, .int .i64 0]) ∧ Grew w p F room st (L ++ M) w' ∧ M.length ≤ ps.length * (ps.length + 1) ∧ Tree (L ++ M) t (putL [] ps)

theorem of_room {P n m x y : Nat} {room : Int} (hn : n < P) (hm : m ≤ n * (P + 1)) (hx : x ≤ P) (hr : ((y + P * (P + 1) : Nat) : Int) ≤ room) : room ≠ ((y + m + x : Nat) : Int) := by
  have h := Nat.mul_le_mul_right (P + 1) (show n + 1 ≤ P by omega)
  rw [Nat.add_mul] at h
  omega

set_option maxRecDepth 100000 in
set_option maxHeartbeats 3200000 in
theorem of_any (hA : Arena w p F room st L) (a : Option Addr) (cap : Nat) (ps : List Pr) (hP : Prs w a cap ps) (hF : ∀ b o, a = some ⟨b, o, none⟩ → ¬ F b) (hl : ps.length ≤ 900) (hr : ((L.length + ps.length * (ps.length + 1) : Nat) : Int) ≤ room) :
    Calls Try.prog 19 #[.pointer (some ⟨p, 0, none⟩), .slice a ps.length cap] w (OfSays w p F room st L ps) := by
  have HP := Lib.hid hP
  have HF := Lib.hid hF
  have HA := Lib.hid hA
  have HR := Lib.hid hr
  have hc1 := hP.1
  have hc2 := hP.2.1
  clear hP hA hF hr
  unfold maxLen at hc2
  go_enter Try.func19, Try.ntmps19
  go_wp2_with (fail)
  go_loopw [6, 14] (fun tv i wr => ∃ (n : Nat) (tt : Int) (M : List It), tv = .int .i64 tt ∧ i = .int .i64 n ∧ n ≤ ps.length ∧ Grew w p F room st (L ++ M) wr ∧ M.length ≤ n * (ps.length + 1) ∧ Tree (L ++ M) tt (putL [] (ps.take n))) (fun tv i _ => ps.length - (intOf i).toNat)
  case atStart => exact ⟨0, 0, [], rfl, rfl, Nat.zero_le _, Grew.ofBelow (by rw [List.append_nil]; exact HA.out) (Below.refl _ _), by simp, .nil⟩
  case round =>
    obtain ⟨n, tt, M, rfl, rfl, hn, hg, hM, hT⟩ := hrel
    have HM := Lib.hid hM
    have HT := Lib.hid hT
    clear hM hT
    by_cases hlt : n < ps.length
    · obtain ⟨q, hq⟩ : ∃ q, ps[n]? = some q := ⟨_, List.getElem?_eq_getElem hlt⟩
      obtain ⟨b, o, rfl, c0, c1⟩ := (prs_onlyS HP.out hg.2 HF.out).2.2 n q hq
      obtain ⟨x0, x1⟩ := q
      dsimp only at c0 c1
      have etake : ps.take (n + 1) = ps.take n ++ [(x0, x1)] := by rw [List.take_succ, hq]; rfl
      have HQ := Lib.hid etake
      have hb1 := (Below.refl wr.heap.size wr).alloc (Nat.le_refl _) (.cells #[.int .i64 x0, .int .i64 x1] 24)
      have hW := hg.below hb1
      have HW := Lib.hid hW
      have sT := putL_srt (ps.take n) Srt.nil
      have lT := putL_len (ps.take n) Srt.nil
      rw [List.length_nil, List.length_take] at lT
      have cp := put_any (k := x0) (v := x1) hW.1 HT.out sT (by omega)
      have hiT := hi_le _ (putL [] (ps.take n)) (Nat.le_refl _)
      have LT := Lib.hid (show hi (putL [] (ps.take n)) ≤ n by omega)
      clear hq hW hg etake sT lT hiT
      go_wp2_with (fail)
      refine cp.mono ?_
      clear cp
      rintro e w2 ⟨t2, old, er, there, M2, rfl, hg2, hc⟩
      rcases hc with ⟨rfl, hM2, hT2, _, _⟩ | ⟨rfl, _, _, _, hr2, hM2⟩
      · have HG := Lib.hid (HW.out.trans hg2)
        have HC := Lib.hid (And.intro hM2 hT2)
        clear hM2 hT2 hg2
        go_wp2_with (fail)
        go_roundw
        case rel =>
          refine ⟨n + 1, t2, M ++ M2, rfl, by go_num, by omega, by rw [← List.append_assoc]; exact HG.out, ?_, ?_⟩
          · have h1 := HC.out.1
            have h2 := LT.out
            have h3 := HM.out
            rw [List.length_append, Nat.add_mul]
            omega
          · rw [← List.append_assoc, HQ.out, putL_snoc]; exact HC.out.2
        case measure => simp [intOf]; omega
      · exfalso
        have h2 := LT.out
        refine of_room (x := M2.length) hlt HM.out (by omega) HR.out ?_
        rw [hr2]
        simp only [List.length_append]
    · obtain rfl : n = ps.length := by omega
      go_wp2_with (fail)
      go_ret2
      refine ⟨tt, M, rfl, hg, HM.out, ?_⟩
      have := HT.out
      rw [List.take_of_length_le (Nat.le_refl _)] at this
      exact this
end
end Go.Proofs.Ytmbeaefgakfbnaa
