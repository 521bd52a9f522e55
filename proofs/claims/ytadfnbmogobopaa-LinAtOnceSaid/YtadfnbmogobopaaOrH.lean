/- Rows of numbers from a parameter; where a row of one's own lies; one after the other. No condition: lemmas. -/
import Derived.Test.YtadfnbmogobopaaOrG
import Derived.Test.YtadfnbmogobopaaNuG
namespace Go.Proofs.Ytadfnbmogobopaa
open Go.RowKit Go.Deep
set_option linter.all false
set_option maxRecDepth 20000

theorem src_ri {w : World} {a : Option Addr} {cap : Nat} {l : List Int} (h : RI w a cap l) (hz : a = none → cap = 0) : Source w (.slice a l.length cap) l.length (cellsI l) := by
  cases a with
  | none =>
    have h1 := h.1
    have h2 := hz rfl
    have : l = [] := List.length_eq_zero_iff.1 (by omega)
    subst this
    exact .inl ⟨by rw [h2]; rfl, rfl, rfl⟩
  | some x =>
    refine .inr ⟨x, cap, rfl, fun j u hj => ?_⟩
    have hl : j < l.length := by have := (List.getElem?_eq_some_iff.1 hj).1; rwa [cellsI_len] at this
    obtain ⟨b, o, e, hc⟩ := h.2.2 j _ (List.getElem?_eq_getElem hl)
    cases e
    rw [add_lit, hc, ← hj]
    simp [cellsI, hl]
section
variable {H : Type} {enc : TypeId × Value → H} {w : World} {fuel : Nat} {x : DataW H × List MemPlace}
theorem open_riz {v : Value} (h : DataW.trod enc Try.prog w 0 (fun _ => true) true fuel 40 [v] = some x) : ∃ a cap l, v = .slice a l.length cap ∧ (RI w a cap l ∧ (a = none → cap = 0)) := by
  obtain ⟨a, cap, l, rfl, h1⟩ := open_ri h
  refine ⟨a, cap, l, rfl, h1, fun e => ?_⟩
  subst e
  rcases open_slice Try.underlying40 h with ⟨hcs, _⟩ | ⟨y, len, cap', m, n, D, Pl, hcs, _⟩
  · simp at hcs; exact hcs.2
  · simp at hcs
end
/-- A row of one's own that holds something lies where it must not. -/
theorem prow_b {w : World} {T : Nat → Prop} {a : Option Addr} {n cap : Nat} {l : List Pr} (h : PRow w T (.slice a n cap) l) (hl : l ≠ []) {b o : Nat} {sp : Option Nat} (e : a = some ⟨b, o, sp⟩) : ¬ T b := by
  obtain ⟨g, cap2, e2, _⟩ := row_at h.row (List.length_pos_iff.2 hl)
  simp only [Value.slice.injEq] at e2
  obtain ⟨e3, -, -⟩ := e2
  rw [e3] at e
  cases e
  exact h.av b (by rw [e3]; rfl)
theorem nums_own {w : World} {S : Nat → Prop} {v : Value} {l : List Int} (h : Nums w S v l) : Nums w (fun j => j < w.heap.size ∧ ¬ v.ownBlock = some j) v l := ⟨h.row, fun k hk hs => hs.2 hk⟩
/-- In a history of one call after the other that is over. -/
theorem solo_up {m : List Pr} {N : List EvD} {s : Mt} (hm : Srt m) (h : mtch N = some s) (hs : slo s.l) (ho : ovr s.l) (he : ∀ i, i < s.l.length → (s.l.getD i zCl).a.err = 0) :
    (ordR m N (upTo s.l.length) ↔ tls m s.l s.l.length) ∧ endP m N (upTo s.l.length) = stt m s.l s.l.length ∧ ∀ l, ordR m N l → l = upTo s.l.length := by
  have I := minv N _ s h
  have he2 : ∀ c ∈ s.l, c.a.err = 0 := fun c hc => by
    obtain ⟨i, hi⟩ := List.getElem?_of_mem hc
    have := he i (List.getElem?_eq_some_iff.1 hi).1
    rwa [List.getD_eq_getElem?_getD, hi] at this
  refine ⟨(ordR_is hm h).trans (rgt_up I hs he2 m), ?_, fun l hl => ?_⟩
  · unfold endP
    rw [h]
    show stt m (dn s.l (upTo s.l.length)) (upTo s.l.length).length = _
    rw [dn_up, upTo_len]
  · have := (ordR_is hm h).1 hl
    exact rgt_rising I hs ho he2 this.nm this.tm
end Go.Proofs.Ytadfnbmogobopaa
