/- osierref18.Calls exactly. No condition: lemmas. -/
import Derived.Test.YtadfnbmogobopaaPaD
namespace Go.Proofs.Ytadfnbmogobopaa
open Go.RowKit
set_option linter.all false
set_option maxRecDepth 20000

theorem stp_inv {s s' : Mt} {n : Nat} {e : EvD} (h : stp s n e = some s') : okT e.t ∧ ((s.rets e ∧ s' = s.ret n e) ∨ (s.begs e ∧ s' = s.beg n e)) := by
  unfold stp at h
  by_cases h1 : okT e.t
  · rw [if_pos h1] at h
    by_cases h2 : s.rets e
    · rw [if_pos h2] at h; cases h; exact ⟨h1, .inl ⟨h2, rfl⟩⟩
    · rw [if_neg h2] at h
      by_cases h3 : s.begs e
      · rw [if_pos h3] at h; cases h; exact ⟨h1, .inr ⟨h3, rfl⟩⟩
      · rw [if_neg h3] at h; cases h
  · rw [if_neg h1] at h; cases h
/-- The loop of osierref18.Calls. -/
structure KL (w0 : World) (N : List EvD) (n : Nat) (s : Mt) (ao : Option Addr) (cap : Nat) (M : List RC) (W : World) : Prop where
  m : mtc N n = some s
  row : CRow W (fun _ => False) (.slice ao M.length cap) M
  l : M.map (fun m => m.n) = s.l
  own : ∀ k, (Value.slice ao M.length cap).ownBlock = some k → w0.heap.size ≤ k
  be : Below w0.heap.size w0 W
theorem KL.keep {w0 W W' : World} {N : List EvD} {n : Nat} {s : Mt} {ao : Option Addr} {cap : Nat} {M : List RC} (h : KL w0 N n s ao cap M W) (hb : Below W.heap.size W W') : KL w0 N n s ao cap M W' :=
  ⟨h.m, h.row.keep hb, h.l, h.own, pb2 h.be hb⟩
theorem KL.len {w0 W : World} {N : List EvD} {n : Nat} {s : Mt} {ao : Option Addr} {cap : Nat} {M : List RC} (h : KL w0 N n s ao cap M W) : M.length = s.l.length := by rw [← h.l, List.length_map]
theorem KL.at {w0 W : World} {N : List EvD} {n : Nat} {s : Mt} {ao : Option Addr} {cap : Nat} {M : List RC} (h : KL w0 N n s ao cap M W) {t : Int} (ht : okT t) (h0 : 0 < s.x t) :
    ∃ (g i : Nat) (m : RC), ao = some ⟨g, 0, none⟩ ∧ s.x t = i + 1 ∧ M[i]? = some m ∧ m.n = s.c (i + 1) ∧ m.n.t = t ∧ i < M.length ∧ w0.heap.size ≤ g ∧ (∀ j q, i < j → M[j]? = some q → ¬ q.n.t = t) := by
  have I := minv N n s h.m
  rcases I.wt t ht with ⟨a, _⟩ | ⟨i, c, h1, h2, h3, h4, h5⟩
  · omega
  have hl := h.l
  have hi := (List.getElem?_eq_some_iff.1 h2).1
  have hi' : i < M.length := by rw [h.len]; exact hi
  have e : ∀ (j : Nat) (q : RC), M[j]? = some q → s.l[j]? = some q.n := fun j q hq => by
    rw [← hl, List.getElem?_map, hq]; rfl
  obtain ⟨m, hm⟩ : ∃ m, M[i]? = some m := ⟨_, List.getElem?_eq_getElem hi'⟩
  have em : m.n = c := by have := e i m hm; rw [h2] at this; cases this; rfl
  obtain ⟨g, rfl, _, _, _⟩ := h.row.at hm
  refine ⟨g, i, m, rfl, h1, hm, by rw [c_at h2, em], by rw [em]; exact h3, hi', h.own g rfl, fun j q hj hq hqt => ?_⟩
  have := (I.ord i j c q.n hj h2 (e j q hq)).2 (by rw [h3, hqt])
  omega
theorem KL.beg {w0 W W' : World} {N : List EvD} {n : Nat} {s : Mt} {ao bo : Option Addr} {cap bc : Nat} {M : List RC} {t : Int} {op : OpD} (h : KL w0 N n s ao cap M W)
    (hr : CRow W' (fun _ => False) (.slice bo (M.length + 1) bc) (M ++ [⟨⟨t, (n : Int), -1, op, zAd⟩, none, 0⟩])) (hk : ∀ k, (Value.slice bo (M.length + 1) bc).ownBlock = some k → (Value.slice ao M.length cap).ownBlock = some k ∨ W.heap.size ≤ k)
    (ho : Only (fun k => (Value.slice ao M.length cap).ownBlock = some k) W W') (e : EvD) (he : e.t = t) (heo : e.o = op) (hm : mtc N (n + 1) = some (s.beg n e)) :
    KL w0 N (n + 1) (s.beg n e) bo bc (M ++ [⟨⟨t, (n : Int), -1, op, zAd⟩, none, 0⟩]) W' := by
  refine ⟨hm, by simpa using hr, ?_, ?_, h.be.trans (ho.below (fun i hi => h.own i hi) h.be.size)⟩
  · rw [List.map_append, h.l]; subst heo; subst he; rfl
  · intro k hk'
    rw [List.length_append, List.length_singleton] at hk'
    rcases hk k hk' with x | x
    · exact h.own k x
    · have := h.be.size; omega
theorem KL.ret {w0 W W' : World} {N : List EvD} {n : Nat} {s : Mt} {g : Nat} {cap i : Nat} {M : List RC} {c : ClD} {pa0 : Option Addr} {pc0 : Nat} (h : KL w0 N n s (some ⟨g, 0, none⟩) cap M W)
    (hm : M[i]? = some ⟨c, pa0, pc0⟩) (e : EvD) (hx : s.x e.t = i + 1) (hc : s.c (i + 1) = c) (pa : Option Addr) (pc : Nat) (hmt : mtc N (n + 1) = some (s.ret n e)) (hgg : w0.heap.size ≤ g)
    (hr : CRow W' (fun _ => False) (.slice (some ⟨g, 0, none⟩) M.length cap) (M.set i ⟨{ c with g := (n : Int), a := e.a }, pa, pc⟩)) (ho : Only (fun k => k = g) W W') :
    KL w0 N (n + 1) (s.ret n e) (some ⟨g, 0, none⟩) cap (M.set i ⟨{ c with g := (n : Int), a := e.a }, pa, pc⟩) W' := by
  refine ⟨hmt, by rw [List.length_set]; exact hr, ?_, fun k hk => by simp [Value.ownBlock] at hk; omega, h.be.trans (ho.below (fun j hj => by have e2 : j = g := hj; omega) h.be.size)⟩
  unfold Mt.ret; rw [hx, hc, Nat.add_sub_cancel, List.map_set, h.l]

end Go.Proofs.Ytadfnbmogobopaa
