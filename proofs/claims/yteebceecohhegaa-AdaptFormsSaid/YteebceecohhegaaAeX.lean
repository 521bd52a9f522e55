/- osierref1.JoinLeaf in one word. No condition: lemmas. -/
import Derived.Test.YteebceecohhegaaAeV
namespace Go.Proofs.Yteebceecohhegaa
open Go.RowKit
set_option linter.all false

theorem allP_two {N : List Nd} {l : List Nat} {i k : Nat} (hi : i ∈ l) (hk : k ∈ l) (hne : i ≠ k) : (nd N i).p.length + (nd N k).p.length ≤ (allP N l).length := by
  have h : ∀ l : List Nat, (allP N l).length = (l.map (fun i => (nd N i).p.length)).sum := fun l => by
    simp [allP, List.length_flatten, Function.comp_def]
  have p1 := List.perm_cons_erase hi
  have p2 := List.perm_cons_erase (show k ∈ l.erase i from (List.mem_erase_of_ne (fun e => hne e.symm)).2 hk)
  have p := p1.trans (p2.cons i)
  rw [h l, (p.map _).sum_nat]
  simp
theorem small_set {N : List Nd} {k : Nat} {m : Nd} (h : Small N) (hm : m.p.length ≤ 2100) : Small (N.set k m) := by
  refine ⟨by rw [List.length_set]; exact h.1, fun n hn => ?_⟩
  rcases List.mem_or_eq_of_mem_set hn with hn | rfl
  · exact h.2 n hn
  · exact hm
theorem rjl_any (t : Int) (a : Option Addr) (cap : Nat) (N : List Nd) (y : Int) (w : World) (hN : Ns w a cap N) (hsm : Small N) (hT : ∀ s, Tr N s t → (allP N s.lvs).length ≤ 2100) (b : Bool) (Q : List Nd) (h : JoiO N t y b Q) :
    Calls Try.prog 13 #[trv t a cap N, .int .i64 y] w (PlB w b Q) := by
  rcases h with ⟨rfl, s, i, T, h, hl, hj, rfl⟩ | ⟨rfl, rfl, h⟩
  · obtain rfl := h.2.1
    obtain ⟨x, b, k, m, nx, e1, e2, e3, e4, e5, e6⟩ := beside h.1 h.2.2 hl
    obtain ⟨T', o, j1, j2, j3, j4, j5, j6, j7, j8, j9, j10, j11, j12, j13, -⟩ := join_drp h.1 h.2.2 hl e1 e2
    rw [hj] at j1
    cases j1
    obtain ⟨T3, l1, hlay, _, hsz, _, _⟩ := join_lay h.1 h.2.2 hl e1 e2
    rw [hj] at l1
    cases l1
    have hkm := nextA_mem h.2.2 e2
    have hlf := lf_plain h.1.hg k hkm
    have h2 : Lk (N.set k (merged N i k b)) s t := lk_set j5 j13 rfl rfl rfl rfl (hangs_lk h.1.hg)
    have ex : nd (N.set k (merged N i k b)) x = nd N x := nd_set_ne j11
    have hCp : Cp (N.set k (merged N i k b)) (x : Int) (o : Int) (skp x b s) t := cp_skp (by rw [ex]; exact j3) (by rw [ex]; exact j2) h2 h.1.nd
    have h2100 := Nat.le_trans (allP_two (N := N) h.2.2 hkm j12) (hT s h.1)
    have hsP : Small (N.set k (merged N i k b)) := small_set hsm (by unfold merged; cases b <;> simp <;> omega)
    have hFl : (skp x b s).pre.length = (T.lay 0).length := by rw [← hlay, lay_len]
    have hF2 : (T.lay 0).length ≤ 2000 := by rw [AT.lay_len]; have := hsm.1; omega
    have hnxO : NxtO N t (i : Int) (some k) := .inl ⟨s, i, k, h, hl, e2, rfl⟩
    have hnx := nd_of e3
    rcases e6 with ⟨rfl, fa, fb, _⟩ | ⟨rfl, fa, fb, _⟩
    · simp only [cond_false] at j2
      exact rjl_left t a cap N s i k x o w hN hsm h hnxO (T.lay 0) j2 (by rw [hnx]; simp [fb]) j4 j5 j6 j11 j12 hlf e5 hsP _ hCp hFl hF2 hlay
    · simp only [cond_true] at j2
      exact rjl_right t a cap N s i k x o w hN hsm h hnxO (T.lay 0) j2 (by rw [hnx]; simp [fa]) j4 j5 j6 j11 j12 hlf e5 hsP _ hCp hFl hF2 hlay
  · exact rjl_no t a cap N y w hN hsm (.inr ⟨rfl, h⟩)
#print axioms rjl_any
end Go.Proofs.Yteebceecohhegaa
