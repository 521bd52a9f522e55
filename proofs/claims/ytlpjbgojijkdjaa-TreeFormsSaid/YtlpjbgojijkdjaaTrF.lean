/- check.from exactly. No condition: lemmas. -/
import Derived.Test.YtlpjbgojijkdjaaTrE
namespace Go.Proofs.Ytlpjbgojijkdjaa
open Go.RowKit
set_option linter.all false

theorem Bs.below_lt {W W' : World} {g : Nat} {sn : List Bool} (h : Bs W g sn) (hb : Below W.heap.size W W') : Bs W' g sn ∧ Only (fun k => k = g) W W' := ⟨h.keep hb, Only.ofBelow hb⟩
theorem from_any {a : Option Addr} {cap : Nat} {N : List Nd} {w0 : World} {g sc : Nat} (hN : Ns w0 a cap N) (hsm : Small N) (hg0 : w0.heap.size ≤ g) : ∀ f, FromOk w0 a cap N g sc f := by
  intro f
  induction f with
  | zero => intro sn t x y hl hh W hf; exact absurd hf (Nat.not_lt_zero _)
  | succ f IH =>
    intro sn t x y hl hh W hf hsl hB hb B hBP
    have none : (∀ s, ¬ Part N sn t (oo hl x) (oo hh y) s) → B = false := fun h => by
      cases B
      · rfl
      · obtain ⟨s, hs⟩ := hBP.1 rfl; exact absurd hs (h s)
    have some_ : ∀ s, Part N sn t (oo hl x) (oo hh y) s → B = true := fun s h => hBP.2 ⟨s, h⟩
    by_cases h1 : 0 ≤ t ∧ t < (N.length : Int)
    case neg =>
      obtain rfl := none (part_out h1)
      exact (from_out h1 (by have := hsm.1; omega)).mono (fun e w' hh => ⟨hh.1, sn, rfl, (hB.below_lt hh.2).1, (hB.below_lt hh.2).2, fun s hs => absurd hs (part_out h1 s)⟩)
    obtain ⟨i, rfl⟩ : ∃ i : Nat, t = i := ⟨t.toNat, by omega⟩
    have hi : i < N.length := by omega
    obtain ⟨n, hn⟩ : ∃ n, N[i]? = some n := ⟨_, List.getElem?_eq_getElem hi⟩
    obtain ⟨v, hv⟩ : ∃ v, sn[i]? = some v := ⟨_, List.getElem?_eq_getElem (by omega)⟩
    cases v
    case true =>
      obtain rfl := none (part_seen rfl hv)
      exact (from_seen hsm.1 hi hsl hv hB rfl).mono (fun e w' hh => ⟨hh.1, sn, rfl, (hB.below_lt hh.2).1, (hB.below_lt hh.2).2, fun s hs => absurd hs (part_seen rfl hv s)⟩)
    cases hr : n.r with
    | false =>
      by_cases hk : okL n (oo hl x) (oo hh y)
      · have hp := part_lf (N := N) (t := (i : Int)) rfl hn hr hv hk
        obtain rfl := some_ _ hp
        exact (from_leaf hN hsm hg0 hn hr hsl hv hb hB rfl true ⟨fun _ => hk, fun _ => rfl⟩).mono (fun e w' hh => ⟨hh.1, sn.set i true, by rw [List.length_set], hh.2.1, hh.2.2, fun s hs => by rw [hs.1.uniq hp.1]; rfl⟩)
      · obtain rfl := none (part_lf_no rfl hn hr hk)
        exact (from_leaf hN hsm hg0 hn hr hsl hv hb hB rfl false ⟨fun h => (by cases h), fun h => absurd h hk⟩).mono (fun e w' hh => ⟨hh.1, sn.set i true, by rw [List.length_set], hh.2.1, hh.2.2, fun s hs => absurd hs (part_lf_no rfl hn hr hk s)⟩)
    | true =>
      by_cases hk : okR n (oo hl x) (oo hh y)
      case neg =>
        obtain rfl := none (part_rt_no rfl hn hr hk)
        exact (from_no1 hN hsm hg0 hn hr hsl hv hb hB rfl hk).mono (fun e w' ⟨sn', h1, h2, h3, h4⟩ => ⟨h1, sn', h2, h3, h4, fun s hs => absurd hs (part_rt_no rfl hn hr hk s)⟩)
      by_cases hL : ∃ s, Part N (sn.set i true) n.a (oo hl x) (some n.k) s
      case neg =>
        have hL' : ∀ s, ¬ Part N (sn.set i true) n.a (oo hl x) (some n.k) s := fun s hs => hL ⟨s, hs⟩
        obtain rfl := none (part_left_no rfl hn hr hL')
        exact (from_no2 hN hsm hg0 hn hr hsl hv hb hB rfl hk hf IH hL').mono (fun e w' ⟨sn', h1, h2, h3, h4⟩ => ⟨h1, sn', h2, h3, h4, fun s hs => absurd hs (part_left_no rfl hn hr hL' s)⟩)
      obtain ⟨sl, hL⟩ := hL
      by_cases hR : ∃ s, Part N (mark (sn.set i true) sl.pre) n.b (some n.k) (oo hh y) s
      case neg =>
        have hR' : ∀ s, ¬ Part N (mark (sn.set i true) sl.pre) n.b (some n.k) (oo hh y) s := fun s hs => hR ⟨s, hs⟩
        obtain rfl := none (part_right_no rfl hn hr hL hR')
        exact (from_no3 hN hsm hg0 hn hr hsl hv hb hB rfl hk hf IH hL hR').mono (fun e w' ⟨sn', h1, h2, h3, h4⟩ => ⟨h1, sn', h2, h3, h4, fun s hs => absurd hs (part_right_no rfl hn hr hL hR' s)⟩)
      obtain ⟨sr, hR⟩ := hR
      have hp := part_rt rfl hn hr hv hk hL hR
      obtain rfl := some_ _ hp
      exact (from_yes hN hsm hg0 hn hr hsl hv hb hB rfl hk hf IH hL hR).mono (fun e w' ⟨sn', h1, h2, h3, h4, h5⟩ => ⟨h1, sn', h2, h3, h4, fun s hs => by rw [hs.1.uniq hp.1, h5]; rfl⟩)
end Go.Proofs.Ytlpjbgojijkdjaa
