/- Trees whose nodes lie at other places: what Plain tells is plain; its nodes turned round. No condition: lemmas. -/
import Derived.Test.YtlpjbgojijkdjaaTsF
namespace Go.Proofs.Ytlpjbgojijkdjaa
open Go.RowKit
set_option linter.all false

theorem tr_moved {N M : List Nd} {s : Sh} {t : Int} {f : Nat → Nat} (h : Tr N s t) (hm : Moved f N M s) (hl : M.length = N.length) (hinj : ∀ i ∈ s.pre, ∀ j ∈ s.pre, f i = f j → i = j) : Tr M (s.map f) ((f s.top : Nat) : Int) :=
  ⟨by rw [hl]; exact h.le, hangs_map hm h.hg, by
    rw [Sh.pre_map]
    exact List.pairwise_map.2 (List.Pairwise.imp_of_mem (fun {a b} ha hb hne e => hne (hinj a ha b hb e)) h.nd), by rw [Sh.pre_map, List.length_map, h.all, hl]⟩
theorem idx_at {l : List Nat} (h : l.Nodup) {j x : Nat} (hx : l[j]? = some x) : l.idxOf x = 0 + j := by
  have hm : x ∈ l := List.mem_of_getElem? hx
  have h1 : l.idxOf x < l.length := List.idxOf_lt_length_of_mem hm
  have h2 : l[l.idxOf x]? = some x := by rw [List.getElem?_eq_getElem h1, List.getElem_idxOf h1]
  have := nodup_at h h2 hx
  omega
theorem plain_tr {N : List Nd} {s : Sh} {t : Int} (h : Tr N s t) : ∃ s', Tr (lay N s 0) s' 0 ∧ lay (lay N s 0) s' 0 = lay N s 0 ∧ allP (lay N s 0) s'.lvs = allP N s.lvs := by
  have hlm := lay_map (f := fun x => s.pre.idxOf x) (c := 0) h.hg (fun j x hx => idx_at h.nd hx)
  have hmv : Moved (fun x => s.pre.idxOf x) N (lay N s 0) s := fun i hi n hn => by
    obtain ⟨j, hj⟩ := List.getElem?_of_mem hi
    have e := idx_at h.nd hj
    show (lay N s 0)[s.pre.idxOf i]? = _
    rw [e, Nat.zero_add, hlm, List.getElem?_map, hj]
    simp [nd_of hn]
  have htop : s.pre.idxOf s.top = 0 := by have := idx_at h.nd s.pre_top; omega
  have ht := tr_moved h hmv (by rw [lay_len, h.all]) (fun i hi j hj e => by
    obtain ⟨a, ha⟩ := List.getElem?_of_mem hi
    obtain ⟨b, hb⟩ := List.getElem?_of_mem hj
    have e1 := idx_at h.nd ha
    have e2 := idx_at h.nd hb
    have e3 : s.pre.idxOf i = s.pre.idxOf j := e
    have : a = b := by omega
    rw [this, hb] at ha
    exact (Option.some.inj ha).symm)
  refine ⟨s.map _, by rw [show (0 : Int) = ((s.pre.idxOf s.top : Nat) : Int) from by rw [htop]; rfl]; exact ht, lay_moved hmv h.hg, allP_moved hmv h.hg⟩
theorem mod_two {i k n : Nat} (hi : i < n) (hk : k < n) : (i + k) % n = if i + k < n then i + k else i + k - n := by
  split
  · exact Nat.mod_eq_of_lt (by assumption)
  · rw [Nat.mod_eq_sub_mod (by omega), Nat.mod_eq_of_lt (by omega)]
theorem turned_tr {P U : List Nd} {s : Sh} {k : Nat} (h : Tr P s 0) (hk : k < P.length) (hl : U.length = P.length) (hU : ∀ i x, P[i]? = some x → U[(i + k) % P.length]? = some (fixn (fun j => (j + k) % P.length) x)) :
    ∃ s', Tr U s' (k : Int) ∧ lay U s' 0 = lay P s 0 ∧ allP U s'.lvs = allP P s.lvs := by
  have hmv : Moved (fun j => (j + k) % P.length) P U s := fun i hi n hn => hU i n hn
  have htop : s.top = 0 := by have := h.hg.top; omega
  have ht := tr_moved h hmv hl (fun i hi j hj e => by
    have h1 := h.hg.lt i hi
    have h2 := h.hg.lt j hj
    have e : (i + k) % P.length = (j + k) % P.length := e
    rw [mod_two h1 hk, mod_two h2 hk] at e
    split at e <;> split at e <;> omega)
  refine ⟨s.map _, ?_, lay_moved hmv h.hg, allP_moved hmv h.hg⟩
  have e : ((s.top + k) % P.length : Nat) = k := by rw [htop, Nat.zero_add]; exact Nat.mod_eq_of_lt hk
  simp only [e] at ht
  exact ht
theorem tmod_at {i k n : Nat} (hn : n ≤ 460) (hi : i < n) (hk : k < n) : wrap64 ((i : Int) + (k : Int)) = ((i + k : Nat) : Int) ∧ ((i + k : Nat) : Int).tmod (n : Int) = (((i + k) % n : Nat) : Int) ∧ (i + k) % n < n := by
  refine ⟨by unfold wrap64; omega, by rw [Int.tmod_eq_emod_of_nonneg (by omega)]; omega, Nat.mod_lt _ (by omega)⟩
theorem fixn_p (f : Nat → Nat) (z : Nd) : (fixn f z).p = z.p := by unfold fixn; split <;> rfl
theorem small_of_lay {U : List Nd} {s : Sh} {t : Int} (h : Tr U s t) (hs : Small (lay U s 0)) : Small U :=
  ⟨by have := hs.1; rw [lay_len, h.all] at this; exact this, fun z hz => by
    obtain ⟨y, hy⟩ := List.getElem?_of_mem hz
    have hm := h.mem (List.getElem?_eq_some_iff.1 hy).1
    have hlm := lay_map (f := fun x => s.pre.idxOf x) (c := 0) h.hg (fun j x hx => idx_at h.nd hx)
    have hin : fixn (fun x => s.pre.idxOf x) z ∈ lay U s 0 := by
      rw [hlm]
      exact List.mem_map.2 ⟨y, hm, by rw [nd_of hy]⟩
    have := hs.2 _ hin
    rw [fixn_p] at this
    exact this⟩
#print axioms small_of_lay
#print axioms plain_tr
#print axioms turned_tr
#print axioms tmod_at
end Go.Proofs.Ytlpjbgojijkdjaa
