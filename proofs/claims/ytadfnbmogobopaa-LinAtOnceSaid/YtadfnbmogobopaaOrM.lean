/- Orders of a history's calls: what they name, whether they stand in time, what is told in them (plain mathematics). No condition: definitions and lemmas. -/
import Derived.Test.YtadfnbmogobopaaPaM
import Derived.Test.YtadfnbmogobopaaMdR
namespace Go.Proofs.Ytadfnbmogobopaa
set_option linter.all false

/-- The call that a place names. -/
def cAt (L : List ClD) (i : Int) : ClD := L.getD i.toNat zCl
def inR (L : List ClD) (i : Int) : Prop := 0 ≤ i ∧ i < (L.length : Int)
def rfd (c : ClD) : Prop := 0 ≤ c.g ∧ ¬ c.a.err = 0
def must (c : ClD) : Prop := 0 ≤ c.g ∧ c.a.err = 0
instance (L : List ClD) (i : Int) : Decidable (inR L i) := by unfold inR; infer_instance
instance (c : ClD) : Decidable (rfd c) := by unfold rfd; infer_instance
instance (c : ClD) : Decidable (must c) := by unfold must; infer_instance
/-- Places of calls, each once; all that must be, none that was refused. -/
structure Nms (L : List ClD) (l : List Int) : Prop where
  inr : ∀ i ∈ l, inR L i
  nd : l.Nodup
  no : ∀ i ∈ l, ¬ rfd (cAt L i)
  all : ∀ i : Nat, i < L.length → must (L.getD i zCl) → (i : Int) ∈ l
/-- The calls in that order. -/
def dn (L : List ClD) (l : List Int) : List ClD := l.map (cAt L)
theorem dn_len (L : List ClD) (l : List Int) : (dn L l).length = l.length := by simp [dn]
theorem dn_at {L : List ClD} {l : List Int} {i : Nat} (h : i < l.length) : (dn L l).getD i zCl = cAt L (l.getD i 0) := by
  unfold dn
  rw [List.getD_eq_getElem?_getD, List.getElem?_map, List.getD_eq_getElem?_getD, List.getElem?_eq_getElem h]; rfl
theorem cAt_mem {L : List ClD} {i : Int} (h : inR L i) : L[i.toNat]? = some (cAt L i) := by
  unfold inR at h
  unfold cAt
  have hi : i.toNat < L.length := by omega
  rw [List.getD_eq_getElem?_getD, List.getElem?_eq_getElem hi]; rfl
/-- The pairs after so many calls; what each tells. -/
def stt (m : List Pr) (D : List ClD) : Nat → List Pr
  | 0 => m
  | n + 1 => doP (stt m D n) (D.getD n zCl).o.c (D.getD n zCl).o.k (D.getD n zCl).o.v
def tel (m : List Pr) (D : List ClD) (i : Nat) : Prop := 0 ≤ (D.getD i zCl).g → doA (stt m D i) (D.getD i zCl).o.c (D.getD i zCl).o.k (D.getD i zCl).o.h = (D.getD i zCl).a
instance (m : List Pr) (D : List ClD) (i : Nat) : Decidable (tel m D i) := by unfold tel; infer_instance
def tls (m : List Pr) (D : List ClD) (n : Nat) : Prop := ∀ i, i < n → tel m D i
/-- None stands ahead of one that is before it. -/
def inT (D : List ClD) (n : Nat) : Prop := ∀ i j, i < j → j < n → ¬ bef (D.getD j zCl) (D.getD i zCl)
structure Rgt (m : List Pr) (L : List ClD) (l : List Int) : Prop where
  nm : Nms L l
  tm : inT (dn L l) l.length
  tl : tls m (dn L l) l.length
def ordR (m : List Pr) (N : List EvD) (l : List Int) : Prop := Srt m ∧ ∃ s, mtch N = some s ∧ Rgt m s.l l
/-- The calls of a history; the pairs at the end of an order. -/
def endP (m : List Pr) (N : List EvD) (l : List Int) : List Pr := match mtch N with
  | none => []
  | some s => stt m (dn s.l l) l.length
theorem stt_s {m : List Pr} (hs : Srt m) (D : List ClD) : ∀ n, Srt (stt m D n)
  | 0 => hs
  | n + 1 => doP_s (stt_s hs D n) _ _ _
theorem stt_le (m : List Pr) (D : List ClD) : ∀ n, (stt m D n).length ≤ m.length + n
  | 0 => Nat.le_refl _
  | n + 1 => by
    have := stt_le m D n
    have h2 := doP_le (stt m D n) (D.getD n zCl).o.c (D.getD n zCl).o.k (D.getD n zCl).o.v
    show (doP _ _ _ _).length ≤ _
    omega
theorem tls_step {m : List Pr} {D : List ClD} {n : Nat} : tls m D (n + 1) ↔ tls m D n ∧ tel m D n := by
  constructor
  · intro h; exact ⟨fun i hi => h i (by omega), h n (by omega)⟩
  · rintro ⟨h1, h2⟩ i hi
    rcases Nat.lt_or_ge i n with h | h
    · exact h1 i h
    · rw [show i = n by omega]; exact h2
theorem inT_step {D : List ClD} {n : Nat} : inT D (n + 1) ↔ inT D n ∧ ∀ i, i < n → ¬ bef (D.getD n zCl) (D.getD i zCl) := by
  constructor
  · intro h; exact ⟨fun i j hi hj => h i j hi (by omega), fun i hi => h i n hi (by omega)⟩
  · rintro ⟨h1, h2⟩ i j hi hj
    rcases Nat.lt_or_ge j n with h | h
    · exact h1 i j hi h
    · rw [show j = n by omega] at hi ⊢; exact h2 i hi
/-- The one that began last of those gone through. -/
structure Lat (D : List ClD) (n : Nat) (c : ClD) : Prop where
  le : ∀ i, i < n → (D.getD i zCl).f ≤ c.f
  is : c = zCl ∨ ∃ i, i < n ∧ c = D.getD i zCl
theorem Lat.nil (D : List ClD) : Lat D 0 zCl := ⟨fun i hi => by omega, .inl rfl⟩
theorem Lat.more {D : List ClD} {n : Nat} {c : ClD} (h : Lat D n c) : Lat D (n + 1) (if c.f < (D.getD n zCl).f then D.getD n zCl else c) := by
  refine ⟨fun i hi => ?_, ?_⟩
  · by_cases e : i = n
    · subst e; split <;> omega
    · have := h.le i (by omega)
      split <;> omega
  · split
    · exact .inr ⟨n, by omega, rfl⟩
    · rcases h.is with e | ⟨i, hi, e⟩
      · exact .inl e
      · exact .inr ⟨i, by omega, e⟩
theorem bef_z (c : ClD) : ¬ bef c zCl := by unfold bef zCl; simp only; omega
/-- A call is before one of those ahead of it just if it is before the one that began last. -/
theorem Lat.step {D : List ClD} {n : Nat} {c : ClD} (h : Lat D (n + 1) c) (hi : ¬ bef (D.getD n zCl) (D.getD n zCl)) (ht : inT D n) : inT D (n + 1) ↔ ¬ bef (D.getD n zCl) c := by
  rw [inT_step]
  constructor
  · rintro ⟨_, h2⟩ hb
    rcases h.is with e | ⟨i, h3, e⟩
    · rw [e] at hb; exact bef_z _ hb
    · rw [e] at hb
      by_cases e2 : i = n
      · subst e2; exact hi hb
      · exact h2 i (by omega) hb
  · intro hb
    refine ⟨ht, fun i h3 hc => hb ?_⟩
    have := h.le i (by omega)
    unfold bef at hc ⊢
    omega
theorem inT_not {D : List ClD} {n k : Nat} (h : ¬ inT D k) (hk : k ≤ n) : ¬ inT D n := fun x => h (fun i j hi hj => x i j hi (by omega))
theorem tls_not {m : List Pr} {D : List ClD} {n k : Nat} (h : ¬ tls m D k) (hk : k ≤ n) : ¬ tls m D n := fun x => h (fun i hi => x i (by omega))
theorem dn_irr {N : List EvD} {n : Nat} {s : Mt} (I : MInv N n s) {l : List Int} (hl : ∀ i ∈ l, inR s.l i) {i : Nat} (hi : i < l.length) : ¬ bef ((dn s.l l).getD i zCl) ((dn s.l l).getD i zCl) := by
  rw [dn_at hi]
  have hm : l.getD i 0 ∈ l := by rw [List.getD_eq_getElem?_getD, List.getElem?_eq_getElem hi]; exact List.getElem_mem hi
  exact I.irr (cAt_mem (hl _ hm))

/-! One call after the other. -/
theorem slo_bef {N : List EvD} {n : Nat} {s : Mt} (I : MInv N n s) (h : slo s.l) : ∀ (d i : Nat), i + 1 + d < s.l.length → bef (s.l.getD i zCl) (s.l.getD (i + 1 + d) zCl) := by
  intro d
  induction d with
  | zero =>
    intro i hi
    have := h (i + 1) (by omega) (by omega)
    rw [Nat.add_sub_cancel] at this
    exact this
  | succ d ih =>
    intro i hi
    have h1 := ih i (by omega)
    have h2 := h (i + 1 + d + 1) (by omega) (by omega)
    rw [Nat.add_sub_cancel] at h2
    have hd : s.l[i + 1 + d]? = some (s.l.getD (i + 1 + d) zCl) := by rw [List.getD_eq_getElem?_getD, List.getElem?_eq_getElem (by omega)]; rfl
    exact I.trans hd h1 h2
theorem slo_lt {N : List EvD} {n : Nat} {s : Mt} (I : MInv N n s) (h : slo s.l) {i j : Nat} (hij : i < j) (hj : j < s.l.length) : bef (s.l.getD i zCl) (s.l.getD j zCl) := by
  have := slo_bef I h (j - i - 1) i (by omega)
  rwa [show i + 1 + (j - i - 1) = j by omega] at this
theorem isrt_ext {a b : List Int} (ha : a.Pairwise (· < ·)) (hb : b.Pairwise (· < ·)) (h : ∀ z, z ∈ a ↔ z ∈ b) : a = b := by
  have h1 : Srt (a.map (fun i => ((i, 0) : Pr))) := List.pairwise_map.2 (ha.imp (fun h => h))
  have h2 : Srt (b.map (fun i => ((i, 0) : Pr))) := List.pairwise_map.2 (hb.imp (fun h => h))
  have e := srt_ext h1 h2 (fun z => by
    simp only [List.mem_map]
    constructor
    · rintro ⟨x, hx, rfl⟩; exact ⟨x, (h x).1 hx, rfl⟩
    · rintro ⟨x, hx, rfl⟩; exact ⟨x, (h x).2 hx, rfl⟩)
  have e2 := congrArg (List.map (fun z : Pr => z.1)) e
  simpa [List.map_map, Function.comp_def] using e2
/-- 0, 1, 2, .. -/
def upTo (n : Nat) : List Int := (List.range n).map (fun i : Nat => (i : Int))
theorem upTo_len (n : Nat) : (upTo n).length = n := by simp [upTo]
theorem upTo_succ (n : Nat) : upTo (n + 1) = upTo n ++ [(n : Int)] := by simp [upTo, List.range_succ]
theorem upTo_at {n i : Nat} (h : i < n) : (upTo n).getD i 0 = (i : Int) := by
  unfold upTo
  rw [List.getD_eq_getElem?_getD, List.getElem?_map, List.getElem?_range h]; rfl
theorem upTo_mem {n : Nat} {z : Int} : z ∈ upTo n ↔ 0 ≤ z ∧ z < n := by
  unfold upTo
  simp only [List.mem_map, List.mem_range]
  constructor
  · rintro ⟨i, hi, rfl⟩; omega
  · rintro ⟨h1, h2⟩; exact ⟨z.toNat, by omega, by omega⟩
theorem upTo_lt (n : Nat) : (upTo n).Pairwise (· < ·) := by
  unfold upTo
  exact List.pairwise_map.2 (List.pairwise_lt_range.imp (fun h => by omega))
theorem rgt_rising {N : List EvD} {n : Nat} {s : Mt} (I : MInv N n s) (hs : slo s.l) (ho : ovr s.l) (he : ∀ c ∈ s.l, c.a.err = 0) {l : List Int} (hn : Nms s.l l) (ht : inT (dn s.l l) l.length) : l = upTo s.l.length := by
  refine isrt_ext ?_ (upTo_lt _) (fun z => ⟨fun hz => upTo_mem.2 (hn.inr z hz), fun hz => ?_⟩)
  · rw [List.pairwise_iff_getElem]
    intro i j hi hj hij
    have h1 := hn.inr _ (List.getElem_mem hi)
    have h2 := hn.inr _ (List.getElem_mem hj)
    have hne : l[i] ≠ l[j] := fun e => by
      have := (List.getElem_inj hn.nd).1 e
      omega
    have hb := ht i j hij hj
    rw [dn_at hi, dn_at hj] at hb
    have e1 : l.getD i 0 = l[i] := by rw [List.getD_eq_getElem?_getD, List.getElem?_eq_getElem hi]; rfl
    have e2 : l.getD j 0 = l[j] := by rw [List.getD_eq_getElem?_getD, List.getElem?_eq_getElem hj]; rfl
    rw [e1, e2] at hb
    rcases Int.lt_trichotomy l[i] l[j] with h | h | h
    · exact h
    · exact absurd h hne
    · exfalso
      unfold inR at h1 h2
      exact hb (slo_lt I hs (i := (l[j]).toNat) (j := (l[i]).toNat) (by omega) (by omega))
  · obtain ⟨h1, h2⟩ := upTo_mem.1 hz
    have hi : z.toNat < s.l.length := by omega
    have hm : s.l.getD z.toNat zCl ∈ s.l := by rw [List.getD_eq_getElem?_getD, List.getElem?_eq_getElem hi]; exact List.getElem_mem hi
    have := hn.all z.toNat hi ⟨ho _ hm, he _ hm⟩
    rwa [show ((z.toNat : Nat) : Int) = z by omega] at this
theorem nms_up {L : List ClD} (he : ∀ c ∈ L, c.a.err = 0) : Nms L (upTo L.length) := by
  refine ⟨fun i hi => upTo_mem.1 hi, (upTo_lt _).imp (fun h => by omega), fun i hi hr => ?_, fun i hi _ => upTo_mem.2 (by omega)⟩
  have := cAt_mem (L := L) (upTo_mem.1 hi)
  exact hr.2 (he _ (List.mem_of_getElem? this))
theorem inT_up {N : List EvD} {n : Nat} {s : Mt} (I : MInv N n s) (hs : slo s.l) : inT (dn s.l (upTo s.l.length)) s.l.length := by
  intro i j hij hj hb
  rw [dn_at (by rw [upTo_len]; exact hj), dn_at (by rw [upTo_len]; omega), upTo_at hj, upTo_at (by omega)] at hb
  unfold cAt at hb
  rw [Int.toNat_natCast, Int.toNat_natCast] at hb
  have h1 := slo_lt I hs hij hj
  have hc : s.l[i]? = some (s.l.getD i zCl) := by rw [List.getD_eq_getElem?_getD, List.getElem?_eq_getElem (by omega)]; rfl
  have hd : s.l[j]? = some (s.l.getD j zCl) := by rw [List.getD_eq_getElem?_getD, List.getElem?_eq_getElem hj]; rfl
  exact I.asym hc hd ⟨h1, hb⟩
theorem dn_up (L : List ClD) : dn L (upTo L.length) = L := by
  apply List.ext_getElem?
  intro i
  unfold dn upTo
  rw [List.map_map, List.getElem?_map]
  rcases Nat.lt_or_ge i L.length with h | h
  · rw [List.getElem?_range h, List.getElem?_eq_getElem h]
    simp only [Option.map_some, Function.comp, cAt, Int.toNat_natCast]
    rw [List.getD_eq_getElem?_getD, List.getElem?_eq_getElem h]; rfl
  · rw [List.getElem?_eq_none (by simpa using h), List.getElem?_eq_none h]; rfl
theorem rgt_up {N : List EvD} {n : Nat} {s : Mt} (I : MInv N n s) (hs : slo s.l) (he : ∀ c ∈ s.l, c.a.err = 0) (m : List Pr) : Rgt m s.l (upTo s.l.length) ↔ tls m s.l s.l.length := by
  constructor
  · intro h
    have := h.tl
    rw [dn_up, upTo_len] at this
    exact this
  · intro h
    refine ⟨nms_up he, ?_, ?_⟩
    · rw [upTo_len]; exact inT_up I hs
    · rw [dn_up, upTo_len]; exact h

/-! Two side by side, the other way round. -/
def swi (l : List Int) (k : Nat) : List Int := (l.set k (l.getD (k + 1) 0)).set (k + 1) (l.getD k 0)
theorem swi_len (l : List Int) (k : Nat) : (swi l k).length = l.length := by simp [swi]
theorem swi_at {l : List Int} {k : Nat} (hk : k + 1 < l.length) (i : Nat) : (swi l k).getD i 0 = l.getD (if i = k then k + 1 else if i = k + 1 then k else i) 0 := by
  unfold swi
  rw [List.getD_eq_getElem?_getD, List.getElem?_set, List.getElem?_set, List.length_set]
  by_cases h1 : i = k + 1
  · subst h1
    rw [if_pos rfl, if_pos hk, if_neg (by omega), if_pos rfl]; rfl
  · by_cases h2 : i = k
    · subst h2
      rw [if_neg (by omega), if_pos rfl, if_pos (by omega), if_pos rfl]; rfl
    · rw [if_neg (by omega), if_neg (by omega), if_neg h2, if_neg h1, ← List.getD_eq_getElem?_getD]
theorem swi_perm {l : List Int} {k : Nat} (hk : k + 1 < l.length) : (swi l k).Perm l := by
  obtain ⟨A, B, e, hA⟩ : ∃ A B : List Int, l = A ++ (l.getD k 0 :: l.getD (k + 1) 0 :: B) ∧ A.length = k := by
    refine ⟨l.take k, l.drop (k + 2), ?_, by rw [List.length_take]; omega⟩
    have h0 : l.drop k = l.getD k 0 :: l.drop (k + 1) := by
      rw [List.drop_eq_getElem_cons (by omega), List.getD_eq_getElem?_getD, List.getElem?_eq_getElem (by omega)]; rfl
    have h1 : l.drop (k + 1) = l.getD (k + 1) 0 :: l.drop (k + 2) := by
      rw [List.drop_eq_getElem_cons hk, List.getD_eq_getElem?_getD, List.getElem?_eq_getElem hk]; rfl
    rw [← h1, ← h0, List.take_append_drop]
  generalize ha : l.getD k 0 = a at *
  generalize hb : l.getD (k + 1) 0 = b at *
  have e2 : swi l k = A ++ (b :: a :: B) := by
    unfold swi
    rw [ha, hb, e]
    subst hA
    simp
  rw [e2, e]
  exact List.Perm.append_left A (List.Perm.swap a b B)
theorem nms_perm {L : List ClD} {l l' : List Int} (h : l'.Perm l) (hn : Nms L l) : Nms L l' :=
  ⟨fun i hi => hn.inr i (h.mem_iff.1 hi), h.nodup_iff.2 hn.nd, fun i hi => hn.no i (h.mem_iff.1 hi), fun i hi hm => h.mem_iff.2 (hn.all i hi hm)⟩
theorem doP_rd {c : Int} (h : 4 ≤ c) (l : List Pr) (k v : Int) : doP l c k v = l := by
  by_cases hb : Srt l ∧ okOp c
  · exact doP_read hb.1 hb.2 k v h
  · exact doP_bad hb k v
theorem dn_swi {L : List ClD} {l : List Int} {k : Nat} (hk : k + 1 < l.length) {i : Nat} (hi : i < l.length) : (dn L (swi l k)).getD i zCl = (dn L l).getD (if i = k then k + 1 else if i = k + 1 then k else i) zCl := by
  rw [dn_at (by rw [swi_len]; exact hi), swi_at hk, dn_at (by split; exact hk; split; omega; exact hi)]
theorem stt_swi {m : List Pr} {L : List ClD} {l : List Int} {k : Nat} (hk : k + 1 < l.length) (ha : 4 ≤ ((dn L l).getD k zCl).o.c) (hb : 4 ≤ ((dn L l).getD (k + 1) zCl).o.c) : ∀ i, i ≤ l.length → stt m (dn L (swi l k)) i = stt m (dn L l) i := by
  intro i
  induction i with
  | zero => intro _; rfl
  | succ i ih =>
    intro hi
    show doP _ _ _ _ = doP _ _ _ _
    rw [ih (by omega), dn_swi hk (by omega)]
    by_cases h1 : i = k
    · subst h1
      rw [if_pos rfl, doP_rd hb, doP_rd ha]
    · by_cases h2 : i = k + 1
      · subst h2
        rw [if_neg h1, if_pos rfl, doP_rd ha, doP_rd hb]
      · rw [if_neg h1, if_neg h2]
theorem rgt_swi {m : List Pr} {L : List ClD} {l : List Int} {k : Nat} (hk : k + 1 < l.length) (ha : 4 ≤ ((dn L l).getD k zCl).o.c) (hb : 4 ≤ ((dn L l).getD (k + 1) zCl).o.c) (h : Rgt m L l) :
    Rgt m L (swi l k) ↔ ¬ bef ((dn L l).getD k zCl) ((dn L l).getD (k + 1) zCl) := by
  constructor
  · intro h'
    have := h'.tm k (k + 1) (by omega) (by rw [swi_len]; exact hk)
    rw [dn_swi hk (by omega), dn_swi hk (by omega), if_pos rfl, if_neg (by omega), if_pos rfl] at this
    exact this
  · intro hnb
    have es : stt m (dn L l) (k + 1) = stt m (dn L l) k := doP_rd ha _ _ _
    refine ⟨nms_perm (swi_perm hk) h.nm, fun i j hij hj => ?_, fun i hi => ?_⟩
    · rw [swi_len] at hj
      rw [dn_swi hk hj, dn_swi hk (by omega)]
      by_cases c1 : i = k ∧ j = k + 1
      · obtain ⟨rfl, rfl⟩ := c1
        rw [if_pos rfl, if_neg (by omega), if_pos rfl]
        exact hnb
      · have hlt : (if i = k then k + 1 else if i = k + 1 then k else i) < (if j = k then k + 1 else if j = k + 1 then k else j) := by
          split <;> split <;> first | omega | (split <;> first | omega | (split <;> omega)) | skip
        exact h.tm _ _ hlt (by split; exact hk; split; omega; exact hj)
    · rw [swi_len] at hi
      unfold tel
      rw [stt_swi hk ha hb i (by omega), dn_swi hk hi]
      by_cases h1 : i = k
      · subst h1
        rw [if_pos rfl, ← es]
        exact h.tl (i + 1) hk
      · by_cases h2 : i = k + 1
        · subst h2
          rw [if_neg h1, if_pos rfl, es]
          exact h.tl k (by omega)
        · rw [if_neg h1, if_neg h2]
          exact h.tl i hi

/-! A call more that has not returned. -/
theorem cAt_app {L : List ClD} {i : Int} (h : inR L i) (c : ClD) : cAt (L ++ [c]) i = cAt L i := by
  unfold cAt inR at *
  rw [List.getD_eq_getElem?_getD, List.getElem?_append_left (by omega), ← List.getD_eq_getElem?_getD]
theorem dn_app {L : List ClD} {l : List Int} (h : ∀ i ∈ l, inR L i) (c : ClD) : dn (L ++ [c]) l = dn L l := by
  unfold dn
  exact List.map_congr_left (fun i hi => cAt_app (h i hi) c)
theorem nms_app {L : List ClD} {l : List Int} (h : Nms L l) {c : ClD} (hc : c.g < 0) : Nms (L ++ [c]) l := by
  refine ⟨fun i hi => ?_, h.nd, fun i hi => by rw [cAt_app (h.inr i hi)]; exact h.no i hi, fun i hi hm => ?_⟩
  · have := h.inr i hi
    unfold inR at *
    rw [List.length_append, List.length_singleton]; omega
  · rw [List.length_append, List.length_singleton] at hi
    rcases Nat.lt_or_ge i L.length with h1 | h1
    · rw [List.getD_eq_getElem?_getD, List.getElem?_append_left h1, ← List.getD_eq_getElem?_getD] at hm
      exact h.all i h1 hm
    · rw [List.getD_eq_getElem?_getD, List.getElem?_append_right h1, show i - L.length = 0 by omega] at hm
      have h2 : 0 ≤ c.g := hm.1
      omega
theorem rgt_app {m : List Pr} {L : List ClD} {l : List Int} (h : Rgt m L l) {c : ClD} (hc : c.g < 0) : Rgt m (L ++ [c]) l := by
  refine ⟨nms_app h.nm hc, ?_, ?_⟩
  · rw [dn_app h.nm.inr]; exact h.tm
  · rw [dn_app h.nm.inr]; exact h.tl
theorem dn_snoc {L : List ClD} {l : List Int} (h : ∀ i ∈ l, inR L i) (c : ClD) : dn (L ++ [c]) (l ++ [(L.length : Int)]) = dn L l ++ [c] := by
  have := dn_app h c
  unfold dn at *
  rw [List.map_append, this]
  simp [cAt]
theorem app_at_l {D : List ClD} {c : ClD} {i : Nat} (h : i < D.length) : (D ++ [c]).getD i zCl = D.getD i zCl := by
  rw [List.getD_eq_getElem?_getD, List.getElem?_append_left h, ← List.getD_eq_getElem?_getD]
theorem app_at_n (D : List ClD) (c : ClD) : (D ++ [c]).getD D.length zCl = c := by
  rw [List.getD_eq_getElem?_getD, List.getElem?_append_right (Nat.le_refl _)]; simp
theorem stt_app {m : List Pr} {D : List ClD} {c : ClD} : ∀ i, i ≤ D.length → stt m (D ++ [c]) i = stt m D i := by
  intro i
  induction i with
  | zero => intro _; rfl
  | succ i ih =>
    intro hi
    show doP _ _ _ _ = doP _ _ _ _
    rw [ih (by omega), app_at_l (by omega)]
theorem rgt_snoc {m : List Pr} {L : List ClD} {l : List Int} (h : Rgt m L l) {c : ClD} (hc : c.g < 0) : Rgt m (L ++ [c]) (l ++ [(L.length : Int)]) := by
  have hn := nms_app h.nm hc
  have hl : (l ++ [(L.length : Int)]).length = l.length + 1 := by simp
  have hdl := dn_len L l
  have hcn : cAt (L ++ [c]) (L.length : Int) = c := by simp [cAt]
  refine ⟨⟨fun i hi => ?_, ?_, fun i hi => ?_, fun i hi hm => List.mem_append_left _ (hn.all i hi hm)⟩, ?_, ?_⟩
  · rcases List.mem_append.1 hi with h1 | h1
    · exact hn.inr i h1
    · rw [List.mem_singleton.1 h1]
      unfold inR
      rw [List.length_append, List.length_singleton]; omega
  · rw [List.nodup_append]
    refine ⟨h.nm.nd, by simp, fun a ha b hb => ?_⟩
    rw [List.mem_singleton.1 hb]
    have := (h.nm.inr a ha).2
    omega
  · rcases List.mem_append.1 hi with h1 | h1
    · exact hn.no i h1
    · rw [List.mem_singleton.1 h1, hcn]
      intro x
      have := x.1
      omega
  · rw [hl, dn_snoc h.nm.inr, inT_step]
    refine ⟨fun i j hij hj => ?_, fun i hi => ?_⟩
    · rw [app_at_l (by omega), app_at_l (by omega)]; exact h.tm i j hij hj
    · rw [← hdl, app_at_n]
      intro x
      have := x.1
      omega
  · rw [hl, dn_snoc h.nm.inr, tls_step]
    refine ⟨fun i hi => ?_, ?_⟩
    · unfold tel
      rw [app_at_l (by omega), stt_app i (by omega)]; exact h.tl i hi
    · unfold tel
      rw [← hdl, app_at_n]
      intro x
      omega
theorem end_snoc {m : List Pr} {L : List ClD} {l : List Int} (h : ∀ i ∈ l, inR L i) (c : ClD) : stt m (dn (L ++ [c]) (l ++ [(L.length : Int)])) (l ++ [(L.length : Int)]).length = doP (stt m (dn L l) l.length) c.o.c c.o.k c.o.v := by
  have hdl := dn_len L l
  rw [dn_snoc h, show (l ++ [(L.length : Int)]).length = l.length + 1 by simp, ← hdl]
  show doP _ _ _ _ = _
  rw [app_at_n, stt_app _ (Nat.le_refl _)]

/-! Orders that are not right. -/
theorem nms_twice {L : List ClD} {l : List Int} {x : Int} (hx : x ∈ l) : ¬ Nms L (l ++ [x]) := fun h => by
  have := h.nd
  rw [List.nodup_append] at this
  exact this.2.2 x hx x (by simp) rfl
theorem nms_none {L : List ClD} {l : List Int} {x : Int} (hx : ¬ inR L x) : ¬ Nms L (l ++ [x]) := fun h => hx (h.inr x (by simp))
theorem nms_less {L : List ClD} {l : List Int} {k : Nat} (hn : Nms L l) (hk : k < l.length) (hr : 0 ≤ (cAt L (l.getD k 0)).g) : ¬ Nms L (l.take k ++ l.drop (k + 1)) := fun h => by
  have hm : l.getD k 0 ∈ l := by rw [List.getD_eq_getElem?_getD, List.getElem?_eq_getElem hk]; exact List.getElem_mem hk
  have hi := hn.inr _ hm
  have hno := hn.no _ hm
  have he : (cAt L (l.getD k 0)).a.err = 0 := Decidable.byContradiction fun x => hno ⟨hr, x⟩
  have h1 := h.all (l.getD k 0).toNat (by unfold inR at hi; omega) ⟨hr, he⟩
  rw [show (((l.getD k 0).toNat : Nat) : Int) = l.getD k 0 by unfold inR at hi; omega] at h1
  have hnd := hn.nd
  have e : l = l.take k ++ l.getD k 0 :: l.drop (k + 1) := by
    have h0 : l.drop k = l.getD k 0 :: l.drop (k + 1) := by
      rw [List.drop_eq_getElem_cons hk, List.getD_eq_getElem?_getD, List.getElem?_eq_getElem hk]; rfl
    rw [← h0, List.take_append_drop]
  generalize l.getD k 0 = x at *
  rw [e] at hnd
  rw [List.nodup_append] at hnd
  rcases List.mem_append.1 h1 with h2 | h2
  · exact hnd.2.2 x h2 x (by simp) rfl
  · exact (List.nodup_cons.1 hnd.2.1).1 h2
end Go.Proofs.Ytadfnbmogobopaa
