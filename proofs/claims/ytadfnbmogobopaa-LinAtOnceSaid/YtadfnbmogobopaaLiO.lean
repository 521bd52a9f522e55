/- A spot as a map's key. No condition: lemmas. What a search holds: its calls, its order, what it remembers, the map. No condition: definitions and lemmas. A search's loop: what holds behind each call; one call more, and back. No condition: lemmas. -/
import Derived.Test.YtadfnbmogobopaaLiA
import Derived.DeepKeys4
import Derived.Maps.OwnSet
import Derived.Test.YtadfnbmogobopaaOrH
namespace Go.Proofs.Ytadfnbmogobopaa
open Go.RowKit Go.Maps
set_option linter.all false
set_option maxRecDepth 20000

/-- A number that is 64 bits wide. -/
def i64w (v : Int) : Prop := (Lit.int .i64 v).wf = true
theorem spLaid : laidOutB Try.prog = true := by kernel_rfl
theorem spRow : (78 : TypeId) < Try.prog.types.size := of_decide_eq_true (by kernel_rfl)
theorem spWide : (match Try.prog.underlying 78 with | some (.array _ _) | some (.struct _) => true | _ => false) = true := by kernel_rfl
theorem spLaw : Keyed Try.prog 78 := Keyed.of_law (deep_law_laid spLaid (m := 4) (by omega) spRow (by kernel_rfl) spWide)
theorem spMap : Try.prog.underlying 53 = some (.map 78 80) := by kernel_rfl
theorem spUnit (w : World) : (zeroValue 80).run Try.prog w = .ok (.agg #[]) w := by kernel_rfl
theorem spKT : Try.prog.keyType 78 = true := by kernel_rfl
theorem cellsSp : Try.prog.cellsOf 78 = 48 := by kernel_rfl
theorem cellsPl : Try.prog.cellsOf 60 = 16 := by kernel_rfl
theorem cellsVs : Try.prog.cellsOf 76 = 32 := by kernel_rfl
theorem cellsVl : Try.prog.cellsOf 75 = 2 := by kernel_rfl
theorem cellsBo : Try.prog.cellsOf 4 = 1 := by kernel_rfl
theorem cellsIn : Try.prog.cellsOf 3 = 1 := by kernel_rfl
theorem undBo : Try.prog.underlying 4 = some .bool := by kernel_rfl
theorem undIn : Try.prog.underlying 3 = some (.int .i64) := by kernel_rfl
theorem mapM_some {α β : Type} {f : α → Option β} : ∀ {l : List α}, (∀ x ∈ l, ∃ y, f x = some y) → ∃ r, l.mapM f = some r
  | [], _ => ⟨[], rfl⟩
  | x :: l, h => by
    obtain ⟨y, hy⟩ := h x (by simp)
    obtain ⟨r, hr⟩ := mapM_some (l := l) (fun z hz => h z (by simp [hz]))
    exact ⟨y :: r, by simp [List.mapM_cons, hy, hr]⟩
theorem klArr (d : Nat) (t : TypeId) (n : Nat) (e : TypeId) (cs : List Value) (hu : Try.prog.underlying t = some (.array n e)) (hl : cs.length = Try.prog.cellsOf t) :
    Try.prog.keyLits (d + 1) t cs = ((List.range n).mapM fun i => Try.prog.keyLits d e ((cs.drop (i * Try.prog.cellsOf e)).take (Try.prog.cellsOf e))).map List.flatten := by
  conv => lhs; unfold Program.keyLits
  simp only [hu, hl, if_true]
theorem klStr (d : Nat) (t : TypeId) (fs : Array Field) (cs : List Value) (hu : Try.prog.underlying t = some (.struct fs)) (hl : cs.length = Try.prog.cellsOf t) (hf : fs.all (·.name != "_") = true) :
    Try.prog.keyLits (d + 1) t cs = (fs.toList.mapM fun f => Try.prog.keyLits d f.type ((cs.drop f.offset).take (Try.prog.cellsOf f.type))).map List.flatten := by
  conv => lhs; unfold Program.keyLits
  simp only [hu, hl, hf, and_self, if_true]
theorem klBo (d : Nat) (b : Bool) : Try.prog.keyLits (d + 1) 4 [.bool b] = some [.bool b] := by
  simp [Program.keyLits, undBo]
theorem klIn (d : Nat) (v : Int) (h : i64w v) : Try.prog.keyLits (d + 1) 3 [.int .i64 v] = some [.int .i64 v] := by
  unfold i64w at h
  simp [Program.keyLits, undIn, h]
theorem klVl (d : Nat) (b : Bool) (v : Int) (h : i64w v) : ∃ r, Try.prog.keyLits (d + 2) 75 [.bool b, .int .i64 v] = some r := by
  have h1 := klBo d b
  have h2 := klIn d v h
  rw [klStr (d + 1) _ _ _ Try.underlying75 (by rw [cellsVl]; rfl) (by kernel_rfl)]
  simp [cellsBo, cellsIn, h1, h2]
theorem klPl (d : Nat) (cs : List Value) (hl : cs.length = 16) (h : ∀ i, i < 16 → ∃ b, cs[i]? = some (.bool b)) : ∃ r, Try.prog.keyLits (d + 2) 60 cs = some r := by
  rw [klArr (d + 1) _ _ _ _ Try.underlying60 (by rw [cellsPl]; exact hl)]
  simp only [cellsBo]
  obtain ⟨r, hr⟩ := mapM_some (l := List.range 16) (f := fun i => Try.prog.keyLits (d + 1) 4 ((cs.drop (i * 1)).take 1)) (fun i hi => by
    have hi := List.mem_range.1 hi
    obtain ⟨b, hb⟩ := h i hi
    obtain ⟨h1, h2⟩ := List.getElem?_eq_some_iff.1 hb
    refine ⟨[.bool b], ?_⟩
    rw [Nat.mul_one, List.drop_eq_getElem_cons h1, h2]
    exact klBo d b)
  exact ⟨_, by rw [hr]; rfl⟩
theorem klVs (d : Nat) (cs : List Value) (hl : cs.length = 32) (h : ∀ i, i < 16 → ∃ b v, i64w v ∧ cs[i * 2]? = some (.bool b) ∧ cs[i * 2 + 1]? = some (.int .i64 v)) : ∃ r, Try.prog.keyLits (d + 3) 76 cs = some r := by
  rw [klArr (d + 2) _ _ _ _ Try.underlying76 (by rw [cellsVs]; exact hl)]
  simp only [cellsVl]
  obtain ⟨r, hr⟩ := mapM_some (l := List.range 16) (f := fun i => Try.prog.keyLits (d + 2) 75 ((cs.drop (i * 2)).take 2)) (fun i hi => by
    have hi := List.mem_range.1 hi
    obtain ⟨b, v, hw, hb, hv⟩ := h i hi
    obtain ⟨h1, h2⟩ := List.getElem?_eq_some_iff.1 hb
    obtain ⟨h3, h4⟩ := List.getElem?_eq_some_iff.1 hv
    obtain ⟨r, hr⟩ := klVl d b v hw
    refine ⟨r, ?_⟩
    rw [List.drop_eq_getElem_cons h1, List.drop_eq_getElem_cons h3, h2, h4]
    exact hr)
  exact ⟨_, by rw [hr]; rfl⟩
theorem spf_bit {L : List ClD} {S : Nat → Bool} {m : List Pr} {n j : Nat} (h : j < 16) : spf L S m n j = .bool (S j) := by unfold spf; rw [if_pos h]
theorem spf_has {L : List ClD} {S : Nat → Bool} {m : List Pr} {n i : Nat} : spf L S m n (16 + i * 2) = .bool (hvN L m n i).1 ∧ spf L S m n (16 + i * 2 + 1) = .int .i64 (hvN L m n i).2 := by
  unfold spf
  rw [if_neg (by omega), if_pos (by omega), if_neg (by omega), if_neg (by omega), show (16 + i * 2 - 16) / 2 = i by omega, show (16 + i * 2 + 1 - 16) / 2 = i by omega]
  exact ⟨rfl, rfl⟩
/-- Each spot is a key. -/
theorem key_of (L : List ClD) (S : Nat → Bool) (m : List Pr) (hw : ∀ k, i64w (hv m k).2) : ∃ kl, keyOf Try.prog 78 (.agg (spotA L S m L.length)) = some kl := by
  have hN : ∀ i, i64w (hvN L m L.length i).2 := fun i => by
    unfold hvN
    split
    · exact hw _
    · show i64w 0; unfold i64w; decide
  obtain ⟨d, hd⟩ : ∃ d, Try.prog.types.size + 1 = d + 4 := ⟨Try.prog.types.size - 3, by
    have : 3 < Try.prog.types.size := of_decide_eq_true (by kernel_rfl)
    omega⟩
  obtain ⟨r1, h1⟩ := klPl (d + 1) ((vtv (spf L S m L.length) 48).take 16) (by simp [vtv_len]) (fun i hi => ⟨S i, by rw [List.getElem?_take_of_lt hi, vtv_get (by omega), spf_bit hi]⟩)
  obtain ⟨r2, h2⟩ := klVs d ((vtv (spf L S m L.length) 48).drop 16) (by simp [vtv_len]) (fun i hi => ⟨_, _, hN i, by rw [List.getElem?_drop, vtv_get (by omega)]; exact congrArg some spf_has.1, by rw [List.getElem?_drop, vtv_get (by omega)]; exact congrArg some spf_has.2⟩)
  have ht : ((vtv (spf L S m L.length) 48).drop 16).take 32 = (vtv (spf L S m L.length) 48).drop 16 := List.take_of_length_le (by simp [vtv_len])
  have hf : (Value.agg (spotA L S m L.length)).formed Try.prog 78 = true := by
    unfold Value.formed
    rw [Try.underlying78]
    simp [cellsSp, spotA_size]
  have hk : ∃ r, Try.prog.keyLits (d + 4) 78 (vtv (spf L S m L.length) 48) = some r := by
    rw [klStr (d + 3) _ _ _ Try.underlying78 (by rw [cellsSp, vtv_len]) (by kernel_rfl)]
    simp [cellsPl, cellsVs, h1, h2, ht]
  obtain ⟨r, hr⟩ := hk
  refine ⟨.string (keyBytes r), ?_⟩
  unfold keyOf
  rw [Try.underlying78]
  simp only [spKT, hf, hd, Bool.and_self, if_true, Value.cells]
  simp only [spotA, List.toList_toArray, hr, Option.map_some]
/-- Two spots that are one key say the same. -/
theorem key_same {L : List ClD} {S S' : Nat → Bool} {m m' : List Pr} {kl : Lit} (h : keyOf Try.prog 78 (.agg (spotA L S m L.length)) = some kl) (h' : keyOf Try.prog 78 (.agg (spotA L S' m' L.length)) = some kl) :
    (∀ i, i < 16 → S i = S' i) ∧ (L.length ≤ 16 → ∀ i, i < L.length → hv m (L.getD i zCl).o.k = hv m' (L.getD i zCl).o.k) := by
  have e := spLaw.inj h h'
  have e2 : vtv (spf L S m L.length) 48 = vtv (spf L S' m' L.length) 48 := by
    unfold spotA at e
    injection e with e
    injection e
  have at_ : ∀ j, j < 48 → spf L S m L.length j = spf L S' m' L.length j := fun j hj => by
    have a1 := vtv_get (f := spf L S m L.length) hj
    rw [e2, vtv_get hj] at a1
    exact (Option.some.inj a1).symm
  refine ⟨fun i hi => ?_, fun hn i hi => ?_⟩
  · have := at_ i (by omega)
    rw [spf_bit hi, spf_bit hi] at this
    injection this
  · have b1 := at_ (16 + i * 2) (by omega)
    have b2 := at_ (16 + i * 2 + 1) (by omega)
    rw [spf_has.1, spf_has.1] at b1
    rw [spf_has.2, spf_has.2] at b2
    injection b1 with b1
    injection b2 with _ b2
    unfold hvN at b1 b2
    rw [if_pos hi, if_pos hi] at b1 b2
    exact Prod.ext b1 b2
end Go.Proofs.Ytadfnbmogobopaa

namespace Go.Proofs.Ytadfnbmogobopaa
open Go.RowKit Go.Maps
set_option linter.all false
set_option maxRecDepth 20000

abbrev DWs := DataW Unit
/-- Every value is 64 bits wide. -/
def widM (m : List Pr) : Prop := ∀ z ∈ m, i64w z.2
theorem widM.hv {m : List Pr} (h : widM m) (k : Int) : i64w (hv m k).2 := by
  unfold Go.Proofs.Ytadfnbmogobopaa.hv
  cases e : (hadL m k).1
  · rw [hadL_not (hadL_none e)]
    show i64w 0
    unfold i64w; decide
  · obtain ⟨v, hm, e2⟩ := hadL_some e
    rw [e2]
    exact h (k, v) hm
theorem widM.next {m : List Pr} (h : widM m) (hs : Srt m) {c k v : Int} (hv : i64w v) : widM (doP m c k v) := fun z hz => by
  have hw : z ∈ withL m k v → i64w z.2 := fun hz => by
    rcases (withL_in hs).1 hz with e | e
    · rw [e]; exact hv
    · exact h z e.1
  by_cases ho : okOp c
  · by_cases h1 : c = 1
    · rw [doP_put hs ho k v h1] at hz; exact hw hz
    by_cases h2 : c = 2
    · rw [doP_add hs ho k v h2] at hz
      split at hz
      · exact h z hz
      · exact hw hz
    by_cases h3 : c = 3
    · rw [doP_cut hs ho k v h3, cutL_mem] at hz
      exact h z hz.1
    · rw [doP_read hs ho k v (by have := ho.1; omega)] at hz; exact h z hz
  · rw [doP_bad (fun x => ho x.2)] at hz; exact h z hz
/-- What the set remembers. -/
def Mem (L : List ClD) (D : DWs) (T : List ((Nat → Bool) × List Pr)) : Prop := ∀ kl, has D kl = true → ∃ t ∈ T, keyOf Try.prog 78 (.agg (spotA L t.1 t.2 L.length)) = some kl
theorem Mem.add {L : List ClD} {D : DWs} {T : List ((Nat → Bool) × List Pr)} (h : Mem L D T) {S : Nat → Bool} {m : List Pr} {kl : Lit} (hk : keyOf Try.prog 78 (.agg (spotA L S m L.length)) = some kl) (d : DWs) : Mem L (D.put kl d) ((S, m) :: T) := fun kl' hk' => by
  by_cases e : kl' = kl
  · subst e; exact ⟨(S, m), by simp, hk⟩
  · rw [has_put_other e] at hk'
    obtain ⟨t, ht, h2⟩ := h kl' hk'
    exact ⟨t, List.mem_cons_of_mem _ ht, h2⟩
theorem Mem.hit {L : List ClD} {b : List Pr} {D : DWs} {T : List ((Nat → Bool) × List Pr)} (h : Mem L D T) (hn : L.length ≤ 16) (hs : ∀ t ∈ T, StO L b t) {S : Nat → Bool} {m : List Pr} (h0 : StO L b (S, m)) {kl : Lit}
    (hk : keyOf Try.prog 78 (.agg (spotA L S m L.length)) = some kl) (hh : has D kl = true) : (S, m) ∈ T := by
  obtain ⟨t, ht, h2⟩ := h kl hh
  obtain ⟨e1, e2⟩ := key_same h2 hk
  rw [← (hs t ht).eq h0 e1 (e2 hn)]; exact ht
/-- What the search holds in memory. -/
structure OnSt (W0 : World) (sb mb mp : Nat) (a : Option Addr) (cap : Nat) (L : List ClD) (vo : Value) (pre : List Int) (m : List Pr) (n : Nat) (D : DWs) (w : World) : Prop where
  be : Below W0.heap.size W0 w
  sq : Bq w sb [.slice a L.length cap, vo, .map (some mb)]
  row : Nums w (fun k => k = sb ∨ k = mb ∨ k = mp) vo pre
  o0 : ∀ k, vo.ownBlock = some k → W0.heap.size ≤ k
  mp_ : MapAt w (fun k => k = mp ∨ k = sb ∨ k = mb ∨ vo.ownBlock = some k) mp m
  set : w.ownsMap Try.prog 78 unitElem mb n D
theorem ownsMap_only {W W' : World} {b n : Nat} {D : DWs} {S : Nat → Prop} (h : W.ownsMap Try.prog 78 unitElem b n D) (o : Only S W W') (hS : ¬ S b) : W'.ownsMap Try.prog 78 unitElem b n D := by
  have hlt : b < W.heap.size := World.ownsMap.lt h
  obtain ⟨es, clock, hb, F, hs, hD⟩ := h
  exact ⟨es, clock, (o.block b hlt hS).trans hb, F, hs, hD⟩
theorem OnSt.keep {W0 : World} {sb mb mp : Nat} {a : Option Addr} {cap : Nat} {L : List ClD} {vo : Value} {pre : List Int} {m : List Pr} {n : Nat} {D : DWs} {w w' : World} (h : OnSt W0 sb mb mp a cap L vo pre m n D w) (hb : Below w.heap.size w w') : OnSt W0 sb mb mp a cap L vo pre m n D w' :=
  ⟨pb2 h.be hb, h.sq.keep hb, h.row.below hb, h.o0, h.mp_.below hb, ownsMap_only (S := fun _ => False) h.set (Only.ofBelow hb) (fun x => x)⟩
/-- What holds of the search where it stands. -/
structure OnIn (L : List ClD) (b : List Pr) (pre : List Int) (S : Nat → Bool) (m : List Pr) (n : Nat) (D : DWs) (T : List ((Nat → Bool) × List Pr)) : Prop where
  mem : Mem L D T
  sto : ∀ t ∈ T, StO L b t
  rem : Rem L T (cntS S L.length)
  st : StO L b (S, m)
  wid : widM m
  ml : m.length + lefS S L.length ≤ 900
  pl : pre.length + lefS S L.length ≤ 100
  nb : n + memF (lefS S L.length) ≤ 100000000000000
/-- What a search answers. -/
def OnIs (w : World) (sb mb : Nat) (a : Option Addr) (cap : Nat) (L : List ClD) (b : List Pr) (vo : Value) (pre : List Int) (S : Nat → Bool) (m : List Pr) (n : Nat) (T : List ((Nat → Bool) × List Pr)) (e : Ending) (w' : World) : Prop :=
  ∃ B vo', e = .returned (.bool B) ∧ Only (fun k => k = sb ∨ k = mb ∨ vo.ownBlock = some k) w w' ∧ Bq w' sb [.slice a L.length cap, vo', .map (some mb)] ∧ (∀ k, k < w.heap.size → vo'.ownBlock = some k → vo.ownBlock = some k) ∧
  ((B = true ∧ ∃ l, can L l S m ∧ Nums w' (fun k => k = sb ∨ k = mb) vo' (pre ++ l)) ∨
   (B = false ∧ Fld L S m ∧ Nums w' (fun k => k = sb ∨ k = mb) vo' pre ∧ ∃ n' D' T', w'.ownsMap Try.prog 78 unitElem mb n' D' ∧ Mem L D' T' ∧ (∀ t ∈ T', StO L b t) ∧ (∀ t ∈ T', t ∈ T ∨ Fld L t.1 t.2) ∧ n' ≤ n + memF (lefS S L.length)))
/-- Nothing can come next of the first k calls. -/
def NoNx (L : List ClD) (S : Nat → Bool) (m : List Pr) (k : Nat) : Prop := ∀ i, i < k → Nx L S i → tlq m (L.getD i zCl) → Fld L (nxS S i) (doP m (L.getD i zCl).o.c (L.getD i zCl).o.k (L.getD i zCl).o.v)
theorem NoNx.step {L : List ClD} {S : Nat → Bool} {m : List Pr} {k : Nat} (h : NoNx L S m k) (h2 : Nx L S k → tlq m (L.getD k zCl) → Fld L (nxS S k) (doP m (L.getD k zCl).o.c (L.getD k zCl).o.k (L.getD k zCl).o.v)) : NoNx L S m (k + 1) := fun i hi => by
  rcases Nat.lt_or_ge i k with h1 | h1
  · exact h i h1
  · rw [show i = k by omega]; exact h2
theorem NoNx.fld {L : List ClD} {S : Nat → Bool} {m : List Pr} (h : NoNx L S m L.length) (hl : lft L S) : Fld L S m := fld_all hl (fun i hi ht => h i hi.lt hi ht)
theorem lft_pos {L : List ClD} {S : Nat → Bool} (h : lft L S) : 0 < lefS S L.length := by
  obtain ⟨i, h1, h2, h3⟩ := h
  have e := lefS_next h2 h1
  omega
/-- Room for what is still to be remembered. -/
theorem mem_room {L : List ClD} {S : Nat → Bool} {n n' k : Nat} (hl : 0 < lefS S L.length) (hk : k < L.length) (hS : S k = false) (hn : n' ≤ n + 1 + lefS S k * memF (lefS S L.length - 1)) :
    n' + memF (lefS S L.length - 1) ≤ n + memF (lefS S L.length) ∧ n' + memF (lefS S L.length - 1) ≤ n + 1 + lefS S (k + 1) * memF (lefS S L.length - 1) := by
  have h1 : lefS S (k + 1) = lefS S k + 1 := by rw [lefS_step, hS]; simp
  have h2 : lefS S (k + 1) ≤ lefS S L.length := lefS_mono S hk
  have h3 : lefS S (k + 1) * memF (lefS S L.length - 1) = lefS S k * memF (lefS S L.length - 1) + memF (lefS S L.length - 1) := by rw [h1, Nat.succ_mul]
  have h4 : memF (lefS S L.length) = 1 + lefS S L.length * memF (lefS S L.length - 1) := by
    obtain ⟨q, hq⟩ : ∃ q, lefS S L.length = q + 1 := ⟨lefS S L.length - 1, by omega⟩
    rw [hq]; rfl
  have h5 : lefS S (k + 1) * memF (lefS S L.length - 1) ≤ lefS S L.length * memF (lefS S L.length - 1) := Nat.mul_le_mul_right _ h2
  omega
theorem mem_all {L : List ClD} {S : Nat → Bool} {n n' : Nat} (hl : 0 < lefS S L.length) (hn : n' ≤ n + 1 + lefS S L.length * memF (lefS S L.length - 1)) : n' ≤ n + memF (lefS S L.length) := by
  have h4 : memF (lefS S L.length) = 1 + lefS S L.length * memF (lefS S L.length - 1) := by
    obtain ⟨q, hq⟩ : ∃ q, lefS S L.length = q + 1 := ⟨lefS S L.length - 1, by omega⟩
    rw [hq]; rfl
  omega
end Go.Proofs.Ytadfnbmogobopaa

namespace Go.Proofs.Ytadfnbmogobopaa
open Go.RowKit Go.Maps
set_option linter.all false
set_option maxRecDepth 20000

section
variable {W0 w wr w' : World} {sb mb mp : Nat} {a : Option Addr} {cap : Nat} {L : List ClD} {b : List Pr} {vo vr : Value} {pre : List Int} {S : Nat → Bool} {m : List Pr} {n nr k : Nat} {D Dr : DWs} {T Tr : List ((Nat → Bool) × List Pr)}
theorem only_grown {b : Nat} (h : w.grownBy w' (some b)) : Only (fun j => j = b) w w' := (Only.refl _ _).grown h (fun k hk _ => by cases hk; rfl)
/-- One more is remembered. -/
theorem OnSt.mapd (h : OnSt W0 sb mb mp a cap L vo pre m n D w) (hsm : sb ≠ mb) (hpm : mp ≠ mb) (hm0 : W0.heap.size ≤ mb) (o : Only (fun k => k = mb) w w') {n' : Nat} {D' : DWs} (hs : w'.ownsMap Try.prog 78 unitElem mb n' D') : OnSt W0 sb mb mp a cap L vo pre m n' D' w' :=
  ⟨h.be.trans (o.below (fun i hi => by have e : i = mb := hi; omega) h.be.size), h.sq.only o hsm, h.row.only o (fun k hk => .inr (.inl hk)), h.o0, h.mp_.only o hpm (fun k hk => .inr (.inr (.inl hk))), hs⟩
/-- Behind the first k calls. -/
structure OnLp (W0 w : World) (sb mb mp : Nat) (a : Option Addr) (cap : Nat) (L : List ClD) (b : List Pr) (vo : Value) (pre : List Int) (S : Nat → Bool) (m : List Pr) (n : Nat) (T : List ((Nat → Bool) × List Pr)) (k : Nat) (vr : Value) (nr : Nat) (Dr : DWs) (Tr : List ((Nat → Bool) × List Pr)) (wr : World) : Prop where
  nx : NoNx L S m k
  st : OnSt W0 sb mb mp a cap L vr pre m nr Dr wr
  nb : ¬ vr.ownBlock = some w.heap.size
  bits : Bq wr w.heap.size (vtv (fun i => .bool (S i)) 16)
  on : Only (fun k => k = sb ∨ k = mb ∨ vo.ownBlock = some k) w wr
  ov : ∀ k, k < w.heap.size → vr.ownBlock = some k → vo.ownBlock = some k
  mem : Mem L Dr Tr
  sto : ∀ t ∈ Tr, StO L b t
  out : ∀ t ∈ Tr, t ∈ (S, m) :: T ∨ Fld L t.1 t.2
  room : nr ≤ n + 1 + lefS S k * memF (lefS S L.length - 1)
theorem OnLp.keep (h : OnLp W0 w sb mb mp a cap L b vo pre S m n T k vr nr Dr Tr wr) (hb : Below wr.heap.size wr w') : OnLp W0 w sb mb mp a cap L b vo pre S m n T k vr nr Dr Tr w' :=
  ⟨h.nx, h.st.keep hb, h.nb, h.bits.keep hb, h.on.trans (Only.ofBelow (S := fun _ => False) hb) (fun i hi => hi.elim), h.ov, h.mem, h.sto, h.out, h.room⟩
theorem OnLp.skip (h : OnLp W0 w sb mb mp a cap L b vo pre S m n T k vr nr Dr Tr wr) (hx : Nx L S k → tlq m (L.getD k zCl) → Fld L (nxS S k) (doP m (L.getD k zCl).o.c (L.getD k zCl).o.k (L.getD k zCl).o.v)) : OnLp W0 w sb mb mp a cap L b vo pre S m n T (k + 1) vr nr Dr Tr wr :=
  ⟨h.nx.step hx, h.st, h.nb, h.bits, h.on, h.ov, h.mem, h.sto, h.out, Nat.le_trans h.room (Nat.add_le_add_left (Nat.mul_le_mul_right _ (lefS_mono S (Nat.le_succ k))) _)⟩
theorem OnLp.fin (h : OnLp W0 w sb mb mp a cap L b vo pre S m n T L.length vr nr Dr Tr wr) (hl : lft L S) : OnIs w sb mb a cap L b vo pre S m n T (.returned (.bool false)) wr := by
  have hf := h.nx.fld hl
  refine ⟨false, vr, rfl, h.on, h.st.sq, h.ov, .inr ⟨rfl, hf, h.st.row.sub (fun k _ hk => hk.elim .inl (fun h => .inr (.inl h))), nr, Dr, Tr, h.st.set, h.mem, h.sto, fun t ht => ?_, mem_all (lft_pos hl) h.room⟩⟩
  rcases h.out t ht with e | e
  · rcases List.mem_cons.1 e with e | e
    · exact .inr (by rw [e]; exact hf)
    · exact .inl e
  · exact .inr e
/-- One call more. -/
theorem OnSt.push (h : OnSt W0 sb mb mp a cap L vr pre m nr Dr w) (hs0 : W0.heap.size ≤ sb) {Sc : Nat → Prop} {bc : Nat} {m' : List Pr} (hc : MapAt w Sc bc m') (hSc : ∀ j, j = sb ∨ j = mb ∨ vr.ownBlock = some j → Sc j) (hb1 : bc ≠ sb) (hb2 : bc ≠ mb) (hb3 : ¬ vr.ownBlock = some bc) (hsm : sb ≠ mb)
    {v2 : Value} {x : Int} (h3 : Nums w' (fun j => j < w.heap.size ∧ ¬ vr.ownBlock = some j) v2 (pre ++ [x])) (h4 : Only (fun j => ¬ (j < w.heap.size ∧ ¬ vr.ownBlock = some j)) w w') :
    OnSt W0 sb mb bc a cap L v2 (pre ++ [x]) m' nr Dr (w'.setCell ⟨sb, 1, none⟩ v2) ∧ Only (fun j => j = sb ∨ vr.ownBlock = some j) w (w'.setCell ⟨sb, 1, none⟩ v2) ∧ (∀ j, j < w.heap.size → v2.ownBlock = some j → vr.ownBlock = some j) ∧ w'.cell? ⟨sb, 1, none⟩ = some vr ∧ w'.frozen? ⟨sb, 1, none⟩ = false := by
  have o1 : Only (fun j => vr.ownBlock = some j) w w' := h4.mono (fun i hi hlt => Decidable.byContradiction fun x => hi ⟨hlt, x⟩)
  have hns : ¬ vr.ownBlock = some sb := fun e => h.row.av sb e (.inl rfl)
  have hnm : ¬ vr.ownBlock = some mb := fun e => h.row.av mb e (.inr (.inl rfl))
  have hq1 : Bq w' sb [.slice a L.length cap, vr, .map (some mb)] := h.sq.only o1 hns
  have hv2 : ∀ j, j < w.heap.size → v2.ownBlock = some j → vr.ownBlock = some j := fun j hj e => Decidable.byContradiction fun x => h3.av j e ⟨hj, x⟩
  have o2 : Only (fun j => j = sb ∨ vr.ownBlock = some j) w (w'.setCell ⟨sb, 1, none⟩ v2) := (o1.mono (fun i hi _ => .inr hi)).setCell (p := ⟨sb, 1, none⟩) (.inl (.inl rfl)) v2
  have o3 : Only (fun j => j = sb) w' (w'.setCell ⟨sb, 1, none⟩ v2) := (Only.refl (fun j => j = sb) w').setCell (p := ⟨sb, 1, none⟩) (.inl rfl) v2
  have hq2 := hq1.set 1 v2 (by simp)
  have hsz : w.heap.size ≤ w'.heap.size := h4.size
  have hlt := h.sq.lt
  have hmt : mb < w.heap.size := World.ownsMap.lt h.set
  have hv2s : ¬ v2.ownBlock = some sb := fun e => hns (hv2 sb hlt e)
  have hv2m : ¬ v2.ownBlock = some mb := fun e => hnm (hv2 mb hmt e)
  have hv2c : ¬ v2.ownBlock = some bc := fun e => hb3 (hv2 bc hc.lt e)
  refine ⟨⟨h.be.trans (o2.below (fun i hi => hi.elim (fun e => by omega) (fun e => h.o0 i e)) h.be.size), hq2, ?_, fun j e => ?_, ?_, ownsMap_only h.set o2 (fun x => x.elim (fun e => hsm e.symm) hnm)⟩, o2, hv2, hq1.at_ 1 _ rfl, hq1.fr 1⟩
  · have h5 : Nums w' (fun j => j = sb ∨ j = mb ∨ j = bc) v2 (pre ++ [x]) := ⟨h3.row, fun j e hj => by
      rcases hj with e2 | e2 | e2
      · exact hv2s (e2 ▸ e)
      · exact hv2m (e2 ▸ e)
      · exact hv2c (e2 ▸ e)⟩
    exact h5.only o3 (fun j hj => .inl hj)
  · by_cases hj : j < w.heap.size
    · exact h.o0 j (hv2 j hj e)
    · have := h.be.size; omega
  · have e1 := (hc.sub (S' := fun j => Sc j ∨ w.heap.size ≤ j) (.inl hc.sb) (fun j hj x => x.elim (fun y => y) (fun y => by omega))).only o2 (fun x => x.elim hb1 hb3) (fun j hj => .inl (hSc j (hj.elim .inl (fun e => .inr (.inr e)))))
    refine e1.sub (.inl rfl) (fun j _ hj => ?_)
    rcases hj with e2 | e2 | e2 | e2
    · rw [e2]; exact .inl hc.sb
    · exact .inl (hSc j (.inl e2))
    · exact .inl (hSc j (.inr (.inl e2)))
    · by_cases hj : j < w.heap.size
      · exact .inl (hSc j (.inr (.inr (hv2 j hj e2))))
      · exact .inr (by omega)
/-- From the call's world on, what has turned. -/
theorem only_chain {W6 W8 w9 : World} {v2 : Value} (o1 : Only (fun j => j = sb ∨ vr.ownBlock = some j) w W6) (hb : Below W6.heap.size W6 W8) (o2 : Only (fun j => j = sb ∨ j = mb ∨ v2.ownBlock = some j) W8 w9) (hv2 : ∀ j, j < w.heap.size → v2.ownBlock = some j → vr.ownBlock = some j) :
    Only (fun j => j = sb ∨ j = mb ∨ vr.ownBlock = some j) w w9 :=
  ((o1.mono (T := fun j => j = sb ∨ j = mb ∨ vr.ownBlock = some j) (fun i hi _ => hi.elim .inl (fun e => .inr (.inr e)))).trans (Only.ofBelow (S := fun _ => False) hb) (fun i hi => hi.elim)).trans o2 (fun i hi hlt => by
    rcases hi with e | e | e
    · exact .inl e
    · exact .inr (.inl e)
    · exact .inr (.inr (hv2 i hlt e)))
/-- It came through. -/
theorem OnLp.won (h : OnLp W0 w sb mb mp a cap L b vo pre S m n T k vr nr Dr Tr wr) (hn : Nx L S k) (ht : tlq m (L.getD k zCl)) {w9 : World} {v2 v3 : Value} (o : Only (fun j => j = sb ∨ j = mb ∨ vr.ownBlock = some j) wr w9)
    (hq : Bq w9 sb [.slice a L.length cap, v3, .map (some mb)]) (h23 : ∀ j, j < wr.heap.size → v3.ownBlock = some j → vr.ownBlock = some j) {l : List Int} (hc : can L l (nxS S k) (doP m (L.getD k zCl).o.c (L.getD k zCl).o.k (L.getD k zCl).o.v)) (hr : Nums w9 (fun k => k = sb ∨ k = mb) v3 ((pre ++ [(k : Int)]) ++ l)) :
    OnIs w sb mb a cap L b vo pre S m n T (.returned (.bool true)) w9 := by
  have hlw : w.heap.size ≤ wr.heap.size := h.on.size
  refine ⟨true, v3, rfl, h.on.trans o (fun i hi hlt => ?_), hq, fun j hj e => h.ov j hj (h23 j (by omega) e), .inl ⟨rfl, (k : Int) :: l, ⟨Int.natCast_nonneg k, ?_, ?_, ?_⟩, ?_⟩⟩
  · rcases hi with e | e | e
    · exact .inl e
    · exact .inr (.inl e)
    · exact .inr (.inr (h.ov i hlt e))
  · rw [Int.toNat_natCast]; exact hn
  · unfold cAt; rw [Int.toNat_natCast]; exact ht
  · unfold cAt; rw [Int.toNat_natCast]; exact hc
  · rwa [List.append_assoc] at hr
/-- It did not: the call is taken back. -/
theorem OnLp.back (h : OnLp W0 w sb mb mp a cap L b vo pre S m n T k vr nr Dr Tr wr) (hs0 : W0.heap.size ≤ sb) (hm0 : W0.heap.size ≤ mb) (hsm : sb ≠ mb) (hps : mp ≠ sb) (hpm : mp ≠ mb) (hSk : S k = false) (hkl : k < L.length) (hsw : sb < w.heap.size) (hmw : mb < w.heap.size) {w9 w10 : World} {v4 : Value} (o : Only (fun j => j = sb ∨ j = mb ∨ vr.ownBlock = some j) wr w10)
    (hq : Bq w10 sb [.slice a L.length cap, v4, .map (some mb)]) (h24 : ∀ j, j < wr.heap.size → v4.ownBlock = some j → vr.ownBlock = some j) (hf : Fld L (nxS S k) (doP m (L.getD k zCl).o.c (L.getD k zCl).o.k (L.getD k zCl).o.v))
    (hr : Nums w10 (fun k => k = sb ∨ k = mb) v4 pre) {n' : Nat} {D' : DWs} {T' : List ((Nat → Bool) × List Pr)} (hset : w10.ownsMap Try.prog 78 unitElem mb n' D') (hmem : Mem L D' T') (hsto : ∀ t ∈ T', StO L b t) (hout : ∀ t ∈ T', t ∈ Tr ∨ Fld L t.1 t.2)
    (hn' : n' ≤ nr + memF (lefS S L.length - 1)) (hlf : 0 < lefS S L.length) :
    OnLp W0 w sb mb mp a cap L b vo pre S m n T (k + 1) v4 n' D' T' w10 := by
  have hlw : w.heap.size ≤ wr.heap.size := h.on.size
  have hbl := h.bits.lt
  have hpl := h.st.mp_.lt
  have hns : ¬ vr.ownBlock = some mp := fun e => h.st.row.av mp e (.inr (.inr rfl))
  have hroom := (mem_room hlf hkl hSk h.room).2
  refine ⟨h.nx.step (fun _ _ => hf), ⟨?_, hq, ?_, fun j e => ?_, ?_, hset⟩, fun e => h.nb (h24 _ hbl e), h.bits.only o (fun x => ?_), h.on.trans o (fun i hi hlt => ?_), fun j hj e => h.ov j hj (h24 j (by omega) e), hmem, hsto, fun t ht => ?_, by omega⟩
  · exact h.st.be.trans (o.below (fun i hi => by
      rcases hi with e | e | e
      · omega
      · omega
      · exact h.st.o0 i e) h.st.be.size)
  · exact ⟨hr.row, fun j e hj => by
      rcases hj with e2 | e2 | e2
      · exact hr.av j e (.inl e2)
      · exact hr.av j e (.inr e2)
      · rw [e2] at e; exact hns (h24 mp hpl e)⟩
  · by_cases hj : j < wr.heap.size
    · exact h.st.o0 j (h24 j hj e)
    · have := h.st.be.size; omega
  · have e1 := (h.st.mp_.sub (S' := fun j => (j = mp ∨ j = sb ∨ j = mb ∨ vr.ownBlock = some j) ∨ wr.heap.size ≤ j) (.inl (.inl rfl)) (fun j hj x => x.elim (fun y => y) (fun y => by omega))).only o (fun x => x.elim hps (fun y => y.elim hpm hns)) (fun j hj => .inl (.inr hj))
    refine e1.sub (.inl rfl) (fun j _ hj => ?_)
    rcases hj with e2 | e2 | e2 | e2
    · exact .inl (.inl e2)
    · exact .inl (.inr (.inl e2))
    · exact .inl (.inr (.inr (.inl e2)))
    · by_cases hj : j < wr.heap.size
      · exact .inl (.inr (.inr (.inr (h24 j hj e2))))
      · exact .inr (by omega)
  · rcases x with e | e | e
    · omega
    · omega
    · exact h.nb e
  · rcases hi with e | e | e
    · exact .inl e
    · exact .inr (.inl e)
    · exact .inr (.inr (h.ov i hlt e))
  · rcases hout t ht with e | e
    · exact h.out t e
    · exact .inr e
/-- What holds where the search goes on with one call more. -/
theorem OnLp.deep (h : OnLp W0 w sb mb mp a cap L b vo pre S m n T k vr nr Dr Tr wr) (hin : OnIn L b pre S m n D T) (hn : L.length ≤ 16) (hSk : S k = false) (hkl : k < L.length) (hlf : 0 < lefS S L.length) (hv : i64w (L.getD k zCl).o.v) :
    OnIn L b (pre ++ [(k : Int)]) (nxS S k) (doP m (L.getD k zCl).o.c (L.getD k zCl).o.k (L.getD k zCl).o.v) nr Dr Tr ∧ lefS (nxS S k) L.length = lefS S L.length - 1 := by
  have h1 := lefS_next hSk hkl
  have h2 := (mem_room hlf hkl hSk h.room).1
  have h3 := doP_le m (L.getD k zCl).o.c (L.getD k zCl).o.k (L.getD k zCl).o.v
  have h4 := hin.nb
  have h5 := hin.ml
  have h6 := hin.pl
  have e : lefS (nxS S k) L.length = lefS S L.length - 1 := by omega
  refine ⟨⟨h.mem, h.sto, ?_, hin.st.next hkl hn, hin.wid.next hin.st.ag.s hv, by omega, by rw [List.length_append, List.length_singleton]; omega, by rw [e]; omega⟩, e⟩
  rw [cntS_next S k hSk _ hkl]
  exact (hin.rem.add m).next (fun t ht => h.out t ht)
end
end Go.Proofs.Ytadfnbmogobopaa
