/- How many operations a parameter may hold; a map beside rows of one's own. No condition: lemmas. -/
import Derived.Test.YtooengicfjcchaaMdL
import Derived.Test.YtooengicfjcchaaLrD
namespace Go.Proofs.Ytooengicfjcchaa
open Go.RowKit Go.Sort Go.Deep Go.ChangeShapes Go.WideShapes
set_option linter.all false

section
variable {H : Type} {enc : TypeId × Value → H} {w : World} {fuel : Nat} {x : DataW H × List MemPlace}
theorem bytesOp : Try.prog.bytesOf 33 = 32 := by kernel_rfl
theorem wt_ops {a : Option Addr} {len cap : Nat} (h : DataW.trod enc Try.prog w 0 (fun _ => true) true fuel 23 [.slice a len cap] = some x) (hb : ∀ n ∈ x.1.weights Try.prog 23, n ≤ reachBytes) : len ≤ 8796093022208 := by
  rcases open_slice Try.underlying23 h with ⟨hcs, _⟩ | ⟨y, len', cap', m, n, D, Pl, hcs, _, hl, hm, hmm, hx, _⟩
  · simp at hcs
    omega
  · simp at hcs
    obtain ⟨_, rfl, rfl⟩ := hcs
    subst hx
    have h1 : (((List.range len).map D).length + ((List.range (m - len)).map fun j => D (len + j)).length) * Try.prog.bytesOf 33 ≤ reachBytes := hb _ (by
      simp only [DataW.weights, Try.underlying23]
      exact List.mem_cons_self)
    rw [bytesOp] at h1
    simp only [List.length_map, List.length_range] at h1
    unfold reachBytes at h1
    omega
end
theorem len_runs {L : List Pr} {z : List OpD} (i : Nat) : (runP L (z.take i)).length ≤ L.length + z.length := by
  have h := runP_le L (z.take i)
  rw [List.length_take] at h
  omega
theorem runP_take {L : List Pr} {z : List OpD} {i : Nat} {q : OpD} (hq : z[i]? = some q) : runP L (z.take (i + 1)) = doP (runP L (z.take i)) q.c q.k q.v := by
  have : z.take (i + 1) = z.take i ++ [q] := by rw [List.take_add_one, hq]; rfl
  rw [this, runP_app]
  rfl
theorem runA_at : ∀ {L : List Pr} {z : List OpD} {i : Nat} {q : OpD}, z[i]? = some q → (runA L z)[i]? = some (doA (runP L (z.take i)) q.c q.k q.h)
  | L, o :: z, 0, q, h => by
    simp only [List.getElem?_cons_zero, Option.some.injEq] at h
    subst h
    rfl
  | L, o :: z, i + 1, q, h => by
    simp only [List.getElem?_cons_succ] at h
    exact runA_at (L := doP L o.c o.k o.v) h
theorem sum2 {a b : Nat} (ha : a ≤ 8796093022208) (hb : b ≤ 8796093022208) : wrap64 ((a : Int) + (b : Int)) = (a : Int) + (b : Int) := by unfold wrap64; omega
attribute [local go_sem] mkA_run
set_option maxRecDepth 100000 in
/-- No operations at all. -/
theorem mrun_none (b : Nat) (S : Nat → Prop) (L : List Pr) (a : Option Addr) (cap : Nat) (w : World) (h : MapAt w S b L) :
    Calls Try.prog 15 #[.pointer (some ⟨b, 0, none⟩), .slice a 0 cap] w (RunIs w S b L []) := by
  have HT := Lib.hid (TR.made w (fun j => j < w.heap.size ∨ j = w.heap.size) 0 (by omega))
  have HM := Lib.hid (h.below ((Below.refl _ _).alloc (Nat.le_refl _) (.cells (mkA 0) 36)))
  have HO : Hid (Only (fun k => k = b) w (w.alloc (.cells (mkA 0) 36))) := Lib.hid ((Only.refl _ _).alloc _)
  have mk := fun W => mkA_run 0 (by omega) W
  rw [show ((0 : Nat) : Int) = 0 from rfl] at mk
  clear h
  unfold RunIs
  go_enter Try.func15, Try.ntmps15
  go_wp2_with (fail)
  refine wp_loop_rounds 1 ?_
  rw [rounds_succ]
  go_wp2_with (fail)
  go_ret
  exact ⟨rfl, HT.out, HM.out, HO.out⟩
theorem mrun_all (b : Nat) (S : Nat → Prop) (L : List Pr) (a : Option Addr) (cap : Nat) (zs : List OpD) (w : World) (h : MapAt w S b L) (hS : ∀ j, S j → j < w.heap.size) (hz : Ops w a cap zs) (hne : ∀ (n : Nat) (q : OpD), zs[n]? = some q → ∀ ad, a = some ad → ¬ ad.block = b) (hl : L.length + zs.length ≤ 10000) (hn : zs.length ≤ 2000) :
    Calls Try.prog 15 #[.pointer (some ⟨b, 0, none⟩), .slice a zs.length cap] w (RunIs w S b L zs) := by
  cases zs with
  | nil => exact mrun_none b S L a cap w h
  | cons q zs => exact mrun_any b S L a cap (q :: zs) w h hS hz (hne 0 q rfl) hl hn
theorem O4.only {x : Nat} {c k hi v : Int} {T : Nat → Prop} {W W' : World} (h : O4 x c k hi v W) (o : Only T W W') (hx : ¬ T x) : O4 x c k hi v W' := ⟨o.cell h.p0 hx, o.cell h.p1 hx, o.cell h.p2 hx, o.cell h.p3 hx⟩
theorem Blk.only {W W' : World} {b : Nat} {vs : List Value} {T : Nat → Prop} (h : Blk W b vs) (o : Only T W W') (hb : ¬ T b) : Blk W' b vs := fun j v hj => o.cell (h j v hj) hb
end Go.Proofs.Ytooengicfjcchaa
