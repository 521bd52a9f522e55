/- tree.Plain. No condition: lemmas. -/
import Derived.Test.YtlpjbgojijkdjaaTrK
import Derived.Test.YtlpjbgojijkdjaaTrH
namespace Go.Proofs.Ytlpjbgojijkdjaa
open Go.RowKit
set_option linter.all false

/-- So many numbers, all nought. -/
def mkI (n : Nat) : Array Value := madeCells (Value.int .i64 0).cells n
theorem mkI_run (n : Nat) (h : n ≤ 460) (w : World) : (Instr.makeSlice 34 (.int .i64 (n : Int)) (.int .i64 (n : Int))).run Try.prog w = .ok (.slice (some ⟨w.heap.size, 0, none⟩) n n) (w.alloc (.cells (mkI n) 3)) := by
  obtain ⟨i, hi, hz, hs1, hs2⟩ := info_parts infoInt
  have hr := run_make (P := Try.prog) w 34 3 i _ Try.underlying34 hi hz .i64 .i64 n n (by omega) (Int.le_refl _) (by rw [hs2]; omega) (by omega)
  rw [hs1] at hr
  simpa [mkI] using hr
def natV (l : List Nat) : List Value := l.map (fun i : Nat => Value.int .i64 (i : Int))
theorem natV_set (l : List Nat) (i x : Nat) : (natV l).set i (.int .i64 (x : Int)) = natV (l.set i x) := by unfold natV; rw [List.map_set]
theorem natV_get {l : List Nat} {i x : Nat} (h : l[i]? = some x) : (natV l)[i]? = some (.int .i64 (x : Int)) := by unfold natV; rw [List.getElem?_map, h]; rfl
theorem mkI_bk (w : World) (n : Nat) : Bk (w.alloc (.cells (mkI n) 3)) w.heap.size (natV (List.replicate n 0)) := by
  have h := Bk.new w (mkI n) 3
  have e : (mkI n).toList = natV (List.replicate n 0) := by
    unfold mkI natV
    rw [show (Value.int .i64 0).cells = #[Value.int .i64 0] from rfl, toList_madeCells_one]
    simp
  rw [e] at h
  exact h
theorem kids {N : List Nd} : ∀ {s : Sh} {t : Int} {lo hi : Option Int}, Hangs N s t lo hi → ∀ i ∈ s.pre, ∀ n, N[i]? = some n → n.r = true → ∃ xa xb : Nat, n.a = xa ∧ n.b = xb ∧ xa ∈ s.pre ∧ xb ∈ s.pre := by
  intro s
  induction s with
  | lf j =>
    intro t lo hi h i hi' n hn hr
    obtain ⟨_, m, hm, hr', _⟩ := h
    simp [Sh.pre] at hi'
    subst hi'
    rw [hn] at hm; cases hm
    rw [hr] at hr'; cases hr'
  | rt j l r ihl ihr =>
    intro t lo hi h i hi' n hn hr
    obtain ⟨_, m, hm, hr', _, hl, hrr⟩ := h
    simp [Sh.pre] at hi'
    rcases hi' with rfl | hi' | hi'
    · rw [hn] at hm; cases hm
      exact ⟨l.top, r.top, hl.top, hrr.top, by simp [Sh.pre, Sh.top_mem], by simp [Sh.pre, Sh.top_mem]⟩
    · obtain ⟨xa, xb, h1, h2, h3, h4⟩ := ihl hl i hi' n hn hr
      exact ⟨xa, xb, h1, h2, by simp [Sh.pre, h3], by simp [Sh.pre, h4]⟩
    · obtain ⟨xa, xb, h1, h2, h3, h4⟩ := ihr hrr i hi' n hn hr
      exact ⟨xa, xb, h1, h2, by simp [Sh.pre, h3], by simp [Sh.pre, h4]⟩

theorem tplain_no (t : Int) (a : Option Addr) (cap : Nat) (N : List Nd) (w : World) (hN : Ns w a cap N) (hsm : Small N) (h : ∀ s, ¬ Tr N s t) :
    Calls Try.prog 11 #[trv t a cap N] w fun e w' => e = .returned (.tuple #[.agg #[.int .i64 0, .slice none 0 0], .bool false]) ∧ Below w.heap.size w w' := by
  have b2 : Below w.heap.size w ((w.alloc (.cells #[.int .i64 t, .slice a N.length cap] 24)).alloc (.cells #[.int .i64 0, .slice none 0 0] 24)) := bel1 (al1 _) _
  have cm := tmay_any t a cap N _ (hN.keep b2) hsm false ⟨fun h => (by cases h), fun ⟨s, hs⟩ => absurd hs (h s)⟩
  have B2 := Lib.hid (show Bk ((w.alloc (.cells #[.int .i64 t, .slice a N.length cap] 24)).alloc (.cells #[.int .i64 0, .slice none 0 0] 24)) (w.heap.size + 1) [.int .i64 0, .slice none 0 0] from by
    have h := Bk.new (w.alloc (.cells #[.int .i64 t, .slice a N.length cap] 24)) #[.int .i64 0, .slice none 0 0] 24
    simp only [World.size_alloc] at h; exact h)
  have HB := Lib.hid b2
  unfold trv at cm ⊢
  clear b2 hN h
  go_enter Try.func11, Try.ntmps11
  go_wp2_with (go_at_call 16; ((with_reducible refine cm.mono ?_); clear cm; rintro e w3 ⟨rfl, hb3⟩; have R2 := Lib.hid (B2.out.keep hb3); have HR := Lib.hid hb3; clear hb3; have g0 := R2.out.fr 0; have g1 := R2.out.fr 1; have m0 := R2.out.at_ 0 _ rfl; have m1 := R2.out.at_ 1 _ rfl))
  refine bodyPost_ret (v := .tuple #[.agg #[.int .i64 0, .slice none 0 0], .bool false]) (by simp [results, Try.results11, go_sem, m0, m1]) rfl ⟨rfl, ?_⟩
  repeat' (first | refine Below.setCell ?_ (by dsimp only; omega) _ | exact bel2 HB.out HR.out)
#print axioms tplain_no
end Go.Proofs.Ytlpjbgojijkdjaa
