/- look over the treap of sorted pairs, in an arena that a law holds. -/
import Derived.Test.YtmbeaefgakfbnaaLk3
import Derived.Test.YtmbeaefgakfbnaaLk5
namespace Go.Proofs.Ytmbeaefgakfbnaa
open Go.RowKit
set_option linter.all false

section
variable {w0 w : World} {p : Nat} {room st : Int} {L : List It} {t : Int} {l : List Pr}

theorem tget (h : Held w0 w p room st L) (T : Tree L t l) (hs : Srt l) (key v : Int) (is : Bool) (hv : ((findL l key).map (·.2)).getD 0 = v) (his : (findL l key).isSome = is) :
    Calls Try.prog 20 #[.pointer (some ⟨p, 0, none⟩), .int .i64 t, .int .i64 key] w fun e w' => e = .returned (.tuple #[.int .i64 v, .bool is]) ∧ Below w.heap.size w w' :=
  lget_any t key w (Gets.ofArena h.a) v is (by rw [get_tree T key hs]; exact hv) (by rw [get_tree T key hs, Option.isSome_map]; exact his)
theorem tsize (h : Held w0 w p room st L) (T : Tree L t l) (n : Int) (hn : (l.length : Int) = n) :
    Calls Try.prog 21 #[.pointer (some ⟨p, 0, none⟩), .int .i64 t] w fun e w' => e = .returned (.int .i64 n) ∧ Below w.heap.size w w' :=
  size_any t n w (Gets.ofArena h.a) (by rw [T.size.1]; exact hn)
/-- The pair at a place. -/
def atL (l : List Pr) (i : Int) : Option Pr := if i < 0 then none else l[i.toNat]?
end

/-! ### osierref1.Find -/

def FindSays (w : World) (l : List Pr) (key : Int) (e : Ending) (w' : World) : Prop :=
  ∃ k : Int, e = .returned (.int .i64 k) ∧ ((k = -1 ∧ findL l key = none) ∨ (∃ (i : Nat) (q : Pr), k = i ∧ l[i]? = some q ∧ q.1 = key ∧ findL l key = some q)) ∧ Below w.heap.size w w'

theorem findL_at {l : List Pr} {n : Nat} {q : Pr} (hq : l[n]? = some q) (hn : ∀ x ∈ l.take n, x.1 ≠ q.1) : findL l q.1 = some q := by
  have e := split_at hq
  have hn : findL (l.take n) q.1 = none := findL_none hn
  conv => lhs; rw [e]
  unfold findL at hn ⊢
  rw [List.find?_append, hn, Option.none_or, List.find?_cons_of_pos (by simp)]

set_option maxRecDepth 100000 in
set_option maxHeartbeats 6400000 in
theorem find_any (a : Option Addr) (cap : Nat) (l : List Pr) (key : Int) (w : World) (h : Prs w a cap l) :
    Calls Try.prog 13 #[.slice a l.length cap, .int .i64 key] w (FindSays w l key) := by
  have HH := Lib.hid h
  have hc1 := h.1
  have hc2 := h.2.1
  clear h
  unfold maxLen at hc2
  go_enter Try.func13, Try.ntmps13
  go_wp2_with (fail)
  go_loopw [9] (fun i wr => ∃ n : Nat, n ≤ l.length ∧ i = .int .i64 n ∧ (∀ x ∈ l.take n, x.1 ≠ key) ∧ Below w.heap.size w wr) (fun i _ => l.length - (intOf i).toNat)
  case atStart => exact ⟨0, Nat.zero_le _, rfl, by simp, Below.refl _ _⟩
  case round =>
    obtain ⟨n, hn, rfl, hno, hb⟩ := hrel
    have HNO := Lib.hid hno
    clear hno
    by_cases hlt : n < l.length
    · obtain ⟨q, hq⟩ : ∃ q, l[n]? = some q := ⟨_, List.getElem?_eq_getElem hlt⟩
      obtain ⟨b, o, rfl, c0, c1⟩ := (HH.out.below hb).2.2 n q hq
      obtain ⟨x0, x1⟩ := q
      dsimp only at c0 c1
      have HQ := Lib.hid hq
      have hb1 := hb.alloc hb.size (.cells #[.int .i64 x0, .int .i64 x1] 24)
      clear hq
      by_cases hk : x0 = key
      · subst hk
        go_wp2_with (fail)
        go_ret
        exact ⟨_, rfl, .inr ⟨n, _, rfl, HQ.out, rfl, findL_at HQ.out HNO.out⟩, hb1⟩
      · have hk' : (x0 == key) = false := by simpa using hk
        have HK := Lib.hid hk
        clear hk
        go_wp2_with (fail)
        go_roundw
        case rel =>
          refine ⟨n + 1, by omega, by go_num, fun x hx => ?_, hb1⟩
          rw [List.take_succ_eq_append_getElem hlt, List.mem_append] at hx
          rcases hx with hx | hx
          · exact HNO.out x hx
          · have : x = (x0, x1) := by
              rw [List.mem_singleton.1 hx]
              have := (List.getElem?_eq_some_iff.1 HQ.out).2
              exact this
            rw [this]; exact HK.out
        case measure => simp [intOf]; omega
    · obtain rfl : n = l.length := by omega
      go_wp2_with (fail)
      go_ret
      exact ⟨_, rfl, .inl ⟨rfl, findL_none (fun x hx => HNO.out x (by rw [List.take_of_length_le (Nat.le_refl _)]; exact hx))⟩, hb⟩

/-! ### osierref1.MayPairs -/

theorem wrapU64 (a : Int) : IntKind.u64.wrap a = a % 18446744073709551616 := by first | rfl | simp [IntKind.wrap]
/-- int(uint64(a) % uint64(d)). -/
theorem umod (a d : Int) (h : 0 < d) (h2 : d ≤ 9223372036854775807) : ∃ m : Nat, (m : Int) < d ∧ wrap64 ((IntKind.u64.wrap a).tmod d) = m := by
  have h0 : 0 ≤ a % 18446744073709551616 := Int.emod_nonneg _ (by decide)
  have h1 := Int.emod_nonneg (a % 18446744073709551616) (show d ≠ 0 by omega)
  have h3 := Int.emod_lt_of_pos (a % 18446744073709551616) h
  refine ⟨((a % 18446744073709551616) % d).toNat, by omega, ?_⟩
  rw [wrapU64, Int.tmod_eq_emod_of_nonneg h0]
  unfold wrap64
  omega
end Go.Proofs.Ytmbeaefgakfbnaa
