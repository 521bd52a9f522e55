/- Contract of sound's first over the treap of sorted pairs. -/
import Derived.Test.YtbmlpdkbiipcmaaSoI
import Derived.Test.YtbmlpdkbiipcmaaWaG
namespace Go.Proofs.Ytbmlpdkbiipcmaa
open Go.RowKit Go.Maps
set_option linter.all false

section
variable {W W' : World} {b n m : Nat} {D : DW} {S : Nat → Prop}
theorem OwnI.only (h : OwnI W b n D) (o : Only S W W') (hS : ¬ S b) : OwnI W' b n D := by
  have hlt : b < W.heap.size := World.ownsMap.lt h
  obtain ⟨es, clock, hb, F, hs, hD⟩ := h
  exact ⟨es, clock, (o.block b hlt hS).trans hb, F, hs, hD⟩
theorem OwnS.only (h : OwnS W b n D) (o : Only S W W') (hS : ¬ S b) : OwnS W' b n D := by
  have hlt : b < W.heap.size := World.ownsMap.lt h
  obtain ⟨es, clock, hb, F, hs, hD⟩ := h
  exact ⟨es, clock, (o.block b hlt hS).trans hb, F, hs, hD⟩
theorem Only.grownBy {b : Nat} (h : W.grownBy W' (some b)) : Only (fun j => j = b) W W' := (Only.refl _ _).grown h (fun k hk _ => by cases hk; rfl)
end

/-- Both maps, and what they say. -/
structure Sm (W : World) (bo bs n : Nat) (L : List It) (rep : Rep) (Do Ds : DW) : Prop where
  i : OwnI W bo n Do
  s : OwnS W bs n Ds
  v : Inv L rep Do Ds
  ne : bo ≠ bs
section
variable {W W' : World} {bo bs n m : Nat} {L : List It} {rep : Rep} {Do Ds : DW} {S : Nat → Prop}
theorem Sm.only (h : Sm W bo bs n L rep Do Ds) (o : Only S W W') (h1 : ¬ S bo) (h2 : ¬ S bs) : Sm W' bo bs n L rep Do Ds := ⟨h.i.only o h1, h.s.only o h2, h.v, h.ne⟩
theorem Sm.keep (h : Sm W bo bs n L rep Do Ds) (hb : Below W.heap.size W W') : Sm W' bo bs n L rep Do Ds := h.only (S := fun _ => False) (Only.ofBelow hb) (fun h => h) (fun h => h)
theorem Sm.more (h : Sm W bo bs n L rep Do Ds) (hm : n ≤ m) : Sm W bo bs m L rep Do Ds := ⟨World.ownsMap.mono h.i hm, World.ownsMap.mono h.s hm, h.v, h.ne⟩
theorem Sm.ltI (h : Sm W bo bs n L rep Do Ds) : bo < W.heap.size := World.ownsMap.lt h.i
theorem Sm.ltS (h : Sm W bo bs n L rep Do Ds) : bs < W.heap.size := World.ownsMap.lt h.s
end

def FirstSays (W : World) (bo bs n : Nat) (L : List It) (l : List Pr) (rep : Rep) (e : Ending) (w' : World) : Prop :=
  ∃ (r : Int) (rep' : Rep) (Do' Ds' : DW), e = .returned (.int .i64 r) ∧ rep0 rep' l = some r ∧ Mono rep rep' ∧ Sm w' bo bs (n + l.length) L rep' Do' Ds' ∧ Only (fun j => j = bo ∨ j = bs) W w'

set_option maxRecDepth 100000 in
set_option maxHeartbeats 6400000 in
theorem first_nil {p : Nat} {F : Nat → Prop} {room st : Int} {L : List It} {bo bs n : Nat} {rep : Rep} {Do Ds : DW} {W : World} (hA : Arena W p F room st L) (hS : Sm W bo bs n L rep Do Ds) :
    Calls Try.prog 33 #[.agg #[.pointer (some ⟨p, 0, none⟩), .map (some bo), .map (some bs)], .int .i64 0] W (FirstSays W bo bs n L [] rep) := by
  have ba : Below W.heap.size W (W.alloc (.cells #[.pointer (some ⟨p, 0, none⟩), .map (some bo), .map (some bs)] 74)) := (Below.refl _ _).alloc (Nat.le_refl _) _
  have hI : OwnI (W.alloc (.cells #[.pointer (some ⟨p, 0, none⟩), .map (some bo), .map (some bs)] 74)) bo n Do := (hS.keep ba).i
  have cz := at_zero (hA.below ba)
  have HS := Lib.hid hS
  have BA := Lib.hid ba
  cases hh : has Do (.int .i64 0)
  · have HH := Lib.hid hh
    clear hA hS ba
    go_enter Try.func33, Try.ntmps33
    go_wp2_with (first
      | (at_lookup; refine wpList_lookup_own_ok_int _ rfl _ _ 71 rfl 3 3 .i64 lawI mI_under int_under (zeroI _) bo n Do rfl hI _ _ rfl (keyOf_int_mk int_under (by decide)) ?_; intro c hat hwc)
      | (go_at_call 51; ((with_reducible refine cz.mono ?_); clear cz; rintro e w2 ⟨rfl, hb⟩)))
    go_ret
    have hb2 := BA.out.trans (hb.mono BA.out.size)
    have hb3 := hb2.alloc hb2.size (.cells #[.int .i64 0, .int .i64 0, .int .i64 0, .int .i64 0, .int .i64 0, .int .i64 0] 41)
    exact ⟨0, rep, Do, Ds, rfl, rep0_nil rep, Mono.refl rep, HS.out.keep hb3, Only.ofBelow hb3⟩
  · obtain ⟨c, _, hat, _⟩ := World.ownsMap.lookup_int hS.i lawI mI_under int_under (zeroI _) (keyOf_int_mk int_under (show (Lit.int .i64 0).wf = true by decide))
    exact (hS.v.zero hh c hat).elim
end Go.Proofs.Ytbmlpdkbiipcmaa
