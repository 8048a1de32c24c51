/- The laws on bytes answer true, whatever they are handed: WireLogs. -/
import Derived.Test.YtlledongbfjkiaaWn
namespace Go.Proofs.Ytlledongbfjkiaa
open Go.RowKit

def BegunAny : Prop := ∀ w : World, Calls Try.prog 13 #[] w fun e w' => e = .returned (.bool true) ∧ Below w.heap.size w w'

def reC (s : ByteArray) : List Cm := if s.size ≤ 16384 then rp 200 (bs s) else []
def reE (s : ByteArray) : Int := if s.size ≤ 16384 then 0 else 2
theorem reC_len (s : ByteArray) : (reC s).length ≤ 200 := by
  unfold reC
  split
  · exact rp_len _ _
  · simp
def RePost (s : ByteArray) (w : World) (e : Ending) (w' : World) : Prop :=
  ∃ x cap, e = .returned (.tuple #[.slice x (reC s).length cap, .int .i64 (42 * (reC s).length : Nat), .int .i64 (reE s)]) ∧ Below w.heap.size w w' ∧ (reC s).length ≤ cap ∧ cap ≤ 9223372036854775807 ∧ CS w' x (reC s).length (reC s)
theorem CS.nil (w : World) (x : Option Addr) : CS w x 0 [] := ⟨rfl, fun i hi => by omega⟩
theorem re_many {s : ByteArray} (hs : ¬ s.size ≤ 16384) : reC s = [] ∧ reE s = 2 := by unfold reC reE; rw [if_neg hs, if_neg hs]; exact ⟨rfl, rfl⟩
theorem re_few {s : ByteArray} (hs : s.size ≤ 16384) : reC s = rp 200 (bs s) ∧ reE s = 0 := by unfold reC reE; rw [if_pos hs, if_pos hs]; exact ⟨rfl, rfl⟩
theorem replay_any (s : ByteArray) (w : World) : Calls Try.prog 16 #[.string s] w (RePost s w) := by
  by_cases hs : s.size ≤ 16384
  · refine (replay_few s w hs).mono ?_
    intro e w' h
    unfold RePost
    rw [(re_few hs).1, (re_few hs).2]
    exact h
  · refine (replay_many s w (by omega)).mono ?_
    rintro e w' ⟨rfl, hb⟩
    unfold RePost
    rw [(re_many hs).1, (re_many hs).2]
    exact ⟨none, 0, rfl, hb, by simp, by simp, CS.nil _ _⟩
theorem replayOf_any (s : ByteArray) (w : World) : Calls Try.prog 17 #[.string s] w (RePost s w) := by
  by_cases hs : s.size ≤ 16384
  · refine (replayOf_few s w hs).mono ?_
    intro e w' h
    unfold RePost
    rw [(re_few hs).1, (re_few hs).2]
    exact h
  · refine (replayOf_many s w (by omega)).mono ?_
    rintro e w' ⟨rfl, hb⟩
    unfold RePost
    rw [(re_many hs).1, (re_many hs).2]
    exact ⟨none, 0, rfl, hb, by simp, by simp, CS.nil _ _⟩
theorem same_yes (x y : Option Addr) (n c d : Nat) (cs : List Cm) (w : World) (hp : CS w x n cs) (hq : CS w y n cs) (hn : n ≤ 100000) :
    Calls Try.prog 18 #[.slice x n c, .slice y n d] w fun e w' => e = .returned (.bool true) ∧ Below w.heap.size w w' := by
  have : DecidableEq Cm := fun a b => Classical.propDecidable (a = b)
  have h := sameCmds_any x y n n c d cs cs w hp hq hn hn
  rw [decide_eq_true (rfl : cs = cs)] at h
  exact h

set_option maxRecDepth 20000 in
set_option maxHeartbeats 1600000 in
theorem logs_any (hbeg : BegunAny) (x : Option Addr) (n cap : Nat) (cs : List Cm) (s : ByteArray) (w : World) (hp : CS w x n cs) (hn : 42 * n ≤ 140737488355328) :
    Calls Try.prog 4 #[.slice x n cap, .string s] w fun e w' => e = .returned (.bool true) ∧ Below w.heap.size w w' := by
  have h1 := fun W h => log_any x n cap cs W h hn
  have h2 := fun W h => logOf_any x n cap cs W h hn
  have h3 := replay_any s
  have h4 := replayOf_any s
  unfold RePost at h3 h4
  have hl := reC_len s
  generalize strOfNums (loS cs) = t at h1 h2
  generalize loE cs = e1 at h1 h2
  generalize reC s = ds at h3 h4 hl
  generalize reE s = e2 at h3 h4
  have hz : (t.toList == t.toList) = true := by simp
  generalize hm : (42 * ds.length : Nat) = q at h3 h4
  clear hm
  generalize hk : ds.length = k at h3 h4 hl
  clear hk
  go_enter Try.func4, Try.ntmps4
  go_wp2_with fail
  refine (h1 _ hp).mono ?_
  rintro e w1 ⟨rfl, hb1⟩
  go_wp2_with fail
  refine (h2 _ (hp.later hb1)).mono ?_
  rintro e w2 ⟨rfl, hb2⟩
  go_wp2_with fail
  refine (h3 _).mono ?_
  rintro e w3 ⟨x3, c3, rfl, hb3, -, -, hp3⟩
  go_wp2_with fail
  refine (h4 _).mono ?_
  rintro e w4 ⟨x4, c4, rfl, hb4, -, -, hp4⟩
  have hB2 := hb1.trans (hb2.mono hb1.size)
  have hB3 := hB2.trans (hb3.mono hB2.size)
  have hB4 := hB3.trans (hb4.mono hB3.size)
  have hp34 := hp3.later hb4
  clear hb1 hb2 hb3 hb4 hB2 hB3 h1 h2 h3 h4 hp3
  go_wp2_with fail
  refine (hbeg _).mono ?_
  rintro e w5 ⟨rfl, hb5⟩
  have hB5 := hB4.trans (hb5.mono hB4.size)
  have hp35 := hp34.later hb5
  have hp45 := hp4.later hb5
  clear hb5 hB4 hp34 hp4
  go_wp2_with fail
  refine (same_yes x3 x4 k c3 c4 ds _ hp35 hp45 (by omega)).mono ?_
  rintro e w6 ⟨rfl, hb6⟩
  go_wp2
  go_ret
  exact ⟨rfl, hB5.trans (hb6.mono hB5.size)⟩
end Go.Proofs.Ytlledongbfjkiaa
