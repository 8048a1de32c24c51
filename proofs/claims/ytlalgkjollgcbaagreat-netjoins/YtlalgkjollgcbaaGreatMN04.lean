/- What apart and Check of package space, and CheckSpace of package parcelwayref, come to. -/
import Derived.Test.YtlalgkjollgcbaaGreatMN03
import Derived.Deep.DeepCutAuto
namespace Go.Proofs.YtlalgkjollgcbaaGreat
open Go.RowKit

/-- The i-th prefix of a list. -/
def at0 (ps : List (Int × Int)) (i : Nat) : Int := (ps.getD i (0, 0)).1
def at1 (ps : List (Int × Int)) (i : Nat) : Int := (ps.getD i (0, 0)).2

/-- The slice (x, n) holds these prefixes in that world. -/
structure PS (w : World) (x : Option Addr) (n : Nat) (ps : List (Int × Int)) : Prop where
  len : ps.length = n
  cells : ∀ i, i < n → ∃ b o, x = some ⟨b, o, none⟩ ∧ w.cell? ⟨b, o + i * 2, none⟩ = some (.int .i64 (at0 ps i)) ∧ w.cell? ⟨b, o + i * 2 + 1, none⟩ = some (.int .i64 (at1 ps i))

theorem PS.later {w w' : World} {x : Option Addr} {n : Nat} {ps : List (Int × Int)} (h : PS w x n ps) (hb : Below w.heap.size w w') : PS w' x n ps where
  len := h.len
  cells := fun i hi => by
    obtain ⟨b, o, hx, c0, c1⟩ := h.cells i hi
    exact ⟨b, o, hx, cell_later hb c0, cell_later hb c1⟩

def okAt (a l : Int) (ps : List (Int × Int)) (i : Nat) : Bool := ins (at0 ps i) (at1 ps i) a l && (i == 0 || (decide (at0 ps (i - 1) < at0 ps i) && !mts (at0 ps (i - 1)) (at1 ps (i - 1)) (at0 ps i) (at1 ps i)))
def apartB (a l : Int) (ps : List (Int × Int)) : Bool := (List.range ps.length).all (okAt a l ps)

theorem Ws.here {w : World} {b o : Nat} {v : Value} (h : w.cell? ⟨b, o, none⟩ = some v) (u : Ws w.heap.size w) : u.val.cell? ⟨b, o, none⟩ = some v :=
  cell_later u.property h
theorem inside_is (a l c m : Int) (t : Bool) (h : ins a l c m = t) (w : World) :
    Calls Tryz.prog 112 #[.agg #[.int .i64 a, .int .i64 l], .agg #[.int .i64 c, .int .i64 m]] w fun e w' => e = .returned (.bool t) ∧ Below w.heap.size w w' := by
  subst h
  exact inside_any a l c m w
theorem meets_is (a l c m : Int) (t : Bool) (h : mts a l c m = t) (w : World) :
    Calls Tryz.prog 88 #[.agg #[.int .i64 a, .int .i64 l], .agg #[.int .i64 c, .int .i64 m]] w fun e w' => e = .returned (.bool t) ∧ Below w.heap.size w w' := by
  subst h
  exact meets_any a l c m w

theorem apart_no {a l : Int} {ps : List (Int × Int)} {k : Nat} (hk : k < ps.length) (h : okAt a l ps k = false) : apartB a l ps = false := by
  unfold apartB
  rw [List.all_eq_false]
  exact ⟨k, by simpa using hk, by simp [h]⟩
theorem apart_yes {a l : Int} {ps : List (Int × Int)} (h : ∀ j, j < ps.length → okAt a l ps j = true) : apartB a l ps = true := by
  unfold apartB
  rw [List.all_eq_true]
  intro j hj
  exact h j (by simpa using hj)
theorem ok_0 {a l : Int} {ps : List (Int × Int)} (h : ins (at0 ps 0) (at1 ps 0) a l = true) : okAt a l ps 0 = true := by unfold okAt; rw [h]; rfl
theorem ok_no1 {a l : Int} {ps : List (Int × Int)} {k : Nat} (h : ins (at0 ps k) (at1 ps k) a l = false) : okAt a l ps k = false := by unfold okAt; rw [h]; rfl
theorem ok_no2 {a l : Int} {ps : List (Int × Int)} {k : Nat} (h : at0 ps (k + 1) ≤ at0 ps k) : okAt a l ps (k + 1) = false := by
  unfold okAt
  have : decide (at0 ps k < at0 ps (k + 1)) = false := by simpa using h
  simp [this]
theorem ok_no3 {a l : Int} {ps : List (Int × Int)} {k : Nat} (h : mts (at0 ps k) (at1 ps k) (at0 ps (k + 1)) (at1 ps (k + 1)) = true) : okAt a l ps (k + 1) = false := by
  unfold okAt
  simp [h]
theorem ok_s {a l : Int} {ps : List (Int × Int)} {k : Nat} (h1 : ins (at0 ps (k + 1)) (at1 ps (k + 1)) a l = true) (h2 : ¬ at0 ps (k + 1) ≤ at0 ps k) (h3 : mts (at0 ps k) (at1 ps k) (at0 ps (k + 1)) (at1 ps (k + 1)) = false) : okAt a l ps (k + 1) = true := by
  unfold okAt
  have : decide (at0 ps k < at0 ps (k + 1)) = true := by simp; omega
  simp [h1, h3, this]

def chkS (a l : Int) (n : Nat) (ps : List (Int × Int)) : Int := if 32 < n then 2 else if rt a l && apartB a l ps then 0 else 1
end Go.Proofs.YtlalgkjollgcbaaGreat
/- Faces, subnets and ranges as numbers, and the slices that hold them. -/
namespace Go.Proofs.YtlalgkjollgcbaaGreat
open Go.RowKit

/-- A face: its Id, its slice of addresses, and these. -/
structure Fc where
  id : Int
  x : Option Addr
  n : Nat
  c : Nat
  ns : List Int
/-- A subnet: its numbers, its slice of faces, and these. -/
structure Sb where
  id : Int
  a : Int
  l : Int
  x : Option Addr
  n : Nat
  c : Nat
  fs : List Fc
/-- A range: its prefix and its pool. -/
structure Rg where
  a : Int
  l : Int
  p : Int
def fcZ : Fc := ⟨0, none, 0, 0, []⟩
def sbZ : Sb := ⟨0, 0, 0, none, 0, 0, []⟩
def rgZ : Rg := ⟨0, 0, 0⟩
def inAt (ns : List Int) (i : Nat) : Int := ns.getD i 0
def fcAt (fs : List Fc) (i : Nat) : Fc := fs.getD i fcZ
def sbAt (ss : List Sb) (i : Nat) : Sb := ss.getD i sbZ
def rgAt (rs : List Rg) (i : Nat) : Rg := rs.getD i rgZ

/-- The slice (x, n) holds these numbers in that world. -/
structure IS (w : World) (x : Option Addr) (n : Nat) (ns : List Int) : Prop where
  len : ns.length = n
  cells : ∀ i, i < n → ∃ b o, x = some ⟨b, o, none⟩ ∧ w.cell? ⟨b, o + i, none⟩ = some (.int .i64 (inAt ns i))
theorem IS.later {w w' : World} {x : Option Addr} {n : Nat} {ns : List Int} (h : IS w x n ns) (hb : Below w.heap.size w w') : IS w' x n ns where
  len := h.len
  cells := fun i hi => by
    obtain ⟨b, o, hx, h0⟩ := h.cells i hi
    exact ⟨b, o, hx, cell_later hb h0⟩
/-- The slice (x, n) holds these ranges. -/
structure RS (w : World) (x : Option Addr) (n : Nat) (rs : List Rg) : Prop where
  len : rs.length = n
  cells : ∀ i, i < n → ∃ b o, x = some ⟨b, o, none⟩ ∧ w.cell? ⟨b, o + i * 3, none⟩ = some (.int .i64 (rgAt rs i).a) ∧ w.cell? ⟨b, o + i * 3 + 1, none⟩ = some (.int .i64 (rgAt rs i).l) ∧ w.cell? ⟨b, o + i * 3 + 2, none⟩ = some (.int .i64 (rgAt rs i).p)
theorem RS.later {w w' : World} {x : Option Addr} {n : Nat} {rs : List Rg} (h : RS w x n rs) (hb : Below w.heap.size w w') : RS w' x n rs where
  len := h.len
  cells := fun i hi => by
    obtain ⟨b, o, hx, h0, h1, h2⟩ := h.cells i hi
    exact ⟨b, o, hx, cell_later hb h0, cell_later hb h1, cell_later hb h2⟩
/-- The slice (x, n) holds these faces, and their slices their addresses. -/
structure FcS (w : World) (x : Option Addr) (n : Nat) (fs : List Fc) : Prop where
  len : fs.length = n
  cells : ∀ i, i < n → ∃ b o, x = some ⟨b, o, none⟩ ∧ w.cell? ⟨b, o + i * 2, none⟩ = some (.int .i64 (fcAt fs i).id) ∧ w.cell? ⟨b, o + i * 2 + 1, none⟩ = some (.slice (fcAt fs i).x (fcAt fs i).n (fcAt fs i).c)
  addrs : ∀ i, i < n → (fcAt fs i).n ≤ (fcAt fs i).c ∧ (fcAt fs i).n ≤ 9223372036854775807 ∧ IS w (fcAt fs i).x (fcAt fs i).n (fcAt fs i).ns
theorem FcS.later {w w' : World} {x : Option Addr} {n : Nat} {fs : List Fc} (h : FcS w x n fs) (hb : Below w.heap.size w w') : FcS w' x n fs where
  len := h.len
  cells := fun i hi => by
    obtain ⟨b, o, hx, h0, h1⟩ := h.cells i hi
    exact ⟨b, o, hx, cell_later hb h0, cell_later hb h1⟩
  addrs := fun i hi => by
    obtain ⟨h1, h2, h3⟩ := h.addrs i hi
    exact ⟨h1, h2, h3.later hb⟩
/-- The slice (x, n) holds these subnets, and their slices their faces. -/
structure SS (w : World) (x : Option Addr) (n : Nat) (ss : List Sb) : Prop where
  len : ss.length = n
  cells : ∀ i, i < n → ∃ b o, x = some ⟨b, o, none⟩ ∧ w.cell? ⟨b, o + i * 4, none⟩ = some (.int .i64 (sbAt ss i).id) ∧ w.cell? ⟨b, o + i * 4 + 1, none⟩ = some (.int .i64 (sbAt ss i).a) ∧ w.cell? ⟨b, o + i * 4 + 2, none⟩ = some (.int .i64 (sbAt ss i).l) ∧
    w.cell? ⟨b, o + i * 4 + 3, none⟩ = some (.slice (sbAt ss i).x (sbAt ss i).n (sbAt ss i).c)
  faces : ∀ i, i < n → (sbAt ss i).n ≤ (sbAt ss i).c ∧ (sbAt ss i).n ≤ 9223372036854775807 ∧ FcS w (sbAt ss i).x (sbAt ss i).n (sbAt ss i).fs
theorem SS.later {w w' : World} {x : Option Addr} {n : Nat} {ss : List Sb} (h : SS w x n ss) (hb : Below w.heap.size w w') : SS w' x n ss where
  len := h.len
  cells := fun i hi => by
    obtain ⟨b, o, hx, h0, h1, h2, h3⟩ := h.cells i hi
    exact ⟨b, o, hx, cell_later hb h0, cell_later hb h1, cell_later hb h2, cell_later hb h3⟩
  faces := fun i hi => by
    obtain ⟨h1, h2, h3⟩ := h.faces i hi
    exact ⟨h1, h2, h3.later hb⟩
/-- A network in memory: ranges (rx, rn), subnets (sx, sn). -/
structure Vp (w : World) (rx : Option Addr) (rn rc : Nat) (rs : List Rg) (sx : Option Addr) (sn sc : Nat) (ss : List Sb) : Prop where
  rcap : rn ≤ rc
  scap : sn ≤ sc
  ranges : RS w rx rn rs
  subs : SS w sx sn ss
theorem Vp.later {w w' : World} {rx : Option Addr} {rn rc : Nat} {rs : List Rg} {sx : Option Addr} {sn sc : Nat} {ss : List Sb} (h : Vp w rx rn rc rs sx sn sc ss) (hb : Below w.heap.size w w') : Vp w' rx rn rc rs sx sn sc ss :=
  ⟨h.rcap, h.scap, h.ranges.later hb, h.subs.later hb⟩
end Go.Proofs.YtlalgkjollgcbaaGreat
