import PyProof.Rows.All
import Wide.All
import OpenK.AllK
import Wide.FinOn
import HandS.ForMost
import HandS.RaiseMore
import HandS.TupAny
import HandS.TupLe
import HandS.IsInst
import HandS.StrMore
import HandS.Replace
import HandS.More
import PyProof.ListStr
import PyProof.StrOps2
import PyProof.FitsStr
import HandS.Zip
import HandS.Rev
import HandS.WordsDict
import PyProof.ReprRoads
import KE.KRevIter
import HandS.Small
import HandS.Style
import HandS.ListItems
import KE.KDictZip
import PyProof.StrLawsIn
import PyProof.Rows.StrLawsPart
import PyProof.Rows.StrCase
import PySem.Challenge.RW_tonguetower_k03_parts_of_terms
set_option Elab.async false
set_option linter.all false
set_option maxRecDepth 100000
set_option maxHeartbeats 4000000
/-! Mi: a small evaluator over trees and numbered cells; each construct's rule says that the machine does what the evaluator does. -/
namespace Mi
open PySem PySem.Spec PyProof.Rows L2

/-- a value: tuples are trees, what may change has a number -/
inductive W where
  | non | bl (b : Bool) | int (i : Int) | str (x : Str) | tup (xs : List W) | ref (n : Nat)
  deriving Inhabited
/-- what stands at a number -/
inductive Cell where
  | lst (xs : List W) | dic (kvs : List (Key × W)) | fz (xs : List W) | fd (kvs : List (Key × W))
abbrev MH := List Cell
abbrev MS := List (Option W)

mutual
def Rep (K : PySem.W.Frag) (m : List Addr) (H : Hp) : W → V → Prop
  | .non, v => v = .non
  | .bl b, v => v = .bl b
  | .int i, v => v = .int i
  | .str x, v => v = .str x
  | .tup xs, v => ∃ a vs, v = .ref a ∧ SqT K H a vs ∧ Reps K m H xs vs
  | .ref n, v => ∃ a, m[n]? = some a ∧ v = .ref a
def Reps (K : PySem.W.Frag) (m : List Addr) (H : Hp) : List W → List V → Prop
  | [], vs => vs = []
  | x :: xs, vs => ∃ v r, vs = v :: r ∧ Rep K m H x v ∧ Reps K m H xs r
end

structure Le (K : PySem.W.Frag) (m m' : List Addr) (H H' : Hp) : Prop where
  pre : ∀ (n : Nat) (a : Addr), m[n]? = some a → m'[n]? = some a
  tup : ∀ a vs, SqT K H a vs → SqT K H' a vs
  frz : ∀ a o u, H a = some (.frz o u) → H' a = some (.frz o u)
theorem Le.refl {K m H} : Le K m m H H := ⟨fun _ _ h => h, fun _ _ h => h, fun _ _ _ h => h⟩
theorem Le.trans {K m m1 m2 H H1 H2} (a : Le K m m1 H H1) (b : Le K m1 m2 H1 H2) : Le K m m2 H H2 :=
  ⟨fun n x h => b.pre n x (a.pre n x h), fun x vs h => b.tup x vs (a.tup x vs h), fun x o u h => b.frz x o u (a.frz x o u h)⟩

section
variable {K : PySem.W.Frag} {m m' : List Addr} {H H' : Hp} (pre : ∀ (n : Nat) (a : Addr), m[n]? = some a → m'[n]? = some a) (tup : ∀ a vs, SqT K H a vs → SqT K H' a vs)
include pre tup
mutual
theorem Rep.mono0 : ∀ (w : W) (v : V), Rep K m H w v → Rep K m' H' w v
  | .non, _, h => h
  | .bl _, _, h => h
  | .int _, _, h => h
  | .str _, _, h => h
  | .tup xs, _, h => by
    obtain ⟨a, vs, e, t, r⟩ := h
    exact ⟨a, vs, e, tup a vs t, Reps.mono0 xs vs r⟩
  | .ref n, _, h => by
    obtain ⟨a, e, e2⟩ := h
    exact ⟨a, pre n a e, e2⟩
theorem Reps.mono0 : ∀ (xs : List W) (vs : List V), Reps K m H xs vs → Reps K m' H' xs vs
  | [], _, h => h
  | x :: xs, _, h => by
    obtain ⟨v, r, e, h1, h2⟩ := h
    exact ⟨v, r, e, Rep.mono0 x v h1, Reps.mono0 xs r h2⟩
end
end
theorem Rep.mono {K m m' H H'} (l : Le K m m' H H') : ∀ (w : W) (v : V), Rep K m H w v → Rep K m' H' w v := Rep.mono0 l.pre l.tup
theorem Reps.mono {K m m' H H'} (l : Le K m m' H H') : ∀ (xs : List W) (vs : List V), Reps K m H xs vs → Reps K m' H' xs vs := Reps.mono0 l.pre l.tup
section
variable {K : PySem.W.Frag} {m : List Addr} {H : Hp}
theorem Reps.length : ∀ {xs : List W} {vs : List V}, Reps K m H xs vs → vs.length = xs.length
  | [], _, h => by rw [show _ = ([] : List V) from h]; rfl
  | x :: xs, _, h => by
    obtain ⟨v, r, e, _, h2⟩ := h
    subst e
    simp [Reps.length h2]
theorem Reps.get : ∀ {xs : List W} {vs : List V} {i : Nat} {x : W}, Reps K m H xs vs → xs[i]? = some x → ∃ v, vs[i]? = some v ∧ Rep K m H x v
  | [], _, _, _, _, e => by simp at e
  | y :: xs, _, 0, x, h, e => by
    obtain ⟨v, r, rfl, h1, h2⟩ := h
    simp at e; subst e
    exact ⟨v, rfl, h1⟩
  | y :: xs, _, i + 1, x, h, e => by
    obtain ⟨v, r, rfl, h1, h2⟩ := h
    have := Reps.get (i := i) (x := x) h2 (by simpa using e)
    simpa using this
theorem Reps.append : ∀ {xs ys : List W} {vs us : List V}, Reps K m H xs vs → Reps K m H ys us → Reps K m H (xs ++ ys) (vs ++ us)
  | [], _, _, _, h, g => by rw [show _ = ([] : List V) from h]; exact g
  | x :: xs, _, _, _, h, g => by
    obtain ⟨v, r, rfl, h1, h2⟩ := h
    exact ⟨v, r ++ _, rfl, h1, Reps.append h2 g⟩
theorem Reps.set : ∀ {xs : List W} {vs : List V} {x : W} {v : V} (i : Nat), Reps K m H xs vs → Rep K m H x v → Reps K m H (xs.set i x) (vs.set i v)
  | [], _, _, _, _, h, _ => by rw [show _ = ([] : List V) from h]; rfl
  | y :: xs, _, _, _, 0, h, g => by
    obtain ⟨v, r, rfl, h1, h2⟩ := h
    exact ⟨_, r, rfl, g, h2⟩
  | y :: xs, _, _, _, i + 1, h, g => by
    obtain ⟨v, r, rfl, h1, h2⟩ := h
    exact ⟨v, _, rfl, h1, Reps.set i h2 g⟩
theorem Reps.take : ∀ {xs : List W} {vs : List V} (n : Nat), Reps K m H xs vs → Reps K m H (xs.take n) (vs.take n)
  | [], _, n, h => by rw [show _ = ([] : List V) from h]; simp; rfl
  | x :: xs, _, 0, h => by simp; rfl
  | x :: xs, _, n + 1, h => by
    obtain ⟨v, r, rfl, h1, h2⟩ := h
    exact ⟨v, _, rfl, h1, Reps.take n h2⟩
theorem Reps.drop : ∀ {xs : List W} {vs : List V} (n : Nat), Reps K m H xs vs → Reps K m H (xs.drop n) (vs.drop n)
  | [], _, n, h => by rw [show _ = ([] : List V) from h]; simp; rfl
  | x :: xs, _, 0, h => h
  | x :: xs, _, n + 1, h => by
    obtain ⟨v, r, rfl, h1, h2⟩ := h
    exact Reps.drop n h2
theorem Reps.one {x : W} {v : V} (h : Rep K m H x v) : Reps K m H [x] [v] := ⟨v, [], rfl, h, rfl⟩
theorem Reps.eraseIdx : ∀ {xs : List W} {vs : List V} (n : Nat), Reps K m H xs vs → Reps K m H (xs.eraseIdx n) (vs.eraseIdx n)
  | [], _, n, h => by rw [show _ = ([] : List V) from h]; simp; rfl
  | x :: xs, _, 0, h => by
    obtain ⟨v, r, rfl, h1, h2⟩ := h
    exact h2
  | x :: xs, _, n + 1, h => by
    obtain ⟨v, r, rfl, h1, h2⟩ := h
    exact ⟨v, _, rfl, h1, Reps.eraseIdx n h2⟩
theorem Reps.reverse : ∀ {xs : List W} {vs : List V}, Reps K m H xs vs → Reps K m H xs.reverse vs.reverse
  | [], _, h => by rw [show _ = ([] : List V) from h]; rfl
  | x :: xs, _, h => by
    obtain ⟨v, r, rfl, h1, h2⟩ := h
    rw [List.reverse_cons, List.reverse_cons]
    exact (Reps.reverse h2).append (Reps.one h1)
theorem Reps.dropLast : ∀ {xs : List W} {vs : List V}, Reps K m H xs vs → Reps K m H xs.dropLast vs.dropLast := fun {xs vs} h => by
  rw [List.dropLast_eq_take, List.dropLast_eq_take, h.length]
  exact h.take _
/-- flat values -/
def flatW : W → Bool
  | .non => true | .bl _ => true | .int _ => true | .str _ => true | _ => false
def flV : W → V
  | .non => .non | .bl b => .bl b | .int i => .int i | .str x => .str x | _ => .non
theorem Rep.flat : ∀ {w : W} {v : V}, Rep K m H w v → flatW w = true → v = flV w
  | .non, _, h, _ => h
  | .bl _, _, h, _ => h
  | .int _, _, h, _ => h
  | .str _, _, h, _ => h
  | .tup _, _, _, f => by cases f
  | .ref _, _, _, f => by cases f
theorem Rep.ofFlat : ∀ {w : W}, flatW w = true → Rep K m H w (flV w)
  | .non, _ => rfl
  | .bl _, _ => rfl
  | .int _, _ => rfl
  | .str _, _ => rfl
  | .tup _, f => by cases f
  | .ref _, f => by cases f
theorem Reps.flat : ∀ {xs : List W} {vs : List V}, Reps K m H xs vs → xs.all flatW = true → vs = xs.map flV
  | [], _, h, _ => h
  | x :: xs, _, h, f => by
    obtain ⟨v, r, rfl, h1, h2⟩ := h
    rw [List.all_cons, Bool.and_eq_true] at f
    rw [h1.flat f.1, Reps.flat h2 f.2]; rfl
end

/-- the pairs of a dict -/
def RepKV (K : PySem.W.Frag) (m : List Addr) (H : Hp) : List (Key × W) → List (Key × V) → Prop
  | [], vs => vs = []
  | (k, w) :: r, vs => ∃ v s, vs = (k, v) :: s ∧ Rep K m H w v ∧ RepKV K m H r s
theorem RepKV.mono0 {K m m' H H'} (pre : ∀ (n : Nat) (a : Addr), m[n]? = some a → m'[n]? = some a) (tup : ∀ a vs, SqT K H a vs → SqT K H' a vs) : ∀ {xs : List (Key × W)} {vs : List (Key × V)}, RepKV K m H xs vs → RepKV K m' H' xs vs
  | [], _, h => h
  | (k, w) :: r, _, h => by
    obtain ⟨v, s, rfl, h1, h2⟩ := h
    exact ⟨v, s, rfl, Rep.mono0 pre tup w v h1, RepKV.mono0 pre tup h2⟩
theorem RepKV.mono {K m m' H H'} (l : Le K m m' H H') {xs : List (Key × W)} {vs : List (Key × V)} : RepKV K m H xs vs → RepKV K m' H' xs vs := RepKV.mono0 l.pre l.tup

/-- a list that is never changed here: the script, a list of the module's -/
def Frz (K : PySem.W.Frag) (H : Hp) (a : Addr) (vs : List V) : Prop :=
  (∃ o, H a = some (.frz o (.lst vs))) ∨ ∃ (o : Obj) (its : Array Value) (n : Nat), K.lookup a = some o ∧ o.cls = .type "list" ∧ o.dict = none ∧ o.data = .seq its n ∧ its.size ≤ sizeLine ∧ Vals vs its.toList
theorem Frz.sql {K H a vs} (h : Frz K H a vs) : SqL K H a vs := by
  rcases h with ⟨o, h⟩ | h
  · exact .inl (.inr ⟨o, h⟩)
  · exact .inr h
def CellOk (K : PySem.W.Frag) (m : List Addr) (H : Hp) : Cell → Addr → Prop
  | .lst xs, a => ∃ vs, H a = some (.lst vs) ∧ Reps K m H xs vs
  | .dic kvs, a => ∃ us, H a = some (.dK us) ∧ RepKV K m H kvs us
  | .fz xs, a => ∃ vs, Frz K H a vs ∧ Reps K m H xs vs
  | .fd kvs, a => ∃ o us, H a = some (.frz o (.dK us)) ∧ RepKV K m H kvs us
def Cell.mut : Cell → Bool
  | .fz _ => false
  | .fd _ => false
  | _ => true
/-- no two of these stand at one place -/
def Cell.own : Cell → Bool
  | .fz _ => false
  | _ => true
theorem Cell.own_of {c : Cell} (h : c.mut = true) : c.own = true := by cases c <;> first | rfl | cases h
structure Sm (K : PySem.W.Frag) (m : List Addr) (h : MH) (H : Hp) : Prop where
  len : m.length = h.length
  inj : ∀ (i j : Nat) (a : Addr) (c d : Cell), m[i]? = some a → m[j]? = some a → h[i]? = some c → h[j]? = some d → c.own = true → d.own = true → i = j
  cell : ∀ (i : Nat) (a : Addr) (c : Cell), m[i]? = some a → h[i]? = some c → CellOk K m H c a

section
variable {K : PySem.W.Frag} {m : List Addr} {h : MH} {H : Hp} {p a : Addr} {o u : HO}
theorem sqt_new (hn : H p = none) {b : Addr} {vs : List V} (t : SqT K H b vs) : SqT K (upd H p o) b vs := by
  rcases t with (t | ⟨ob, t⟩) | t
  · exact .inl (.inl (by rw [upd_ne (ne_of_none t hn)]; exact t))
  · exact .inl (.inr ⟨ob, by rw [upd_ne (ne_of_none t hn)]; exact t⟩)
  · exact .inr t
/-- what is written is no tuple -/
def NoTup : HO → Prop
  | .lst _ => True
  | .dK _ => True
  | _ => False
theorem sqt_upd (hp : H p = some u) (hu : NoTup u) {b : Addr} {vs : List V} (t : SqT K H b vs) : SqT K (upd H p o) b vs := by
  rcases t with (t | ⟨ob, t⟩) | t
  · exact .inl (.inl (by rw [upd_ne (ne_of t hp (by intro z; subst z; exact hu))]; exact t))
  · exact .inl (.inr ⟨ob, by rw [upd_ne (ne_of t hp (by intro z; subst z; exact hu))]; exact t⟩)
  · exact .inr t
theorem frz_new (hn : H p = none) {b : Addr} {vs : List V} (t : Frz K H b vs) : Frz K (upd H p o) b vs := by
  rcases t with ⟨ob, t⟩ | t
  · exact .inl ⟨ob, by rw [upd_ne (ne_of_none t hn)]; exact t⟩
  · exact .inr t
theorem frz_upd (hp : H p = some u) (hu : NoTup u) {b : Addr} {vs : List V} (t : Frz K H b vs) : Frz K (upd H p o) b vs := by
  rcases t with ⟨ob, t⟩ | t
  · exact .inl ⟨ob, by rw [upd_ne (ne_of t hp (by intro z; subst z; exact hu))]; exact t⟩
  · exact .inr t

theorem Sm.addr (S : Sm K m h H) {i : Nat} {c : Cell} (e : h[i]? = some c) : ∃ a, m[i]? = some a ∧ CellOk K m H c a := by
  have hi : i < h.length := by
    rcases Nat.lt_or_ge i h.length with q | q
    · exact q
    · rw [List.getElem?_eq_none q] at e; cases e
  have hm : i < m.length := by rw [S.len]; exact hi
  refine ⟨m[i], List.getElem?_eq_getElem hm, S.cell i _ c (List.getElem?_eq_getElem hm) e⟩
theorem Sm.cellMut (S : Sm K m h H) {i : Nat} {c : Cell} (e : m[i]? = some a) (e2 : h[i]? = some c) (hc : c.mut = true) : ∃ u, H a = some u ∧ NoTup u := by
  have := S.cell i a c e e2
  cases c with
  | lst xs => obtain ⟨vs, q, _⟩ := this; exact ⟨_, q, trivial⟩
  | dic kvs => obtain ⟨vs, q, _⟩ := this; exact ⟨_, q, trivial⟩
  | fz xs => cases hc
  | fd kvs => cases hc
theorem Sm.cellOwn (S : Sm K m h H) {i : Nat} {c : Cell} (e : m[i]? = some a) (e2 : h[i]? = some c) (hc : c.own = true) : ∃ u, H a = some u := by
  have := S.cell i a c e e2
  cases c with
  | lst xs => obtain ⟨vs, q, _⟩ := this; exact ⟨_, q⟩
  | dic kvs => obtain ⟨vs, q, _⟩ := this; exact ⟨_, q⟩
  | fz xs => cases hc
  | fd kvs => obtain ⟨o, vs, q, _⟩ := this; exact ⟨_, q⟩
/-- a new tuple, nothing else -/
theorem Le.newT (hn : H p = none) : Le K m m H (upd H p o) := ⟨fun _ _ q => q, fun _ _ t => sqt_new hn t, fun _ _ _ t => by rw [upd_ne (ne_of_none t hn)]; exact t⟩
theorem cellOk_le {m' : List Addr} {H' : Hp} {c : Cell} (l : Le K m m' H H') (k : CellOk K m H c a) (e : c.mut = true → H' a = H a) (f : ∀ vs, Frz K H a vs → Frz K H' a vs) : CellOk K m' H' c a := by
  cases c with
  | lst xs => obtain ⟨vs, q, r⟩ := k; exact ⟨vs, by rw [e rfl]; exact q, Reps.mono l _ _ r⟩
  | dic kvs => obtain ⟨vs, q, r⟩ := k; exact ⟨vs, by rw [e rfl]; exact q, RepKV.mono l r⟩
  | fz xs => obtain ⟨vs, q, r⟩ := k; exact ⟨vs, f _ q, Reps.mono l _ _ r⟩
  | fd kvs => obtain ⟨o, vs, q, r⟩ := k; exact ⟨o, vs, l.frz _ _ _ q, RepKV.mono l r⟩
theorem Sm.newT (S : Sm K m h H) (hn : H p = none) : Sm K m h (upd H p o) :=
  ⟨S.len, S.inj, fun i a c e e2 => cellOk_le (Le.newT hn) (S.cell i a c e e2) (fun hc => by
    obtain ⟨u, q, _⟩ := S.cellMut e e2 hc
    rw [upd_ne (ne_of_none q hn)]) fun vs t => frz_new hn t⟩
/-- a new cell -/
theorem Le.newC (hn : H p = none) : Le K m (m ++ [p]) H (upd H p o) := ⟨fun n a q => by
  have : n < m.length := by
    rcases Nat.lt_or_ge n m.length with z | z
    · exact z
    · rw [List.getElem?_eq_none z] at q; cases q
  rw [List.getElem?_append_left this]; exact q, fun _ _ t => sqt_new hn t, fun _ _ _ t => by rw [upd_ne (ne_of_none t hn)]; exact t⟩
theorem get_snoc {α : Type} {l : List α} {x y : α} {i : Nat} (e : (l ++ [x])[i]? = some y) : l[i]? = some y ∨ (i = l.length ∧ y = x) := by
  rcases Nat.lt_trichotomy i l.length with z | z | z
  · rw [List.getElem?_append_left z] at e; exact .inl e
  · subst z; rw [List.getElem?_concat_length] at e; cases e; exact .inr ⟨rfl, rfl⟩
  · rw [List.getElem?_eq_none (by simp; omega)] at e; cases e
theorem Sm.newC (S : Sm K m h H) {c : Cell} (hn : H p = none) (hc : CellOk K (m ++ [p]) (upd H p o) c p) : Sm K (m ++ [p]) (h ++ [c]) (upd H p o) := by
  refine ⟨by simp [S.len], fun i j a c1 d1 e1 e2 e3 e4 hm1 hm2 => ?_, fun i a c1 e1 e2 => ?_⟩
  · have lim : ∀ {i : Nat} {c1 : Cell}, (m ++ [p])[i]? = some a → (h ++ [c])[i]? = some c1 → c1.own = true → (m[i]? = some a ∧ h[i]? = some c1 ∧ a ≠ p) ∨ (i = m.length ∧ a = p) := by
      intro i c1 e1 e3 hm1
      rcases get_snoc e1 with q | ⟨q, r⟩
      · rcases get_snoc e3 with q' | ⟨q', _⟩
        · refine .inl ⟨q, q', fun z => ?_⟩
          obtain ⟨u, q2⟩ := S.cellOwn q q' hm1
          rw [z, hn] at q2; cases q2
        · rw [q', ← S.len] at q
          rw [List.getElem?_eq_none (Nat.le_refl _)] at q; cases q
      · exact .inr ⟨q, r⟩
    rcases lim e1 e3 hm1 with ⟨a1, a2, a3⟩ | ⟨a1, a2⟩
    · rcases lim e2 e4 hm2 with ⟨b1, b2, b3⟩ | ⟨b1, b2⟩
      · exact S.inj i j a c1 d1 a1 b1 a2 b2 hm1 hm2
      · exact absurd b2 a3
    · rcases lim e2 e4 hm2 with ⟨b1, b2, b3⟩ | ⟨b1, b2⟩
      · exact absurd a2 b3
      · omega
  · rcases get_snoc e1 with q | ⟨q, r⟩
    · rcases get_snoc e2 with q' | ⟨q', _⟩
      · exact cellOk_le (Le.newC hn) (S.cell i a c1 q q') (fun hc => by
          obtain ⟨u, q, _⟩ := S.cellMut q q' hc
          rw [upd_ne (ne_of_none q hn)]) fun vs t => frz_new hn t
      · rw [q', ← S.len, List.getElem?_eq_none (Nat.le_refl _)] at q; cases q
    · rcases get_snoc e2 with q' | ⟨q', q2⟩
      · rw [q, S.len, List.getElem?_eq_none (Nat.le_refl _)] at q'; cases q'
      · subst r; subst q2; exact hc
/-- a cell is changed -/
theorem Le.upd (hp : H p = some u) (hu : NoTup u) : Le K m m H (upd H p o) := ⟨fun _ _ q => q, fun _ _ t => sqt_upd hp hu t, fun _ _ _ t => by rw [upd_ne (ne_of t hp (by intro z; subst z; exact hu))]; exact t⟩
theorem Sm.updF (S : Sm K m h H) {i : Nat} {c d : Cell} (e : m[i]? = some p) (e2 : h[i]? = some c) (hc : c.mut = true) (hd : CellOk K m (L2.upd H p o) d p) : Sm K m (h.set i d) (L2.upd H p o) := by
  obtain ⟨u, hp, hu⟩ := S.cellMut e e2 hc
  have hi : i < h.length := by
    rcases Nat.lt_or_ge i h.length with q | q
    · exact q
    · rw [List.getElem?_eq_none q] at e2; cases e2
  have old : ∀ {j : Nat} {c1 : Cell}, (h.set i d)[j]? = some c1 → (j = i ∧ c1 = d) ∨ (j ≠ i ∧ h[j]? = some c1) := by
    intro j c1 q
    by_cases z : i = j
    · subst z; rw [List.getElem?_set_self hi] at q; cases q; exact .inl ⟨rfl, rfl⟩
    · rw [List.getElem?_set_ne z] at q; exact .inr ⟨fun y => z y.symm, q⟩
  refine ⟨by rw [List.length_set]; exact S.len, fun j k a c1 d1 e1 e3 e4 e5 hm1 hm2 => ?_, fun j a c1 e1 e3 => ?_⟩
  · have back : ∀ {j : Nat} {c1 : Cell}, (h.set i d)[j]? = some c1 → c1.own = true → ∃ c2, h[j]? = some c2 ∧ c2.own = true := by
      intro j c1 q hm
      rcases old q with ⟨q1, q2⟩ | ⟨_, q2⟩
      · subst q1; exact ⟨c, e2, Cell.own_of hc⟩
      · exact ⟨c1, q2, hm⟩
    obtain ⟨c2, q2, m2⟩ := back e4 hm1
    obtain ⟨c3, q3, m3⟩ := back e5 hm2
    exact S.inj j k a c2 c3 e1 e3 q2 q3 m2 m3
  · rcases old e3 with ⟨q1, q2⟩ | ⟨q1, q2⟩
    · subst q1; subst q2
      rw [e] at e1; cases e1; exact hd
    · refine cellOk_le (Le.upd hp hu) (S.cell j a c1 e1 q2) (fun hm => ?_) fun vs t => frz_upd hp hu t
      have : a ≠ p := fun z => by
        subst z
        exact q1 (S.inj j i a c1 c e1 e q2 e2 (Cell.own_of hm) (Cell.own_of hc))
      rw [upd_ne this]
theorem Sm.upd (S : Sm K m h H) {i : Nat} {c d : Cell} (e : m[i]? = some p) (e2 : h[i]? = some c) (hc : c.mut = true) (hd : CellOk K m (L2.upd H p o) d p) (dm : d.mut = true) : Sm K m (h.set i d) (L2.upd H p o) := S.updF e e2 hc hd
end

/-! ### the locals -/
def RS (K : PySem.W.Frag) (m : List Addr) (H : Hp) (s : MS) (σ : L2.St) : Prop :=
  ∀ (i : Nat) (w : W), s[i]? = some (some w) → ∃ v, σ[i]? = some (some v) ∧ Rep K m H w v
theorem RS.mono {K m m' H H'} (l : Le K m m' H H') {s : MS} {σ : L2.St} (r : RS K m H s σ) : RS K m' H' s σ := fun i w e => by
  obtain ⟨v, q, p⟩ := r i w e
  exact ⟨v, q, Rep.mono l w v p⟩
theorem RS.set {K m H} {s : MS} {σ : L2.St} {i : Nat} {w : W} {v : V} (r : RS K m H s σ) (hl : s.length = σ.length) (p : Rep K m H w v) : RS K m H (s.set i (some w)) (σ.set i (some v)) := fun j x e => by
  by_cases z : i = j
  · subst z
    by_cases hi : i < s.length
    · rw [List.getElem?_set_self hi] at e; cases e
      rw [List.getElem?_set_self (by rw [← hl]; exact hi)]
      exact ⟨v, rfl, p⟩
    · rw [List.getElem?_eq_none (by simpa using hi)] at e; cases e
  · rw [List.getElem?_set_ne z] at e
    rw [List.getElem?_set_ne z]
    exact r j x e
theorem RS.wipe1 {K m H} {s : MS} {σ : L2.St} {i : Nat} (r : RS K m H s σ) : RS K m H (s.set i none) (σ.set i none) := fun j x e => by
  by_cases z : i = j
  · subst z
    by_cases hi : i < s.length
    · rw [List.getElem?_set_self hi] at e; cases e
    · rw [List.getElem?_eq_none (by simpa using hi)] at e; cases e
  · rw [List.getElem?_set_ne z] at e
    rw [List.getElem?_set_ne z]
    exact r j x e
def mwipe (s : MS) : List Nat → MS
  | [] => s
  | v :: vs => (mwipe s vs).set v none
theorem mwipe_length (s : MS) : ∀ vs : List Nat, (mwipe s vs).length = s.length
  | [] => rfl
  | v :: vs => by unfold mwipe; rw [List.length_set, mwipe_length s vs]
theorem RS.wipe {K m H} {s : MS} {σ : L2.St} (r : RS K m H s σ) : ∀ vs : List Nat, RS K m H (mwipe s vs) (wipe σ vs)
  | [] => r
  | v :: vs => (RS.wipe r vs).wipe1

/-- the evaluator's state and the machine's -/
structure In (K : PySem.W.Frag) (m : List Addr) (s : MS) (h : MH) (σ : L2.St) (H : Hp) : Prop where
  sm : Sm K m h H
  rs : RS K m H s σ
  len : s.length = σ.length
theorem In.le {K m m' s h h' σ H H'} (I : In K m s h σ H) (l : Le K m m' H H') (S : Sm K m' h' H') : In K m' s h' σ H' := ⟨S, I.rs.mono l, I.len⟩

/-! ### readings by the evaluator -/
abbrev M := Nat → MS → MH → Option (W × MH)
abbrev MT := Nat → MS → MH → Option (Bool × MH)
abbrev MA := Nat → MS → MH → Option (List W × MH)
def tM (K : PySem.W.Frag) (f : M) : TE := fun σ H Q => ∃ n s h m w h', In K m s h σ H ∧ f n s h = some (w, h') ∧
  ∀ m' H' v, Le K m m' H H' → Sm K m' h' H' → Rep K m' H' w v → Q v H'
def tMT (K : PySem.W.Frag) (f : MT) : TT := fun σ H Q => ∃ n s h m w h', In K m s h σ H ∧ f n s h = some (w, h') ∧
  ∀ m' H', Le K m m' H H' → Sm K m' h' H' → Q w H'
def tMA (K : PySem.W.Frag) (f : MA) : TA := fun σ H Q => ∃ n s h m w h', In K m s h σ H ∧ f n s h = some (w, h') ∧
  ∀ m' H' vs, Le K m m' H H' → Sm K m' h' H' → Reps K m' H' w vs → Q vs H'

theorem imp_pe {X : Cx} {e : Expr} {t t' : TE} (p : PE X e t) (h : ∀ σ H Q, t' σ H Q → t σ H Q) : PE X e t' := ⟨fun pins s σ H Q I q => p.run pins s σ H Q I (h σ H Q q)⟩
theorem imp_pt {X : Cx} {e : Expr} {t t' : TT} (p : PT X e t) (h : ∀ σ H Q, t' σ H Q → t σ H Q) : PT X e t' := ⟨fun pins s σ H Q I q => p.run pins s σ H Q I (h σ H Q q)⟩
theorem imp_pw {X : Cx} {e : Expr} {t t' : TT} (p : PW X e t) (h : ∀ σ H Q, t' σ H Q → t σ H Q) : PW X e t' := ⟨fun wh pins s σ H Q I q => p.run wh pins s σ H Q I (h σ H Q q)⟩
theorem imp_pa {X : Cx} {e : List Expr} {t t' : TA} (p : PA X e t) (h : ∀ σ H Q, t' σ H Q → t σ H Q) : PA X e t' := ⟨fun pos pins s σ H Q I q => p.run pos pins s σ H Q I (h σ H Q q)⟩

section
variable {X : Cx} {a b c : Expr} {fa fb fc : M} {pos : Pos}
/-- a value that a step tells -/
def andThen {α β : Type} (o : Option (α × MH)) (g : α → MH → Option (β × MH)) : Option (β × MH) := match o with
  | some (x, h) => g x h
  | none => none
theorem andThen_some {α β : Type} {o : Option (α × MH)} {g : α → MH → Option (β × MH)} {r : β × MH} (e : andThen o g = some r) : ∃ x h, o = some (x, h) ∧ g x h = some r := by
  cases o with
  | none => cases e
  | some p => exact ⟨p.1, p.2, rfl, e⟩

def mVar (i : Nat) : M := fun _ s h => match s[i]? with
  | some (some w) => some (w, h)
  | _ => none
theorem mVar_some {i n s h} {r : W × MH} (e : mVar i n s h = some r) : s[i]? = some (some r.1) ∧ r.2 = h := by
  unfold mVar at e
  split at e
  · next w q => cases e; exact ⟨q, rfl⟩
  · cases e
theorem m_var (i : Nat) {x : Str} (hN : X.N[i]? = some x := by rfl) (hv : Vis X.env.scope x := by first | exact Or.inl rfl | exact Or.inr (Or.inl rfl) | exact Or.inr (Or.inr rfl)) (hd : (x == ("__debug__" : Str)) = false := by decide)
    (hcd : (x == ("__classdict__" : Str)) = false := by decide) : PE X (.Name x pos) (tM X.K (mVar i)) := imp_pe (pe_var hN hv hd hcd) fun σ H Q ⟨n, s, h, m, w, h', I, e, k⟩ => by
  obtain ⟨q, q2⟩ := mVar_some e
  obtain ⟨v, e1, r⟩ := I.rs i w q
  simp only at q2; subst q2
  exact ⟨v, e1, k m H v Le.refl I.sm r⟩
def mC (w : W) : M := fun _ _ h => some (w, h)
theorem m_c {e : Expr} {w : W} {v : V} (p : PE X e (tC v)) (r : ∀ m H, Rep X.K m H w v) : PE X e (tM X.K (mC w)) := imp_pe p fun σ H Q ⟨n, s, h, m, w', h', I, e, k⟩ => by
  cases e
  exact k m H v Le.refl I.sm (r m H)
theorem m_int {i j} : PE X (.Constant (.int i) j pos) (tM X.K (mC (.int i))) := m_c pe_int fun _ _ => rfl
theorem m_bl {b j} : PE X (.Constant (.bool b) j pos) (tM X.K (mC (.bl b))) := m_c pe_bl fun _ _ => rfl
theorem m_non {j} : PE X (.Constant .none j pos) (tM X.K (mC .non)) := m_c pe_non fun _ _ => rfl
theorem m_str {x j} : PE X (.Constant (.str x) j pos) (tM X.K (mC (.str x))) := m_c pe_str fun _ _ => rfl

abbrev G2 := W → W → MH → Option (W × MH)
abbrev G1 := W → MH → Option (W × MH)
abbrev GA := List W → MH → Option (W × MH)
def Imp2 (K : PySem.W.Frag) (g : G2) (r : R2) : Prop := ∀ m h H x y vx vy w h', Sm K m h H → Rep K m H x vx → Rep K m H y vy → g x y h = some (w, h') →
  ∀ Q : VK, (∀ m' H' v, Le K m m' H H' → Sm K m' h' H' → Rep K m' H' w v → Q v H') → r vx vy H Q
def Imp1 (K : PySem.W.Frag) (g : G1) (r : V → Hp → VK → Prop) : Prop := ∀ m h H x vx w h', Sm K m h H → Rep K m H x vx → g x h = some (w, h') →
  ∀ Q : VK, (∀ m' H' v, Le K m m' H H' → Sm K m' h' H' → Rep K m' H' w v → Q v H') → r vx H Q
def ImpA (K : PySem.W.Frag) (g : GA) (r : List V → Hp → VK → Prop) : Prop := ∀ m h H xs vs w h', Sm K m h H → Reps K m H xs vs → g xs h = some (w, h') →
  ∀ Q : VK, (∀ m' H' v, Le K m m' H H' → Sm K m' h' H' → Rep K m' H' w v → Q v H') → r vs H Q
def mOp (g : G2) (fa fb : M) : M := fun n s h => andThen (fa n s h) fun x h1 => andThen (fb n s h1) fun y h2 => g x y h2
theorem run_op {r : R2} {g : G2} (hi : Imp2 X.K g r) {σ H Q} (q : tM X.K (mOp g fa fb) σ H Q) : tOp r (tM X.K fa) (tM X.K fb) σ H Q := by
  obtain ⟨n, s, h, m, w, h', I, e, k⟩ := q
  obtain ⟨x, h1, e1, e⟩ := andThen_some e
  obtain ⟨y, h2, e2, e3⟩ := andThen_some e
  exact ⟨n, s, h, m, x, h1, I, e1, fun m1 H1 v L1 S1 R1 => ⟨n, s, h1, m1, y, h2, I.le L1 S1, e2, fun m2 H2 u L2 S2 R2 =>
    hi m2 h2 H2 x y v u w h' S2 (Rep.mono L2 _ _ R1) R2 e3 Q fun m3 H3 z L3 S3 R3 => k m3 H3 z (L1.trans (L2.trans L3)) S3 R3⟩⟩
theorem m_op {op : Operator} {r : R2} {g : G2} (ho : OpR X (binaryOp op) r) (hi : Imp2 X.K g r) (ha : PE X a (tM X.K fa)) (hb : PE X b (tM X.K fb)) : PE X (.BinOp a op b pos) (tM X.K (mOp g fa fb)) :=
  imp_pe (pe_op ho ha hb) fun σ H Q q => run_op hi q
theorem m_cmp {op : CmpOp} {r : R2} {g : G2} (ho : OpR X (compareOp op) r) (hi : Imp2 X.K g r) (ha : PE X a (tM X.K fa)) (hb : PE X b (tM X.K fb)) (hm : behindInMarks op b = false) : PE X (.Compare a [op] [b] pos) (tM X.K (mOp g fa fb)) :=
  imp_pe (pe_cmpR ho ha hb hm) fun σ H Q q => run_op hi q
theorem m_ix {r : R2} {g : G2} (ho : IxR X r) (hi : Imp2 X.K g r) (ha : PE X a (tM X.K fa)) (hb : PE X b (tM X.K fb)) (hs : PlainIx b) : PE X (.Subscript a b pos) (tM X.K (mOp g fa fb)) :=
  imp_pe (pe_ix ho ha hb hs) fun σ H Q q => run_op hi q
def mUn (g : G1) (fa : M) : M := fun n s h => andThen (fa n s h) g
theorem m_un {op : UnaryOp} {r : V → Hp → VK → Prop} {g : G1} (ho : UnR X (unaryOp op) r) (hi : Imp1 X.K g r) (ha : PE X a (tM X.K fa)) : PE X (.UnaryOp op a pos) (tM X.K (mUn g fa)) :=
  imp_pe (pe_un ho ha) fun σ H Q ⟨n, s, h, m, w, h', I, e, k⟩ => by
    obtain ⟨x, h1, e1, e⟩ := andThen_some e
    exact ⟨n, s, h, m, x, h1, I, e1, fun m1 H1 v L1 S1 R1 => hi m1 h1 H1 x v w h' S1 R1 e Q fun m3 H3 z L3 S3 R3 => k m3 H3 z (L1.trans L3) S3 R3⟩

/-! ### tests -/
def mB (f : M) : MT := fun n s h => andThen (f n s h) fun x h1 => match x with
  | .bl b => some (b, h1)
  | _ => none
theorem run_b {f : M} {σ H} {Q : Bool → Hp → Prop} (q : tMT X.K (mB f) σ H Q) : tM X.K f σ H fun x H' => ∃ k, x = .bl k ∧ Q k H' := by
  obtain ⟨n, s, h, m, w, h', I, e, k⟩ := q
  obtain ⟨x, h1, e1, e⟩ := andThen_some e
  refine ⟨n, s, h, m, x, h1, I, e1, fun m1 H1 v L1 S1 R1 => ?_⟩
  cases x <;> try cases e
  exact ⟨_, R1, k m1 H1 L1 S1⟩
theorem mt_cmp {op : CmpOp} {r : R2} {g : G2} (ho : OpR X (compareOp op) r) (hi : Imp2 X.K g r) (ha : PE X a (tM X.K fa)) (hb : PE X b (tM X.K fb)) (hm : behindInMarks op b = false) : PT X (.Compare a [op] [b] pos) (tMT X.K (mB (mOp g fa fb))) :=
  imp_pt (pt_cmpR ho ha hb hm) fun σ H Q q => run_op hi (run_b q)
theorem mt_val {e : Expr} {f : M} (p : PE X e (tM X.K f)) (he : ∀ whole, isTrue e X.env whole = (do let v ← whole; standAt e.pos; holding [v] (truthy v)) := by intro _; rfl) : PT X e (tMT X.K (mB f)) :=
  imp_pt (pt_val p he) fun σ H Q q => run_b q
def mAnd (f g : MT) : MT := fun n s h => andThen (f n s h) fun c h1 => if c = true then g n s h1 else some (false, h1)
def mOr (f g : MT) : MT := fun n s h => andThen (f n s h) fun c h1 => if c = true then some (true, h1) else g n s h1
def mNot (f : MT) : MT := fun n s h => andThen (f n s h) fun c h1 => some (!c, h1)
variable {f g : MT} {rest : List Expr}
theorem mw_and1 (ha : PT X a (tMT X.K f)) : PW X (.BoolOp .And [a] pos) (tMT X.K f) := pw_and1 ha
theorem mw_or1 (ha : PT X a (tMT X.K f)) : PW X (.BoolOp .Or [a] pos) (tMT X.K f) := pw_or1 ha
theorem mw_and (ha : PT X a (tMT X.K f)) (hb : PW X (.BoolOp .And (b :: rest) pos) (tMT X.K g)) : PW X (.BoolOp .And (a :: b :: rest) pos) (tMT X.K (mAnd f g)) :=
  imp_pw (pw_and ha hb) fun σ H Q ⟨n, s, h, m, w, h', I, e, k⟩ => by
    obtain ⟨x, h1, e1, e⟩ := andThen_some e
    refine ⟨n, s, h, m, x, h1, I, e1, fun m1 H1 L1 S1 => ?_⟩
    cases x with
    | true =>
      rw [if_pos rfl] at e ⊢
      exact ⟨n, s, h1, m1, w, h', I.le L1 S1, e, fun m2 H2 L2 S2 => k m2 H2 (L1.trans L2) S2⟩
    | false =>
      rw [if_neg Bool.false_ne_true] at e ⊢
      cases e
      exact k m1 H1 L1 S1
theorem mw_or (ha : PT X a (tMT X.K f)) (hb : PW X (.BoolOp .Or (b :: rest) pos) (tMT X.K g)) : PW X (.BoolOp .Or (a :: b :: rest) pos) (tMT X.K (mOr f g)) :=
  imp_pw (pw_or ha hb) fun σ H Q ⟨n, s, h, m, w, h', I, e, k⟩ => by
    obtain ⟨x, h1, e1, e⟩ := andThen_some e
    refine ⟨n, s, h, m, x, h1, I, e1, fun m1 H1 L1 S1 => ?_⟩
    cases x with
    | true =>
      rw [if_pos rfl] at e ⊢
      cases e
      exact k m1 H1 L1 S1
    | false =>
      rw [if_neg Bool.false_ne_true] at e ⊢
      exact ⟨n, s, h1, m1, w, h', I.le L1 S1, e, fun m2 H2 L2 S2 => k m2 H2 (L1.trans L2) S2⟩
theorem mt_not (ha : PT X a (tMT X.K f)) : PT X (.UnaryOp .Not a pos) (tMT X.K (mNot f)) :=
  imp_pt (pt_not ha) fun σ H Q ⟨n, s, h, m, w, h', I, e, k⟩ => by
    obtain ⟨x, h1, e1, e⟩ := andThen_some e
    cases e
    exact ⟨n, s, h, m, x, h', I, e1, fun m1 H1 L1 S1 => k m1 H1 L1 S1⟩
/-- by a truth -/
def caseB {β : Type} (x : W) (A B : Option β) : Option β := match x with
  | .bl b => if b = true then A else B
  | _ => none
theorem caseB_some {β : Type} {x : W} {A B : Option β} {r : β} (e : caseB x A B = some r) : (x = .bl true ∧ A = some r) ∨ (x = .bl false ∧ B = some r) := by
  unfold caseB at e
  split at e
  · next b =>
    cases b with
    | true => exact .inl ⟨rfl, e⟩
    | false => exact .inr ⟨rfl, e⟩
  · cases e
/-- and, or, not as values of truths -/
def mAndV (fa fb : M) : M := fun n s h => andThen (fa n s h) fun x h1 => caseB x (fb n s h1) (some (.bl false, h1))
def mOrV (fa fb : M) : M := fun n s h => andThen (fa n s h) fun x h1 => caseB x (some (.bl true, h1)) (fb n s h1)
def mNotV (fa : M) : M := fun n s h => andThen (fa n s h) fun x h1 => match x with
  | .bl b => some (.bl (!b), h1)
  | _ => none
theorem m_one {op} (h : PE X a (tM X.K fa)) : PE X (.BoolOp op [a] pos) (tM X.K fa) := pe_one h
theorem m_and (ha : PE X a (tM X.K fa)) (hb : PE X (.BoolOp .And (b :: rest) pos) (tM X.K fb)) : PE X (.BoolOp .And (a :: b :: rest) pos) (tM X.K (mAndV fa fb)) :=
  imp_pe (pe_and ha hb) fun σ H Q ⟨n, s, h, m, w, h', I, e, k⟩ => by
    obtain ⟨x, h1, e1, e⟩ := andThen_some e
    refine ⟨n, s, h, m, x, h1, I, e1, fun m1 H1 v L1 S1 R1 => ?_⟩
    rcases caseB_some e with ⟨rfl, e⟩ | ⟨rfl, e⟩
    · exact ⟨true, R1, ⟨n, s, h1, m1, w, h', I.le L1 S1, e, fun m2 H2 z L2 S2 R2 => k m2 H2 z (L1.trans L2) S2 R2⟩⟩
    · cases e
      exact ⟨false, R1, k m1 H1 _ L1 S1 rfl⟩
theorem m_or (ha : PE X a (tM X.K fa)) (hb : PE X (.BoolOp .Or (b :: rest) pos) (tM X.K fb)) : PE X (.BoolOp .Or (a :: b :: rest) pos) (tM X.K (mOrV fa fb)) :=
  imp_pe (pe_or ha hb) fun σ H Q ⟨n, s, h, m, w, h', I, e, k⟩ => by
    obtain ⟨x, h1, e1, e⟩ := andThen_some e
    refine ⟨n, s, h, m, x, h1, I, e1, fun m1 H1 v L1 S1 R1 => ?_⟩
    rcases caseB_some e with ⟨rfl, e⟩ | ⟨rfl, e⟩
    · cases e
      exact ⟨true, R1, k m1 H1 _ L1 S1 rfl⟩
    · exact ⟨false, R1, ⟨n, s, h1, m1, w, h', I.le L1 S1, e, fun m2 H2 z L2 S2 R2 => k m2 H2 z (L1.trans L2) S2 R2⟩⟩
theorem m_not (ha : PE X a (tM X.K fa)) : PE X (.UnaryOp .Not a pos) (tM X.K (mNotV fa)) :=
  imp_pe (pe_not ha) fun σ H Q ⟨n, s, h, m, w, h', I, e, k⟩ => by
    obtain ⟨x, h1, e1, e⟩ := andThen_some e
    refine ⟨n, s, h, m, x, h1, I, e1, fun m1 H1 v L1 S1 R1 => ?_⟩
    cases x <;> try cases e
    exact ⟨_, R1, k m1 H1 _ L1 S1 rfl⟩
def mIf (c : MT) (fa fb : M) : M := fun n s h => andThen (c n s h) fun b h1 => if b = true then fa n s h1 else fb n s h1
theorem m_ifExp {c : Expr} (hc : PT X c (tMT X.K f)) (ha : PE X a (tM X.K fa)) (hb : PE X b (tM X.K fb)) : PE X (.IfExp c a b pos) (tM X.K (mIf f fa fb)) :=
  imp_pe (pe_ifExp hc ha hb) fun σ H Q ⟨n, s, h, m, w, h', I, e, k⟩ => by
    obtain ⟨x, h1, e1, e⟩ := andThen_some e
    refine ⟨n, s, h, m, x, h1, I, e1, fun m1 H1 L1 S1 => ?_⟩
    cases x with
    | true =>
      rw [if_pos rfl] at e ⊢
      exact ⟨n, s, h1, m1, w, h', I.le L1 S1, e, fun m2 H2 z L2 S2 R2 => k m2 H2 z (L1.trans L2) S2 R2⟩
    | false =>
      rw [if_neg Bool.false_ne_true] at e ⊢
      exact ⟨n, s, h1, m1, w, h', I.le L1 S1, e, fun m2 H2 z L2 S2 R2 => k m2 H2 z (L1.trans L2) S2 R2⟩
/-- a op1 b op2 c -/
def mChain (g g' : G2) (fa fb fc : M) : M := fun n s h => andThen (fa n s h) fun x h1 => andThen (fb n s h1) fun y h2 => andThen (g x y h2) fun z h3 => caseB z (andThen (fc n s h3) fun u h4 => g' y u h4) (some (.bl false, h3))
theorem run_chain {r r' : R2} {g g' : G2} (hi : Imp2 X.K g r) (hi' : Imp2 X.K g' r') {σ H Q} (q : tM X.K (mChain g g' fa fb fc) σ H Q) : tChain r r' (tM X.K fa) (tM X.K fb) (tM X.K fc) σ H Q := by
  obtain ⟨n, s, h, m, w, h', I, e, k⟩ := q
  obtain ⟨x, h1, e1, e⟩ := andThen_some e
  obtain ⟨y, h2, e2, e⟩ := andThen_some e
  obtain ⟨z, h3, e3, e⟩ := andThen_some e
  refine ⟨n, s, h, m, x, h1, I, e1, fun m1 H1 v L1 S1 R1 => ⟨n, s, h1, m1, y, h2, I.le L1 S1, e2, fun m2 H2 u L2 S2 R2 =>
    hi m2 h2 H2 x y v u z h3 S2 (Rep.mono L2 _ _ R1) R2 e3 _ fun m3 H3 z' L3 S3 R3 => ?_⟩⟩
  rcases caseB_some e with ⟨rfl, e⟩ | ⟨rfl, e⟩
  · obtain ⟨t, h4, e4, e⟩ := andThen_some e
    refine ⟨true, R3, ?_⟩
    rw [if_pos rfl]
    exact ⟨n, s, h3, m3, t, h4, (I.le L1 S1 |>.le L2 S2).le L3 S3, e4, fun m4 H4 t' L4 S4 R4 =>
      hi' m4 h4 H4 y t u t' w h' S4 (Rep.mono (L3.trans L4) _ _ R2) R4 e Q fun m5 H5 z5 L5 S5 R5 => k m5 H5 z5 (L1.trans (L2.trans (L3.trans (L4.trans L5)))) S5 R5⟩
  · cases e
    refine ⟨false, R3, ?_⟩
    rw [if_neg Bool.false_ne_true]
    exact k m3 H3 _ (L1.trans (L2.trans L3)) S3 rfl
theorem m_chain {op op' : CmpOp} {r r' : R2} {g g' : G2} (ho : OpR X (compareOp op) r) (hi : Imp2 X.K g r) (ho' : OpR X (compareOp op') r') (hi' : Imp2 X.K g' r') (ha : PE X a (tM X.K fa)) (hb : PE X b (tM X.K fb)) (hc : PE X c (tM X.K fc))
    (hm : lastMarks [op, op'] [b, c] = false := by with_unfolding_all rfl) : PE X (.Compare a [op, op'] [b, c] pos) (tM X.K (mChain g g' fa fb fc)) := imp_pe (pe_chain ho ho' ha hb hc hm) fun σ H Q q => run_chain hi hi' q
theorem mt_chain {op op' : CmpOp} {r r' : R2} {g g' : G2} (ho : OpR X (compareOp op) r) (hi : Imp2 X.K g r) (ho' : OpR X (compareOp op') r') (hi' : Imp2 X.K g' r') (ha : PE X a (tM X.K fa)) (hb : PE X b (tM X.K fb)) (hc : PE X c (tM X.K fc))
    (hm : lastMarks [op, op'] [b, c] = false := by with_unfolding_all rfl) : PT X (.Compare a [op, op'] [b, c] pos) (tMT X.K (mB (mChain g g' fa fb fc))) := imp_pt (pt_chain ho ho' ha hb hc hm) fun σ H Q q => run_chain hi hi' (run_b q)

/-! ### arguments, displays -/
def mNil : MA := fun _ _ h => some ([], h)
def mCons (f : M) (g : MA) : MA := fun n s h => andThen (f n s h) fun x h1 => andThen (g n s h1) fun xs h2 => some (x :: xs, h2)
theorem ma_nil : PA X [] (tMA X.K mNil) := imp_pa pa_nil fun σ H Q ⟨n, s, h, m, w, h', I, e, k⟩ => by
  cases e
  exact k m H [] Le.refl I.sm rfl
theorem ma_cons {es : List Expr} {fr : MA} (ha : PE X a (tM X.K fa)) (hr : PA X es (tMA X.K fr)) (hs : starEach (a :: es) X.env = (false, eval a X.env) :: starEach es X.env := by rfl) : PA X (a :: es) (tMA X.K (mCons fa fr)) :=
  imp_pa (pa_cons ha hr hs) fun σ H Q ⟨n, s, h, m, w, h', I, e, k⟩ => by
    obtain ⟨x, h1, e1, e⟩ := andThen_some e
    obtain ⟨xs, h2, e2, e⟩ := andThen_some e
    cases e
    exact ⟨n, s, h, m, x, h1, I, e1, fun m1 H1 v L1 S1 R1 => ⟨n, s, h1, m1, xs, h', I.le L1 S1, e2, fun m2 H2 vs L2 S2 R2 =>
      k m2 H2 _ (L1.trans L2) S2 ⟨v, vs, rfl, Rep.mono L2 _ _ R1, R2⟩⟩⟩
/-- sizes -/
def szOk (n : Nat) : Bool := decide (n ≤ 16777216)
theorem szOk_le {n : Nat} (h : szOk n = true) : n ≤ sizeLine := by rw [sizeLine_eq]; exact of_decide_eq_true h
def mTup (g : MA) : M := fun n s h => andThen (g n s h) fun xs h1 => if szOk xs.length = true then some (.tup xs, h1) else none
theorem m_tup {es : List Expr} {x1} {fr : MA} (h : PA X es (tMA X.K fr)) : PE X (.Tuple es x1 pos) (tM X.K (mTup fr)) :=
  imp_pe (pe_tup h) fun σ H Q ⟨n, s, h, m, w, h', I, e, k⟩ => by
    obtain ⟨xs, h1, e1, e⟩ := andThen_some e
    split at e
    · next hz =>
      cases e
      refine ⟨n, s, h, m, xs, h', I, e1, fun m1 H1 vs L1 S1 R1 => ⟨by rw [R1.length]; exact szOk_le hz, fun p hp => ?_⟩⟩
      exact k m1 _ _ (L1.trans (Le.newT hp)) (S1.newT hp) ⟨p, vs, rfl, .inl (.inl upd_same), Reps.mono (Le.newT hp) _ _ R1⟩
    · cases e
def newL (xs : List W) (h : MH) : Option (W × MH) := if szOk xs.length = true then some (.ref h.length, h ++ [.lst xs]) else none
theorem newL_ok {K m h H xs vs w h' p} (S : Sm K m h H) (R : Reps K m H xs vs) (e : newL xs h = some (w, h')) (hp : H p = none) :
    Le K m (m ++ [p]) H (upd H p (.lst vs)) ∧ Sm K (m ++ [p]) h' (upd H p (.lst vs)) ∧ Rep K (m ++ [p]) (upd H p (.lst vs)) w (.ref p) := by
  unfold newL at e
  split at e
  · cases e
    refine ⟨Le.newC hp, S.newC hp ⟨vs, upd_same, Reps.mono (Le.newC hp) _ _ R⟩, ⟨p, ?_, rfl⟩⟩
    rw [← S.len]; simp
  · cases e
theorem newL_sz {xs : List W} {h : MH} {r} (e : newL xs h = some r) : xs.length ≤ sizeLine := by
  unfold newL at e
  split at e
  · next z => exact szOk_le z
  · cases e
def mLst (g : MA) : M := fun n s h => andThen (g n s h) newL
theorem m_lst {es : List Expr} {fr : MA} (h : PA X es (tMA X.K fr)) : PE X (.List es pos) (tM X.K (mLst fr)) :=
  imp_pe (pe_lst h) fun σ H Q ⟨n, s, h, m, w, h', I, e, k⟩ => by
    obtain ⟨xs, h1, e1, e⟩ := andThen_some e
    refine ⟨n, s, h, m, xs, h1, I, e1, fun m1 H1 vs L1 S1 R1 => ⟨by rw [R1.length]; exact newL_sz e, fun p hp => ?_⟩⟩
    obtain ⟨l, S2, r⟩ := newL_ok S1 R1 e hp
    exact k _ _ _ (L1.trans l) S2 r

/-! ### calls of built-in functions and of methods, by values -/
def mCB (g : GA) (fr : MA) : M := fun n s h => andThen (fr n s h) g
theorem run_cb {r : List V → Hp → VK → Prop} {g : GA} {fr : MA} (hi : ImpA X.K g r) {σ H Q} (q : tM X.K (mCB g fr) σ H Q) : tCB r (tMA X.K fr) σ H Q := by
  obtain ⟨n, s, h, m, w, h', I, e, k⟩ := q
  obtain ⟨xs, h1, e1, e⟩ := andThen_some e
  exact ⟨n, s, h, m, xs, h1, I, e1, fun m1 H1 vs L1 S1 R1 => hi m1 h1 H1 xs vs w h' S1 R1 e Q fun m2 H2 v L2 S2 R2 => k m2 H2 v (L1.trans L2) S2 R2⟩
theorem m_callB {x : Str} {p : Pos} {e : Expr} {es : List Expr} {id : String} {r : List V → Hp → VK → Prop} {g : GA} {fr : MA} (hc : CallR X (.builtin id) r) (hi : ImpA X.K g r) (hg : Gl X x) (hm : X.mg x = none) (hv : bootBuiltins x = some (.builtin id)) (ha : PA X (e :: es) (tMA X.K fr)) (hn : x ≠ "__name__" := by decide) (hdb : (x == ("__debug__" : Str)) = false := by decide)
    (he : starEach (e :: es) X.env = (false, eval e X.env) :: starEach es X.env := by rfl) (hpl : (backTo pos (starEach es X.env)).any (·.1) = false := by rfl) : PE X (.Call (.Name x p) (e :: es) [] pos) (tM X.K (mCB g fr)) :=
  imp_pe (pe_callB hc hg hm hv ha hn hdb he hpl) fun σ H Q q => run_cb hi q
theorem m_callTy {x : Str} {p : Pos} {e : Expr} {es : List Expr} {T : String} {r : List V → Hp → VK → Prop} {g : GA} {fr : MA} (hc : CallR X (.type T) r) (hi : ImpA X.K g r) (hg : Gl X x) (hm : X.mg x = none) (hv : bootBuiltins x = some (.type T)) (ha : PA X (e :: es) (tMA X.K fr)) (hn : x ≠ "__name__" := by decide) (hdb : (x == ("__debug__" : Str)) = false := by decide)
    (he : starEach (e :: es) X.env = (false, eval e X.env) :: starEach es X.env := by rfl) (hpl : (backTo pos (starEach es X.env)).any (·.1) = false := by rfl) : PE X (.Call (.Name x p) (e :: es) [] pos) (tM X.K (mCB g fr)) :=
  imp_pe (pe_callTy hc hg hm hv ha hn hdb he hpl) fun σ H Q q => run_cb hi q
end
end Mi

/-! Mi: targets, statements, loops, comprehensions, defs and their calls. -/
namespace Mi
open PySem PySem.Spec PyProof.Rows L2

/-! ### statements -/
inductive Fl where
  | nx | rt (w : W) | bk | ct
abbrev MSt := Nat → MS → MH → Option (Fl × MS × MH)
def Fin (K : PySem.W.Frag) (D : Ends) (fl : Fl) (m : List Addr) (σ : L2.St) (H : Hp) : Prop := match fl with
  | .nx => D.nx σ H
  | .bk => D.bk σ H
  | .ct => D.ct σ H
  | .rt w => ∀ v, Rep K m H w v → D.rt v H
def tMS (K : PySem.W.Frag) (f : MSt) : TS := fun D σ H => ∃ n s h m fl s' h', In K m s h σ H ∧ f n s h = some (fl, s', h') ∧
  ∀ m' H' σ', Le K m m' H H' → In K m' s' h' σ' H' → Fin K D fl m' σ' H'
theorem imp_ps {X : Cx} {e : Stmt} {t t' : TS} (p : PS X e t) (h : ∀ D σ H, t' D σ H → t D σ H) : PS X e t' := ⟨fun pins s σ H D I q => p.run pins s σ H D I (h D σ H q)⟩
theorem imp_pss {X : Cx} {e : List Stmt} {t t' : TS} (p : PSs X e t) (h : ∀ D σ H, t' D σ H → t D σ H) : PSs X e t' := ⟨fun pins s σ H D I q => p.run pins s σ H D I (h D σ H q)⟩

section
variable {X : Cx} {st : Stmt} {rest : List Stmt} {e : Expr} {fe : M} {f g : MSt} {pos : Pos}
def mNext : MSt := fun _ s h => some (.nx, s, h)
def mSeq (f g : MSt) : MSt := fun n s h => match f n s h with
  | some (.nx, s1, h1) => g n s1 h1
  | r => r
theorem mss_nil : PSs X [] (tMS X.K mNext) := imp_pss pss_nil fun D σ H ⟨n, s, h, m, fl, s', h', I, e, k⟩ => by
  cases e
  exact k m H σ Le.refl I
theorem mss_one (p : PS X st (tMS X.K f)) : PSs X [st] (tMS X.K f) := pss_one p
theorem mss_cons (p : PS X st (tMS X.K f)) (q : PSs X rest (tMS X.K g)) : PSs X (st :: rest) (tMS X.K (mSeq f g)) := imp_pss (pss_cons p q) fun D σ H ⟨n, s, h, m, fl, s', h', I, e, k⟩ => by
  unfold mSeq at e
  split at e
  · next s1 h1 e1 =>
    exact ⟨n, s, h, m, .nx, s1, h1, I, e1, fun m1 H1 σ1 L1 I1 => ⟨n, s1, h1, m1, fl, s', h', I1, e, fun m2 H2 σ2 L2 I2 => k m2 H2 σ2 (L1.trans L2) I2⟩⟩
  · next r e1 =>
    refine ⟨n, s, h, m, fl, s', h', I, e, fun m1 H1 σ1 L1 I1 => ?_⟩
    have := k m1 H1 σ1 L1 I1
    cases fl with
    | nx => exact absurd e (e1 _ _)
    | _ => exact this
def mBreak : MSt := fun _ s h => some (.bk, s, h)
def mCont : MSt := fun _ s h => some (.ct, s, h)
theorem ms_pass : PS X (.Pass pos) (tMS X.K mNext) := imp_ps ps_pass fun D σ H ⟨n, s, h, m, fl, s', h', I, e, k⟩ => by
  cases e
  exact k m H σ Le.refl I
theorem ms_break : PS X (.Break pos) (tMS X.K mBreak) := imp_ps ps_break fun D σ H ⟨n, s, h, m, fl, s', h', I, e, k⟩ => by
  cases e
  exact k m H σ Le.refl I
theorem ms_continue : PS X (.Continue pos) (tMS X.K mCont) := imp_ps ps_continue fun D σ H ⟨n, s, h, m, fl, s', h', I, e, k⟩ => by
  cases e
  exact k m H σ Le.refl I
/-- a value, then what is done with it -/
def thenS {α : Type} (o : Option (α × MH)) (g : α → MH → Option (Fl × MS × MH)) : Option (Fl × MS × MH) := match o with
  | some (x, h) => g x h
  | none => none
theorem thenS_some {α : Type} {o : Option (α × MH)} {g : α → MH → Option (Fl × MS × MH)} {r : Fl × MS × MH} (e : thenS o g = some r) : ∃ x h, o = some (x, h) ∧ g x h = some r := by
  cases o with
  | none => cases e
  | some p => exact ⟨p.1, p.2, rfl, e⟩
def mDrop (f : M) : MSt := fun n s h => thenS (f n s h) fun _ h1 => some (.nx, s, h1)
theorem ms_expr (p : PE X e (tM X.K fe)) (hs : swapsWith e none pos.line X.env = pure false := by rfl) : PS X (.Expr e pos) (tMS X.K (mDrop fe)) := imp_ps (ps_expr p hs) fun D σ H ⟨n, s, h, m, fl, s', h', I, e, k⟩ => by
  obtain ⟨x, h1, e1, e⟩ := thenS_some e
  cases e
  exact ⟨n, s, h, m, x, h', I, e1, fun m1 H1 v L1 S1 R1 => k m1 H1 σ L1 (I.le L1 S1)⟩
def mRet (f : M) : MSt := fun n s h => thenS (f n s h) fun w h1 => some (.rt w, s, h1)
theorem ms_ret (p : PE X e (tM X.K fe)) : PS X (.Return (some e) pos) (tMS X.K (mRet fe)) := imp_ps (ps_ret p) fun D σ H ⟨n, s, h, m, fl, s', h', I, e, k⟩ => by
  obtain ⟨x, h1, e1, e⟩ := thenS_some e
  cases e
  exact ⟨n, s, h, m, x, h', I, e1, fun m1 H1 v L1 S1 R1 => k m1 H1 σ L1 (I.le L1 S1) v R1⟩
def mIfS (c : MT) (f g : MSt) : MSt := fun n s h => thenS (c n s h) fun b h1 => if b = true then f n s h1 else g n s h1
theorem ms_if {c : Expr} {a b : List Stmt} {fc : MT} (hc : PT X c (tMT X.K fc)) (ha : PSs X a (tMS X.K f)) (hb : PSs X b (tMS X.K g)) : PS X (.If c a b pos) (tMS X.K (mIfS fc f g)) := imp_ps (ps_if hc ha hb) fun D σ H ⟨n, s, h, m, fl, s', h', I, e, k⟩ => by
  obtain ⟨x, h1, e1, e⟩ := thenS_some e
  refine ⟨n, s, h, m, x, h1, I, e1, fun m1 H1 L1 S1 => ?_⟩
  cases x with
  | true =>
    rw [if_pos rfl] at e ⊢
    exact ⟨n, s, h1, m1, fl, s', h', I.le L1 S1, e, fun m2 H2 σ2 L2 I2 => k m2 H2 σ2 (L1.trans L2) I2⟩
  | false =>
    rw [if_neg Bool.false_ne_true] at e ⊢
    exact ⟨n, s, h1, m1, fl, s', h', I.le L1 S1, e, fun m2 H2 σ2 L2 I2 => k m2 H2 σ2 (L1.trans L2) I2⟩
end

/-! ### targets -/
theorem wipe_get (σ : L2.St) : ∀ (vs : List Nat) (j : Nat), (wipe σ vs)[j]? = if j ∈ vs then (if j < σ.length then some none else none) else σ[j]?
  | [], j => by simp [wipe]
  | v :: vs, j => by
    unfold wipe
    have hl := wipe_length σ vs
    by_cases hj : v = j
    · subst hj
      by_cases hv : v < σ.length
      · rw [List.getElem?_set_self (by rw [hl]; exact hv)]
        simp [hv]
      · rw [List.getElem?_eq_none (by simp [hl]; omega)]
        simp [hv]
    · rw [List.getElem?_set_ne hj, wipe_get σ vs j]
      have : (j ∈ v :: vs) = (j ∈ vs) := propext ⟨fun q => (List.mem_cons.mp q).elim (fun e => absurd e.symm hj) id, List.mem_cons_of_mem _⟩
      simp only [this]
theorem wipe_set {σ : L2.St} {i : Nat} {x : Option V} {vs : List Nat} (hi : i ∈ vs) : wipe (σ.set i x) vs = wipe σ vs := by
  apply List.ext_getElem?
  intro j
  rw [wipe_get, wipe_get, List.length_set]
  by_cases hj : j ∈ vs
  · rw [if_pos hj, if_pos hj]
  · rw [if_neg hj, if_neg hj]
    rw [List.getElem?_set_ne (fun e => by subst e; exact hj hi)]
theorem wipe_wipe (σ : L2.St) (vs : List Nat) : wipe (wipe σ vs) vs = wipe σ vs := by
  apply List.ext_getElem?
  intro j
  rw [wipe_get, wipe_length, wipe_get]
  by_cases hj : j ∈ vs
  · rw [if_pos hj, if_pos hj]
  · rw [if_neg hj, if_neg hj]
inductive Pat where
  | nm (i : Nat) | tp (ps : List Pat)
mutual
def mPat : Pat → W → MS → Option MS
  | .nm i, w, s => some (s.set i (some w))
  | .tp ps, w, s => match w with
    | .tup xs => mPats ps xs s
    | _ => none
def mPats : List Pat → List W → MS → Option MS
  | [], [], s => some s
  | p :: ps, x :: xs, s => match mPat p x s with
    | some s1 => mPats ps xs s1
    | none => none
  | _, _, _ => none
end
mutual
def gPat (K : PySem.W.Frag) : Pat → TG
  | .nm i => gName i
  | .tp ps => gTup K ps.length (gPats K ps)
def gPats (K : PySem.W.Frag) : List Pat → TGs
  | [] => gNil
  | p :: ps => gCons (gPat K p) (gPats K ps)
end
mutual
def pvars : Pat → List Nat
  | .nm i => [i]
  | .tp ps => pvarss ps
def pvarss : List Pat → List Nat
  | [] => []
  | p :: ps => pvars p ++ pvarss ps
end
section
variable {K : PySem.W.Frag} {m : List Addr} {h : MH} {H : Hp}
theorem mPats_len : ∀ {ps : List Pat} {xs : List W} {s s' : MS}, mPats ps xs s = some s' → xs.length = ps.length
  | [], [], _, _, _ => rfl
  | [], _ :: _, _, _, e => by simp [mPats] at e
  | _ :: _, [], _, _, e => by simp [mPats] at e
  | p :: ps, x :: xs, s, s', e => by
    unfold mPats at e
    split at e
    · simp [mPats_len e]
    · cases e
mutual
theorem gPat_run : ∀ (p : Pat) (w : W) (v : V) (s s' : MS) (σ : L2.St) (Q : L2.St → Hp → Prop), In K m s h σ H → Rep K m H w v → mPat p w s = some s' → (∀ σ', In K m s' h σ' H → (∀ vs : List Nat, (∀ i ∈ pvars p, i ∈ vs) → wipe σ' vs = wipe σ vs) → Q σ' H) → gPat K p v σ H Q
  | .nm i, w, v, s, s', σ, Q, I, R, e, q => by
    unfold mPat at e
    cases e
    unfold gPat
    refine q _ ⟨I.sm, I.rs.set I.len R, by rw [List.length_set, List.length_set]; exact I.len⟩ fun vs hv => ?_
    exact wipe_set (hv i (by simp [pvars]))
  | .tp ps, w, v, s, s', σ, Q, I, R, e, q => by
    unfold mPat at e
    cases w with
    | tup xs =>
      obtain ⟨a, us, ev, t, rs⟩ := R
      unfold gPat
      refine ⟨a, us, ev, t, by rw [rs.length, mPats_len e], ?_⟩
      exact gPats_run ps xs us s s' σ Q I rs e fun σ' I' hw => q σ' I' fun vs hv => hw vs (by simpa [pvars] using hv)
    | _ => simp at e
theorem gPats_run : ∀ (ps : List Pat) (xs : List W) (us : List V) (s s' : MS) (σ : L2.St) (Q : L2.St → Hp → Prop), In K m s h σ H → Reps K m H xs us → mPats ps xs s = some s' → (∀ σ', In K m s' h σ' H → (∀ vs : List Nat, (∀ i ∈ pvarss ps, i ∈ vs) → wipe σ' vs = wipe σ vs) → Q σ' H) → gPats K ps us σ H Q
  | [], xs, us, s, s', σ, Q, I, R, e, q => by
    cases xs with
    | nil =>
      unfold mPats at e
      cases e
      unfold gPats
      exact ⟨R, q σ I fun _ _ => rfl⟩
    | cons x xs => simp [mPats] at e
  | p :: ps, xs, us, s, s', σ, Q, I, R, e, q => by
    cases xs with
    | nil => simp [mPats] at e
    | cons x xs =>
      obtain ⟨v, r, rfl, R1, R2⟩ := R
      unfold mPats at e
      split at e
      · next s1 e1 =>
        unfold gPats
        refine ⟨v, r, rfl, gPat_run p x v s s1 σ _ I R1 e1 fun σ1 I1 w1 => ?_⟩
        exact gPats_run ps xs r s1 s' σ1 Q I1 R2 e fun σ2 I2 w2 => q σ2 I2 fun vs hv => by
          rw [w2 vs fun i hi => hv i (by simp [pvarss, hi]), w1 vs fun i hi => hv i (by simp [pvarss, hi])]
      · cases e
end
end

theorem pp_nm {X : Cx} {e : Expr} {i : Nat} (h : PG X e (gName i)) : PG X e (gPat X.K (.nm i)) := by
  unfold gPat
  exact h
theorem pps0 {X : Cx} : PGs X [] (gPats X.K []) := by
  unfold gPats
  exact pgs_nil
theorem pps1 {X : Cx} {e : Expr} {es : List Expr} {p : Pat} {ps : List Pat} (h : PG X e (gPat X.K p)) (h2 : PGs X es (gPats X.K ps)) (hs : (assignEach (e :: es) X.env).map (·.2) = assign e X.env :: (assignEach es X.env).map (·.2) := by rfl) : PGs X (e :: es) (gPats X.K (p :: ps)) := by
  unfold gPats
  exact pgs_cons h h2 hs
theorem pp_tp {X : Cx} {es : List Expr} {k : Nat} {pos : Pos} {ps : List Pat} (hc : X.calm = true) (h : PGs X es (gPats X.K ps)) (hn : (assignEach es X.env).length = ps.length := by rfl) (hst : (assignEach es X.env).findIdx? (·.1) = none := by rfl) : PG X (.Tuple es k pos) (gPat X.K (.tp ps)) := by
  unfold gPat
  exact pg_tup hc h hn hst
/-- target = value, any target of names -/
abbrev MG := Nat → W → MS → MH → Option (MS × MH)
def tMG (K : PySem.W.Frag) (g : MG) : TG := fun v σ H Q => ∃ n w s h m s' h', In K m s h σ H ∧ Rep K m H w v ∧ g n w s h = some (s', h') ∧
  ∀ m' H' σ', Le K m m' H H' → In K m' s' h' σ' H' → Q σ' H'
theorem imp_pg {X : Cx} {e : Expr} {t t' : TG} (p : PG X e t) (h : ∀ v σ H Q, t' v σ H Q → t v σ H Q) : PG X e t' := ⟨fun pins s σ H v u Q I r q => p.run pins s σ H v u Q I r (h v σ H Q q)⟩
def mgPat (p : Pat) : MG := fun _ w s h => match mPat p w s with
  | some s' => some (s', h)
  | none => none
theorem mg_pat {X : Cx} {e : Expr} (p : Pat) (h : PG X e (gPat X.K p)) : PG X e (tMG X.K (mgPat p)) := imp_pg h fun v σ H Q ⟨n, w, s, h, m, s', h', I, R, e, k⟩ => by
  unfold mgPat at e
  split at e
  · next s1 e1 =>
    cases e
    exact gPat_run p w v s _ σ Q I R e1 fun σ' I' _ => k m H σ' Le.refl I'
  · cases e
/-- xs[i] = v, a list's -/
def mgSub (fo fi : M) (g3 : W → W → W → MH → Option MH) : MG := fun n w s h => match fo n s h with
  | some (o, h1) => match fi n s h1 with
    | some (i, h2) => match g3 o i w h2 with
      | some h3 => some (s, h3)
      | none => none
    | none => none
  | none => none
def Imp3 (K : PySem.W.Frag) (g : W → W → W → MH → Option MH) (r : V → V → V → Hp → (Hp → Prop) → Prop) : Prop := ∀ m h H x y z vx vy vz h', Sm K m h H → Rep K m H x vx → Rep K m H y vy → Rep K m H z vz → g x y z h = some h' →
  ∀ Q : Hp → Prop, (∀ m' H', Le K m m' H H' → Sm K m' h' H' → Q H') → r vx vy vz H Q
theorem mg_sub {X : Cx} {o i : Expr} {pos : Pos} {fo fi : M} {t : TSet} {g3} (ho : PE X o (tM X.K fo)) (hi : PE X i (tM X.K fi)) (hs : PSet X t) (hq : Imp3 X.K g3 t)
    (ha : ∀ v, assign (.Subscript o i pos) X.env v = (do
      let ov ← holding [v] (eval o X.env)
      let iv ← holding [v, ov] (eval i X.env)
      standAt pos
      holding [v, ov, iv] (setItem ov iv v)
      release [v, ov, iv] []) := by intro _; rfl) : PG X (.Subscript o i pos) (tMG X.K (mgSub fo fi g3)) := imp_pg (pg_sub ho hi hs ha) fun v σ H Q ⟨n, w, s, h, m, s', h', I, R, e, k⟩ => by
  unfold mgSub at e
  split at e
  · next x h1 e1 =>
    split at e
    · next y h2 e2 =>
      split at e
      · next h3 e3 =>
        cases e
        exact ⟨n, s, h, m, x, h1, I, e1, fun m1 H1 v1 L1 S1 R1 => ⟨n, s, h1, m1, y, h2, I.le L1 S1, e2, fun m2 H2 v2 L2 S2 R2 =>
          hq m2 h2 H2 x y w v1 v2 v h' S2 (Rep.mono L2 _ _ R1) R2 (Rep.mono (L1.trans L2) _ _ R) e3 _ fun m3 H3 L3 S3 =>
            k m3 H3 σ (L1.trans (L2.trans L3)) (((I.le L1 S1).le L2 S2).le L3 S3)⟩⟩
      · cases e
    · cases e
  · cases e
section
variable {X : Cx} {pos : Pos}
def mAsg (f : M) (g : MG) : MSt := fun n s h => thenS (f n s h) fun w h1 => match g n w s h1 with
  | some (s2, h2) => some (.nx, s2, h2)
  | none => none
theorem run_asg {f : M} {g : MG} {D : Ends} {σ H} (q : tMS X.K (mAsg f g) D σ H) : tAsg (tM X.K f) (tMG X.K g) D σ H := by
  obtain ⟨n, s, h, m, fl, s', h', I, e, k⟩ := q
  obtain ⟨x, h1, e1, e⟩ := thenS_some e
  split at e
  · next s2 h2 e2 =>
    cases e
    exact ⟨n, s, h, m, x, h1, I, e1, fun m1 H1 v L1 S1 R1 => ⟨n, x, s, h1, m1, s', h', I.le L1 S1, R1, e2, fun m2 H2 σ2 L2 I2 => k m2 H2 σ2 (L1.trans L2) I2⟩⟩
  · cases e
theorem ms_asg {tg e : Expr} {f : M} {g : MG} (he : PE X e (tM X.K f)) (hg : PG X tg (tMG X.K g)) (hs : swapsWithSole [tg] e pos.line X.env = pure false := by rfl) (hw : swappedStores [tg] e X.env = pure none := by rfl)
    (h1 : (assignEach [tg] X.env).map (·.2) = [assign tg X.env] := by rfl) : PS X (.Assign [tg] e pos) (tMS X.K (mAsg f g)) := imp_ps (ps_asg he hg hs hw h1) fun D σ H q => run_asg q
/-- x = e -/
def mSet (i : Nat) (f : M) : MSt := fun n s h => thenS (f n s h) fun w h1 => some (.nx, s.set i (some w), h1)
theorem run_set {i : Nat} {f : M} {D : Ends} {σ H} (q : tMS X.K (mSet i f) D σ H) : tAsg (tM X.K f) (gName i) D σ H := by
  obtain ⟨n, s, h, m, fl, s', h', I, e, k⟩ := q
  obtain ⟨x, h1, e1, e⟩ := thenS_some e
  cases e
  refine ⟨n, s, h, m, x, h', I, e1, fun m1 H1 v L1 S1 R1 => ?_⟩
  have I1 := I.le L1 S1
  exact k m1 H1 _ L1 ⟨I1.sm, I1.rs.set I1.len R1, by rw [List.length_set, List.length_set]; exact I1.len⟩
theorem ms_set {x : Str} {e : Expr} {f : M} {pos' : Pos} (i : Nat) (he : PE X e (tM X.K f)) (hN : X.N.Nodup) (hi : X.N[i]? = some x := by rfl) (hx : Loc X.env.scope x := by first | exact Or.inl rfl | exact Or.inr rfl) (hs : swapsWith e (some (.Name x pos')) pos.line X.env = pure false := by rfl) (hf : X.fn x = true ∨ X.env.scope.names.lookup x = some .local := by first | exact .inl rfl | exact .inr rfl) :
    PS X (.Assign [.Name x pos'] e pos) (tMS X.K (mSet i f)) := imp_ps (ps_set hN hi hx he hs hf) fun D σ H q => run_set q
/-- a, b = x, y -/
def mPar (i j : Nat) (fa fb : M) : MSt := fun n s h => thenS (fa n s h) fun v h1 => thenS (fb n s h1) fun w h2 => some (.nx, (s.set i (some v)).set j (some w), h2)
theorem ms_par {x y : Str} {a b : Expr} {fa fb : M} {px py pt : Pos} {kt k2 pt2} (i j : Nat) (hc : X.calm = true) (hN : X.N.Nodup) (ha : PE X a (tM X.K fa)) (hb : PE X b (tM X.K fb)) (hi : X.N[i]? = some x := by rfl) (hj : X.N[j]? = some y := by rfl) (hij : i ≠ j := by decide)
    (hx : X.env.scope.names.lookup x = some .local := by rfl) (hy : X.env.scope.names.lookup y = some .local := by rfl)
    (hw : swappedStores [.Tuple [.Name x px, .Name y py] kt pt] (.Tuple [a, b] k2 pt2) X.env = pure (some [x, y]) := by rfl)
    (hs : swapsWithSole [.Tuple [.Name x px, .Name y py] kt pt] (.Tuple [a, b] k2 pt2) pos.line X.env = pure false := by rfl)
    (h1 : starEach [a, b] X.env = (false, eval a X.env) :: starEach [b] X.env := by rfl) (h2 : starEach [b] X.env = (false, eval b X.env) :: starEach [] X.env := by rfl) :
    PS X (.Assign [.Tuple [.Name x px, .Name y py] kt pt] (.Tuple [a, b] k2 pt2) pos) (tMS X.K (mPar i j fa fb)) := imp_ps (ps_par hc hN hi hj hij hx hy (pa_cons ha (pa_cons hb pa_nil h2) h1) hw hs) fun D σ H ⟨n, s, h, m, fl, s', h', I, e, k⟩ => by
  obtain ⟨v, h1, e1, e⟩ := thenS_some e
  obtain ⟨w, h2, e2, e⟩ := thenS_some e
  cases e
  refine ⟨n, s, h, m, v, h1, I, e1, fun m1 H1 v1 L1 S1 R1 => ⟨n, s, h1, m1, w, h', I.le L1 S1, e2, fun m2 H2 v2 L2 S2 R2 => ⟨v1, v2, rfl, ?_⟩⟩⟩
  have I2 := (I.le L1 S1).le L2 S2
  have R1' := Rep.mono L2 _ _ R1
  refine k m2 H2 _ (L1.trans L2) ⟨I2.sm, (I2.rs.set I2.len R1').set (by rw [List.length_set, List.length_set]; exact I2.len) R2, by simp [I2.len]⟩
/-- x op= e -/
def mAug (i : Nat) (f : M) (g : G2) : MSt := fun n s h => match s[i]? with
  | some (some x) => thenS (f n s h) fun y h1 => thenS (g x y h1) fun z h2 => some (.nx, s.set i (some z), h2)
  | _ => none
theorem ms_aug {x : Str} {e : Expr} {f : M} {g : G2} {op : Operator} {ti : TIp} {pos' : Pos} (i : Nat) (he : PE X e (tM X.K f)) (ho : PIp X op ti) (hg : Imp2 X.K g ti) (hN : X.N.Nodup) (hi : X.N[i]? = some x := by rfl) (hx : Loc X.env.scope x := by first | exact Or.inl rfl | exact Or.inr rfl) (hf : X.fn x = true ∨ X.env.scope.names.lookup x = some .local := by first | exact .inl rfl | exact .inr rfl) :
    PS X (.AugAssign (.Name x pos') op e pos) (tMS X.K (mAug i f g)) := imp_ps (ps_aug hN hi hx he ho hf) fun D σ H ⟨n, s, h, m, fl, s', h', I, e, k⟩ => by
  unfold mAug at e
  split at e
  · next x e0 =>
    obtain ⟨y, h1, e1, e⟩ := thenS_some e
    obtain ⟨z, h2, e2, e⟩ := thenS_some e
    cases e
    obtain ⟨v, ev, rv⟩ := I.rs i x e0
    refine ⟨v, ev, n, s, h, m, y, h1, I, e1, fun m1 H1 u L1 S1 R1 => hg m1 h1 H1 x y v u z h' S1 (Rep.mono L1 _ _ rv) R1 e2 _ fun m2 H2 t L2 S2 R2 => ?_⟩
    have I2 := (I.le L1 S1).le L2 S2
    exact k m2 H2 _ (L1.trans L2) ⟨I2.sm, I2.rs.set I2.len R2, by simp [I2.len]⟩
  · cases e
end

/-! ### while -/
def wloop (c : MT) (b : MSt) (n : Nat) : Nat → MS → MH → Option (Fl × MS × MH)
  | 0, _, _ => none
  | k + 1, s, h => thenS (c n s h) fun t h1 => if t = true then
      (match b n s h1 with
        | some (.nx, s2, h2) => wloop c b n k s2 h2
        | some (.ct, s2, h2) => wloop c b n k s2 h2
        | some (.bk, s2, h2) => some (.nx, s2, h2)
        | r => r)
    else some (.nx, s, h1)
def mWhile (c : MT) (b : MSt) : MSt := fun n s h => wloop c b n n s h
theorem ms_while {X : Cx} {c : Expr} {body : List Stmt} {fc : MT} {fb : MSt} {pos : Pos} (hp : PassesOwn (model X.prog X.w) X.A X.env X.xe) (hc : PT X c (tMT X.K fc)) (hb : PSs X body (tMS X.K fb)) : PS X (.While c body [] pos) (tMS X.K (mWhile fc fb)) :=
  imp_ps (ps_while hp hc hb) fun D σ0 H0 ⟨n, s0, h0, m0, fl, s', h', I0, e0, k⟩ => by
    refine ⟨fun j σ H => ∃ s h m, Le X.K m0 m H0 H ∧ In X.K m s h σ H ∧ wloop fc fb n j s h = some (fl, s', h'), ⟨n, s0, h0, m0, Le.refl, I0, e0⟩, fun j σ H ⟨s, h, m, L, I, e⟩ => ?_⟩
    cases j with
    | zero => simp [wloop] at e
    | succ j =>
      unfold wloop at e
      obtain ⟨t, h1, e1, e⟩ := thenS_some e
      refine ⟨n, s, h, m, t, h1, I, e1, fun m1 H1 L1 S1 => ?_⟩
      have I1 := I.le L1 S1
      cases t with
      | false =>
        rw [if_neg Bool.false_ne_true] at e
        cases e
        exact iteF (k m1 H1 σ (L.trans L1) I1)
      | true =>
        rw [if_pos rfl] at e
        refine iteT ⟨fun σ2 H2 => ∃ s2 h2 m2, Le X.K m0 m2 H0 H2 ∧ In X.K m2 s2 h2 σ2 H2 ∧ wloop fc fb n j s2 h2 = some (fl, s', h'), fun σ2 H2 q => ⟨j, Nat.lt_succ_self j, q⟩, ?_⟩
        split at e
        · next s2 h2 e2 => exact ⟨n, s, h1, m1, .nx, s2, h2, I1, e2, fun m2 H2 σ2 L2 I2 => ⟨s2, h2, m2, L.trans (L1.trans L2), I2, e⟩⟩
        · next s2 h2 e2 => exact ⟨n, s, h1, m1, .ct, s2, h2, I1, e2, fun m2 H2 σ2 L2 I2 => ⟨s2, h2, m2, L.trans (L1.trans L2), I2, e⟩⟩
        · next s2 h2 e2 =>
          cases e
          exact ⟨n, s, h1, m1, .bk, s', h', I1, e2, fun m2 H2 σ2 L2 I2 => k m2 H2 σ2 (L.trans (L1.trans L2)) I2⟩
        · next r2 n1 n2 n3 =>
          refine ⟨n, s, h1, m1, fl, s', h', I1, e, fun m2 H2 σ2 L2 I2 => ?_⟩
          have q := k m2 H2 σ2 (L.trans (L1.trans L2)) I2
          cases fl with
          | nx => exact absurd e (n1 _ _)
          | ct => exact absurd e (n2 _ _)
          | bk => exact absurd e (n3 _ _)
          | rt w => exact q

/-! ### what a loop walks -/
inductive Src where
  /-- the list at a number, as it stands at each turn -/
  | cell (n : Nat)
  /-- these, one by one -/
  | items (xs : List W)
  /-- the list at a number, each with its place -/
  | enum (n : Nat)
  /-- two lists at numbers -/
  | zip (a b : Nat)
  /-- the list at a number, of this length, from behind -/
  | rev (n : Nat) (k : Nat)
def lstAt (h : MH) (n : Nat) : Option (List W) := match h[n]? with
  | some (.lst xs) => some xs
  | some (.fz xs) => some xs
  | _ => none
/-- none: stuck; some none: it stops -/
def Src.get (src : Src) (h : MH) (i : Nat) : Option (Option W) := match src with
  | .cell n => (lstAt h n).map fun xs => xs[i]?
  | .items xs => some xs[i]?
  | .enum n => (lstAt h n).map fun xs => xs[i]?.map fun x => .tup [.int i, x]
  | .zip a b => match lstAt h a, lstAt h b with
    | some xs, some ys => some (match xs[i]?, ys[i]? with
      | some x, some y => some (.tup [x, y])
      | _, _ => none)
    | _, _ => none
  | .rev n k => (lstAt h n).bind fun xs => if xs.length = k then (if i < k then xs[k - 1 - i]?.map some else some none) else none
def ItOk (K : PySem.W.Frag) (m : List Addr) (H : Hp) (J : It) (src : Src) : Prop := ∀ m' H' h', Le K m m' H H' → Sm K m' h' H' → ∀ i,
  (src.get h' i = some none → J.stop i H') ∧ ∀ w, src.get h' i = some (some w) → J.go i H' ∧ ∀ x H2, J.yld i H' x H2 → Le K m' m' H' H2 ∧ Sm K m' h' H2 ∧ Rep K m' H2 w x
theorem ItOk.mono {K m m' H H' J src} (o : ItOk K m H J src) (l : Le K m m' H H') : ItOk K m' H' J src := fun m2 H2 h2 l2 s2 => o m2 H2 h2 (l.trans l2) s2
abbrev MI := Nat → MS → MH → Option (Src × MH)
def tMI (K : PySem.W.Frag) (f : MI) : TI := fun σ H R => ∃ n s h m src h', In K m s h σ H ∧ f n s h = some (src, h') ∧
  ∀ m' H' J, Le K m m' H H' → Sm K m' h' H' → ItOk K m' H' J src → R J H'
theorem imp_pi {X : Cx} {tg e : Expr} {t t' : TI} (p : PI X tg e t) (h : ∀ σ H R, t' σ H R → t σ H R) : PI X tg e t' := ⟨fun pins s σ H R I q => p.run pins s σ H R I (h σ H R q)⟩

/-! ### for -/
def floop (src : Src) (g : MG) (b : MSt) (n : Nat) : Nat → Nat → MS → MH → Option (Fl × MS × MH)
  | 0, _, _, _ => none
  | k + 1, i, s, h => match src.get h i with
    | none => none
    | some none => some (.nx, s, h)
    | some (some w) => match g n w s h with
      | none => none
      | some (s1, h1) => match b n s1 h1 with
        | some (.nx, s2, h2) => floop src g b n k (i + 1) s2 h2
        | some (.ct, s2, h2) => floop src g b n k (i + 1) s2 h2
        | some (.bk, s2, h2) => some (.nx, s2, h2)
        | r => r
def mFor (fi : MI) (g : MG) (b : MSt) : MSt := fun n s h => match fi n s h with
  | some (src, h1) => floop src g b n n 0 s h1
  | none => none
theorem ms_for {X : Cx} {tg iter : Expr} {body : List Stmt} {fi : MI} {g : MG} {fb : MSt} {pos : Pos} (hp : PassesOwn (model X.prog X.w) X.A X.env X.xe) (hc : X.calm = true) (hi : PI X tg iter (tMI X.K fi)) (hg : PG X tg (tMG X.K g)) (hb : PSs X body (tMS X.K fb))
    (hs : ∀ x, foldedSetIterable iter X.env x = pure x := by intro _; rfl) : PS X (.For tg iter body [] pos) (tMS X.K (mFor fi g fb)) :=
  imp_ps (ps_for hp hc hi hg hb hs) fun D σ0 H0 ⟨n, s0, h0, m0, fl, s', h', I0, e0, k⟩ => by
    unfold mFor at e0
    split at e0
    · next src h1 e1 =>
      refine ⟨n, s0, h0, m0, src, h1, I0, e1, fun m1 H1 J L1 S1 O1 => ?_⟩
      refine ⟨fun i j σ H => ∃ s h m, Le X.K m1 m H1 H ∧ In X.K m s h σ H ∧ floop src g fb n j i s h = some (fl, s', h'), ⟨n, s0, h1, m1, Le.refl, I0.le L1 S1, e0⟩, fun i j σ H ⟨s, h, m, L, I, e⟩ => ?_⟩
      cases j with
      | zero => simp [floop] at e
      | succ j =>
        unfold floop at e
        obtain ⟨o1, o2⟩ := O1 m H h L I.sm i
        split at e
        · cases e
        · next eg =>
          cases e
          exact .inl ⟨o1 eg, k m H σ (L1.trans L) I⟩
        · next w eg =>
          obtain ⟨go, yl⟩ := o2 w eg
          refine .inr ⟨go, fun σ2 H2 => ∃ s2 h2 m2, Le X.K m1 m2 H1 H2 ∧ In X.K m2 s2 h2 σ2 H2 ∧ floop src g fb n j (i + 1) s2 h2 = some (fl, s', h'), fun σ2 H2 q => ⟨j, Nat.lt_succ_self j, q⟩, fun x H2 y => ?_⟩
          obtain ⟨L2, S2, R2⟩ := yl x H2 y
          have I2 := I.le L2 S2
          split at e
          · cases e
          · next s1 h1' e2 =>
            refine ⟨n, w, s, h, m, s1, h1', I2, R2, e2, fun m3 H3 σ3 L3 I3 => ?_⟩
            split at e
            · next s2 h2 e3 => exact ⟨n, s1, h1', m3, .nx, s2, h2, I3, e3, fun m4 H4 σ4 L4 I4 => ⟨s2, h2, m4, L.trans (L2.trans (L3.trans L4)), I4, e⟩⟩
            · next s2 h2 e3 => exact ⟨n, s1, h1', m3, .ct, s2, h2, I3, e3, fun m4 H4 σ4 L4 I4 => ⟨s2, h2, m4, L.trans (L2.trans (L3.trans L4)), I4, e⟩⟩
            · next s2 h2 e3 =>
              cases e
              exact ⟨n, s1, h1', m3, .bk, s', h', I3, e3, fun m4 H4 σ4 L4 I4 => k m4 H4 σ4 (L1.trans (L.trans (L2.trans (L3.trans L4)))) I4⟩
            · next r n1 n2 n3 =>
              refine ⟨n, s1, h1', m3, fl, s', h', I3, e, fun m4 H4 σ4 L4 I4 => ?_⟩
              have q := k m4 H4 σ4 (L1.trans (L.trans (L2.trans (L3.trans L4)))) I4
              cases fl with
              | nx => exact absurd e (n1 _ _)
              | ct => exact absurd e (n2 _ _)
              | bk => exact absurd e (n3 _ _)
              | rt w => exact q
    · cases e0

/-! ### list comprehensions -/
/-- y is put behind the list at a number -/
def pushAt (h : MH) (d : Nat) (y : W) : Option MH := match h[d]? with
  | some (.lst acc) => if acc.length < 16777216 then some (h.set d (.lst (acc ++ [y]))) else none
  | _ => none
def lcloop (src : Src) (p : Pat) (t : MT) (f : M) (n d : Nat) (s0 : MS) : Nat → Nat → MH → Option (W × MH)
  | 0, _, _ => none
  | k + 1, i, h => match src.get h i with
    | none => none
    | some none => some (.ref d, h)
    | some (some w) => match mPat p w s0 with
      | none => none
      | some s1 => match t n s1 h with
        | none => none
        | some (false, h1) => lcloop src p t f n d s0 k (i + 1) h1
        | some (true, h1) => match f n s1 h1 with
          | none => none
          | some (y, h2) => match pushAt h2 d y with
            | none => none
            | some h3 => lcloop src p t f n d s0 k (i + 1) h3
def mLc (fi : MI) (p : Pat) (t : MT) (f : M) (vs : List Nat) : M := fun n s h => match fi n s h with
  | some (src, h1) => lcloop src p t f n h1.length (mwipe s vs) n 0 (h1 ++ [.lst []])
  | none => none
theorem run_lc {K : PySem.W.Frag} {fi : MI} {p : Pat} {t : MT} {f : M} {vs : List Nat} {σ0 H0 Q} (hv : ∀ i ∈ pvars p, i ∈ vs) (q : tM K (mLc fi p t f vs) σ0 H0 Q) : tLc (tMI K fi) (gPat K p) (tMT K t) (tM K f) vs σ0 H0 Q := by
  obtain ⟨n, s0, h0, m0, w, h', I0, e0, k⟩ := q
  unfold mLc at e0
  split at e0
  · next src h1 e1 =>
    refine ⟨n, s0, h0, m0, src, h1, I0, e1, fun m1 H1 J L1 S1 O1 => fun D hD => ?_⟩
    have LD : Le K m1 (m1 ++ [D]) H1 (upd H1 D (.lst [])) := Le.newC hD
    have SD : Sm K (m1 ++ [D]) (h1 ++ [.lst []]) (upd H1 D (.lst [])) := S1.newC hD ⟨[], upd_same, rfl⟩
    have hd : (m1 ++ [D])[h1.length]? = some D := by rw [← S1.len]; simp
    refine ⟨fun i j H => ∃ h m, Le K (m1 ++ [D]) m (upd H1 D (.lst [])) H ∧ Sm K m h H ∧ lcloop src p t f n h1.length (mwipe s0 vs) j i h = some (w, h'), ⟨n, h1 ++ [.lst []], m1 ++ [D], Le.refl, SD, e0⟩, fun i j H ⟨h, m, L, S, e⟩ => ?_⟩
    have Iw : In K m (mwipe s0 vs) h (wipe σ0 vs) H := ⟨S, (((I0.rs.mono L1).mono LD).mono L).wipe vs, by rw [mwipe_length, wipe_length]; exact I0.len⟩
    cases j with
    | zero => simp [lcloop] at e
    | succ j =>
      unfold lcloop at e
      obtain ⟨o1, o2⟩ := O1 m H h (LD.trans L) S i
      split at e
      · cases e
      · next eg =>
        cases e
        exact .inl ⟨o1 eg, k m H (.ref D) (L1.trans (LD.trans L)) S ⟨D, L.pre _ _ hd, rfl⟩⟩
      · next x eg =>
        obtain ⟨go, yl⟩ := o2 x eg
        refine .inr ⟨go, fun H2 => ∃ h2 m2, Le K (m1 ++ [D]) m2 (upd H1 D (.lst [])) H2 ∧ Sm K m2 h2 H2 ∧ lcloop src p t f n h1.length (mwipe s0 vs) j (i + 1) h2 = some (w, h'), fun H2 q => ⟨j, Nat.lt_succ_self j, q⟩, fun u H2 y => ?_⟩
        obtain ⟨L2, S2, R2⟩ := yl u H2 y
        have I2 := Iw.le L2 S2
        split at e
        · cases e
        · next s1 e2 =>
          refine gPat_run p x u _ s1 _ _ I2 R2 e2 fun σ3 I3 w3 => ⟨?_, ?_⟩
          · rw [w3 vs hv]
            -- wiped twice is wiped once
            exact wipe_wipe σ0 vs
          · split at e
            · cases e
            · next h3 e3 =>
              refine ⟨n, s1, h, m, false, h3, I3, e3, fun m4 H4 L4 S4 => ?_⟩
              exact iteF ⟨h3, m4, L.trans (L2.trans L4), S4, e⟩
            · next h3 e3 =>
              refine ⟨n, s1, h, m, true, h3, I3, e3, fun m4 H4 L4 S4 => iteT ?_⟩
              split at e
              · cases e
              · next y4 h4 e4 =>
                refine ⟨n, s1, h3, m4, y4, h4, I3.le L4 S4, e4, fun m5 H5 v5 L5 S5 R5 => ?_⟩
                split at e
                · cases e
                · next h5 e5 =>
                  unfold pushAt at e5
                  split at e5
                  · next acc ea =>
                    split at e5
                    · next hz =>
                      cases e5
                      have hm : m5[h1.length]? = some D := L5.pre _ _ (L4.pre _ _ (L2.pre _ _ (L.pre _ _ hd)))
                      obtain ⟨vs5, q5, r5⟩ := S5.cell _ D _ hm ea
                      refine ⟨vs5, q5, by rw [r5.length, sizeLine_eq]; exact hz, ?_⟩
                      have L6 : Le K m5 m5 H5 (upd H5 D (.lst (vs5 ++ [v5]))) := Le.upd q5 trivial
                      refine ⟨_, m5, L.trans (L2.trans (L4.trans (L5.trans L6))), S5.upd hm ea rfl (show CellOk K m5 _ (.lst (acc ++ [y4])) D from ⟨vs5 ++ [v5], upd_same, (Reps.mono L6 _ _ r5).append (Reps.one (Rep.mono L6 _ _ R5))⟩) rfl, e⟩
                    · cases e5
                  · cases e5
  · cases e0
def mYes : MT := fun _ _ h => some (true, h)
theorem mts_nil {X : Cx} : PTs X [] (tMT X.K mYes) := ⟨fun pins s σ H Q I q => pts_nil.run pins s σ H Q I (by
  obtain ⟨n, s, h, m, w, h', I, e, k⟩ := q
  cases e
  exact k m H Le.refl I.sm)⟩
theorem mts_one {X : Cx} {c : Expr} {t : MT} (h : PT X c (tMT X.K t)) : PTs X [c] (tMT X.K t) := pts_one h
section
variable {X : Cx}
theorem m_lc {elt tg iter : Expr} {ifs : List Expr} {scope : Scope} {own : List (Str × Nat)} {pos : Pos} {fi : MI} {p : Pat} {t : MT} {f : M} (hc : X.calm = true) (hN : X.N.Nodup) (hi : PI X tg iter (tMI X.K fi)) (ok : BlkOk X.N X.env.scope scope own)
    (hg : ∀ (s : Shared) (H : Hp) (C : Addr) (cl : List (Str × Addr)) (fp : List Addr), PG (X.blk s H scope (compEnvC scope cl C X.env) fp) tg (gPat X.K p)) (ht : ∀ (s : Shared) (H : Hp) (C : Addr) (cl : List (Str × Addr)) (fp : List Addr), PTs (X.blk s H scope (compEnvC scope cl C X.env) fp) ifs (tMT X.K t))
    (he : ∀ (s : Shared) (H : Hp) (C : Addr) (cl : List (Str × Addr)) (fp : List Addr), PE (X.blk s H scope (compEnvC scope cl C X.env) fp) elt (tM X.K f)) (hv : ∀ i ∈ pvars p, i ∈ own.map (·.2)) (hs : ∀ x, foldedSetIterable iter X.env x = pure x := by intro _; rfl) :
    PE X (.ListComp elt [⟨tg, iter, ifs, 0⟩] scope pos) (tM X.K (mLc fi p t f (own.map (·.2)))) := imp_pe (pe_lc hc hN hi ok hg ht he hs) fun σ H Q q => run_lc hv q
theorem ms_setLc {y : Str} {py : Pos} {elt tg iter : Expr} {ifs : List Expr} {scope : Scope} {own : List (Str × Nat)} {pos spos : Pos} {fi : MI} {p : Pat} {t : MT} {f : M} (i : Nat) (hc : X.calm = true) (hN : X.N.Nodup) (hy : X.N[i]? = some y) (hyl : X.env.scope.names.lookup y = some .local)
    (hsw : swapsWith (.ListComp elt [⟨tg, iter, ifs, 0⟩] scope pos) (some (.Name y py)) spos.line X.env = pure true) (hi : PI X tg iter (tMI X.K fi)) (ok : BlkOk X.N X.env.scope scope own)
    (hg : ∀ (s : Shared) (H : Hp) (C : Addr) (cl : List (Str × Addr)) (fp : List Addr), PG (X.blk s H scope (compEnvC scope cl C X.env) fp) tg (gPat X.K p)) (ht : ∀ (s : Shared) (H : Hp) (C : Addr) (cl : List (Str × Addr)) (fp : List Addr), PTs (X.blk s H scope (compEnvC scope cl C X.env) fp) ifs (tMT X.K t))
    (he : ∀ (s : Shared) (H : Hp) (C : Addr) (cl : List (Str × Addr)) (fp : List Addr), PE (X.blk s H scope (compEnvC scope cl C X.env) fp) elt (tM X.K f)) (hv : ∀ i ∈ pvars p, i ∈ own.map (·.2)) (hs : ∀ x, foldedSetIterable iter X.env x = pure x := by intro _; rfl) :
    PS X (.Assign [.Name y py] (.ListComp elt [⟨tg, iter, ifs, 0⟩] scope pos) spos) (tMS X.K (mSet i (mLc fi p t f (own.map (·.2))))) := imp_ps (ps_setLc hc hN hy hyl hsw hi ok hg ht he hs) fun D σ H q => by
  obtain ⟨n, s, h, m, fl, s', h', I, e, k⟩ := q
  obtain ⟨x, h1, e1, e⟩ := thenS_some e
  cases e
  exact run_lc hv ⟨n, s, h, m, x, h', I, e1, fun m1 H1 v L1 S1 R1 => by
    have I1 := I.le L1 S1
    exact k m1 H1 _ L1 ⟨I1.sm, I1.rs.set I1.len R1, by rw [List.length_set, List.length_set]; exact I1.len⟩⟩
end

/-! ### defs and their calls -/
abbrev MF := Nat → List W → MH → Option (W × MH)
def spM (K : PySem.W.Frag) (ar : Nat) (F : MF) : Sp := fun vs H Q _ => vs.length = ar ∧ ∃ n h m ws w h', Sm K m h H ∧ Reps K m H ws vs ∧ F n ws h = some (w, h') ∧
  ∀ m' H' v, Le K m m' H H' → Sm K m' h' H' → Rep K m' H' w v → Q v H'
def mDef (N : Nat) (B : MSt) : MF := fun n ws h => match B n (ws.map some ++ List.replicate (N - ws.length) none) h with
  | some (.rt w, _, h') => some (w, h')
  | some (.nx, _, h') => some (.non, h')
  | _ => none
theorem rs_start {K m H} {N : List Str} {ws : List W} {vs : List V} (R : Reps K m H ws vs) : RS K m H (ws.map some ++ List.replicate (N.length - ws.length) none) (L2.start N vs) := fun i w e => by
  by_cases hi : i < ws.length
  · rw [List.getElem?_append_left (by simpa using hi), List.getElem?_map] at e
    cases q : ws[i]? with
    | none => rw [q] at e; cases e
    | some x =>
      rw [q] at e; cases e
      obtain ⟨v, ev, r⟩ := R.get q
      refine ⟨v, ?_, r⟩
      have hv : i < vs.length := by rw [R.length]; exact hi
      unfold L2.start
      rw [List.getElem?_append_left (by simpa using hv), List.getElem?_map, ev]; rfl
  · rw [List.getElem?_append_right (by simpa using hi), List.getElem?_replicate] at e
    split at e <;> cases e
section
variable {P : Program} {w : World} {K : PySem.W.Frag} {mg : Str → Option Value} {base : Heap}
theorem def_ok {x qual : Str} {st : Stmt} {f : Addr} {fd : FuncData} {N ps : List Str} {k : Nat} {B : MSt} (F : Fun K x qual st f fd) (S : FnScope N ps (defScope st))
    (hb : ∀ (cdv : Value) (A : Around) (outer : List Env) (s : Shared) (H : Hp) (E : XK), Room k (A.deeper (envOfC qual (defScope st) s.heap.objs.size f cdv)) → PSs (cxOf CX0 P w K mg base N qual (defScope st) f cdv A outer s H E).nox (defBody st) (tMS K B)) :
    FnOk P w K mg base CX0 (k + 1) f fd ps (spM K ps.length (mDef N.length B)) := by
  refine F.ok S (fun vs H Q E h => h.1) fun cdv A outer s H vs Q E hr h => ⟨_, hb cdv A outer s H E hr, ?_⟩
  obtain ⟨hl, n, hh, m, ws, r, h', Sm0, R, e, q⟩ := h
  have hle : (L2.start N vs).length = (ws.map some ++ List.replicate (N.length - ws.length) (none : Option W)).length := by
    unfold L2.start
    simp [R.length]
  unfold mDef at e
  split at e
  · next r' s' h'' e1 =>
    cases e
    exact ⟨n, _, hh, m, .rt r, s', h', ⟨Sm0, rs_start R, hle.symm⟩, e1, fun m1 H1 σ1 L1 I1 v R1 => q m1 H1 v L1 I1.sm R1⟩
  · next s' h'' e1 =>
    cases e
    exact ⟨n, _, hh, m, .nx, s', h', ⟨Sm0, rs_start R, hle.symm⟩, e1, fun m1 H1 σ1 L1 I1 => q m1 H1 .non L1 I1.sm rfl⟩
  · cases e
/-- a def of which nothing is known -/
theorem def_zero {f : Addr} {fd : FuncData} {ps : List Str} {k : Nat} : FnOk P w K mg base CX0 k f fd ps (spM K ps.length fun _ _ _ => none) :=
  ⟨fun vs H Q E h => h.1, fun A outer s H args us vs Q E hr he hb hv hs => by
    obtain ⟨_, n, hh, m, ws, r, h', _, _, e, _⟩ := hs
    cases e⟩
end
def mCall (F : MF) (fr : MA) : M := fun n s h => andThen (fr n s h) fun ws h1 => F n ws h1
section
variable {X : Cx} {k : Nat} {f : Addr} {fd : FuncData} {ps : List Str} {F : MF} {x : Str} {p pos : Pos} {e : Expr} {es : List Expr} {fr : MA}
theorem run_call {ar : Nat} {σ H Q} (q : tM X.K (mCall F fr) σ H Q) (hl : ∀ n s h ws h1, fr n s h = some (ws, h1) → ws.length = ar) : tCall (spM X.K ar F) [] E0 (tMA X.K fr) σ H Q := by
  obtain ⟨n, s, h, m, w, h', I, e, k⟩ := q
  obtain ⟨ws, h1, e1, e⟩ := andThen_some e
  refine ⟨n, s, h, m, ws, h1, I, e1, fun m1 H1 vs L1 S1 R1 => ?_⟩
  show spM X.K ar F (vs ++ []) H1 Q E0
  rw [List.append_nil]
  exact ⟨by rw [R1.length]; exact hl _ _ _ _ _ e1, n, h1, m1, ws, w, h', S1, R1, e, fun m2 H2 v L2 S2 R2 => k m2 H2 v (L1.trans L2) S2 R2⟩
/-- how many arguments a row of them has -/
inductive ArN : MA → Nat → Prop
  | nil : ArN mNil 0
  | cons {f : M} {fr : MA} {k : Nat} : ArN fr k → ArN (mCons f fr) (k + 1)
theorem ArN.len : ∀ {fr : MA} {k : Nat}, ArN fr k → ∀ n s h ws h1, fr n s h = some (ws, h1) → ws.length = k := fun {fr k} a => by
  induction a with
  | nil => intro n s h ws h1 e; cases e; rfl
  | cons a ih =>
    intro n s h ws h1 e
    obtain ⟨x, h2, e1, e⟩ := andThen_some e
    obtain ⟨xs, h3, e2, e⟩ := andThen_some e
    cases e
    simp [ih _ _ _ _ _ e2]
theorem m_call (G : FnOk X.prog X.w X.K X.mg X.base CX0 k f fd ps (spM X.K ps.length F)) (hr : Room k X.A) (hg : Gl X x) (hm : X.mg x = some (.ref f)) (hk : PySem.W.keepIn X.K (.ref f) = true) (hb : Binds X.K fd ps [])
    (ha : PA X (e :: es) (tMA X.K fr)) (hl : ArN fr ps.length) (hdb : (x == ("__debug__" : Str)) = false := by decide) (he : starEach (e :: es) X.env = (false, eval e X.env) :: starEach es X.env := by rfl) (hpl : (backTo pos (starEach (e :: es) X.env)).any (·.1) = false := by rfl) (hpl' : (backTo pos (starEach es X.env)).any (·.1) = false := by rfl) :
    PE X (.Call (.Name x p) (e :: es) [] pos) (tM X.K (mCall F fr)) := imp_pe (pe_call G hr hg hm hk hb .nil pass0 ha hdb he hpl') fun σ H Q q => run_call q hl.len
theorem m_call0 (G : FnOk X.prog X.w X.K X.mg X.base CX0 k f fd ps (spM X.K ps.length F)) (hr : Room k X.A) (hg : Gl X x) (hm : X.mg x = some (.ref f)) (hk : PySem.W.keepIn X.K (.ref f) = true) (hb : Binds X.K fd ps []) (h0 : ps.length = 0) (hdb : (x == ("__debug__" : Str)) = false := by decide) :
    PE X (.Call (.Name x p) [] [] pos) (tM X.K (mCall F mNil)) := imp_pe (pe_call0 G hr hg hm hk hb .nil pass0 hdb) fun σ H Q q => by
  have := run_call (ar := 0) q (by intro n s h ws h1 e; cases e; rfl)
  rw [h0]
  obtain ⟨n, s, h, m, ws, h1, I, e1, k⟩ := this
  cases e1
  exact k m H [] Le.refl I.sm rfl
end
end Mi

/-! Mi: operators, built-in functions and methods, by values. -/
namespace Mi
open PySem PySem.Spec PyProof.Rows L2
section
variable {K : PySem.W.Frag}
theorem imp2_or1 {g : G2} {r r' : R2} (h : Imp2 K g r) : Imp2 K g fun x y H Q => r x y H Q ∨ r' x y H Q := fun m h0 H x y vx vy w h' S R1 R2 e Q q => .inl (h m h0 H x y vx vy w h' S R1 R2 e Q q)

/-! ### integers -/
def gInt (C : Int → Int → Bool) (f : Int → Int → W) : G2 := fun x y h => match x, y with
  | .int i, .int j => if C i j = true then some (f i j, h) else none
  | _, _ => none
theorem imp_int {C : Int → Int → Bool} {P : Int → Int → Prop} {f : Int → Int → W} (hC : ∀ i j, C i j = true → P i j) (hf : ∀ i j, flatW (f i j) = true) : Imp2 K (gInt C f) (rI P fun i j => flV (f i j)) := by
  intro m h H x y vx vy w h' S R1 R2 e Q q
  cases x <;> cases y <;> try (simp [gInt] at e; done)
  next i j =>
    unfold gInt at e
    simp only at e
    split at e
    · next c =>
      cases e
      exact ⟨i, j, R1, R2, hC i j c, q m H _ Le.refl S (Rep.ofFlat (hf i j))⟩
    · cases e
def yes2 : Int → Int → Bool := fun _ _ => true
def gI0 (f : Int → Int → W) : G2 := fun x y h => match x, y with
  | .int i, .int j => some (f i j, h)
  | _, _ => none
theorem imp_int0 {f : Int → Int → W} {g : Int → Int → V} (hf : ∀ i j, flatW (f i j) = true ∧ flV (f i j) = g i j) : Imp2 K (gI0 f) (rI0 g) := by
  intro m h H x y vx vy w h' S R1 R2 e Q q
  cases x <;> cases y <;> try (simp [gI0] at e; done)
  next i j =>
    simp [gI0] at e
    obtain ⟨e1, e2⟩ := e
    subst e1; subst e2
    refine ⟨i, j, R1, R2, ?_⟩
    rw [← (hf i j).2]
    exact q m H _ Le.refl S (Rep.ofFlat (hf i j).1)
def gSub : G2 := gI0 fun i j => .int (i - j)
def gLt : G2 := gI0 fun i j => .bl (decide (i < j))
def gLe : G2 := gI0 fun i j => .bl (decide (i ≤ j))
def gGt : G2 := gI0 fun i j => .bl (decide (j < i))
def gGe : G2 := gI0 fun i j => .bl (decide (j ≤ i))
theorem i_sub : Imp2 K gSub (rI0 fun i j => .int (i - j)) := imp_int0 fun _ _ => ⟨rfl, rfl⟩
theorem i_lt : Imp2 K gLt (rI0 fun i j => .bl (decide (i < j))) := imp_int0 fun _ _ => ⟨rfl, rfl⟩
theorem i_le : Imp2 K gLe (rI0 fun i j => .bl (decide (i ≤ j))) := imp_int0 fun _ _ => ⟨rfl, rfl⟩
theorem i_gt : Imp2 K gGt (rI0 fun i j => .bl (decide (j < i))) := imp_int0 fun _ _ => ⟨rfl, rfl⟩
theorem i_ge : Imp2 K gGe (rI0 fun i j => .bl (decide (j ≤ i))) := imp_int0 fun _ _ => ⟨rfl, rfl⟩
def cMul (i j : Int) : Bool := (decide (-(2 ^ 64) < i) && decide (i < 2 ^ 64)) || (decide (-(2 ^ 64) < j) && decide (j < 2 ^ 64))
def gFdiv : G2 := gInt (fun _ j => decide (0 < j) && decide (j < 1073741824)) fun i j => .int (i / j)
def gMod : G2 := gInt (fun _ j => decide (0 < j)) fun i j => .int (i % j)
def gPow : G2 := gInt (fun i j => decide (0 ≤ j) && decide (j ≤ 1000000) && decide (i.natAbs < 2 ^ 64)) fun i j => .int (i ^ j.toNat)
theorem i_fdiv : Imp2 K gFdiv (rI CDiv fun i j => .int (i / j)) := imp_int (fun i j c => by simpa [CDiv] using c) fun _ _ => rfl
theorem i_mod : Imp2 K gMod (rI (fun _ j => 0 < j) fun i j => .int (i % j)) := imp_int (fun i j c => by simpa using c) fun _ _ => rfl
theorem i_pow : Imp2 K gPow (rI CPow fun i j => .int (i ^ j.toNat)) := imp_int (fun i j c => by
  simp only [Bool.and_eq_true, decide_eq_true_eq] at c
  exact ⟨c.1.1, c.1.2, c.2⟩) fun _ _ => rfl
def gNeg : G1 := fun x h => match x with
  | .int i => some (.int (-i), h)
  | _ => none
theorem i_neg : Imp1 K gNeg (rU fun i => .int (-i)) := by
  intro m h H x vx w h' S R e Q q
  cases x <;> try (simp [gNeg] at e; done)
  next i =>
    simp [gNeg] at e
    obtain ⟨e1, e2⟩ := e
    subst e1; subst e2
    exact ⟨i, R, q m H _ Le.refl S rfl⟩

/-! ### + -/
def lstM (h : MH) (n : Nat) : Option (List W) := match h[n]? with
  | some (.lst xs) => some xs
  | _ => none
theorem lstM_some {h : MH} {n : Nat} {xs : List W} (e : lstM h n = some xs) : h[n]? = some (.lst xs) := by
  unfold lstM at e
  split at e
  · next q => cases e; exact q
  · cases e
theorem Sm.lst {m h H n xs vx} (S : Sm K m h H) (e : lstM h n = some xs) (R : Rep K m H (.ref n) vx) : ∃ a vs, vx = .ref a ∧ m[n]? = some a ∧ H a = some (.lst vs) ∧ Reps K m H xs vs := by
  obtain ⟨a, ea, ev⟩ := R
  obtain ⟨vs, q, r⟩ := S.cell n a _ ea (lstM_some e)
  exact ⟨a, vs, ev, ea, q, r⟩
theorem Sm.lsAt {m h H n xs vx} (S : Sm K m h H) (e : lstAt h n = some xs) (R : Rep K m H (.ref n) vx) : ∃ a vs, vx = .ref a ∧ m[n]? = some a ∧ SqL K H a vs ∧ Reps K m H xs vs := by
  obtain ⟨a, ea, ev⟩ := R
  unfold lstAt at e
  split at e
  · next ys q =>
    cases e
    obtain ⟨vs, q2, r⟩ := S.cell n a _ ea q
    exact ⟨a, vs, ev, ea, .inl (.inl q2), r⟩
  · next ys q =>
    cases e
    obtain ⟨vs, q2, r⟩ := S.cell n a _ ea q
    exact ⟨a, vs, ev, ea, q2.sql, r⟩
  · cases e
def gAdd : G2 := fun x y h => match x, y with
  | .int i, .int j => some (.int (i + j), h)
  | .str a, .str b => if szOk (a.length + b.length) = true then some (.str (a ++ b), h) else none
  | .ref a, .ref b => match lstM h a, lstM h b with
    | some xs, some ys => newL (xs ++ ys) h
    | _, _ => none
  | .tup xs, .tup ys => if szOk (xs.length + ys.length) = true then some (.tup (xs ++ ys), h) else none
  | _, _ => none
def rAdd4 (K : PySem.W.Frag) : R2 := fun x y H Q => (((rI0 (fun i j => .int (i + j))) x y H Q ∨ (∃ i j, x = V.str i ∧ y = V.str j ∧ i.length + j.length ≤ sizeLine ∧ Q (V.str (i ++ j)) H)) ∨ rCat x y H Q) ∨ rCatA K x y H Q
theorem op_add4 {X : Cx} : OpR X (binaryOp .Add) (rAdd4 X.K) := ((op_add.or op_add_str).or op_cat).or op_catA
theorem i_add : Imp2 K gAdd (rAdd4 K) := by
  intro m h H x y vx vy w h' S R1 R2 e Q q
  unfold gAdd at e
  split at e
  · cases e
    exact .inl (.inl (.inl ⟨_, _, R1, R2, q m H _ Le.refl S rfl⟩))
  · split at e
    · next hz =>
      cases e
      exact .inl (.inl (.inr ⟨_, _, R1, R2, szOk_le hz, q m H _ Le.refl S rfl⟩))
    · cases e
  · split at e
    · next xs ys e1 e2 =>
      obtain ⟨a1, vs1, rfl, _, h1, r1⟩ := S.lst e1 R1
      obtain ⟨a2, vs2, rfl, _, h2, r2⟩ := S.lst e2 R2
      refine .inl (.inr ⟨a1, a2, vs1, vs2, rfl, rfl, h1, h2, ?_, fun p hp => ?_⟩)
      · have := newL_sz e
        rw [List.length_append] at this
        rw [r1.length, r2.length]; exact this
      · obtain ⟨l, S2, r⟩ := newL_ok S (r1.append r2) e hp
        exact q _ _ _ l S2 r
    · cases e
  · split at e
    · next hz =>
      cases e
      obtain ⟨a1, vs1, rfl, t1, r1⟩ := R1
      obtain ⟨a2, vs2, rfl, t2, r2⟩ := R2
      refine .inr ⟨a1, a2, vs1, vs2, rfl, rfl, t1, t2, by rw [r1.length, r2.length]; exact szOk_le hz, fun z => ?_, fun z1 z2 => ?_, fun z1 z2 p hp => ?_⟩
      · subst z
        have : (_ : List W) = [] := List.length_eq_zero_iff.mp (by rw [← r1.length]; rfl)
        subst this
        exact q m H _ Le.refl S ⟨a2, vs2, rfl, t2, r2⟩
      · subst z2
        have : (_ : List W) = [] := List.length_eq_zero_iff.mp (by rw [← r2.length]; rfl)
        subst this
        rw [List.append_nil] at q
        exact q m H _ Le.refl S ⟨a1, vs1, rfl, t1, r1⟩
      · exact q m _ _ (Le.newT hp) (S.newT hp) ⟨p, _, rfl, .inl (.inl upd_same), Reps.mono (Le.newT hp) _ _ (r1.append r2)⟩
    · cases e
  · cases e

/-! ### * -/
def repS (x : Str) (n : Int) : Str := if n < 1 then Str.empty else if (n == 1 || x.length == 0) = true then x else ⟨(List.replicate n.toNat x.cps).foldl (· ++ ·) #[]⟩
/-- t * n, a short text a few times -/
theorem op_repS {X : Cx} : OpR X (binaryOp .Mult) (fun x y H Q => ∃ z n, x = .str z ∧ y = .int n ∧ z.length ≤ 1000 ∧ -1000 ≤ n ∧ n ≤ 1000 ∧ Q (.str (repS z n)) H) := by
  intro pins s σ H x y v u Q I rx ry h
  obtain ⟨z, n, rfl, rfl, hz, h1, h2, q⟩ := h
  obtain ⟨t, rfl⟩ := rx
  obtain ⟨t', rfl⟩ := ry
  have hs : sizeLine = 16777216 := sizeLine_eq
  have hprod : z.length * n.toNat ≤ 1000 * 1000 := Nat.mul_le_mul hz (by omega)
  refine PySem.P.mul_str ?_ (fun a b => ?_) (fun a b => ?_) ?_
  · have a1 : ¬ n < -(2 ^ 63 : Int) := by omega
    have a2 : ¬ n ≥ 2 ^ 63 := by omega
    rw [decide_eq_false a1, decide_eq_false a2]; rfl
  · intro c
    have hn : (0 : Int) < n := by omega
    have : (z.length : Int) * n ≤ 1000 * 1000 := by
      calc (z.length : Int) * n ≤ 1000 * n := Int.mul_le_mul_of_nonneg_right (by omega) (by omega)
        _ ≤ 1000 * 1000 := by omega
    have c2 : (2 ^ 63 - 1) / n < (z.length : Int) := c
    have c3 := Int.ediv_lt_iff_lt_mul hn |>.mp c2
    omega
  · unfold Builtin.Str.tooLong
    exact decide_eq_false (by omega)
  · unfold repS at q
    by_cases c : n < 1
    · rw [if_pos c] at q ⊢
      exact ⟨by decide, .str _, H, I.tok _, ⟨_, rfl⟩, q⟩
    · rw [if_neg c] at q ⊢
      by_cases d : (n == 1 || z.length == 0) = true
      · rw [if_pos d] at q ⊢
        exact ⟨.str _, H, I, ⟨_, rfl⟩, q⟩
      · rw [if_neg d] at q ⊢
        refine ⟨?_, .str _, H, I.tok _, ⟨_, rfl⟩, q⟩
        exact fits_reps (by unfold Builtin.Str.tooLong; exact decide_eq_false (by omega))
end
end Mi

/-! Mi: comparisons, subscripts, slices, built-in functions, methods. -/
namespace Mi
open PySem PySem.Spec PyProof.Rows L2
section
variable {K : PySem.W.Frag}
def gMul : G2 := fun x y h => match x, y with
  | .int i, .int j => if cMul i j = true then some (.int (i * j), h) else none
  | .str z, .int n => if (decide (z.length ≤ 1000) && decide (-1000 ≤ n) && decide (n ≤ 1000)) = true then some (.str (repS z n), h) else none
  | .ref a, .int k => match lstM h a with
    | some xs => if (decide (-1000 ≤ k) && decide (k ≤ 1000) && szOk (xs.length * k.toNat)) = true then newL (List.replicate k.toNat xs).flatten h else none
    | none => none
  | _, _ => none
def rMul3 : R2 := fun x y H Q => (rI CMul (fun i j => .int (i * j)) x y H Q ∨ (∃ z n, x = .str z ∧ y = .int n ∧ z.length ≤ 1000 ∧ -1000 ≤ n ∧ n ≤ 1000 ∧ Q (.str (repS z n)) H)) ∨ rRep x y H Q
theorem op_mul3 {X : Cx} : OpR X (binaryOp .Mult) rMul3 := (op_mul.or op_repS).or op_rep
theorem cMul_ok {i j : Int} (c : cMul i j = true) : CMul i j := by
  unfold cMul at c
  simp only [Bool.or_eq_true, Bool.and_eq_true, decide_eq_true_eq] at c
  exact c
theorem Reps.replicate {m H xs vs} (r : Reps K m H xs vs) : ∀ k : Nat, Reps K m H (List.replicate k xs).flatten (List.replicate k vs).flatten
  | 0 => rfl
  | k + 1 => by
    rw [List.replicate_succ, List.replicate_succ, List.flatten_cons, List.flatten_cons]
    exact r.append (Reps.replicate r k)
theorem i_mul : Imp2 K gMul rMul3 := by
  intro m h H x y vx vy w h' S R1 R2 e Q q
  unfold gMul at e
  split at e
  · split at e
    · next c =>
      cases e
      exact .inl (.inl ⟨_, _, R1, R2, cMul_ok c, q m H _ Le.refl S rfl⟩)
    · cases e
  · split at e
    · next c =>
      cases e
      simp only [Bool.and_eq_true, decide_eq_true_eq] at c
      exact .inl (.inr ⟨_, _, R1, R2, c.1.1, c.1.2, c.2, q m H _ Le.refl S rfl⟩)
    · cases e
  · split at e
    · next xs e1 =>
      split at e
      · next c =>
        simp only [Bool.and_eq_true, decide_eq_true_eq] at c
        obtain ⟨a1, vs1, rfl, _, h1, r1⟩ := S.lst e1 R1
        refine .inr ⟨a1, _, vs1, rfl, R2, h1, by omega, by omega, by rw [r1.length]; exact szOk_le c.2, fun p hp => ?_⟩
        obtain ⟨l, S2, r⟩ := newL_ok S (r1.replicate _) e hp
        exact q _ _ _ l S2 r
      · cases e
    · cases e
  · cases e

/-! ### == and != -/
mutual
/-- a value as data: lists by their numbers, to a depth -/
def toD (h : MH) : Nat → W → Option PyData
  | _, .non => some .none
  | _, .bl b => some (.bool b)
  | _, .int i => some (.int i)
  | _, .str x => some (.str x)
  | 0, _ => none
  | k + 1, .tup xs => (toDs h k xs).map .tuple
  | k + 1, .ref n => match lstAt h n with
    | some xs => (toDs h k xs).map .list
    | none => none
  termination_by k w => (k, sizeOf w)
def toDs (h : MH) : Nat → List W → Option (List PyData)
  | _, [] => some []
  | k, x :: xs => match toD h k x, toDs h k xs with
    | some d, some ds => some (d :: ds)
    | _, _ => none
  termination_by k xs => (k, sizeOf xs)
end
mutual
theorem toD_ok {m h H} (S : Sm K m h H) : ∀ (k : Nat) (x : W) (v : V) (d : PyData), Rep K m H x v → toD h k x = some d → Dp K H v d
  | _, .non, v, d, R, e => by rw [toD] at e; cases e; rw [show v = _ from R]; exact .non
  | _, .bl b, v, d, R, e => by rw [toD] at e; cases e; rw [show v = _ from R]; exact .bl b
  | _, .int i, v, d, R, e => by rw [toD] at e; cases e; rw [show v = _ from R]; exact .int i
  | _, .str x, v, d, R, e => by rw [toD] at e; cases e; rw [show v = _ from R]; exact .str x
  | 0, .tup _, v, d, R, e => by rw [toD] at e; cases e; all_goals simp
  | 0, .ref _, v, d, R, e => by rw [toD] at e; cases e; all_goals simp
  | k + 1, .tup xs, v, d, R, e => by
    rw [toD] at e
    obtain ⟨a, vs, rfl, t, rs⟩ := R
    cases q : toDs h k xs with
    | none => rw [q] at e; cases e
    | some ds =>
      rw [q] at e; cases e
      exact .tup t (toDs_ok S k xs vs ds rs q)
  | k + 1, .ref n, v, d, R, e => by
    rw [toD] at e
    split at e
    · next xs e1 =>
      obtain ⟨a, vs, rfl, _, t, rs⟩ := S.lsAt e1 R
      cases q : toDs h k xs with
      | none => rw [q] at e; cases e
      | some ds =>
        rw [q] at e; cases e
        exact .lst t (toDs_ok S k xs vs ds rs q)
    · cases e
  termination_by k w => (k, sizeOf w)
theorem toDs_ok {m h H} (S : Sm K m h H) : ∀ (k : Nat) (xs : List W) (vs : List V) (ds : List PyData), Reps K m H xs vs → toDs h k xs = some ds → DpAll K H vs ds
  | k, [], vs, ds, R, e => by rw [toDs] at e; cases e; rw [show vs = _ from R]; exact .nil
  | k, x :: xs, vs, ds, R, e => by
    rw [toDs] at e
    obtain ⟨v, r, rfl, R1, R2⟩ := R
    split at e
    · next d ds' e1 e2 =>
      cases e
      exact .cons (toD_ok S k x v d R1 e1) (toDs_ok S k xs r ds' R2 e2)
    · cases e
  termination_by k xs => (k, sizeOf xs)
end
def eqD (x y : W) (h : MH) : Option Bool := match toD h 64 x, toD h 64 y with
  | some d, some e => if (SeqAt.shaped d && SeqAt.shaped e) = true then some (PyData.eqv d e) else none
  | _, _ => none
def eqW (x y : W) (h : MH) : Option Bool := match x, y with
  | .str a, .str b => some (decide (a = b))
  | x, y => eqD x y h
def gEq : G2 := fun x y h => (eqW x y h).map fun b => (.bl b, h)
def gNe : G2 := fun x y h => (eqW x y h).map fun b => (.bl (!b), h)
def rEq2 (K : PySem.W.Frag) : R2 := fun x y H Q => rEq x y H Q ∨ rEqD K x y H Q
def rNe2 (K : PySem.W.Frag) : R2 := fun x y H Q => rNe x y H Q ∨ rNeD K x y H Q
theorem op_eq2 {X : Cx} (hu : X.A.units + 64 < cLine) : OpR X (compareOp .Eq) (rEq2 X.K) := op_eq.or (op_eqD hu)
theorem op_ne2 {X : Cx} (hu : X.A.units + 64 < cLine) : OpR X (compareOp .NotEq) (rNe2 X.K) := op_ne.or (op_neD hu)
theorem eqW_ok {m h H x y vx vy b} (S : Sm K m h H) (R1 : Rep K m H x vx) (R2 : Rep K m H y vy) (e : eqW x y h = some b) :
    (scal vx vy = true ∧ decide (vx = vy) = b) ∨ ∃ d1 d2, Dp K H vx d1 ∧ Dp K H vy d2 ∧ SeqAt.shaped d1 = true ∧ SeqAt.shaped d2 = true ∧ PyData.eqv d1 d2 = b := by
  unfold eqW at e
  split at e
  · next p q =>
    cases e
    rw [show vx = .str p from R1, show vy = .str q from R2]
    refine .inl ⟨rfl, ?_⟩
    by_cases z : p = q
    · subst z; simp
    · rw [decide_eq_false z, decide_eq_false (fun y => z (V.str.inj y))]
  · unfold eqD at e
    split at e
    · next d1 d2 e1 e2 =>
      split at e
      · next c =>
        simp only [Bool.and_eq_true] at c
        cases e
        exact .inr ⟨d1, d2, toD_ok S _ _ _ _ R1 e1, toD_ok S _ _ _ _ R2 e2, c.1, c.2, rfl⟩
      · cases e
    · cases e
theorem i_eq : Imp2 K gEq (rEq2 K) := by
  intro m h H x y vx vy w h' S R1 R2 e Q q
  unfold gEq at e
  cases eb : eqW x y h with
  | none => rw [eb] at e; cases e
  | some b =>
    rw [eb] at e; cases e
    rcases eqW_ok S R1 R2 eb with ⟨a1, a2⟩ | ⟨d1, d2, a1, a2, a3, a4, a5⟩
    · exact .inl ⟨a1, by rw [a2]; exact q m H _ Le.refl S rfl⟩
    · exact .inr ⟨d1, d2, a1, a2, a3, a4, by rw [a5]; exact q m H _ Le.refl S rfl⟩
theorem i_ne : Imp2 K gNe (rNe2 K) := by
  intro m h H x y vx vy w h' S R1 R2 e Q q
  unfold gNe at e
  cases eb : eqW x y h with
  | none => rw [eb] at e; cases e
  | some b =>
    rw [eb] at e; cases e
    rcases eqW_ok S R1 R2 eb with ⟨a1, a2⟩ | ⟨d1, d2, a1, a2, a3, a4, a5⟩
    · exact .inl ⟨a1, by rw [a2]; exact q m H _ Le.refl S rfl⟩
    · exact .inr ⟨d1, d2, a1, a2, a3, a4, by rw [a5]; exact q m H _ Le.refl S rfl⟩

/-! ### in -/
def occurs (i j : Str) : Bool := !(Builtin.Str.occurrences j i 0 j.length 1).isEmpty
def inW (x : W) (xs : List W) : Bool := xs.any fun y => eqV (flV y) (flV x)
theorem inV_flat {x : W} : ∀ {xs : List W}, inV (flV x) (xs.map flV) = inW x xs
  | [] => rfl
  | y :: xs => by
    have := inV_flat (x := x) (xs := xs)
    unfold inV inW at this ⊢
    rw [List.map_cons, List.any_cons, List.any_cons, this]
def seqOf (h : MH) : W → Option (List W)
  | .tup xs => some xs
  | .ref n => lstAt h n
  | _ => none
def hasW (x y : W) (h : MH) : Option Bool := match y with
  | .str j => match x with
    | .str i => some (occurs i j)
    | _ => none
  | y => match seqOf h y with
    | some xs => if (flatW x && xs.all flatW) = true then some (inW x xs) else none
    | none => none
def gIn : G2 := fun x y h => (hasW x y h).map fun b => (.bl b, h)
def gNotIn : G2 := fun x y h => (hasW x y h).map fun b => (.bl (!b), h)
def rIn2 (K : PySem.W.Frag) : R2 := fun x y H Q => (∃ i j, x = V.str i ∧ y = V.str j ∧ Q (.bl (!(Builtin.Str.occurrences j i 0 j.length 1).isEmpty)) H) ∨ rIn K false x y H Q
def rNotIn2 (K : PySem.W.Frag) : R2 := fun x y H Q => (∃ i j, x = V.str i ∧ y = V.str j ∧ Q (.bl (!(!(Builtin.Str.occurrences j i 0 j.length 1).isEmpty))) H) ∨ rIn K true x y H Q
theorem op_in2 {X : Cx} : OpR X (compareOp .In) (rIn2 X.K) := op_in_str.or op_in_seq
theorem op_notin2 {X : Cx} : OpR X (compareOp .NotIn) (rNotIn2 X.K) := op_notin_str.or op_notIn_seq
theorem seqOf_ok {m h H y vy xs} (S : Sm K m h H) (R : Rep K m H y vy) (e : seqOf h y = some xs) : ∃ p vs, vy = .ref p ∧ (SqL K H p vs ∨ SqT K H p vs) ∧ Reps K m H xs vs := by
  cases y <;> try (simp [seqOf] at e; done)
  · simp [seqOf] at e
    subst e
    obtain ⟨a, vs, rfl, t, rs⟩ := R
    exact ⟨a, vs, rfl, .inr t, rs⟩
  · simp [seqOf] at e
    obtain ⟨a, vs, rfl, _, t, rs⟩ := S.lsAt e R
    exact ⟨a, vs, rfl, .inl t, rs⟩
theorem has_ok {m h H x y vx vy b} (S : Sm K m h H) (R1 : Rep K m H x vx) (R2 : Rep K m H y vy) (e : hasW x y h = some b) :
    (∃ i j, vx = V.str i ∧ vy = V.str j ∧ b = occurs i j) ∨ ∃ p xs, vy = .ref p ∧ (SqL K H p xs ∨ SqT K H p xs) ∧ flatV vx = true ∧ xs.all flatV = true ∧ b = inV vx xs := by
  unfold hasW at e
  split at e
  · split at e
    · cases e
      exact .inl ⟨_, _, R1, R2, rfl⟩
    · cases e
  · split at e
    · next xs e1 =>
      split at e
      · next c =>
        simp only [Bool.and_eq_true] at c
        cases e
        obtain ⟨p, vs, rfl, t, rs⟩ := seqOf_ok S R2 e1
        have f : ∀ w : W, flatW w = true → flatV (flV w) = true := fun w hw => by
          cases w <;> first | rfl | cases hw
        have ev := rs.flat c.2
        refine .inr ⟨p, vs, rfl, t, ?_, ?_, ?_⟩
        · rw [R1.flat c.1]; exact f _ c.1
        · rw [ev, List.all_map, List.all_eq_true]
          exact fun w hw => f w (List.all_eq_true.mp c.2 w hw)
        · rw [ev, R1.flat c.1, inV_flat]
      · cases e
    · cases e
theorem i_in : Imp2 K gIn (rIn2 K) := by
  intro m h H x y vx vy w h' S R1 R2 e Q q
  unfold gIn at e
  cases eb : hasW x y h with
  | none => rw [eb] at e; cases e
  | some b =>
    rw [eb] at e; cases e
    rcases has_ok S R1 R2 eb with ⟨i, j, rfl, rfl, rfl⟩ | ⟨p, xs, rfl, t, f1, f2, rfl⟩
    · exact .inl ⟨i, j, rfl, rfl, q m H _ Le.refl S rfl⟩
    · exact .inr ⟨p, xs, rfl, t, f1, f2, q m H _ Le.refl S rfl⟩
theorem i_notin : Imp2 K gNotIn (rNotIn2 K) := by
  intro m h H x y vx vy w h' S R1 R2 e Q q
  unfold gNotIn at e
  cases eb : hasW x y h with
  | none => rw [eb] at e; cases e
  | some b =>
    rw [eb] at e; cases e
    rcases has_ok S R1 R2 eb with ⟨i, j, rfl, rfl, rfl⟩ | ⟨p, xs, rfl, t, f1, f2, rfl⟩
    · exact .inl ⟨i, j, rfl, rfl, q m H _ Le.refl S rfl⟩
    · exact .inr ⟨p, xs, rfl, t, f1, f2, q m H _ Le.refl S rfl⟩
/-- is None, is True .. -/
def isNon : W → Bool
  | .non => true
  | _ => false
theorem isNon_ok {m H x vx} (R : Rep K m H x vx) : isNon x = decide (vx = .non) := by
  cases x with
  | non => rw [show vx = .non from R]; rfl
  | bl b => rw [show vx = _ from R]; rfl
  | int b => rw [show vx = _ from R]; rfl
  | str b => rw [show vx = _ from R]; rfl
  | tup b => obtain ⟨a, vs, rfl, _⟩ := R; rfl
  | ref b => obtain ⟨a, _, rfl⟩ := R; rfl
def isW (x y : W) : Option Bool := match y with
  | .non => some (isNon x)
  | .bl b => match x with
    | .bl a => some (decide (a = b))
    | _ => none
  | _ => none
def gIs : G2 := fun x y h => (isW x y).map fun b => (.bl b, h)
def gIsNot : G2 := fun x y h => (isW x y).map fun b => (.bl (!b), h)
def rIs2 : R2 := fun x y H Q => (y = V.non ∧ Q (.bl (decide (x = V.non))) H) ∨ (∃ a b, x = V.bl a ∧ y = V.bl b ∧ Q (V.bl (decide (a = b))) H)
def rIsNot2 : R2 := fun x y H Q => (y = V.non ∧ Q (.bl (!decide (x = V.non))) H) ∨ (∃ a b, x = V.bl a ∧ y = V.bl b ∧ Q (V.bl (!decide (a = b))) H)
theorem op_is2 {X : Cx} : OpR X (compareOp .Is) rIs2 := op_isN.or op_is_bl
theorem op_isnot2 {X : Cx} : OpR X (compareOp .IsNot) rIsNot2 := op_notN.or op_isnot_bl
theorem i_is : Imp2 K gIs rIs2 := by
  intro m h H x y vx vy w h' S R1 R2 e Q q
  unfold gIs isW at e
  split at e
  · cases e
    rw [isNon_ok R1] at q
    exact .inl ⟨R2, q m H _ Le.refl S rfl⟩
  · split at e
    · cases e
      exact .inr ⟨_, _, R1, R2, q m H _ Le.refl S rfl⟩
    · cases e
  · cases e
theorem i_isnot : Imp2 K gIsNot rIsNot2 := by
  intro m h H x y vx vy w h' S R1 R2 e Q q
  unfold gIsNot isW at e
  split at e
  · cases e
    rw [isNon_ok R1] at q
    exact .inl ⟨R2, q m H _ Le.refl S rfl⟩
  · split at e
    · cases e
      exact .inr ⟨_, _, R1, R2, q m H _ Le.refl S rfl⟩
    · cases e
  · cases e

/-! ### subscripts and slices -/
theorem ixN_lt {n : Nat} {i : Int} {j : Nat} (e : ixN n i = some j) : j < n := by
  unfold ixN at e
  split at e
  · split at e
    · cases e; omega
    · cases e
  · split at e
    · cases e; omega
    · cases e
theorem Reps.atI {m H xs vs i x} (r : Reps K m H xs vs) (e : L2.atI xs i = some x) : ∃ v, L2.atI vs i = some v ∧ Rep K m H x v := by
  unfold L2.atI at e ⊢
  rw [r.length]
  cases ej : ixN xs.length i with
  | none => rw [ej] at e; cases e
  | some j =>
    rw [ej] at e
    exact r.get e
def gIx : G2 := fun x y h => match y with
  | .int i => match x with
    | .str z => if szOk z.length = true then (L2.atI z.cps.toList i).map fun c => (.str ⟨#[c]⟩, h) else none
    | x => match seqOf h x with
      | some xs => (L2.atI xs i).map fun w => (w, h)
      | none => none
  | _ => none
theorem i_ix : Imp2 K gIx (rIx K) := by
  intro m h H x y vx vy w h' S R1 R2 e Q q
  unfold gIx at e
  split at e
  · next i =>
    split at e
    · next z =>
      split at e
      · next hz =>
        cases ec : L2.atI z.cps.toList i with
        | none => rw [ec] at e; cases e
        | some c =>
          rw [ec] at e; cases e
          exact .inr (.inr ⟨z, i, c, R1, R2, szOk_le hz, ec, q m H _ Le.refl S rfl⟩)
      · cases e
    · split at e
      · next xs e1 =>
        cases ec : L2.atI xs i with
        | none => rw [ec] at e; cases e
        | some c =>
          rw [ec] at e; cases e
          obtain ⟨p, vs, rfl, t, rs⟩ := seqOf_ok S R1 e1
          obtain ⟨v, ev, rv⟩ := rs.atI ec
          rcases t with t | t
          · exact .inl ⟨p, vs, i, v, rfl, R2, t, ev, q m H _ Le.refl S rv⟩
          · exact .inr (.inl ⟨p, vs, i, v, rfl, R2, t, ev, q m H _ Le.refl S rv⟩)
      · cases e
  · cases e
/-- xs[i] = v -/
def gSetIx : W → W → W → MH → Option MH := fun x y v h => match x, y with
  | .ref n, .int i => match lstM h n with
    | some xs => (ixN xs.length i).map fun j => h.set n (.lst (xs.set j v))
    | none => none
  | _, _ => none
theorem i_setIx : Imp3 K gSetIx rSetL := by
  intro m h H x y z vx vy vz h' S R1 R2 R3 e Q q
  unfold gSetIx at e
  split at e
  · next n i =>
    split at e
    · next xs e1 =>
      cases ej : ixN xs.length i with
      | none => rw [ej] at e; cases e
      | some j =>
        rw [ej] at e; cases e
        obtain ⟨a, vs, rfl, ea, t, rs⟩ := S.lst e1 R1
        have L : Le K m m H (upd H a (.lst (vs.set j vz))) := Le.upd t trivial
        exact ⟨a, vs, i, j, rfl, R2, t, by rw [rs.length]; exact ej, q m _ L (S.upd ea (lstM_some e1) rfl (show CellOk K m _ (.lst (xs.set j z)) a from ⟨_, upd_same, Reps.mono L _ _ (rs.set j R3)⟩) rfl)⟩
    · cases e
  · cases e
end

/-! ### slices -/
abbrev MO := Nat → MS → MH → Option (Option Int × MH)
def tMO (K : PySem.W.Frag) (f : MO) : TO := fun σ H Q => ∃ n s h m o h', In K m s h σ H ∧ f n s h = some (o, h') ∧ ∀ m' H', Le K m m' H H' → Sm K m' h' H' → Q o H'
theorem imp_po {X : Cx} {e : Option Expr} {t t' : TO} (p : PO X e t) (h : ∀ σ H Q, t' σ H Q → t σ H Q) : PO X e t' := ⟨fun pins s σ H Q I q => p.run pins s σ H Q I (h σ H Q q)⟩
def mNoPart : MO := fun _ _ h => some (none, h)
def mPart (f : M) : MO := fun n s h => match f n s h with
  | some (.int i, h1) => some (some i, h1)
  | _ => none
section
variable {X : Cx}
theorem mo_none : PO X none (tMO X.K mNoPart) := imp_po po_none fun σ H Q ⟨n, s, h, m, o, h', I, e, k⟩ => by
  cases e
  exact k m H Le.refl I.sm
theorem mo_some {e : Expr} {f : M} (p : PE X e (tM X.K f)) : PO X (some e) (tMO X.K (mPart f)) := imp_po (po_some p) fun σ H Q ⟨n, s, h, m, o, h', I, e, k⟩ => by
  unfold mPart at e
  split at e
  · next i h1 e1 =>
    cases e
    exact ⟨n, s, h, m, .int i, h', I, e1, fun m1 H1 v L1 S1 R1 => ⟨i, R1, k m1 H1 L1 S1⟩⟩
  · cases e
abbrev G3 := W → Option Int → Option Int → MH → Option (W × MH)
def ImpS (K : PySem.W.Frag) (g : G3) (r : V → Option Int → Option Int → Hp → VK → Prop) : Prop := ∀ m h H x lo hi vx w h', Sm K m h H → Rep K m H x vx → g x lo hi h = some (w, h') →
  ∀ Q : VK, (∀ m' H' v, Le K m m' H H' → Sm K m' h' H' → Rep K m' H' w v → Q v H') → r vx lo hi H Q
def mSl (g : G3) (f : M) (lo hi : MO) : M := fun n s h => match f n s h with
  | some (x, h1) => match lo n s h1 with
    | some (l, h2) => match hi n s h2 with
      | some (u, h3) => g x l u h3
      | none => none
    | none => none
  | none => none
theorem m_slice {e : Expr} {lo hi : Option Expr} {p2 pos : Pos} {r : V → Option Int → Option Int → Hp → VK → Prop} {g : G3} {f : M} {fl fh : MO} (hr : SlR X r) (hg : ImpS X.K g r) (he : PE X e (tM X.K f)) (hl : PO X lo (tMO X.K fl)) (hh : PO X hi (tMO X.K fh)) :
    PE X (.Subscript e (.Slice lo hi none p2) pos) (tM X.K (mSl g f fl fh)) := imp_pe (pe_slice hr he hl hh) fun σ H Q ⟨n, s, h, m, w, h', I, e, k⟩ => by
  unfold mSl at e
  split at e
  · next x h1 e1 =>
    split at e
    · next l h2 e2 =>
      split at e
      · next u h3 e3 =>
        refine ⟨n, s, h, m, x, h1, I, e1, fun m1 H1 v L1 S1 R1 => ⟨n, s, h1, m1, l, h2, I.le L1 S1, e2, fun m2 H2 L2 S2 => ⟨n, s, h2, m2, u, h3, (I.le L1 S1).le L2 S2, e3, fun m3 H3 L3 S3 => ?_⟩⟩⟩
        exact hg m3 h3 H3 x l u v w h' S3 (Rep.mono (L2.trans L3) _ _ R1) e Q fun m4 H4 z L4 S4 R4 => k m4 H4 z (L1.trans (L2.trans (L3.trans L4))) S4 R4
      · cases e
    · cases e
  · cases e
end
def cutW (xs : List W) (lo hi : Option Int) : List W := (xs.drop (HT.sIx xs.length 0 lo)).take (HT.sIx xs.length xs.length hi - HT.sIx xs.length 0 lo)
section
variable {K : PySem.W.Frag}
theorem Reps.cut {m H xs vs lo hi} (r : Reps K m H xs vs) : Reps K m H (cutW xs lo hi) (cutV vs lo hi) := by
  unfold cutW cutV
  rw [r.length]
  exact (r.drop _).take _
def gCut : G3 := fun x lo hi h => match x with
  | .str z => if szOk z.length = true then some (.str (cutS z lo hi), h) else none
  | .tup xs => some (.tup (cutW xs lo hi), h)
  | .ref n => match lstAt h n with
    | some xs => newL (cutW xs lo hi) h
    | none => none
  | _ => none
def rCut3 (K : PySem.W.Frag) : V → Option Int → Option Int → Hp → VK → Prop := fun x lo hi H Q => (rSlL K x lo hi H Q ∨ rSlS x lo hi H Q) ∨ rSlA K x lo hi H Q
theorem sl_cut3 {X : Cx} : SlR X (rCut3 X.K) := (sl_list.or sl_str).or sl_tupA
theorem i_cut : ImpS K gCut (rCut3 K) := by
  intro m h H x lo hi vx w h' S R e Q q
  unfold gCut at e
  split at e
  · split at e
    · next hz =>
      cases e
      exact .inl (.inr ⟨_, R, szOk_le hz, q m H _ Le.refl S rfl⟩)
    · cases e
  · cases e
    obtain ⟨a, vs, rfl, t, rs⟩ := R
    refine .inr ⟨a, vs, rfl, t, fun ⟨z1, z2⟩ => ?_, fun z p hp => ?_⟩
    · refine q m H _ Le.refl S ⟨a, vs, rfl, t, ?_⟩
      have := rs.cut (lo := lo) (hi := hi)
      have e2 : cutV vs lo hi = vs := by
        unfold cutV
        rw [z1, z2]
        simp
      rw [e2] at this
      exact this
    · exact q m _ _ (Le.newT hp) (S.newT hp) ⟨p, _, rfl, .inl (.inl upd_same), Reps.mono (Le.newT hp) _ _ rs.cut⟩
  · split at e
    · next xs e1 =>
      obtain ⟨a, vs, rfl, _, t, rs⟩ := S.lsAt e1 R
      refine .inl (.inl ⟨a, vs, rfl, t, fun p hp => ?_⟩)
      obtain ⟨l, S2, r⟩ := newL_ok S rs.cut e hp
      exact q _ _ _ l S2 r
    · cases e
  · cases e
end
end Mi

/-! Mi: what loops walk; built-in functions; methods. -/
namespace Mi
open PySem PySem.Spec PyProof.Rows L2

/-! ### walked: lists, tuples, texts, ranges, enumerate -/
section
variable {K : PySem.W.Frag} {m : List Addr} {H : Hp}
theorem it_list {n : Nat} {a : Addr} (ha : m[n]? = some a) : ItOk K m H (Itl K a) (.cell n) := fun m' H' h' L S i => by
  have ha' := L.pre _ _ ha
  have R : Rep K m' H' (.ref n) (.ref a) := ⟨a, ha', rfl⟩
  refine ⟨fun e => ?_, fun w e => ?_⟩
  · unfold Src.get at e
    cases q : lstAt h' n with
    | none => simp only [q] at e; cases e
    | some xs =>
      simp only [q, Option.map_some, Option.some.injEq] at e
      obtain ⟨b, vs, eb, _, t, rs⟩ := S.lsAt q R
      cases eb
      exact ⟨vs, t, by rw [rs.length]; exact List.getElem?_eq_none_iff.mp e⟩
  · unfold Src.get at e
    cases q : lstAt h' n with
    | none => simp only [q] at e; cases e
    | some xs =>
      simp only [q, Option.map_some, Option.some.injEq] at e
      obtain ⟨b, vs, eb, _, t, rs⟩ := S.lsAt q R
      cases eb
      obtain ⟨v, ev, rv⟩ := rs.get e
      refine ⟨⟨vs, v, t, ev⟩, fun x H2 y => ?_⟩
      obtain ⟨rfl, y⟩ := y
      have := Option.some.inj ((y vs t).symm.trans ev)
      subst this
      exact ⟨Le.refl, S, rv⟩
theorem it_tup {a : Addr} {xs : List W} {vs : List V} (t : SqT K H a vs) (r : Reps K m H xs vs) : ItOk K m H (Itt K a) (.items xs) := fun m' H' h' L S i => by
  have t' := L.tup _ _ t
  have r' := Reps.mono L _ _ r
  refine ⟨fun e => ?_, fun w e => ?_⟩
  · simp only [Src.get, Option.some.injEq] at e
    exact ⟨vs, t', by rw [r'.length]; exact List.getElem?_eq_none_iff.mp e⟩
  · simp only [Src.get, Option.some.injEq] at e
    obtain ⟨v, ev, rv⟩ := r'.get e
    refine ⟨⟨vs, v, t', ev⟩, fun x H2 y => ?_⟩
    obtain ⟨rfl, y⟩ := y
    have := Option.some.inj ((y vs t').symm.trans ev)
    subst this
    exact ⟨Le.refl, S, rv⟩
def signs (z : Str) : List W := z.cps.toList.map fun c => .str ⟨#[c]⟩
theorem signs_get {z : Str} {i : Nat} : (signs z)[i]? = (z.cps[i]?).map fun c => .str ⟨#[c]⟩ := by
  unfold signs
  rw [List.getElem?_map, Array.getElem?_toList]
theorem it_str {z : Str} : ItOk K m H (Its z) (.items (signs z)) := fun m' H' h' L S i => by
  refine ⟨fun e => ?_, fun w e => ?_⟩
  · simp only [Src.get, Option.some.injEq] at e
    have := List.getElem?_eq_none_iff.mp e
    show z.cps.size ≤ i
    simpa [signs] using this
  · simp only [Src.get, Option.some.injEq] at e
    rw [signs_get] at e
    cases q : z.cps[i]? with
    | none => rw [q] at e; cases e
    | some c =>
      rw [q] at e; cases e
      refine ⟨?_, fun x H2 y => ?_⟩
      · show i < z.cps.size
        by_cases hi : i < z.cps.size
        · exact hi
        · rw [Array.getElem?_eq_none (by omega)] at q; cases q
      · obtain ⟨rfl, c', ec, rfl⟩ := y
        rw [q] at ec; cases ec
        exact ⟨Le.refl, S, rfl⟩
def rangeW (lo : Int) (n : Nat) : List W := (List.range n).map fun i : Nat => W.int (lo + (i : Int))
theorem it_range {lo : Int} {n : Nat} : ItOk K m H (Itr lo n) (.items (rangeW lo n)) := fun m' H' h' L S i => by
  refine ⟨fun e => ?_, fun w e => ?_⟩
  · simp only [Src.get, Option.some.injEq] at e
    have := List.getElem?_eq_none_iff.mp e
    show n ≤ i
    simpa [rangeW] using this
  · simp only [Src.get, Option.some.injEq, rangeW, List.getElem?_map] at e
    by_cases hi : i < n
    · rw [List.getElem?_range hi] at e
      cases e
      refine ⟨hi, fun x H2 y => ?_⟩
      obtain ⟨rfl, rfl⟩ := y
      exact ⟨Le.refl, S, rfl⟩
    · rw [List.getElem?_eq_none (by simp; omega)] at e
      cases e
theorem it_enum {n : Nat} {a : Addr} (ha : m[n]? = some a) : ItOk K m H (Ite K a) (.enum n) := fun m' H' h' L S i => by
  have ha' := L.pre _ _ ha
  have R : Rep K m' H' (.ref n) (.ref a) := ⟨a, ha', rfl⟩
  refine ⟨fun e => ?_, fun w e => ?_⟩
  · unfold Src.get at e
    cases q : lstAt h' n with
    | none => simp only [q] at e; cases e
    | some xs =>
      simp only [q, Option.map_some, Option.some.injEq, Option.map_eq_none_iff] at e
      obtain ⟨b, vs, eb, _, t, rs⟩ := S.lsAt q R
      cases eb
      exact ⟨vs, t, by rw [rs.length]; exact List.getElem?_eq_none_iff.mp e⟩
  · unfold Src.get at e
    cases q : lstAt h' n with
    | none => simp only [q] at e; cases e
    | some xs =>
      simp only [q, Option.map_some, Option.some.injEq, Option.map_eq_some_iff] at e
      obtain ⟨u, e, rfl⟩ := e
      obtain ⟨b, vs, eb, _, t, rs⟩ := S.lsAt q R
      cases eb
      obtain ⟨v, ev, rv⟩ := rs.get e
      refine ⟨⟨vs, v, t, ev⟩, fun x H2 y => ?_⟩
      obtain ⟨T, z, rfl, hT, rfl, y⟩ := y
      have := Option.some.inj ((y vs t).symm.trans ev)
      subst this
      refine ⟨Le.newT hT, S.newT hT, ⟨T, _, rfl, .inl (.inl upd_same), ?_⟩⟩
      exact Reps.mono (Le.newT hT) _ _ ⟨_, _, rfl, rfl, Reps.one rv⟩
end

section
variable {X : Cx} {tg e : Expr} {pos : Pos}
theorem pi_or {t t' : TI} (p : PI X tg e t) (q : PI X tg e t') : PI X tg e (fun σ H R => t σ H R ∨ t' σ H R) := ⟨fun pins s σ H R I h => h.elim (p.run pins s σ H R I) (q.run pins s σ H R I)⟩
/-- a list, a tuple, a text -/
def miSeq (f : M) : MI := fun n s h => match f n s h with
  | some (.ref k, h1) => match lstAt h1 k with
    | some _ => some (.cell k, h1)
    | none => none
  | some (.tup xs, h1) => some (.items xs, h1)
  | some (.str z, h1) => some (.items (signs z), h1)
  | _ => none
theorem mi_seq {f : M} (p : PE X e (tM X.K f)) : PI X tg e (tMI X.K (miSeq f)) := imp_pi (pi_or (pi_or (pi_list p) (pi_tup p)) (pi_str p)) fun σ H R ⟨n, s, h, m, src, h', I, e, k⟩ => by
  unfold miSeq at e
  split at e
  · next k1 h1 e1 =>
    split at e
    · next ys e2 =>
      cases e
      refine .inl (.inl ⟨n, s, h, m, _, h', I, e1, fun m1 H1 v L1 S1 R1 => ?_⟩)
      obtain ⟨a, vs, rfl, ea, t, rs⟩ := S1.lsAt e2 R1
      exact ⟨a, rfl, ⟨vs, t⟩, k m1 H1 _ L1 S1 (it_list ea)⟩
    · cases e
  · next xs h1 e1 =>
    cases e
    refine .inl (.inr ⟨n, s, h, m, _, h', I, e1, fun m1 H1 v L1 S1 R1 => ?_⟩)
    obtain ⟨a, vs, rfl, t, rs⟩ := R1
    exact ⟨a, rfl, ⟨vs, t⟩, k m1 H1 _ L1 S1 (it_tup t rs)⟩
  · next z h1 e1 =>
    cases e
    exact .inr ⟨n, s, h, m, _, h', I, e1, fun m1 H1 v L1 S1 R1 => ⟨z, R1, k m1 H1 _ L1 S1 it_str⟩⟩
  · cases e
def small62 (j : Int) : Bool := decide (-(2 ^ 62) ≤ j) && decide (j < 2 ^ 62)
theorem small62_ok {j : Int} (e : small62 j = true) : -(2 ^ 62) ≤ j ∧ j < 2 ^ 62 := by
  unfold small62 at e
  simp only [Bool.and_eq_true, decide_eq_true_eq] at e
  exact e
def miRange1 (f : M) : MI := fun n s h => match f n s h with
  | some (.int j, h1) => if small62 j = true then some (.items (rangeW 0 j.toNat), h1) else none
  | _ => none
theorem mi_range1 {a : Expr} {f : M} {p : Pos} (hg : Gl X "range") (hm : X.mg "range" = none) (ha : PE X a (tM X.K f)) (he : starEach [a] X.env = (false, eval a X.env) :: starEach [] X.env := by rfl)
    (he' : starEach [a] X.env = [(false, eval a X.env)] := by rfl) : PI X tg (.Call (.Name "range" p) [a] [] pos) (tMI X.K (miRange1 f)) := imp_pi (pi_range1 hg hm (pa_cons ha pa_nil he) he') fun σ H R ⟨n, s, h, m, src, h', I, e, k⟩ => by
  unfold miRange1 at e
  split at e
  · next j h1 e1 =>
    split at e
    · next c =>
      cases e
      exact ⟨n, s, h, m, _, h', I, e1, fun m1 H1 v L1 S1 R1 => ⟨j, by rw [show v = _ from R1], (small62_ok c).1, (small62_ok c).2, k m1 H1 _ L1 S1 it_range⟩⟩
    · cases e
  · cases e
def miRange2 (f g : M) : MI := fun n s h => match f n s h with
  | some (.int i, h1) => match g n s h1 with
    | some (.int j, h2) => if (small62 i && small62 j) = true then some (.items (rangeW i (j - i).toNat), h2) else none
    | _ => none
  | _ => none
theorem mi_range2 {a b : Expr} {f g : M} {p : Pos} (hg : Gl X "range") (hm : X.mg "range" = none) (ha : PE X a (tM X.K f)) (hb : PE X b (tM X.K g)) (he : starEach [a, b] X.env = (false, eval a X.env) :: starEach [b] X.env := by rfl)
    (heb : starEach [b] X.env = (false, eval b X.env) :: starEach [] X.env := by rfl)
    (he' : starEach [a, b] X.env = [(false, eval a X.env), (false, eval b X.env)] := by rfl) (he2 : starEach [b] X.env = [(false, eval b X.env)] := by rfl) : PI X tg (.Call (.Name "range" p) [a, b] [] pos) (tMI X.K (miRange2 f g)) := imp_pi (pi_range2 hg hm (pa_cons ha (pa_cons hb pa_nil heb) he) he' he2) fun σ H R ⟨n, s, h, m, src, h', I, e, k⟩ => by
  unfold miRange2 at e
  split at e
  · next i h1 e1 =>
    split at e
    · next j h2 e2 =>
      split at e
      · next c =>
        cases e
        simp only [Bool.and_eq_true] at c
        refine ⟨n, s, h, m, _, h1, I, e1, fun m1 H1 v L1 S1 R1 => ⟨n, s, h1, m1, _, h', I.le L1 S1, e2, fun m2 H2 u L2 S2 R2 => ⟨i, j, by rw [show v = _ from R1, show u = _ from R2], ⟨(small62_ok c.1).1, (small62_ok c.1).2, (small62_ok c.2).1, (small62_ok c.2).2⟩, ?_⟩⟩⟩
        exact k m2 H2 _ (L1.trans L2) S2 it_range
      · cases e
    · cases e
  · cases e
def miEnum (f : M) : MI := fun n s h => match f n s h with
  | some (.ref k, h1) => match lstAt h1 k with
    | some _ => some (.enum k, h1)
    | none => none
  | _ => none
theorem mi_enum {a : Expr} {f : M} {p tpos : Pos} {elts : List Expr} {kk : Nat} (hg : Gl X "enumerate") (hm : X.mg "enumerate" = none) (ha : PE X a (tM X.K f)) (he : starEach [a] X.env = (false, eval a X.env) :: starEach [] X.env := by rfl)
    (he' : starEach [a] X.env = [(false, eval a X.env)] := by rfl) : PI X (.Tuple elts kk tpos) (.Call (.Name "enumerate" p) [a] [] pos) (tMI X.K (miEnum f)) := imp_pi (pi_enum hg hm (pa_cons ha pa_nil he) he') fun σ H R ⟨n, s, h, m, src, h', I, e, k⟩ => by
  unfold miEnum at e
  split at e
  · next k1 h1 e1 =>
    split at e
    · next ys e2 =>
      cases e
      refine ⟨n, s, h, m, _, h', I, e1, fun m1 H1 v L1 S1 R1 => ?_⟩
      obtain ⟨a, vs, rfl, ea, t, rs⟩ := S1.lsAt e2 R1
      exact ⟨a, vs, rfl, t, k m1 H1 _ L1 S1 (it_enum ea)⟩
    · cases e
  · cases e
end

/-! ### built-in functions -/
section
variable {K : PySem.W.Frag}
def gLen : GA := fun xs h => match xs with
  | [.str z] => if szOk z.length = true then some (.int z.length, h) else none
  | [.tup ys] => some (.int ys.length, h)
  | [.ref n] => match lstAt h n with
    | some ys => some (.int ys.length, h)
    | none => none
  | _ => none
theorem i_len : ImpA K gLen (fun xs H Q => ∃ x n, xs = [x] ∧ LenV K x H n ∧ Q (.int n) H) := by
  intro m h H xs vs w h' S R e Q q
  unfold gLen at e
  split at e
  · next z =>
    split at e
    · next hz =>
      cases e
      obtain ⟨v, r, rfl, R1, R2⟩ := R
      rw [show r = [] from R2, show v = _ from R1]
      exact ⟨_, _, rfl, ⟨szOk_le hz, rfl⟩, q m H _ Le.refl S rfl⟩
    · cases e
  · next ys =>
    cases e
    obtain ⟨v, r, rfl, ⟨a, us, rfl, t, rs⟩, R2⟩ := R
    rw [show r = [] from R2]
    refine ⟨_, us.length, rfl, .inr ⟨us, t, rfl⟩, ?_⟩
    rw [rs.length]
    exact q m H _ Le.refl S rfl
  · split at e
    · next ys e1 =>
      cases e
      obtain ⟨v, r, rfl, R1, R2⟩ := R
      obtain ⟨a, us, rfl, _, t, rs⟩ := S.lsAt e1 R1
      rw [show r = [] from R2]
      refine ⟨_, us.length, rfl, .inl ⟨us, t, rfl⟩, ?_⟩
      rw [rs.length]
      exact q m H _ Le.refl S rfl
    · cases e
  · cases e
def gTwo (f : Int → Int → Int) : GA := fun xs h => match xs with
  | [.int i, .int j] => some (.int (f i j), h)
  | _ => none
theorem i_two {f : Int → Int → Int} : ImpA K (gTwo f) (fun xs H Q => ∃ i j, xs = [.int i, .int j] ∧ Q (.int (f i j)) H) := by
  intro m h H xs vs w h' S R e Q q
  unfold gTwo at e
  split at e
  · cases e
    obtain ⟨v, r, rfl, R1, v2, r2, rfl, R2, R3⟩ := R
    rw [show r2 = [] from R3, show v = _ from R1, show v2 = _ from R2]
    exact ⟨_, _, rfl, q m H _ Le.refl S rfl⟩
  · cases e
def gMax : GA := gTwo fun i j => if j > i then j else i
def gMin : GA := gTwo fun i j => if j < i then j else i
theorem i_max : ImpA K gMax (fun xs H Q => ∃ i j, xs = [.int i, .int j] ∧ Q (.int (if j > i then j else i)) H) := i_two
theorem i_min : ImpA K gMin (fun xs H Q => ∃ i j, xs = [.int i, .int j] ∧ Q (.int (if j < i then j else i)) H) := i_two
def gInt1 : GA := fun xs h => match xs with
  | [.int i] => some (.int i, h)
  | [.bl b] => some (.int (if b then 1 else 0), h)
  | _ => none
theorem i_int1 : ImpA K gInt1 (fun xs H Q => (∃ i, xs = [.int i] ∧ Q (.int i) H) ∨ ∃ k, xs = [.bl k] ∧ Q (.int (if k then 1 else 0)) H) := by
  intro m h H xs vs w h' S R e Q q
  unfold gInt1 at e
  split at e
  · cases e
    obtain ⟨v, r, rfl, R1, R2⟩ := R
    rw [show r = [] from R2, show v = _ from R1]
    exact .inl ⟨_, rfl, q m H _ Le.refl S rfl⟩
  · cases e
    obtain ⟨v, r, rfl, R1, R2⟩ := R
    rw [show r = [] from R2, show v = _ from R1]
    exact .inr ⟨_, rfl, q m H _ Le.refl S rfl⟩
  · cases e
/-- the text of an int, of few figures -/
def gStrI : GA := fun xs h => match xs with
  | [.int i] => if decide (i.natAbs.log2 < 1920) = true then some (.str (toString i), h) else none
  | _ => none
theorem i_strI : ImpA K gStrI (fun xs H Q => ∃ i, xs = [.int i] ∧ i.natAbs.log2 < 1920 ∧ Q (.str (toString i)) H) := by
  intro m h H xs vs w h' S R e Q q
  unfold gStrI at e
  split at e
  · split at e
    · next c =>
      cases e
      obtain ⟨v, r, rfl, R1, R2⟩ := R
      rw [show r = [] from R2, show v = _ from R1]
      exact ⟨_, rfl, of_decide_eq_true c, q m H _ Le.refl S rfl⟩
    · cases e
  · cases e
/-- list(t) of a list, a tuple, a text -/
def gList : GA := fun xs h => match xs with
  | [.str z] => newL (signs z) h
  | [.tup ys] => newL ys h
  | [.ref n] => match lstAt h n with
    | some ys => newL ys h
    | none => none
  | _ => none
theorem vals_of : ∀ {xs : List V} {us : List Value}, xs.length = us.length → (∀ (i : Nat) (x : V) (u : Value), xs[i]? = some x → us[i]? = some u → RelV x u) → Vals xs us
  | [], [], _, _ => .nil
  | [], _ :: _, hl, _ => by simp at hl
  | _ :: _, [], hl, _ => by simp at hl
  | x :: xs, u :: us, hl, h => .cons (h 0 x u rfl rfl) (vals_of (by simpa using hl) fun i y v e1 e2 => h (i + 1) y v (by simpa using e1) (by simpa using e2))
theorem call_listS {X : Cx} (hc : X.calm = true) : CallR X (.type "list") (fun xs H Q => ∃ z : Str, xs = [.str z] ∧ z.length ≤ sizeLine ∧ ∀ l, H l = none → Q (.ref l) (upd H l (.lst (z.cps.toList.map fun c => .str ⟨#[c]⟩)))) := by
  intro pins s σ H xs us Q I r h
  obtain ⟨z, rfl, hz, q⟩ := h
  obtain ⟨u, rfl, t, rfl⟩ := vals1 r
  refine PySem.call_list_str (I.ok.hd hc) z t (fun h' tk acc' c' kp e hi => ?_) (hn := hz)
  have hv : Vals (z.cps.toList.map fun c => V.str ⟨#[c]⟩) acc'.toList := by
    refine vals_of (by rw [List.length_map, Array.length_toList, Array.length_toList, hi.1]) fun i x u e1 e2 => ?_
    rw [Array.getElem?_toList] at e2
    obtain ⟨c, t2, ec, rfl⟩ := hi.2 i u e2
    rw [List.getElem?_map, Array.getElem?_toList, ec] at e1
    cases e1
    exact ⟨t2, rfl⟩
  refine ⟨.ref s.heap.objs.size, _, I.laid (t' := tk) kp (Nat.le_refl _) (show ObjOk X.prog X.w _ h' _ (.lst _) from ⟨by rw [List.length_map, Array.length_toList]; exact hz, acc'.toList, c', hv, by simpa using e⟩), rfl, q _ (I.hok.fresh (Nat.le_refl _))⟩
def rList3 (K : PySem.W.Frag) : List V → Hp → VK → Prop := fun xs H Q => (∃ p ys, xs = [.ref p] ∧ (SqL K H p ys ∨ SqT K H p ys) ∧ ∀ l, H l = none → Q (.ref l) (upd H l (.lst ys))) ∨ ∃ z : Str, xs = [.str z] ∧ z.length ≤ sizeLine ∧ ∀ l, H l = none → Q (.ref l) (upd H l (.lst (z.cps.toList.map fun c => .str ⟨#[c]⟩)))
theorem call_or {X : Cx} {f : Value} {r r' : List V → Hp → VK → Prop} (p : CallR X f r) (q : CallR X f r') : CallR X f (fun xs H Q => r xs H Q ∨ r' xs H Q) := fun pins s σ H xs us Q I v h => h.elim (p pins s σ H xs us Q I v) (q pins s σ H xs us Q I v)
theorem call_list3 {X : Cx} (hc : X.calm = true) : CallR X (.type "list") (rList3 X.K) := call_or call_list_of (call_listS hc)
theorem reps_signs {m H} {z : Str} : Reps K m H (signs z) (z.cps.toList.map fun c => .str ⟨#[c]⟩) := by
  unfold signs
  induction z.cps.toList with
  | nil => rfl
  | cons c r ih => exact ⟨_, _, rfl, rfl, ih⟩
theorem i_list : ImpA K gList (rList3 K) := by
  intro m h H xs vs w h' S R e Q q
  unfold gList at e
  split at e
  · next z =>
    obtain ⟨v, r, rfl, R1, R2⟩ := R
    rw [show r = [] from R2, show v = _ from R1]
    refine .inr ⟨z, rfl, ?_, fun p hp => ?_⟩
    · have := newL_sz e
      unfold signs at this
      rw [List.length_map, Array.length_toList] at this
      exact this
    · obtain ⟨l, S2, r⟩ := newL_ok S reps_signs e hp
      exact q _ _ _ l S2 r
  · next ys =>
    obtain ⟨v, r, rfl, ⟨a, us, rfl, t, rs⟩, R2⟩ := R
    rw [show r = [] from R2]
    refine .inl ⟨a, us, rfl, .inr t, fun p hp => ?_⟩
    obtain ⟨l, S2, r⟩ := newL_ok S rs e hp
    exact q _ _ _ l S2 r
  · split at e
    · next ys e1 =>
      obtain ⟨v, r, rfl, R1, R2⟩ := R
      obtain ⟨a, us, rfl, _, t, rs⟩ := S.lsAt e1 R1
      rw [show r = [] from R2]
      refine .inl ⟨a, us, rfl, .inl t, fun p hp => ?_⟩
      obtain ⟨l, S2, r⟩ := newL_ok S rs e hp
      exact q _ _ _ l S2 r
    · cases e
  · cases e
def gTuple : GA := fun xs h => match xs with
  | [.tup ys] => some (.tup ys, h)
  | [.ref n] => match lstAt h n with
    | some ys => some (.tup ys, h)
    | none => none
  | _ => none
theorem i_tuple : ImpA K gTuple (fun xs H Q => ∃ p ys, xs = [.ref p] ∧ ((SqL K H p ys ∧ ∀ l, H l = none → Q (.ref l) (upd H l (.tup ys))) ∨ (SqT K H p ys ∧ Q (.ref p) H))) := by
  intro m h H xs vs w h' S R e Q q
  unfold gTuple at e
  split at e
  · next ys =>
    cases e
    obtain ⟨v, r, rfl, ⟨a, us, rfl, t, rs⟩, R2⟩ := R
    rw [show r = [] from R2]
    exact ⟨a, us, rfl, .inr ⟨t, q m H _ Le.refl S ⟨a, us, rfl, t, rs⟩⟩⟩
  · split at e
    · next ys e1 =>
      cases e
      obtain ⟨v, r, rfl, R1, R2⟩ := R
      obtain ⟨a, us, rfl, _, t, rs⟩ := S.lsAt e1 R1
      rw [show r = [] from R2]
      refine ⟨a, us, rfl, .inl ⟨t, fun p hp => ?_⟩⟩
      exact q m _ _ (Le.newT hp) (S.newT hp) ⟨p, _, rfl, .inl (.inl upd_same), Reps.mono (Le.newT hp) _ _ rs⟩
    · cases e
  · cases e
end

/-! ### methods -/
abbrev GM := W → List W → MH → Option (W × MH)
def ImpM (K : PySem.W.Frag) (g : GM) (r : V → List V → Hp → VK → Prop) : Prop := ∀ m h H x xs vx vs w h', Sm K m h H → Rep K m H x vx → Reps K m H xs vs → g x xs h = some (w, h') →
  ∀ Q : VK, (∀ m' H' v, Le K m m' H H' → Sm K m' h' H' → Rep K m' H' w v → Q v H') → r vx vs H Q
def mM0 (g : GM) (fo : M) : M := fun n s h => andThen (fo n s h) fun x h1 => match x with
  | .str z => g (.str z) [] h1
  | _ => none
def mM1 (g : GM) (fo fe : M) : M := fun n s h => andThen (fo n s h) fun x h1 => match x with
  | .str z => andThen (fe n s h1) fun y h2 => g (.str z) [y] h2
  | _ => none
def isLst (x : W) (h : MH) : Bool := match x with
  | .ref n => (lstAt h n).isSome
  | _ => false
def mML0 (g : GM) (fo : M) : M := fun n s h => andThen (fo n s h) fun x h1 => if isLst x h1 = true then g x [] h1 else none
def mML (g : GM) (fo : M) (fr : MA) : M := fun n s h => andThen (fo n s h) fun x h1 => if isLst x h1 = true then andThen (fr n s h1) fun xs h2 => g x xs h2 else none
section
variable {X : Cx} {o e : Expr} {fo fe : M} {id : String} {name : Str} {apos pos cpos : Pos} {r : V → List V → Hp → VK → Prop} {g : GM}
theorem m_m0 (slot : Slot "str" name id) (ty : typeOf (.builtin id) = pure (.type "method_descriptor")) (rule : MtR X id r) (hg : ImpM X.K g r) (ho : PE X o (tM X.K fo)) (hb : attributeBase o name X.env (eval o X.env) = eval o X.env := by rfl) (hl : (apos.endLine == pos.line) = true := by rfl) :
    PE X (.Call (.Attribute o name apos) [] [] pos) (tM X.K (mM0 g fo)) := imp_pe (pe_m0 slot ty rule ho hb hl) fun σ H Q ⟨n, s, h, m, w, h', I, e, k⟩ => by
  obtain ⟨x, h1, e1, e⟩ := andThen_some e
  cases x <;> try (simp at e; done)
  refine ⟨n, s, h, m, _, h1, I, e1, fun m1 H1 v L1 S1 R1 => ⟨⟨_, R1⟩, ?_⟩⟩
  exact hg m1 h1 H1 _ [] v [] w h' S1 R1 rfl e Q fun m2 H2 z L2 S2 R2 => k m2 H2 z (L1.trans L2) S2 R2
theorem m_m1 (slot : Slot "str" name id) (ty : typeOf (.builtin id) = pure (.type "method_descriptor")) (rule : MtR X id r) (hg : ImpM X.K g r) (ho : PE X o (tM X.K fo)) (he : PE X e (tM X.K fe)) (hs : starEach [e] X.env = [(false, eval e X.env)] := by rfl) (hb : attributeBase o name X.env (eval o X.env) = eval o X.env := by rfl) (hl : (apos.endLine == pos.line) = true := by rfl) :
    PE X (.Call (.Attribute o name apos) [e] [] pos) (tM X.K (mM1 g fo fe)) := imp_pe (pe_m1 slot ty rule ho he hs hb hl) fun σ H Q ⟨n, s, h, m, w, h', I, e, k⟩ => by
  obtain ⟨x, h1, e1, e⟩ := andThen_some e
  cases x <;> try (simp at e; done)
  obtain ⟨y, h2, e2, e⟩ := andThen_some e
  refine ⟨n, s, h, m, _, h1, I, e1, fun m1 H1 v L1 S1 R1 => ⟨⟨_, R1⟩, ⟨n, s, h1, m1, y, h2, I.le L1 S1, e2, fun m2 H2 u L2 S2 R2 => ?_⟩⟩⟩
  exact hg m2 h2 H2 _ [y] v [u] w h' S2 (Rep.mono L2 _ _ R1) (Reps.one R2) e Q fun m3 H3 z L3 S3 R3 => k m3 H3 z (L1.trans (L2.trans L3)) S3 R3
theorem isLst_ty {m h H x v} (S : Sm X.K m h H) (R : Rep X.K m H x v) (e : isLst x h = true) : tyV X.K "list" v H := by
  cases x <;> try (simp [isLst] at e; done)
  next n =>
    simp only [isLst] at e
    cases q : lstAt h n with
    | none => rw [q] at e; cases e
    | some xs =>
      obtain ⟨a, vs, rfl, _, t, _⟩ := S.lsAt q R
      exact .inl ⟨rfl, vs, t⟩
theorem m_ml0 (pa : PlainAttrs "list") (slot : Slot "list" name id) (ty : typeOf (.builtin id) = pure (.type "method_descriptor")) (rule : MtR X id r) (hg : ImpM X.K g r) (ho : PE X o (tM X.K fo)) (hb : attributeBase o name X.env (eval o X.env) = eval o X.env := by rfl) (hl : (apos.endLine == cpos.line) = true := by rfl) :
    PE X (.Call (.Attribute o name apos) [] [] cpos) (tM X.K (mML0 g fo)) := imp_pe (pe_bm0 pa slot ty rule ho hb hl) fun σ H Q ⟨n, s, h, m, w, h', I, e, k⟩ => by
  obtain ⟨x, h1, e1, e⟩ := andThen_some e
  split at e
  · next c =>
    refine ⟨n, s, h, m, _, h1, I, e1, fun m1 H1 v L1 S1 R1 => ⟨isLst_ty S1 R1 c, ?_⟩⟩
    exact hg m1 h1 H1 _ [] v [] w h' S1 R1 rfl e Q fun m2 H2 z L2 S2 R2 => k m2 H2 z (L1.trans L2) S2 R2
  · cases e
end
theorem m_ml {X : Cx} {o e : Expr} {es : List Expr} {fo : M} {fr : MA} {name : Str} {apos cpos : Pos} {r : V → List V → Hp → VK → Prop} {g : GM} (hg : ImpM X.K g r)
    (h : PE X (.Call (.Attribute o name apos) (e :: es) [] cpos) (tBM X.K "list" r (tM X.K fo) (tMA X.K fr))) : PE X (.Call (.Attribute o name apos) (e :: es) [] cpos) (tM X.K (mML g fo fr)) := imp_pe h fun σ H Q ⟨n, s, h, m, w, h', I, e, k⟩ => by
  obtain ⟨x, h1, e1, e⟩ := andThen_some e
  split at e
  · next c =>
    obtain ⟨xs, h2, e2, e⟩ := andThen_some e
    refine ⟨n, s, h, m, _, h1, I, e1, fun m1 H1 v L1 S1 R1 => ⟨isLst_ty S1 R1 c, ⟨n, s, h1, m1, xs, h2, I.le L1 S1, e2, fun m2 H2 us L2 S2 R2 => ?_⟩⟩⟩
    exact hg m2 h2 H2 _ xs v us w h' S2 (Rep.mono L2 _ _ R1) R2 e Q fun m3 H3 z L3 S3 R3 => k m3 H3 z (L1.trans (L2.trans L3)) S3 R3
  · cases e
section
variable {K : PySem.W.Frag}
/-- a text's method without arguments, with one -/
def gS0 (C : Str → Bool) (f : Str → W) : GM := fun x xs h => match x, xs with
  | .str a, [] => if C a = true then some (f a, h) else none
  | _, _ => none
theorem i_s0 {C : Str → Bool} {P : Str → Prop} {f : Str → W} {g : Str → V} (hC : ∀ a, C a = true → P a) (hf : ∀ a, flatW (f a) = true ∧ flV (f a) = g a) : ImpM K (gS0 C f) (fun x xs H Q => ∃ a, x = .str a ∧ xs = [] ∧ P a ∧ Q (g a) H) := by
  intro m h H x xs vx vs w h' S R1 R2 e Q q
  unfold gS0 at e
  split at e
  · split at e
    · next c =>
      cases e
      refine ⟨_, R1, R2, hC _ c, ?_⟩
      rw [← (hf _).2]
      exact q m H _ Le.refl S (Rep.ofFlat (hf _).1)
    · cases e
  · cases e
def gS1 (f : Str → Str → W) : GM := fun x xs h => match x, xs with
  | .str a, [.str b] => some (f a b, h)
  | _, _ => none
theorem i_s1 {f : Str → Str → W} {g : Str → Str → V} (hf : ∀ a b, flatW (f a b) = true ∧ flV (f a b) = g a b) : ImpM K (gS1 f) (fun x xs H Q => ∃ a b, x = .str a ∧ xs = [.str b] ∧ Q (g a b) H) := by
  intro m h H x xs vx vs w h' S R1 R2 e Q q
  unfold gS1 at e
  split at e
  · cases e
    obtain ⟨v, r, rfl, R2, R3⟩ := R2
    rw [show r = [] from R3, show v = _ from R2]
    refine ⟨_, _, R1, rfl, ?_⟩
    rw [← (hf _ _).2]
    exact q m H _ Le.refl S (Rep.ofFlat (hf _ _).1)
  · cases e
def gFind : GM := gS1 fun a b => .int (Txt.find a b)
def gStarts : GM := gS1 fun a b => .bl (Txt.startswith a b)
theorem i_find : ImpM K gFind (fun x xs H Q => ∃ a b, x = .str a ∧ xs = [.str b] ∧ Q (.int (Txt.find a b)) H) := i_s1 fun _ _ => ⟨rfl, rfl⟩
theorem i_starts : ImpM K gStarts (fun x xs H Q => ∃ a b, x = .str a ∧ xs = [.str b] ∧ Q (.bl (Txt.startswith a b)) H) := i_s1 fun _ _ => ⟨rfl, rfl⟩
def gUpper : GM := gS0 (fun a => decide (a.length ≤ 5592405)) fun a => .str (Txt.upper a)
theorem i_upper : ImpM K gUpper (fun x xs H Q => ∃ a, x = .str a ∧ xs = [] ∧ a.length ≤ 5592405 ∧ Q (.str (Txt.upper a)) H) := i_s0 (fun a c => of_decide_eq_true c) fun _ => ⟨rfl, rfl⟩
def gAsk (f : Str → Bool) : GM := gS0 (fun _ => true) fun a => .bl (f a)
theorem i_ask {f : Str → Bool} : ImpM K (gAsk f) (fun x xs H Q => ∃ a, x = .str a ∧ xs = [] ∧ True ∧ Q (.bl (f a)) H) := i_s0 (fun _ _ => trivial) fun _ => ⟨rfl, rfl⟩
def gPartition : GM := fun x xs h => match x, xs with
  | .str a, [.str b] => if (!(b.length == 0) && szOk a.length) = true then some (.tup [.str (Txt.partition a b).1, .str (Txt.partition a b).2.1, .str (Txt.partition a b).2.2], h) else none
  | _, _ => none
theorem i_partition : ImpM K gPartition (fun x xs H Q => ∃ a b, x = .str a ∧ xs = [.str b] ∧ (b.length == 0) = false ∧ a.length ≤ sizeLine ∧ ∀ p, H p = none → Q (.ref p) (upd H p (.tup [.str (Txt.partition a b).1, .str (Txt.partition a b).2.1, .str (Txt.partition a b).2.2]))) := by
  intro m h H x xs vx vs w h' S R1 R2 e Q q
  unfold gPartition at e
  split at e
  · split at e
    · next c =>
      cases e
      simp only [Bool.and_eq_true, Bool.not_eq_true'] at c
      obtain ⟨v, r, rfl, R2, R3⟩ := R2
      rw [show r = [] from R3, show v = _ from R2]
      refine ⟨_, _, R1, rfl, c.1, szOk_le c.2, fun p hp => ?_⟩
      exact q m _ _ (Le.newT hp) (S.newT hp) ⟨p, _, rfl, .inl (.inl upd_same), ⟨_, _, rfl, rfl, _, _, rfl, rfl, _, _, rfl, rfl, rfl⟩⟩
    · cases e
  · cases e
def gSIndex : GM := fun x xs h => match x, xs with
  | .str a, [.str b] => match Builtin.Str.occurrences a b 0 a.length 1 with
    | i :: _ => some (.int (i : Nat), h)
    | [] => none
  | _, _ => none
theorem i_sindex : ImpM K gSIndex (fun x xs H Q => ∃ a b i rest, x = .str a ∧ xs = [.str b] ∧ Builtin.Str.occurrences a b 0 a.length 1 = i :: rest ∧ Q (.int (i : Nat)) H) := by
  intro m h H x xs vx vs w h' S R1 R2 e Q q
  unfold gSIndex at e
  split at e
  · split at e
    · next i rest e1 =>
      cases e
      obtain ⟨v, r, rfl, R2, R3⟩ := R2
      rw [show r = [] from R3, show v = _ from R2]
      exact ⟨_, _, i, rest, R1, rfl, e1, q m H _ Le.refl S rfl⟩
    · cases e
  · cases e
/-- a row of texts -/
def strsW : List W → Option (List Str)
  | [] => some []
  | .str z :: r => (strsW r).map (z :: ·)
  | _ :: _ => none
theorem strsW_ok : ∀ {xs : List W} {ys : List Str}, strsW xs = some ys → xs = ys.map .str
  | [], ys, e => by cases e; rfl
  | x :: r, ys, e => by
    cases x <;> try (simp [strsW] at e; done)
    next z =>
      simp only [strsW] at e
      cases q : strsW r with
      | none => rw [q] at e; cases e
      | some zs => rw [q] at e; cases e; rw [strsW_ok q]; rfl
theorem reps_strs {m H} : ∀ {ys : List Str} {vs : List V}, Reps K m H (ys.map .str) vs → vs = ys.map V.str
  | [], _, h => h
  | y :: ys, _, h => by
    obtain ⟨v, r, rfl, h1, h2⟩ := h
    rw [show v = _ from h1, reps_strs h2]; rfl
def gJoin : GM := fun x xs h => match x, xs with
  | .str a, [y] => match seqOf h y with
    | some zs => match strsW zs with
      | some ys => if decide ((ys.map (·.length)).sum + ys.length * a.length ≤ 16777216) = true then some (.str (Txt.join a ys), h) else none
      | none => none
    | none => none
  | _, _ => none
theorem i_join : ImpM K gJoin (fun x xs H Q => ∃ a p, ∃ ys : List Str, x = .str a ∧ xs = [.ref p] ∧ (SqL K H p (ys.map V.str) ∨ SqT K H p (ys.map V.str)) ∧ (ys.map (·.length)).sum + ys.length * a.length ≤ 16777216 ∧ Q (.str (Txt.join a ys)) H) := by
  intro m h H x xs vx vs w h' S R1 R2 e Q q
  unfold gJoin at e
  split at e
  · split at e
    · next zs e1 =>
      split at e
      · next ys e2 =>
        split at e
        · next c =>
          cases e
          obtain ⟨v, r, rfl, R2, R3⟩ := R2
          rw [show r = [] from R3]
          obtain ⟨p, us, rfl, t, rs⟩ := seqOf_ok S R2 e1
          rw [strsW_ok e2] at rs
          have := reps_strs rs
          subst this
          exact ⟨_, p, ys, R1, rfl, t, of_decide_eq_true c, q m H _ Le.refl S rfl⟩
        · cases e
      · cases e
    · cases e
  · cases e
/-! lists' methods -/
def gAppend : GM := fun x xs h => match x, xs with
  | .ref n, [y] => match lstM h n with
    | some ys => if decide (ys.length < 16777216) = true then some (.non, h.set n (.lst (ys ++ [y]))) else none
    | none => none
  | _, _ => none
theorem i_append : ImpM K gAppend rAppend := by
  intro m h H x xs vx vs w h' S R1 R2 e Q q
  unfold gAppend at e
  split at e
  · split at e
    · next ys e1 =>
      split at e
      · next c =>
        cases e
        obtain ⟨v, r, rfl, R2, R3⟩ := R2
        rw [show r = [] from R3]
        obtain ⟨a, us, rfl, ea, t, rs⟩ := S.lst e1 R1
        have L : Le K m m H (upd H a (.lst (us ++ [v]))) := Le.upd t trivial
        refine ⟨a, us, v, rfl, rfl, t, by rw [rs.length, sizeLine_eq]; exact of_decide_eq_true c, q m _ _ L (S.upd ea (lstM_some e1) rfl ?_ rfl) rfl⟩
        exact ⟨_, upd_same, (Reps.mono L _ _ rs).append (Reps.one (Rep.mono L _ _ R2))⟩
      · cases e
    · cases e
  · cases e
def gExtend : GM := fun x xs h => match x, xs with
  | .ref n, [.ref k] => match lstM h n, lstM h k with
    | some ys, some zs => if szOk (ys.length + zs.length) = true then some (.non, h.set n (.lst (ys ++ zs))) else none
    | _, _ => none
  | _, _ => none
theorem i_extend : ImpM K gExtend rExtend := by
  intro m h H x xs vx vs w h' S R1 R2 e Q q
  unfold gExtend at e
  split at e
  · split at e
    · next ys zs e1 e2 =>
      split at e
      · next c =>
        cases e
        obtain ⟨v, r, rfl, R2, R3⟩ := R2
        rw [show r = [] from R3]
        obtain ⟨a, us, rfl, ea, t, rs⟩ := S.lst e1 R1
        obtain ⟨b, us2, rfl, eb, t2, rs2⟩ := S.lst e2 R2
        have L : Le K m m H (upd H a (.lst (us ++ us2))) := Le.upd t trivial
        refine ⟨a, b, us, us2, rfl, rfl, t, t2, by rw [rs.length, rs2.length]; exact szOk_le c, q m _ _ L (S.upd ea (lstM_some e1) rfl ?_ rfl) rfl⟩
        exact ⟨_, upd_same, (Reps.mono L _ _ rs).append (Reps.mono L _ _ rs2)⟩
      · cases e
    · cases e
  · cases e
def gPop : GM := fun x xs h => match x, xs with
  | .ref n, [] => match lstM h n with
    | some ys => match ys[ys.length - 1]? with
      | some y => some (y, h.set n (.lst ys.dropLast))
      | none => none
    | none => none
  | _, _ => none
theorem i_pop : ImpM K gPop rPop := by
  intro m h H x xs vx vs w h' S R1 R2 e Q q
  unfold gPop at e
  split at e
  · split at e
    · next ys e1 =>
      split at e
      · next y e2 =>
        cases e
        obtain ⟨a, us, rfl, ea, t, rs⟩ := S.lst e1 R1
        obtain ⟨v, ev, rv⟩ := rs.get e2
        have L : Le K m m H (upd H a (.lst us.dropLast)) := Le.upd t trivial
        refine ⟨a, us, v, rfl, R2, t, by rw [rs.length]; exact ev, q m _ _ L (S.upd ea (lstM_some e1) rfl ?_ rfl) (Rep.mono L _ _ rv)⟩
        exact ⟨_, upd_same, (Reps.mono L _ _ rs).dropLast⟩
      · cases e
    · cases e
  · cases e
def gClear : GM := fun x xs h => match x, xs with
  | .ref n, [] => match lstM h n with
    | some _ => some (.non, h.set n (.lst []))
    | none => none
  | _, _ => none
theorem i_clear : ImpM K gClear rClear := by
  intro m h H x xs vx vs w h' S R1 R2 e Q q
  unfold gClear at e
  split at e
  · split at e
    · next ys e1 =>
      cases e
      obtain ⟨a, us, rfl, ea, t, rs⟩ := S.lst e1 R1
      have L : Le K m m H (upd H a (.lst [])) := Le.upd t trivial
      exact ⟨a, us, rfl, R2, t, q m _ _ L (S.upd ea (lstM_some e1) rfl (show CellOk K m _ (.lst []) a from ⟨[], upd_same, rfl⟩) rfl) rfl⟩
    · cases e
  · cases e
end
end Mi

/-! Mi: int of a text, repr, a def that is called where no repr is under way, the law's own call. -/
namespace Mi
open PySem PySem.Spec PyProof.Rows L2
theorem hu64 {k : Nat} {A : Around} (hr : Room k A) : A.units + 64 < cLine := by
  have := hr.un
  omega
section
variable {K : PySem.W.Frag}
def gInt3 : GA := fun xs h => match xs with
  | [.int i] => some (.int i, h)
  | [.bl b] => some (.int (if b then 1 else 0), h)
  | [.str z] => match PySem.intText? z with
    | some n => if decide (z.length ≤ 640) = true then some (.int n, h) else none
    | none => none
  | _ => none
def rInt3 : List V → Hp → VK → Prop := fun xs H Q => ((∃ i, xs = [.int i] ∧ Q (.int i) H) ∨ ∃ k, xs = [.bl k] ∧ Q (.int (if k then 1 else 0)) H) ∨ ∃ a n, xs = [.str a] ∧ PySem.intText? a = some n ∧ a.length ≤ 640 ∧ Q (.int n) H
theorem call_int3 {X : Cx} : CallR X (.type "int") rInt3 := call_or call_int1 call_int_str
theorem i_int3 : ImpA K gInt3 rInt3 := by
  intro m h H xs vs w h' S R e Q q
  unfold gInt3 at e
  split at e
  · cases e
    obtain ⟨v, r, rfl, R1, R2⟩ := R
    rw [show r = [] from R2, show v = _ from R1]
    exact .inl (.inl ⟨_, rfl, q m H _ Le.refl S rfl⟩)
  · cases e
    obtain ⟨v, r, rfl, R1, R2⟩ := R
    rw [show r = [] from R2, show v = _ from R1]
    exact .inl (.inr ⟨_, rfl, q m H _ Le.refl S rfl⟩)
  · split at e
    · next n e1 =>
      split at e
      · next c =>
        cases e
        obtain ⟨v, r, rfl, R1, R2⟩ := R
        rw [show r = [] from R2, show v = _ from R1]
        exact .inr ⟨_, n, rfl, e1, of_decide_eq_true c, q m H _ Le.refl S rfl⟩
      · cases e
    · cases e
  · cases e

/-! ### a constant of the module: a tuple of flat values -/
def sameV : W → Value → Bool
  | .non, .none => true
  | .bl a, .bool b => a == b
  | .int i, .int j _ => i == j
  | .str x, .str y _ => x == y
  | _, _ => false
def sameVs : List W → List Value → Bool
  | [], [] => true
  | x :: xs, v :: vs => sameV x v && sameVs xs vs
  | _, _ => false
theorem sameV_ok {m H} : ∀ {x : W} {v : Value}, sameV x v = true → RelV (flV x) v ∧ Rep K m H x (flV x)
  | .non, v, e => by cases v <;> first | exact ⟨rfl, rfl⟩ | cases e
  | .bl a, v, e => by
    cases v <;> try (simp [sameV] at e; done)
    simp only [sameV, beq_iff_eq] at e
    subst e; exact ⟨rfl, rfl⟩
  | .int a, v, e => by
    cases v <;> try (simp [sameV] at e; done)
    simp only [sameV, beq_iff_eq] at e
    subst e; exact ⟨⟨_, rfl⟩, rfl⟩
  | .str a, v, e => by
    cases v <;> try (simp [sameV] at e; done)
    simp only [sameV, beq_iff_eq] at e
    subst e; exact ⟨⟨_, rfl⟩, rfl⟩
  | .tup a, v, e => by cases v <;> cases e
  | .ref a, v, e => by cases v <;> cases e
theorem sameVs_ok {m H} : ∀ {xs : List W} {vs : List Value}, sameVs xs vs = true → Vals (xs.map flV) vs ∧ Reps K m H xs (xs.map flV)
  | [], [], _ => ⟨.nil, rfl⟩
  | [], _ :: _, e => by cases e
  | _ :: _, [], e => by cases e
  | x :: xs, v :: vs, e => by
    unfold sameVs at e
    rw [Bool.and_eq_true] at e
    obtain ⟨a1, a2⟩ := sameV_ok (m := m) (H := H) e.1
    obtain ⟨b1, b2⟩ := sameVs_ok (m := m) (H := H) e.2
    exact ⟨.cons a1 b1, ⟨_, _, rfl, a2, b2⟩⟩
theorem rep_const {a : Addr} {xs : List W} {dd : Option Addr} {its : Array Value} {n : Nat} {sl : Array (Option Value)} (l : K.lookup a = some ⟨.type "tuple", dd, .seq its n, sl⟩) (e : sameVs xs its.toList = true) (hz : szOk its.size = true) : ∀ m H, Rep K m H (.tup xs) (.ref a) := fun m H => by
  obtain ⟨h1, h2⟩ := sameVs_ok (m := m) (H := H) e
  exact ⟨a, _, rfl, .inr ⟨_, its, n, l, rfl, rfl, szOk_le hz, h1⟩, h2⟩

/-! ### repr -/
def rReprD (K : PySem.W.Frag) : List V → Hp → VK → Prop := fun xs H Q => ∃ a d, xs = [.ref a] ∧ Dp K H (.ref a) d ∧ d.showable = true ∧ d.hasDict = false ∧ d.depth ≤ 60 ∧ d.shown.length ≤ sizeLine ∧ Q (.str d.shown) H
theorem call_reprD {X : Cx} (hg : X.A.guards = some []) (hu : X.A.units + 64 < cLine) : CallR X (.builtin "repr") (rReprD X.K) := by
  intro pins s σ H xs us Q I r h
  obtain ⟨a, d, rfl, hd, h1, h2, h3, h4, q⟩ := h
  obtain ⟨u, rfl, rx⟩ := vals1 r
  obtain ⟨as, rd⟩ := Dp.reads I d _ u hd rx
  cases rx
  refine repr_of_reads' rd h1 (fun z => by rw [h2] at z; cases z) hg (by omega) (fun _ _ e => e) (fun h' u tk kp => ?_) h4
  exact ⟨.str _, H, I.kept (h' := h') (t' := tk) kp, ⟨_, rfl⟩, q⟩
def rRepr2 (K : PySem.W.Frag) : List V → Hp → VK → Prop := fun xs H Q => (∃ i, xs = [.int i] ∧ i.natAbs.log2 < 1920 ∧ Q (.str (toString i)) H) ∨ rReprD K xs H Q
theorem call_reprI {X : Cx} : CallR X (.builtin "repr") (fun xs H Q => ∃ i, xs = [.int i] ∧ i.natAbs.log2 < 1920 ∧ Q (.str (toString i)) H) := fun pins s σ H xs us Q I r ⟨i, e, hz, q⟩ => by
  subst e
  obtain ⟨u, e, t, e2⟩ := vals1 r
  subst e; subst e2
  exact PySem.P.repr_of_int hz ⟨.str _, H, I.tok _, ⟨_, rfl⟩, q⟩
theorem call_repr2 {X : Cx} (hg : X.A.guards = some []) (hu : X.A.units + 64 < cLine) : CallR X (.builtin "repr") (rRepr2 X.K) := call_or call_reprI (call_reprD hg hu)
def isBox : W → Bool
  | .tup _ => true
  | .ref _ => true
  | _ => false
def gRepr : GA := fun xs h => match xs with
  | [.int i] => if decide (i.natAbs.log2 < 1920) = true then some (.str (toString i), h) else none
  | [x] => match toD h 60 x with
    | some d => if (isBox x && d.showable && !d.hasDict && decide (d.depth ≤ 60) && szOk d.shown.length) = true then some (.str d.shown, h) else none
    | none => none
  | _ => none
theorem i_repr2 : ImpA K gRepr (rRepr2 K) := by
  intro m h H xs vs w h' S R e Q q
  unfold gRepr at e
  split at e
  · split at e
    · next c =>
      cases e
      obtain ⟨v, r, rfl, R1, R2⟩ := R
      rw [show r = [] from R2, show v = _ from R1]
      exact .inl ⟨_, rfl, of_decide_eq_true c, q m H _ Le.refl S rfl⟩
    · cases e
  · next x _ =>
    split at e
    · next d e1 =>
      split at e
      · next c =>
        cases e
        simp only [Bool.and_eq_true, Bool.not_eq_true', decide_eq_true_eq] at c
        obtain ⟨v, r, rfl, R1, R2⟩ := R
        rw [show r = [] from R2]
        have hd := toD_ok S _ _ _ _ R1 e1
        obtain ⟨a, rfl⟩ : ∃ a, v = .ref a := by
          cases x <;> try (simp [isBox] at c; done)
          · obtain ⟨a, vs, rfl, _⟩ := R1; exact ⟨a, rfl⟩
          · obtain ⟨a, _, rfl⟩ := R1; exact ⟨a, rfl⟩
        exact .inr ⟨a, d, rfl, hd, c.1.1.1.2, c.1.1.2, c.1.2, szOk_le c.2, q m H _ Le.refl S rfl⟩
      · cases e
    · cases e
  · cases e
end

/-! ### a def's promise where no repr is under way -/
def FnOkG (P : Program) (w : World) (K : PySem.W.Frag) (mg : Str → Option Value) (base : Heap) (CX : CXT) (k : Nat) (f : Addr) (fd : FuncData) (ps : List Str) (sp : Sp) : Prop :=
  ∀ (A : Around) (outer : List Env) (s : Shared) (H : Hp) (args : Args) (us : List Value) (vs : List V) (Q : VK) (E : XK), A.guards = some [] → Room k A → Env0 P w K mg base A outer s H → BindsTo s fd args (ps.zip us) → Vals vs us → sp vs H Q E →
    codeAny (model P w) A (.call (.ref f) args) (CR CX outer P w H s Q E) s
section
variable {P : Program} {w : World} {K : PySem.W.Frag} {mg : Str → Option Value} {base : Heap}
theorem def_okG {x qual : Str} {st : Stmt} {f : Addr} {fd : FuncData} {N ps : List Str} {k : Nat} {B : MSt} (F : Fun K x qual st f fd) (S : FnScope N ps (defScope st))
    (hb : ∀ (cdv : Value) (A : Around) (outer : List Env) (s : Shared) (H : Hp) (E : XK), Room k (A.deeper (envOfC qual (defScope st) s.heap.objs.size f cdv)) → (A.deeper (envOfC qual (defScope st) s.heap.objs.size f cdv)).guards = some [] →
      PSs (cxOf CX0 P w K mg base N qual (defScope st) f cdv A outer s H E).nox (defBody st) (tMS K B)) : FnOkG P w K mg base CX0 (k + 1) f fd ps (spM K ps.length (mDef N.length B)) := by
  obtain ⟨oc, od, kV, doc, pm, an, cdv, ct, osl, rfl, lk, hcd⟩ := F.ex
  intro A outer s H args us vs Q E gd hr e0 bt rv hsp
  obtain ⟨hl, n, hh, m, ws, r, h', Sm0, R, e, q⟩ := hsp
  have KX : K.In s.heap := e0.mod.kin.keeps fun b o z => (e0.bs b o z).1
  have lim : s.heap.NoLimit := e0.mod.nolimit.keeps fun b o z => (e0.bs b o z).1
  have hkind : ∀ y ∈ ps.zip us, (defScope st).names.lookup y.1 = some .local ∨ ((defScope st).names.lookup y.1 = some .cell ∧ ((cellsFrom (s.heap.objs.size + 1) (defScope st).names []).lookup y.1).isSome = true) := by
    rintro ⟨y, v⟩ hy
    rcases S.par y (List.of_mem_zip hy).1 with z | z
    · exact .inl z
    · exact .inr ⟨z, PySem.W.cellsFrom_some _ _ _ (.inl z)⟩
  refine codeAny_call_function hr.depth (KX _ _ lk) rfl S.co S.gen rfl (PySem.W.codeRec_of KX hcd) (bt _ _ _ _ ?_)
  refine wpAny_newFunctionEnv_cells S.kind hkind fun env he s1 x => ?_
  subst he
  refine ⟨lim.keeps x.toInCall.keep, codeAny_func ?_⟩
  have I := inv_start (CX := CX0) (P := P) (w := w) (mg := mg) (E := E) S hr.hd e0 hl rv x
  have ht := (hb cdv A outer s H E (hr.deeper _) gd).nox
  have hle : (L2.start N vs).length = (ws.map some ++ List.replicate (N.length - ws.length) (none : Option W)).length := by
    unfold L2.start
    simp [R.length]
  have out : ∀ {σ' : L2.St} {H' : Hp} {v : V} {u : Value} {s' : Shared}, Inv (cxOf CX0 P w K mg base N qual (defScope st) f cdv A outer s H E) [] σ' H' s' → RelV v u → Q v H' → CE outer P w H s Q u s' :=
    fun {_ H' v u s'} J r2 q2 => ⟨v, H', J.os, J.bare, J.base, J.hok, r2, q2⟩
  have hq : (tMS K B) { nx := fun _ H' => Q .non H', rt := Q } (L2.start N vs) H := by
    unfold mDef at e
    split at e
    · next r' s' h'' e1 =>
      cases e
      exact ⟨n, _, hh, m, .rt r, s', h', ⟨Sm0, rs_start R, hle.symm⟩, e1, fun m1 H1 σ1 L1 I1 v R1 => q m1 H1 v L1 I1.sm R1⟩
    · next s' h'' e1 =>
      cases e
      exact ⟨n, _, hh, m, .nx, s', h', ⟨Sm0, rs_start R, hle.symm⟩, e1, fun m1 H1 σ1 L1 I1 => q m1 H1 .non L1 I1.sm rfl⟩
    · cases e
  refine wpAny_mono (ht.run [] s1 (L2.start N vs) H _ I hq) (fun fl s' hs => ?_) fun _ _ z => z
  cases fl with
  | ret u => obtain ⟨v, σ', H', J, r2, q2⟩ := hs; exact out J r2 q2
  | next => obtain ⟨σ', H', J, q2⟩ := hs; exact out (v := V.non) (u := Value.none) J rfl q2
  | brk => obtain ⟨_, _, _, z⟩ := hs; exact z.elim
  | cont => obtain ⟨_, _, _, z⟩ := hs; exact z.elim

/-! ### the law's own call -/
/-- what is known of the script's object, and of what is tracked when the law is called -/
structure Scr (K : PySem.W.Frag) (g : Heap) (a : Addr) (ns : List Int) (H : Hp) : Prop where
  frz : Frz K H a (ns.map V.int)
  only : ∀ b u, H b = some u → b = a ∧ ∃ o, g.get? a = some o ∧ u = .frz o (.lst (ns.map V.int))
  apart : ∀ u, H a = some u → K.lookup a = none
theorem Scr.hok {P : Program} {w : World} {g : Heap} {a : Addr} {ns : List Int} {H : Hp} (S : Scr K g a ns H) {vs : List Value} (ha : g.get? a = some { cls := .type "list", data := .seq vs.toArray }) (rv : Vals (ns.map V.int) vs) (hl : ns.length ≤ sizeLine) : HOk P w H g := fun b u e => by
  obtain ⟨eb, o, eo, eu⟩ := S.only b u e
  subst eb; subst eu
  rw [ha] at eo; cases eo
  exact ⟨ha, by rw [List.length_map]; exact hl, vs, _, rv, ha⟩
theorem law_callG {mb : Str → Option Value} {k : Nat} {fa a : Addr} {fd : FuncData} {x : Str} {sp : Sp} {s₁ : Shared} {vs : List Value} {ns : List Int} (KX : K.In s₁.heap) (hns : s₁.heap.Ns mainGlobals mg) (hb : s₁.heap.Ns builtinsNs mb) (hbb : ∀ x : Str, x ≠ "__name__" → mb x = bootBuiltins x)
    (hlim : s₁.heap.NoLimit) (hg : s₁.gens = #[]) (ha : s₁.heap.get? a = some { cls := .type "list", data := .seq vs.toArray }) (hi : IntsAre vs ns) (hl : ns.length ≤ sizeLine) (hr : Room k callerA)
    (F : ∀ g : Heap, K.In g → g.Ns mainGlobals mg → FnOkG P w K mg g CX0 k fa fd [x] sp) (hbind : ∀ (s : Shared) (u : Value), BindsTo s fd ⟨[u], []⟩ [(x, u)])
    (hsp : ∀ H : Hp, Frz K H a (ns.map V.int) → sp [.ref a] H (fun v _ => v = .bl true) fun _ _ _ => False) :
    codeAny (model P w) callerA (.call (.ref fa) ⟨[.ref a], []⟩) (fun r s' => r = .ok (.ret (.bool true)) ∧ OldK s₁.heap s'.heap ∧ s'.os = s₁.os ∧ AllBare s'.gens) s₁ := by
  have rv := vals_ints hi
  obtain ⟨H, S⟩ : ∃ H, Scr K s₁.heap a ns H := by
    cases hk : K.lookup a with
    | some o =>
      have e := KX a o hk
      rw [ha] at e; cases e
      exact ⟨fun _ => none, .inr ⟨_, vs.toArray, _, hk, rfl, rfl, rfl, by rw [List.size_toArray, hi.length]; exact hl, by simpa using rv⟩, fun b u z => absurd z (by simp), fun u z => absurd z (by simp)⟩
    | none =>
      refine ⟨fun b => if b = a then some (.frz { cls := .type "list", data := .seq vs.toArray } (.lst (ns.map V.int))) else none, .inl ⟨_, if_pos rfl⟩, fun b u z => ?_, fun _ _ => hk⟩
      by_cases q : b = a
      · rw [if_pos q] at z; cases z; exact ⟨q, _, ha, rfl⟩
      · rw [if_neg q] at z; cases z
  have ok : HOk P w H s₁.heap := S.hok ha rv hl
  -- what is no list stands in the base
  have keepD : ∀ {b : Addr} {o : Obj} {es : Array DictEntry} {ep : Nat}, s₁.heap.get? b = some o → o.data = .dict es ep → H b = none := fun {b o es ep} e d => by
    cases q : H b with
    | none => rfl
    | some u =>
      obtain ⟨eb, _⟩ := S.only b u q
      rw [eb, ha] at e; cases e; cases d
  have toB : ∀ {b : Addr} {f : Str → Option Value}, s₁.heap.Ns b f → (hidT s₁.heap H).Ns b f := fun {b f} z => by
    obtain ⟨o, es, ep, e, d, r⟩ := z
    exact ⟨o, es, ep, hidT_get e (keepD e d), d, r⟩
  have inB : K.In (hidT s₁.heap H) := fun b o e => hidT_get (KX b o e) (by
    cases q : H b with
    | none => rfl
    | some u =>
      obtain ⟨eb, _⟩ := S.only b u q
      rw [eb] at e q
      rw [S.apart u q] at e; cases e)
  obtain ⟨mc, l1, l2⟩ := hlim
  have M : Mod K mg (hidT s₁.heap H) := ⟨inB, toB hns, ⟨mb, toB hb, hbb⟩, ⟨mc, toB l1, l2⟩⟩
  have e0 : Env0 P w K mg (hidT s₁.heap H) callerA [] s₁ H := ⟨rfl, M, fun b o e => of_hidT e, Nat.le_of_eq (hidT_size _ _), trivial, fun b z => absurd z (by simp [frs]), ok, .of_eq hg⟩
  refine codeAny_mono (F _ inB (toB hns) callerA [] s₁ H ⟨[.ref a], []⟩ [.ref a] [.ref a] _ _ rfl hr e0 (hbind s₁ (.ref a)) (.cons rfl .nil) (hsp H S.frz)) fun r s' h => ?_
  rcases r with e | fl
  · exact h.elim
  · cases fl with
    | ret u =>
      obtain ⟨v, H', os, bare, un, hok', rr, q⟩ := h
      have q' : v = .bl true := q
      subst q'
      obtain rfl : u = Value.bool true := rr
      refine ⟨rfl, OldK.of_keep fun b o e => ?_, os, bare⟩
      cases q : H b with
      | none => exact un.keep b o e q (by simp [frs]) (by simp)
      | some u =>
        obtain ⟨eb, ob, eo, eu⟩ := S.only b u q
        subst eu
        have z2 := un.frzs b ob _ q
        obtain ⟨e2, _⟩ := hok' b _ z2
        rw [← eb, e] at eo; cases eo
        exact e2
    | next => exact h.elim
    | brk => exact h.elim
    | cont => exact h.elim
end
theorem walk_ofG {l : PySem.W.OpenLaw} {n k : Nat} {q : Program} {loose : List Str} {XP : (Str → Option Value) → Heap → Prop} {YP : World → Heap → Prop} {d : DefRec} {K : Params → PySem.W.Frag} {F : MF} {x : Str} (hn : l.most = some n) (hn2 : n ≤ sizeLine) (hdf : d.params.defaults = []) (hr : Room k callerA)
    (hY : ∀ (w : World) (h : Heap), YP w h → (K w.params).In h)
    (hF : ∀ (w : World) (mg : Str → Option Value) (fa : Addr) (h : Heap), (K w.params).In h → h.Ns mainGlobals mg → mg d.name = some (.ref fa) → ∃ fd : FuncData, (∀ (s : Shared) (u : Value), BindsTo s fd ⟨[u], []⟩ [(x, u)]) ∧
        ∀ g : Heap, (K w.params).In g → g.Ns mainGlobals mg → FnOkG l.prog w (K w.params) mg g CX0 k fa fd [x] (spM (K w.params) 1 F))
    (law : ∀ ns : List Int, ns.length ≤ n → ∃ fuel h', F fuel [.ref 0] [.fz (ns.map .int)] = some (.bl true, h')) : PySem.W.WalkO q loose XP YP l.row.toRowW d [] (fun f vs => PySem.call f vs) := by
  refine Att.attach_call hn hdf fun w s₀ s₁ mg mb fa o pm cd doc a vs ns G Y ho hd hcd hmg hobj hints hlen hg => ?_
  obtain ⟨fd, hb, h2⟩ := hF w mg fa _ (hY w _ Y) G.T.g hmg
  refine law_callG (hY w _ Y) G.T.g G.T.b G.T.builtins G.T.nolimit hg hobj hints (Nat.le_trans hlen hn2) hr h2 hb fun H hz => ?_
  obtain ⟨fuel, h', e⟩ := law ns hlen
  have rints : ∀ (m : List Addr) (xs : List Int), Reps (K w.params) m H (xs.map .int) (xs.map V.int) := fun m xs => by
    induction xs with
    | nil => rfl
    | cons x r ih => exact ⟨_, _, rfl, rfl, ih⟩
  refine ⟨rfl, fuel, [.fz (ns.map .int)], [a], [.ref 0], _, h', ⟨rfl, fun i j b c d' e1 e2 e3 e4 m1 m2 => ?_, fun i b c e1 e2 => ?_⟩, ⟨_, _, rfl, ⟨a, rfl, rfl⟩, rfl⟩, e, fun m' H' v L S' R => R⟩
  · cases i with
    | zero => cases e3; cases m1
    | succ i => simp at e3
  · cases i with
    | zero => cases e2; cases e1; exact ⟨_, hz, rints _ ns⟩
    | succ i => simp at e2
end Mi

/-! What loops of the evaluator come to; what a run leaves of the cells. -/
namespace Mi
open PySem L2
/-- cells that stood stand -/
structure Ext (h h' : MH) : Prop where
  len : h.length ≤ h'.length
  keep : ∀ i, i < h.length → h'[i]? = h[i]?
theorem Ext.refl (h : MH) : Ext h h := ⟨Nat.le_refl _, fun _ _ => rfl⟩
theorem Ext.trans {a b c : MH} (x : Ext a b) (y : Ext b c) : Ext a c := ⟨Nat.le_trans x.len y.len, fun i hi => (y.keep i (Nat.lt_of_lt_of_le hi x.len)).trans (x.keep i hi)⟩
theorem Ext.app (h l : MH) : Ext h (h ++ l) := ⟨by simp, fun i hi => List.getElem?_append_left hi⟩
theorem Ext.get {h h' : MH} (x : Ext h h') {i : Nat} {c : Cell} (e : h[i]? = some c) : h'[i]? = some c := by
  have hi : i < h.length := by
    rcases Nat.lt_or_ge i h.length with q | q
    · exact q
    · rw [List.getElem?_eq_none q] at e; cases e
  rw [x.keep i hi, e]
theorem lt_of_get {α : Type} {l : List α} {i : Nat} {c : α} (e : l[i]? = some c) : i < l.length := by
  rcases Nat.lt_or_ge i l.length with q | q
  · exact q
  · rw [List.getElem?_eq_none q] at e; cases e
/-- a cell behind h is changed -/
theorem Ext.set {h h' : MH} (x : Ext h h') {d : Nat} {c : Cell} (hd : h.length ≤ d) : Ext h (h'.set d c) := ⟨by rw [List.length_set]; exact x.len, fun i hi => by
  rw [List.getElem?_set_ne (by omega)]; exact x.keep i hi⟩
/-- the same but for the cell at b, a box of three ints -/
def IsBox (h : MH) (b : Nat) : Prop := ∃ a s c : Int, h[b]? = some (.lst [.int a, .int s, .int c])
structure Bx (b : Nat) (h h' : MH) : Prop where
  len : h.length ≤ h'.length
  keep : ∀ i, i < h.length → i ≠ b → h'[i]? = h[i]?
  box : IsBox h' b
theorem Bx.refl {b : Nat} {h : MH} (q : IsBox h b) : Bx b h h := ⟨Nat.le_refl _, fun _ _ _ => rfl, q⟩
theorem Bx.trans {b : Nat} {a c d : MH} (x : Bx b a c) (y : Bx b c d) : Bx b a d := ⟨Nat.le_trans x.len y.len, fun i hi hb => (y.keep i (Nat.lt_of_lt_of_le hi x.len) hb).trans (x.keep i hi hb), y.box⟩
theorem Bx.ext {b : Nat} {a c d : MH} (x : Bx b a c) (y : Ext c d) : Bx b a d := ⟨Nat.le_trans x.len y.len, fun i hi hb => (y.keep i (Nat.lt_of_lt_of_le hi x.len)).trans (x.keep i hi hb), by
  obtain ⟨p, q, r, e⟩ := x.box
  exact ⟨p, q, r, y.get e⟩⟩
theorem Ext.bx {b : Nat} {a c d : MH} (x : Ext a c) (y : Bx b c d) : Bx b a d := ⟨Nat.le_trans x.len y.len, fun i hi hb => (y.keep i (Nat.lt_of_lt_of_le hi x.len) hb).trans (x.keep i hi), y.box⟩
theorem Bx.get {b : Nat} {h h' : MH} (x : Bx b h h') {i : Nat} {c : Cell} (e : h[i]? = some c) (hb : i ≠ b) : h'[i]? = some c := by
  rw [x.keep i (lt_of_get e) hb, e]
theorem Bx.set {b : Nat} {h h' : MH} (x : Bx b h h') {d : Nat} {c : Cell} (hd : h.length ≤ d) (hb : d ≠ b) : Bx b h (h'.set d c) := ⟨by rw [List.length_set]; exact x.len, fun i hi hib => by
  rw [List.getElem?_set_ne (by omega)]; exact x.keep i hi hib, by
  obtain ⟨p, q, r, e⟩ := x.box
  exact ⟨p, q, r, by rw [List.getElem?_set_ne hb]; exact e⟩⟩
theorem get_snoc_self {h : MH} {c : Cell} : (h ++ [c])[h.length]? = some c := by simp

theorem var_at {s : MS} {i n : Nat} {h : MH} {w : W} (e : s[i]? = some (some w)) : mVar i n s h = some (w, h) := by
  unfold mVar; rw [e]
/-- a comprehension over what stands still -/
theorem lc_run {src : Src} {xs : List W} {p : Pat} {t : MT} {f : M} {n d : Nat} {s0 : MS} (I : Nat → List W → MH → Prop) (hget : ∀ i acc h, I i acc h → h[d]? = some (.lst acc) → src.get h i = some xs[i]?)
    (turn : ∀ i x acc h, xs[i]? = some x → I i acc h → h[d]? = some (.lst acc) → ∃ s1, mPat p x s0 = some s1 ∧
      ((∃ h1, t n s1 h = some (false, h1) ∧ h1[d]? = some (.lst acc) ∧ I (i + 1) acc h1) ∨
       (∃ h1 y h2, t n s1 h = some (true, h1) ∧ f n s1 h1 = some (y, h2) ∧ h2[d]? = some (.lst acc) ∧ acc.length < 16777216 ∧ I (i + 1) (acc ++ [y]) (h2.set d (.lst (acc ++ [y])))))) :
    ∀ (k i : Nat) (acc : List W) (h : MH), i ≤ xs.length → xs.length - i < k → I i acc h → h[d]? = some (.lst acc) → ∃ acc' h', lcloop src p t f n d s0 k i h = some (.ref d, h') ∧ h'[d]? = some (.lst acc') ∧ I xs.length acc' h' := by
  intro k
  induction k with
  | zero => intro i acc h _ hk; omega
  | succ k ih =>
    intro i acc h hi hk hI hd
    unfold lcloop
    rw [hget i acc h hI hd]
    by_cases hlt : i < xs.length
    · have ex : xs[i]? = some xs[i] := List.getElem?_eq_getElem hlt
      rw [ex]
      obtain ⟨s1, e1, hh⟩ := turn i _ acc h ex hI hd
      simp only [e1]
      rcases hh with ⟨h1, e2, hd1, I1⟩ | ⟨h1, y, h2, e2, e3, hd2, hz, I2⟩
      · simp only [e2]
        exact ih (i + 1) acc h1 (by omega) (by omega) I1 hd1
      · simp only [e2, e3]
        have ep : pushAt h2 d y = some (h2.set d (.lst (acc ++ [y]))) := by
          unfold pushAt
          rw [hd2]
          simp [hz]
        simp only [ep]
        exact ih (i + 1) _ _ (by omega) (by omega) I2 (by rw [List.getElem?_set_self (lt_of_get hd2)])
    · have : i = xs.length := by omega
      subst this
      rw [List.getElem?_eq_none (Nat.le_refl _)]
      exact ⟨acc, h, rfl, hd, hI⟩
/-- a for loop over what stands still, its body going on -/
theorem f_run {src : Src} {xs : List W} {g : MG} {b : MSt} {n : Nat} (I : Nat → MS → MH → Prop) (hget : ∀ i s h, I i s h → src.get h i = some xs[i]?)
    (turn : ∀ i x s h, xs[i]? = some x → I i s h → ∃ s1 h1, g n x s h = some (s1, h1) ∧ ∃ s2 h2, (b n s1 h1 = some (.nx, s2, h2) ∨ b n s1 h1 = some (.ct, s2, h2)) ∧ I (i + 1) s2 h2) :
    ∀ (k i : Nat) (s : MS) (h : MH), i ≤ xs.length → xs.length - i < k → I i s h → ∃ s' h', floop src g b n k i s h = some (.nx, s', h') ∧ I xs.length s' h' := by
  intro k
  induction k with
  | zero => intro i s h _ hk; omega
  | succ k ih =>
    intro i s h hi hk hI
    unfold floop
    rw [hget i s h hI]
    by_cases hlt : i < xs.length
    · have ex : xs[i]? = some xs[i] := List.getElem?_eq_getElem hlt
      rw [ex]
      obtain ⟨s1, h1, e1, s2, h2, e2, I2⟩ := turn i _ s h ex hI
      simp only [e1]
      rcases e2 with e2 | e2
      · simp only [e2]; exact ih (i + 1) s2 h2 (by omega) (by omega) I2
      · simp only [e2]; exact ih (i + 1) s2 h2 (by omega) (by omega) I2
    · have : i = xs.length := by omega
      subst this
      rw [List.getElem?_eq_none (Nat.le_refl _)]
      exact ⟨s, h, rfl, hI⟩
theorem get_items {xs : List W} {h : MH} {i : Nat} : (Src.items xs).get h i = some xs[i]? := rfl
theorem get_cell {n : Nat} {xs : List W} {h : MH} {i : Nat} (e : h[n]? = some (.lst xs)) : (Src.cell n).get h i = some xs[i]? := by
  simp [Src.get, Mi.lstAt, e]
theorem lstAt_lst {h : MH} {n : Nat} {xs : List W} (e : h[n]? = some (.lst xs)) : Mi.lstAt h n = some xs := by simp [Mi.lstAt, e]
theorem lstM_lst {h : MH} {n : Nat} {xs : List W} (e : h[n]? = some (.lst xs)) : lstM h n = some xs := by simp [lstM, e]
theorem newL_eq {xs : List W} {h : MH} (hz : xs.length ≤ 16777216) : newL xs h = some (.ref h.length, h ++ [.lst xs]) := by
  simp [newL, szOk, hz]
/-! data of flat lists -/
def flD : W → PyData
  | .non => .none | .bl b => .bool b | .int i => .int i | .str x => .str x | _ => .none
theorem toD_flat {h : MH} {k : Nat} {w : W} (f : flatW w = true) : toD h k w = some (flD w) := by
  cases w <;> first | (unfold toD; rfl) | cases f
theorem toDs_flat {h : MH} {k : Nat} : ∀ {xs : List W}, xs.all flatW = true → toDs h k xs = some (xs.map flD)
  | [], _ => by unfold toDs; rfl
  | x :: xs, f => by
    rw [List.all_cons, Bool.and_eq_true] at f
    unfold toDs
    rw [toD_flat f.1, toDs_flat f.2]; rfl
def okW : W → Bool
  | .non => true | .bl _ => true | .int _ => true | .str x => PyData.strOk x | _ => false
theorem okW_flat {w : W} (f : okW w = true) : flatW w = true := by cases w <;> first | rfl | cases f
theorem lay_flat : ∀ {xs : List W}, xs.all okW = true → PyData.canLayAll0 (xs.map flD) = true ∧ PyData.depthAll (xs.map flD) = 0
  | [], _ => ⟨by simp [PyData.canLayAll0], by simp [PyData.depthAll]⟩
  | x :: xs, f => by
    rw [List.all_cons, Bool.and_eq_true] at f
    obtain ⟨a, b⟩ := lay_flat f.2
    have : (flD x).canLay0 = true ∧ (flD x).depth = 0 := by
      cases x with
      | non => exact ⟨by simp [flD, PyData.canLay0], by simp [flD, PyData.depth]⟩
      | bl _ => exact ⟨by simp [flD, PyData.canLay0], by simp [flD, PyData.depth]⟩
      | int _ => exact ⟨by simp [flD, PyData.canLay0], by simp [flD, PyData.depth]⟩
      | str z => exact ⟨by rw [show flD (.str z) = .str z from rfl, PyData.canLay0]; exact f.1, by simp [flD, PyData.depth]⟩
      | tup _ => cases f.1
      | ref _ => cases f.1
    exact ⟨by simp [PyData.canLayAll0, this.1, a], by simp [PyData.depthAll, this.2, b]⟩
/-- a list's == with an empty one -/
theorem eq_empty {h : MH} {d e : Nat} {xs : List W} (hd : h[d]? = some (.lst xs)) (he : h[e]? = some (.lst [])) (f : xs.all okW = true) : eqW (.ref d) (.ref e) h = some xs.isEmpty := by
  have f2 : xs.all flatW = true := List.all_eq_true.mpr fun x hx => okW_flat (List.all_eq_true.mp f x hx)
  obtain ⟨a, b⟩ := lay_flat f
  have e1 : toD h 64 (.ref d) = some (.list (xs.map flD)) := by
    unfold toD; rw [lstAt_lst hd]; simp [toDs_flat f2]
  have e2 : toD h 64 (.ref e) = some (.list []) := by
    unfold toD; rw [lstAt_lst he]; simp [toDs]
  show eqD _ _ _ = _
  unfold eqD
  rw [e1, e2]
  have s1 : SeqAt.shaped (.list (xs.map flD)) = true := by simp [SeqAt.shaped, PyData.canLay0, PyData.depth, a, b]
  have s2 : SeqAt.shaped (.list []) = true := by simp [SeqAt.shaped, PyData.canLay0, PyData.canLayAll0, PyData.depth, PyData.depthAll]
  simp only [s1, s2, Bool.and_self, if_true]
  cases xs with
  | nil => simp [PyData.eqv, PyData.eqvAll]
  | cons x r => simp [PyData.eqv, PyData.eqvAll]
/-- == of two texts -/
theorem eq_strs {h : MH} {x y : Str} (_ : PyData.strOk x = true) (_ : PyData.strOk y = true) : eqW (.str x) (.str y) h = some (x == y) := by
  unfold eqW
  simp only [Option.some.injEq]
  by_cases z : x = y
  · subst z; simp
  · rw [decide_eq_false z]
    exact (beq_eq_false_iff_ne.mpr z).symm
theorem eq_ints {h : MH} {x y : Int} : eqW (.int x) (.int y) h = some (x == y) := by
  show eqD _ _ _ = _
  unfold eqD
  rw [toD_flat rfl, toD_flat rfl]
  simp [flD, SeqAt.shaped, PyData.canLay0, PyData.depth, PyData.eqv]
end Mi

/-! Mi8: dicts of numbers and texts, walks over them, isinstance. -/
namespace Mi
open PySem PySem.Spec PyProof.Rows L2
section
variable {K : PySem.W.Frag} {m : List Addr} {h : MH} {H : Hp}
def keyW : W → Option Key
  | .int i => some (.inl i)
  | .str x => some (.inr x)
  | _ => none
def wK : Key → W
  | .inl i => .int i
  | .inr x => .str x
theorem keyW_rep {x : W} {v : V} {k : Key} (R : Rep K m H x v) (e : keyW x = some k) : v = kV k := by
  cases x <;> first | cases e; done | (cases e; exact R)
theorem wK_rep {k : Key} : Rep K m H (wK k) (kV k) := by cases k <;> rfl
def getW (kvs : List (Key × W)) (k : Key) : Option W := (kvs.find? fun kv => decide (kv.1 = k)).map (·.2)
def putW (kvs : List (Key × W)) (k : Key) (w : W) : List (Key × W) :=
  if (kvs.any fun kv => decide (kv.1 = k)) = true then kvs.map (fun kv => if kv.1 = k then (kv.1, w) else kv) else kvs ++ [(k, w)]
def mergeW (kvs more : List (Key × W)) : List (Key × W) := more.foldl (fun acc kv => putW acc kv.1 kv.2) kvs
theorem RepKV.get : ∀ {kvs : List (Key × W)} {us : List (Key × V)} (k : Key), RepKV K m H kvs us → (∃ w v, getW kvs k = some w ∧ valV us k = some v ∧ Rep K m H w v) ∨ (getW kvs k = none ∧ valV us k = none)
  | [], _, k, h => by rw [show _ = ([] : List (Key × V)) from h]; exact .inr ⟨rfl, rfl⟩
  | (k', w) :: r, _, k, h => by
    obtain ⟨v, s, rfl, h1, h2⟩ := h
    by_cases e : k' = k
    · exact .inl ⟨w, v, by simp [getW, e], valV_pos e, h1⟩
    · have := RepKV.get k h2
      rw [valV_neg (p := (k', v)) e, show getW ((k', w) :: r) k = getW r k by simp [getW, List.find?_cons, e]]
      exact this
theorem RepKV.length : ∀ {kvs : List (Key × W)} {us : List (Key × V)}, RepKV K m H kvs us → us.length = kvs.length
  | [], _, h => by rw [show _ = ([] : List (Key × V)) from h]; rfl
  | (k', w) :: r, _, h => by
    obtain ⟨v, s, rfl, h1, h2⟩ := h
    simp [RepKV.length h2]
theorem RepKV.any {k : Key} : ∀ {kvs : List (Key × W)} {us : List (Key × V)}, RepKV K m H kvs us → (us.any fun kv => decide (kv.1 = k)) = (kvs.any fun kv => decide (kv.1 = k))
  | [], _, h => by rw [show _ = ([] : List (Key × V)) from h]; rfl
  | (k', w) :: r, _, h => by
    obtain ⟨v, s, rfl, h1, h2⟩ := h
    simp [RepKV.any h2]
theorem RepKV.mapPut {k : Key} {x : W} {y : V} (R : Rep K m H x y) : ∀ {kvs : List (Key × W)} {us : List (Key × V)}, RepKV K m H kvs us → RepKV K m H (kvs.map (fun kv => if kv.1 = k then (kv.1, x) else kv)) (us.map (fun kv => if kv.1 = k then (kv.1, y) else kv))
  | [], _, h => by rw [show _ = ([] : List (Key × V)) from h]; rfl
  | (k', w) :: r, _, h => by
    obtain ⟨v, s, rfl, h1, h2⟩ := h
    by_cases e : k' = k
    · simp only [List.map_cons, e, if_true]
      exact ⟨y, _, rfl, R, RepKV.mapPut R h2⟩
    · simp only [List.map_cons, e, if_false]
      exact ⟨v, _, rfl, h1, RepKV.mapPut R h2⟩
theorem RepKV.append : ∀ {xs ys : List (Key × W)} {us vs : List (Key × V)}, RepKV K m H xs us → RepKV K m H ys vs → RepKV K m H (xs ++ ys) (us ++ vs)
  | [], _, _, _, h, g => by rw [show _ = ([] : List (Key × V)) from h]; exact g
  | (k', w) :: r, _, _, _, h, g => by
    obtain ⟨v, s, rfl, h1, h2⟩ := h
    exact ⟨v, _, rfl, h1, RepKV.append h2 g⟩
theorem RepKV.put {kvs : List (Key × W)} {us : List (Key × V)} {k : Key} {x : W} {y : V} (h : RepKV K m H kvs us) (R : Rep K m H x y) : RepKV K m H (putW kvs k x) (putK us k y) := by
  unfold putW putK
  rw [h.any]
  split
  · exact h.mapPut R
  · exact h.append ⟨y, [], rfl, R, rfl⟩
theorem RepKV.merge : ∀ {more : List (Key × W)} {ms : List (Key × V)} {kvs : List (Key × W)} {us : List (Key × V)}, RepKV K m H more ms → RepKV K m H kvs us → RepKV K m H (mergeW kvs more) (mergeK us ms)
  | [], _, _, _, h, g => by rw [show _ = ([] : List (Key × V)) from h]; exact g
  | (k', w) :: r, _, kvs, us, h, g => by
    obtain ⟨v, s, rfl, h1, h2⟩ := h
    exact RepKV.merge (kvs := putW kvs k' w) (us := putK us k' v) h2 (g.put h1)
theorem RepKV.keys : ∀ {kvs : List (Key × W)} {us : List (Key × V)}, RepKV K m H kvs us → us.map (·.1) = kvs.map (·.1)
  | [], _, h => by rw [show _ = ([] : List (Key × V)) from h]; rfl
  | (k', w) :: r, _, h => by
    obtain ⟨v, s, rfl, h1, h2⟩ := h
    simp [RepKV.keys h2]

/-- a dict that is read -/
def dicAt (h : MH) (n : Nat) : Option (List (Key × W)) := match h[n]? with
  | some (.dic kvs) => some kvs
  | some (.fd kvs) => some kvs
  | _ => none
def dicM (h : MH) (n : Nat) : Option (List (Key × W)) := match h[n]? with
  | some (.dic kvs) => some kvs
  | _ => none
theorem dicM_some {n : Nat} {kvs} (e : dicM h n = some kvs) : h[n]? = some (.dic kvs) := by
  unfold dicM at e
  split at e
  · next k q => cases e; exact q
  · cases e
theorem Sm.dicA {n kvs vx} (S : Sm K m h H) (e : dicAt h n = some kvs) (R : Rep K m H (.ref n) vx) : ∃ a us, vx = .ref a ∧ m[n]? = some a ∧ Rd H a (.dK us) ∧ RepKV K m H kvs us := by
  obtain ⟨a, ea, rfl⟩ := R
  unfold dicAt at e
  split at e
  · next k q =>
    cases e
    obtain ⟨us, q1, q2⟩ := S.cell n a _ ea q
    exact ⟨a, us, rfl, ea, .inl q1, q2⟩
  · next k q =>
    cases e
    obtain ⟨o, us, q1, q2⟩ := S.cell n a _ ea q
    exact ⟨a, us, rfl, ea, .inr ⟨o, q1⟩, q2⟩
  · cases e
theorem Sm.dicm {n kvs vx} (S : Sm K m h H) (e : dicM h n = some kvs) (R : Rep K m H (.ref n) vx) : ∃ a us, vx = .ref a ∧ m[n]? = some a ∧ H a = some (.dK us) ∧ RepKV K m H kvs us := by
  obtain ⟨a, ea, rfl⟩ := R
  obtain ⟨us, q1, q2⟩ := S.cell n a _ ea (dicM_some e)
  exact ⟨a, us, rfl, ea, q1, q2⟩
end

section
variable {X : Cx} {a b c e : Expr} {fa fb fc : M} {pos : Pos}
theorem pe_or {t t' : TE} (p : PE X e t) (q : PE X e t') : PE X e (fun σ H Q => t σ H Q ∨ t' σ H Q) := ⟨fun pins s σ H Q I h => h.elim (p.run pins s σ H Q I) (q.run pins s σ H Q I)⟩
theorem pt_or {t t' : TT} (p : PT X e t) (q : PT X e t') : PT X e (fun σ H Q => t σ H Q ∨ t' σ H Q) := ⟨fun pins s σ H Q I h => h.elim (p.run pins s σ H Q I) (q.run pins s σ H Q I)⟩
theorem ps_or {st : Stmt} {t t' : TS} (p : PS X st t) (q : PS X st t') : PS X st (fun D σ H => t D σ H ∨ t' D σ H) := ⟨fun pins s σ H D I h => h.elim (p.run pins s σ H D I) (q.run pins s σ H D I)⟩

/-- {} -/
def mDNew : M := fun _ _ h => some (.ref h.length, h ++ [.dic []])
theorem m_dnew : PE X (.Dict [] [] pos) (tM X.K mDNew) := imp_pe pe_dnewK fun σ H Q ⟨n, s, h, m, w, h', I, e, k⟩ p hp => by
  cases e
  exact k _ _ _ (Le.newC hp) (I.sm.newC hp ⟨[], upd_same, rfl⟩) ⟨p, by rw [← I.sm.len]; simp, rfl⟩

/-! {k: v, ..} -/
abbrev MD := Nat → MS → MH → Option (List (Key × W) × MH)
def mPrs : List (M × M) → MD
  | [] => fun _ _ h => some ([], h)
  | (fk, fv) :: r => fun n s h => match fk n s h with
    | some (x, h1) => match keyW x, fv n s h1 with
      | some k, some (y, h2) => match mPrs r n s h2 with
        | some (l, h3) => some ((k, y) :: l, h3)
        | none => none
      | _, _ => none
    | none => none
def mDisp (prs : List (M × M)) : M := fun n s h => match mPrs prs n s (h ++ [.dic []]) with
  | some (l, h2) => match dicM h2 h.length with
    | some [] => if l.length ≤ 15 then some (.ref h.length, h2.set h.length (.dic (mergeW [] l))) else none
    | _ => none
  | none => none
theorem run_prs {K : PySem.W.Frag} : ∀ (prs : List (M × M)) {n s h m σ H l h2} {Q : List (V × V) → Hp → Prop}, In K m s h σ H → mPrs prs n s h = some (l, h2) →
    (∀ m' H' us, Le K m m' H H' → Sm K m' h2 H' → RepKV K m' H' l us → Q (us.map fun kv => (kV kv.1, kv.2)) H') → tPairs (prs.map fun p => (tM K p.1, tM K p.2)) σ H Q
  | [], n, s, h, m, σ, H, l, h2, Q, I, e, k => by
    cases e
    exact k m H [] Le.refl I.sm rfl
  | (fk, fv) :: r, n, s, h, m, σ, H, l, h2, Q, I, e, k => by
    unfold mPrs at e
    split at e
    · next x h1 e1 =>
      split at e
      · next kk y h3 e2 e3 =>
        split at e
        · next l' h4 e4 =>
          cases e
          refine ⟨n, s, h, m, x, h1, I, e1, fun m1 H1 v L1 S1 R1 => ⟨n, s, h1, m1, y, h3, I.le L1 S1, e3, fun m2 H2 u L2 S2 R2 => ?_⟩⟩
          refine run_prs r (I.le (L1.trans L2) S2) e4 fun m3 H3 us L3 S3 R3 => ?_
          rw [keyW_rep R1 e2]
          exact k m3 H3 ((kk, u) :: us) (L1.trans (L2.trans L3)) S3 ⟨u, us, rfl, Rep.mono L3 _ _ R2, R3⟩
        · cases e
      · cases e
    · cases e
theorem m_disp {keys : List (Option Expr)} {values : List Expr} {prs : List (M × M)} (h : PPs X pos keys values (prs.map fun p => (tM X.K p.1, tM X.K p.2))) (hall : keys.all (·.isSome) = true := by rfl) (hl : keys.length = values.length := by rfl)
    (h0 : keys ≠ [] := by decide) (h15 : keys.length ≤ 15 := by decide) : PE X (.Dict keys values pos) (tM X.K (mDisp prs)) := imp_pe (pe_disp h hall hl h0 h15) fun σ H Q ⟨n, s, h, m, w, h', I, e, k⟩ p hp => by
  unfold mDisp at e
  split at e
  · next l h2 e1 =>
    split at e
    · next e2 =>
      split at e
      · next hz =>
        cases e
        have L0 : Le X.K m (m ++ [p]) H (upd H p (.dK [])) := Le.newC hp
        have S0 : Sm X.K (m ++ [p]) (h ++ [.dic []]) (upd H p (.dK [])) := I.sm.newC hp ⟨[], upd_same, rfl⟩
        have ep : (m ++ [p])[h.length]? = some p := by rw [← I.sm.len]; simp
        refine run_prs prs (I.le L0 S0) e1 fun m1 H1 us L1 S1 R1 => ?_
        have ep1 := L1.pre _ _ ep
        obtain ⟨us0, q1, q2⟩ := S1.cell _ p _ ep1 (dicM_some e2)
        rw [show us0 = [] from q2] at q1
        have LU : Le X.K m1 m1 H1 (upd H1 p (.dK (mergeK [] us))) := Le.upd q1 trivial
        have R1' := RepKV.mono LU R1
        refine ⟨q1, us, rfl, by rw [R1.length]; exact hz, k m1 _ _ (L0.trans (L1.trans LU)) (S1.upd ep1 (dicM_some e2) rfl (show CellOk X.K m1 _ (.dic (mergeW [] l)) p from ⟨_, upd_same, R1'.merge rfl⟩) rfl) ⟨p, ep1, rfl⟩⟩
      · cases e
    · cases e
  · cases e

/-! d[k], k in d, d.get(k, x) -/
def gIxD (g : G2) : G2 := fun x y h => match x with
  | .ref n => match dicAt h n with
    | some kvs => ((keyW y).bind (getW kvs)).map (·, h)
    | none => g x y h
  | _ => g x y h
theorem gIxD_cases {g : G2} {x y : W} {h : MH} {r : W × MH} (e : gIxD g x y h = some r) : g x y h = some r ∨ ∃ n kvs k w, x = .ref n ∧ dicAt h n = some kvs ∧ keyW y = some k ∧ getW kvs k = some w ∧ r = (w, h) := by
  unfold gIxD at e
  split at e
  · next n =>
    split at e
    · next kvs e1 =>
      cases hk : keyW y with
      | none => rw [hk] at e; cases e
      | some k =>
        rw [hk] at e
        cases hw : getW kvs k with
        | none => simp [hw] at e
        | some w =>
          simp only [Option.bind_some, hw, Option.map_some, Option.some.injEq] at e
          exact .inr ⟨n, kvs, k, w, rfl, e1, rfl, hw, e.symm⟩
    · exact .inl e
  · exact .inl e
theorem m_ixD {r : R2} {g : G2} (hu : X.A.units + 1 < cLine) (ho : IxR X r) (hi : Imp2 X.K g r) (ha : PE X a (tM X.K fa)) (hb : PE X b (tM X.K fb)) (hs : PlainIx b) : PE X (.Subscript a b pos) (tM X.K (mOp (gIxD g) fa fb)) :=
  imp_pe (pe_or (pe_ix ho ha hb hs) (pe_dget hu ha hb hs)) fun σ H Q q => by
    obtain ⟨n, s, h, m, w, h', I, e, k⟩ := q
    obtain ⟨x, h1, e1, e⟩ := andThen_some e
    obtain ⟨y, h2, e2, e3⟩ := andThen_some e
    rcases gIxD_cases e3 with e4 | ⟨d, kvs, kk, w', rfl, e4, e5, e6, e7⟩
    · refine .inl (run_op hi ⟨n, s, h, m, w, h', I, ?_, k⟩)
      show andThen (fa n s h) _ = _
      rw [e1]; show andThen (fb n s h1) _ = _
      rw [e2]; exact e4
    · cases e7
      refine .inr ⟨n, s, h, m, _, h1, I, e1, fun m1 H1 v L1 S1 R1 => ⟨n, s, h1, m1, y, h', I.le L1 S1, e2, fun m2 H2 u L2 S2 R2 => ?_⟩⟩
      obtain ⟨p, us, rfl, _, rd, rk⟩ := S2.dicA e4 (Rep.mono L2 _ _ R1)
      rcases rk.get kk with ⟨w2, v2, g1, g2, g3⟩ | ⟨g1, _⟩
      · rw [e6] at g1; cases g1
        exact ⟨p, v2, rfl, .inl ⟨us, kk, rd, keyW_rep R2 e5, g2.symm⟩, k m2 H2 v2 (L1.trans L2) S2 g3⟩
      · rw [e6] at g1; cases g1
def gInD (neg : Bool) (g : G2) : G2 := fun x y h => match y with
  | .ref n => match dicAt h n with
    | some kvs => (keyW x).map fun k => (.bl ((getW kvs k).isSome != neg), h)
    | none => g x y h
  | _ => g x y h
theorem gInD_cases {neg : Bool} {g : G2} {x y : W} {h : MH} {r : W × MH} (e : gInD neg g x y h = some r) : g x y h = some r ∨ ∃ n kvs k, y = .ref n ∧ dicAt h n = some kvs ∧ keyW x = some k ∧ r = (.bl ((getW kvs k).isSome != neg), h) := by
  unfold gInD at e
  split at e
  · next n =>
    split at e
    · next kvs e1 =>
      cases hk : keyW x with
      | none => rw [hk] at e; cases e
      | some k =>
        rw [hk] at e
        simp only [Option.map_some, Option.some.injEq] at e
        exact .inr ⟨n, kvs, k, rfl, e1, rfl, e.symm⟩
    · exact .inl e
  · exact .inl e
theorem run_in {neg : Bool} {r : R2} {g : G2} (hi : Imp2 X.K g r) {σ H Q} (q : tM X.K (mOp (gInD neg g) fa fb) σ H Q) : tOp r (tM X.K fa) (tM X.K fb) σ H Q ∨
    tM X.K fa σ H fun y H1 => tM X.K fb σ H1 fun x H2 => ∃ a o, x = .ref a ∧ DGet H2 a y o ∧ Q (.bl (o.isSome != neg)) H2 := by
  obtain ⟨n, s, h, m, w, h', I, e, k⟩ := q
  obtain ⟨x, h1, e1, e⟩ := andThen_some e
  obtain ⟨y, h2, e2, e3⟩ := andThen_some e
  rcases gInD_cases e3 with e4 | ⟨d, kvs, kk, rfl, e4, e5, e7⟩
  · refine .inl (run_op hi ⟨n, s, h, m, w, h', I, ?_, k⟩)
    show andThen (fa n s h) _ = _
    rw [e1]; show andThen (fb n s h1) _ = _
    rw [e2]; exact e4
  · cases e7
    refine .inr ⟨n, s, h, m, _, h1, I, e1, fun m1 H1 v L1 S1 R1 => ⟨n, s, h1, m1, _, h', I.le L1 S1, e2, fun m2 H2 u L2 S2 R2 => ?_⟩⟩
    obtain ⟨p, us, rfl, _, rd, rk⟩ := S2.dicA e4 R2
    have ek := keyW_rep (Rep.mono L2 _ _ R1) e5
    rcases rk.get kk with ⟨w2, v2, g1, g2, g3⟩ | ⟨g1, g2⟩
    · exact ⟨p, some v2, rfl, .inl ⟨us, kk, rd, ek, g2.symm⟩, k m2 H2 _ (L1.trans L2) S2 (by rw [g1]; rfl)⟩
    · exact ⟨p, none, rfl, .inl ⟨us, kk, rd, ek, g2.symm⟩, k m2 H2 _ (L1.trans L2) S2 (by rw [g1]; rfl)⟩
theorem m_inD {r : R2} {g : G2} (hu : X.A.units + 1 < cLine) (ho : OpR X (compareOp .In) r) (hi : Imp2 X.K g r) (ha : PE X a (tM X.K fa)) (hb : PE X b (tM X.K fb)) (hm : behindInMarks .In b = false) : PE X (.Compare a [.In] [b] pos) (tM X.K (mOp (gInD false g) fa fb)) :=
  imp_pe (pe_or (pe_cmpR ho ha hb hm) (pe_cmp (pc_din hu ha hb) hm)) fun σ H Q q => (run_in hi q).imp id fun ⟨n, s, h, m, w, h', I, e, k⟩ => ⟨n, s, h, m, w, h', I, e, fun m1 H1 v L1 S1 R1 => by
    obtain ⟨n, s, h, m, w, h', I, e, k⟩ := k m1 H1 v L1 S1 R1
    refine ⟨n, s, h, m, w, h', I, e, fun m2 H2 u L2 S2 R2 => ?_⟩
    obtain ⟨p, o, e1, e2, e3⟩ := k m2 H2 u L2 S2 R2
    exact ⟨p, o, e1, e2, by simpa using e3⟩⟩
theorem m_notinD {r : R2} {g : G2} (hu : X.A.units + 1 < cLine) (ho : OpR X (compareOp .NotIn) r) (hi : Imp2 X.K g r) (ha : PE X a (tM X.K fa)) (hb : PE X b (tM X.K fb)) (hm : behindInMarks .NotIn b = false) : PE X (.Compare a [.NotIn] [b] pos) (tM X.K (mOp (gInD true g) fa fb)) :=
  imp_pe (pe_or (pe_cmpR ho ha hb hm) (pe_cmp (pc_dnotin hu ha hb) hm)) fun σ H Q q => (run_in hi q).imp id fun ⟨n, s, h, m, w, h', I, e, k⟩ => ⟨n, s, h, m, w, h', I, e, fun m1 H1 v L1 S1 R1 => by
    obtain ⟨n, s, h, m, w, h', I, e, k⟩ := k m1 H1 v L1 S1 R1
    refine ⟨n, s, h, m, w, h', I, e, fun m2 H2 u L2 S2 R2 => ?_⟩
    obtain ⟨p, o, e1, e2, e3⟩ := k m2 H2 u L2 S2 R2
    exact ⟨p, o, e1, e2, by simpa using e3⟩⟩
end
end Mi

/-! Mi9: dicts set, made and walked; locks; isinstance. -/
namespace Mi
open PySem PySem.Spec PyProof.Rows L2
section
variable {X : Cx} {a b c e o : Expr} {fa fb fc fo : M} {pos : Pos}
theorem mt_inD {r : R2} {g : G2} (hu : X.A.units + 1 < cLine) (ho : OpR X (compareOp .In) r) (hi : Imp2 X.K g r) (ha : PE X a (tM X.K fa)) (hb : PE X b (tM X.K fb)) (hm : behindInMarks .In b = false) : PT X (.Compare a [.In] [b] pos) (tMT X.K (mB (mOp (gInD false g) fa fb))) :=
  imp_pt (pt_or (pt_cmpR ho ha hb hm) (pt_cmp (pc_din hu ha hb) hm)) fun σ H Q q => (run_in hi (run_b q)).imp id fun ⟨n, s, h, m, w, h', I, e, k⟩ => ⟨n, s, h, m, w, h', I, e, fun m1 H1 v L1 S1 R1 => by
    obtain ⟨n, s, h, m, w, h', I, e, k⟩ := k m1 H1 v L1 S1 R1
    refine ⟨n, s, h, m, w, h', I, e, fun m2 H2 u L2 S2 R2 => ?_⟩
    obtain ⟨p, o, e1, e2, z, e3, e4⟩ := k m2 H2 u L2 S2 R2
    cases e3
    exact ⟨p, o, e1, e2, _, rfl, by simpa using e4⟩⟩
theorem mt_notinD {r : R2} {g : G2} (hu : X.A.units + 1 < cLine) (ho : OpR X (compareOp .NotIn) r) (hi : Imp2 X.K g r) (ha : PE X a (tM X.K fa)) (hb : PE X b (tM X.K fb)) (hm : behindInMarks .NotIn b = false) : PT X (.Compare a [.NotIn] [b] pos) (tMT X.K (mB (mOp (gInD true g) fa fb))) :=
  imp_pt (pt_or (pt_cmpR ho ha hb hm) (pt_cmp (pc_dnotin hu ha hb) hm)) fun σ H Q q => (run_in hi (run_b q)).imp id fun ⟨n, s, h, m, w, h', I, e, k⟩ => ⟨n, s, h, m, w, h', I, e, fun m1 H1 v L1 S1 R1 => by
    obtain ⟨n, s, h, m, w, h', I, e, k⟩ := k m1 H1 v L1 S1 R1
    refine ⟨n, s, h, m, w, h', I, e, fun m2 H2 u L2 S2 R2 => ?_⟩
    obtain ⟨p, o, e1, e2, z, e3, e4⟩ := k m2 H2 u L2 S2 R2
    cases e3
    exact ⟨p, o, e1, e2, _, rfl, by simpa using e4⟩⟩

/-- d.get(k, z) -/
def mDGet2 (fo fe ff : M) : M := fun n s h => match fo n s h with
  | some (.ref d, h1) => match dicAt h1 d with
    | some _ => andThen (fe n s h1) fun y h2 => andThen (ff n s h2) fun z h3 => match dicAt h3 d with
      | some kvs => (keyW y).map fun k => ((getW kvs k).getD z, h3)
      | none => none
    | none => none
  | _ => none
theorem m_dget2 {f : Expr} {ff fe : M} {apos cpos : Pos} (hu : X.A.units + 1 < cLine) (ho : PE X o (tM X.K fo)) (he : PE X e (tM X.K fe)) (hf : PE X f (tM X.K ff)) (mm : M2 X o "get" apos e f cpos) : PE X (.Call (.Attribute o "get" apos) [e, f] [] cpos) (tM X.K (mDGet2 fo fe ff)) :=
  imp_pe (pe_dget2 hu ho he hf mm) fun σ H Q ⟨n, s, h, m, w, h', I, e, k⟩ => by
    unfold mDGet2 at e
    split at e
    · next d h1 e1 =>
      split at e
      · next kv0 e2 =>
        obtain ⟨y, h2, e3, e⟩ := andThen_some e
        obtain ⟨z, h3, e4, e⟩ := andThen_some e
        split at e
        · next kvs e5 =>
          cases ek : keyW y with
          | none => rw [ek] at e; cases e
          | some kk =>
            rw [ek] at e
            cases e
            refine ⟨n, s, h, m, _, h1, I, e1, fun m1 H1 v L1 S1 R1 => ?_⟩
            obtain ⟨p, us, rfl, ep, rd, rk⟩ := S1.dicA e2 R1
            refine ⟨p, rfl, .inl ⟨us, rd⟩, n, s, h1, m1, y, h2, I.le L1 S1, e3, fun m2 H2 u L2 S2 R2 => ⟨n, s, h2, m2, z, h', I.le (L1.trans L2) S2, e4, fun m3 H3 x L3 S3 R3 => ?_⟩⟩
            obtain ⟨p', us', ee, ep', rd', rk'⟩ := S3.dicA e5 (Rep.mono (L2.trans L3) _ _ R1)
            cases ee
            have e6 := keyW_rep (Rep.mono L3 _ _ R2) ek
            rcases rk'.get kk with ⟨w2, v2, g1, g2, g3⟩ | ⟨g1, g2⟩
            · exact ⟨some v2, .inl ⟨us', kk, rd', e6, g2.symm⟩, k m3 H3 _ (L1.trans (L2.trans L3)) S3 (by rw [g1]; exact g3)⟩
            · exact ⟨none, .inl ⟨us', kk, rd', e6, g2.symm⟩, k m3 H3 _ (L1.trans (L2.trans L3)) S3 (by rw [g1]; exact R3)⟩
        · cases e
      · cases e
    · cases e
/-- d.get(k) -/
def mDGet1 (fo fe : M) : M := fun n s h => match fo n s h with
  | some (.ref d, h1) => match dicAt h1 d with
    | some _ => andThen (fe n s h1) fun y h2 => match dicAt h2 d with
      | some kvs => (keyW y).map fun k => ((getW kvs k).getD .non, h2)
      | none => none
    | none => none
  | _ => none
theorem m_dget1 {fe : M} {apos cpos : Pos} (hu : X.A.units + 1 < cLine) (ho : PE X o (tM X.K fo)) (he : PE X e (tM X.K fe)) (mm : M1 X o "get" apos e cpos) : PE X (.Call (.Attribute o "get" apos) [e] [] cpos) (tM X.K (mDGet1 fo fe)) :=
  imp_pe (pe_dget1 hu ho he mm) fun σ H Q ⟨n, s, h, m, w, h', I, e, k⟩ => by
    unfold mDGet1 at e
    split at e
    · next d h1 e1 =>
      split at e
      · next kv0 e2 =>
        obtain ⟨y, h2, e3, e⟩ := andThen_some e
        split at e
        · next kvs e5 =>
          cases ek : keyW y with
          | none => rw [ek] at e; cases e
          | some kk =>
            rw [ek] at e
            cases e
            refine ⟨n, s, h, m, _, h1, I, e1, fun m1 H1 v L1 S1 R1 => ?_⟩
            obtain ⟨p, us, rfl, ep, rd, rk⟩ := S1.dicA e2 R1
            refine ⟨p, rfl, .inl ⟨us, rd⟩, n, s, h1, m1, y, h', I.le L1 S1, e3, fun m2 H2 u L2 S2 R2 => ?_⟩
            obtain ⟨p', us', ee, ep', rd', rk'⟩ := S2.dicA e5 (Rep.mono L2 _ _ R1)
            cases ee
            have e6 := keyW_rep R2 ek
            rcases rk'.get kk with ⟨w2, v2, g1, g2, g3⟩ | ⟨g1, g2⟩
            · exact ⟨some v2, .inl ⟨us', kk, rd', e6, g2.symm⟩, k m2 H2 _ (L1.trans L2) S2 (by rw [g1]; exact g3)⟩
            · exact ⟨none, .inl ⟨us', kk, rd', e6, g2.symm⟩, k m2 H2 _ (L1.trans L2) S2 (by rw [g1]; exact rfl)⟩
        · cases e
      · cases e
    · cases e

/-- d[k] = v, xs[i] = v -/
def gSetD : W → W → W → MH → Option MH := fun x y v h => match x with
  | .ref n => match dicM h n with
    | some kvs => (keyW y).bind fun k => if kvs.length < 16777216 then some (h.set n (.dic (putW kvs k v))) else none
    | none => gSetIx x y v h
  | _ => none
def pset_or {X : Cx} {t t' : TSet} (p : PSet X t) (q : PSet X t') : PSet X (fun o i v H Q => t o i v H Q ∨ t' o i v H Q) := fun pins s σ H o i v ov iv u Q I ro ri rv h => h.elim (p pins s σ H o i v ov iv u Q I ro ri rv) (q pins s σ H o i v ov iv u Q I ro ri rv)
theorem i_setD {K : PySem.W.Frag} : Imp3 K gSetD (fun o i v H Q => rSetL o i v H Q ∨ rSetD o i v H Q) := by
  intro m h H x y z vx vy vz h' S R1 R2 R3 e Q q
  unfold gSetD at e
  split at e
  · next n =>
    split at e
    · next kvs e1 =>
      cases ek : keyW y with
      | none => rw [ek] at e; cases e
      | some kk =>
        rw [ek] at e
        simp only [Option.bind_some] at e
        split at e
        · next hz =>
          cases e
          obtain ⟨p, us, rfl, ea, t, rk⟩ := S.dicm e1 R1
          have L : Le K m m H (upd H p (.dK (putK us kk vz))) := Le.upd t trivial
          refine .inr ⟨p, _, rfl, .inl ⟨us, kk, t, keyW_rep R2 ek, by rw [rk.length, sizeLine_eq]; exact hz, rfl⟩, q m _ L (S.upd ea (dicM_some e1) rfl (show CellOk K m _ (.dic (putW kvs kk z)) p from ⟨_, upd_same, RepKV.mono L (rk.put R3)⟩) rfl)⟩
        · cases e
    · exact .inl (i_setIx m h H _ y z vx vy vz h' S R1 R2 R3 e Q q)
  · cases e

/-! dict(x) -/
def pairW : W → Option (Key × W)
  | .tup [k, v] => (keyW k).map fun k => (k, v)
  | _ => none
def pairsW : List W → Option (List (Key × W))
  | [] => some []
  | x :: xs => match pairW x, pairsW xs with
    | some p, some r => some (p :: r)
    | _, _ => none
/-- a new dict -/
def newD (kvs : List (Key × W)) (h : MH) : Option (W × MH) := some (.ref h.length, h ++ [.dic kvs])
def gDict : GA := fun xs h => match xs with
  | [.ref n] => match dicAt h n with
    | some kvs => newD kvs h
    | none => match lstAt h n with
      | some ys => (pairsW ys).bind fun l => newD (mergeW [] l) h
      | none => none
  | _ => none
def rDict2 (K : PySem.W.Frag) : List V → Hp → VK → Prop := fun xs H Q => (∃ (a : Addr) (ps : List Addr) (kvs : List (Key × V)), xs = [.ref a] ∧ SqL K H a (ps.map V.ref) ∧ Paired (fun p kv => SqT K H p [kV kv.1, kv.2]) ps kvs ∧
    ∀ p, H p = none → Q (.ref p) (upd H p (.dK (mergeK [] kvs)))) ∨ ∃ (a : Addr) (kvs : List (Key × V)), xs = [.ref a] ∧ Rd H a (.dK kvs) ∧ ∀ p, H p = none → Q (.ref p) (upd H p (.dK kvs))
theorem call_dict2 {X : Cx} (hc : X.calm = true) : CallR X (.type "dict") (rDict2 X.K) := call_or (call_dictP hc) call_dictD
theorem pairs_rep {K : PySem.W.Frag} {m : List Addr} {H : Hp} : ∀ {xs : List W} {l : List (Key × W)} {vs : List V}, pairsW xs = some l → Reps K m H xs vs → ∃ (ps : List Addr) (us : List (Key × V)), vs = ps.map V.ref ∧ Paired (fun p kv => SqT K H p [kV kv.1, kv.2]) ps us ∧ RepKV K m H l us
  | [], l, vs, e, R => by
    cases e
    exact ⟨[], [], R, .nil, rfl⟩
  | x :: xs, l, vs, e, R => by
    unfold pairsW at e
    split at e
    · next p r e1 e2 =>
      cases e
      obtain ⟨v, vs', rfl, R1, R2⟩ := R
      obtain ⟨ps, us, rfl, h1, h2⟩ := pairs_rep e2 R2
      unfold pairW at e1
      split at e1
      · next k y =>
        cases ek : keyW k with
        | none => rw [ek] at e1; cases e1
        | some kk =>
          rw [ek] at e1; cases e1
          obtain ⟨t, ts, rfl, ht, vk, r1, rfl, rk, vy, r2, rfl, ry, rfl⟩ := R1
          refine ⟨t :: ps, (kk, vy) :: us, rfl, .cons ?_ h1, ⟨vy, us, rfl, ry, h2⟩⟩
          rw [keyW_rep rk ek] at ht
          exact ht
      · cases e1
    · cases e
theorem i_dict {K : PySem.W.Frag} : ImpA K gDict (rDict2 K) := by
  intro m h H xs vs w h' S R e Q q
  unfold gDict at e
  split at e
  · next n =>
    obtain ⟨v, r, rfl, R1, R2⟩ := R
    rw [show r = [] from R2]
    split at e
    · next kvs e1 =>
      cases e
      obtain ⟨a, us, rfl, _, rd, rk⟩ := S.dicA e1 R1
      refine .inr ⟨a, us, rfl, rd, fun p hp => ?_⟩
      exact q _ _ _ (Le.newC hp) (S.newC hp ⟨us, upd_same, RepKV.mono (Le.newC hp) rk⟩) ⟨p, by rw [← S.len]; simp, rfl⟩
    · split at e
      · next ys e2 =>
        cases el : pairsW ys with
        | none => rw [el] at e; cases e
        | some l =>
          rw [el] at e; cases e
          obtain ⟨a, us, rfl, _, t, rs⟩ := S.lsAt e2 R1
          obtain ⟨ps, ks, rfl, h1, h2⟩ := pairs_rep el rs
          refine .inl ⟨a, ps, ks, rfl, t, h1, fun p hp => ?_⟩
          exact q _ _ _ (Le.newC hp) (S.newC hp ⟨_, upd_same, RepKV.merge (RepKV.mono (Le.newC hp) h2) rfl⟩) ⟨p, by rw [← S.len]; simp, rfl⟩
      · cases e
  · cases e

/-! a walk over a dict that is locked -/
theorem it_keys {K : PySem.W.Frag} {m : List Addr} {H : Hp} {d : Addr} {ob : Obj} {us : List (Key × V)} (hd : H d = some (.frz ob (.dK us))) : ItOk K m H (Itk d ob us) (.items (us.map fun kv => wK kv.1)) := fun m' H' h' L S i => by
  have hd' := L.frz _ _ _ hd
  refine ⟨fun e => ?_, fun w e => ?_⟩
  · simp only [Src.get, Option.some.injEq] at e
    have := List.getElem?_eq_none_iff.mp e
    exact ⟨hd', by simpa using this⟩
  · simp only [Src.get, Option.some.injEq, List.getElem?_map] at e
    cases q : us[i]? with
    | none => rw [q] at e; cases e
    | some kv =>
      rw [q] at e; cases e
      refine ⟨⟨hd', ?_⟩, fun x H2 y => ?_⟩
      · rcases Nat.lt_or_ge i us.length with z | z
        · exact z
        · rw [List.getElem?_eq_none z] at q; cases q
      · obtain ⟨rfl, k, v, e1, rfl⟩ := y
        rw [q] at e1; cases e1
        exact ⟨Le.refl, S, wK_rep⟩
/-- a list, a tuple, a text, a dict that is locked -/
def miAny (f : M) : MI := fun n s h => match f n s h with
  | some (.ref k, h1) => match h1[k]? with
    | some (.fd kvs) => some (.items (kvs.map fun kv => wK kv.1), h1)
    | _ => miSeq f n s h
  | _ => miSeq f n s h
theorem mi_any {tg : Expr} {f : M} (p : PE X e (tM X.K f)) : PI X tg e (tMI X.K (miAny f)) := imp_pi (pi_or (mi_seq p) (pi_keys p)) fun σ H R ⟨n, s, h, m, src, h', I, e, k⟩ => by
  unfold miAny at e
  split at e
  · next k1 h1 e1 =>
    split at e
    · next kvs e2 =>
      cases e
      refine .inr ⟨n, s, h, m, _, _, I, e1, fun m1 H1 v L1 S1 R1 => ?_⟩
      obtain ⟨a, ea, rfl⟩ := R1
      obtain ⟨ob, us, q1, q2⟩ := S1.cell _ a _ ea e2
      refine ⟨a, ob, rfl, .inl ⟨us, q1, k m1 H1 _ L1 S1 ?_⟩⟩
      have : (kvs.map fun kv => wK kv.1) = us.map fun kv => wK kv.1 := by
        have := congrArg (List.map wK) q2.keys
        simp only [List.map_map] at this
        exact this.symm
      rw [this]
      exact it_keys q1
    · exact .inl ⟨n, s, h, m, src, h', I, e, k⟩
  · exact .inl ⟨n, s, h, m, src, h', I, e, k⟩
end
end Mi

/-! Mi10: a dict locked while something runs; isinstance. -/
namespace Mi
open PySem PySem.Spec PyProof.Rows L2
section
variable {K : PySem.W.Frag} {m : List Addr} {h : MH} {H : Hp} {p : Addr} {od : Obj} {us : List (Key × V)} {o : HO}
theorem sqt_unl (hp : H p = some (.frz od (.dK us))) {b : Addr} {vs : List V} (t : SqT K H b vs) : SqT K (upd H p o) b vs := by
  rcases t with (t | ⟨ob, t⟩) | t
  · exact .inl (.inl (by rw [upd_ne (ne_of t hp (by intro z; cases z))]; exact t))
  · exact .inl (.inr ⟨ob, by rw [upd_ne (ne_of t hp (by intro z; cases z))]; exact t⟩)
  · exact .inr t
theorem frz_unl (hp : H p = some (.frz od (.dK us))) {b : Addr} {vs : List V} (t : Frz K H b vs) : Frz K (upd H p o) b vs := by
  rcases t with ⟨ob, t⟩ | t
  · exact .inl ⟨ob, by rw [upd_ne (ne_of t hp (by intro z; cases z))]; exact t⟩
  · exact .inr t
theorem Sm.unlock {i : Nat} {kvs : List (Key × W)} (S : Sm K m h H) (e : m[i]? = some p) (e2 : h[i]? = some (.fd kvs)) (hp : H p = some (.frz od (.dK us))) : Sm K m (h.set i (.dic kvs)) (L2.upd H p (.dK us)) := by
  have hi : i < h.length := by
    rcases Nat.lt_or_ge i h.length with q | q
    · exact q
    · rw [List.getElem?_eq_none q] at e2; cases e2
  have old : ∀ {j : Nat} {c1 : Cell}, (h.set i (.dic kvs))[j]? = some c1 → (j = i ∧ c1 = .dic kvs) ∨ (j ≠ i ∧ h[j]? = some c1) := by
    intro j c1 q
    by_cases z : i = j
    · subst z; rw [List.getElem?_set_self hi] at q; cases q; exact .inl ⟨rfl, rfl⟩
    · rw [List.getElem?_set_ne z] at q; exact .inr ⟨fun y => z y.symm, q⟩
  refine ⟨by rw [List.length_set]; exact S.len, fun j k a c1 d1 e1 e3 e4 e5 hm1 hm2 => ?_, fun j a c1 e1 e3 => ?_⟩
  · have back : ∀ {j : Nat} {c1 : Cell}, (h.set i (.dic kvs))[j]? = some c1 → c1.own = true → ∃ c2, h[j]? = some c2 ∧ c2.own = true := by
      intro j c1 q hm
      rcases old q with ⟨q1, q2⟩ | ⟨_, q2⟩
      · subst q1; exact ⟨_, e2, rfl⟩
      · exact ⟨c1, q2, hm⟩
    obtain ⟨c2, q2, m2⟩ := back e4 hm1
    obtain ⟨c3, q3, m3⟩ := back e5 hm2
    exact S.inj j k a c2 c3 e1 e3 q2 q3 m2 m3
  · rcases old e3 with ⟨q1, q2⟩ | ⟨q1, q2⟩
    · subst q1; subst q2
      rw [e] at e1; cases e1
      obtain ⟨o2, us2, z1, z2⟩ := S.cell j p _ e e2
      rw [hp] at z1; cases z1
      exact ⟨us, upd_same, RepKV.mono0 (fun _ _ q => q) (fun _ _ t => sqt_unl hp t) z2⟩
    · have ne : c1.own = true → a ≠ p := fun hm z => by
        subst z
        exact q1 (S.inj j i a c1 _ e1 e q2 e2 hm rfl)
      have k := S.cell j a c1 e1 q2
      cases c1 with
      | lst xs => obtain ⟨vs, z1, z2⟩ := k; exact ⟨vs, by rw [upd_ne (ne rfl)]; exact z1, Reps.mono0 (fun _ _ q => q) (fun _ _ t => sqt_unl hp t) _ _ z2⟩
      | dic xs => obtain ⟨vs, z1, z2⟩ := k; exact ⟨vs, by rw [upd_ne (ne rfl)]; exact z1, RepKV.mono0 (fun _ _ q => q) (fun _ _ t => sqt_unl hp t) z2⟩
      | fz xs => obtain ⟨vs, z1, z2⟩ := k; exact ⟨vs, frz_unl hp z1, Reps.mono0 (fun _ _ q => q) (fun _ _ t => sqt_unl hp t) _ _ z2⟩
      | fd xs => obtain ⟨o2, vs, z1, z2⟩ := k; exact ⟨o2, vs, by rw [upd_ne (ne rfl)]; exact z1, RepKV.mono0 (fun _ _ q => q) (fun _ _ t => sqt_unl hp t) z2⟩
/-- out of a lock -/
theorem Le.unl {m' : List Addr} {H' : Hp} (hd : H p = some (.dK us)) (l : Le K m m' (L2.upd H p (.frz od (.dK us))) H') : Le K m m' H (L2.upd H' p (.dK us)) := by
  have hp : H' p = some (.frz od (.dK us)) := l.frz _ _ _ upd_same
  have l0 : Le K m m H (L2.upd H p (.frz od (.dK us))) := Le.upd hd trivial
  refine ⟨l.pre, fun b vs t => sqt_unl hp (l.tup b vs (l0.tup b vs t)), fun b ob u q => ?_⟩
  have ne : b ≠ p := ne_of q hd (by intro z; cases z)
  rw [upd_ne ne]
  exact l.frz _ _ _ (by rw [upd_ne ne]; exact q)
end
section
variable {X : Cx} {a b c e o : Expr} {fa fb fc fo : M} {pos : Pos}
/-- the dict that the local holds, if it is one, is locked meanwhile -/
def mLockV (i : Nat) (f : M) : M := fun n s h => match s[i]? with
  | some (some (.ref d)) => match dicM h d with
    | some kvs => match f n s (h.set d (.fd kvs)) with
      | some (w, h') => match h'[d]? with
        | some (.fd kvs') => some (w, h'.set d (.dic kvs'))
        | _ => none
      | none => none
    | none => f n s h
  | _ => f n s h
theorem m_lockV {f : M} (i : Nat) (pe : PE X e (tM X.K f)) : PE X e (tM X.K (mLockV i f)) := imp_pe (pe_or pe (pe_lock pe)) fun σ H Q ⟨n, s, h, m, w, h', I, e, k⟩ => by
  unfold mLockV at e
  split at e
  · next d es =>
    split at e
    · next kvs e1 =>
      split at e
      · next w1 h1 e2 =>
        split at e
        · next kvs' e3 =>
          cases e
          obtain ⟨v, ev, R⟩ := I.rs _ _ es
          obtain ⟨p, us, rfl, ep, hp, rk⟩ := I.sm.dicm e1 R
          refine .inr ⟨p, .dK us, hp, trivial, fun od => ?_⟩
          have L0 : Le X.K m m H (upd H p (.frz od (.dK us))) := Le.upd hp trivial
          have S0 : Sm X.K m (h.set d (.fd kvs)) (upd H p (.frz od (.dK us))) := I.sm.updF ep (dicM_some e1) rfl ⟨od, us, upd_same, RepKV.mono L0 rk⟩
          refine ⟨n, s, _, m, _, h1, I.le L0 S0, e2, fun m1 H1 v1 L1 S1 R1 => ?_⟩
          have hp1 := L1.frz _ _ _ (show upd H p (.frz od (.dK us)) p = _ from upd_same)
          exact ⟨hp1, k m1 _ v1 (Le.unl hp L1) (S1.unlock (L1.pre _ _ ep) e3 hp1) (Rep.mono0 (fun _ _ q => q) (fun _ _ t => sqt_unl hp1 t) _ _ R1)⟩
        · cases e
      · cases e
    · exact .inl ⟨n, s, h, m, w, h', I, e, k⟩
  · exact .inl ⟨n, s, h, m, w, h', I, e, k⟩
def mLockS (i : Nat) (f : MSt) : MSt := fun n s h => match s[i]? with
  | some (some (.ref d)) => match dicM h d with
    | some kvs => match f n s (h.set d (.fd kvs)) with
      | some (fl, s', h') => match h'[d]? with
        | some (.fd kvs') => some (fl, s', h'.set d (.dic kvs'))
        | _ => none
      | none => none
    | none => f n s h
  | _ => f n s h
theorem ms_lock {st : Stmt} {f : MSt} (i : Nat) (ps : PS X st (tMS X.K f)) : PS X st (tMS X.K (mLockS i f)) := imp_ps (ps_or ps (ps_lock ps)) fun D σ H ⟨n, s, h, m, fl, s', h', I, e, k⟩ => by
  unfold mLockS at e
  split at e
  · next d es =>
    split at e
    · next kvs e1 =>
      split at e
      · next fl1 s1 h1 e2 =>
        split at e
        · next kvs' e3 =>
          cases e
          obtain ⟨v, ev, R⟩ := I.rs _ _ es
          obtain ⟨p, us, rfl, ep, hp, rk⟩ := I.sm.dicm e1 R
          refine .inr ⟨p, .dK us, hp, trivial, fun od => ?_⟩
          have L0 : Le X.K m m H (upd H p (.frz od (.dK us))) := Le.upd hp trivial
          have S0 : Sm X.K m (h.set d (.fd kvs)) (upd H p (.frz od (.dK us))) := I.sm.updF ep (dicM_some e1) rfl ⟨od, us, upd_same, RepKV.mono L0 rk⟩
          refine ⟨n, s, _, m, _, _, h1, I.le L0 S0, e2, fun m1 H1 σ1 L1 I1 => ?_⟩
          have hp1 := L1.frz _ _ _ (show upd H p (.frz od (.dK us)) p = _ from upd_same)
          have I2 : In X.K m1 s' (h1.set d (.dic kvs')) σ1 (upd H1 p (.dK us)) := ⟨I1.sm.unlock (L1.pre _ _ ep) e3 hp1, fun i w q => by
            obtain ⟨v, z1, z2⟩ := I1.rs i w q
            exact ⟨v, z1, Rep.mono0 (fun _ _ q => q) (fun _ _ t => sqt_unl hp1 t) _ _ z2⟩, I1.len⟩
          have kk := k m1 _ σ1 (Le.unl hp L1) I2
          cases fl with
          | nx => exact ⟨hp1, kk⟩
          | bk => exact ⟨hp1, kk⟩
          | ct => exact ⟨hp1, kk⟩
          | rt w => exact fun v R => ⟨hp1, kk v (Rep.mono0 (fun _ _ q => q) (fun _ _ t => sqt_unl hp1 t) _ _ R)⟩
        · cases e
      · cases e
    · exact .inl ⟨n, s, h, m, fl, s', h', I, e, k⟩
  · exact .inl ⟨n, s, h, m, fl, s', h', I, e, k⟩

/-! isinstance -/
def tyW (h : MH) : W → Option String
  | .non => some "NoneType"
  | .bl _ => some "bool"
  | .int _ => some "int"
  | .str _ => some "str"
  | .tup _ => some "tuple"
  | .ref n => match h[n]? with
    | some (.lst _) => some "list"
    | some (.fz _) => some "list"
    | some (.dic _) => some "dict"
    | some (.fd _) => some "dict"
    | none => none
theorem tyW_ok {K : PySem.W.Frag} {m : List Addr} {h : MH} {H : Hp} {x : W} {v : V} {t : String} (S : Sm K m h H) (R : Rep K m H x v) (e : tyW h x = some t) : TyX K H v (.type t) := by
  cases x with
  | non => cases e; rw [show v = _ from R]; exact .base .non
  | bl b => cases e; rw [show v = _ from R]; exact .base (.bl b)
  | int i => cases e; rw [show v = _ from R]; exact .base (.int i)
  | str z => cases e; rw [show v = _ from R]; exact .base (.str z)
  | tup xs =>
    cases e
    obtain ⟨a, vs, rfl, t, _⟩ := R
    rcases t with (t | ⟨ob, t⟩) | ⟨ob, its, n, t1, t2, _⟩
    · exact .base (.tup t)
    · exact .fTuple t
    · exact .kTuple t1 t2
  | ref n =>
    obtain ⟨a, ea, rfl⟩ := R
    unfold tyW at e
    simp only at e
    split at e
    · next xs q =>
      cases e
      obtain ⟨vs, z, _⟩ := S.cell n a _ ea q
      exact .base (.lst z)
    · next xs q =>
      cases e
      obtain ⟨vs, z, _⟩ := S.cell n a _ ea q
      rcases z with ⟨ob, z⟩ | ⟨ob, its, k, z1, z2, _⟩
      · exact .base (.frz z)
      · exact .kList z1 z2
    · next xs q =>
      cases e
      obtain ⟨vs, z, _⟩ := S.cell n a _ ea q
      exact .base (.dK z)
    · next xs q =>
      cases e
      obtain ⟨ob, vs, z, _⟩ := S.cell n a _ ea q
      exact .fDict z
    · cases e
def mIsi (t : String) (f : M) : M := fun n s h => andThen (f n s h) fun x h1 => ((tyW h1 x).bind fun u => kitB u t).map fun b => (.bl b, h1)
theorem m_isi {t : String} {x : Str} {px p : Pos} (hg : Gl X "isinstance") (hm : X.mg "isinstance" = none) (he : PE X e (tM X.K fa)) (hT : PE X (.Name x px) (tC (.ty t)))
    (hs : starEach [e, .Name x px] X.env = (false, eval e X.env) :: starEach [.Name x px] X.env := by rfl) (hs2 : starEach [.Name x px] X.env = (false, eval (.Name x px) X.env) :: starEach [] X.env := by rfl) (hpl : (backTo pos (starEach [.Name x px] X.env)).any (·.1) = false := by rfl) :
    PE X (.Call (.Name "isinstance" p) [e, .Name x px] [] pos) (tM X.K (mIsi t fa)) :=
  imp_pe (pe_callB call_isi hg hm (by rfl) (pa_cons he (pa_cons hT pa_nil hs2) hs) (by decide) (by decide) hs hpl) fun σ H Q ⟨n, s, h, m, w, h', I, e, k⟩ => by
    obtain ⟨y, h1, e1, e⟩ := andThen_some e
    cases et : tyW h1 y with
    | none => rw [et] at e; cases e
    | some u =>
      rw [et] at e
      cases eb : kitB u t with
      | none => simp [eb] at e
      | some bb =>
        simp only [Option.bind_some, eb, Option.map_some] at e
        cases e
        refine ⟨n, s, h, m, y, h', I, e1, fun m1 H1 v L1 S1 R1 => ?_⟩
        exact ⟨v, .ty t, .type u, .type t, bb, rfl, .ty t, tyW_ok S1 R1 et, kit_ty eb, k m1 H1 _ L1 S1 rfl⟩
/-- one of two classes -/
def kitB2 (u t1 t2 : String) : Option Bool := match kitB u t1 with
  | some true => some true
  | some false => kitB u t2
  | none => none
def mIsi2 (t1 t2 : String) (f : M) : M := fun n s h => andThen (f n s h) fun x h1 => ((tyW h1 x).bind fun u => kitB2 u t1 t2).map fun b => (.bl b, h1)
theorem m_isi2 {t1 t2 : String} {e1 e2 : Expr} {kk : Nat} {tpos p : Pos} (hg : Gl X "isinstance") (hm : X.mg "isinstance" = none) (he : PE X e (tM X.K fa)) (hT : PA X [e1, e2] (tCons (tC (.ty t1)) (tCons (tC (.ty t2)) tNil)))
    (hs : starEach [e, .Tuple [e1, e2] kk tpos] X.env = (false, eval e X.env) :: starEach [.Tuple [e1, e2] kk tpos] X.env := by rfl) (hs2 : starEach [.Tuple [e1, e2] kk tpos] X.env = (false, eval (.Tuple [e1, e2] kk tpos) X.env) :: starEach [] X.env := by rfl) (hpl : (backTo pos (starEach [.Tuple [e1, e2] kk tpos] X.env)).any (·.1) = false := by rfl) :
    PE X (.Call (.Name "isinstance" p) [e, .Tuple [e1, e2] kk tpos] [] pos) (tM X.K (mIsi2 t1 t2 fa)) :=
  imp_pe (pe_callB call_isiT hg hm (by rfl) (pa_cons he (pa_cons (pe_tup hT) pa_nil hs2) hs) (by decide) (by decide) hs hpl) fun σ H Q ⟨n, s, h, m, w, h', I, e, k⟩ => by
    obtain ⟨y, h1, e1, e⟩ := andThen_some e
    cases et : tyW h1 y with
    | none => rw [et] at e; cases e
    | some u =>
      rw [et] at e
      cases eb : kitB2 u t1 t2 with
      | none => simp [eb] at e
      | some bb =>
        simp only [Option.bind_some, eb, Option.map_some] at e
        cases e
        refine ⟨n, s, h, m, y, h', I, e1, fun m1 H1 v L1 S1 R1 => ?_⟩
        refine ⟨by show 2 ≤ sizeLine; decide, fun tp hp => ?_⟩
        have S2 : Sm X.K m1 h' (upd H1 tp (.tup [.ty t1, .ty t2])) := S1.newT hp
        have L2 : Le X.K m1 m1 H1 (upd H1 tp (.tup [.ty t1, .ty t2])) := Le.newT hp
        refine ⟨v, tp, [.ty t1, .ty t2], .type u, [.type t1, .type t2], bb, rfl, upd_same, .cons (.ty t1) (.cons (.ty t2) .nil), tyW_ok S2 (Rep.mono L2 _ _ R1) et, ?_, k m1 _ _ (L1.trans L2) S2 rfl⟩
        unfold kitB2 at eb
        cases q1 : kitB u t1 with
        | none => rw [q1] at eb; cases eb
        | some b1 =>
          rw [q1] at eb
          cases b1 with
          | true => cases eb; exact kitAny_cons (kit_ty q1) (fun z => by cases z) (fun _ => rfl)
          | false =>
            simp only at eb
            refine kitAny_cons (kit_ty q1) (fun _ => ?_) (fun z => by cases z)
            refine kitAny_cons (kit_ty eb) (fun z => ?_) (fun z => z)
            rw [z]; exact kitAny_nil
end
end Mi

/-! Mi11: comprehensions of two for, xs[::-1], max of a list, three names at once. -/
namespace Mi
open PySem PySem.Spec PyProof.Rows L2
def lcin (src : Src) (p : Pat) (t : MT) (f : M) (n d : Nat) (s0 : MS) : Nat → Nat → MH → Option MH
  | 0, _, _ => none
  | k + 1, i, h => match src.get h i with
    | none => none
    | some none => some h
    | some (some w) => match mPat p w s0 with
      | none => none
      | some s1 => match t n s1 h with
        | none => none
        | some (false, h1) => lcin src p t f n d s0 k (i + 1) h1
        | some (true, h1) => match f n s1 h1 with
          | none => none
          | some (y, h2) => match pushAt h2 d y with
            | none => none
            | some h3 => lcin src p t f n d s0 k (i + 1) h3
def lc2loop (src : Src) (p : Pat) (t : MT) (fi1 : MI) (p1 : Pat) (t1 : MT) (f : M) (vs1 : List Nat) (n d : Nat) (s0 : MS) : Nat → Nat → MH → Option (W × MH)
  | 0, _, _ => none
  | k + 1, i, h => match src.get h i with
    | none => none
    | some none => some (.ref d, h)
    | some (some w) => match mPat p w s0 with
      | none => none
      | some s1 => match t n s1 h with
        | none => none
        | some (false, h1) => lc2loop src p t fi1 p1 t1 f vs1 n d s0 k (i + 1) h1
        | some (true, h1) => match fi1 n s1 h1 with
          | none => none
          | some (src1, h2) => match lcin src1 p1 t1 f n d (mwipe s1 vs1) n 0 h2 with
            | none => none
            | some h3 => lc2loop src p t fi1 p1 t1 f vs1 n d s0 k (i + 1) h3
def mLc2 (fi : MI) (p : Pat) (t : MT) (fi1 : MI) (p1 : Pat) (t1 : MT) (f : M) (vs vs1 : List Nat) : M := fun n s h => match fi n s h with
  | some (src, h1) => lc2loop src p t fi1 p1 t1 f vs1 n h1.length (mwipe s vs) n 0 (h1 ++ [.lst []])
  | none => none
theorem run_lc2 {K : PySem.W.Frag} {fi fi1 : MI} {p p1 : Pat} {t t1 : MT} {f : M} {vs vs1 : List Nat} {σ0 H0 Q} (hv : ∀ i ∈ pvars p, i ∈ vs) (hv1 : ∀ i ∈ pvars p1, i ∈ vs1) (q : tM K (mLc2 fi p t fi1 p1 t1 f vs vs1) σ0 H0 Q) :
    tLc2 (tMI K fi) (gPat K p) (tMT K t) (tMI K fi1) (gPat K p1) (tMT K t1) (tM K f) vs vs1 σ0 H0 Q := by
  obtain ⟨n, s0, h0, m0, w, h', I0, e0, k⟩ := q
  unfold mLc2 at e0
  split at e0
  · next src h1 e1 =>
    refine ⟨n, s0, h0, m0, src, h1, I0, e1, fun m1 H1 J L1 S1 O1 => fun D hD => ?_⟩
    have LD : Le K m1 (m1 ++ [D]) H1 (upd H1 D (.lst [])) := Le.newC hD
    have SD : Sm K (m1 ++ [D]) (h1 ++ [.lst []]) (upd H1 D (.lst [])) := S1.newC hD ⟨[], upd_same, rfl⟩
    have hd : (m1 ++ [D])[h1.length]? = some D := by rw [← S1.len]; simp
    refine ⟨fun i j H => ∃ h m, Le K (m1 ++ [D]) m (upd H1 D (.lst [])) H ∧ Sm K m h H ∧ lc2loop src p t fi1 p1 t1 f vs1 n h1.length (mwipe s0 vs) j i h = some (w, h'), ⟨n, h1 ++ [.lst []], m1 ++ [D], Le.refl, SD, e0⟩, fun i j H ⟨h, m, L, S, e⟩ => ?_⟩
    have Iw : In K m (mwipe s0 vs) h (wipe σ0 vs) H := ⟨S, (((I0.rs.mono L1).mono LD).mono L).wipe vs, by rw [mwipe_length, wipe_length]; exact I0.len⟩
    cases j with
    | zero => simp [lc2loop] at e
    | succ j =>
      unfold lc2loop at e
      obtain ⟨o1, o2⟩ := O1 m H h (LD.trans L) S i
      split at e
      · cases e
      · next eg =>
        cases e
        exact .inl ⟨o1 eg, k m H (.ref D) (L1.trans (LD.trans L)) S ⟨D, L.pre _ _ hd, rfl⟩⟩
      · next x eg =>
        obtain ⟨go, yl⟩ := o2 x eg
        refine .inr ⟨go, fun H2 => ∃ h2 m2, Le K (m1 ++ [D]) m2 (upd H1 D (.lst [])) H2 ∧ Sm K m2 h2 H2 ∧ lc2loop src p t fi1 p1 t1 f vs1 n h1.length (mwipe s0 vs) j (i + 1) h2 = some (w, h'), fun H2 q => ⟨j, Nat.lt_succ_self j, q⟩, fun u H2 y => ?_⟩
        obtain ⟨L2, S2, R2⟩ := yl u H2 y
        have I2 := Iw.le L2 S2
        split at e
        · cases e
        · next s1 e2 =>
          refine gPat_run p x u _ s1 _ _ I2 R2 e2 fun σ3 I3 w3 => ⟨?_, ?_⟩
          · rw [w3 vs hv]
            exact wipe_wipe σ0 vs
          · split at e
            · cases e
            · next h3 e3 =>
              refine ⟨n, s1, h, m, false, h3, I3, e3, fun m4 H4 L4 S4 => ?_⟩
              exact iteF ⟨h3, m4, L.trans (L2.trans L4), S4, e⟩
            · next h3 e3 =>
              refine ⟨n, s1, h, m, true, h3, I3, e3, fun m4 H4 L4 S4 => iteT ?_⟩
              split at e
              · cases e
              · next src1 g1 e4 =>
                refine ⟨n, s1, h3, m4, src1, g1, I3.le L4 S4, e4, fun m5 H5 J1 L5 S5 O5 => ?_⟩
                split at e
                · cases e
                · next g2 e5 =>
                  refine ⟨fun jj kk H => ∃ h6 m6, Le K m5 m6 H5 H ∧ Sm K m6 h6 H ∧ lcin src1 p1 t1 f n h1.length (mwipe s1 vs1) kk jj h6 = some g2, ⟨n, g1, m5, Le.refl, S5, e5⟩, fun jj kk H ⟨h6, m6, L6, S6, e6⟩ => ?_⟩
                  have Iw1 : In K m6 (mwipe s1 vs1) h6 (wipe σ3 vs1) H := ⟨S6, ((((I3.rs.mono L4).mono L5).mono L6)).wipe vs1, by rw [mwipe_length, wipe_length]; exact I3.len⟩
                  cases kk with
                  | zero => simp [lcin] at e6
                  | succ kk =>
                    unfold lcin at e6
                    obtain ⟨o3, o4⟩ := O5 m6 H h6 L6 S6 jj
                    split at e6
                    · cases e6
                    · next eg6 =>
                      cases e6
                      exact .inl ⟨o3 eg6, _, m6, L.trans (L2.trans (L4.trans (L5.trans L6))), S6, e⟩
                    · next x6 eg6 =>
                      obtain ⟨go6, yl6⟩ := o4 x6 eg6
                      refine .inr ⟨go6, fun H2 => ∃ h7 m7, Le K m5 m7 H5 H2 ∧ Sm K m7 h7 H2 ∧ lcin src1 p1 t1 f n h1.length (mwipe s1 vs1) kk (jj + 1) h7 = some g2, fun H2 q => ⟨kk, Nat.lt_succ_self kk, q⟩, fun u7 H7 y7 => ?_⟩
                      obtain ⟨L7, S7, R7⟩ := yl6 u7 H7 y7
                      have I7 := Iw1.le L7 S7
                      split at e6
                      · cases e6
                      · next s8 e8 =>
                        refine gPat_run p1 x6 u7 _ s8 _ _ I7 R7 e8 fun σ8 I8 w8 => ⟨?_, ?_⟩
                        · rw [w8 vs1 hv1]
                          exact wipe_wipe σ3 vs1
                        · split at e6
                          · cases e6
                          · next h9 e9 =>
                            refine ⟨n, s8, _, _, false, h9, I8, e9, fun m9 H9 L9 S9 => ?_⟩
                            exact iteF ⟨h9, m9, L6.trans (L7.trans L9), S9, e6⟩
                          · next h9 e9 =>
                            refine ⟨n, s8, _, _, true, h9, I8, e9, fun m9 H9 L9 S9 => iteT ?_⟩
                            split at e6
                            · cases e6
                            · next ya ha ea =>
                              refine ⟨n, s8, h9, m9, ya, ha, I8.le L9 S9, ea, fun ma Ha va La Sa Ra => ?_⟩
                              split at e6
                              · cases e6
                              · next hb eb =>
                                unfold pushAt at eb
                                split at eb
                                · next acc ec =>
                                  split at eb
                                  · next hz =>
                                    cases eb
                                    have hm : ma[h1.length]? = some D := La.pre _ _ (L9.pre _ _ (L7.pre _ _ (L6.pre _ _ (L5.pre _ _ (L4.pre _ _ (L2.pre _ _ (L.pre _ _ hd)))))))
                                    obtain ⟨vs5, q5, r5⟩ := Sa.cell _ D _ hm ec
                                    refine ⟨vs5, q5, by rw [r5.length, sizeLine_eq]; exact hz, ?_⟩
                                    have Lz : Le K ma ma Ha (upd Ha D (.lst (vs5 ++ [va]))) := Le.upd q5 trivial
                                    refine ⟨_, ma, L6.trans (L7.trans (L9.trans (La.trans Lz))), Sa.upd hm ec rfl (show CellOk K ma _ (.lst (acc ++ [ya])) D from ⟨vs5 ++ [va], upd_same, (Reps.mono Lz _ _ r5).append (Reps.one (Rep.mono Lz _ _ Ra))⟩) rfl, e6⟩
                                  · cases eb
                                · cases eb
  · cases e0
section
variable {X : Cx}
theorem m_lc2 {elt tg iter tg1 iter1 : Expr} {ifs ifs1 : List Expr} {scope : Scope} {own : List (Str × Nat)} {vs1 : List Nat} {pos : Pos} {fi fi1 : MI} {p p1 : Pat} {t t1 : MT} {f : M} (hc : X.calm = true) (hN : X.N.Nodup) (hi : PI X tg iter (tMI X.K fi)) (ok : BlkOk X.N X.env.scope scope own) (hv : ∀ i ∈ vs1, i ∈ own.map (·.2))
    (hg : ∀ (s : Shared) (H : Hp) (C : Addr) (cl : List (Str × Addr)) (fp : List Addr), PG (X.blk s H scope (compEnvC scope cl C X.env) fp) tg (gPat X.K p)) (ht : ∀ (s : Shared) (H : Hp) (C : Addr) (cl : List (Str × Addr)) (fp : List Addr), PTs (X.blk s H scope (compEnvC scope cl C X.env) fp) ifs (tMT X.K t))
    (hi1 : ∀ (s : Shared) (H : Hp) (C : Addr) (cl : List (Str × Addr)) (fp : List Addr), PI (X.blk s H scope (compEnvC scope cl C X.env) fp) tg1 iter1 (tMI X.K fi1))
    (hg1 : ∀ (s : Shared) (H : Hp) (C : Addr) (cl : List (Str × Addr)) (fp : List Addr), PG (X.blk s H scope (compEnvC scope cl C X.env) fp) tg1 (gPat X.K p1)) (ht1 : ∀ (s : Shared) (H : Hp) (C : Addr) (cl : List (Str × Addr)) (fp : List Addr), PTs (X.blk s H scope (compEnvC scope cl C X.env) fp) ifs1 (tMT X.K t1))
    (he : ∀ (s : Shared) (H : Hp) (C : Addr) (cl : List (Str × Addr)) (fp : List Addr), PE (X.blk s H scope (compEnvC scope cl C X.env) fp) elt (tM X.K f)) (hp : ∀ i ∈ pvars p, i ∈ own.map (·.2)) (hp1 : ∀ i ∈ pvars p1, i ∈ vs1)
    (hs : ∀ x, foldedSetIterable iter X.env x = pure x := by intro _; rfl) (hs1 : ∀ env x, foldedSetIterable iter1 env x = pure x := by intro _ _; rfl) :
    PE X (.ListComp elt [⟨tg, iter, ifs, 0⟩, ⟨tg1, iter1, ifs1, 0⟩] scope pos) (tM X.K (mLc2 fi p t fi1 p1 t1 f (own.map (·.2)) vs1)) := imp_pe (pe_lc2 hc hN hi ok hv hg ht hi1 hg1 ht1 he hs hs1) fun σ H Q q => run_lc2 hp hp1 q
theorem ms_setLc2 {y : Str} {py : Pos} {elt tg iter tg1 iter1 : Expr} {ifs ifs1 : List Expr} {scope : Scope} {own : List (Str × Nat)} {vs1 : List Nat} {pos spos : Pos} {fi fi1 : MI} {p p1 : Pat} {t t1 : MT} {f : M} (i : Nat) (hc : X.calm = true) (hN : X.N.Nodup) (hy : X.N[i]? = some y) (hyl : X.env.scope.names.lookup y = some .local)
    (hsw : swapsWith (.ListComp elt [⟨tg, iter, ifs, 0⟩, ⟨tg1, iter1, ifs1, 0⟩] scope pos) (some (.Name y py)) spos.line X.env = pure true) (hi : PI X tg iter (tMI X.K fi)) (ok : BlkOk X.N X.env.scope scope own) (hv : ∀ i ∈ vs1, i ∈ own.map (·.2))
    (hg : ∀ (s : Shared) (H : Hp) (C : Addr) (cl : List (Str × Addr)) (fp : List Addr), PG (X.blk s H scope (compEnvC scope cl C X.env) fp) tg (gPat X.K p)) (ht : ∀ (s : Shared) (H : Hp) (C : Addr) (cl : List (Str × Addr)) (fp : List Addr), PTs (X.blk s H scope (compEnvC scope cl C X.env) fp) ifs (tMT X.K t))
    (hi1 : ∀ (s : Shared) (H : Hp) (C : Addr) (cl : List (Str × Addr)) (fp : List Addr), PI (X.blk s H scope (compEnvC scope cl C X.env) fp) tg1 iter1 (tMI X.K fi1))
    (hg1 : ∀ (s : Shared) (H : Hp) (C : Addr) (cl : List (Str × Addr)) (fp : List Addr), PG (X.blk s H scope (compEnvC scope cl C X.env) fp) tg1 (gPat X.K p1)) (ht1 : ∀ (s : Shared) (H : Hp) (C : Addr) (cl : List (Str × Addr)) (fp : List Addr), PTs (X.blk s H scope (compEnvC scope cl C X.env) fp) ifs1 (tMT X.K t1))
    (he : ∀ (s : Shared) (H : Hp) (C : Addr) (cl : List (Str × Addr)) (fp : List Addr), PE (X.blk s H scope (compEnvC scope cl C X.env) fp) elt (tM X.K f)) (hp : ∀ i ∈ pvars p, i ∈ own.map (·.2)) (hp1 : ∀ i ∈ pvars p1, i ∈ vs1)
    (hs : ∀ x, foldedSetIterable iter X.env x = pure x := by intro _; rfl) (hs1 : ∀ env x, foldedSetIterable iter1 env x = pure x := by intro _ _; rfl) :
    PS X (.Assign [.Name y py] (.ListComp elt [⟨tg, iter, ifs, 0⟩, ⟨tg1, iter1, ifs1, 0⟩] scope pos) spos) (tMS X.K (mSet i (mLc2 fi p t fi1 p1 t1 f (own.map (·.2)) vs1))) := imp_ps (ps_setLc2 hc hN hy hyl hsw hi ok hv hg ht hi1 hg1 ht1 he hs hs1) fun D σ H q => by
  obtain ⟨n, s, h, m, fl, s', h', I, e, k⟩ := q
  obtain ⟨x, h1, e1, e⟩ := thenS_some e
  cases e
  exact run_lc2 hp hp1 ⟨n, s, h, m, x, h', I, e1, fun m1 H1 v L1 S1 R1 => by
    have I1 := I.le L1 S1
    exact k m1 H1 _ L1 ⟨I1.sm, I1.rs.set I1.len R1, by rw [List.length_set, List.length_set]; exact I1.len⟩⟩
variable {a b c e : Expr} {fa fb fc : M} {pos : Pos}
/-- xs[::-1] -/
def gRev : G1 := fun x h => match x with
  | .ref n => (lstAt h n).bind fun xs => newL xs.reverse h
  | _ => none
theorem m_rev {k : Nat} {p1 p2 p3 : Pos} (he : PE X e (tM X.K fa)) : PE X (.Subscript e (.Slice none none (some (.UnaryOp .USub (.Constant (.int 1) k p1) p2)) p3) pos) (tM X.K (mUn gRev fa)) := imp_pe (pe_revL he) fun σ H Q ⟨n, s, h, m, w, h', I, e, k⟩ => by
  obtain ⟨x, h1, e1, e⟩ := andThen_some e
  unfold gRev at e
  split at e
  · next j =>
    cases el : lstAt h1 j with
    | none => rw [el] at e; cases e
    | some xs =>
      rw [el] at e
      refine ⟨n, s, h, m, _, h1, I, e1, fun m1 H1 v L1 S1 R1 => ?_⟩
      obtain ⟨a, vs, rfl, _, t, rs⟩ := S1.lsAt el R1
      refine ⟨a, vs, rfl, t, fun p hp => ?_⟩
      obtain ⟨L2, S2, R2⟩ := newL_ok S1 rs.reverse e hp
      exact k _ _ _ (L1.trans L2) S2 R2
  · cases e
/-- max of a list of numbers -/
def intsW : List W → Option (List Int)
  | [] => some []
  | .int i :: xs => (intsW xs).map fun r => i :: r
  | _ => none
theorem intsW_ok {K : PySem.W.Frag} {m : List Addr} {H : Hp} : ∀ {xs : List W} {is : List Int} {vs : List V}, intsW xs = some is → Reps K m H xs vs → vs = is.map V.int
  | [], is, vs, e, R => by cases e; exact R
  | .int i :: xs, is, vs, e, R => by
    cases er : intsW xs with
    | none => simp [intsW, er] at e
    | some r =>
      simp only [intsW, er, Option.map_some, Option.some.injEq] at e
      subst e
      obtain ⟨v, us, rfl, R1, R2⟩ := R
      rw [intsW_ok er R2, show v = _ from R1]; rfl
  | .non :: xs, _, _, e, _ => by cases e
  | .bl _ :: xs, _, _, e, _ => by cases e
  | .str _ :: xs, _, _, e, _ => by cases e
  | .tup _ :: xs, _, _, e, _ => by cases e
  | .ref _ :: xs, _, _, e, _ => by cases e
def maxI : List Int → Int
  | [] => 0
  | i :: r => r.foldl (fun a b => if b > a then b else a) i
theorem maxI_ge : ∀ (r : List Int) (a : Int), a ≤ r.foldl (fun a b => if b > a then b else a) a ∧ (∀ y ∈ r, y ≤ r.foldl (fun a b => if b > a then b else a) a) ∧ (r.foldl (fun a b => if b > a then b else a) a = a ∨ r.foldl (fun a b => if b > a then b else a) a ∈ r)
  | [], a => ⟨Int.le_refl _, fun _ h => (by simp at h), .inl rfl⟩
  | b :: r, a => by
    obtain ⟨h1, h2, h3⟩ := maxI_ge r (if b > a then b else a)
    rw [List.foldl_cons]
    refine ⟨?_, fun y hy => ?_, ?_⟩
    · by_cases c : b > a
      · rw [if_pos c] at h1 ⊢; omega
      · rw [if_neg c] at h1 ⊢; exact h1
    · rcases List.mem_cons.mp hy with rfl | hy
      · by_cases c : y > a
        · rw [if_pos c] at h1 ⊢; exact h1
        · rw [if_neg c] at h1 ⊢; omega
      · exact h2 y hy
    · rcases h3 with h3 | h3
      · by_cases c : b > a
        · rw [if_pos c] at h3 ⊢; exact .inr (by rw [h3]; exact List.mem_cons_self)
        · rw [if_neg c] at h3 ⊢; exact .inl h3
      · exact .inr (List.mem_cons_of_mem _ h3)
theorem maxI_ok {ns : List Int} (h : ns ≠ []) : maxI ns ∈ ns ∧ ∀ y ∈ ns, y ≤ maxI ns := by
  cases ns with
  | nil => exact absurd rfl h
  | cons a r =>
    obtain ⟨h1, h2, h3⟩ := maxI_ge r a
    refine ⟨?_, fun y hy => ?_⟩
    · rcases h3 with h3 | h3
      · show r.foldl _ a ∈ a :: r
        rw [h3]; exact List.mem_cons_self
      · exact List.mem_cons_of_mem _ h3
    · rcases List.mem_cons.mp hy with rfl | hy
      · exact h1
      · exact h2 y hy
def gMaxL : GA := fun xs h => match xs with
  | [.ref n] => match (lstAt h n).bind intsW with
    | some (i :: r) => some (.int (maxI (i :: r)), h)
    | _ => none
  | _ => none
theorem i_maxL {K : PySem.W.Frag} : ImpA K gMaxL (rMax K) := by
  intro m h H xs vs w h' S R e Q q
  unfold gMaxL at e
  split at e
  · next n =>
    split at e
    · next i r e1 =>
      cases e
      cases el : lstAt h n with
      | none => rw [el] at e1; cases e1
      | some ys =>
        rw [el] at e1
        obtain ⟨v, rr, rfl, R1, R2⟩ := R
        rw [show rr = [] from R2]
        obtain ⟨a, us, rfl, _, t, rs⟩ := S.lsAt el R1
        have ei := intsW_ok e1 rs
        subst ei
        refine ⟨a, i :: r, rfl, t, by simp, fun mm hm hle => ?_⟩
        obtain ⟨z1, z2⟩ := maxI_ok (ns := i :: r) (by simp)
        have : mm = maxI (i :: r) := Int.le_antisymm (z2 mm hm) (hle _ z1)
        rw [this]
        exact q m H _ Le.refl S rfl
    · cases e
  · cases e
/-- max(i, j), max(list) -/
def gMax2 : GA := fun xs h => match xs with
  | [_] => gMaxL xs h
  | _ => gMax xs h
/-- three names at once -/
def mPar3 (i j l : Nat) (fa fb fc : M) : MSt := fun n s h => thenS (fa n s h) fun u h1 => thenS (fb n s h1) fun v h2 => thenS (fc n s h2) fun w h3 => some (.nx, ((s.set i (some u)).set j (some v)).set l (some w), h3)
theorem ms_par3 {x y z : Str} {px py pz pt : Pos} {kt k2 pt2} (i j l : Nat) (hc : X.calm = true) (hN : X.N.Nodup) (ha : PE X a (tM X.K fa)) (hb : PE X b (tM X.K fb)) (hcc : PE X c (tM X.K fc)) (hi : X.N[i]? = some x := by rfl) (hj : X.N[j]? = some y := by rfl) (hl : X.N[l]? = some z := by rfl)
    (hij : i ≠ j := by decide) (hil : i ≠ l := by decide) (hjl : j ≠ l := by decide)
    (hx : X.env.scope.names.lookup x = some .local := by rfl) (hy : X.env.scope.names.lookup y = some .local := by rfl) (hz : X.env.scope.names.lookup z = some .local := by rfl)
    (hw : swappedStores [.Tuple [.Name x px, .Name y py, .Name z pz] kt pt] (.Tuple [a, b, c] k2 pt2) X.env = pure (some [x, y, z]) := by rfl)
    (hs : swapsWithSole [.Tuple [.Name x px, .Name y py, .Name z pz] kt pt] (.Tuple [a, b, c] k2 pt2) pos.line X.env = pure false := by rfl)
    (h1 : starEach [a, b, c] X.env = (false, eval a X.env) :: starEach [b, c] X.env := by rfl) (h2 : starEach [b, c] X.env = (false, eval b X.env) :: starEach [c] X.env := by rfl) (h3 : starEach [c] X.env = (false, eval c X.env) :: starEach [] X.env := by rfl) :
    PS X (.Assign [.Tuple [.Name x px, .Name y py, .Name z pz] kt pt] (.Tuple [a, b, c] k2 pt2) pos) (tMS X.K (mPar3 i j l fa fb fc)) := imp_ps (ps_par3 hc hN hi hj hl hij hil hjl hx hy hz (pa_cons ha (pa_cons hb (pa_cons hcc pa_nil h3) h2) h1) hw hs) fun D σ H ⟨n, s, h, m, fl, s', h', I, e, k⟩ => by
  obtain ⟨u, h1, e1, e⟩ := thenS_some e
  obtain ⟨v, h2, e2, e⟩ := thenS_some e
  obtain ⟨w, h3, e3, e⟩ := thenS_some e
  cases e
  refine ⟨n, s, h, m, u, h1, I, e1, fun m1 H1 v1 L1 S1 R1 => ⟨n, s, h1, m1, v, h2, I.le L1 S1, e2, fun m2 H2 v2 L2 S2 R2 => ⟨n, s, h2, m2, w, h', (I.le L1 S1).le L2 S2, e3, fun m3 H3 v3 L3 S3 R3 => ⟨v1, v2, v3, rfl, ?_⟩⟩⟩⟩
  have I2 := ((I.le L1 S1).le L2 S2).le L3 S3
  have R1' := Rep.mono L3 _ _ (Rep.mono L2 _ _ R1)
  have R2' := Rep.mono L3 _ _ R2
  refine k m3 H3 _ (L1.trans (L2.trans L3)) ⟨I2.sm, ((I2.rs.set I2.len R1').set (by rw [List.length_set, List.length_set]; exact I2.len) R2').set (by simp [I2.len]) R3, by simp [I2.len]⟩
end
end Mi

/-! Lz1: list(..) of an iterator that lays new pairs. -/
namespace LZ
open PySem PySem.W PySem.Calls PyProof.Rows PySem.Spec
abbrev pairO (x y : Value) : Obj := { cls := .type "tuple", data := .seq #[x, y] }
abbrev listO (acc : Array Value) (c : Nat) : Obj := { cls := .type "list", dict := none, data := .seq acc c, slots := #[] }
/-- pairs that were laid, one behind the other, all above lo -/
structure Got (ps : List (Value × Value)) (lo : Addr) (h : Heap) (as : List Addr) : Prop where
  rise : as.Pairwise (· < ·)
  above : ∀ a ∈ as, lo < a
  pair : ∀ (j : Nat) (a : Addr), as[j]? = some a → ∃ x y, ps[j]? = some (x, y) ∧ h.get? a = some (pairO x y)
theorem Got.lt {ps : List (Value × Value)} {lo : Addr} {h : Heap} {as : List Addr} (g : Got ps lo h as) {a : Addr} (ha : a ∈ as) : a < h.objs.size := by
  obtain ⟨j, hj⟩ := List.mem_iff_getElem?.mp ha
  obtain ⟨_, _, _, e⟩ := g.pair j a hj
  exact Heap.lt_size e
/-- an iterator at I of these pairs, the list being at S; fp: what it turns -/
structure Src (prog : Program) (w : World) (A : Around) (I S : Addr) (fp : List Addr) (ps : List (Value × Value)) (St : Nat → Heap → Prop) : Prop where
  item : ∀ (i : Nat) (x y : Value) (s : Shared) (Q : Option Value → Shared → Prop) (E : Value → Shared → Prop), ps[i]? = some (x, y) → St i s.heap → S < s.heap.objs.size →
    (∀ h', St (i + 1) h' → h'.get? s.heap.objs.size = some (pairO x y) → (∀ c o, c ∉ fp → s.heap.get? c = some o → h'.get? c = some o) → Q (some (.ref s.heap.objs.size)) { s with heap := h' }) → wpAny (model prog w) A (pyNext (.ref I)) Q E s
  done : ∀ (s : Shared) (Q : Option Value → Shared → Prop) (E : Value → Shared → Prop), St ps.length s.heap →
    (∀ h', (∀ c o, c ∉ fp → s.heap.get? c = some o → h'.get? c = some o) → Q none { s with heap := h' }) → wpAny (model prog w) A (pyNext (.ref I)) Q E s
  stay : ∀ (i : Nat) (h h' : Heap), St i h → (∀ c o, c ≠ S → h.get? c = some o → h'.get? c = some o) → St i h'
section
variable {prog : Program} {w : World} {A : Around} {E : Value → Shared → Prop} {s : Shared} {R : Result → Shared → Prop} {S I : Addr} {fp : List Addr} {ps : List (Value × Value)} {St : Nat → Heap → Prop}
theorem loop (src : Src prog w A.in1 I S fp ps St) (hfp : ∀ b ∈ fp, b < S) (hn : ps.length ≤ sizeLine) (res : Value) {h₁ : Heap}
    (hR : ∀ h' acc c as, (∀ b o, b ≠ S → b ∉ fp → h₁.get? b = some o → h'.get? b = some o) → h'.get? S = some (listO acc c) → as.length = ps.length → Got ps S h' as → acc.toList = as.map Value.ref → R (.ok (.ret res)) { s with heap := h' }) :
    ∀ (k i : Nat) (h : Heap) (c : Nat) (acc : Array Value) (as : List Addr), ps.length - i = k → i ≤ ps.length → St i h → (∀ b o, b ≠ S → b ∉ fp → h₁.get? b = some o → h.get? b = some o) → h.get? S = some (listO acc c) →
      acc.toList = as.map Value.ref → as.length = i → Got ps S h as → codeAny (model prog w) A (.builtin "list.extend.loop" ⟨[.ref S, .ref I, res], []⟩) R { s with heap := h } := by
  have hSf : S ∉ fp := fun z => Nat.lt_irrefl _ (hfp S z)
  intro k
  induction k with
  | zero =>
    intro i h c acc as hk hi hst hkeep hS hacc hal hG
    obtain rfl : i = ps.length := by omega
    refine codeAny_builtin PySem.F.entry_extend_loop ?_
    rw [Around.under_plainId PySem.F.plain_extend_loop _]
    show wpAny _ A.in1 (pyNext (.ref I) >>= _) _ _ _
    refine wpAny_bind (src.done { s with heap := h } _ _ hst fun h' he => ?_)
    refine wpAny_pure (hR h' acc c as (fun b o h1 h2 e => he b o h2 (hkeep b o h1 h2 e)) (he S _ hSf hS) hal ⟨hG.rise, hG.above, fun j a hj => ?_⟩ hacc)
    obtain ⟨x, y, e1, e3⟩ := hG.pair j a hj
    exact ⟨x, y, e1, he a _ (fun z => Nat.lt_asymm (hfp a z) (hG.above a (List.mem_of_getElem? hj))) e3⟩
  | succ k ih =>
    intro i h c acc as hk hi hst hkeep hS hacc hal hG
    have hlt : i < ps.length := by omega
    obtain ⟨⟨x, y⟩, hx⟩ : ∃ p, ps[i]? = some p := ⟨ps[i], List.getElem?_eq_getElem hlt⟩
    have hsz : acc.size = i := by rw [← Array.length_toList, hacc, List.length_map, hal]
    have hSl : S < h.objs.size := Heap.lt_size hS
    refine codeAny_builtin PySem.F.entry_extend_loop ?_
    rw [Around.under_plainId PySem.F.plain_extend_loop _]
    show wpAny _ A.in1 (pyNext (.ref I) >>= _) _ _ _
    refine wpAny_bind (src.item i x y { s with heap := h } _ _ hx hst hSl fun h' hst' ht hkp => ?_)
    dsimp only at ht hkp ⊢
    have hS' := hkp S _ hSf hS
    have up : ∀ b o, b ≠ S → h'.get? b = some o → (h'.update S (Obj.mapSeq (·.push (Value.ref h.objs.size)))).get? b = some o := fun b o hb e => (Heap.get?_update_other _ _ (Ne.symm hb)).trans e
    show wpAny _ A.in1 (updateSeq S (·.push (Value.ref h.objs.size)) >>= _) _ _ _
    refine wpAny_bind ?_
    refine wpAny_updateSeq hS' rfl (wpAny_pure ⟨plainId_quiet PySem.F.plain_extend_loop _, ih (i + 1) _ _ (acc.push (Value.ref h.objs.size)) (as ++ [h.objs.size]) (by omega) hlt (src.stay _ _ _ hst' up)
      (fun b o h1 h2 e => up b o h1 (hkp b o h2 (hkeep b o h1 h2 e))) (Heap.get?_update_self _ hS' rfl) (by rw [Array.toList_push, hacc, List.map_append]; rfl) (by rw [List.length_append, hal]; rfl) ⟨?_, ?_, ?_⟩⟩) (by rw [hsz]; omega) (by show (acc.push (Value.ref h.objs.size)).size ≤ sizeLine + 1; rw [Array.size_push, hsz]; omega)
    · refine List.pairwise_append.mpr ⟨hG.rise, List.pairwise_singleton _ _, fun a ha b hb => ?_⟩
      rw [List.mem_singleton.mp hb]
      exact hG.lt ha
    · intro a ha
      rcases List.mem_append.mp ha with ha | ha
      · exact hG.above a ha
      · rw [List.mem_singleton.mp ha]; exact hSl
    · intro j b hj
      rcases Nat.lt_trichotomy j as.length with h1 | h1 | h1
      · rw [List.getElem?_append_left h1] at hj
        obtain ⟨x', y', e1, e3⟩ := hG.pair j b hj
        have hb := hG.above b (List.mem_of_getElem? hj)
        exact ⟨x', y', e1, up b _ (Nat.ne_of_gt hb) (hkp b _ (fun z => Nat.lt_asymm (hfp b z) hb) e3)⟩
      · subst h1
        have hb : h.objs.size = b := by simpa using hj
        subst hb
        exact ⟨x, y, by rw [hal]; exact hx, up _ _ (Nat.ne_of_gt hSl) ht⟩
      · rw [List.getElem?_eq_none (by rw [List.length_append, List.length_singleton]; omega)] at hj
        cases hj
theorem zip_no_len : typeLookup (.type "zip") "__len__" = pure none := by rw [typeLookup_type, builtinLookup_eq_fast]; kernel_rfl
theorem zip_no_hint : typeLookup (.type "zip") "__length_hint__" = pure none := by rw [typeLookup_type, builtinLookup_eq_fast]; kernel_rfl
theorem hint_zip {r : Addr} {Q : Bool → Shared → Prop} (hT : s.TypeIs (.ref r) "zip") (h : Q true s) : wpAny (model prog w) A (Builtin.List.listLengthHint (.ref r)) Q E s := by
  unfold Builtin.List.listLengthHint
  refine wpAny_bind (wpAny_specialOf hT zip_no_len ?_)
  show wpAny _ _ (specialOf (Value.ref r) (Str.ofString "__length_hint__") >>= _) _ _ _
  exact wpAny_bind (wpAny_specialOf hT zip_no_hint (wpAny_pure h))
/-- list(z), z a zip just laid -/
theorem call_list {z TI TO : Addr} {Q : Value → Shared → Prop} (hz : IsZip s.heap z TI TO .none) (hfp : ∀ b ∈ fp, b < s.heap.objs.size) (hzf : z ∈ fp) (hn : ps.length ≤ sizeLine)
    (src : Src prog w A.in1.in1 z s.heap.objs.size fp ps St) (st : ∀ h', (∀ b o, s.heap.get? b = some o → h'.get? b = some o) → St 0 h')
    (hQ : ∀ h' acc c as, (∀ b o, b ∉ fp → s.heap.get? b = some o → h'.get? b = some o) → h'.get? s.heap.objs.size = some (listO acc c) → as.length = ps.length → Got ps s.heap.objs.size h' as → acc.toList = as.map Value.ref → Q (.ref s.heap.objs.size) { s with heap := h' }) :
    wpAny (model prog w) A (call (.type "list") [.ref z]) Q E s := by
  refine callType_codes (Q₁ := fun obj s₁ => obj = .ref s.heap.objs.size ∧ s₁ = { s with heap := s.heap.push { cls := .type "list", data := .seq #[] } }) PySem.F.called_list (PySem.F.typeCall_list_1 _) PySem.F.entry_list_init
    (code_list_new _ ⟨rfl, rfl⟩) fun obj s₁ h₁ => ?_
  obtain ⟨rfl, rfl⟩ := h₁
  have k0 : ∀ b o, s.heap.get? b = some o → (s.heap.push { cls := .type "list", data := .seq #[] }).get? b = some o := fun b o e => Heap.get?_push_of_some _ e
  have hS0 : (s.heap.push { cls := .type "list", data := .seq #[] }).get? s.heap.objs.size = some { cls := .type "list", data := .seq #[] } := Heap.get?_push_size _ rfl
  have lo : ∀ b o, s.heap.get? b = some o → b ≠ s.heap.objs.size := fun b o e => Nat.ne_of_lt (Heap.lt_size e)
  have up : ∀ (h : Heap) (f : Obj → Obj), (∀ b o, s.heap.get? b = some o → h.get? b = some o) → ∀ b o, s.heap.get? b = some o → (h.update s.heap.objs.size f).get? b = some o := fun h f q b o e => (Heap.get?_update_other _ _ (Ne.symm (lo b o e))).trans (q b o e)
  have hzS : z ≠ s.heap.objs.size := lo z _ hz
  refine ⟨⟨_, hS0, rfl⟩, PySem.F.args_list_init_2 _ _, ?_⟩
  show wpAny _ _ (do let old ← Builtin.List.listItems (.ref s.heap.objs.size); Builtin.List.listUpdate (.ref s.heap.objs.size) (fun _ => #[]); letGo old.toList.reverse; Builtin.List.listExtendWith (.ref s.heap.objs.size) (.ref z) .none) _ _ _
  refine wpAny_bind ?_
  unfold Builtin.List.listItems
  refine wpAny_bind (wpAny_seqItems hS0 rfl (wpAny_pure ?_))
  show wpAny _ _ (updateSeq s.heap.objs.size (fun _ => #[]) >>= fun _ => letGo (#[] : Array Value).toList.reverse >>= fun _ => Builtin.List.listExtendWith (.ref s.heap.objs.size) (.ref z) .none) _ _ _
  refine wpAny_bind (wpAny_updateSeq hS0 rfl ?_)
  have hS2 := Heap.get?_update_self (Obj.mapSeq (fun _ => (#[] : Array Value))) hS0 rfl
  have k2 := up _ (Obj.mapSeq (fun _ => (#[] : Array Value))) k0
  refine wpAny_bind (wpAny_letGo ?_)
  unfold Builtin.List.listExtendWith
  have zT : ∀ {h : Heap}, (∀ b o, s.heap.get? b = some o → h.get? b = some o) → ({ s with heap := h } : Shared).TypeIs (.ref z) "zip" := fun {h} q => ⟨_, q _ _ hz, rfl⟩
  refine wpAny_bind (wpAny_typeOf (zT k2) ?_)
  have h1 : Builtin.List.listSameRef (.ref s.heap.objs.size) (.ref z) = false := by simp [Builtin.List.listSameRef, Ne.symm hzS]
  have h2 : (Value.type "zip" == Value.type "list") = false := by decide
  have h3 : (Value.type "zip" == Value.type "tuple") = false := by decide
  simp only [h1, h2, h3, Bool.or_false, Bool.false_eq_true, if_false]
  refine wpAny_bind (wpAny_pyIter_zip (TI := TI) (TO := TO) (f0 := .none) (k2 _ _ hz) ?_)
  refine wpAny_bind (wpAny_holding (hint_zip (zT k2) ?_))
  show wpAny _ _ (rule "list.extend.makes-room" >>= fun _ => Builtin.List.listTouch (.ref s.heap.objs.size) >>= fun _ => again (.builtin "list.extend.loop" ⟨[.ref s.heap.objs.size, .ref z, .none], []⟩)) _ _ _
  refine wpAny_bind (wpAny_rule ?_)
  refine wpAny_bind ?_
  show wpAny _ _ (updateSeq s.heap.objs.size (·.push .none) >>= fun _ => updateSeq s.heap.objs.size (·.pop)) _ _ _
  refine wpAny_bind (wpAny_updateSeq hS2 rfl ?_)
  have hS3 := Heap.get?_update_self (Obj.mapSeq (·.push Value.none)) hS2 rfl
  refine wpAny_updateSeq (hz := by seq_fits) hS3 rfl ?_
  have hS4 := Heap.get?_update_self (Obj.mapSeq (·.pop)) hS3 rfl
  have k4 := up _ (Obj.mapSeq (·.pop)) (up _ (Obj.mapSeq (·.push Value.none)) k2)
  refine wpAny_pure ⟨plainId_quiet PySem.F.plain_extend_loop _, ?_⟩
  refine loop (s := s) (h₁ := s.heap) (A := A.in1) src hfp hn .none (fun h' acc c as q1 q2 q3 q4 q5 => ⟨rfl, hQ h' acc c as (fun b o hb e => q1 b o (lo b o e) hb e) q2 q3 q4 q5⟩) ps.length 0 _ _ #[] [] (Nat.sub_zero _) (Nat.zero_le _) (st _ k4) (fun b o _ _ e => k4 b o e) hS4 rfl rfl
    ⟨List.Pairwise.nil, (fun _ ha => nomatch ha), fun j a hj => by simp at hj⟩
end
end LZ

/-! Lz2: the zip of two lists, of two tuples, as such an iterator. -/
namespace LZ
open PySem PySem.W PySem.Calls PyProof.Rows PySem.Spec
section
variable {prog : Program} {w : World} {A : Around} {E : Value → Shared → Prop} {s : Shared}
theorem heldT_item {z TI TO T i1 i2 l1 l2 : Addr} {f : Bool} {oT : Obj} {k1 k2 : Nat} {xs ys : Array Value} {x y : Value} {Q : Value → Shared → Prop} (D : ZipApart z TI TO i1 i2 l1 l2)
    (hz : IsZipHeld s.heap z TI TO T f) (hT : s.heap.get? T = some oT) (hTI : IsPair s.heap TI (.ref i1) (.ref i2)) (h1 : s.heap.IsTupleIter i1 l1 k1) (h2 : s.heap.IsTupleIter i2 l2 k2)
    (hl1 : s.heap.IsTuple l1 xs) (hl2 : s.heap.IsTuple l2 ys) (hx : xs[k1]? = some x) (hy : ys[k2]? = some y)
    (hQ : ∀ h', IsZipHeld h' z TI TO T true → h'.IsTupleIter i1 l1 (k1 + 1) → h'.IsTupleIter i2 l2 (k2 + 1) → IsPair h' s.heap.objs.size x y → (∀ c o, c ≠ z → c ≠ i1 → c ≠ i2 → s.heap.get? c = some o → h'.get? c = some o) → Q (.ref s.heap.objs.size) { s with heap := h' }) :
    wpAny (model prog w) A (Builtin.«zip.__next__» ⟨[.ref z], []⟩) (fun fin s' => ∃ v, fin = .done (.ret v) ∧ Q v s') E s := by
  show wpAny _ _ (field (.ref z) 2 >>= _) _ _ _; refine wpAny_bind (wpAny_field hz rfl (x := .bool false) rfl ?_)
  show wpAny _ _ (field (.ref z) 3 >>= _) _ _ _; refine wpAny_bind (wpAny_field hz rfl (x := .ref TI) rfl (wpAny_bind (wpAny_seqItems hTI rfl ?_)))
  show wpAny _ _ (Builtin.SmallTypes.ownedTupleIsFree (.ref z) >>= _) _ _ _; refine wpAny_bind (wpAny_tupleHeld_zip hz hT fun g1 z1 b1 => ?_)
  simp only [Bool.false_eq_true, if_false]; refine wpAny_bind ?_; rw [← Array.forIn_toList]; simp only [List.forIn_cons, List.forIn_nil]; refine wpAny_bind (wpAny_bind (wpAny_holding ?_))
  show wpAny _ _ (Builtin.SmallTypes.nextOf (.ref i1) >>= _) _ _ _
  refine wpAny_bind (RZ.nextOf_tuple_item (s := { s with heap := g1 }) (h1.extBut b1.extBut D.i1z) (hl1.extBut b1.extBut D.l1z) hx fun g2 j1 b2 => wpAny_pure (wpAny_pure ?_)); refine wpAny_bind (wpAny_bind (wpAny_holding ?_))
  show wpAny _ _ (Builtin.SmallTypes.nextOf (.ref i2) >>= _) _ _ _
  refine wpAny_bind (RZ.nextOf_tuple_item (s := { s with heap := g2 }) ((h2.extBut b1.extBut D.i2z).extBut b2.extBut D.i12.symm) ((hl2.extBut b1.extBut D.l2z).extBut b2.extBut D.l2i1) hy fun g3 j2 b3 => wpAny_pure (wpAny_pure (wpAny_pure ?_)))
  show wpAny _ _ (newTuple [x, y] >>= _) _ _ _; refine wpAny_bind (wpAny_newTuple (wpAny_pure ⟨_, rfl, ?_⟩))
  have hsz : g3.objs.size = s.heap.objs.size := by rw [b3.1, b2.1, b1.1]
  have z3 : IsZipHeld g3 z TI TO T true := b3.extBut _ _ D.i2z.symm (b2.extBut _ _ D.i1z.symm z1)
  have hk : ∀ c o, c ≠ z → c ≠ i1 → c ≠ i2 → s.heap.get? c = some o → g3.get? c = some o := fun c o c1 c2 c3 e => b3.extBut _ _ c3 (b2.extBut _ _ c2 (b1.extBut _ _ c1 e))
  have j3 : g3.IsTupleIter i1 l1 (k1 + 1) := j1.extBut b3.extBut D.i12
  show Q (.ref g3.objs.size) _
  have hp : IsPair (g3.push { cls := .type "tuple", data := .seq #[x, y] }) g3.objs.size x y := Heap.get?_push_size _ rfl
  rw [hsz] at hp ⊢
  exact hQ _ (Heap.get?_push_of_some _ z3) (j3.at fun o e => Heap.get?_push_of_some _ e) (j2.at fun o e => Heap.get?_push_of_some _ e) hp fun c o c1 c2 c3 e => Heap.get?_push_of_some _ (hk c o c1 c2 c3 e)
theorem heldT_end {z TI TO T i1 i2 l1 l2 : Addr} {f : Bool} {oT : Obj} {k1 k2 : Nat} {xs ys : Array Value} {Q : Fin → Shared → Prop} (hh : A.handled = none) (D : ZipApart z TI TO i1 i2 l1 l2)
    (hz : IsZipHeld s.heap z TI TO T f) (hT : s.heap.get? T = some oT) (hTI : IsPair s.heap TI (.ref i1) (.ref i2)) (h1 : s.heap.IsTupleIter i1 l1 k1) (h2 : s.heap.IsTupleIter i2 l2 k2)
    (hl1 : s.heap.IsTuple l1 xs) (hl2 : s.heap.IsTuple l2 ys) (hend : xs[k1]? = none ∨ ys[k2]? = none)
    (hE : ∀ h' e, (∀ c o, c ≠ z → c ≠ i1 → c ≠ i2 → s.heap.get? c = some o → h'.get? c = some o) → (∃ o, h'.get? e = some o ∧ o.cls = .type "StopIteration") → E (.ref e) { s with heap := h' }) :
    wpAny (model prog w) A (Builtin.«zip.__next__» ⟨[.ref z], []⟩) Q E s := by
  show wpAny _ _ (field (.ref z) 2 >>= _) _ _ _; refine wpAny_bind (wpAny_field hz rfl (x := .bool false) rfl ?_)
  show wpAny _ _ (field (.ref z) 3 >>= _) _ _ _; refine wpAny_bind (wpAny_field hz rfl (x := .ref TI) rfl (wpAny_bind (wpAny_seqItems hTI rfl ?_)))
  show wpAny _ _ (Builtin.SmallTypes.ownedTupleIsFree (.ref z) >>= _) _ _ _; refine wpAny_bind (wpAny_tupleHeld_zip hz hT fun g1 z1 b1 => ?_)
  simp only [Bool.false_eq_true, if_false]; refine wpAny_bind ?_; rw [← Array.forIn_toList]; simp only [List.forIn_cons, List.forIn_nil]; refine wpAny_bind (wpAny_bind (wpAny_holding ?_))
  show wpAny _ _ (Builtin.SmallTypes.nextOf (.ref i1) >>= _) _ _ _
  cases hx : xs[k1]? with
  | none => exact wpAny_bind (RZ.nextOf_tuple_end (s := { s with heap := g1 }) hh (h1.extBut b1.extBut D.i1z) (hl1.extBut b1.extBut D.l1z) hx fun g2 e b2 he => hE g2 e (fun c o c1 c2 _ x => b2 _ _ c2 (b1.extBut _ _ c1 x)) he)
  | some x =>
    have hy : ys[k2]? = none := by
      rcases hend with h | h
      · rw [hx] at h; cases h
      · exact h
    refine wpAny_bind (RZ.nextOf_tuple_item (s := { s with heap := g1 }) (h1.extBut b1.extBut D.i1z) (hl1.extBut b1.extBut D.l1z) hx fun g2 j1 b2 => wpAny_pure (wpAny_pure ?_)); refine wpAny_bind (wpAny_bind (wpAny_holding ?_))
    show wpAny _ _ (Builtin.SmallTypes.nextOf (.ref i2) >>= _) _ _ _
    exact wpAny_bind (RZ.nextOf_tuple_end (s := { s with heap := g2 }) hh ((h2.extBut b1.extBut D.i2z).extBut b2.extBut D.i12.symm) ((hl2.extBut b1.extBut D.l2z).extBut b2.extBut D.l2i1) hy fun g3 e b3 he => hE g3 e (fun c o c1 c2 c3 x => b3 _ _ c3 (b2.extBut _ _ c2 (b1.extBut _ _ c1 x))) he)
theorem pyHeldT_item {z TI TO T i1 i2 l1 l2 : Addr} {f : Bool} {oT : Obj} {k1 k2 : Nat} {xs ys : Array Value} {x y : Value} {Q : Option Value → Shared → Prop} (D : ZipApart z TI TO i1 i2 l1 l2)
    (hz : IsZipHeld s.heap z TI TO T f) (hT : s.heap.get? T = some oT) (hTI : IsPair s.heap TI (.ref i1) (.ref i2)) (h1 : s.heap.IsTupleIter i1 l1 k1) (h2 : s.heap.IsTupleIter i2 l2 k2)
    (hl1 : s.heap.IsTuple l1 xs) (hl2 : s.heap.IsTuple l2 ys) (hx : xs[k1]? = some x) (hy : ys[k2]? = some y)
    (hQ : ∀ h', IsZipHeld h' z TI TO T true → h'.IsTupleIter i1 l1 (k1 + 1) → h'.IsTupleIter i2 l2 (k2 + 1) → IsPair h' s.heap.objs.size x y → (∀ c o, c ≠ z → c ≠ i1 → c ≠ i2 → s.heap.get? c = some o → h'.get? c = some o) → Q (some (.ref s.heap.objs.size)) { s with heap := h' }) :
    wpAny (model prog w) A (pyNext (.ref z)) Q E s := by
  have hTy : s.TypeIs (.ref z) "zip" := ⟨_, hz, rfl⟩
  unfold pyNext; refine wpAny_bind (wpAny_attempt (wpAny_callSpecial?_slot (name := Str.ofString "__next__") hTy F.slot_zip_next (wpAny_call_entry F.slot_zip_next hTy F.entry_zip_next ?_ (F.args_zip_next_1 _))))
  exact heldT_item D hz hT hTI h1 h2 hl1 hl2 hx hy fun h' a1 a3 a4 a5 a7 => wpAny_pure (hQ h' a1 a3 a4 a5 a7)
theorem pyHeldT_end {z TI TO T i1 i2 l1 l2 : Addr} {f : Bool} {oT : Obj} {k1 k2 : Nat} {xs ys : Array Value} {Q : Option Value → Shared → Prop} (hh : A.handled = none) (D : ZipApart z TI TO i1 i2 l1 l2)
    (hz : IsZipHeld s.heap z TI TO T f) (hT : s.heap.get? T = some oT) (hTI : IsPair s.heap TI (.ref i1) (.ref i2)) (h1 : s.heap.IsTupleIter i1 l1 k1) (h2 : s.heap.IsTupleIter i2 l2 k2)
    (hl1 : s.heap.IsTuple l1 xs) (hl2 : s.heap.IsTuple l2 ys) (hend : xs[k1]? = none ∨ ys[k2]? = none)
    (hQ : ∀ h', (∀ c o, c ≠ z → c ≠ i1 → c ≠ i2 → s.heap.get? c = some o → h'.get? c = some o) → Q none { s with heap := h' }) : wpAny (model prog w) A (pyNext (.ref z)) Q E s := by
  have hTy : s.TypeIs (.ref z) "zip" := ⟨_, hz, rfl⟩
  unfold pyNext; refine wpAny_bind (wpAny_attempt (wpAny_callSpecial?_slot (name := Str.ofString "__next__") hTy F.slot_zip_next (wpAny_call_entry F.slot_zip_next hTy F.entry_zip_next ?_ (F.args_zip_next_1 _))))
  refine heldT_end hh D hz hT hTI h1 h2 hl1 hl2 hend fun h' e hk ⟨o, ho, hc⟩ => ?_
  exact wpAny_bind (wpAny_isInstance (T := "StopIteration") (b := true) ⟨o, ho, hc⟩ isSubtype_stop (wpAny_pure (hQ _ hk)))
/-- two lists -/
theorem srcL {z TI TO i1 i2 l1 l2 S : Addr} {xs ys : Array Value} {ps : List (Value × Value)} (hh : A.handled = none) (D : ZipApart z TI TO i1 i2 l1 l2) (lz : z < S) (lTI : TI < S) (lTO : TO < S) (li1 : i1 < S) (li2 : i2 < S) (ll1 : l1 < S) (ll2 : l2 < S)
    (hp : ∀ (i : Nat) (x y : Value), ps[i]? = some (x, y) → xs[i]? = some x ∧ ys[i]? = some y) (he : xs[ps.length]? = none ∨ ys[ps.length]? = none) :
    Src prog w A z S [z, TO, i1, i2] ps (fun i h => IsPair h TI (.ref i1) (.ref i2) ∧ h.IsListIter i1 l1 i ∧ h.IsListIter i2 l2 i ∧ h.IsList l1 xs ∧ h.IsList l2 ys ∧
      ((IsZip h z TI TO .none ∧ ∃ a b, IsPair h TO a b) ∨ ∃ T f oT, IsZipHeld h z TI TO T f ∧ h.get? T = some oT ∧ S < T)) where
  item := fun i x y s Q E hi ⟨hTI, h1, h2, hl1, hl2, hz⟩ hS hQ => by
    obtain ⟨ex, ey⟩ := hp i x y hi
    rcases hz with ⟨hz, a, b, hTO⟩ | ⟨T, f, oT, hz, hT, hlt⟩
    · exact wpAny_pyNext_zip_item D hz hTI hTO h1 h2 hl1 hl2 ex ey fun h' a1 a2 a3 a4 a5 a6 hk => hQ h' ⟨hk _ _ D.TIz D.TITO D.TIi1 D.TIi2 hTI, a3, a4, hl1.at fun o e => hk _ o D.l1z D.l1TO D.l1i1 D.l1i2 e, hl2.at fun o e => hk _ o D.l2z D.l2TO D.l2i1 D.l2i2 e, .inr ⟨_, false, _, a1, a5, hS⟩⟩ a5
        fun c o hc e => hk c o (fun x => hc (by simp [x])) (fun x => hc (by simp [x])) (fun x => hc (by simp [x])) (fun x => hc (by simp [x])) e
    · exact wpAny_pyNext_zip_item_held D hz hT hTI h1 h2 hl1 hl2 ex ey fun h' a1 a3 a4 a5 a6 hk => hQ h' ⟨hk _ _ D.TIz D.TIi1 D.TIi2 hTI, a3, a4, hl1.at fun o e => hk _ o D.l1z D.l1i1 D.l1i2 e, hl2.at fun o e => hk _ o D.l2z D.l2i1 D.l2i2 e,
        .inr ⟨T, true, oT, a1, hk _ _ (Nat.ne_of_gt (Nat.lt_trans lz hlt)) (Nat.ne_of_gt (Nat.lt_trans li1 hlt)) (Nat.ne_of_gt (Nat.lt_trans li2 hlt)) hT, hlt⟩⟩ a5 fun c o hc e => hk c o (fun x => hc (by simp [x])) (fun x => hc (by simp [x])) (fun x => hc (by simp [x])) e
  done := fun s Q E ⟨hTI, h1, h2, hl1, hl2, hz⟩ hQ => by
    rcases hz with ⟨hz, a, b, hTO⟩ | ⟨T, f, oT, hz, hT, hlt⟩
    · exact wpAny_pyNext_zip_end hh D hz hTI hTO h1 h2 hl1 hl2 he fun h' hk => hQ h' fun c o hc e => hk c o (fun x => hc (by simp [x])) (fun x => hc (by simp [x])) (fun x => hc (by simp [x])) (fun x => hc (by simp [x])) e
    · exact wpAny_pyNext_zip_end_held hh D hz hT hTI h1 h2 hl1 hl2 he fun h' hk => hQ h' fun c o hc e => hk c o (fun x => hc (by simp [x])) (fun x => hc (by simp [x])) (fun x => hc (by simp [x])) e
  stay := fun i h h' ⟨hTI, h1, h2, hl1, hl2, hz⟩ hk => by
    refine ⟨hk _ _ (Nat.ne_of_lt lTI) hTI, h1.at fun o e => hk _ o (Nat.ne_of_lt li1) e, h2.at fun o e => hk _ o (Nat.ne_of_lt li2) e, hl1.at fun o e => hk _ o (Nat.ne_of_lt ll1) e, hl2.at fun o e => hk _ o (Nat.ne_of_lt ll2) e, ?_⟩
    rcases hz with ⟨hz, a, b, hTO⟩ | ⟨T, f, oT, hz, hT, hlt⟩
    · exact .inl ⟨hk _ _ (Nat.ne_of_lt lz) hz, a, b, hk _ _ (Nat.ne_of_lt lTO) hTO⟩
    · exact .inr ⟨T, f, oT, hk _ _ (Nat.ne_of_lt lz) hz, hk _ _ (Nat.ne_of_gt hlt) hT, hlt⟩
/-- two tuples -/
theorem srcT {z TI TO i1 i2 l1 l2 S : Addr} {xs ys : Array Value} {ps : List (Value × Value)} (hh : A.handled = none) (D : ZipApart z TI TO i1 i2 l1 l2) (lz : z < S) (lTI : TI < S) (lTO : TO < S) (li1 : i1 < S) (li2 : i2 < S) (ll1 : l1 < S) (ll2 : l2 < S)
    (hp : ∀ (i : Nat) (x y : Value), ps[i]? = some (x, y) → xs[i]? = some x ∧ ys[i]? = some y) (he : xs[ps.length]? = none ∨ ys[ps.length]? = none) :
    Src prog w A z S [z, TO, i1, i2] ps (fun i h => IsPair h TI (.ref i1) (.ref i2) ∧ h.IsTupleIter i1 l1 i ∧ h.IsTupleIter i2 l2 i ∧ h.IsTuple l1 xs ∧ h.IsTuple l2 ys ∧
      ((IsZip h z TI TO .none ∧ ∃ a b, IsPair h TO a b) ∨ ∃ T f oT, IsZipHeld h z TI TO T f ∧ h.get? T = some oT ∧ S < T)) where
  item := fun i x y s Q E hi ⟨hTI, h1, h2, hl1, hl2, hz⟩ hS hQ => by
    obtain ⟨ex, ey⟩ := hp i x y hi
    rcases hz with ⟨hz, a, b, hTO⟩ | ⟨T, f, oT, hz, hT, hlt⟩
    · exact RZ.pyNext_zipT_item D hz hTI hTO h1 h2 hl1 hl2 ex ey fun h' a1 a2 a3 a4 a5 a6 hk => hQ h' ⟨hk _ _ D.TIz D.TITO D.TIi1 D.TIi2 hTI, a3, a4, hl1.at fun o e => hk _ o D.l1z D.l1TO D.l1i1 D.l1i2 e, hl2.at fun o e => hk _ o D.l2z D.l2TO D.l2i1 D.l2i2 e, .inr ⟨_, false, _, a1, a5, hS⟩⟩ a5
        fun c o hc e => hk c o (fun x => hc (by simp [x])) (fun x => hc (by simp [x])) (fun x => hc (by simp [x])) (fun x => hc (by simp [x])) e
    · exact pyHeldT_item D hz hT hTI h1 h2 hl1 hl2 ex ey fun h' a1 a3 a4 a5 hk => hQ h' ⟨hk _ _ D.TIz D.TIi1 D.TIi2 hTI, a3, a4, hl1.at fun o e => hk _ o D.l1z D.l1i1 D.l1i2 e, hl2.at fun o e => hk _ o D.l2z D.l2i1 D.l2i2 e,
        .inr ⟨T, true, oT, a1, hk _ _ (Nat.ne_of_gt (Nat.lt_trans lz hlt)) (Nat.ne_of_gt (Nat.lt_trans li1 hlt)) (Nat.ne_of_gt (Nat.lt_trans li2 hlt)) hT, hlt⟩⟩ a5 fun c o hc e => hk c o (fun x => hc (by simp [x])) (fun x => hc (by simp [x])) (fun x => hc (by simp [x])) e
  done := fun s Q E ⟨hTI, h1, h2, hl1, hl2, hz⟩ hQ => by
    rcases hz with ⟨hz, a, b, hTO⟩ | ⟨T, f, oT, hz, hT, hlt⟩
    · exact RZ.pyNext_zipT_end hh D hz hTI hTO h1 h2 hl1 hl2 he fun h' hk => hQ h' fun c o hc e => hk c o (fun x => hc (by simp [x])) (fun x => hc (by simp [x])) (fun x => hc (by simp [x])) (fun x => hc (by simp [x])) e
    · exact pyHeldT_end hh D hz hT hTI h1 h2 hl1 hl2 he fun h' hk => hQ h' fun c o hc e => hk c o (fun x => hc (by simp [x])) (fun x => hc (by simp [x])) (fun x => hc (by simp [x])) e
  stay := fun i h h' ⟨hTI, h1, h2, hl1, hl2, hz⟩ hk => by
    refine ⟨hk _ _ (Nat.ne_of_lt lTI) hTI, h1.at fun o e => hk _ o (Nat.ne_of_lt li1) e, h2.at fun o e => hk _ o (Nat.ne_of_lt li2) e, hl1.at fun o e => hk _ o (Nat.ne_of_lt ll1) e, hl2.at fun o e => hk _ o (Nat.ne_of_lt ll2) e, ?_⟩
    rcases hz with ⟨hz, a, b, hTO⟩ | ⟨T, f, oT, hz, hT, hlt⟩
    · exact .inl ⟨hk _ _ (Nat.ne_of_lt lz) hz, a, b, hk _ _ (Nat.ne_of_lt lTO) hTO⟩
    · exact .inr ⟨T, f, oT, hk _ _ (Nat.ne_of_lt lz) hz, hk _ _ (Nat.ne_of_gt hlt) hT, hlt⟩
end
end LZ

/-! Lz3: list(zip(a, b)) of two lists, of two tuples. -/
namespace LZ
open PySem PySem.Spec PyProof.Rows L2
/-- the pairs at their places -/
def putP : Hp → List Addr → List (V × V) → Hp
  | H, a :: as, p :: ps => putP (upd H a (.tup [p.1, p.2])) as ps
  | H, _, _ => H
theorem putP_off {b : Addr} : ∀ (as : List Addr) (ps : List (V × V)) (H : Hp), b ∉ as → putP H as ps b = H b
  | [], _, _, _ => rfl
  | _ :: _, [], _, _ => rfl
  | a :: as, p :: ps, H, h => by
    have e := putP_off as ps (upd H a (.tup [p.1, p.2])) fun z => h (List.mem_cons_of_mem _ z)
    exact e.trans (upd_ne fun z => h (by rw [z]; exact List.mem_cons_self))
theorem putP_at : ∀ (as : List Addr) (ps : List (V × V)) (H : Hp), as.length = ps.length → as.Nodup → ∀ (j : Nat) (a : Addr) (p : V × V), as[j]? = some a → ps[j]? = some p → putP H as ps a = some (.tup [p.1, p.2])
  | [], _, _, _, _, _, _, _, e, _ => by simp at e
  | _ :: _, [], _, h, _, _, _, _, _, _ => by cases h
  | a :: as, p :: ps, H, h, hn, 0, b, q, e1, e2 => by
    have hn' := List.nodup_cons.mp hn
    simp at e1 e2; subst e1; subst e2
    exact (putP_off as ps _ hn'.1).trans upd_same
  | a :: as, p :: ps, H, h, hn, j + 1, b, q, e1, e2 => putP_at as ps _ (Nat.succ.inj h) (List.nodup_cons.mp hn).2 j b q (by simpa using e1) (by simpa using e2)
/-- the reading of list(zip(..)) -/
def tLZ (K : PySem.W.Frag) (ta : TA) : TE := fun σ H Q => ta σ H fun vs H1 => ∃ (a b : Addr) (xs ys : List V), vs = [.ref a, .ref b] ∧ ((SqL K H1 a xs ∧ SqL K H1 b ys) ∨ (SqT K H1 a xs ∧ SqT K H1 b ys)) ∧ (xs.zip ys).length ≤ sizeLine ∧
  ∀ (H' : Hp) (p : Addr) (ts : List Addr), (∀ c u, H1 c = some u → H' c = some u) → H1 p = none → (∀ t ∈ ts, H1 t = none) → p ∉ ts → H' p = some (.lst (ts.map V.ref)) → ts.length = (xs.zip ys).length →
    (∀ (j : Nat) (t : Addr) (q : V × V), ts[j]? = some t → (xs.zip ys)[j]? = some q → H' t = some (.tup [q.1, q.2])) → Q (.ref p) H'
section
variable {X : Cx}
theorem zip_vals {xs ys : List V} {us vs : List Value} (r : Vals xs us) (r2 : Vals ys vs) : (us.zip vs).length = (xs.zip ys).length ∧ ∀ (j : Nat) (u v : Value), (us.zip vs)[j]? = some (u, v) → ∃ x y, (xs.zip ys)[j]? = some (x, y) ∧ RelV x u ∧ RelV y v := by
  refine ⟨by rw [List.length_zip, List.length_zip, r.length, r2.length], fun j u v e => ?_⟩
  rw [List.getElem?_zip_eq_some] at e
  have hx : ∃ x, xs[j]? = some x := by
    have : j < xs.length := by
      rw [r.length]
      exact (List.getElem?_eq_some_iff.mp e.1).1
    exact ⟨_, List.getElem?_eq_getElem this⟩
  have hy : ∃ y, ys[j]? = some y := by
    have : j < ys.length := by
      rw [r2.length]
      exact (List.getElem?_eq_some_iff.mp e.2).1
    exact ⟨_, List.getElem?_eq_getElem this⟩
  obtain ⟨x, ex⟩ := hx
  obtain ⟨y, ey⟩ := hy
  obtain ⟨u', eu, ru⟩ := r.get ex
  obtain ⟨v', ev, rv⟩ := r2.get ey
  rw [e.1] at eu; cases eu
  rw [e.2] at ev; cases ev
  exact ⟨x, y, List.getElem?_zip_eq_some.mpr ⟨ex, ey⟩, ru, rv⟩
/-- behind it: the list and its pairs are tracked -/
theorem laid {pins : List (Addr × Obj)} {σ : L2.St} {H : Hp} {s : Shared} {h' : Heap} {xs ys : List V} {us vs : List Value} {acc : Array Value} {c : Nat} {as : List Addr} {S : Addr} (I : Inv X pins σ H s) (r : Vals xs us) (r2 : Vals ys vs) (hz : (xs.zip ys).length ≤ sizeLine)
    (hk : ∀ b o, s.heap.get? b = some o → h'.get? b = some o) (hlo : s.heap.objs.size ≤ S) (hS : h'.get? S = some (listO acc c)) (hl : as.length = (us.zip vs).length) (hG : Got (us.zip vs) S h' as) (hacc : acc.toList = as.map Value.ref) :
    ∃ H' : Hp, (∀ b u, H b = some u → H' b = some u) ∧ H S = none ∧ (∀ t ∈ as, H t = none) ∧ S ∉ as ∧ H' S = some (.lst (as.map V.ref)) ∧ as.length = (xs.zip ys).length ∧
      (∀ (j : Nat) (t : Addr) (q : V × V), as[j]? = some t → (xs.zip ys)[j]? = some q → H' t = some (.tup [q.1, q.2])) ∧ Inv X pins σ H' { s with heap := h' } := by
  obtain ⟨zl, zp⟩ := zip_vals r r2
  have hl' : as.length = (xs.zip ys).length := hl.trans zl
  have hSn : S ∉ as := fun z => Nat.lt_irrefl _ (hG.above _ z)
  have nd : as.Nodup := List.Pairwise.imp (fun {a b} (h : a < b) => Nat.ne_of_lt h) hG.rise
  have new : ∀ t ∈ as, H t = none := fun t ht => I.hok.fresh (Nat.le_trans hlo (Nat.le_of_lt (hG.above t ht)))
  have newS : H S = none := I.hok.fresh hlo
  let H' : Hp := putP (upd H S (.lst (as.map V.ref))) as (xs.zip ys)
  have off : ∀ b, b ∉ as → b ≠ S → H' b = H b := fun b h1 h2 => (putP_off as _ _ h1).trans (upd_ne h2)
  have eS : H' S = some (.lst (as.map V.ref)) := (putP_off as _ _ hSn).trans upd_same
  have atP : ∀ (j : Nat) (t : Addr) (q : V × V), as[j]? = some t → (xs.zip ys)[j]? = some q → H' t = some (.tup [q.1, q.2]) := fun j t q e1 e2 => putP_at as _ _ hl' nd j t q e1 e2
  have kp : ∀ b u, H b = some u → H' b = some u := fun b u e => by
    rw [off b (fun z => by rw [new b z] at e; cases e) (fun z => by rw [z, newS] at e; cases e)]
    exact e
  have low : ∀ b o, s.heap.get? b = some o → b ∉ as ∧ b ≠ S := fun b o e => ⟨fun z => absurd (Nat.lt_of_lt_of_le (Heap.lt_size e) hlo) (Nat.not_lt.mpr (Nat.le_of_lt (hG.above b z))), Nat.ne_of_lt (Nat.lt_of_lt_of_le (Heap.lt_size e) hlo)⟩
  refine ⟨H', kp, newS, new, hSn, eS, hl', atP, ?_⟩
  have U : Un (frs X.stack) [] H H' s.heap h' := { keep := fun b o q _ _ _ => hk b o q, slot := fun b o q _ _ _ => ⟨o.slots, hk b o q⟩, free := fun b o q n _ => (off b (low b o q).1 (low b o q).2).trans n, there := fun b o q _ => ⟨o, hk b o q⟩, tups := fun b xs q => kp b _ q, frzs := fun b o u q => kp b _ q, tbls := fun b ps q => ⟨#[], by rw [kp b _ q]; simp⟩ }
  refine I.call' (ch := []) rfl U (fun b u q => ?_) I.bare fun b z => by simp at z
  by_cases hb : b ∈ as
  · obtain ⟨j, hj⟩ := List.mem_iff_getElem?.mp hb
    obtain ⟨x, y, e1, e2⟩ := hG.pair j b hj
    obtain ⟨vx, vy, e3, rx, ry⟩ := zp j x y e1
    rw [atP j b _ hj e3] at q
    cases q
    exact ⟨by show 2 ≤ sizeLine; decide, [x, y], .cons rx (.cons ry .nil), ⟨_, e2, rfl, _, rfl⟩⟩
  · by_cases hb2 : b = S
    · rw [hb2, eS] at q
      cases q
      rw [hb2]
      refine ⟨by rw [List.length_map, hl']; exact hz, acc.toList, c, by rw [hacc]; exact LiI.vals_refs as, ?_⟩
      rw [Array.toArray_toList]
      exact hS
    · rw [off b hb hb2] at q
      exact (I.hok b u q).stay (fun d v _ y => hk d v y) (fun d y => kp d _ y) fun d xs y => kp d _ y
theorem pe_listZip {e e2 : Expr} {ta : TA} {p p2 pos pos2 : Pos} (hc : X.calm = true) (hg : Gl X "list") (hm : X.mg "list" = none) (hv : bootBuiltins "list" = some (.type "list")) (hg2 : Gl X "zip") (hm2 : X.mg "zip" = none) (ha : PA X [e, e2] ta)
    (hs : starEach [e, e2] X.env = (false, eval e X.env) :: starEach [e2] X.env := by rfl) (hpl : (backTo pos2 (starEach [e2] X.env)).any (·.1) = false := by rfl)
    (hs1 : starEach [.Call (.Name "zip" p2) [e, e2] [] pos2] X.env = (false, eval (.Call (.Name "zip" p2) [e, e2] [] pos2) X.env) :: starEach [] X.env := by rfl) :
    PE X (.Call (.Name "list" p) [.Call (.Name "zip" p2) [e, e2] [] pos2] [] pos) (tLZ X.K ta) := by
  refine ⟨fun pins s σ H Q I hq => ?_⟩
  refine wpAny_Call_Name_kw (ld_blt I hg hm hv (PyProof.Rows.callWith_type1 ?_ hs1 rfl))
  rw [hs1]
  show wpAny _ _ (spliced ((false, eval (.Call (.Name "zip" p2) [e, e2] [] pos2) X.env) :: backTo pos (starEach [] X.env))) _ _ s
  refine Calls.spliced_cons ?_
  refine Call_ (ld_blt I hg2 hm2 PyProof.Rows.boot_zip (PyProof.Rows.callWith_type1 (thn (ha.run pos2 pins s σ H _ I hq) fun us s1 ⟨vs, H1, I1, r1, q1⟩ => ?_) hs hpl))
  obtain ⟨a, b, xs, ys, ex, hsq, hzz, q⟩ := q1
  subst ex
  cases r1 with
  | cons r rr =>
    cases rr with
    | cons r' rr =>
      cases rr
      cases r
      cases r'
      have Sz : ∀ {g0 : Heap}, g0.objs.size = s1.heap.objs.size + 5 → (∀ b ∈ [s1.heap.objs.size + 4, s1.heap.objs.size + 3, s1.heap.objs.size, s1.heap.objs.size + 1], b < g0.objs.size) := fun {g0} e b hb => by
        rw [e]
        simp only [List.mem_cons, List.not_mem_nil, or_false] at hb
        rcases hb with z | z | z | z <;> rw [z] <;> first | exact Nat.add_lt_add_left (show 4 < 5 by decide) _ | exact Nat.add_lt_add_left (show 3 < 5 by decide) _ | exact Nat.add_lt_add_left (show 1 < 5 by decide) _ | exact Nat.lt_add_of_pos_right (by decide)
      have old : ∀ b o, s1.heap.get? b = some o → b ∉ [s1.heap.objs.size + 4, s1.heap.objs.size + 3, s1.heap.objs.size, s1.heap.objs.size + 1] := fun b o e hb => by
        have := Heap.lt_size e
        simp only [List.mem_cons, List.not_mem_nil, or_false] at hb
        rcases hb with z | z | z | z <;> rw [z] at this <;> first | exact absurd this (Nat.lt_irrefl _) | exact absurd this (Nat.not_lt.mpr (Nat.le_add_right _ _))
      have ends : ∀ (us vs : List Value), us.toArray[(us.zip vs).length]? = none ∨ vs.toArray[(us.zip vs).length]? = none := fun us vs => by
        rw [List.length_zip]
        rcases Nat.le_total us.length vs.length with h | h
        · exact .inl (by simp; omega)
        · exact .inr (by simp; omega)
      have items : ∀ (us vs : List Value) (i : Nat) (x y : Value), (us.zip vs)[i]? = some (x, y) → us.toArray[i]? = some x ∧ vs.toArray[i]? = some y := fun us vs i x y e => by
        rw [List.getElem?_zip_eq_some] at e
        simpa using e
      rcases hsq with ⟨hqx, hqy⟩ | ⟨hqx, hqy⟩
      · obtain ⟨us, rv, p1, _⟩ := I1.list hqx
        obtain ⟨vs, rv2, p2', _⟩ := I1.list hqy
        refine call_zip_2 p1.isList p2'.isList fun g0 hz hTI hTO h1 h2 hsz hk => Calls.spliced_nil ?_
        have lt : ∀ k, k < 5 → s1.heap.objs.size + k < g0.objs.size := fun k h => by rw [hsz]; exact Nat.add_lt_add_left h _
        have la : a < g0.objs.size := Nat.lt_of_lt_of_le p1.lt (by rw [hsz]; exact Nat.le_add_right _ _)
        have lb : b < g0.objs.size := Nat.lt_of_lt_of_le p2'.lt (by rw [hsz]; exact Nat.le_add_right _ _)
        refine call_list (s := { s1 with heap := g0 }) (ps := us.zip vs) hz (Sz hsz) (by simp) (by rw [(zip_vals rv rv2).1]; exact hzz) (srcL (I1.ok.hd hc) (PySem.W.ktu_apart s1.heap.objs.size a b p1.lt p2'.lt) (lt 4 (by decide)) (lt 2 (by decide)) (lt 3 (by decide)) (lt 0 (by decide)) (lt 1 (by decide)) la lb (items us vs) (ends us vs))
          (fun h' k => ⟨k _ _ hTI, h1.at fun o e => k _ o e, h2.at fun o e => k _ o e, p1.isList.at fun o e => k _ o (hk _ o e), p2'.isList.at fun o e => k _ o (hk _ o e), .inl ⟨k _ _ hz, _, _, k _ _ hTO⟩⟩) fun h' acc c as k1 k2 k3 k4 k5 => ?_
        obtain ⟨H', n1, n2, n3, n4, n5, n6, n7, J⟩ := laid I1 rv rv2 hzz (fun b o e => k1 b o (old b o e) (hk b o e)) (by show _ ≤ g0.objs.size; rw [hsz]; exact Nat.le_add_right _ _) k2 k3 k4 k5
        exact ⟨.ref _, H', J, rfl, q H' _ as n1 n2 n3 n4 n5 n6 n7⟩
      · obtain ⟨us, rv, p1, _⟩ := I1.tuple hqx
        obtain ⟨vs, rv2, p2', _⟩ := I1.tuple hqy
        have t1 : s1.heap.IsTuple a us.toArray := p1
        have t2 : s1.heap.IsTuple b vs.toArray := p2'
        obtain ⟨o1, ho1, _⟩ := id p1
        obtain ⟨o2, ho2, _⟩ := id p2'
        refine RZ.call_zipT t1 t2 fun g0 hz hTI hTO h1 h2 hsz hk => Calls.spliced_nil ?_
        have lt : ∀ k, k < 5 → s1.heap.objs.size + k < g0.objs.size := fun k h => by rw [hsz]; exact Nat.add_lt_add_left h _
        have la : a < g0.objs.size := Nat.lt_of_lt_of_le (Heap.lt_size ho1) (by rw [hsz]; exact Nat.le_add_right _ _)
        have lb : b < g0.objs.size := Nat.lt_of_lt_of_le (Heap.lt_size ho2) (by rw [hsz]; exact Nat.le_add_right _ _)
        refine call_list (s := { s1 with heap := g0 }) (ps := us.zip vs) hz (Sz hsz) (by simp) (by rw [(zip_vals rv rv2).1]; exact hzz) (srcT (I1.ok.hd hc) (PySem.W.ktu_apart s1.heap.objs.size a b (Heap.lt_size ho1) (Heap.lt_size ho2)) (lt 4 (by decide)) (lt 2 (by decide)) (lt 3 (by decide)) (lt 0 (by decide)) (lt 1 (by decide)) la lb (items us vs) (ends us vs))
          (fun h' k => ⟨k _ _ hTI, h1.at fun o e => k _ o e, h2.at fun o e => k _ o e, t1.at fun o e => k _ o (hk _ o e), t2.at fun o e => k _ o (hk _ o e), .inl ⟨k _ _ hz, _, _, k _ _ hTO⟩⟩) fun h' acc c as k1 k2 k3 k4 k5 => ?_
        obtain ⟨H', n1, n2, n3, n4, n5, n6, n7, J⟩ := laid I1 rv rv2 hzz (fun b o e => k1 b o (old b o e) (hk b o e)) (by show _ ≤ g0.objs.size; rw [hsz]; exact Nat.le_add_right _ _) k2 k3 k4 k5
        exact ⟨.ref _, H', J, rfl, q H' _ as n1 n2 n3 n4 n5 n6 n7⟩
end
end LZ

namespace Mi
open PySem PySem.Spec PyProof.Rows L2
theorem hu1 {A : Around} (h : A.units + 64 < cLine) : A.units + 1 < cLine := by omega
def gAddI : G2 := gI0 fun i j => .int (i + j)
theorem i_ipadd {K : PySem.W.Frag} : Imp2 K gAddI (ipI fun i j => i + j) := by
  intro m h H x y vx vy w h' S R1 R2 e Q q
  unfold gAddI gI0 at e
  split at e
  · next i j =>
    cases e
    exact ⟨i, j, R1, R2, q m H _ Le.refl S rfl⟩
  · cases e
theorem mp_nil {X : Cx} {pos : Pos} : PPs X pos [] [] (([] : List (M × M)).map fun p => (tM X.K p.1, tM X.K p.2)) := pps_nil
theorem mp_cons {X : Cx} {pos : Pos} {k v : Expr} {ks : List (Option Expr)} {vs : List Expr} {fk fv : M} {rs : List (M × M)} (hk : PE X k (tM X.K fk)) (hv : PE X v (tM X.K fv)) (hr : PPs X pos ks vs (rs.map fun p => (tM X.K p.1, tM X.K p.2))) :
    PPs X pos (some k :: ks) (v :: vs) (((fk, fv) :: rs).map fun p => (tM X.K p.1, tM X.K p.2)) := pps_cons hk hv hr
def zipW : List W → List W → List W
  | x :: xs, y :: ys => .tup [x, y] :: zipW xs ys
  | _, _ => []
def mListZip (fr : MA) : M := fun n s h => andThen (fr n s h) fun xs h1 => match xs with
  | [.tup a, .tup b] => newL (zipW a b) h1
  | [.ref a, .ref b] => match lstAt h1 a, lstAt h1 b with
    | some u, some v => newL (zipW u v) h1
    | _, _ => none
  | _ => none
theorem zipW_length : ∀ (xs ys : List W), (zipW xs ys).length = min xs.length ys.length
  | [], _ => by simp [zipW]
  | _ :: _, [] => by simp [zipW]
  | x :: xs, y :: ys => by simp [zipW, zipW_length xs ys]
section
variable {K : PySem.W.Frag} {m m' : List Addr} {h : MH} {H H' : Hp}
/-- more is tracked, all that was is as it was -/
theorem Le.grow (k : ∀ c u, H c = some u → H' c = some u) : Le K m m H H' := ⟨fun _ _ q => q, fun a vs t => by
  rcases t with (t | ⟨ob, t⟩) | t
  · exact .inl (.inl (k _ _ t))
  · exact .inl (.inr ⟨ob, k _ _ t⟩)
  · exact .inr t, fun a o u q => k _ _ q⟩
theorem Sm.grow (S : Sm K m h H) (k : ∀ c u, H c = some u → H' c = some u) : Sm K m h H' := ⟨S.len, S.inj, fun i a c e e2 => cellOk_le (Le.grow k) (S.cell i a c e e2) (fun hc => by
  obtain ⟨u, q, _⟩ := S.cellMut e e2 hc
  rw [q]; exact k _ _ q) fun vs t => by
  rcases t with ⟨ob, t⟩ | t
  · exact .inl ⟨ob, k _ _ t⟩
  · exact .inr t⟩
theorem pairs_reps : ∀ (ts : List Addr) (xs ys : List W) (us vs : List V), Reps K m H xs us → Reps K m H ys vs → ts.length = (us.zip vs).length → (∀ (j : Nat) (t : Addr) (q : V × V), ts[j]? = some t → (us.zip vs)[j]? = some q → SqT K H t [q.1, q.2]) → Reps K m H (zipW xs ys) (ts.map V.ref)
  | ts, [], ys, us, vs, r, _, hl, _ => by
    rw [show us = [] from r] at hl
    cases ts with
    | nil => rfl
    | cons _ _ => simp at hl
  | ts, x :: xs, [], us, vs, _, r, hl, _ => by
    rw [show vs = [] from r] at hl
    cases ts with
    | nil => rfl
    | cons _ _ => simp at hl
  | ts, x :: xs, y :: ys, us, vs, r, r2, hl, k => by
    obtain ⟨u, us', rfl, ru, rus⟩ := r
    obtain ⟨v, vs', rfl, rv, rvs⟩ := r2
    cases ts with
    | nil => simp at hl
    | cons t ts =>
      refine ⟨.ref t, ts.map V.ref, rfl, ⟨t, _, rfl, k 0 t (u, v) rfl rfl, ⟨u, [v], rfl, ru, Reps.one rv⟩⟩, ?_⟩
      exact pairs_reps ts xs ys us' vs' rus rvs (by simpa using hl) fun j t q e1 e2 => k (j + 1) t q (by simpa using e1) (by simpa using e2)
end
section
variable {X : Cx}
theorem m_listZip {e e2 : Expr} {fr : MA} {p p2 pos pos2 : Pos} (hc : X.calm = true) (hg : Gl X "list") (hm : X.mg "list" = none) (hg2 : Gl X "zip") (hm2 : X.mg "zip" = none) (ha : PA X [e, e2] (tMA X.K fr))
    (hs : starEach [e, e2] X.env = (false, eval e X.env) :: starEach [e2] X.env := by rfl) (hpl : (backTo pos2 (starEach [e2] X.env)).any (·.1) = false := by rfl)
    (hs1 : starEach [.Call (.Name "zip" p2) [e, e2] [] pos2] X.env = (false, eval (.Call (.Name "zip" p2) [e, e2] [] pos2) X.env) :: starEach [] X.env := by rfl) :
    PE X (.Call (.Name "list" p) [.Call (.Name "zip" p2) [e, e2] [] pos2] [] pos) (tM X.K (mListZip fr)) := imp_pe (LZ.pe_listZip hc hg hm (by decide +kernel) hg2 hm2 ha hs hpl hs1) fun σ H Q ⟨n, s, h, m, w, h', I, e, k⟩ => by
  obtain ⟨xs, h1, e1, e⟩ := andThen_some e
  have fin : ∀ (a b : Addr) (as bs : List W) (us vs : List V) (m1 : List Addr) (H1 : Hp), Le X.K m m1 H H1 → Sm X.K m1 h1 H1 → Reps X.K m1 H1 as us → Reps X.K m1 H1 bs vs → newL (zipW as bs) h1 = some (w, h') → (us.zip vs).length ≤ sizeLine ∧
      ∀ (H' : Hp) (p : Addr) (ts : List Addr), (∀ c u, H1 c = some u → H' c = some u) → H1 p = none → (∀ t ∈ ts, H1 t = none) → p ∉ ts → H' p = some (.lst (ts.map V.ref)) → ts.length = (us.zip vs).length →
        (∀ (j : Nat) (t : Addr) (q : V × V), ts[j]? = some t → (us.zip vs)[j]? = some q → H' t = some (.tup [q.1, q.2])) → Q (.ref p) H' := by
    intro a b as bs us vs m1 H1 L1 S1 R1 R2 en
    have hz := newL_sz en
    rw [zipW_length] at hz
    refine ⟨by rw [List.length_zip, R1.length, R2.length]; exact hz, fun H' p ts k1 k2 k3 k4 k5 k6 k7 => ?_⟩
    let H0 : Hp := fun c => if c = p then none else H' c
    have g0 : ∀ c u, H1 c = some u → H0 c = some u := fun c u q => by
      have : c ≠ p := fun z => by rw [z, k2] at q; cases q
      show (if c = p then none else H' c) = some u
      rw [if_neg this]; exact k1 c u q
    have hp0 : H0 p = none := if_pos rfl
    have eq : L2.upd H0 p (.lst (ts.map V.ref)) = H' := by
      funext c
      by_cases z : c = p
      · rw [z, upd_same, k5]
      · rw [upd_ne z]; exact if_neg z
    have LG : Le X.K m1 m1 H1 H0 := Le.grow g0
    have rr : Reps X.K m1 H0 (zipW as bs) (ts.map V.ref) := pairs_reps ts as bs us vs (Reps.mono LG _ _ R1) (Reps.mono LG _ _ R2) k6 fun j t q q1 q2 => .inl (.inl (by
      have : t ≠ p := fun z => k4 (by rw [← z]; exact List.mem_of_getElem? q1)
      show (if t = p then none else H' t) = _
      rw [if_neg this]; exact k7 j t q q1 q2))
    obtain ⟨L2, S2, r2⟩ := newL_ok (S1.grow g0) rr en hp0
    rw [eq] at L2 S2 r2
    exact k _ _ _ (L1.trans (LG.trans L2)) S2 r2
  split at e
  · next a b =>
    refine ⟨n, s, h, m, _, h1, I, e1, fun m1 H1 vs L1 S1 R1 => ?_⟩
    obtain ⟨v, r, rfl, ⟨pa, us, rfl, t, rs⟩, v2, r2, rfl, ⟨pb, us2, rfl, t2, rs2⟩, rfl⟩ := R1
    obtain ⟨f1, f2⟩ := fin pa pb a b us us2 m1 H1 L1 S1 rs rs2 e
    exact ⟨pa, pb, us, us2, rfl, .inr ⟨t, t2⟩, f1, f2⟩
  · next a b =>
    split at e
    · next u v eu ev =>
      refine ⟨n, s, h, m, _, h1, I, e1, fun m1 H1 vs L1 S1 R1 => ?_⟩
      obtain ⟨v, r, rfl, Ra, v2, r2, rfl, Rb, rfl⟩ := R1
      obtain ⟨pa, us, rfl, _, t, rs⟩ := S1.lsAt eu Ra
      obtain ⟨pb, us2, rfl, _, t2, rs2⟩ := S1.lsAt ev Rb
      obtain ⟨f1, f2⟩ := fin pa pb _ _ us us2 m1 H1 L1 S1 rs rs2 e
      exact ⟨pa, pb, us, us2, rfl, .inl ⟨t, t2⟩, f1, f2⟩
    · cases e
  · cases e
end
end Mi

/-! Mi13: the truth of any value. -/
namespace Mi
open PySem PySem.Spec PyProof.Rows L2
def trW (h : MH) : W → Option Bool
  | .non => some false
  | .bl b => some b
  | .int i => some (i != 0)
  | .str z => if z.length ≤ 16777216 then some ((z.length : Int) != 0) else none
  | .tup xs => some (!xs.isEmpty)
  | .ref n => match h[n]? with
    | some (.lst xs) => some (!xs.isEmpty)
    | some (.fz xs) => some (!xs.isEmpty)
    | some (.dic kvs) => some (!kvs.isEmpty)
    | _ => none
theorem Reps.empty {K : PySem.W.Frag} {m : List Addr} {H : Hp} {xs : List W} {vs : List V} (r : Reps K m H xs vs) : vs.isEmpty = xs.isEmpty := by
  have := r.length
  cases xs <;> cases vs <;> simp_all
theorem trW_ok {K : PySem.W.Frag} {m : List Addr} {h : MH} {H : Hp} {x : W} {v : V} {b : Bool} (S : Sm K m h H) (R : Rep K m H x v) (e : trW h x = some b) : TruV K v H b := by
  cases x with
  | non => cases e; rw [show v = _ from R]; exact rfl
  | bl c => cases e; rw [show v = _ from R]; exact rfl
  | int i => cases e; rw [show v = _ from R]; exact rfl
  | str z =>
    simp only [trW] at e
    split at e
    · next hz =>
      cases e
      rw [show v = _ from R]
      exact ⟨by rw [sizeLine_eq]; exact hz, rfl⟩
    · cases e
  | tup xs =>
    cases e
    obtain ⟨a, vs, rfl, t, rs⟩ := R
    exact .inr (.inl ⟨vs, t, by rw [rs.empty]⟩)
  | ref n =>
    obtain ⟨a, ea, rfl⟩ := R
    simp only [trW] at e
    split at e
    · next xs q =>
      cases e
      obtain ⟨vs, z, rs⟩ := S.cell n a _ ea q
      exact .inl ⟨vs, .inl (.inl z), by rw [rs.empty]⟩
    · next xs q =>
      cases e
      obtain ⟨vs, z, rs⟩ := S.cell n a _ ea q
      exact .inl ⟨vs, z.sql, by rw [rs.empty]⟩
    · next kvs q =>
      cases e
      obtain ⟨us, z, rk⟩ := S.cell n a _ ea q
      have := rk.length
      refine .inr (.inr ⟨us, z, ?_⟩)
      cases kvs <;> cases us <;> simp_all
    · cases e
def mTr (f : M) : MT := fun n s h => andThen (f n s h) fun x h1 => (trW h1 x).map fun b => (b, h1)
theorem mt_tr {X : Cx} {e : Expr} {f : M} (p : PE X e (tM X.K f)) (he : ∀ whole, isTrue e X.env whole = (do let v ← whole; standAt e.pos; holding [v] (truthy v)) := by intro _; rfl) : PT X e (tMT X.K (mTr f)) :=
  imp_pt (pt_truth p he) fun σ H Q ⟨n, s, h, m, w, h', I, e, k⟩ => by
    obtain ⟨x, h1, e1, e⟩ := andThen_some e
    cases et : trW h1 x with
    | none => rw [et] at e; cases e
    | some b =>
      rw [et] at e; cases e
      exact ⟨n, s, h, m, x, h', I, e1, fun m1 H1 v L1 S1 R1 => ⟨_, trW_ok S1 R1 et, k m1 H1 L1 S1⟩⟩
end Mi

namespace K03
open PySem PySem.Spec PyProof.Rows L2 Mi
def B_things_in : MSt := (mSeq (mIfS (mB (mOp gEq (mOp (gIxD gIx) (mVar 0) (mC (.int 0))) (mC (.str "name")))) (mRet (mTup mNil)) mNext)
    (mRet (mIf (mB (mOp gEq (mOp (gIxD gIx) (mVar 0) (mC (.int 0))) (mC (.str "call")))) (mOp (gIxD gIx) (mVar 0) (mC (.int 2))) (mOp (gIxD gIx) (mVar 0) (mC (.int 3))))))
def f_things_in : MF := mDef 1 B_things_in
def B_terms_in : MSt := (mRet (mLc (miSeq (mCall f_things_in (mCons (mVar 0) mNil))) (.nm 1) (mTr (mIsi "tuple" (mVar 1))) (mVar 1) [1]))
def f_terms_in : MF := mDef 2 B_terms_in
def B_parts : MSt := (mSeq (mSet 1 (mLst mNil))
    (mSeq (mSet 2 (mLst (mCons (mVar 0) mNil)))
    (mSeq (mWhile (mTr (mVar 2)) (mSeq (mSet 3 (mML0 gPop (mVar 2)))
    (mSeq (mDrop (mML gAppend (mVar 1) (mCons (mVar 3) mNil)))
    (mDrop (mML gExtend (mVar 2) (mCons (mUn gRev (mCall f_terms_in (mCons (mVar 3) mNil))) mNil))))))
    (mRet (mVar 1)))))
def f_parts : MF := mDef 4 B_parts
def B_deep : MSt := (mSeq (mSet 1 (mC (.int 0)))
    (mSeq (mSet 2 (mCall f_terms_in (mCons (mVar 0) mNil)))
    (mSeq (mWhile (mTr (mVar 2)) (mSeq (mAug 1 (mC (.int 1)) gAddI)
    (mSet 2 (mLc2 (miSeq (mVar 2)) (.nm 3) mYes (miSeq (mCall f_terms_in (mCons (mVar 3) mNil))) (.nm 4) mYes (mVar 4) [3, 4] [4]))))
    (mRet (mVar 1)))))
def f_deep : MF := mDef 5 B_deep
def B__law_box : MSt := (mSeq (mSet 2 (mOp gAdd (mOp gMul (mC (.int 8087)) (mVar 1)) (mC (.int 31))))
    (mSeq (mIfS (mB (mOp gLt (mVar 1) (mCB gLen (mCons (mVar 0) mNil)))) (mSet 2 (mCB gMax (mCons (mOp (gIxD gIx) (mVar 0) (mVar 1)) (mCons (mOp gSub (mC (.int 0)) (mOp (gIxD gIx) (mVar 0) (mVar 1))) mNil)))) (mIfS (mB (mOp gGt (mCB gLen (mCons (mVar 0) mNil)) (mC (.int 0)))) (mSet 2 (mOp gAdd (mVar 2) (mOp gMul (mOp gMod (mOp (gIxD gIx) (mVar 0) (mOp gMod (mVar 1) (mCB gLen (mCons (mVar 0) mNil)))) (mC (.int 2147483629))) (mC (.int 71167))))) mNext))
    (mSeq (mSet 3 (mOp gAdd (mOp gMod (mOp gAdd (mOp gAdd (mOp gMul (mOp gMod (mVar 2) (mC (.int 2147483629))) (mC (.int 48271))) (mOp gMul (mC (.int 39841)) (mVar 1))) (mC (.int 11))) (mC (.int 2147483629))) (mC (.int 1))))
    (mRet (mLst (mCons (mOp (gIxD gIx) (mLst (mCons (mC (.int 0)) (mCons (mVar 2) mNil))) (mCB gInt3 (mCons (mOp gGe (mVar 2) (mOp gPow (mC (.int 10)) (mC (.int 18)))) mNil))) (mCons (mVar 3) (mCons (mC (.int 0)) mNil))))))))
def f__law_box : MF := mDef 4 B__law_box
def B__law_take : MSt := (mSeq (mIfS (mB (mOp gGt (mOp (gIxD gIx) (mVar 0) (mC (.int 0))) (mC (.int 0)))) (mSeq (mSet 3 (mOp gMod (mOp (gIxD gIx) (mVar 0) (mC (.int 0))) (mVar 1)))
    (mSeq (mAsg (mOp gFdiv (mOp (gIxD gIx) (mVar 0) (mC (.int 0))) (mVar 1)) (mgSub (mVar 0) (mC (.int 0)) gSetD))
    (mRet (mVar 3)))) mNext)
    (mSeq (mAsg (mOp gAdd (mOp (gIxD gIx) (mVar 0) (mC (.int 2))) (mC (.int 1))) (mgSub (mVar 0) (mC (.int 2)) gSetD))
    (mSeq (mSet 2 (mOp gMod (mOp gMul (mOp gAdd (mOp (gIxD gIx) (mVar 0) (mC (.int 1))) (mOp gMul (mC (.int 104717)) (mOp (gIxD gIx) (mVar 0) (mC (.int 2))))) (mC (.int 69621))) (mC (.int 2147483647))))
    (mSeq (mAsg (mOp gAdd (mOp gMod (mOp gAdd (mOp gMul (mVar 2) (mC (.int 48271))) (mC (.int 30097))) (mC (.int 2147483629))) (mC (.int 1))) (mgSub (mVar 0) (mC (.int 1)) gSetD))
    (mRet (mOp gMod (mOp gFdiv (mOp gAdd (mOp gMul (mVar 2) (mC (.int 2147483647))) (mOp (gIxD gIx) (mVar 0) (mC (.int 1)))) (mC (.int 8167))) (mVar 1)))))))
def f__law_take : MF := mDef 4 B__law_take
def B__law_names : MSt := (mSeq (mSet 2 (mC (.str "abcdefghijklmnopqrstuvwxyz")))
    (mSeq (mSet 3 (mM1 gJoin (mC (.str "")) (mLc (miRange1 (mCall f__law_take (mCons (mVar 0) (mCons (mC (.int 5)) mNil)))) (.nm 5) mYes (mOp (gIxD gIx) (mVar 2) (mCall f__law_take (mCons (mVar 0) (mCons (mC (.int 26)) mNil)))) [5])))
    (mSeq (mPar 6 7 (mCall f__law_take (mCons (mVar 0) (mCons (mOp gAdd (mCB gLen (mCons (mVar 3) mNil)) (mC (.int 1))) mNil))) (mCall f__law_take (mCons (mVar 0) (mCons (mC (.int 26)) mNil))))
    (mSeq (mSet 4 (mLst mNil))
    (mSeq (mFor (miRange1 (mVar 1)) (mgPat (.nm 5)) (mSeq (mSet 8 (mOp (gIxD gIx) (mVar 2) (mOp gMod (mOp gAdd (mVar 7) (mOp gMul (mC (.int 7)) (mVar 5))) (mC (.int 26)))))
    (mDrop (mML gAppend (mVar 4) (mCons (mOp gAdd (mOp gAdd (mOp gAdd (mSl gCut (mVar 3) mNoPart (mPart (mVar 6))) (mVar 8)) (mSl gCut (mVar 3) (mPart (mVar 6)) mNoPart)) (mOp gMul (mC (.str "q")) (mOp gMod (mVar 5) (mC (.int 2))))) mNil)))))
    (mRet (mVar 4)))))))
def f__law_names : MF := mDef 9 B__law_names
def B__law_ground_forms : MSt := (mSeq (mAsg (mTup (mCons (mTup (mCons (mC (.str "term")) (mCons (mC (.str "num")) (mCons (mTup mNil) mNil)))) (mCons (mTup (mCons (mC (.str "term")) (mCons (mC (.str "num")) (mCons (mTup (mCons (mC (.int 0)) mNil)) mNil)))) (mCons (mTup (mCons (mC (.str "name")) (mCons (mC (.str "num")) mNil))) mNil)))) (mgPat (.tp [(.nm 1), (.nm 2), (.nm 3)])))
    (mSeq (mSet 0 (mOp gAdd (mLst (mCons (mTup (mCons (mC (.str "NUM")) (mCons (mTup (mCons (mTup (mCons (mC (.str "lit")) mNil)) mNil)) mNil))) mNil)) (mLc (miSeq (mC (.str "+-*/<="))) (.nm 4) mYes (mTup (mCons (mVar 4) (mCons (mTup (mCons (mVar 1) (mCons (mVar 1) mNil))) mNil))) [4])))
    (mSeq (mSet 0 (mOp gAdd (mVar 0) (mLst (mCons (mTup (mCons (mC (.str "IF")) (mCons (mTup (mCons (mVar 1) (mCons (mVar 1) (mCons (mVar 1) mNil)))) mNil))) (mCons (mTup (mCons (mC (.str "NEED")) (mCons (mTup (mCons (mVar 1) (mCons (mVar 1) mNil))) mNil))) (mCons (mTup (mCons (mC (.str "LET")) (mCons (mTup (mCons (mVar 3) (mCons (mVar 1) (mCons (mVar 2) mNil)))) mNil))) mNil))))))
    (mSeq (mDrop (mML gAppend (mVar 0) (mCons (mTup (mCons (mC (.str "LOOP")) (mCons (mTup (mCons (mVar 1) (mCons (mVar 3) (mCons (mVar 1) (mCons (mVar 2) mNil))))) mNil))) mNil)))
    (mRet (mLc (miSeq (mVar 0)) (.nm 5) mYes (mOp gAdd (mVar 5) (mTup (mCons (mC (.str "num")) mNil))) [5]))))))
def f__law_ground_forms : MF := mDef 6 B__law_ground_forms
def B__law_items : MSt := (mSeq (mPar 3 4 (mLst mNil) (mDisp [((mC (.str "lit")), (mC (.int 2))), ((mC (.str "name")), (mC (.int 2))), ((mC (.str "term")), (mC (.int 3))), ((mC (.str "sign")), (mC (.int 3)))]))
    (mSeq (mFor (miRange1 (mCall f__law_take (mCons (mVar 0) (mCons (mC (.int 8)) mNil)))) (mgPat (.nm 2)) (mSeq (mSet 5 (mOp (gIxD gIx) (mLst (mCons (mC (.str "term")) (mCons (mC (.str "term")) (mCons (mC (.str "name")) (mCons (mC (.str "name")) (mCons (mC (.str "lit")) (mCons (mC (.str "sign")) mNil))))))) (mCall f__law_take (mCons (mVar 0) (mCons (mC (.int 6)) mNil)))))
    (mIfS (mB (mOp gGt (mOp (gIxD gIx) (mVar 4) (mVar 5)) (mC (.int 0)))) (mSeq (mAsg (mOp gSub (mOp (gIxD gIx) (mVar 4) (mVar 5)) (mC (.int 1))) (mgSub (mVar 4) (mVar 5) gSetD))
    (mSeq (mSet 6 (mCB gLen (mCons (mLc (miSeq (mVar 3)) (.nm 7) (mB (mOp gEq (mOp (gIxD gIx) (mVar 7) (mC (.int 0))) (mC (.str "name")))) (mVar 7) [7]) mNil)))
    (mSeq (mPar 8 9 (mOp (gIxD gIx) (mVar 1) (mCall f__law_take (mCons (mVar 0) (mCons (mCB gLen (mCons (mVar 1) mNil)) mNil)))) (mLc (miRange1 (mVar 6)) (.nm 10) (mB (mOp gGt (mCall f__law_take (mCons (mVar 0) (mCons (mC (.int 4)) mNil))) (mC (.int 0)))) (mVar 10) [10]))
    (mSeq (mSet 7 (mDisp [((mC (.str "lit")), (mTup (mCons (mC (.str "lit")) mNil))), ((mC (.str "name")), (mTup (mCons (mC (.str "name")) (mCons (mVar 8) mNil)))), ((mC (.str "term")), (mTup (mCons (mC (.str "term")) (mCons (mVar 8) (mCons (mCB gTuple (mCons (mVar 9) mNil)) mNil)))))]))
    (mSeq (mAsg (mTup (mCons (mC (.str "sign")) (mCons (mOp (gIxD gIx) (mLst (mCons (mC (.str "AT")) (mCons (mC (.str "?")) (mCons (mC (.str ",")) mNil)))) (mCall f__law_take (mCons (mVar 0) (mCons (mC (.int 3)) mNil)))) mNil))) (mgSub (mVar 7) (mC (.str "sign")) gSetD))
    (mDrop (mML gAppend (mVar 3) (mCons (mOp (gIxD gIx) (mVar 7) (mVar 5)) mNil)))))))) mNext)))
    (mRet (mCB gTuple (mCons (mVar 3) mNil)))))
def f__law_items : MF := mDef 11 B__law_items
def B__law_meant : MSt := (mSeq (mSet 1 (mTup (mCons (mC (.str "use")) (mCons (mC (.str "ground")) (mCons (mC (.str "NUM")) (mCons (mTup (mCons (mC (.int 1)) mNil)) mNil))))))
    (mSeq (mFor (miRange1 (mCB gLen (mCons (mLc (miSeq (mVar 0)) (.nm 4) (mB (mOp gEq (mOp (gIxD gIx) (mVar 4) (mC (.int 0))) (mC (.str "term")))) (mVar 4) [4]) mNil))) (mgPat (.nm 2)) (mSet 1 (mTup (mCons (mC (.str "use")) (mCons (mC (.str "ground")) (mCons (mC (.str "+")) (mCons (mTup (mCons (mVar 1) (mCons (mTup (mCons (mC (.str "hole")) (mCons (mVar 2) mNil))) mNil))) mNil)))))))
    (mSeq (mFor (miRange1 (mCB gLen (mCons (mLc (miSeq (mVar 0)) (.nm 4) (mB (mOp gEq (mOp (gIxD gIx) (mVar 4) (mC (.int 0))) (mC (.str "name")))) (mVar 4) [4]) mNil))) (mgPat (.nm 3)) (mSet 1 (mTup (mCons (mC (.str "use")) (mCons (mC (.str "ground")) (mCons (mC (.str "LET")) (mCons (mTup (mCons (mTup (mCons (mC (.str "own")) (mCons (mVar 3) mNil))) (mCons (mTup (mCons (mC (.str "use")) (mCons (mC (.str "ground")) (mCons (mC (.str "NUM")) (mCons (mTup (mCons (mVar 3) mNil)) mNil))))) (mCons (mVar 1) mNil)))) mNil)))))))
    (mRet (mVar 1)))))
def f__law_meant : MF := mDef 5 B__law_meant
def B__law_tongue : MSt := (mSeq (mSet 4 (mLst mNil))
    (mSeq (mFor (miEnum (mVar 3)) (mgPat (.tp [(.nm 5), (.nm 6)])) (mSeq (mSet 7 (mTup (mCons (mTup (mCons (mC (.str "lit")) mNil)) mNil)))
    (mSeq (mIfS (mB (mOp gGe (mVar 5) (mCB gLen (mCons (mVar 2) mNil)))) (mSet 7 (mCall f__law_items (mCons (mVar 0) (mCons (mVar 2) mNil)))) mNext)
    (mDrop (mML gAppend (mVar 4) (mCons (mTup (mCons (mVar 6) (mCons (mVar 7) (mCons (mOp (gIxD gIx) (mVar 2) (mOp gMod (mVar 5) (mCB gLen (mCons (mVar 2) mNil)))) (mCons (mCall f__law_meant (mCons (mVar 7) mNil)) mNil))))) mNil))))))
    (mRet (mTup (mCons (mC (.str "tongue")) (mCons (mVar 1) (mCons (mC (.str "ground")) (mCons (mCB gTuple (mCons (mLc (miSeq (mVar 2)) (.nm 8) mYes (mTup (mCons (mVar 8) (mCons (mC (.str "num")) mNil))) [8]) mNil)) (mCons (mTup (mCons (mC (.str "bad")) mNil)) (mCons (mTup (mCons (mC (.str "bad")) (mCons (mC (.str "bad")) mNil))) (mCons (mCB gTuple (mCons (mVar 4) mNil)) mNil)))))))))))
def f__law_tongue : MF := mDef 9 B__law_tongue
def B__law_world : MSt := (mSeq (mAsg (mTup (mCons (mCall f__law_names (mCons (mVar 0) (mCons (mC (.int 18)) mNil))) (mCons (mC (.str "ABCDEFGHIJKLMNOPQRSTUVWXYZ")) mNil))) (mgPat (.tp [(.nm 3), (.nm 4)])))
    (mSeq (mAsg (mTup (mCons (mCall f__law_take (mCons (mVar 0) (mCons (mC (.int 20)) mNil))) (mCons (mLst mNil) (mCons (mDisp [((mC (.str "ground")), (mCall f__law_ground_forms mNil))]) (mCons (mDisp [((mC (.str "ground")), (mLst mNil))]) (mCons mDNew mNil)))))) (mgPat (.tp [(.nm 5), (.nm 6), (.nm 7), (.nm 8), (.nm 9)])))
    (mSeq (mFor (miRange1 (mC (.int 2))) (mgPat (.nm 1)) (mSeq (mSet 10 (mSl gCut (mVar 3) (mPart (mOp gAdd (mC (.int 2)) (mOp gMul (mC (.int 2)) (mVar 1)))) (mPart (mOp gAdd (mOp gAdd (mC (.int 3)) (mOp gMul (mC (.int 2)) (mVar 1))) (mCall f__law_take (mCons (mVar 0) (mCons (mC (.int 2)) mNil)))))))
    (mSeq (mSet 11 (mLc (miRange1 (mOp gAdd (mC (.int 4)) (mCall f__law_take (mCons (mVar 0) (mCons (mC (.int 3)) mNil))))) (.nm 13) mYes (mOp gAdd (mOp (gIxD gIx) (mVar 4) (mOp gAdd (mVar 5) (mVar 13))) (mOp gMul (mOp (gIxD gIx) (mVar 4) (mOp gSub (mOp gSub (mVar 5) (mC (.int 1))) (mVar 13))) (mVar 1))) [13]))
    (mSeq (mDrop (mML gAppend (mVar 6) (mCons (mCall f__law_tongue (mCons (mVar 0) (mCons (mOp (gIxD gIx) (mVar 3) (mVar 1)) (mCons (mVar 10) (mCons (mVar 11) mNil))))) mNil)))
    (mSeq (mAsg (mLc (miSeq (mOp (gIxD gIx) (mOp (gIxD gIx) (mVar 6) (mUn gNeg (mC (.int 1)))) (mC (.int 6)))) (.nm 14) mYes (mSl gCut (mVar 14) mNoPart (mPart (mC (.int 3)))) [14]) (mgSub (mVar 7) (mOp (gIxD gIx) (mVar 3) (mVar 1)) gSetD))
    (mSeq (mSet 12 (mCB gTuple (mCons (mLc (miRange1 (mOp gAdd (mC (.int 1)) (mCall f__law_take (mCons (mVar 0) (mCons (mC (.int 3)) mNil))))) (.nm 13) mYes (mTup (mCons (mOp (gIxD gIx) (mVar 3) (mOp gAdd (mC (.int 8)) (mVar 13))) (mCons (mOp (gIxD gIx) (mVar 10) (mOp gMod (mVar 13) (mCB gLen (mCons (mVar 10) mNil)))) mNil))) [13]) mNil)))
    (mSeq (mDrop (mML gAppend (mVar 6) (mCons (mTup (mCons (mC (.str "part")) (mCons (mOp (gIxD gIx) (mVar 3) (mOp gAdd (mC (.int 6)) (mVar 1))) (mCons (mOp (gIxD gIx) (mVar 3) (mVar 1)) (mCons (mTup (mCons (mTup (mCons (mOp (gIxD gIx) (mVar 3) (mC (.int 9))) (mCons (mVar 12) (mCons (mOp (gIxD gIx) (mOp (gIxD gIx) (mVar 12) (mC (.int 0))) (mC (.int 1))) (mCons (mTup (mCons (mC (.str "name")) (mCons (mOp (gIxD gIx) (mVar 3) (mC (.int 8))) mNil))) mNil))))) mNil)) mNil))))) mNil)))
    (mSeq (mAsg (mLst (mCons (mTup (mCons (mOp gAdd (mOp gAdd (mOp (gIxD gIx) (mVar 3) (mOp gAdd (mC (.int 6)) (mVar 1))) (mC (.str "."))) (mOp (gIxD gIx) (mVar 3) (mC (.int 9)))) (mCons (mLc (miSeq (mVar 12)) (.tp [(.nm 15), (.nm 16)]) mYes (mVar 16) [15, 16]) (mCons (mOp (gIxD gIx) (mOp (gIxD gIx) (mVar 12) (mC (.int 0))) (mC (.int 1))) mNil)))) mNil)) (mgSub (mVar 8) (mOp (gIxD gIx) (mVar 3) (mVar 1)) gSetD))
    (mAsg (mLc (miRange1 (mC (.int 4))) (.nm 13) mYes (mTup (mCons (mOp (gIxD gIx) (mVar 3) (mOp gAdd (mC (.int 11)) (mVar 13))) (mCons (mOp (gIxD gIx) (mVar 10) (mOp gMod (mVar 13) (mCB gLen (mCons (mVar 10) mNil)))) mNil))) [13]) (mgSub (mVar 9) (mOp (gIxD gIx) (mVar 3) (mVar 1)) gSetD))))))))))
    (mSeq (mSet 2 (mSl gCut (mVar 3) (mPart (mC (.int 11))) (mPart (mC (.int 17)))))
    (mRet (mDisp [((mC (.str "tower")), (mCB gTuple (mCons (mVar 6) mNil))), ((mC (.str "forms")), (mVar 7)), ((mC (.str "calls")), (mVar 8)), ((mC (.str "known")), (mVar 9)), ((mC (.str "names")), (mVar 2)), ((mC (.str "own")), (mSl gCut (mVar 3) mNoPart (mPart (mC (.int 2)))))]))))))
def f__law_world : MF := mDef 17 B__law_world
def B__law_use (F : MF) : MSt := (mSeq (mAsg (mVar 4) (mgPat (.tp [(.nm 8), (.nm 9), (.nm 7), (.nm 10), (.nm 11)])))
    (mSeq (mAsg (mTup (mCons (mLst mNil) (mCons (mLst mNil) mNil))) (mgPat (.tp [(.nm 12), (.nm 13)])))
    (mSeq (mSet 5 (mCB gMax (mCons (mC (.int 1)) (mCons (mCB gLen (mCons (mLc (miSeq (mVar 7)) (.nm 6) (mB (mOp gEq (mOp (gIxD gIx) (mVar 6) (mC (.int 0))) (mC (.str "term")))) (mVar 6) [6]) mNil)) mNil))))
    (mSeq (mFor (miSeq (mVar 7)) (mgPat (.nm 6)) (mSeq (mIfS (mB (mOp gEq (mOp (gIxD gIx) (mVar 6) (mC (.int 0))) (mC (.str "lit")))) (mDrop (mML gAppend (mVar 12) (mCons (mCall f__law_take (mCons (mVar 0) (mCons (mC (.int 1000)) mNil))) mNil))) mNext)
    (mSeq (mIfS (mB (mOp gEq (mOp (gIxD gIx) (mVar 6) (mC (.int 0))) (mC (.str "name")))) (mSeq (mSet 14 (mLc (miSeq (mOp (gIxD gIx) (mVar 1) (mC (.str "names")))) (.nm 18) (mB (mOp (gInD true gNotIn) (mVar 18) (mLc (miSeq (mVar 13)) (.tp [(.nm 19), (.nm 20)]) mYes (mVar 19) [19, 20]))) (mVar 18) [18]))
    (mSeq (mDrop (mML gAppend (mVar 13) (mCons (mTup (mCons (mOp (gIxD gIx) (mVar 14) (mCall f__law_take (mCons (mVar 0) (mCons (mCB gLen (mCons (mVar 14) mNil)) mNil)))) (mCons (mOp (gIxD gIx) (mVar 6) (mC (.int 1))) mNil))) mNil)))
    (mDrop (mML gAppend (mVar 12) (mCons (mOp (gIxD gIx) (mOp (gIxD gIx) (mVar 13) (mUn gNeg (mC (.int 1)))) (mC (.int 0))) mNil))))) mNext)
    (mIfS (mB (mOp gEq (mOp (gIxD gIx) (mVar 6) (mC (.int 0))) (mC (.str "term")))) (mSeq (mSet 15 (mOp gAdd (mVar 3) (mLc (miSeq (mOp (gIxD gIx) (mVar 6) (mC (.int 2)))) (.nm 21) mYes (mOp (gIxD gIx) (mVar 13) (mVar 21)) [21])))
    (mSeq (mSet 16 (mOp (gIxD gIx) (mLst (mCons (mOp (gIxD gIx) (mVar 6) (mC (.int 1))) (mCons (mC .non) mNil))) (mCB gInt3 (mCons (mVar 10) mNil))))
    (mSeq (mSet 17 (mCB gMin (mCons (mOp gFdiv (mOp gSub (mVar 11) (mC (.int 1))) (mVar 5)) (mCons (mOp gFdiv (mOp gMul (mVar 11) (mC (.int 2))) (mC (.int 3))) mNil))))
    (mDrop (mML gAppend (mVar 12) (mCons (mCall F (mCons (mVar 0) (mCons (mVar 1) (mCons (mVar 2) (mCons (mVar 15) (mCons (mVar 16) (mCons (mVar 17) mNil))))))) mNil)))))) mNext))))
    (mRet (mTup (mCons (mC (.str "use")) (mCons (mVar 8) (mCons (mVar 9) (mCons (mCB gTuple (mCons (mVar 12) mNil)) mNil))))))))))
def f__law_use (F : MF) : MF := mDef 22 (B__law_use F)
def B__law_term (F : MF) : MSt := (mSeq (mSet 6 (mCB gDict (mCons (mVar 3) mNil)))
    (mSeq (mLockS 6 (mSet 7 (mLc (miAny (mVar 6)) (.nm 15) (mB (mOp (gInD false gIn) (mVar 4) (mTup (mCons (mC .non) (mCons (mOp (gIxD gIx) (mVar 6) (mVar 15)) mNil))))) (mVar 15) [15])))
    (mSeq (mIfS (mAnd (mB (mOp gNe (mVar 7) (mLst mNil))) (mOr (mB (mOp gLt (mVar 5) (mC (.int 2)))) (mB (mOp gEq (mCall f__law_take (mCons (mVar 0) (mCons (mC (.int 4)) mNil))) (mC (.int 0)))))) (mRet (mTup (mCons (mC (.str "name")) (mCons (mOp (gIxD gIx) (mVar 7) (mCall f__law_take (mCons (mVar 0) (mCons (mCB gLen (mCons (mVar 7) mNil)) mNil)))) mNil)))) mNext)
    (mSeq (mSet 8 (mOp (gIxD gIx) (mVar 2) (mCall f__law_take (mCons (mVar 0) (mCons (mCB gLen (mCons (mVar 2) mNil)) mNil)))))
    (mSeq (mSet 7 (mLc (miSeq (mOp (gIxD gIx) (mOp (gIxD gIx) (mVar 1) (mC (.str "forms"))) (mVar 8))) (.nm 16) (mB (mOp (gInD false gIn) (mVar 4) (mTup (mCons (mC .non) (mCons (mOp (gIxD gIx) (mVar 16) (mC (.int 2))) mNil))))) (mVar 16) [16]))
    (mSeq (mIfS (mB (mOp gLt (mVar 5) (mC (.int 2)))) (mSet 7 (mLc (miSeq (mVar 7)) (.nm 16) (mB (mOp gEq (mLc (miSeq (mOp (gIxD gIx) (mVar 16) (mC (.int 1)))) (.nm 17) (mB (mOp gEq (mOp (gIxD gIx) (mVar 17) (mC (.int 0))) (mC (.str "term")))) (mVar 17) [17]) (mLst mNil))) (mVar 16) [16])) (mSeq (mSet 7 (mOp gAdd (mVar 7) (mLc (miSeq (mOp (gIxD gIx) (mOp (gIxD gIx) (mVar 1) (mC (.str "calls"))) (mVar 8))) (.nm 18) (mB (mOp (gInD false gIn) (mVar 4) (mTup (mCons (mC .non) (mCons (mOp (gIxD gIx) (mVar 18) (mC (.int 2))) mNil))))) (mVar 18) [18])))
    (mSeq (mSet 9 (mLc (miSeq (mVar 7)) (.nm 18) (mOr (mB (mOp (gInD false gIn) (mC (.str ".")) (mOp (gIxD gIx) (mVar 18) (mC (.int 0))))) (mB (mOp gNe (mLc (miSeq (mOp (gIxD gIx) (mVar 18) (mC (.int 1)))) (.nm 17) (mB (mOp gEq (mOp (gIxD gIx) (mVar 17) (mC (.int 0))) (mC (.str "term")))) (mVar 17) [17]) (mLst mNil)))) (mVar 18) [18]))
    (mSet 7 (mOp (gIxD gIx) (mLst (mCons (mVar 7) (mCons (mVar 9) mNil))) (mCB gInt3 (mCons (mAndV (mOp gNe (mVar 9) (mLst mNil)) (mOp gGt (mCall f__law_take (mCons (mVar 0) (mCons (mC (.int 6)) mNil))) (mC (.int 0)))) mNil)))))))
    (mSeq (mAsg (mOp (gIxD gIx) (mVar 7) (mCall f__law_take (mCons (mVar 0) (mCons (mCB gLen (mCons (mVar 7) mNil)) mNil)))) (mgPat (.tp [(.nm 10), (.nm 11), (.nm 12)])))
    (mSeq (mIfS (mB (mOp (gInD false gIn) (mC (.str ".")) (mVar 10))) (mSeq (mSet 13 (mCB gMin (mCons (mOp gFdiv (mOp gSub (mVar 5) (mC (.int 1))) (mCB gLen (mCons (mVar 11) mNil))) (mCons (mOp gFdiv (mOp gMul (mVar 5) (mC (.int 2))) (mC (.int 3))) mNil))))
    (mSeq (mSet 14 (mLc (miSeq (mVar 11)) (.nm 19) mYes (mOp (gIxD gIx) (mLst (mCons (mVar 19) (mCons (mC .non) mNil))) (mCB gInt3 (mCons (mOp gIs (mVar 4) (mC .non)) mNil))) [19]))
    (mRet (mTup (mCons (mC (.str "call")) (mCons (mVar 10) (mCons (mCB gTuple (mCons (mLc (miSeq (mVar 14)) (.nm 18) mYes (mCall F (mCons (mVar 0) (mCons (mVar 1) (mCons (mVar 2) (mCons (mVar 3) (mCons (mVar 18) (mCons (mVar 13) mNil))))))) [18]) mNil)) mNil))))))) mNext)
    (mRet (mCall (f__law_use F) (mCons (mVar 0) (mCons (mVar 1) (mCons (mVar 2) (mCons (mVar 3) (mCons (mTup (mCons (mVar 8) (mCons (mVar 10) (mCons (mVar 11) (mCons (mOp gIs (mVar 4) (mC .non)) (mCons (mVar 5) mNil)))))) mNil)))))))))))))))
def f__law_term : Nat → MF
  | 0 => fun _ _ _ => none
  | d + 1 => mDef 20 (B__law_term (f__law_term d))
def B__law_drawn : MSt := (mSeq (mIfS (mB (mOp gEq (mCall f__law_take (mCons (mVar 0) (mCons (mC (.int 3)) mNil))) (mC (.int 0)))) (mSeq (mSet 4 (mOp gAdd (mOp (gIxD gIx) (mVar 1) (mC (.str "own"))) (mLst (mCons (mC (.str "ground")) mNil))))
    (mRet (mCall (f__law_term 12) (mCons (mVar 0) (mCons (mVar 1) (mCons (mVar 4) (mCons (mOp (gIxD gIx) (mOp (gIxD gIx) (mVar 1) (mC (.str "known"))) (mOp (gIxD gIx) (mVar 4) (mC (.int 0)))) (mCons (mC .non) (mCons (mOp gAdd (mC (.int 4)) (mCall f__law_take (mCons (mVar 0) (mCons (mC (.int 16)) mNil)))) mNil))))))))) mNext)
    (mSeq (mSet 2 (mOp (gIxD gIx) (mOp (gIxD gIx) (mVar 1) (mC (.str "own"))) (mCall f__law_take (mCons (mVar 0) (mCons (mC (.int 2)) mNil)))))
    (mSeq (mSet 3 (mLc (miSeq (mOp (gIxD gIx) (mOp (gIxD gIx) (mVar 1) (mC (.str "known"))) (mVar 2))) (.tp [(.nm 5), (.nm 6)]) mYes (mVar 6) [5, 6]))
    (mRet (mCall (f__law_term 12) (mCons (mVar 0) (mCons (mVar 1) (mCons (mLst (mCons (mVar 2) mNil)) (mCons (mOp (gIxD gIx) (mOp (gIxD gIx) (mVar 1) (mC (.str "known"))) (mVar 2)) (mCons (mOp (gIxD gIx) (mVar 3) (mCall f__law_take (mCons (mVar 0) (mCons (mC (.int 4)) mNil)))) (mCons (mOp gAdd (mC (.int 4)) (mCall f__law_take (mCons (mVar 0) (mCons (mC (.int 16)) mNil)))) mNil)))))))))))
def f__law_drawn : MF := mDef 7 B__law_drawn
def B__law_within : MSt := (mSeq (mIfS (mB (mOp gEq (mOp (gIxD gIx) (mVar 0) (mC (.int 0))) (mC (.str "call")))) (mRet (mCB gList (mCons (mOp (gIxD gIx) (mVar 0) (mC (.int 2))) mNil))) mNext)
    (mSeq (mIfS (mB (mOp gEq (mOp (gIxD gIx) (mVar 0) (mC (.int 0))) (mC (.str "use")))) (mRet (mLc (miSeq (mOp (gIxD gIx) (mVar 0) (mC (.int 3)))) (.nm 1) (mTr (mIsi "tuple" (mVar 1))) (mVar 1) [1])) mNext)
    (mRet (mLst mNil))))
def f__law_within : MF := mDef 2 B__law_within
def B__law_all (F : MF) : MSt := (mSeq (mSet 1 (mLst (mCons (mVar 0) mNil)))
    (mSeq (mFor (miSeq (mCall f__law_within (mCons (mVar 0) mNil))) (mgPat (.nm 2)) (mDrop (mML gExtend (mVar 1) (mCons (mCall F (mCons (mVar 2) mNil)) mNil))))
    (mRet (mVar 1))))
def f__law_all : Nat → MF
  | 0 => fun _ _ _ => none
  | d + 1 => mDef 3 (B__law_all (f__law_all d))
def B__law_far (F : MF) : MSt := (mRet (mCB gMaxL (mCons (mOp gAdd (mLst (mCons (mC (.int 0)) mNil)) (mLc (miSeq (mCall f__law_within (mCons (mVar 0) mNil))) (.nm 1) mYes (mOp gAdd (mC (.int 1)) (mCall F (mCons (mVar 1) mNil))) [1])) mNil)))
def f__law_far : Nat → MF
  | 0 => fun _ _ _ => none
  | d + 1 => mDef 2 (B__law_far (f__law_far d))
def B__law_alike : MSt := (mSeq (mSet 2 (mLst (mCons (mTup (mCons (mVar 0) (mCons (mVar 1) mNil))) mNil)))
    (mSeq (mWhile (mB (mOp gNe (mVar 2) (mLst mNil))) (mSeq (mAsg (mML0 gPop (mVar 2)) (mgPat (.tp [(.nm 3), (.nm 4)])))
    (mIfS (mTr (mIsi2 "tuple" "list" (mVar 4))) (mSeq (mIfS (mOr (mB (mOp gNe (mIsi "tuple" (mVar 3)) (mIsi "tuple" (mVar 4)))) (mB (mOp gNe (mIsi "list" (mVar 3)) (mIsi "list" (mVar 4))))) (mRet (mC (.bl false))) mNext)
    (mSeq (mIfS (mB (mOp gNe (mCB gLen (mCons (mVar 3) mNil)) (mCB gLen (mCons (mVar 4) mNil)))) (mRet (mC (.bl false))) mNext)
    (mDrop (mML gExtend (mVar 2) (mCons (mListZip (mCons (mVar 3) (mCons (mVar 4) mNil))) mNil))))) (mIfS (mOr (mTr (mIsi2 "tuple" "list" (mVar 3))) (mOr (mB (mOp gNe (mIsi "bool" (mVar 3)) (mIsi "bool" (mVar 4)))) (mB (mOp gNe (mVar 3) (mVar 4))))) (mRet (mC (.bl false))) mNext))))
    (mRet (mC (.bl true)))))
def f__law_alike : MF := mDef 5 B__law_alike
def B_law : MSt := (mSeq (mFor (miRange1 (mCB gMax (mCons (mC (.int 1)) (mCons (mCB gMin (mCons (mCB gLen (mCons (mVar 0) mNil)) (mCons (mC (.int 2)) mNil))) mNil)))) (mgPat (.nm 1)) (mSeq (mSet 2 (mCall f__law_box (mCons (mVar 0) (mCons (mVar 1) mNil))))
    (mSeq (mSet 3 (mCall f__law_world (mCons (mVar 2) mNil)))
    (mSeq (mSet 4 (mLc (miRange1 (mC (.int 4))) (.nm 6) mYes (mCall f__law_drawn (mCons (mVar 2) (mCons (mVar 3) mNil))) [6]))
    (mFor (miSeq (mOp gAdd (mVar 4) (mSl gCut (mVar 4) mNoPart (mPart (mC (.int 1)))))) (mgPat (.nm 5)) (mFor (miRange1 (mC (.int 2))) (mgPat (.nm 6)) (mSeq (mSet 7 (mCall f_parts (mCons (mVar 5) mNil)))
    (mSeq (mIfS (mOr (mNot (mTr (mCall f__law_alike (mCons (mVar 7) (mCons (mCall (f__law_all 12) (mCons (mVar 5) mNil)) mNil))))) (mB (mOp gNe (mCB gRepr (mCons (mCall f_deep (mCons (mVar 5) mNil)) mNil)) (mCB gStrI (mCons (mCall (f__law_far 12) (mCons (mVar 5) mNil)) mNil))))) (mRet (mC (.bl false))) mNext)
    (mDrop (mML0 gClear (mVar 7)))))))))))
    (mRet (mC (.bl true))))
def f_law : MF := mDef 8 B_law
end K03

namespace K03
open PySem PySem.Spec PyProof.Rows L2 Mi
def topS (i : Nat) : Stmt := PySem.Challenge.pw_tonguetower_k03_parts_of_terms.main.body.getD i (.Pass ⟨0, 0, 0, 0⟩)
abbrev s_things_in : Stmt := topS 1
theorem sc_things_in : FnScope ["term"] ["term"] (defScope s_things_in) := ⟨rfl, rfl, rfl, by decide +kernel, rfl, by decide +kernel, by decide +kernel⟩
abbrev s_terms_in : Stmt := topS 2
theorem sc_terms_in : FnScope ["term", "thing"] ["term"] (defScope s_terms_in) := ⟨rfl, rfl, rfl, by decide +kernel, rfl, by decide +kernel, by decide +kernel⟩
abbrev s_parts : Stmt := topS 3
theorem sc_parts : FnScope ["term", "found", "todo", "part"] ["term"] (defScope s_parts) := ⟨rfl, rfl, rfl, by decide +kernel, rfl, by decide +kernel, by decide +kernel⟩
abbrev s_deep : Stmt := topS 4
theorem sc_deep : FnScope ["term", "floors", "row", "part", "inner"] ["term"] (defScope s_deep) := ⟨rfl, rfl, rfl, by decide +kernel, rfl, by decide +kernel, by decide +kernel⟩
abbrev s__law_box : Stmt := topS 6
theorem sc__law_box : FnScope ["_law_script", "_law_k", "_law_cell", "_law_seed"] ["_law_script", "_law_k"] (defScope s__law_box) := ⟨rfl, rfl, rfl, by decide +kernel, rfl, by decide +kernel, by decide +kernel⟩
abbrev s__law_take : Stmt := topS 7
theorem sc__law_take : FnScope ["_law_box_here", "_law_many", "_law_one", "_law_digit"] ["_law_box_here", "_law_many"] (defScope s__law_take) := ⟨rfl, rfl, rfl, by decide +kernel, rfl, by decide +kernel, by decide +kernel⟩
abbrev s__law_names : Stmt := topS 8
theorem sc__law_names : FnScope ["_law_box_here", "_law_many", "_law_letters", "_law_stem", "_law_found", "_law_k", "_law_spot", "_law_first", "_law_sign"] ["_law_box_here", "_law_many"] (defScope s__law_names) := ⟨rfl, rfl, rfl, by decide +kernel, rfl, by decide +kernel, by decide +kernel⟩
abbrev s__law_ground_forms : Stmt := topS 9
theorem sc__law_ground_forms : FnScope ["_law_rows", "_law_one", "_law_opened", "_law_name", "_law_sign", "_law_row"] [] (defScope s__law_ground_forms) := ⟨rfl, rfl, rfl, by decide +kernel, rfl, by decide +kernel, by decide +kernel⟩
abbrev s__law_items : Stmt := topS 10
theorem sc__law_items : FnScope ["_law_box_here", "_law_kinds", "_law_k", "_law_found", "_law_left", "_law_sort", "_law_many", "_law_item", "_law_kind", "_law_opens", "_law_j"] ["_law_box_here", "_law_kinds"] (defScope s__law_items) := ⟨rfl, rfl, rfl, by decide +kernel, rfl, by decide +kernel, by decide +kernel⟩
abbrev s__law_meant : Stmt := topS 11
theorem sc__law_meant : FnScope ["_law_items_here", "_law_found", "_law_i", "_law_j", "_law_item"] ["_law_items_here"] (defScope s__law_meant) := ⟨rfl, rfl, rfl, by decide +kernel, rfl, by decide +kernel, by decide +kernel⟩
abbrev s__law_tongue : Stmt := topS 12
theorem sc__law_tongue : FnScope ["_law_box_here", "_law_name", "_law_kinds", "_law_heads", "_law_forms", "_law_k", "_law_head", "_law_items_here", "_law_kind"] ["_law_box_here", "_law_name", "_law_kinds", "_law_heads"] (defScope s__law_tongue) := ⟨rfl, rfl, rfl, by decide +kernel, rfl, by decide +kernel, by decide +kernel⟩
abbrev s__law_world : Stmt := topS 13
theorem sc__law_world : FnScope ["_law_box_here", "_law_k", "_law_pool", "_law_names_here", "_law_letters", "_law_first", "_law_tower", "_law_forms", "_law_calls", "_law_known", "_law_kinds", "_law_heads", "_law_params", "_law_j", "_law_form", "_law_x", "_law_kind"] ["_law_box_here"] (defScope s__law_world) := ⟨rfl, rfl, rfl, by decide +kernel, rfl, by decide +kernel, by decide +kernel⟩
abbrev s__law_use : Stmt := topS 15
theorem sc__law_use : FnScope ["_law_box_here", "_law_world_here", "_law_own", "_law_known", "_law_row", "_law_many", "_law_item", "_law_items_here", "_law_tongue_here", "_law_head", "_law_mixed", "_law_room", "_law_things", "_law_made", "_law_left", "_law_more", "_law_its", "_law_rest", "_law_x", "_law_one", "_law_kind", "_law_j"] ["_law_box_here", "_law_world_here", "_law_own", "_law_known", "_law_row"] (defScope s__law_use) := ⟨rfl, rfl, rfl, by decide +kernel, rfl, by decide +kernel, by decide +kernel⟩
abbrev s__law_term : Stmt := topS 14
theorem sc__law_term : FnScope ["_law_box_here", "_law_world_here", "_law_own", "_law_known", "_law_kind", "_law_room", "_law_seen_now", "_law_some", "_law_tongue_here", "_law_wide", "_law_head", "_law_items_here", "_law_its", "_law_rest", "_law_kinds", "_law_x", "_law_form", "_law_item", "_law_one", "_law_own_kind"] ["_law_box_here", "_law_world_here", "_law_own", "_law_known", "_law_kind", "_law_room"] (defScope s__law_term) := ⟨rfl, rfl, rfl, by decide +kernel, rfl, by decide +kernel, by decide +kernel⟩
abbrev s__law_drawn : Stmt := topS 16
theorem sc__law_drawn : FnScope ["_law_box_here", "_law_world_here", "_law_name", "_law_kinds", "_law_own", "_law_x", "_law_kind"] ["_law_box_here", "_law_world_here"] (defScope s__law_drawn) := ⟨rfl, rfl, rfl, by decide +kernel, rfl, by decide +kernel, by decide +kernel⟩
abbrev s__law_within : Stmt := topS 17
theorem sc__law_within : FnScope ["_law_term_here", "_law_thing"] ["_law_term_here"] (defScope s__law_within) := ⟨rfl, rfl, rfl, by decide +kernel, rfl, by decide +kernel, by decide +kernel⟩
abbrev s__law_all : Stmt := topS 18
theorem sc__law_all : FnScope ["_law_term_here", "_law_found", "_law_one"] ["_law_term_here"] (defScope s__law_all) := ⟨rfl, rfl, rfl, by decide +kernel, rfl, by decide +kernel, by decide +kernel⟩
abbrev s__law_far : Stmt := topS 19
theorem sc__law_far : FnScope ["_law_term_here", "_law_one"] ["_law_term_here"] (defScope s__law_far) := ⟨rfl, rfl, rfl, by decide +kernel, rfl, by decide +kernel, by decide +kernel⟩
abbrev s__law_alike : Stmt := topS 20
theorem sc__law_alike : FnScope ["_law_found", "_law_due", "_law_left", "_law_one", "_law_other"] ["_law_found", "_law_due"] (defScope s__law_alike) := ⟨rfl, rfl, rfl, by decide +kernel, rfl, by decide +kernel, by decide +kernel⟩
abbrev s_law : Stmt := topS 21
theorem sc_law : FnScope ["_law_script", "_law_k", "_law_box_here", "_law_world_here", "_law_terms", "_law_term_here", "_law_turn", "_law_found"] ["_law_script"] (defScope s_law) := ⟨rfl, rfl, rfl, by decide +kernel, rfl, by decide +kernel, by decide +kernel⟩
structure Txt (K : PySem.W.Frag) (mg : Str → Option Value) where
  a_things_in : Addr
  d_things_in : FuncData
  F_things_in : Fun K "things_in" "things_in" s_things_in a_things_in d_things_in
  g_things_in : mg "things_in" = some (.ref a_things_in)
  b_things_in : Binds K d_things_in ["term"] []
  a_terms_in : Addr
  d_terms_in : FuncData
  F_terms_in : Fun K "terms_in" "terms_in" s_terms_in a_terms_in d_terms_in
  g_terms_in : mg "terms_in" = some (.ref a_terms_in)
  b_terms_in : Binds K d_terms_in ["term"] []
  a_parts : Addr
  d_parts : FuncData
  F_parts : Fun K "parts" "parts" s_parts a_parts d_parts
  g_parts : mg "parts" = some (.ref a_parts)
  b_parts : Binds K d_parts ["term"] []
  a_deep : Addr
  d_deep : FuncData
  F_deep : Fun K "deep" "deep" s_deep a_deep d_deep
  g_deep : mg "deep" = some (.ref a_deep)
  b_deep : Binds K d_deep ["term"] []
  a__law_box : Addr
  d__law_box : FuncData
  F__law_box : Fun K "_law_box" "_law_box" s__law_box a__law_box d__law_box
  g__law_box : mg "_law_box" = some (.ref a__law_box)
  b__law_box : Binds K d__law_box ["_law_script", "_law_k"] []
  a__law_take : Addr
  d__law_take : FuncData
  F__law_take : Fun K "_law_take" "_law_take" s__law_take a__law_take d__law_take
  g__law_take : mg "_law_take" = some (.ref a__law_take)
  b__law_take : Binds K d__law_take ["_law_box_here", "_law_many"] []
  a__law_names : Addr
  d__law_names : FuncData
  F__law_names : Fun K "_law_names" "_law_names" s__law_names a__law_names d__law_names
  g__law_names : mg "_law_names" = some (.ref a__law_names)
  b__law_names : Binds K d__law_names ["_law_box_here", "_law_many"] []
  a__law_ground_forms : Addr
  d__law_ground_forms : FuncData
  F__law_ground_forms : Fun K "_law_ground_forms" "_law_ground_forms" s__law_ground_forms a__law_ground_forms d__law_ground_forms
  g__law_ground_forms : mg "_law_ground_forms" = some (.ref a__law_ground_forms)
  b__law_ground_forms : Binds K d__law_ground_forms [] []
  a__law_items : Addr
  d__law_items : FuncData
  F__law_items : Fun K "_law_items" "_law_items" s__law_items a__law_items d__law_items
  g__law_items : mg "_law_items" = some (.ref a__law_items)
  b__law_items : Binds K d__law_items ["_law_box_here", "_law_kinds"] []
  a__law_meant : Addr
  d__law_meant : FuncData
  F__law_meant : Fun K "_law_meant" "_law_meant" s__law_meant a__law_meant d__law_meant
  g__law_meant : mg "_law_meant" = some (.ref a__law_meant)
  b__law_meant : Binds K d__law_meant ["_law_items_here"] []
  a__law_tongue : Addr
  d__law_tongue : FuncData
  F__law_tongue : Fun K "_law_tongue" "_law_tongue" s__law_tongue a__law_tongue d__law_tongue
  g__law_tongue : mg "_law_tongue" = some (.ref a__law_tongue)
  b__law_tongue : Binds K d__law_tongue ["_law_box_here", "_law_name", "_law_kinds", "_law_heads"] []
  a__law_world : Addr
  d__law_world : FuncData
  F__law_world : Fun K "_law_world" "_law_world" s__law_world a__law_world d__law_world
  g__law_world : mg "_law_world" = some (.ref a__law_world)
  b__law_world : Binds K d__law_world ["_law_box_here"] []
  a__law_term : Addr
  d__law_term : FuncData
  F__law_term : Fun K "_law_term" "_law_term" s__law_term a__law_term d__law_term
  g__law_term : mg "_law_term" = some (.ref a__law_term)
  b__law_term : Binds K d__law_term ["_law_box_here", "_law_world_here", "_law_own", "_law_known", "_law_kind", "_law_room"] []
  a__law_use : Addr
  d__law_use : FuncData
  F__law_use : Fun K "_law_use" "_law_use" s__law_use a__law_use d__law_use
  g__law_use : mg "_law_use" = some (.ref a__law_use)
  b__law_use : Binds K d__law_use ["_law_box_here", "_law_world_here", "_law_own", "_law_known", "_law_row"] []
  a__law_drawn : Addr
  d__law_drawn : FuncData
  F__law_drawn : Fun K "_law_drawn" "_law_drawn" s__law_drawn a__law_drawn d__law_drawn
  g__law_drawn : mg "_law_drawn" = some (.ref a__law_drawn)
  b__law_drawn : Binds K d__law_drawn ["_law_box_here", "_law_world_here"] []
  a__law_within : Addr
  d__law_within : FuncData
  F__law_within : Fun K "_law_within" "_law_within" s__law_within a__law_within d__law_within
  g__law_within : mg "_law_within" = some (.ref a__law_within)
  b__law_within : Binds K d__law_within ["_law_term_here"] []
  a__law_all : Addr
  d__law_all : FuncData
  F__law_all : Fun K "_law_all" "_law_all" s__law_all a__law_all d__law_all
  g__law_all : mg "_law_all" = some (.ref a__law_all)
  b__law_all : Binds K d__law_all ["_law_term_here"] []
  a__law_far : Addr
  d__law_far : FuncData
  F__law_far : Fun K "_law_far" "_law_far" s__law_far a__law_far d__law_far
  g__law_far : mg "_law_far" = some (.ref a__law_far)
  b__law_far : Binds K d__law_far ["_law_term_here"] []
  a__law_alike : Addr
  d__law_alike : FuncData
  F__law_alike : Fun K "_law_alike" "_law_alike" s__law_alike a__law_alike d__law_alike
  g__law_alike : mg "_law_alike" = some (.ref a__law_alike)
  b__law_alike : Binds K d__law_alike ["_law_found", "_law_due"] []
  a_law : Addr
  d_law : FuncData
  F_law : Fun K "law" "law" s_law a_law d_law
  g_law : mg "law" = some (.ref a_law)
  b_law : Binds K d_law ["_law_script"] []
  n_bool : mg "bool" = none
  n_dict : mg "dict" = none
  n_enumerate : mg "enumerate" = none
  n_int : mg "int" = none
  n_isinstance : mg "isinstance" = none
  n_len : mg "len" = none
  n_list : mg "list" = none
  n_max : mg "max" = none
  n_min : mg "min" = none
  n_range : mg "range" = none
  n_repr : mg "repr" = none
  n_str : mg "str" = none
  n_tuple : mg "tuple" = none
  n_zip : mg "zip" = none
section
variable {P : Program} {w : World} {K : PySem.W.Frag} {mg : Str → Option Value} {base : Heap}
theorem ok_things_in (T : Txt K mg) : FnOk P w K mg base CX0 1 T.a_things_in T.d_things_in ["term"] (spM K 1 f_things_in) :=
  def_ok T.F_things_in sc_things_in fun cdv A outer s H E hr =>
    have hu := hu64 hr; have nd := sc_things_in.nd
    (show PSs _ _ (tMS K B_things_in) from (mss_cons (ms_if (mt_cmp (op_eq2 hu) i_eq (m_ixD (hu1 hu) ix_seq i_ix (m_var 0) m_int (fun _ _ => rfl)) m_str (nomark _)) (mss_one (ms_ret (m_tup ma_nil))) mss_nil)
    (mss_one (ms_ret (m_ifExp (mt_cmp (op_eq2 hu) i_eq (m_ixD (hu1 hu) ix_seq i_ix (m_var 0) m_int (fun _ _ => rfl)) m_str (nomark _)) (m_ixD (hu1 hu) ix_seq i_ix (m_var 0) m_int (fun _ _ => rfl)) (m_ixD (hu1 hu) ix_seq i_ix (m_var 0) m_int (fun _ _ => rfl)))))))
theorem ok_terms_in (T : Txt K mg) : FnOk P w K mg base CX0 2 T.a_terms_in T.d_terms_in ["term"] (spM K 1 f_terms_in) :=
  def_ok T.F_terms_in sc_terms_in fun cdv A outer s H E hr =>
    have hu := hu64 hr; have nd := sc_terms_in.nd
    (show PSs _ _ (tMS K B_terms_in) from (mss_one (ms_ret (m_lc (own := [("thing", 1)]) (p := (.nm 1)) rfl nd (mi_seq (m_call (ok_things_in T) (hr.mono (by decide)) rfl T.g_things_in T.F_things_in.kp T.b_things_in (ma_cons (m_var 0) ma_nil) (.cons .nil))) (blkOk_by (N := ["term", "thing"]) (sc := defScope s_terms_in) (by decide +kernel)) (fun _ _ _ _ _ => (pp_nm (pg_name (i := 1) nd rfl (Or.inl rfl)))) (fun _ _ _ _ _ => (mts_one (mt_tr (m_isi (t := "tuple") rfl T.n_isinstance (m_var 1) (pe_bltn (v := .ty "tuple") rfl T.n_tuple (by decide +kernel) rfl))))) (fun _ _ _ _ _ => (m_var 1)) (by decide)))))
theorem ok_parts (T : Txt K mg) : FnOk P w K mg base CX0 3 T.a_parts T.d_parts ["term"] (spM K 1 f_parts) :=
  def_ok T.F_parts sc_parts fun cdv A outer s H E hr =>
    have hu := hu64 hr; have nd := sc_parts.nd
    (show PSs _ _ (tMS K B_parts) from (mss_cons (ms_set 1 (m_lst ma_nil) nd)
    (mss_cons (ms_set 2 (m_lst (ma_cons (m_var 0) ma_nil)) nd)
    (mss_cons (ms_while PassesOwn.never (mt_tr (m_var 2)) (mss_cons (ms_set 3 (m_ml0 PySem.F.plainAttrs_list PySem.F.slot_list_pop PySem.F.type_list_pop mt_pop i_pop (m_var 2)) nd)
    (mss_cons (ms_expr (m_ml i_append (pe_bm PySem.F.plainAttrs_list PySem.F.slot_list_append PySem.F.type_list_append mt_append (m_var 1) (ma_cons (m_var 3) ma_nil))))
    (mss_one (ms_expr (m_ml i_extend (pe_bm PySem.F.plainAttrs_list PySem.F.slot_list_extend PySem.F.type_list_extend mt_extend (m_var 2) (ma_cons (m_rev (m_call (ok_terms_in T) (hr.mono (by decide)) rfl T.g_terms_in T.F_terms_in.kp T.b_terms_in (ma_cons (m_var 3) ma_nil) (.cons .nil))) ma_nil))))))))
    (mss_one (ms_ret (m_var 1)))))))
theorem ok_deep (T : Txt K mg) : FnOk P w K mg base CX0 3 T.a_deep T.d_deep ["term"] (spM K 1 f_deep) :=
  def_ok T.F_deep sc_deep fun cdv A outer s H E hr =>
    have hu := hu64 hr; have nd := sc_deep.nd
    (show PSs _ _ (tMS K B_deep) from (mss_cons (ms_set 1 m_int nd)
    (mss_cons (ms_set 2 (m_call (ok_terms_in T) (hr.mono (by decide)) rfl T.g_terms_in T.F_terms_in.kp T.b_terms_in (ma_cons (m_var 0) ma_nil) (.cons .nil)) nd)
    (mss_cons (ms_while PassesOwn.never (mt_tr (m_var 2)) (mss_cons (ms_aug 1 m_int ip_add i_ipadd nd)
    (mss_one (ms_setLc2 (own := [("part", 3), ("inner", 4)]) (vs1 := [4]) (p := (.nm 3)) (p1 := (.nm 4)) 2 rfl nd rfl rfl (sw_true rfl rfl rfl (by decide +kernel)) (mi_seq (m_var 2)) (blkOk_by (N := ["term", "floors", "row", "part", "inner"]) (sc := defScope s_deep) (by decide +kernel)) (by decide) (fun _ _ _ _ _ => (pp_nm (pg_name (i := 3) nd rfl (Or.inl rfl)))) (fun _ _ _ _ _ => mts_nil) (fun _ _ _ _ _ => (mi_seq (m_call (ok_terms_in T) (hr.mono (by decide)) rfl T.g_terms_in T.F_terms_in.kp T.b_terms_in (ma_cons (m_var 3) ma_nil) (.cons .nil)))) (fun _ _ _ _ _ => (pp_nm (pg_name (i := 4) nd rfl (Or.inl rfl)))) (fun _ _ _ _ _ => mts_nil) (fun _ _ _ _ _ => (m_var 4)) (by decide) (by decide)))))
    (mss_one (ms_ret (m_var 1)))))))
theorem ok__law_box (T : Txt K mg) : FnOk P w K mg base CX0 1 T.a__law_box T.d__law_box ["_law_script", "_law_k"] (spM K 2 f__law_box) :=
  def_ok T.F__law_box sc__law_box fun cdv A outer s H E hr =>
    have hu := hu64 hr; have nd := sc__law_box.nd
    (show PSs _ _ (tMS K B__law_box) from (mss_cons (ms_set 2 (m_op op_add4 i_add (m_op op_mul3 i_mul m_int (m_var 1)) m_int) nd)
    (mss_cons (ms_if (mt_cmp op_lt i_lt (m_var 1) (m_callB call_len i_len rfl T.n_len (by decide +kernel) (ma_cons (m_var 0) ma_nil)) (nomark _)) (mss_one (ms_set 2 (m_callB (call_max2 rfl) i_max rfl T.n_max (by decide +kernel) (ma_cons (m_ixD (hu1 hu) ix_seq i_ix (m_var 0) (m_var 1) (fun _ _ => rfl)) (ma_cons (m_op op_sub i_sub m_int (m_ixD (hu1 hu) ix_seq i_ix (m_var 0) (m_var 1) (fun _ _ => rfl))) ma_nil))) nd)) (mss_one (ms_if (mt_cmp op_gt i_gt (m_callB call_len i_len rfl T.n_len (by decide +kernel) (ma_cons (m_var 0) ma_nil)) m_int (nomark _)) (mss_one (ms_set 2 (m_op op_add4 i_add (m_var 2) (m_op op_mul3 i_mul (m_op op_mod i_mod (m_ixD (hu1 hu) ix_seq i_ix (m_var 0) (m_op op_mod i_mod (m_var 1) (m_callB call_len i_len rfl T.n_len (by decide +kernel) (ma_cons (m_var 0) ma_nil))) (fun _ _ => rfl)) m_int) m_int)) nd)) mss_nil)))
    (mss_cons (ms_set 3 (m_op op_add4 i_add (m_op op_mod i_mod (m_op op_add4 i_add (m_op op_add4 i_add (m_op op_mul3 i_mul (m_op op_mod i_mod (m_var 2) m_int) m_int) (m_op op_mul3 i_mul m_int (m_var 1))) m_int) m_int) m_int) nd)
    (mss_one (ms_ret (m_lst (ma_cons (m_ixD (hu1 hu) ix_seq i_ix (m_lst (ma_cons m_int (ma_cons (m_var 2) ma_nil))) (m_callTy call_int3 i_int3 rfl T.n_int (by decide +kernel) (ma_cons (m_cmp op_ge i_ge (m_var 2) (m_op op_pow i_pow m_int m_int) (nomark _)) ma_nil)) (fun _ _ => rfl)) (ma_cons (m_var 3) (ma_cons m_int ma_nil))))))))))
theorem ok__law_take (T : Txt K mg) : FnOk P w K mg base CX0 1 T.a__law_take T.d__law_take ["_law_box_here", "_law_many"] (spM K 2 f__law_take) :=
  def_ok T.F__law_take sc__law_take fun cdv A outer s H E hr =>
    have hu := hu64 hr; have nd := sc__law_take.nd
    (show PSs _ _ (tMS K B__law_take) from (mss_cons (ms_if (mt_cmp op_gt i_gt (m_ixD (hu1 hu) ix_seq i_ix (m_var 0) m_int (fun _ _ => rfl)) m_int (nomark _)) (mss_cons (ms_set 3 (m_op op_mod i_mod (m_ixD (hu1 hu) ix_seq i_ix (m_var 0) m_int (fun _ _ => rfl)) (m_var 1)) nd)
    (mss_cons (ms_asg (m_op op_fdiv i_fdiv (m_ixD (hu1 hu) ix_seq i_ix (m_var 0) m_int (fun _ _ => rfl)) (m_var 1)) (mg_sub (m_var 0) m_int (pset_or set_list (set_dict (hu1 hu))) i_setD))
    (mss_one (ms_ret (m_var 3))))) mss_nil)
    (mss_cons (ms_asg (m_op op_add4 i_add (m_ixD (hu1 hu) ix_seq i_ix (m_var 0) m_int (fun _ _ => rfl)) m_int) (mg_sub (m_var 0) m_int (pset_or set_list (set_dict (hu1 hu))) i_setD))
    (mss_cons (ms_set 2 (m_op op_mod i_mod (m_op op_mul3 i_mul (m_op op_add4 i_add (m_ixD (hu1 hu) ix_seq i_ix (m_var 0) m_int (fun _ _ => rfl)) (m_op op_mul3 i_mul m_int (m_ixD (hu1 hu) ix_seq i_ix (m_var 0) m_int (fun _ _ => rfl)))) m_int) m_int) nd)
    (mss_cons (ms_asg (m_op op_add4 i_add (m_op op_mod i_mod (m_op op_add4 i_add (m_op op_mul3 i_mul (m_var 2) m_int) m_int) m_int) m_int) (mg_sub (m_var 0) m_int (pset_or set_list (set_dict (hu1 hu))) i_setD))
    (mss_one (ms_ret (m_op op_mod i_mod (m_op op_fdiv i_fdiv (m_op op_add4 i_add (m_op op_mul3 i_mul (m_var 2) m_int) (m_ixD (hu1 hu) ix_seq i_ix (m_var 0) m_int (fun _ _ => rfl))) m_int) (m_var 1)))))))))
theorem ok__law_names (T : Txt K mg) : FnOk P w K mg base CX0 2 T.a__law_names T.d__law_names ["_law_box_here", "_law_many"] (spM K 2 f__law_names) :=
  def_ok T.F__law_names sc__law_names fun cdv A outer s H E hr =>
    have hu := hu64 hr; have nd := sc__law_names.nd
    (show PSs _ _ (tMS K B__law_names) from (mss_cons (ms_set 2 m_str nd)
    (mss_cons (ms_set 3 (m_m1 PySem.F.slot_str_join PySem.F.type_str_join mt_join i_join m_str (m_lc (own := [("_law_k", 5)]) (p := (.nm 5)) rfl nd (mi_range1 rfl T.n_range (m_call (ok__law_take T) (hr.mono (by decide)) rfl T.g__law_take T.F__law_take.kp T.b__law_take (ma_cons (m_var 0) (ma_cons m_int ma_nil)) (.cons (.cons .nil)))) (blkOk_by (N := ["_law_box_here", "_law_many", "_law_letters", "_law_stem", "_law_found", "_law_k", "_law_spot", "_law_first", "_law_sign"]) (sc := defScope s__law_names) (by decide +kernel)) (fun _ _ _ _ _ => (pp_nm (pg_name (i := 5) nd rfl (Or.inl rfl)))) (fun _ _ _ _ _ => mts_nil) (fun _ _ _ _ _ => (m_ixD (hu1 hu) ix_seq i_ix (m_var 2) (m_call (ok__law_take T) (hr.mono (by decide)) rfl T.g__law_take T.F__law_take.kp T.b__law_take (ma_cons (m_var 0) (ma_cons m_int ma_nil)) (.cons (.cons .nil))) (fun _ _ => rfl))) (by decide))) nd)
    (mss_cons (ms_par 6 7 rfl nd (m_call (ok__law_take T) (hr.mono (by decide)) rfl T.g__law_take T.F__law_take.kp T.b__law_take (ma_cons (m_var 0) (ma_cons (m_op op_add4 i_add (m_callB call_len i_len rfl T.n_len (by decide +kernel) (ma_cons (m_var 3) ma_nil)) m_int) ma_nil)) (.cons (.cons .nil))) (m_call (ok__law_take T) (hr.mono (by decide)) rfl T.g__law_take T.F__law_take.kp T.b__law_take (ma_cons (m_var 0) (ma_cons m_int ma_nil)) (.cons (.cons .nil))))
    (mss_cons (ms_set 4 (m_lst ma_nil) nd)
    (mss_cons (ms_for PassesOwn.never rfl (mi_range1 rfl T.n_range (m_var 1)) (mg_pat (.nm 5) (pp_nm (pg_name (i := 5) nd rfl (Or.inl rfl)))) (mss_cons (ms_set 8 (m_ixD (hu1 hu) ix_seq i_ix (m_var 2) (m_op op_mod i_mod (m_op op_add4 i_add (m_var 7) (m_op op_mul3 i_mul m_int (m_var 5))) m_int) (fun _ _ => rfl)) nd)
    (mss_one (ms_expr (m_ml i_append (pe_bm PySem.F.plainAttrs_list PySem.F.slot_list_append PySem.F.type_list_append mt_append (m_var 4) (ma_cons (m_op op_add4 i_add (m_op op_add4 i_add (m_op op_add4 i_add (m_slice sl_cut3 i_cut (m_var 3) mo_none (mo_some (m_var 6))) (m_var 8)) (m_slice sl_cut3 i_cut (m_var 3) (mo_some (m_var 6)) mo_none)) (m_op op_mul3 i_mul m_str (m_op op_mod i_mod (m_var 5) m_int))) ma_nil)))))))
    (mss_one (ms_ret (m_var 4)))))))))
theorem ok__law_ground_forms (T : Txt K mg) : FnOk P w K mg base CX0 1 T.a__law_ground_forms T.d__law_ground_forms [] (spM K 0 f__law_ground_forms) :=
  def_ok T.F__law_ground_forms sc__law_ground_forms fun cdv A outer s H E hr =>
    have hu := hu64 hr; have nd := sc__law_ground_forms.nd
    (show PSs _ _ (tMS K B__law_ground_forms) from (mss_cons (ms_asg (m_tup (ma_cons (m_tup (ma_cons m_str (ma_cons m_str (ma_cons (m_tup ma_nil) ma_nil)))) (ma_cons (m_tup (ma_cons m_str (ma_cons m_str (ma_cons (m_tup (ma_cons m_int ma_nil)) ma_nil)))) (ma_cons (m_tup (ma_cons m_str (ma_cons m_str ma_nil))) ma_nil)))) (mg_pat (.tp [(.nm 1), (.nm 2), (.nm 3)]) (pp_tp rfl (pps1 (pp_nm (pg_name (i := 1) nd rfl (Or.inr rfl))) (pps1 (pp_nm (pg_name (i := 2) nd rfl (Or.inl rfl))) (pps1 (pp_nm (pg_name (i := 3) nd rfl (Or.inl rfl))) pps0))))))
    (mss_cons (ms_set 0 (m_op op_add4 i_add (m_lst (ma_cons (m_tup (ma_cons m_str (ma_cons (m_tup (ma_cons (m_tup (ma_cons m_str ma_nil)) ma_nil)) ma_nil))) ma_nil)) (m_lc (own := [("_law_sign", 4)]) (p := (.nm 4)) rfl nd (mi_seq m_str) (blkOk_by (N := ["_law_rows", "_law_one", "_law_opened", "_law_name", "_law_sign", "_law_row"]) (sc := defScope s__law_ground_forms) (by decide +kernel)) (fun _ _ _ _ _ => (pp_nm (pg_name (i := 4) nd rfl (Or.inl rfl)))) (fun _ _ _ _ _ => mts_nil) (fun _ _ _ _ _ => (m_tup (ma_cons (m_var 4) (ma_cons (m_tup (ma_cons (m_var 1) (ma_cons (m_var 1) ma_nil))) ma_nil)))) (by decide))) nd)
    (mss_cons (ms_set 0 (m_op op_add4 i_add (m_var 0) (m_lst (ma_cons (m_tup (ma_cons m_str (ma_cons (m_tup (ma_cons (m_var 1) (ma_cons (m_var 1) (ma_cons (m_var 1) ma_nil)))) ma_nil))) (ma_cons (m_tup (ma_cons m_str (ma_cons (m_tup (ma_cons (m_var 1) (ma_cons (m_var 1) ma_nil))) ma_nil))) (ma_cons (m_tup (ma_cons m_str (ma_cons (m_tup (ma_cons (m_var 3) (ma_cons (m_var 1) (ma_cons (m_var 2) ma_nil)))) ma_nil))) ma_nil))))) nd)
    (mss_cons (ms_expr (m_ml i_append (pe_bm PySem.F.plainAttrs_list PySem.F.slot_list_append PySem.F.type_list_append mt_append (m_var 0) (ma_cons (m_tup (ma_cons m_str (ma_cons (m_tup (ma_cons (m_var 1) (ma_cons (m_var 3) (ma_cons (m_var 1) (ma_cons (m_var 2) ma_nil))))) ma_nil))) ma_nil))))
    (mss_one (ms_ret (m_lc (own := [("_law_row", 5)]) (p := (.nm 5)) rfl nd (mi_seq (m_var 0)) (blkOk_by (N := ["_law_rows", "_law_one", "_law_opened", "_law_name", "_law_sign", "_law_row"]) (sc := defScope s__law_ground_forms) (by decide +kernel)) (fun _ _ _ _ _ => (pp_nm (pg_name (i := 5) nd rfl (Or.inl rfl)))) (fun _ _ _ _ _ => mts_nil) (fun _ _ _ _ _ => (m_op op_add4 i_add (m_var 5) (m_tup (ma_cons m_str ma_nil)))) (by decide)))))))))
theorem ok__law_items (T : Txt K mg) : FnOk P w K mg base CX0 2 T.a__law_items T.d__law_items ["_law_box_here", "_law_kinds"] (spM K 2 f__law_items) :=
  def_ok T.F__law_items sc__law_items fun cdv A outer s H E hr =>
    have hu := hu64 hr; have nd := sc__law_items.nd
    (show PSs _ _ (tMS K B__law_items) from (mss_cons (ms_par 3 4 rfl nd (m_lst ma_nil) (m_disp (prs := [((mC (.str "lit")), (mC (.int 2))), ((mC (.str "name")), (mC (.int 2))), ((mC (.str "term")), (mC (.int 3))), ((mC (.str "sign")), (mC (.int 3)))]) (mp_cons m_str m_int (mp_cons m_str m_int (mp_cons m_str m_int (mp_cons m_str m_int mp_nil))))))
    (mss_cons (ms_for PassesOwn.never rfl (mi_range1 rfl T.n_range (m_call (ok__law_take T) (hr.mono (by decide)) rfl T.g__law_take T.F__law_take.kp T.b__law_take (ma_cons (m_var 0) (ma_cons m_int ma_nil)) (.cons (.cons .nil)))) (mg_pat (.nm 2) (pp_nm (pg_name (i := 2) nd rfl (Or.inl rfl)))) (mss_cons (ms_set 5 (m_ixD (hu1 hu) ix_seq i_ix (m_lst (ma_cons m_str (ma_cons m_str (ma_cons m_str (ma_cons m_str (ma_cons m_str (ma_cons m_str ma_nil))))))) (m_call (ok__law_take T) (hr.mono (by decide)) rfl T.g__law_take T.F__law_take.kp T.b__law_take (ma_cons (m_var 0) (ma_cons m_int ma_nil)) (.cons (.cons .nil))) (fun _ _ => rfl)) nd)
    (mss_one (ms_if (mt_cmp op_gt i_gt (m_ixD (hu1 hu) ix_seq i_ix (m_var 4) (m_var 5) (fun _ _ => rfl)) m_int (nomark _)) (mss_cons (ms_asg (m_op op_sub i_sub (m_ixD (hu1 hu) ix_seq i_ix (m_var 4) (m_var 5) (fun _ _ => rfl)) m_int) (mg_sub (m_var 4) (m_var 5) (pset_or set_list (set_dict (hu1 hu))) i_setD))
    (mss_cons (ms_set 6 (m_callB call_len i_len rfl T.n_len (by decide +kernel) (ma_cons (m_lc (own := [("_law_item", 7)]) (p := (.nm 7)) rfl nd (mi_seq (m_var 3)) (blkOk_by (N := ["_law_box_here", "_law_kinds", "_law_k", "_law_found", "_law_left", "_law_sort", "_law_many", "_law_item", "_law_kind", "_law_opens", "_law_j"]) (sc := defScope s__law_items) (by decide +kernel)) (fun _ _ _ _ _ => (pp_nm (pg_name (i := 7) nd rfl (Or.inl rfl)))) (fun _ _ _ _ _ => (mts_one (mt_cmp (op_eq2 hu) i_eq (m_ixD (hu1 hu) ix_seq i_ix (m_var 7) m_int (fun _ _ => rfl)) m_str (nomark _)))) (fun _ _ _ _ _ => (m_var 7)) (by decide)) ma_nil)) nd)
    (mss_cons (ms_par 8 9 rfl nd (m_ixD (hu1 hu) ix_seq i_ix (m_var 1) (m_call (ok__law_take T) (hr.mono (by decide)) rfl T.g__law_take T.F__law_take.kp T.b__law_take (ma_cons (m_var 0) (ma_cons (m_callB call_len i_len rfl T.n_len (by decide +kernel) (ma_cons (m_var 1) ma_nil)) ma_nil)) (.cons (.cons .nil))) (fun _ _ => rfl)) (m_lc (own := [("_law_j", 10)]) (p := (.nm 10)) rfl nd (mi_range1 rfl T.n_range (m_var 6)) (blkOk_by (N := ["_law_box_here", "_law_kinds", "_law_k", "_law_found", "_law_left", "_law_sort", "_law_many", "_law_item", "_law_kind", "_law_opens", "_law_j"]) (sc := defScope s__law_items) (by decide +kernel)) (fun _ _ _ _ _ => (pp_nm (pg_name (i := 10) nd rfl (Or.inl rfl)))) (fun _ _ _ _ _ => (mts_one (mt_cmp op_gt i_gt (m_call (ok__law_take T) (hr.mono (by decide)) rfl T.g__law_take T.F__law_take.kp T.b__law_take (ma_cons (m_var 0) (ma_cons m_int ma_nil)) (.cons (.cons .nil))) m_int (nomark _)))) (fun _ _ _ _ _ => (m_var 10)) (by decide)))
    (mss_cons (ms_set 7 (m_disp (prs := [((mC (.str "lit")), (mTup (mCons (mC (.str "lit")) mNil))), ((mC (.str "name")), (mTup (mCons (mC (.str "name")) (mCons (mVar 8) mNil)))), ((mC (.str "term")), (mTup (mCons (mC (.str "term")) (mCons (mVar 8) (mCons (mCB gTuple (mCons (mVar 9) mNil)) mNil)))))]) (mp_cons m_str (m_tup (ma_cons m_str ma_nil)) (mp_cons m_str (m_tup (ma_cons m_str (ma_cons (m_var 8) ma_nil))) (mp_cons m_str (m_tup (ma_cons m_str (ma_cons (m_var 8) (ma_cons (m_callTy call_tuple_of i_tuple rfl T.n_tuple (by decide +kernel) (ma_cons (m_var 9) ma_nil)) ma_nil)))) mp_nil)))) nd)
    (mss_cons (ms_asg (m_tup (ma_cons m_str (ma_cons (m_ixD (hu1 hu) ix_seq i_ix (m_lst (ma_cons m_str (ma_cons m_str (ma_cons m_str ma_nil)))) (m_call (ok__law_take T) (hr.mono (by decide)) rfl T.g__law_take T.F__law_take.kp T.b__law_take (ma_cons (m_var 0) (ma_cons m_int ma_nil)) (.cons (.cons .nil))) (fun _ _ => rfl)) ma_nil))) (mg_sub (m_var 7) m_str (pset_or set_list (set_dict (hu1 hu))) i_setD))
    (mss_one (ms_expr (m_ml i_append (pe_bm PySem.F.plainAttrs_list PySem.F.slot_list_append PySem.F.type_list_append mt_append (m_var 3) (ma_cons (m_ixD (hu1 hu) ix_seq i_ix (m_var 7) (m_var 5) (fun _ _ => rfl)) ma_nil)))))))))) mss_nil))))
    (mss_one (ms_ret (m_callTy call_tuple_of i_tuple rfl T.n_tuple (by decide +kernel) (ma_cons (m_var 3) ma_nil)))))))
theorem ok__law_meant (T : Txt K mg) : FnOk P w K mg base CX0 1 T.a__law_meant T.d__law_meant ["_law_items_here"] (spM K 1 f__law_meant) :=
  def_ok T.F__law_meant sc__law_meant fun cdv A outer s H E hr =>
    have hu := hu64 hr; have nd := sc__law_meant.nd
    (show PSs _ _ (tMS K B__law_meant) from (mss_cons (ms_set 1 (m_tup (ma_cons m_str (ma_cons m_str (ma_cons m_str (ma_cons (m_tup (ma_cons m_int ma_nil)) ma_nil))))) nd)
    (mss_cons (ms_for PassesOwn.never rfl (mi_range1 rfl T.n_range (m_callB call_len i_len rfl T.n_len (by decide +kernel) (ma_cons (m_lc (own := [("_law_item", 4)]) (p := (.nm 4)) rfl nd (mi_seq (m_var 0)) (blkOk_by (N := ["_law_items_here", "_law_found", "_law_i", "_law_j", "_law_item"]) (sc := defScope s__law_meant) (by decide +kernel)) (fun _ _ _ _ _ => (pp_nm (pg_name (i := 4) nd rfl (Or.inl rfl)))) (fun _ _ _ _ _ => (mts_one (mt_cmp (op_eq2 hu) i_eq (m_ixD (hu1 hu) ix_seq i_ix (m_var 4) m_int (fun _ _ => rfl)) m_str (nomark _)))) (fun _ _ _ _ _ => (m_var 4)) (by decide)) ma_nil))) (mg_pat (.nm 2) (pp_nm (pg_name (i := 2) nd rfl (Or.inl rfl)))) (mss_one (ms_set 1 (m_tup (ma_cons m_str (ma_cons m_str (ma_cons m_str (ma_cons (m_tup (ma_cons (m_var 1) (ma_cons (m_tup (ma_cons m_str (ma_cons (m_var 2) ma_nil))) ma_nil))) ma_nil))))) nd)))
    (mss_cons (ms_for PassesOwn.never rfl (mi_range1 rfl T.n_range (m_callB call_len i_len rfl T.n_len (by decide +kernel) (ma_cons (m_lc (own := [("_law_item", 4)]) (p := (.nm 4)) rfl nd (mi_seq (m_var 0)) (blkOk_by (N := ["_law_items_here", "_law_found", "_law_i", "_law_j", "_law_item"]) (sc := defScope s__law_meant) (by decide +kernel)) (fun _ _ _ _ _ => (pp_nm (pg_name (i := 4) nd rfl (Or.inl rfl)))) (fun _ _ _ _ _ => (mts_one (mt_cmp (op_eq2 hu) i_eq (m_ixD (hu1 hu) ix_seq i_ix (m_var 4) m_int (fun _ _ => rfl)) m_str (nomark _)))) (fun _ _ _ _ _ => (m_var 4)) (by decide)) ma_nil))) (mg_pat (.nm 3) (pp_nm (pg_name (i := 3) nd rfl (Or.inl rfl)))) (mss_one (ms_set 1 (m_tup (ma_cons m_str (ma_cons m_str (ma_cons m_str (ma_cons (m_tup (ma_cons (m_tup (ma_cons m_str (ma_cons (m_var 3) ma_nil))) (ma_cons (m_tup (ma_cons m_str (ma_cons m_str (ma_cons m_str (ma_cons (m_tup (ma_cons (m_var 3) ma_nil)) ma_nil))))) (ma_cons (m_var 1) ma_nil)))) ma_nil))))) nd)))
    (mss_one (ms_ret (m_var 1)))))))
theorem ok__law_tongue (T : Txt K mg) : FnOk P w K mg base CX0 3 T.a__law_tongue T.d__law_tongue ["_law_box_here", "_law_name", "_law_kinds", "_law_heads"] (spM K 4 f__law_tongue) :=
  def_ok T.F__law_tongue sc__law_tongue fun cdv A outer s H E hr =>
    have hu := hu64 hr; have nd := sc__law_tongue.nd
    (show PSs _ _ (tMS K B__law_tongue) from (mss_cons (ms_set 4 (m_lst ma_nil) nd)
    (mss_cons (ms_for PassesOwn.never rfl (mi_enum rfl T.n_enumerate (m_var 3)) (mg_pat (.tp [(.nm 5), (.nm 6)]) (pp_tp rfl (pps1 (pp_nm (pg_name (i := 5) nd rfl (Or.inl rfl))) (pps1 (pp_nm (pg_name (i := 6) nd rfl (Or.inl rfl))) pps0)))) (mss_cons (ms_set 7 (m_tup (ma_cons (m_tup (ma_cons m_str ma_nil)) ma_nil)) nd)
    (mss_cons (ms_if (mt_cmp op_ge i_ge (m_var 5) (m_callB call_len i_len rfl T.n_len (by decide +kernel) (ma_cons (m_var 2) ma_nil)) (nomark _)) (mss_one (ms_set 7 (m_call (ok__law_items T) (hr.mono (by decide)) rfl T.g__law_items T.F__law_items.kp T.b__law_items (ma_cons (m_var 0) (ma_cons (m_var 2) ma_nil)) (.cons (.cons .nil))) nd)) mss_nil)
    (mss_one (ms_expr (m_ml i_append (pe_bm PySem.F.plainAttrs_list PySem.F.slot_list_append PySem.F.type_list_append mt_append (m_var 4) (ma_cons (m_tup (ma_cons (m_var 6) (ma_cons (m_var 7) (ma_cons (m_ixD (hu1 hu) ix_seq i_ix (m_var 2) (m_op op_mod i_mod (m_var 5) (m_callB call_len i_len rfl T.n_len (by decide +kernel) (ma_cons (m_var 2) ma_nil))) (fun _ _ => rfl)) (ma_cons (m_call (ok__law_meant T) (hr.mono (by decide)) rfl T.g__law_meant T.F__law_meant.kp T.b__law_meant (ma_cons (m_var 7) ma_nil) (.cons .nil)) ma_nil))))) ma_nil))))))))
    (mss_one (ms_ret (m_tup (ma_cons m_str (ma_cons (m_var 1) (ma_cons m_str (ma_cons (m_callTy call_tuple_of i_tuple rfl T.n_tuple (by decide +kernel) (ma_cons (m_lc (own := [("_law_kind", 8)]) (p := (.nm 8)) rfl nd (mi_seq (m_var 2)) (blkOk_by (N := ["_law_box_here", "_law_name", "_law_kinds", "_law_heads", "_law_forms", "_law_k", "_law_head", "_law_items_here", "_law_kind"]) (sc := defScope s__law_tongue) (by decide +kernel)) (fun _ _ _ _ _ => (pp_nm (pg_name (i := 8) nd rfl (Or.inl rfl)))) (fun _ _ _ _ _ => mts_nil) (fun _ _ _ _ _ => (m_tup (ma_cons (m_var 8) (ma_cons m_str ma_nil)))) (by decide)) ma_nil)) (ma_cons (m_tup (ma_cons m_str ma_nil)) (ma_cons (m_tup (ma_cons m_str (ma_cons m_str ma_nil))) (ma_cons (m_callTy call_tuple_of i_tuple rfl T.n_tuple (by decide +kernel) (ma_cons (m_var 4) ma_nil)) ma_nil)))))))))))))
theorem ok__law_world (T : Txt K mg) : FnOk P w K mg base CX0 4 T.a__law_world T.d__law_world ["_law_box_here"] (spM K 1 f__law_world) :=
  def_ok T.F__law_world sc__law_world fun cdv A outer s H E hr =>
    have hu := hu64 hr; have nd := sc__law_world.nd
    (show PSs _ _ (tMS K B__law_world) from (mss_cons (ms_asg (m_tup (ma_cons (m_call (ok__law_names T) (hr.mono (by decide)) rfl T.g__law_names T.F__law_names.kp T.b__law_names (ma_cons (m_var 0) (ma_cons m_int ma_nil)) (.cons (.cons .nil))) (ma_cons m_str ma_nil))) (mg_pat (.tp [(.nm 3), (.nm 4)]) (pp_tp rfl (pps1 (pp_nm (pg_name (i := 3) nd rfl (Or.inr rfl))) (pps1 (pp_nm (pg_name (i := 4) nd rfl (Or.inr rfl))) pps0)))))
    (mss_cons (ms_asg (m_tup (ma_cons (m_call (ok__law_take T) (hr.mono (by decide)) rfl T.g__law_take T.F__law_take.kp T.b__law_take (ma_cons (m_var 0) (ma_cons m_int ma_nil)) (.cons (.cons .nil))) (ma_cons (m_lst ma_nil) (ma_cons (m_disp (prs := [((mC (.str "ground")), (mCall f__law_ground_forms mNil))]) (mp_cons m_str (m_call0 (ok__law_ground_forms T) (hr.mono (by decide)) rfl T.g__law_ground_forms T.F__law_ground_forms.kp T.b__law_ground_forms rfl) mp_nil)) (ma_cons (m_disp (prs := [((mC (.str "ground")), (mLst mNil))]) (mp_cons m_str (m_lst ma_nil) mp_nil)) (ma_cons m_dnew ma_nil)))))) (mg_pat (.tp [(.nm 5), (.nm 6), (.nm 7), (.nm 8), (.nm 9)]) (pp_tp rfl (pps1 (pp_nm (pg_name (i := 5) nd rfl (Or.inr rfl))) (pps1 (pp_nm (pg_name (i := 6) nd rfl (Or.inl rfl))) (pps1 (pp_nm (pg_name (i := 7) nd rfl (Or.inl rfl))) (pps1 (pp_nm (pg_name (i := 8) nd rfl (Or.inl rfl))) (pps1 (pp_nm (pg_name (i := 9) nd rfl (Or.inl rfl))) pps0))))))))
    (mss_cons (ms_for PassesOwn.never rfl (mi_range1 rfl T.n_range m_int) (mg_pat (.nm 1) (pp_nm (pg_name (i := 1) nd rfl (Or.inr rfl)))) (mss_cons (ms_set 10 (m_slice sl_cut3 i_cut (m_var 3) (mo_some (m_op op_add4 i_add m_int (m_op op_mul3 i_mul m_int (m_var 1)))) (mo_some (m_op op_add4 i_add (m_op op_add4 i_add m_int (m_op op_mul3 i_mul m_int (m_var 1))) (m_call (ok__law_take T) (hr.mono (by decide)) rfl T.g__law_take T.F__law_take.kp T.b__law_take (ma_cons (m_var 0) (ma_cons m_int ma_nil)) (.cons (.cons .nil)))))) nd)
    (mss_cons (ms_setLc (own := [("_law_j", 13)]) (p := (.nm 13)) 11 rfl nd rfl rfl (sw_true rfl rfl rfl (by decide +kernel)) (mi_range1 rfl T.n_range (m_op op_add4 i_add m_int (m_call (ok__law_take T) (hr.mono (by decide)) rfl T.g__law_take T.F__law_take.kp T.b__law_take (ma_cons (m_var 0) (ma_cons m_int ma_nil)) (.cons (.cons .nil))))) (blkOk_by (N := ["_law_box_here", "_law_k", "_law_pool", "_law_names_here", "_law_letters", "_law_first", "_law_tower", "_law_forms", "_law_calls", "_law_known", "_law_kinds", "_law_heads", "_law_params", "_law_j", "_law_form", "_law_x", "_law_kind"]) (sc := defScope s__law_world) (by decide +kernel)) (fun _ _ _ _ _ => (pp_nm (pg_name (i := 13) nd rfl (Or.inl rfl)))) (fun _ _ _ _ _ => mts_nil) (fun _ _ _ _ _ => (m_op op_add4 i_add (m_ixD (hu1 hu) ix_seq i_ix (m_var 4) (m_op op_add4 i_add (m_var 5) (m_var 13)) (fun _ _ => rfl)) (m_op op_mul3 i_mul (m_ixD (hu1 hu) ix_seq i_ix (m_var 4) (m_op op_sub i_sub (m_op op_sub i_sub (m_var 5) m_int) (m_var 13)) (fun _ _ => rfl)) (m_var 1)))) (by decide))
    (mss_cons (ms_expr (m_ml i_append (pe_bm PySem.F.plainAttrs_list PySem.F.slot_list_append PySem.F.type_list_append mt_append (m_var 6) (ma_cons (m_call (ok__law_tongue T) (hr.mono (by decide)) rfl T.g__law_tongue T.F__law_tongue.kp T.b__law_tongue (ma_cons (m_var 0) (ma_cons (m_ixD (hu1 hu) ix_seq i_ix (m_var 3) (m_var 1) (fun _ _ => rfl)) (ma_cons (m_var 10) (ma_cons (m_var 11) ma_nil)))) (.cons (.cons (.cons (.cons .nil))))) ma_nil))))
    (mss_cons (ms_asg (m_lc (own := [("_law_form", 14)]) (p := (.nm 14)) rfl nd (mi_seq (m_ixD (hu1 hu) ix_seq i_ix (m_ixD (hu1 hu) ix_seq i_ix (m_var 6) (m_un un_neg i_neg m_int) (fun _ _ => rfl)) m_int (fun _ _ => rfl))) (blkOk_by (N := ["_law_box_here", "_law_k", "_law_pool", "_law_names_here", "_law_letters", "_law_first", "_law_tower", "_law_forms", "_law_calls", "_law_known", "_law_kinds", "_law_heads", "_law_params", "_law_j", "_law_form", "_law_x", "_law_kind"]) (sc := defScope s__law_world) (by decide +kernel)) (fun _ _ _ _ _ => (pp_nm (pg_name (i := 14) nd rfl (Or.inl rfl)))) (fun _ _ _ _ _ => mts_nil) (fun _ _ _ _ _ => (m_slice sl_cut3 i_cut (m_var 14) mo_none (mo_some m_int))) (by decide)) (mg_sub (m_var 7) (m_ixD (hu1 hu) ix_seq i_ix (m_var 3) (m_var 1) (fun _ _ => rfl)) (pset_or set_list (set_dict (hu1 hu))) i_setD))
    (mss_cons (ms_set 12 (m_callTy call_tuple_of i_tuple rfl T.n_tuple (by decide +kernel) (ma_cons (m_lc (own := [("_law_j", 13)]) (p := (.nm 13)) rfl nd (mi_range1 rfl T.n_range (m_op op_add4 i_add m_int (m_call (ok__law_take T) (hr.mono (by decide)) rfl T.g__law_take T.F__law_take.kp T.b__law_take (ma_cons (m_var 0) (ma_cons m_int ma_nil)) (.cons (.cons .nil))))) (blkOk_by (N := ["_law_box_here", "_law_k", "_law_pool", "_law_names_here", "_law_letters", "_law_first", "_law_tower", "_law_forms", "_law_calls", "_law_known", "_law_kinds", "_law_heads", "_law_params", "_law_j", "_law_form", "_law_x", "_law_kind"]) (sc := defScope s__law_world) (by decide +kernel)) (fun _ _ _ _ _ => (pp_nm (pg_name (i := 13) nd rfl (Or.inl rfl)))) (fun _ _ _ _ _ => mts_nil) (fun _ _ _ _ _ => (m_tup (ma_cons (m_ixD (hu1 hu) ix_seq i_ix (m_var 3) (m_op op_add4 i_add m_int (m_var 13)) (fun _ _ => rfl)) (ma_cons (m_ixD (hu1 hu) ix_seq i_ix (m_var 10) (m_op op_mod i_mod (m_var 13) (m_callB call_len i_len rfl T.n_len (by decide +kernel) (ma_cons (m_var 10) ma_nil))) (fun _ _ => rfl)) ma_nil)))) (by decide)) ma_nil)) nd)
    (mss_cons (ms_expr (m_ml i_append (pe_bm PySem.F.plainAttrs_list PySem.F.slot_list_append PySem.F.type_list_append mt_append (m_var 6) (ma_cons (m_tup (ma_cons m_str (ma_cons (m_ixD (hu1 hu) ix_seq i_ix (m_var 3) (m_op op_add4 i_add m_int (m_var 1)) (fun _ _ => rfl)) (ma_cons (m_ixD (hu1 hu) ix_seq i_ix (m_var 3) (m_var 1) (fun _ _ => rfl)) (ma_cons (m_tup (ma_cons (m_tup (ma_cons (m_ixD (hu1 hu) ix_seq i_ix (m_var 3) m_int (fun _ _ => rfl)) (ma_cons (m_var 12) (ma_cons (m_ixD (hu1 hu) ix_seq i_ix (m_ixD (hu1 hu) ix_seq i_ix (m_var 12) m_int (fun _ _ => rfl)) m_int (fun _ _ => rfl)) (ma_cons (m_tup (ma_cons m_str (ma_cons (m_ixD (hu1 hu) ix_seq i_ix (m_var 3) m_int (fun _ _ => rfl)) ma_nil))) ma_nil))))) ma_nil)) ma_nil))))) ma_nil))))
    (mss_cons (ms_asg (m_lst (ma_cons (m_tup (ma_cons (m_op op_add4 i_add (m_op op_add4 i_add (m_ixD (hu1 hu) ix_seq i_ix (m_var 3) (m_op op_add4 i_add m_int (m_var 1)) (fun _ _ => rfl)) m_str) (m_ixD (hu1 hu) ix_seq i_ix (m_var 3) m_int (fun _ _ => rfl))) (ma_cons (m_lc (own := [("_law_x", 15), ("_law_kind", 16)]) (p := (.tp [(.nm 15), (.nm 16)])) rfl nd (mi_seq (m_var 12)) (blkOk_by (N := ["_law_box_here", "_law_k", "_law_pool", "_law_names_here", "_law_letters", "_law_first", "_law_tower", "_law_forms", "_law_calls", "_law_known", "_law_kinds", "_law_heads", "_law_params", "_law_j", "_law_form", "_law_x", "_law_kind"]) (sc := defScope s__law_world) (by decide +kernel)) (fun _ _ _ _ _ => (pp_tp rfl (pps1 (pp_nm (pg_name (i := 15) nd rfl (Or.inl rfl))) (pps1 (pp_nm (pg_name (i := 16) nd rfl (Or.inl rfl))) pps0)))) (fun _ _ _ _ _ => mts_nil) (fun _ _ _ _ _ => (m_var 16)) (by decide)) (ma_cons (m_ixD (hu1 hu) ix_seq i_ix (m_ixD (hu1 hu) ix_seq i_ix (m_var 12) m_int (fun _ _ => rfl)) m_int (fun _ _ => rfl)) ma_nil)))) ma_nil)) (mg_sub (m_var 8) (m_ixD (hu1 hu) ix_seq i_ix (m_var 3) (m_var 1) (fun _ _ => rfl)) (pset_or set_list (set_dict (hu1 hu))) i_setD))
    (mss_one (ms_asg (m_lc (own := [("_law_j", 13)]) (p := (.nm 13)) rfl nd (mi_range1 rfl T.n_range m_int) (blkOk_by (N := ["_law_box_here", "_law_k", "_law_pool", "_law_names_here", "_law_letters", "_law_first", "_law_tower", "_law_forms", "_law_calls", "_law_known", "_law_kinds", "_law_heads", "_law_params", "_law_j", "_law_form", "_law_x", "_law_kind"]) (sc := defScope s__law_world) (by decide +kernel)) (fun _ _ _ _ _ => (pp_nm (pg_name (i := 13) nd rfl (Or.inl rfl)))) (fun _ _ _ _ _ => mts_nil) (fun _ _ _ _ _ => (m_tup (ma_cons (m_ixD (hu1 hu) ix_seq i_ix (m_var 3) (m_op op_add4 i_add m_int (m_var 13)) (fun _ _ => rfl)) (ma_cons (m_ixD (hu1 hu) ix_seq i_ix (m_var 10) (m_op op_mod i_mod (m_var 13) (m_callB call_len i_len rfl T.n_len (by decide +kernel) (ma_cons (m_var 10) ma_nil))) (fun _ _ => rfl)) ma_nil)))) (by decide)) (mg_sub (m_var 9) (m_ixD (hu1 hu) ix_seq i_ix (m_var 3) (m_var 1) (fun _ _ => rfl)) (pset_or set_list (set_dict (hu1 hu))) i_setD)))))))))))
    (mss_cons (ms_set 2 (m_slice sl_cut3 i_cut (m_var 3) (mo_some m_int) (mo_some m_int)) nd)
    (mss_one (ms_ret (m_disp (prs := [((mC (.str "tower")), (mCB gTuple (mCons (mVar 6) mNil))), ((mC (.str "forms")), (mVar 7)), ((mC (.str "calls")), (mVar 8)), ((mC (.str "known")), (mVar 9)), ((mC (.str "names")), (mVar 2)), ((mC (.str "own")), (mSl gCut (mVar 3) mNoPart (mPart (mC (.int 2)))))]) (mp_cons m_str (m_callTy call_tuple_of i_tuple rfl T.n_tuple (by decide +kernel) (ma_cons (m_var 6) ma_nil)) (mp_cons m_str (m_var 7) (mp_cons m_str (m_var 8) (mp_cons m_str (m_var 9) (mp_cons m_str (m_var 2) (mp_cons m_str (m_slice sl_cut3 i_cut (m_var 3) mo_none (mo_some m_int)) mp_nil))))))))))))))
theorem ok__law_use (T : Txt K mg) {k : Nat} {F : MF} (hk : 1 ≤ k) (G : FnOk P w K mg base CX0 k T.a__law_term T.d__law_term ["_law_box_here", "_law_world_here", "_law_own", "_law_known", "_law_kind", "_law_room"] (spM K 6 F)) : FnOk P w K mg base CX0 (k + 1) T.a__law_use T.d__law_use ["_law_box_here", "_law_world_here", "_law_own", "_law_known", "_law_row"] (spM K 5 (f__law_use F)) :=
  def_ok T.F__law_use sc__law_use fun cdv A outer s H E hr =>
    have hu := hu64 hr; have nd := sc__law_use.nd
    (show PSs _ _ (tMS K (B__law_use F)) from (mss_cons (ms_asg (m_var 4) (mg_pat (.tp [(.nm 8), (.nm 9), (.nm 7), (.nm 10), (.nm 11)]) (pp_tp rfl (pps1 (pp_nm (pg_name (i := 8) nd rfl (Or.inl rfl))) (pps1 (pp_nm (pg_name (i := 9) nd rfl (Or.inl rfl))) (pps1 (pp_nm (pg_name (i := 7) nd rfl (Or.inl rfl))) (pps1 (pp_nm (pg_name (i := 10) nd rfl (Or.inl rfl))) (pps1 (pp_nm (pg_name (i := 11) nd rfl (Or.inl rfl))) pps0))))))))
    (mss_cons (ms_asg (m_tup (ma_cons (m_lst ma_nil) (ma_cons (m_lst ma_nil) ma_nil))) (mg_pat (.tp [(.nm 12), (.nm 13)]) (pp_tp rfl (pps1 (pp_nm (pg_name (i := 12) nd rfl (Or.inl rfl))) (pps1 (pp_nm (pg_name (i := 13) nd rfl (Or.inr rfl))) pps0)))))
    (mss_cons (ms_set 5 (m_callB (call_max2 rfl) i_max rfl T.n_max (by decide +kernel) (ma_cons m_int (ma_cons (m_callB call_len i_len rfl T.n_len (by decide +kernel) (ma_cons (m_lc (own := [("_law_item", 6)]) (p := (.nm 6)) rfl nd (mi_seq (m_var 7)) (blkOk_by (N := ["_law_box_here", "_law_world_here", "_law_own", "_law_known", "_law_row", "_law_many", "_law_item", "_law_items_here", "_law_tongue_here", "_law_head", "_law_mixed", "_law_room", "_law_things", "_law_made", "_law_left", "_law_more", "_law_its", "_law_rest", "_law_x", "_law_one", "_law_kind", "_law_j"]) (sc := defScope s__law_use) (by decide +kernel)) (fun _ _ _ _ _ => (pp_nm (pg_name (i := 6) nd rfl (Or.inl rfl)))) (fun _ _ _ _ _ => (mts_one (mt_cmp (op_eq2 hu) i_eq (m_ixD (hu1 hu) ix_seq i_ix (m_var 6) m_int (fun _ _ => rfl)) m_str (nomark _)))) (fun _ _ _ _ _ => (m_var 6)) (by decide)) ma_nil)) ma_nil))) nd)
    (mss_cons (ms_for PassesOwn.never rfl (mi_seq (m_var 7)) (mg_pat (.nm 6) (pp_nm (pg_name (i := 6) nd rfl (Or.inl rfl)))) (mss_cons (ms_if (mt_cmp (op_eq2 hu) i_eq (m_ixD (hu1 hu) ix_seq i_ix (m_var 6) m_int (fun _ _ => rfl)) m_str (nomark _)) (mss_one (ms_expr (m_ml i_append (pe_bm PySem.F.plainAttrs_list PySem.F.slot_list_append PySem.F.type_list_append mt_append (m_var 12) (ma_cons (m_call (ok__law_take T) (hr.mono (Nat.le_trans (show _ ≤ 1 by decide) (Nat.le_trans hk (by omega)))) rfl T.g__law_take T.F__law_take.kp T.b__law_take (ma_cons (m_var 0) (ma_cons m_int ma_nil)) (.cons (.cons .nil))) ma_nil))))) mss_nil)
    (mss_cons (ms_if (mt_cmp (op_eq2 hu) i_eq (m_ixD (hu1 hu) ix_seq i_ix (m_var 6) m_int (fun _ _ => rfl)) m_str (nomark _)) (mss_cons (ms_setLc (own := [("_law_x", 18)]) (p := (.nm 18)) 14 rfl nd rfl rfl (sw_true rfl rfl rfl (by decide +kernel)) (mi_seq (m_ixD (hu1 hu) ix_seq i_ix (m_var 1) m_str (fun _ _ => rfl))) (blkOk_by (N := ["_law_box_here", "_law_world_here", "_law_own", "_law_known", "_law_row", "_law_many", "_law_item", "_law_items_here", "_law_tongue_here", "_law_head", "_law_mixed", "_law_room", "_law_things", "_law_made", "_law_left", "_law_more", "_law_its", "_law_rest", "_law_x", "_law_one", "_law_kind", "_law_j"]) (sc := defScope s__law_use) (by decide +kernel)) (fun _ _ _ _ _ => (pp_nm (pg_name (i := 18) nd rfl (Or.inl rfl)))) (fun _ _ _ _ _ => (mts_one (mt_notinD (hu1 hu) op_notin2 i_notin (m_var 18) (m_lc (own := [("_law_one", 19), ("_law_kind", 20)]) (p := (.tp [(.nm 19), (.nm 20)])) rfl nd (mi_seq (m_var 13)) (blkOk_by (by kernel_rfl)) (fun _ _ _ _ _ => (pp_tp rfl (pps1 (pp_nm (pg_name (i := 19) nd rfl (Or.inl rfl))) (pps1 (pp_nm (pg_name (i := 20) nd rfl (Or.inl rfl))) pps0)))) (fun _ _ _ _ _ => mts_nil) (fun _ _ _ _ _ => (m_var 19)) (by decide)) (by rfl)))) (fun _ _ _ _ _ => (m_var 18)) (by decide))
    (mss_cons (ms_expr (m_ml i_append (pe_bm PySem.F.plainAttrs_list PySem.F.slot_list_append PySem.F.type_list_append mt_append (m_var 13) (ma_cons (m_tup (ma_cons (m_ixD (hu1 hu) ix_seq i_ix (m_var 14) (m_call (ok__law_take T) (hr.mono (Nat.le_trans (show _ ≤ 1 by decide) (Nat.le_trans hk (by omega)))) rfl T.g__law_take T.F__law_take.kp T.b__law_take (ma_cons (m_var 0) (ma_cons (m_callB call_len i_len rfl T.n_len (by decide +kernel) (ma_cons (m_var 14) ma_nil)) ma_nil)) (.cons (.cons .nil))) (fun _ _ => rfl)) (ma_cons (m_ixD (hu1 hu) ix_seq i_ix (m_var 6) m_int (fun _ _ => rfl)) ma_nil))) ma_nil))))
    (mss_one (ms_expr (m_ml i_append (pe_bm PySem.F.plainAttrs_list PySem.F.slot_list_append PySem.F.type_list_append mt_append (m_var 12) (ma_cons (m_ixD (hu1 hu) ix_seq i_ix (m_ixD (hu1 hu) ix_seq i_ix (m_var 13) (m_un un_neg i_neg m_int) (fun _ _ => rfl)) m_int (fun _ _ => rfl)) ma_nil))))))) mss_nil)
    (mss_one (ms_if (mt_cmp (op_eq2 hu) i_eq (m_ixD (hu1 hu) ix_seq i_ix (m_var 6) m_int (fun _ _ => rfl)) m_str (nomark _)) (mss_cons (ms_set 15 (m_op op_add4 i_add (m_var 3) (m_lc (own := [("_law_j", 21)]) (p := (.nm 21)) rfl nd (mi_seq (m_ixD (hu1 hu) ix_seq i_ix (m_var 6) m_int (fun _ _ => rfl))) (blkOk_by (N := ["_law_box_here", "_law_world_here", "_law_own", "_law_known", "_law_row", "_law_many", "_law_item", "_law_items_here", "_law_tongue_here", "_law_head", "_law_mixed", "_law_room", "_law_things", "_law_made", "_law_left", "_law_more", "_law_its", "_law_rest", "_law_x", "_law_one", "_law_kind", "_law_j"]) (sc := defScope s__law_use) (by decide +kernel)) (fun _ _ _ _ _ => (pp_nm (pg_name (i := 21) nd rfl (Or.inl rfl)))) (fun _ _ _ _ _ => mts_nil) (fun _ _ _ _ _ => (m_ixD (hu1 hu) ix_seq i_ix (m_var 13) (m_var 21) (fun _ _ => rfl))) (by decide))) nd)
    (mss_cons (ms_set 16 (m_ixD (hu1 hu) ix_seq i_ix (m_lst (ma_cons (m_ixD (hu1 hu) ix_seq i_ix (m_var 6) m_int (fun _ _ => rfl)) (ma_cons m_non ma_nil))) (m_callTy call_int3 i_int3 rfl T.n_int (by decide +kernel) (ma_cons (m_var 10) ma_nil)) (fun _ _ => rfl)) nd)
    (mss_cons (ms_set 17 (m_callB (call_min2 rfl) i_min rfl T.n_min (by decide +kernel) (ma_cons (m_op op_fdiv i_fdiv (m_op op_sub i_sub (m_var 11) m_int) (m_var 5)) (ma_cons (m_op op_fdiv i_fdiv (m_op op_mul3 i_mul (m_var 11) m_int) m_int) ma_nil))) nd)
    (mss_one (ms_expr (m_ml i_append (pe_bm PySem.F.plainAttrs_list PySem.F.slot_list_append PySem.F.type_list_append mt_append (m_var 12) (ma_cons (m_call G (hr.mono (by omega)) rfl T.g__law_term T.F__law_term.kp T.b__law_term (ma_cons (m_var 0) (ma_cons (m_var 1) (ma_cons (m_var 2) (ma_cons (m_var 15) (ma_cons (m_var 16) (ma_cons (m_var 17) ma_nil)))))) (.cons (.cons (.cons (.cons (.cons (.cons .nil))))))) ma_nil)))))))) mss_nil)))))
    (mss_one (ms_ret (m_tup (ma_cons m_str (ma_cons (m_var 8) (ma_cons (m_var 9) (ma_cons (m_callTy call_tuple_of i_tuple rfl T.n_tuple (by decide +kernel) (ma_cons (m_var 12) ma_nil)) ma_nil))))))))))))
def L__law_term : Nat → Nat
  | 0 => 1
  | d + 1 => L__law_term d + 2
theorem L__law_term_ge : ∀ d, 1 ≤ L__law_term d
  | 0 => Nat.le_refl _
  | d + 1 => Nat.le_trans (L__law_term_ge d) (Nat.le_add_right _ _)
theorem up__law_term (T : Txt K mg) {k : Nat} {F : MF} (hk : 1 ≤ k) (G : FnOk P w K mg base CX0 k T.a__law_term T.d__law_term ["_law_box_here", "_law_world_here", "_law_own", "_law_known", "_law_kind", "_law_room"] (spM K 6 F)) : FnOk P w K mg base CX0 (k + 2) T.a__law_term T.d__law_term ["_law_box_here", "_law_world_here", "_law_own", "_law_known", "_law_kind", "_law_room"] (spM K 6 (mDef 20 (B__law_term F))) :=
  def_ok T.F__law_term sc__law_term fun cdv A outer s H E hr =>
    have hu := hu64 hr; have nd := sc__law_term.nd
    (show PSs _ _ (tMS K (B__law_term F)) from (mss_cons (ms_set 6 (m_callTy (call_dict2 rfl) i_dict rfl T.n_dict (by decide +kernel) (ma_cons (m_var 3) ma_nil)) nd)
    (mss_cons (ms_lock 6 (ms_setLc (own := [("_law_x", 15)]) (p := (.nm 15)) 7 rfl nd rfl rfl (sw_true rfl rfl rfl (by decide +kernel)) (mi_any (m_var 6)) (blkOk_by (N := ["_law_box_here", "_law_world_here", "_law_own", "_law_known", "_law_kind", "_law_room", "_law_seen_now", "_law_some", "_law_tongue_here", "_law_wide", "_law_head", "_law_items_here", "_law_its", "_law_rest", "_law_kinds", "_law_x", "_law_form", "_law_item", "_law_one", "_law_own_kind"]) (sc := defScope s__law_term) (by decide +kernel)) (fun _ _ _ _ _ => (pp_nm (pg_name (i := 15) nd rfl (Or.inl rfl)))) (fun _ _ _ _ _ => (mts_one (mt_inD (hu1 hu) op_in2 i_in (m_var 4) (m_tup (ma_cons m_non (ma_cons (m_ixD (hu1 hu) ix_seq i_ix (m_var 6) (m_var 15) (fun _ _ => rfl)) ma_nil))) (by rfl)))) (fun _ _ _ _ _ => (m_var 15)) (by decide)))
    (mss_cons (ms_if (PW.pt (mw_and (mt_cmp (op_ne2 hu) i_ne (m_var 7) (m_lst ma_nil) (nomark _)) (mw_and1 (PW.pt (mw_or (mt_cmp op_lt i_lt (m_var 5) m_int (nomark _)) (mw_or1 (mt_cmp (op_eq2 hu) i_eq (m_call (ok__law_take T) (hr.mono (Nat.le_trans (show _ ≤ 1 by decide) (Nat.le_trans hk (by omega)))) rfl T.g__law_take T.F__law_take.kp T.b__law_take (ma_cons (m_var 0) (ma_cons m_int ma_nil)) (.cons (.cons .nil))) m_int (nomark _)))))))) (mss_one (ms_ret (m_tup (ma_cons m_str (ma_cons (m_ixD (hu1 hu) ix_seq i_ix (m_var 7) (m_call (ok__law_take T) (hr.mono (Nat.le_trans (show _ ≤ 1 by decide) (Nat.le_trans hk (by omega)))) rfl T.g__law_take T.F__law_take.kp T.b__law_take (ma_cons (m_var 0) (ma_cons (m_callB call_len i_len rfl T.n_len (by decide +kernel) (ma_cons (m_var 7) ma_nil)) ma_nil)) (.cons (.cons .nil))) (fun _ _ => rfl)) ma_nil))))) mss_nil)
    (mss_cons (ms_set 8 (m_ixD (hu1 hu) ix_seq i_ix (m_var 2) (m_call (ok__law_take T) (hr.mono (Nat.le_trans (show _ ≤ 1 by decide) (Nat.le_trans hk (by omega)))) rfl T.g__law_take T.F__law_take.kp T.b__law_take (ma_cons (m_var 0) (ma_cons (m_callB call_len i_len rfl T.n_len (by decide +kernel) (ma_cons (m_var 2) ma_nil)) ma_nil)) (.cons (.cons .nil))) (fun _ _ => rfl)) nd)
    (mss_cons (ms_setLc (own := [("_law_form", 16)]) (p := (.nm 16)) 7 rfl nd rfl rfl (sw_true rfl rfl rfl (by decide +kernel)) (mi_seq (m_ixD (hu1 hu) ix_seq i_ix (m_ixD (hu1 hu) ix_seq i_ix (m_var 1) m_str (fun _ _ => rfl)) (m_var 8) (fun _ _ => rfl))) (blkOk_by (N := ["_law_box_here", "_law_world_here", "_law_own", "_law_known", "_law_kind", "_law_room", "_law_seen_now", "_law_some", "_law_tongue_here", "_law_wide", "_law_head", "_law_items_here", "_law_its", "_law_rest", "_law_kinds", "_law_x", "_law_form", "_law_item", "_law_one", "_law_own_kind"]) (sc := defScope s__law_term) (by decide +kernel)) (fun _ _ _ _ _ => (pp_nm (pg_name (i := 16) nd rfl (Or.inl rfl)))) (fun _ _ _ _ _ => (mts_one (mt_inD (hu1 hu) op_in2 i_in (m_var 4) (m_tup (ma_cons m_non (ma_cons (m_ixD (hu1 hu) ix_seq i_ix (m_var 16) m_int (fun _ _ => rfl)) ma_nil))) (by rfl)))) (fun _ _ _ _ _ => (m_var 16)) (by decide))
    (mss_cons (ms_if (mt_cmp op_lt i_lt (m_var 5) m_int (nomark _)) (mss_one (ms_setLc (own := [("_law_form", 16)]) (p := (.nm 16)) 7 rfl nd rfl rfl (sw_true rfl rfl rfl (by decide +kernel)) (mi_seq (m_var 7)) (blkOk_by (N := ["_law_box_here", "_law_world_here", "_law_own", "_law_known", "_law_kind", "_law_room", "_law_seen_now", "_law_some", "_law_tongue_here", "_law_wide", "_law_head", "_law_items_here", "_law_its", "_law_rest", "_law_kinds", "_law_x", "_law_form", "_law_item", "_law_one", "_law_own_kind"]) (sc := defScope s__law_term) (by decide +kernel)) (fun _ _ _ _ _ => (pp_nm (pg_name (i := 16) nd rfl (Or.inl rfl)))) (fun _ _ _ _ _ => (mts_one (mt_cmp (op_eq2 hu) i_eq (m_lc (own := [("_law_item", 17)]) (p := (.nm 17)) rfl nd (mi_seq (m_ixD (hu1 hu) ix_seq i_ix (m_var 16) m_int (fun _ _ => rfl))) (blkOk_by (by kernel_rfl)) (fun _ _ _ _ _ => (pp_nm (pg_name (i := 17) nd rfl (Or.inl rfl)))) (fun _ _ _ _ _ => (mts_one (mt_cmp (op_eq2 hu) i_eq (m_ixD (hu1 hu) ix_seq i_ix (m_var 17) m_int (fun _ _ => rfl)) m_str (nomark _)))) (fun _ _ _ _ _ => (m_var 17)) (by decide)) (m_lst ma_nil) (nomark _)))) (fun _ _ _ _ _ => (m_var 16)) (by decide))) (mss_cons (ms_set 7 (m_op op_add4 i_add (m_var 7) (m_lc (own := [("_law_one", 18)]) (p := (.nm 18)) rfl nd (mi_seq (m_ixD (hu1 hu) ix_seq i_ix (m_ixD (hu1 hu) ix_seq i_ix (m_var 1) m_str (fun _ _ => rfl)) (m_var 8) (fun _ _ => rfl))) (blkOk_by (N := ["_law_box_here", "_law_world_here", "_law_own", "_law_known", "_law_kind", "_law_room", "_law_seen_now", "_law_some", "_law_tongue_here", "_law_wide", "_law_head", "_law_items_here", "_law_its", "_law_rest", "_law_kinds", "_law_x", "_law_form", "_law_item", "_law_one", "_law_own_kind"]) (sc := defScope s__law_term) (by decide +kernel)) (fun _ _ _ _ _ => (pp_nm (pg_name (i := 18) nd rfl (Or.inl rfl)))) (fun _ _ _ _ _ => (mts_one (mt_inD (hu1 hu) op_in2 i_in (m_var 4) (m_tup (ma_cons m_non (ma_cons (m_ixD (hu1 hu) ix_seq i_ix (m_var 18) m_int (fun _ _ => rfl)) ma_nil))) (by rfl)))) (fun _ _ _ _ _ => (m_var 18)) (by decide))) nd)
    (mss_cons (ms_setLc (own := [("_law_one", 18)]) (p := (.nm 18)) 9 rfl nd rfl rfl (sw_true rfl rfl rfl (by decide +kernel)) (mi_seq (m_var 7)) (blkOk_by (N := ["_law_box_here", "_law_world_here", "_law_own", "_law_known", "_law_kind", "_law_room", "_law_seen_now", "_law_some", "_law_tongue_here", "_law_wide", "_law_head", "_law_items_here", "_law_its", "_law_rest", "_law_kinds", "_law_x", "_law_form", "_law_item", "_law_one", "_law_own_kind"]) (sc := defScope s__law_term) (by decide +kernel)) (fun _ _ _ _ _ => (pp_nm (pg_name (i := 18) nd rfl (Or.inl rfl)))) (fun _ _ _ _ _ => (mts_one (PW.pt (mw_or (mt_inD (hu1 hu) op_in2 i_in m_str (m_ixD (hu1 hu) ix_seq i_ix (m_var 18) m_int (fun _ _ => rfl)) (by rfl)) (mw_or1 (mt_cmp (op_ne2 hu) i_ne (m_lc (own := [("_law_item", 17)]) (p := (.nm 17)) rfl nd (mi_seq (m_ixD (hu1 hu) ix_seq i_ix (m_var 18) m_int (fun _ _ => rfl))) (blkOk_by (by kernel_rfl)) (fun _ _ _ _ _ => (pp_nm (pg_name (i := 17) nd rfl (Or.inl rfl)))) (fun _ _ _ _ _ => (mts_one (mt_cmp (op_eq2 hu) i_eq (m_ixD (hu1 hu) ix_seq i_ix (m_var 17) m_int (fun _ _ => rfl)) m_str (nomark _)))) (fun _ _ _ _ _ => (m_var 17)) (by decide)) (m_lst ma_nil) (nomark _))))))) (fun _ _ _ _ _ => (m_var 18)) (by decide))
    (mss_one (ms_set 7 (m_ixD (hu1 hu) ix_seq i_ix (m_lst (ma_cons (m_var 7) (ma_cons (m_var 9) ma_nil))) (m_callTy call_int3 i_int3 rfl T.n_int (by decide +kernel) (ma_cons (m_and (m_cmp (op_ne2 hu) i_ne (m_var 9) (m_lst ma_nil) (nomark _)) (m_one (m_cmp op_gt i_gt (m_call (ok__law_take T) (hr.mono (Nat.le_trans (show _ ≤ 1 by decide) (Nat.le_trans hk (by omega)))) rfl T.g__law_take T.F__law_take.kp T.b__law_take (ma_cons (m_var 0) (ma_cons m_int ma_nil)) (.cons (.cons .nil))) m_int (nomark _)))) ma_nil)) (fun _ _ => rfl)) nd)))))
    (mss_cons (ms_asg (m_ixD (hu1 hu) ix_seq i_ix (m_var 7) (m_call (ok__law_take T) (hr.mono (Nat.le_trans (show _ ≤ 1 by decide) (Nat.le_trans hk (by omega)))) rfl T.g__law_take T.F__law_take.kp T.b__law_take (ma_cons (m_var 0) (ma_cons (m_callB call_len i_len rfl T.n_len (by decide +kernel) (ma_cons (m_var 7) ma_nil)) ma_nil)) (.cons (.cons .nil))) (fun _ _ => rfl)) (mg_pat (.tp [(.nm 10), (.nm 11), (.nm 12)]) (pp_tp rfl (pps1 (pp_nm (pg_name (i := 10) nd rfl (Or.inl rfl))) (pps1 (pp_nm (pg_name (i := 11) nd rfl (Or.inl rfl))) (pps1 (pp_nm (pg_name (i := 12) nd rfl (Or.inl rfl))) pps0))))))
    (mss_cons (ms_if (mt_inD (hu1 hu) op_in2 i_in m_str (m_var 10) (by rfl)) (mss_cons (ms_set 13 (m_callB (call_min2 rfl) i_min rfl T.n_min (by decide +kernel) (ma_cons (m_op op_fdiv i_fdiv (m_op op_sub i_sub (m_var 5) m_int) (m_callB call_len i_len rfl T.n_len (by decide +kernel) (ma_cons (m_var 11) ma_nil))) (ma_cons (m_op op_fdiv i_fdiv (m_op op_mul3 i_mul (m_var 5) m_int) m_int) ma_nil))) nd)
    (mss_cons (ms_setLc (own := [("_law_own_kind", 19)]) (p := (.nm 19)) 14 rfl nd rfl rfl (sw_true rfl rfl rfl (by decide +kernel)) (mi_seq (m_var 11)) (blkOk_by (N := ["_law_box_here", "_law_world_here", "_law_own", "_law_known", "_law_kind", "_law_room", "_law_seen_now", "_law_some", "_law_tongue_here", "_law_wide", "_law_head", "_law_items_here", "_law_its", "_law_rest", "_law_kinds", "_law_x", "_law_form", "_law_item", "_law_one", "_law_own_kind"]) (sc := defScope s__law_term) (by decide +kernel)) (fun _ _ _ _ _ => (pp_nm (pg_name (i := 19) nd rfl (Or.inl rfl)))) (fun _ _ _ _ _ => mts_nil) (fun _ _ _ _ _ => (m_ixD (hu1 hu) ix_seq i_ix (m_lst (ma_cons (m_var 19) (ma_cons m_non ma_nil))) (m_callTy call_int3 i_int3 rfl T.n_int (by decide +kernel) (ma_cons (m_cmp op_is2 i_is (m_var 4) m_non (nomark _)) ma_nil)) (fun _ _ => rfl))) (by decide))
    (mss_one (ms_ret (m_tup (ma_cons m_str (ma_cons (m_var 10) (ma_cons (m_callTy call_tuple_of i_tuple rfl T.n_tuple (by decide +kernel) (ma_cons (m_lc (own := [("_law_one", 18)]) (p := (.nm 18)) rfl nd (mi_seq (m_var 14)) (blkOk_by (N := ["_law_box_here", "_law_world_here", "_law_own", "_law_known", "_law_kind", "_law_room", "_law_seen_now", "_law_some", "_law_tongue_here", "_law_wide", "_law_head", "_law_items_here", "_law_its", "_law_rest", "_law_kinds", "_law_x", "_law_form", "_law_item", "_law_one", "_law_own_kind"]) (sc := defScope s__law_term) (by decide +kernel)) (fun _ _ _ _ _ => (pp_nm (pg_name (i := 18) nd rfl (Or.inl rfl)))) (fun _ _ _ _ _ => mts_nil) (fun _ _ _ _ _ => (m_call G (hr.mono (by omega)) rfl T.g__law_term T.F__law_term.kp T.b__law_term (ma_cons (m_var 0) (ma_cons (m_var 1) (ma_cons (m_var 2) (ma_cons (m_var 3) (ma_cons (m_var 18) (ma_cons (m_var 13) ma_nil)))))) (.cons (.cons (.cons (.cons (.cons (.cons .nil)))))))) (by decide)) ma_nil)) ma_nil)))))))) mss_nil)
    (mss_one (ms_ret (m_call (ok__law_use T hk G) (hr.mono (by omega)) rfl T.g__law_use T.F__law_use.kp T.b__law_use (ma_cons (m_var 0) (ma_cons (m_var 1) (ma_cons (m_var 2) (ma_cons (m_var 3) (ma_cons (m_tup (ma_cons (m_var 8) (ma_cons (m_var 10) (ma_cons (m_var 11) (ma_cons (m_cmp op_is2 i_is (m_var 4) m_non (nomark _)) (ma_cons (m_var 5) ma_nil)))))) ma_nil))))) (.cons (.cons (.cons (.cons (.cons .nil)))))))))))))))))
theorem ok__law_term (T : Txt K mg) : ∀ d, FnOk P w K mg base CX0 (L__law_term d) T.a__law_term T.d__law_term ["_law_box_here", "_law_world_here", "_law_own", "_law_known", "_law_kind", "_law_room"] (spM K 6 (f__law_term d))
  | 0 => def_zero
  | d + 1 => up__law_term T (L__law_term_ge d) (ok__law_term T d)
theorem ok__law_drawn (T : Txt K mg) : FnOk P w K mg base CX0 26 T.a__law_drawn T.d__law_drawn ["_law_box_here", "_law_world_here"] (spM K 2 f__law_drawn) :=
  def_ok T.F__law_drawn sc__law_drawn fun cdv A outer s H E hr =>
    have hu := hu64 hr; have nd := sc__law_drawn.nd
    (show PSs _ _ (tMS K B__law_drawn) from (mss_cons (ms_if (mt_cmp (op_eq2 hu) i_eq (m_call (ok__law_take T) (hr.mono (by decide)) rfl T.g__law_take T.F__law_take.kp T.b__law_take (ma_cons (m_var 0) (ma_cons m_int ma_nil)) (.cons (.cons .nil))) m_int (nomark _)) (mss_cons (ms_set 4 (m_op op_add4 i_add (m_ixD (hu1 hu) ix_seq i_ix (m_var 1) m_str (fun _ _ => rfl)) (m_lst (ma_cons m_str ma_nil))) nd)
    (mss_one (ms_ret (m_call (ok__law_term T 12) (hr.mono (by decide)) rfl T.g__law_term T.F__law_term.kp T.b__law_term (ma_cons (m_var 0) (ma_cons (m_var 1) (ma_cons (m_var 4) (ma_cons (m_ixD (hu1 hu) ix_seq i_ix (m_ixD (hu1 hu) ix_seq i_ix (m_var 1) m_str (fun _ _ => rfl)) (m_ixD (hu1 hu) ix_seq i_ix (m_var 4) m_int (fun _ _ => rfl)) (fun _ _ => rfl)) (ma_cons m_non (ma_cons (m_op op_add4 i_add m_int (m_call (ok__law_take T) (hr.mono (by decide)) rfl T.g__law_take T.F__law_take.kp T.b__law_take (ma_cons (m_var 0) (ma_cons m_int ma_nil)) (.cons (.cons .nil)))) ma_nil)))))) (.cons (.cons (.cons (.cons (.cons (.cons .nil)))))))))) mss_nil)
    (mss_cons (ms_set 2 (m_ixD (hu1 hu) ix_seq i_ix (m_ixD (hu1 hu) ix_seq i_ix (m_var 1) m_str (fun _ _ => rfl)) (m_call (ok__law_take T) (hr.mono (by decide)) rfl T.g__law_take T.F__law_take.kp T.b__law_take (ma_cons (m_var 0) (ma_cons m_int ma_nil)) (.cons (.cons .nil))) (fun _ _ => rfl)) nd)
    (mss_cons (ms_setLc (own := [("_law_x", 5), ("_law_kind", 6)]) (p := (.tp [(.nm 5), (.nm 6)])) 3 rfl nd rfl rfl (sw_true rfl rfl rfl (by decide +kernel)) (mi_seq (m_ixD (hu1 hu) ix_seq i_ix (m_ixD (hu1 hu) ix_seq i_ix (m_var 1) m_str (fun _ _ => rfl)) (m_var 2) (fun _ _ => rfl))) (blkOk_by (N := ["_law_box_here", "_law_world_here", "_law_name", "_law_kinds", "_law_own", "_law_x", "_law_kind"]) (sc := defScope s__law_drawn) (by decide +kernel)) (fun _ _ _ _ _ => (pp_tp rfl (pps1 (pp_nm (pg_name (i := 5) nd rfl (Or.inl rfl))) (pps1 (pp_nm (pg_name (i := 6) nd rfl (Or.inl rfl))) pps0)))) (fun _ _ _ _ _ => mts_nil) (fun _ _ _ _ _ => (m_var 6)) (by decide))
    (mss_one (ms_ret (m_call (ok__law_term T 12) (hr.mono (by decide)) rfl T.g__law_term T.F__law_term.kp T.b__law_term (ma_cons (m_var 0) (ma_cons (m_var 1) (ma_cons (m_lst (ma_cons (m_var 2) ma_nil)) (ma_cons (m_ixD (hu1 hu) ix_seq i_ix (m_ixD (hu1 hu) ix_seq i_ix (m_var 1) m_str (fun _ _ => rfl)) (m_var 2) (fun _ _ => rfl)) (ma_cons (m_ixD (hu1 hu) ix_seq i_ix (m_var 3) (m_call (ok__law_take T) (hr.mono (by decide)) rfl T.g__law_take T.F__law_take.kp T.b__law_take (ma_cons (m_var 0) (ma_cons m_int ma_nil)) (.cons (.cons .nil))) (fun _ _ => rfl)) (ma_cons (m_op op_add4 i_add m_int (m_call (ok__law_take T) (hr.mono (by decide)) rfl T.g__law_take T.F__law_take.kp T.b__law_take (ma_cons (m_var 0) (ma_cons m_int ma_nil)) (.cons (.cons .nil)))) ma_nil)))))) (.cons (.cons (.cons (.cons (.cons (.cons .nil)))))))))))))
theorem ok__law_within (T : Txt K mg) : FnOk P w K mg base CX0 1 T.a__law_within T.d__law_within ["_law_term_here"] (spM K 1 f__law_within) :=
  def_ok T.F__law_within sc__law_within fun cdv A outer s H E hr =>
    have hu := hu64 hr; have nd := sc__law_within.nd
    (show PSs _ _ (tMS K B__law_within) from (mss_cons (ms_if (mt_cmp (op_eq2 hu) i_eq (m_ixD (hu1 hu) ix_seq i_ix (m_var 0) m_int (fun _ _ => rfl)) m_str (nomark _)) (mss_one (ms_ret (m_callTy (call_list3 rfl) i_list rfl T.n_list (by decide +kernel) (ma_cons (m_ixD (hu1 hu) ix_seq i_ix (m_var 0) m_int (fun _ _ => rfl)) ma_nil)))) mss_nil)
    (mss_cons (ms_if (mt_cmp (op_eq2 hu) i_eq (m_ixD (hu1 hu) ix_seq i_ix (m_var 0) m_int (fun _ _ => rfl)) m_str (nomark _)) (mss_one (ms_ret (m_lc (own := [("_law_thing", 1)]) (p := (.nm 1)) rfl nd (mi_seq (m_ixD (hu1 hu) ix_seq i_ix (m_var 0) m_int (fun _ _ => rfl))) (blkOk_by (N := ["_law_term_here", "_law_thing"]) (sc := defScope s__law_within) (by decide +kernel)) (fun _ _ _ _ _ => (pp_nm (pg_name (i := 1) nd rfl (Or.inl rfl)))) (fun _ _ _ _ _ => (mts_one (mt_tr (m_isi (t := "tuple") rfl T.n_isinstance (m_var 1) (pe_bltn (v := .ty "tuple") rfl T.n_tuple (by decide +kernel) rfl))))) (fun _ _ _ _ _ => (m_var 1)) (by decide)))) mss_nil)
    (mss_one (ms_ret (m_lst ma_nil))))))
def L__law_all : Nat → Nat
  | 0 => 1
  | d + 1 => L__law_all d + 1
theorem L__law_all_ge : ∀ d, 1 ≤ L__law_all d
  | 0 => Nat.le_refl _
  | d + 1 => Nat.le_trans (L__law_all_ge d) (Nat.le_add_right _ _)
theorem up__law_all (T : Txt K mg) {k : Nat} {F : MF} (hk : 1 ≤ k) (G : FnOk P w K mg base CX0 k T.a__law_all T.d__law_all ["_law_term_here"] (spM K 1 F)) : FnOk P w K mg base CX0 (k + 1) T.a__law_all T.d__law_all ["_law_term_here"] (spM K 1 (mDef 3 (B__law_all F))) :=
  def_ok T.F__law_all sc__law_all fun cdv A outer s H E hr =>
    have hu := hu64 hr; have nd := sc__law_all.nd
    (show PSs _ _ (tMS K (B__law_all F)) from (mss_cons (ms_set 1 (m_lst (ma_cons (m_var 0) ma_nil)) nd)
    (mss_cons (ms_for PassesOwn.never rfl (mi_seq (m_call (ok__law_within T) (hr.mono (Nat.le_trans (show _ ≤ 1 by decide) (Nat.le_trans hk (by omega)))) rfl T.g__law_within T.F__law_within.kp T.b__law_within (ma_cons (m_var 0) ma_nil) (.cons .nil))) (mg_pat (.nm 2) (pp_nm (pg_name (i := 2) nd rfl (Or.inl rfl)))) (mss_one (ms_expr (m_ml i_extend (pe_bm PySem.F.plainAttrs_list PySem.F.slot_list_extend PySem.F.type_list_extend mt_extend (m_var 1) (ma_cons (m_call G (hr.mono (by omega)) rfl T.g__law_all T.F__law_all.kp T.b__law_all (ma_cons (m_var 2) ma_nil) (.cons .nil)) ma_nil))))))
    (mss_one (ms_ret (m_var 1))))))
theorem ok__law_all (T : Txt K mg) : ∀ d, FnOk P w K mg base CX0 (L__law_all d) T.a__law_all T.d__law_all ["_law_term_here"] (spM K 1 (f__law_all d))
  | 0 => def_zero
  | d + 1 => up__law_all T (L__law_all_ge d) (ok__law_all T d)
def L__law_far : Nat → Nat
  | 0 => 1
  | d + 1 => L__law_far d + 1
theorem L__law_far_ge : ∀ d, 1 ≤ L__law_far d
  | 0 => Nat.le_refl _
  | d + 1 => Nat.le_trans (L__law_far_ge d) (Nat.le_add_right _ _)
theorem up__law_far (T : Txt K mg) {k : Nat} {F : MF} (hk : 1 ≤ k) (G : FnOk P w K mg base CX0 k T.a__law_far T.d__law_far ["_law_term_here"] (spM K 1 F)) : FnOk P w K mg base CX0 (k + 1) T.a__law_far T.d__law_far ["_law_term_here"] (spM K 1 (mDef 2 (B__law_far F))) :=
  def_ok T.F__law_far sc__law_far fun cdv A outer s H E hr =>
    have hu := hu64 hr; have nd := sc__law_far.nd
    (show PSs _ _ (tMS K (B__law_far F)) from (mss_one (ms_ret (m_callB (cr_max rfl) i_maxL rfl T.n_max (by decide +kernel) (ma_cons (m_op op_add4 i_add (m_lst (ma_cons m_int ma_nil)) (m_lc (own := [("_law_one", 1)]) (p := (.nm 1)) rfl nd (mi_seq (m_call (ok__law_within T) (hr.mono (Nat.le_trans (show _ ≤ 1 by decide) (Nat.le_trans hk (by omega)))) rfl T.g__law_within T.F__law_within.kp T.b__law_within (ma_cons (m_var 0) ma_nil) (.cons .nil))) (blkOk_by (N := ["_law_term_here", "_law_one"]) (sc := defScope s__law_far) (by decide +kernel)) (fun _ _ _ _ _ => (pp_nm (pg_name (i := 1) nd rfl (Or.inl rfl)))) (fun _ _ _ _ _ => mts_nil) (fun _ _ _ _ _ => (m_op op_add4 i_add m_int (m_call G (hr.mono (by omega)) rfl T.g__law_far T.F__law_far.kp T.b__law_far (ma_cons (m_var 1) ma_nil) (.cons .nil)))) (by decide))) ma_nil)))))
theorem ok__law_far (T : Txt K mg) : ∀ d, FnOk P w K mg base CX0 (L__law_far d) T.a__law_far T.d__law_far ["_law_term_here"] (spM K 1 (f__law_far d))
  | 0 => def_zero
  | d + 1 => up__law_far T (L__law_far_ge d) (ok__law_far T d)
theorem ok__law_alike (T : Txt K mg) : FnOk P w K mg base CX0 1 T.a__law_alike T.d__law_alike ["_law_found", "_law_due"] (spM K 2 f__law_alike) :=
  def_ok T.F__law_alike sc__law_alike fun cdv A outer s H E hr =>
    have hu := hu64 hr; have nd := sc__law_alike.nd
    (show PSs _ _ (tMS K B__law_alike) from (mss_cons (ms_set 2 (m_lst (ma_cons (m_tup (ma_cons (m_var 0) (ma_cons (m_var 1) ma_nil))) ma_nil)) nd)
    (mss_cons (ms_while PassesOwn.never (mt_cmp (op_ne2 hu) i_ne (m_var 2) (m_lst ma_nil) (nomark _)) (mss_cons (ms_asg (m_ml0 PySem.F.plainAttrs_list PySem.F.slot_list_pop PySem.F.type_list_pop mt_pop i_pop (m_var 2)) (mg_pat (.tp [(.nm 3), (.nm 4)]) (pp_tp rfl (pps1 (pp_nm (pg_name (i := 3) nd rfl (Or.inl rfl))) (pps1 (pp_nm (pg_name (i := 4) nd rfl (Or.inl rfl))) pps0)))))
    (mss_one (ms_if (mt_tr (m_isi2 (t1 := "tuple") (t2 := "list") rfl T.n_isinstance (m_var 4) (pa_cons (pe_bltn (v := .ty "tuple") rfl T.n_tuple (by decide +kernel) rfl) (pa_cons (pe_bltn (v := .ty "list") rfl T.n_list (by decide +kernel) rfl) pa_nil)))) (mss_cons (ms_if (PW.pt (mw_or (mt_cmp (op_ne2 hu) i_ne (m_isi (t := "tuple") rfl T.n_isinstance (m_var 3) (pe_bltn (v := .ty "tuple") rfl T.n_tuple (by decide +kernel) rfl)) (m_isi (t := "tuple") rfl T.n_isinstance (m_var 4) (pe_bltn (v := .ty "tuple") rfl T.n_tuple (by decide +kernel) rfl)) (nomark _)) (mw_or1 (mt_cmp (op_ne2 hu) i_ne (m_isi (t := "list") rfl T.n_isinstance (m_var 3) (pe_bltn (v := .ty "list") rfl T.n_list (by decide +kernel) rfl)) (m_isi (t := "list") rfl T.n_isinstance (m_var 4) (pe_bltn (v := .ty "list") rfl T.n_list (by decide +kernel) rfl)) (nomark _))))) (mss_one (ms_ret m_bl)) mss_nil)
    (mss_cons (ms_if (mt_cmp (op_ne2 hu) i_ne (m_callB call_len i_len rfl T.n_len (by decide +kernel) (ma_cons (m_var 3) ma_nil)) (m_callB call_len i_len rfl T.n_len (by decide +kernel) (ma_cons (m_var 4) ma_nil)) (nomark _)) (mss_one (ms_ret m_bl)) mss_nil)
    (mss_one (ms_expr (m_ml i_extend (pe_bm PySem.F.plainAttrs_list PySem.F.slot_list_extend PySem.F.type_list_extend mt_extend (m_var 2) (ma_cons (m_listZip rfl rfl T.n_list rfl T.n_zip (ma_cons (m_var 3) (ma_cons (m_var 4) ma_nil))) ma_nil))))))) (mss_one (ms_if (PW.pt (mw_or (mt_tr (m_isi2 (t1 := "tuple") (t2 := "list") rfl T.n_isinstance (m_var 3) (pa_cons (pe_bltn (v := .ty "tuple") rfl T.n_tuple (by decide +kernel) rfl) (pa_cons (pe_bltn (v := .ty "list") rfl T.n_list (by decide +kernel) rfl) pa_nil)))) (mw_or (mt_cmp (op_ne2 hu) i_ne (m_isi (t := "bool") rfl T.n_isinstance (m_var 3) (pe_bltn (v := .ty "bool") rfl T.n_bool (by decide +kernel) rfl)) (m_isi (t := "bool") rfl T.n_isinstance (m_var 4) (pe_bltn (v := .ty "bool") rfl T.n_bool (by decide +kernel) rfl)) (nomark _)) (mw_or1 (mt_cmp (op_ne2 hu) i_ne (m_var 3) (m_var 4) (nomark _)))))) (mss_one (ms_ret m_bl)) mss_nil))))))
    (mss_one (ms_ret m_bl)))))
theorem ok_law (T : Txt K mg) : FnOkG P w K mg base CX0 27 T.a_law T.d_law ["_law_script"] (spM K 1 f_law) :=
  def_okG T.F_law sc_law fun cdv A outer s H E hr hg =>
    have hu := hu64 hr; have nd := sc_law.nd
    (show PSs _ _ (tMS K B_law) from (mss_cons (ms_for PassesOwn.never rfl (mi_range1 rfl T.n_range (m_callB (call_max2 rfl) i_max rfl T.n_max (by decide +kernel) (ma_cons m_int (ma_cons (m_callB (call_min2 rfl) i_min rfl T.n_min (by decide +kernel) (ma_cons (m_callB call_len i_len rfl T.n_len (by decide +kernel) (ma_cons (m_var 0) ma_nil)) (ma_cons m_int ma_nil))) ma_nil)))) (mg_pat (.nm 1) (pp_nm (pg_name (i := 1) nd rfl (Or.inl rfl)))) (mss_cons (ms_set 2 (m_call (ok__law_box T) (hr.mono (by decide)) rfl T.g__law_box T.F__law_box.kp T.b__law_box (ma_cons (m_var 0) (ma_cons (m_var 1) ma_nil)) (.cons (.cons .nil))) nd)
    (mss_cons (ms_set 3 (m_call (ok__law_world T) (hr.mono (by decide)) rfl T.g__law_world T.F__law_world.kp T.b__law_world (ma_cons (m_var 2) ma_nil) (.cons .nil)) nd)
    (mss_cons (ms_setLc (own := [("_law_turn", 6)]) (p := (.nm 6)) 4 rfl nd rfl rfl (sw_true rfl rfl rfl (by decide +kernel)) (mi_range1 rfl T.n_range m_int) (blkOk_by (N := ["_law_script", "_law_k", "_law_box_here", "_law_world_here", "_law_terms", "_law_term_here", "_law_turn", "_law_found"]) (sc := defScope s_law) (by decide +kernel)) (fun _ _ _ _ _ => (pp_nm (pg_name (i := 6) nd rfl (Or.inl rfl)))) (fun _ _ _ _ _ => mts_nil) (fun _ _ _ _ _ => (m_call (ok__law_drawn T) (hr.mono (by decide)) rfl T.g__law_drawn T.F__law_drawn.kp T.b__law_drawn (ma_cons (m_var 2) (ma_cons (m_var 3) ma_nil)) (.cons (.cons .nil)))) (by decide))
    (mss_one (ms_for PassesOwn.never rfl (mi_seq (m_op op_add4 i_add (m_var 4) (m_slice sl_cut3 i_cut (m_var 4) mo_none (mo_some m_int)))) (mg_pat (.nm 5) (pp_nm (pg_name (i := 5) nd rfl (Or.inl rfl)))) (mss_one (ms_for PassesOwn.never rfl (mi_range1 rfl T.n_range m_int) (mg_pat (.nm 6) (pp_nm (pg_name (i := 6) nd rfl (Or.inl rfl)))) (mss_cons (ms_set 7 (m_call (ok_parts T) (hr.mono (by decide)) rfl T.g_parts T.F_parts.kp T.b_parts (ma_cons (m_var 5) ma_nil) (.cons .nil)) nd)
    (mss_cons (ms_if (PW.pt (mw_or (mt_not (mt_tr (m_call (ok__law_alike T) (hr.mono (by decide)) rfl T.g__law_alike T.F__law_alike.kp T.b__law_alike (ma_cons (m_var 7) (ma_cons (m_call (ok__law_all T 12) (hr.mono (by decide)) rfl T.g__law_all T.F__law_all.kp T.b__law_all (ma_cons (m_var 5) ma_nil) (.cons .nil)) ma_nil)) (.cons (.cons .nil))))) (mw_or1 (mt_cmp (op_ne2 hu) i_ne (m_callB (call_repr2 hg hu) i_repr2 rfl T.n_repr (by decide +kernel) (ma_cons (m_call (ok_deep T) (hr.mono (by decide)) rfl T.g_deep T.F_deep.kp T.b_deep (ma_cons (m_var 5) ma_nil) (.cons .nil)) ma_nil)) (m_callTy call_str_int i_strI rfl T.n_str (by decide +kernel) (ma_cons (m_call (ok__law_far T 12) (hr.mono (by decide)) rfl T.g__law_far T.F__law_far.kp T.b__law_far (ma_cons (m_var 5) ma_nil) (.cons .nil)) ma_nil)) (nomark _))))) (mss_one (ms_ret m_bl)) mss_nil)
    (mss_one (ms_expr (m_ml0 PySem.F.plainAttrs_list PySem.F.slot_list_clear PySem.F.type_list_clear mt_clear i_clear (m_var 7))))))))))))))
    (mss_one (ms_ret m_bl))))
end
theorem all_mk {l : PySem.W.OpenLaw} {w : World} {K : PySem.W.Frag} {h : Heap} {mg : Str → Option Value} {fa : Addr} (X : K.In h) (G : h.Ns mainGlobals mg) (hfa : mg "law" = some (.ref fa))
    {f0 : Addr} {od0 an0 : Option Addr} {sl0 : Array (Option Value)} {oc0 kV0 dc0 pm0 cd0 ct0 : Value}
    {f1 : Addr} {od1 an1 : Option Addr} {sl1 : Array (Option Value)} {oc1 kV1 dc1 pm1 cd1 ct1 : Value}
    {f2 : Addr} {od2 an2 : Option Addr} {sl2 : Array (Option Value)} {oc2 kV2 dc2 pm2 cd2 ct2 : Value}
    {f3 : Addr} {od3 an3 : Option Addr} {sl3 : Array (Option Value)} {oc3 kV3 dc3 pm3 cd3 ct3 : Value}
    {f4 : Addr} {od4 an4 : Option Addr} {sl4 : Array (Option Value)} {oc4 kV4 dc4 pm4 cd4 ct4 : Value}
    {f5 : Addr} {od5 an5 : Option Addr} {sl5 : Array (Option Value)} {oc5 kV5 dc5 pm5 cd5 ct5 : Value}
    {f6 : Addr} {od6 an6 : Option Addr} {sl6 : Array (Option Value)} {oc6 kV6 dc6 pm6 cd6 ct6 : Value}
    {f7 : Addr} {od7 an7 : Option Addr} {sl7 : Array (Option Value)} {oc7 kV7 dc7 pm7 cd7 ct7 : Value}
    {f8 : Addr} {od8 an8 : Option Addr} {sl8 : Array (Option Value)} {oc8 kV8 dc8 pm8 cd8 ct8 : Value}
    {f9 : Addr} {od9 an9 : Option Addr} {sl9 : Array (Option Value)} {oc9 kV9 dc9 pm9 cd9 ct9 : Value}
    {f10 : Addr} {od10 an10 : Option Addr} {sl10 : Array (Option Value)} {oc10 kV10 dc10 pm10 cd10 ct10 : Value}
    {f11 : Addr} {od11 an11 : Option Addr} {sl11 : Array (Option Value)} {oc11 kV11 dc11 pm11 cd11 ct11 : Value}
    {f12 : Addr} {od12 an12 : Option Addr} {sl12 : Array (Option Value)} {oc12 kV12 dc12 pm12 cd12 ct12 : Value}
    {f13 : Addr} {od13 an13 : Option Addr} {sl13 : Array (Option Value)} {oc13 kV13 dc13 pm13 cd13 ct13 : Value}
    {f14 : Addr} {od14 an14 : Option Addr} {sl14 : Array (Option Value)} {oc14 kV14 dc14 pm14 cd14 ct14 : Value}
    {f15 : Addr} {od15 an15 : Option Addr} {sl15 : Array (Option Value)} {oc15 kV15 dc15 pm15 cd15 ct15 : Value}
    {f16 : Addr} {od16 an16 : Option Addr} {sl16 : Array (Option Value)} {oc16 kV16 dc16 pm16 cd16 ct16 : Value}
    {f17 : Addr} {od17 an17 : Option Addr} {sl17 : Array (Option Value)} {oc17 kV17 dc17 pm17 cd17 ct17 : Value}
    {f18 : Addr} {od18 an18 : Option Addr} {sl18 : Array (Option Value)} {oc18 kV18 dc18 pm18 cd18 ct18 : Value}
    {f19 : Addr} {od19 an19 : Option Addr} {sl19 : Array (Option Value)} {oc19 kV19 dc19 pm19 cd19 ct19 : Value}
    (a0 : PySem.W.nsIn K mainGlobals "things_in" = some (some (.ref f0))) (l0 : K.lookup f0 = some ⟨oc0, od0, .func (PySem.W.fnOf "things_in" "things_in" (defArgs s_things_in) (defBody s_things_in) (defScope s_things_in) .none kV0 dc0 pm0 an0 cd0 ct0), sl0⟩) (c0 : PySem.W.codeIn K cd0 "things_in" = true) (k0 : PySem.W.keepIn K (.ref f0) = true)
    (a1 : PySem.W.nsIn K mainGlobals "terms_in" = some (some (.ref f1))) (l1 : K.lookup f1 = some ⟨oc1, od1, .func (PySem.W.fnOf "terms_in" "terms_in" (defArgs s_terms_in) (defBody s_terms_in) (defScope s_terms_in) .none kV1 dc1 pm1 an1 cd1 ct1), sl1⟩) (c1 : PySem.W.codeIn K cd1 "terms_in" = true) (k1 : PySem.W.keepIn K (.ref f1) = true)
    (a2 : PySem.W.nsIn K mainGlobals "parts" = some (some (.ref f2))) (l2 : K.lookup f2 = some ⟨oc2, od2, .func (PySem.W.fnOf "parts" "parts" (defArgs s_parts) (defBody s_parts) (defScope s_parts) .none kV2 dc2 pm2 an2 cd2 ct2), sl2⟩) (c2 : PySem.W.codeIn K cd2 "parts" = true) (k2 : PySem.W.keepIn K (.ref f2) = true)
    (a3 : PySem.W.nsIn K mainGlobals "deep" = some (some (.ref f3))) (l3 : K.lookup f3 = some ⟨oc3, od3, .func (PySem.W.fnOf "deep" "deep" (defArgs s_deep) (defBody s_deep) (defScope s_deep) .none kV3 dc3 pm3 an3 cd3 ct3), sl3⟩) (c3 : PySem.W.codeIn K cd3 "deep" = true) (k3 : PySem.W.keepIn K (.ref f3) = true)
    (a4 : PySem.W.nsIn K mainGlobals "_law_box" = some (some (.ref f4))) (l4 : K.lookup f4 = some ⟨oc4, od4, .func (PySem.W.fnOf "_law_box" "_law_box" (defArgs s__law_box) (defBody s__law_box) (defScope s__law_box) .none kV4 dc4 pm4 an4 cd4 ct4), sl4⟩) (c4 : PySem.W.codeIn K cd4 "_law_box" = true) (k4 : PySem.W.keepIn K (.ref f4) = true)
    (a5 : PySem.W.nsIn K mainGlobals "_law_take" = some (some (.ref f5))) (l5 : K.lookup f5 = some ⟨oc5, od5, .func (PySem.W.fnOf "_law_take" "_law_take" (defArgs s__law_take) (defBody s__law_take) (defScope s__law_take) .none kV5 dc5 pm5 an5 cd5 ct5), sl5⟩) (c5 : PySem.W.codeIn K cd5 "_law_take" = true) (k5 : PySem.W.keepIn K (.ref f5) = true)
    (a6 : PySem.W.nsIn K mainGlobals "_law_names" = some (some (.ref f6))) (l6 : K.lookup f6 = some ⟨oc6, od6, .func (PySem.W.fnOf "_law_names" "_law_names" (defArgs s__law_names) (defBody s__law_names) (defScope s__law_names) .none kV6 dc6 pm6 an6 cd6 ct6), sl6⟩) (c6 : PySem.W.codeIn K cd6 "_law_names" = true) (k6 : PySem.W.keepIn K (.ref f6) = true)
    (a7 : PySem.W.nsIn K mainGlobals "_law_ground_forms" = some (some (.ref f7))) (l7 : K.lookup f7 = some ⟨oc7, od7, .func (PySem.W.fnOf "_law_ground_forms" "_law_ground_forms" (defArgs s__law_ground_forms) (defBody s__law_ground_forms) (defScope s__law_ground_forms) .none kV7 dc7 pm7 an7 cd7 ct7), sl7⟩) (c7 : PySem.W.codeIn K cd7 "_law_ground_forms" = true) (k7 : PySem.W.keepIn K (.ref f7) = true)
    (a8 : PySem.W.nsIn K mainGlobals "_law_items" = some (some (.ref f8))) (l8 : K.lookup f8 = some ⟨oc8, od8, .func (PySem.W.fnOf "_law_items" "_law_items" (defArgs s__law_items) (defBody s__law_items) (defScope s__law_items) .none kV8 dc8 pm8 an8 cd8 ct8), sl8⟩) (c8 : PySem.W.codeIn K cd8 "_law_items" = true) (k8 : PySem.W.keepIn K (.ref f8) = true)
    (a9 : PySem.W.nsIn K mainGlobals "_law_meant" = some (some (.ref f9))) (l9 : K.lookup f9 = some ⟨oc9, od9, .func (PySem.W.fnOf "_law_meant" "_law_meant" (defArgs s__law_meant) (defBody s__law_meant) (defScope s__law_meant) .none kV9 dc9 pm9 an9 cd9 ct9), sl9⟩) (c9 : PySem.W.codeIn K cd9 "_law_meant" = true) (k9 : PySem.W.keepIn K (.ref f9) = true)
    (a10 : PySem.W.nsIn K mainGlobals "_law_tongue" = some (some (.ref f10))) (l10 : K.lookup f10 = some ⟨oc10, od10, .func (PySem.W.fnOf "_law_tongue" "_law_tongue" (defArgs s__law_tongue) (defBody s__law_tongue) (defScope s__law_tongue) .none kV10 dc10 pm10 an10 cd10 ct10), sl10⟩) (c10 : PySem.W.codeIn K cd10 "_law_tongue" = true) (k10 : PySem.W.keepIn K (.ref f10) = true)
    (a11 : PySem.W.nsIn K mainGlobals "_law_world" = some (some (.ref f11))) (l11 : K.lookup f11 = some ⟨oc11, od11, .func (PySem.W.fnOf "_law_world" "_law_world" (defArgs s__law_world) (defBody s__law_world) (defScope s__law_world) .none kV11 dc11 pm11 an11 cd11 ct11), sl11⟩) (c11 : PySem.W.codeIn K cd11 "_law_world" = true) (k11 : PySem.W.keepIn K (.ref f11) = true)
    (a12 : PySem.W.nsIn K mainGlobals "_law_term" = some (some (.ref f12))) (l12 : K.lookup f12 = some ⟨oc12, od12, .func (PySem.W.fnOf "_law_term" "_law_term" (defArgs s__law_term) (defBody s__law_term) (defScope s__law_term) .none kV12 dc12 pm12 an12 cd12 ct12), sl12⟩) (c12 : PySem.W.codeIn K cd12 "_law_term" = true) (k12 : PySem.W.keepIn K (.ref f12) = true)
    (a13 : PySem.W.nsIn K mainGlobals "_law_use" = some (some (.ref f13))) (l13 : K.lookup f13 = some ⟨oc13, od13, .func (PySem.W.fnOf "_law_use" "_law_use" (defArgs s__law_use) (defBody s__law_use) (defScope s__law_use) .none kV13 dc13 pm13 an13 cd13 ct13), sl13⟩) (c13 : PySem.W.codeIn K cd13 "_law_use" = true) (k13 : PySem.W.keepIn K (.ref f13) = true)
    (a14 : PySem.W.nsIn K mainGlobals "_law_drawn" = some (some (.ref f14))) (l14 : K.lookup f14 = some ⟨oc14, od14, .func (PySem.W.fnOf "_law_drawn" "_law_drawn" (defArgs s__law_drawn) (defBody s__law_drawn) (defScope s__law_drawn) .none kV14 dc14 pm14 an14 cd14 ct14), sl14⟩) (c14 : PySem.W.codeIn K cd14 "_law_drawn" = true) (k14 : PySem.W.keepIn K (.ref f14) = true)
    (a15 : PySem.W.nsIn K mainGlobals "_law_within" = some (some (.ref f15))) (l15 : K.lookup f15 = some ⟨oc15, od15, .func (PySem.W.fnOf "_law_within" "_law_within" (defArgs s__law_within) (defBody s__law_within) (defScope s__law_within) .none kV15 dc15 pm15 an15 cd15 ct15), sl15⟩) (c15 : PySem.W.codeIn K cd15 "_law_within" = true) (k15 : PySem.W.keepIn K (.ref f15) = true)
    (a16 : PySem.W.nsIn K mainGlobals "_law_all" = some (some (.ref f16))) (l16 : K.lookup f16 = some ⟨oc16, od16, .func (PySem.W.fnOf "_law_all" "_law_all" (defArgs s__law_all) (defBody s__law_all) (defScope s__law_all) .none kV16 dc16 pm16 an16 cd16 ct16), sl16⟩) (c16 : PySem.W.codeIn K cd16 "_law_all" = true) (k16 : PySem.W.keepIn K (.ref f16) = true)
    (a17 : PySem.W.nsIn K mainGlobals "_law_far" = some (some (.ref f17))) (l17 : K.lookup f17 = some ⟨oc17, od17, .func (PySem.W.fnOf "_law_far" "_law_far" (defArgs s__law_far) (defBody s__law_far) (defScope s__law_far) .none kV17 dc17 pm17 an17 cd17 ct17), sl17⟩) (c17 : PySem.W.codeIn K cd17 "_law_far" = true) (k17 : PySem.W.keepIn K (.ref f17) = true)
    (a18 : PySem.W.nsIn K mainGlobals "_law_alike" = some (some (.ref f18))) (l18 : K.lookup f18 = some ⟨oc18, od18, .func (PySem.W.fnOf "_law_alike" "_law_alike" (defArgs s__law_alike) (defBody s__law_alike) (defScope s__law_alike) .none kV18 dc18 pm18 an18 cd18 ct18), sl18⟩) (c18 : PySem.W.codeIn K cd18 "_law_alike" = true) (k18 : PySem.W.keepIn K (.ref f18) = true)
    (a19 : PySem.W.nsIn K mainGlobals "law" = some (some (.ref f19))) (l19 : K.lookup f19 = some ⟨oc19, od19, .func (PySem.W.fnOf "law" "law" (defArgs s_law) (defBody s_law) (defScope s_law) .none kV19 dc19 pm19 an19 cd19 ct19), sl19⟩) (c19 : PySem.W.codeIn K cd19 "law" = true) (k19 : PySem.W.keepIn K (.ref f19) = true)
    (z_bool : PySem.W.nsIn K mainGlobals "bool" = some none)
    (z_dict : PySem.W.nsIn K mainGlobals "dict" = some none)
    (z_enumerate : PySem.W.nsIn K mainGlobals "enumerate" = some none)
    (z_int : PySem.W.nsIn K mainGlobals "int" = some none)
    (z_isinstance : PySem.W.nsIn K mainGlobals "isinstance" = some none)
    (z_len : PySem.W.nsIn K mainGlobals "len" = some none)
    (z_list : PySem.W.nsIn K mainGlobals "list" = some none)
    (z_max : PySem.W.nsIn K mainGlobals "max" = some none)
    (z_min : PySem.W.nsIn K mainGlobals "min" = some none)
    (z_range : PySem.W.nsIn K mainGlobals "range" = some none)
    (z_repr : PySem.W.nsIn K mainGlobals "repr" = some none)
    (z_str : PySem.W.nsIn K mainGlobals "str" = some none)
    (z_tuple : PySem.W.nsIn K mainGlobals "tuple" = some none)
    (z_zip : PySem.W.nsIn K mainGlobals "zip" = some none) :
    ∃ fd : FuncData, (∀ (s : Shared) (v : Value), BindsTo s fd ⟨[v], []⟩ [("_law_script", v)]) ∧ ∀ base : Heap, K.In base → base.Ns mainGlobals mg → FnOkG l.prog w K mg base CX0 27 fa fd ["_law_script"] (spM K 1 f_law) := by
  have e := hfa.symm.trans (PySem.W.mg_of X G a19)
  cases e
  let T : Txt K mg := { a_things_in := f0, d_things_in := _, F_things_in := fun_mk (st := s_things_in) l0 c0 k0, g_things_in := PySem.W.mg_of X G a0, b_things_in := (fun_mk (st := s_things_in) l0 c0 k0).binds (ps := ["term"]) (fun _ _ _ _ _ _ us hl => match us, hl with | [_], _ => rfl), a_terms_in := f1, d_terms_in := _, F_terms_in := fun_mk (st := s_terms_in) l1 c1 k1, g_terms_in := PySem.W.mg_of X G a1, b_terms_in := (fun_mk (st := s_terms_in) l1 c1 k1).binds (ps := ["term"]) (fun _ _ _ _ _ _ us hl => match us, hl with | [_], _ => rfl), a_parts := f2, d_parts := _, F_parts := fun_mk (st := s_parts) l2 c2 k2, g_parts := PySem.W.mg_of X G a2, b_parts := (fun_mk (st := s_parts) l2 c2 k2).binds (ps := ["term"]) (fun _ _ _ _ _ _ us hl => match us, hl with | [_], _ => rfl), a_deep := f3, d_deep := _, F_deep := fun_mk (st := s_deep) l3 c3 k3, g_deep := PySem.W.mg_of X G a3, b_deep := (fun_mk (st := s_deep) l3 c3 k3).binds (ps := ["term"]) (fun _ _ _ _ _ _ us hl => match us, hl with | [_], _ => rfl), a__law_box := f4, d__law_box := _, F__law_box := fun_mk (st := s__law_box) l4 c4 k4, g__law_box := PySem.W.mg_of X G a4, b__law_box := (fun_mk (st := s__law_box) l4 c4 k4).binds (ps := ["_law_script", "_law_k"]) (fun _ _ _ _ _ _ us hl => match us, hl with | [_, _], _ => rfl), a__law_take := f5, d__law_take := _, F__law_take := fun_mk (st := s__law_take) l5 c5 k5, g__law_take := PySem.W.mg_of X G a5, b__law_take := (fun_mk (st := s__law_take) l5 c5 k5).binds (ps := ["_law_box_here", "_law_many"]) (fun _ _ _ _ _ _ us hl => match us, hl with | [_, _], _ => rfl), a__law_names := f6, d__law_names := _, F__law_names := fun_mk (st := s__law_names) l6 c6 k6, g__law_names := PySem.W.mg_of X G a6, b__law_names := (fun_mk (st := s__law_names) l6 c6 k6).binds (ps := ["_law_box_here", "_law_many"]) (fun _ _ _ _ _ _ us hl => match us, hl with | [_, _], _ => rfl), a__law_ground_forms := f7, d__law_ground_forms := _, F__law_ground_forms := fun_mk (st := s__law_ground_forms) l7 c7 k7, g__law_ground_forms := PySem.W.mg_of X G a7, b__law_ground_forms := (fun_mk (st := s__law_ground_forms) l7 c7 k7).binds (ps := []) (fun _ _ _ _ _ _ us hl => match us, hl with | [], _ => rfl), a__law_items := f8, d__law_items := _, F__law_items := fun_mk (st := s__law_items) l8 c8 k8, g__law_items := PySem.W.mg_of X G a8, b__law_items := (fun_mk (st := s__law_items) l8 c8 k8).binds (ps := ["_law_box_here", "_law_kinds"]) (fun _ _ _ _ _ _ us hl => match us, hl with | [_, _], _ => rfl), a__law_meant := f9, d__law_meant := _, F__law_meant := fun_mk (st := s__law_meant) l9 c9 k9, g__law_meant := PySem.W.mg_of X G a9, b__law_meant := (fun_mk (st := s__law_meant) l9 c9 k9).binds (ps := ["_law_items_here"]) (fun _ _ _ _ _ _ us hl => match us, hl with | [_], _ => rfl), a__law_tongue := f10, d__law_tongue := _, F__law_tongue := fun_mk (st := s__law_tongue) l10 c10 k10, g__law_tongue := PySem.W.mg_of X G a10, b__law_tongue := (fun_mk (st := s__law_tongue) l10 c10 k10).binds (ps := ["_law_box_here", "_law_name", "_law_kinds", "_law_heads"]) (fun _ _ _ _ _ _ us hl => match us, hl with | [_, _, _, _], _ => rfl), a__law_world := f11, d__law_world := _, F__law_world := fun_mk (st := s__law_world) l11 c11 k11, g__law_world := PySem.W.mg_of X G a11, b__law_world := (fun_mk (st := s__law_world) l11 c11 k11).binds (ps := ["_law_box_here"]) (fun _ _ _ _ _ _ us hl => match us, hl with | [_], _ => rfl), a__law_term := f12, d__law_term := _, F__law_term := fun_mk (st := s__law_term) l12 c12 k12, g__law_term := PySem.W.mg_of X G a12, b__law_term := (fun_mk (st := s__law_term) l12 c12 k12).binds (ps := ["_law_box_here", "_law_world_here", "_law_own", "_law_known", "_law_kind", "_law_room"]) (fun _ _ _ _ _ _ us hl => match us, hl with | [_, _, _, _, _, _], _ => rfl), a__law_use := f13, d__law_use := _, F__law_use := fun_mk (st := s__law_use) l13 c13 k13, g__law_use := PySem.W.mg_of X G a13, b__law_use := (fun_mk (st := s__law_use) l13 c13 k13).binds (ps := ["_law_box_here", "_law_world_here", "_law_own", "_law_known", "_law_row"]) (fun _ _ _ _ _ _ us hl => match us, hl with | [_, _, _, _, _], _ => rfl), a__law_drawn := f14, d__law_drawn := _, F__law_drawn := fun_mk (st := s__law_drawn) l14 c14 k14, g__law_drawn := PySem.W.mg_of X G a14, b__law_drawn := (fun_mk (st := s__law_drawn) l14 c14 k14).binds (ps := ["_law_box_here", "_law_world_here"]) (fun _ _ _ _ _ _ us hl => match us, hl with | [_, _], _ => rfl), a__law_within := f15, d__law_within := _, F__law_within := fun_mk (st := s__law_within) l15 c15 k15, g__law_within := PySem.W.mg_of X G a15, b__law_within := (fun_mk (st := s__law_within) l15 c15 k15).binds (ps := ["_law_term_here"]) (fun _ _ _ _ _ _ us hl => match us, hl with | [_], _ => rfl), a__law_all := f16, d__law_all := _, F__law_all := fun_mk (st := s__law_all) l16 c16 k16, g__law_all := PySem.W.mg_of X G a16, b__law_all := (fun_mk (st := s__law_all) l16 c16 k16).binds (ps := ["_law_term_here"]) (fun _ _ _ _ _ _ us hl => match us, hl with | [_], _ => rfl), a__law_far := f17, d__law_far := _, F__law_far := fun_mk (st := s__law_far) l17 c17 k17, g__law_far := PySem.W.mg_of X G a17, b__law_far := (fun_mk (st := s__law_far) l17 c17 k17).binds (ps := ["_law_term_here"]) (fun _ _ _ _ _ _ us hl => match us, hl with | [_], _ => rfl), a__law_alike := f18, d__law_alike := _, F__law_alike := fun_mk (st := s__law_alike) l18 c18 k18, g__law_alike := PySem.W.mg_of X G a18, b__law_alike := (fun_mk (st := s__law_alike) l18 c18 k18).binds (ps := ["_law_found", "_law_due"]) (fun _ _ _ _ _ _ us hl => match us, hl with | [_, _], _ => rfl), a_law := fa, d_law := _, F_law := fun_mk (st := s_law) l19 c19 k19, g_law := PySem.W.mg_of X G a19, b_law := (fun_mk (st := s_law) l19 c19 k19).binds (ps := ["_law_script"]) (fun _ _ _ _ _ _ us hl => match us, hl with | [_], _ => rfl), n_bool := PySem.W.mg_none_of X G z_bool, n_dict := PySem.W.mg_none_of X G z_dict, n_enumerate := PySem.W.mg_none_of X G z_enumerate, n_int := PySem.W.mg_none_of X G z_int, n_isinstance := PySem.W.mg_none_of X G z_isinstance, n_len := PySem.W.mg_none_of X G z_len, n_list := PySem.W.mg_none_of X G z_list, n_max := PySem.W.mg_none_of X G z_max, n_min := PySem.W.mg_none_of X G z_min, n_range := PySem.W.mg_none_of X G z_range, n_repr := PySem.W.mg_none_of X G z_repr, n_str := PySem.W.mg_none_of X G z_str, n_tuple := PySem.W.mg_none_of X G z_tuple, n_zip := PySem.W.mg_none_of X G z_zip }
  exact ⟨T.d_law, fun s v => .of_eq rfl, fun base _ _ => ok_law T⟩
end K03

/-! A run by what is told of it: rules that a simp set applies from left to right; specifications of calls are put in by hand. -/
namespace Mi
open PySem PySem.Spec PyProof.Rows L2
def Tl {α : Type} (o : Option (α × MH)) (Q : α → MH → Prop) : Prop := ∃ x h, o = some (x, h) ∧ Q x h
def Ts (o : Option (Fl × MS × MH)) (Q : Fl → MS → MH → Prop) : Prop := ∃ f s h, o = some (f, s, h) ∧ Q f s h
theorem Tl_congr {α : Type} {o o' : Option (α × MH)} {Q : α → MH → Prop} (e : o = o') : Tl o Q = Tl o' Q := by rw [e]
theorem Ts_congr {o o' : Option (Fl × MS × MH)} {Q : Fl → MS → MH → Prop} (e : o = o') : Ts o Q = Ts o' Q := by rw [e]
theorem Tl.by {α : Type} {o : Option (α × MH)} {P Q : α → MH → Prop} (t : Tl o P) (i : ∀ x h, P x h → Q x h) : Tl o Q := by
  obtain ⟨x, h, e, p⟩ := t
  exact ⟨x, h, e, i x h p⟩
theorem Ts.by {o : Option (Fl × MS × MH)} {P Q : Fl → MS → MH → Prop} (t : Ts o P) (i : ∀ f s h, P f s h → Q f s h) : Ts o Q := by
  obtain ⟨f, s, h, e, p⟩ := t
  exact ⟨f, s, h, e, i f s h p⟩
theorem Tl_some {α : Type} {x : α} {h : MH} {Q : α → MH → Prop} : Tl (some (x, h)) Q = Q x h :=
  propext ⟨fun ⟨_, _, e, q⟩ => by cases e; exact q, fun q => ⟨x, h, rfl, q⟩⟩
theorem Tl_none {α : Type} {Q : α → MH → Prop} : Tl none Q = False := propext ⟨fun ⟨_, _, e, _⟩ => (nomatch e), False.elim⟩
theorem Ts_some {f : Fl} {s : MS} {h : MH} {Q : Fl → MS → MH → Prop} : Ts (some (f, s, h)) Q = Q f s h :=
  propext ⟨fun ⟨_, _, _, e, q⟩ => by cases e; exact q, fun q => ⟨f, s, h, rfl, q⟩⟩
theorem Ts_none {Q : Fl → MS → MH → Prop} : Ts none Q = False := propext ⟨fun ⟨_, _, _, e, _⟩ => (nomatch e), False.elim⟩
theorem Tl_andThen {α β : Type} {o : Option (α × MH)} {g : α → MH → Option (β × MH)} {Q : β → MH → Prop} : Tl (andThen o g) Q = Tl o fun x h => Tl (g x h) Q := by
  cases o with
  | none => simp only [andThen, Tl_none]
  | some p => obtain ⟨x, h⟩ := p; simp only [andThen, Tl_some]
theorem Ts_thenS {α : Type} {o : Option (α × MH)} {g : α → MH → Option (Fl × MS × MH)} {Q : Fl → MS → MH → Prop} : Ts (thenS o g) Q = Tl o fun x h => Ts (g x h) Q := by
  cases o with
  | none => simp only [thenS, Ts_none, Tl_none]
  | some p => obtain ⟨x, h⟩ := p; simp only [thenS, Tl_some]
section
variable {n : Nat} {s : MS} {h : MH} {fa fb fc f : M} {fr : MA} {Q : W → MH → Prop} {P : Fl → MS → MH → Prop} {c d : MT} {QB : Bool → MH → Prop}
theorem wp_c {w : W} : Tl (mC w n s h) Q = Q w h := Tl_some
def slotK (o : Option (Option W)) (Q : W → MH → Prop) (h : MH) : Prop := match o with
  | some (some w) => Q w h
  | _ => False
theorem slotK_some {w : W} : slotK (some (some w)) Q h = Q w h := rfl
theorem wp_var {i : Nat} : Tl (mVar i n s h) Q = slotK s[i]? Q h := by
  unfold mVar slotK
  cases s[i]? with
  | none => simp only [Tl_none]
  | some o => cases o <;> simp only [Tl_none, Tl_some]
theorem wp_op {g : G2} : Tl (mOp g fa fb n s h) Q = Tl (fa n s h) fun x h1 => Tl (fb n s h1) fun y h2 => Tl (g x y h2) Q := by
  unfold mOp; simp only [Tl_andThen]
theorem wp_un {g : G1} : Tl (mUn g fa n s h) Q = Tl (fa n s h) fun x h1 => Tl (g x h1) Q := by
  unfold mUn; simp only [Tl_andThen]
def asB (x : W) (Q : Bool → MH → Prop) (h : MH) : Prop := match x with
  | .bl b => Q b h
  | _ => False
theorem asB_bl {b : Bool} : asB (.bl b) QB h = QB b h := rfl
theorem wp_b : Tl (mB fa n s h) QB = Tl (fa n s h) fun x h1 => asB x QB h1 := by
  unfold mB
  rw [Tl_andThen]
  congr 1; funext x h1
  cases x <;> simp only [Tl_none, Tl_some, asB]
def asT (o : Option Bool) (Q : Bool → MH → Prop) (h : MH) : Prop := match o with
  | some b => Q b h
  | none => False
theorem asT_some {b : Bool} : asT (some b) QB h = QB b h := rfl
theorem wp_tr : Tl (mTr fa n s h) QB = Tl (fa n s h) fun x h1 => asT (trW h1 x) QB h1 := by
  unfold mTr
  rw [Tl_andThen]
  congr 1; funext x h1
  cases trW h1 x <;> simp only [Option.map, Tl_none, Tl_some, asT]
theorem wp_yes : Tl (mYes n s h) QB = QB true h := Tl_some
theorem wp_and : Tl (mAnd c d n s h) QB = Tl (c n s h) fun b h1 => if b = true then Tl (d n s h1) QB else QB false h1 := by
  unfold mAnd
  rw [Tl_andThen]
  congr 1; funext x h1
  cases x <;> simp only [if_true, Tl_some, Bool.false_eq_true, if_false]
theorem wp_or : Tl (mOr c d n s h) QB = Tl (c n s h) fun b h1 => if b = true then QB true h1 else Tl (d n s h1) QB := by
  unfold mOr
  rw [Tl_andThen]
  congr 1; funext x h1
  cases x <;> simp only [if_true, Tl_some, Bool.false_eq_true, if_false]
theorem wp_not : Tl (mNot c n s h) QB = Tl (c n s h) fun b h1 => QB (!b) h1 := by
  unfold mNot
  rw [Tl_andThen]
  congr 1; funext x h1
  rw [Tl_some]
theorem wp_caseB {β : Type} {b : Bool} {A B : Option (β × MH)} {R : β → MH → Prop} : Tl (caseB (.bl b) A B) R = if b = true then Tl A R else Tl B R := by
  cases b <;> simp only [caseB, if_true, Bool.false_eq_true, if_false]
theorem wp_andV : Tl (mAndV fa fb n s h) Q = Tl (fa n s h) fun x h1 => Tl (caseB x (fb n s h1) (some (.bl false, h1))) Q := by
  unfold mAndV; rw [Tl_andThen]
theorem wp_orV : Tl (mOrV fa fb n s h) Q = Tl (fa n s h) fun x h1 => Tl (caseB x (some (.bl true, h1)) (fb n s h1)) Q := by
  unfold mOrV; rw [Tl_andThen]
theorem wp_notV : Tl (mNotV fa n s h) Q = Tl (fa n s h) fun x h1 => asB x (fun b h2 => Q (.bl (!b)) h2) h1 := by
  unfold mNotV
  rw [Tl_andThen]
  congr 1; funext x h1
  cases x <;> simp only [Tl_none, Tl_some, asB]
theorem wp_if : Tl (mIf c fa fb n s h) Q = Tl (c n s h) fun b h1 => if b = true then Tl (fa n s h1) Q else Tl (fb n s h1) Q := by
  unfold mIf
  rw [Tl_andThen]
  congr 1; funext x h1
  cases x <;> simp only [if_true, Bool.false_eq_true, if_false]
theorem wp_nil {R : List W → MH → Prop} : Tl (mNil n s h) R = R [] h := Tl_some
theorem wp_cons {R : List W → MH → Prop} : Tl (mCons fa fr n s h) R = Tl (fa n s h) fun x h1 => Tl (fr n s h1) fun xs h2 => R (x :: xs) h2 := by
  unfold mCons; simp only [Tl_andThen, Tl_some]
theorem wp_tup : Tl (mTup fr n s h) Q = Tl (fr n s h) fun xs h1 => xs.length ≤ 16777216 ∧ Q (.tup xs) h1 := by
  unfold mTup
  rw [Tl_andThen]
  congr 1; funext xs h1
  by_cases z : xs.length ≤ 16777216
  · simp only [szOk, z, decide_true, if_true, Tl_some, true_and]
  · simp only [szOk, z, decide_false, Bool.false_eq_true, if_false, Tl_none, false_and]
theorem wp_lst : Tl (mLst fr n s h) Q = Tl (fr n s h) fun xs h1 => Tl (newL xs h1) Q := by
  unfold mLst; rw [Tl_andThen]
theorem wp_cb {g : GA} : Tl (mCB g fr n s h) Q = Tl (fr n s h) fun xs h1 => Tl (g xs h1) Q := by
  unfold mCB; rw [Tl_andThen]
theorem wp_call {F : MF} : Tl (mCall F fr n s h) Q = Tl (fr n s h) fun xs h1 => Tl (F n xs h1) Q := by
  unfold mCall; rw [Tl_andThen]
def isS : W → Bool
  | .str _ => true
  | _ => false
theorem wp_m0 {g : GM} : Tl (mM0 g fa n s h) Q = Tl (fa n s h) fun x h1 => isS x = true ∧ Tl (g x [] h1) Q := by
  unfold mM0
  rw [Tl_andThen]
  congr 1; funext x h1
  cases x <;> simp only [isS, true_and, false_and, Bool.false_eq_true, Tl_none]
theorem wp_m1 {g : GM} : Tl (mM1 g fa fb n s h) Q = Tl (fa n s h) fun x h1 => isS x = true ∧ Tl (fb n s h1) fun y h2 => Tl (g x [y] h2) Q := by
  unfold mM1
  rw [Tl_andThen]
  congr 1; funext x h1
  cases x <;> simp only [isS, true_and, false_and, Bool.false_eq_true, Tl_none, Tl_andThen]
theorem wp_ml0 {g : GM} : Tl (mML0 g fa n s h) Q = Tl (fa n s h) fun x h1 => isLst x h1 = true ∧ Tl (g x [] h1) Q := by
  unfold mML0
  rw [Tl_andThen]
  congr 1; funext x h1
  cases isLst x h1 <;> simp only [if_true, Bool.false_eq_true, if_false, Tl_none, true_and, false_and]
theorem wp_ml {g : GM} : Tl (mML g fa fr n s h) Q = Tl (fa n s h) fun x h1 => isLst x h1 = true ∧ Tl (fr n s h1) fun xs h2 => Tl (g x xs h2) Q := by
  unfold mML
  rw [Tl_andThen]
  congr 1; funext x h1
  cases isLst x h1 <;> simp only [if_true, Bool.false_eq_true, if_false, Tl_none, Tl_andThen, true_and, false_and]
theorem wp_isi {t : String} : Tl (mIsi t fa n s h) Q = Tl (fa n s h) fun x h1 => asT ((tyW h1 x).bind fun u => kitB u t) (fun b h2 => Q (.bl b) h2) h1 := by
  unfold mIsi
  rw [Tl_andThen]
  congr 1; funext x h1
  cases (tyW h1 x).bind fun u => kitB u t <;> simp only [Option.map, Tl_none, Tl_some, asT]
theorem wp_isi2 {t t2 : String} : Tl (mIsi2 t t2 fa n s h) Q = Tl (fa n s h) fun x h1 => asT ((tyW h1 x).bind fun u => kitB2 u t t2) (fun b h2 => Q (.bl b) h2) h1 := by
  unfold mIsi2
  rw [Tl_andThen]
  congr 1; funext x h1
  cases (tyW h1 x).bind fun u => kitB2 u t t2 <;> simp only [Option.map, Tl_none, Tl_some, asT]
theorem wp_nopart {R : Option Int → MH → Prop} : Tl (mNoPart n s h) R = R none h := Tl_some
def asI (x : W) (R : Option Int → MH → Prop) (h : MH) : Prop := match x with
  | .int i => R (some i) h
  | _ => False
theorem asI_int {R : Option Int → MH → Prop} {i : Int} : asI (.int i) R h = R (some i) h := rfl
theorem wp_part {R : Option Int → MH → Prop} : Tl (mPart fa n s h) R = Tl (fa n s h) fun x h1 => asI x R h1 := by
  unfold mPart
  cases fa n s h with
  | none => simp only [Tl_none]
  | some p =>
    obtain ⟨x, h1⟩ := p
    cases x <;> simp only [Tl_none, Tl_some, asI]
theorem wp_sl {g : G3} {lo hi : MO} : Tl (mSl g fa lo hi n s h) Q = Tl (fa n s h) fun x h1 => Tl (lo n s h1) fun l h2 => Tl (hi n s h2) fun u h3 => Tl (g x l u h3) Q := by
  unfold mSl
  cases fa n s h with
  | none => simp only [Tl_none]
  | some p =>
    obtain ⟨x, h1⟩ := p
    simp only [Tl_some]
    cases lo n s h1 with
    | none => simp only [Tl_none]
    | some p =>
      obtain ⟨l, h2⟩ := p
      simp only [Tl_some]
      cases hi n s h2 with
      | none => simp only [Tl_none]
      | some p => obtain ⟨u, h3⟩ := p; simp only [Tl_some]
/-! statements -/
def seqK (g : MSt) (n : Nat) (P : Fl → MS → MH → Prop) : Fl → MS → MH → Prop
  | .nx, s, h => Ts (g n s h) P
  | f, s, h => P f s h
theorem seqK_nx {g : MSt} : seqK g n P .nx s h = Ts (g n s h) P := rfl
theorem seqK_rt {g : MSt} {w : W} : seqK g n P (.rt w) s h = P (.rt w) s h := rfl
theorem seqK_bk {g : MSt} : seqK g n P .bk s h = P .bk s h := rfl
theorem seqK_ct {g : MSt} : seqK g n P .ct s h = P .ct s h := rfl
theorem wp_seq {b g : MSt} : Ts (mSeq b g n s h) P = Ts (b n s h) (seqK g n P) := by
  unfold mSeq
  cases b n s h with
  | none => simp only [Ts_none]
  | some p =>
    obtain ⟨f, s1, h1⟩ := p
    cases f <;> simp only [Ts_some, seqK]
theorem wp_next : Ts (mNext n s h) P = P .nx s h := Ts_some
theorem wp_brk : Ts (mBreak n s h) P = P .bk s h := Ts_some
theorem wp_cont : Ts (mCont n s h) P = P .ct s h := Ts_some
theorem wp_drop : Ts (mDrop fa n s h) P = Tl (fa n s h) fun _ h1 => P .nx s h1 := by
  unfold mDrop; simp only [Ts_thenS, Ts_some]
theorem wp_ret : Ts (mRet fa n s h) P = Tl (fa n s h) fun w h1 => P (.rt w) s h1 := by
  unfold mRet; simp only [Ts_thenS, Ts_some]
theorem wp_ifS {f g : MSt} : Ts (mIfS c f g n s h) P = Tl (c n s h) fun b h1 => if b = true then Ts (f n s h1) P else Ts (g n s h1) P := by
  unfold mIfS
  rw [Ts_thenS]
  congr 1; funext x h1
  cases x <;> simp only [if_true, Bool.false_eq_true, if_false]
theorem wp_set {i : Nat} : Ts (mSet i fa n s h) P = Tl (fa n s h) fun w h1 => P .nx (s.set i (some w)) h1 := by
  unfold mSet; simp only [Ts_thenS, Ts_some]
theorem wp_par {i j : Nat} : Ts (mPar i j fa fb n s h) P = Tl (fa n s h) fun v h1 => Tl (fb n s h1) fun w h2 => P .nx ((s.set i (some v)).set j (some w)) h2 := by
  unfold mPar; simp only [Ts_thenS, Ts_some]
theorem wp_par3 {i j l : Nat} : Ts (mPar3 i j l fa fb fc n s h) P = Tl (fa n s h) fun u h1 => Tl (fb n s h1) fun v h2 => Tl (fc n s h2) fun w h3 => P .nx (((s.set i (some u)).set j (some v)).set l (some w)) h3 := by
  unfold mPar3; simp only [Ts_thenS, Ts_some]
theorem wp_asg {g : MG} : Ts (mAsg fa g n s h) P = Tl (fa n s h) fun w h1 => Tl (g n w s h1) fun s2 h2 => P .nx s2 h2 := by
  unfold mAsg
  rw [Ts_thenS]
  congr 1; funext x h1
  cases g n x s h1 with
  | none => simp only [Ts_none, Tl_none]
  | some p => obtain ⟨s2, h2⟩ := p; simp only [Ts_some, Tl_some]
def asP (o : Option MS) (R : MS → MH → Prop) (h : MH) : Prop := match o with
  | some s => R s h
  | none => False
theorem asP_some {R : MS → MH → Prop} : asP (some s) R h = R s h := rfl
theorem wp_pat {p : Pat} {w : W} {R : MS → MH → Prop} : Tl (mgPat p n w s h) R = asP (mPat p w s) R h := by
  unfold mgPat
  cases mPat p w s <;> simp only [Tl_none, Tl_some, asP]
def asH (o : Option MH) (R : MH → Prop) : Prop := match o with
  | some h => R h
  | none => False
theorem asH_some {R : MH → Prop} : asH (some h) R = R h := rfl
theorem wp_sub {g3 : W → W → W → MH → Option MH} {w : W} {R : MS → MH → Prop} : Tl (mgSub fa fb g3 n w s h) R = Tl (fa n s h) fun o h1 => Tl (fb n s h1) fun i h2 => asH (g3 o i w h2) fun h3 => R s h3 := by
  unfold mgSub
  cases fa n s h with
  | none => simp only [Tl_none]
  | some p =>
    obtain ⟨x, h1⟩ := p
    simp only [Tl_some]
    cases fb n s h1 with
    | none => simp only [Tl_none]
    | some p =>
      obtain ⟨l, h2⟩ := p
      simp only [Tl_some]
      cases g3 x l w h2 <;> simp only [Tl_none, Tl_some, asH]
theorem wp_aug {i : Nat} {g : G2} : Ts (mAug i fa g n s h) P = slotK s[i]? (fun x h0 => Tl (fa n s h0) fun y h1 => Tl (g x y h1) fun z h2 => P .nx (s.set i (some z)) h2) h := by
  unfold mAug slotK
  cases s[i]? with
  | none => simp only [Ts_none]
  | some o => cases o <;> simp only [Ts_none, Ts_thenS, Ts_some]
theorem wp_for {fi : MI} {g : MG} {b : MSt} : Ts (mFor fi g b n s h) P = Tl (fi n s h) fun src h1 => Ts (floop src g b n n 0 s h1) P := by
  unfold mFor
  cases fi n s h with
  | none => simp only [Ts_none, Tl_none]
  | some p => obtain ⟨src, h1⟩ := p; simp only [Tl_some]
theorem wp_while {b : MSt} : Ts (mWhile c b n s h) P = Ts (wloop c b n n s h) P := rfl
theorem wp_lc {fi : MI} {p : Pat} {vs : List Nat} : Tl (mLc fi p c fa vs n s h) Q = Tl (fi n s h) fun src h1 => Tl (lcloop src p c fa n h1.length (mwipe s vs) n 0 (h1 ++ [.lst []])) Q := by
  unfold mLc
  cases fi n s h with
  | none => simp only [Tl_none]
  | some p => obtain ⟨src, h1⟩ := p; simp only [Tl_some]
theorem wp_lc2 {fi fi1 : MI} {p p1 : Pat} {vs vs1 : List Nat} : Tl (mLc2 fi p c fi1 p1 d fa vs vs1 n s h) Q = Tl (fi n s h) fun src h1 => Tl (lc2loop src p c fi1 p1 d fa vs1 n h1.length (mwipe s vs) n 0 (h1 ++ [.lst []])) Q := by
  unfold mLc2
  cases fi n s h with
  | none => simp only [Tl_none]
  | some p => obtain ⟨src, h1⟩ := p; simp only [Tl_some]
def defK (Q : W → MH → Prop) : Fl → MS → MH → Prop
  | .rt w, _, h => Q w h
  | .nx, _, h => Q .non h
  | _, _, _ => False
theorem defK_rt {w : W} : defK Q (.rt w) s h = Q w h := rfl
theorem defK_nx : defK Q .nx s h = Q .non h := rfl
theorem wp_def {N : Nat} {B : MSt} {ws : List W} : Tl (mDef N B n ws h) Q = Ts (B n (ws.map some ++ List.replicate (N - ws.length) none) h) (defK Q) := by
  unfold mDef
  cases B n (ws.map some ++ List.replicate (N - ws.length) none) h with
  | none => simp only [Ts_none, Tl_none]
  | some p =>
    obtain ⟨f, s1, h1⟩ := p
    cases f <;> simp only [Ts_some, Tl_some, Tl_none, defK]
/-! sources -/
def srcK (x : W) (h : MH) (R : Src → MH → Prop) : Prop := match x with
  | .ref k => (lstAt h k).isSome = true ∧ R (.cell k) h
  | .tup xs => R (.items xs) h
  | .str z => R (.items (signs z)) h
  | _ => False
theorem srcK_ref {k : Nat} {R : Src → MH → Prop} : srcK (.ref k) h R = ((lstAt h k).isSome = true ∧ R (.cell k) h) := rfl
theorem srcK_tup {xs : List W} {R : Src → MH → Prop} : srcK (.tup xs) h R = R (.items xs) h := rfl
theorem srcK_str {z : Str} {R : Src → MH → Prop} : srcK (.str z) h R = R (.items (signs z)) h := rfl
theorem wp_miseq {R : Src → MH → Prop} : Tl (miSeq fa n s h) R = Tl (fa n s h) fun x h1 => srcK x h1 R := by
  unfold miSeq
  cases fa n s h with
  | none => simp only [Tl_none]
  | some p =>
    obtain ⟨x, h1⟩ := p
    cases x with
    | ref k =>
      simp only [Tl_some, srcK]
      cases lstAt h1 k <;> simp [Tl_none, Tl_some]
    | _ => simp only [Tl_none, Tl_some, srcK]
def rngK (x : W) (h : MH) (R : Src → MH → Prop) : Prop := match x with
  | .int j => small62 j = true ∧ R (.items (rangeW 0 j.toNat)) h
  | _ => False
theorem rngK_int {j : Int} {R : Src → MH → Prop} : rngK (.int j) h R = (small62 j = true ∧ R (.items (rangeW 0 j.toNat)) h) := rfl
theorem wp_range1 {R : Src → MH → Prop} : Tl (miRange1 fa n s h) R = Tl (fa n s h) fun x h1 => rngK x h1 R := by
  unfold miRange1
  cases fa n s h with
  | none => simp only [Tl_none]
  | some p =>
    obtain ⟨x, h1⟩ := p
    cases x with
    | int j =>
      simp only [Tl_some, rngK]
      cases small62 j <;> simp [Tl_none, Tl_some]
    | _ => simp only [Tl_none, Tl_some, rngK]
def enumK (x : W) (h : MH) (R : Src → MH → Prop) : Prop := match x with
  | .ref k => (lstAt h k).isSome = true ∧ R (.enum k) h
  | _ => False
theorem enumK_ref {k : Nat} {R : Src → MH → Prop} : enumK (.ref k) h R = ((lstAt h k).isSome = true ∧ R (.enum k) h) := rfl
theorem wp_enum {R : Src → MH → Prop} : Tl (miEnum fa n s h) R = Tl (fa n s h) fun x h1 => enumK x h1 R := by
  unfold miEnum
  cases fa n s h with
  | none => simp only [Tl_none]
  | some p =>
    obtain ⟨x, h1⟩ := p
    cases x with
    | ref k =>
      simp only [Tl_some, enumK]
      cases lstAt h1 k <;> simp [Tl_none, Tl_some]
    | _ => simp only [Tl_none, Tl_some, enumK]
end
end Mi

namespace Mi
open PySem PySem.Spec PyProof.Rows L2
/-- one cell is changed -/
structure Chg (d : Nat) (h h' : MH) : Prop where
  len : h'.length = h.length
  keep : ∀ i, i ≠ d → h'[i]? = h[i]?
theorem Chg.set {h : MH} {d : Nat} {c : Cell} : Chg d h (h.set d c) := ⟨List.length_set .., fun i hi => List.getElem?_set_ne fun z => hi z.symm⟩
theorem Chg.get {h h' : MH} {d i : Nat} {c : Cell} (x : Chg d h h') (e : h[i]? = some c) (hi : i ≠ d) : h'[i]? = some c := by rw [x.keep i hi, e]
theorem Chg.trans {a b c : MH} {d : Nat} (x : Chg d a b) (y : Chg d b c) : Chg d a c := ⟨y.len.trans x.len, fun i hi => (y.keep i hi).trans (x.keep i hi)⟩
theorem Ext.chg {a b c : MH} {d : Nat} (x : Ext a b) (y : Chg d b c) (hd : a.length ≤ d) : Ext a c := ⟨by rw [y.len]; exact x.len, fun i hi => (y.keep i (by omega)).trans (x.keep i hi)⟩
theorem Bx.chg {a b c : MH} {d k : Nat} (x : Bx k a b) (y : Chg d b c) (hd : a.length ≤ d) (hk : d ≠ k) : Bx k a c := ⟨by rw [y.len]; exact x.len, fun i hi hb => (y.keep i (by omega)).trans (x.keep i hi hb), by
  obtain ⟨p, q, r, e⟩ := x.box
  exact ⟨p, q, r, y.get e (fun z => hk z.symm)⟩⟩
theorem IsBox.lt {h : MH} {b : Nat} (x : IsBox h b) : b < h.length := by
  obtain ⟨_, _, _, e⟩ := x
  exact lt_of_get e
theorem IsBox.chg {h h' : MH} {b d : Nat} (x : IsBox h b) (y : Chg d h h') (hd : b ≠ d) : IsBox h' b := by
  obtain ⟨p, q, r, e⟩ := x
  exact ⟨p, q, r, y.get e hd⟩
theorem IsBox.ext {h h' : MH} {b : Nat} (x : IsBox h b) (y : Ext h h') : IsBox h' b := by
  obtain ⟨p, q, r, e⟩ := x
  exact ⟨p, q, r, y.get e⟩
theorem Ext.toBx {h h' : MH} {b : Nat} (y : Ext h h') (x : IsBox h b) : Bx b h h' := ⟨y.len, fun i hi _ => y.keep i hi, x.ext y⟩
section
variable {n : Nat} {s : MS} {h h0 : MH} {Q : W → MH → Prop} {P : Fl → MS → MH → Prop}
theorem Tl.newL {xs : List W} (hz : xs.length ≤ 16777216) (k : ∀ h', Ext h h' → h'.length = h.length + 1 → h'[h.length]? = some (.lst xs) → Q (.ref h.length) h') : Tl (newL xs h) Q := by
  rw [newL_eq hz, Tl_some]
  exact k _ (Ext.app _ _) (by simp) get_snoc_self
theorem Tl.app {d : Nat} {ys : List W} {y : W} (e : h[d]? = some (.lst ys)) (hz : ys.length < 16777216) (k : ∀ h', Chg d h h' → h'[d]? = some (.lst (ys ++ [y])) → Q .non h') : Tl (gAppend (.ref d) [y] h) Q := by
  have : gAppend (.ref d) [y] h = some (.non, h.set d (.lst (ys ++ [y]))) := by
    unfold gAppend; simp only [lstM_lst e]; simp [hz]
  rw [this, Tl_some]
  exact k _ Chg.set (List.getElem?_set_self (lt_of_get e))
theorem Tl.extend {d k : Nat} {ys zs : List W} (e : h[d]? = some (.lst ys)) (e2 : h[k]? = some (.lst zs)) (hz : ys.length + zs.length ≤ 16777216) (c : ∀ h', Chg d h h' → h'[d]? = some (.lst (ys ++ zs)) → Q .non h') : Tl (gExtend (.ref d) [.ref k] h) Q := by
  have : gExtend (.ref d) [.ref k] h = some (.non, h.set d (.lst (ys ++ zs))) := by
    unfold gExtend; simp only [lstM_lst e, lstM_lst e2]; simp [szOk, hz]
  rw [this, Tl_some]
  exact c _ Chg.set (List.getElem?_set_self (lt_of_get e))
theorem Tl.pop {d : Nat} {ys : List W} {y : W} (e : h[d]? = some (.lst (ys ++ [y]))) (k : ∀ h', Chg d h h' → h'[d]? = some (.lst ys) → Q y h') : Tl (gPop (.ref d) [] h) Q := by
  have : gPop (.ref d) [] h = some (y, h.set d (.lst ys)) := by
    unfold gPop; simp only [lstM_lst e]; simp
  rw [this, Tl_some]
  exact k _ Chg.set (List.getElem?_set_self (lt_of_get e))
/-- a statement by what is told behind it, where it goes on -/
theorem Ts.cut {f g : MSt} (R : MS → MH → Prop) (a : Ts (f n s h) fun fl s1 h1 => fl = .nx ∧ R s1 h1) (b : ∀ s1 h1, R s1 h1 → Ts (g n s1 h1) P) : Ts (mSeq f g n s h) P := by
  rw [wp_seq]
  exact a.by fun fl s1 h1 ⟨e, r⟩ => by subst e; exact b s1 h1 r
theorem isLst_ref {d : Nat} {ys : List W} (e : h[d]? = some (.lst ys)) : isLst (.ref d) h = true := by
  simp [isLst, lstAt_lst e]
theorem lstAt_isSome {d : Nat} {ys : List W} (e : h[d]? = some (.lst ys)) : (lstAt h d).isSome = true := by
  simp [lstAt_lst e]
def Src.is (src : Src) (xs : List W) (h : MH) : Prop := ∀ i, src.get h i = some xs[i]?
theorem is_items {xs : List W} : (Src.items xs).is xs h := fun _ => rfl
theorem is_cell {k : Nat} {xs : List W} (e : h[k]? = some (.lst xs)) : (Src.cell k).is xs h := fun i => by simp [Src.get, lstAt_lst e]
theorem is_cell_fz {k : Nat} {xs : List W} (e : h[k]? = some (.fz xs)) : (Src.cell k).is xs h := fun i => by simp [Src.get, Mi.lstAt, e]
def enumW (k : Nat) : List W → List W
  | [] => []
  | x :: r => .tup [.int k, x] :: enumW (k + 1) r
theorem enumW_length {k : Nat} {xs : List W} : (enumW k xs).length = xs.length := by
  induction xs generalizing k with
  | nil => rfl
  | cons x r ih => simp [enumW, ih]
theorem enumW_get {k i : Nat} {xs : List W} : (enumW k xs)[i]? = xs[i]?.map fun x => .tup [.int ((k + i : Nat) : Int), x] := by
  induction xs generalizing k i with
  | nil => simp [enumW]
  | cons x r ih =>
    cases i with
    | zero => simp [enumW]
    | succ i => simp [enumW, ih, show k + 1 + i = k + (i + 1) by omega]
theorem is_enum {k : Nat} {xs : List W} (e : h[k]? = some (.lst xs)) : (Src.enum k).is (enumW 0 xs) h := fun i => by
  rw [enumW_get]; simp [Src.get, lstAt_lst e]
/-- a comprehension that changes nothing -/
theorem Tl.lc_e {src : Src} {xs : List W} {p : Pat} {t : MT} {f : M} {s0 : MS} (c : W → Bool) (g : W → W) (still : ∀ h', Ext h0 h' → src.is xs h') (hn : xs.length < n) (hz : xs.length ≤ 16777216)
    (turn : ∀ x ∈ xs, ∀ h1, Ext h0 h1 → ∃ s1, mPat p x s0 = some s1 ∧ Tl (t n s1 h1) fun b h2 => b = c x ∧ Ext h1 h2 ∧ (b = true → Tl (f n s1 h2) fun y h3 => y = g x ∧ Ext h2 h3))
    (fin : ∀ h', Ext h0 h' → h'[h0.length]? = some (.lst ((xs.filter c).map g)) → Q (.ref h0.length) h') : Tl (lcloop src p t f n h0.length s0 n 0 (h0 ++ [.lst []])) Q := by
  obtain ⟨acc, h', e, d1, x1, x2⟩ := lc_run (src := src) (xs := xs) (p := p) (t := t) (f := f) (n := n) (d := h0.length) (s0 := s0)
    (fun i acc hh => acc = ((xs.take i).filter c).map g ∧ Ext h0 hh) (fun i acc hh I _ => still hh I.2 i)
    (fun i x acc hh hx ⟨I1, I2⟩ hd => by
      have hi := lt_of_get hx
      have tk : xs.take (i + 1) = xs.take i ++ [x] := by rw [List.take_add_one, hx]; rfl
      obtain ⟨s1, e1, b, h2, e2, hb, x2, nx⟩ := turn x (List.mem_of_getElem? hx) hh I2
      refine ⟨s1, e1, ?_⟩
      cases b with
      | false => exact .inl ⟨h2, e2, x2.get hd, by rw [tk, List.filter_append, I1]; simp [← hb], I2.trans x2⟩
      | true =>
        obtain ⟨y, h3, e3, hy, x3⟩ := nx rfl
        refine .inr ⟨h2, y, h3, e2, e3, x3.get (x2.get hd), ?_, ?_, (I2.trans (x2.trans x3)).set (Nat.le_refl _)⟩
        · rw [I1, List.length_map]
          exact Nat.lt_of_le_of_lt (List.length_filter_le _ _) (by rw [List.length_take]; omega)
        · rw [tk, List.filter_append, I1, hy]; simp [← hb])
    n 0 [] (h0 ++ [.lst []]) (Nat.zero_le _) (by omega) ⟨by simp, Ext.app _ _⟩ get_snoc_self
  exact ⟨_, h', e, fin h' x2 (by rw [d1, x1, List.take_length])⟩
/-- a comprehension that draws -/
theorem Tl.lc_b {src : Src} {xs : List W} {p : Pat} {f : M} {s0 : MS} {b : Nat} (R : Nat → W → Prop) (box : IsBox h0 b) (still : ∀ h', Bx b h0 h' → src.is xs h') (hn : xs.length < n) (hz : xs.length ≤ 16777216)
    (turn : ∀ (i : Nat) (x : W), xs[i]? = some x → ∀ h1, Bx b h0 h1 → ∃ s1, mPat p x s0 = some s1 ∧ Tl (f n s1 h1) fun y h2 => R i y ∧ Bx b h1 h2)
    (fin : ∀ (h' : MH) (ys : List W), Bx b h0 h' → h'[h0.length]? = some (.lst ys) → ys.length = xs.length → (∀ (i : Nat) (y : W), ys[i]? = some y → R i y) → Q (.ref h0.length) h') : Tl (lcloop src p mYes f n h0.length s0 n 0 (h0 ++ [.lst []])) Q := by
  have hb := box.lt
  obtain ⟨acc, h', e, d1, x1, x2, x3⟩ := lc_run (src := src) (xs := xs) (p := p) (t := mYes) (f := f) (n := n) (d := h0.length) (s0 := s0)
    (fun i acc hh => acc.length = i ∧ Bx b h0 hh ∧ ∀ (j : Nat) (y : W), acc[j]? = some y → R j y) (fun i acc hh I _ => still hh I.2.1 i)
    (fun i x acc hh hx ⟨I1, I2, I3⟩ hd => by
      have hi := lt_of_get hx
      obtain ⟨s1, e1, y, h2, e2, hy, x2⟩ := turn i x hx hh I2
      refine ⟨s1, e1, .inr ⟨hh, y, h2, rfl, e2, x2.get hd (by omega), by omega, by simp [I1], (I2.trans x2).set (Nat.le_refl _) (by omega), fun j z hz => ?_⟩⟩
      rcases get_snoc hz with q | ⟨q1, q2⟩
      · exact I3 j z q
      · rw [q1, q2, I1]; exact hy)
    n 0 [] (h0 ++ [.lst []]) (Nat.zero_le _) (by omega) ⟨rfl, (Ext.app _ _).toBx box, fun j y q => by simp at q⟩ get_snoc_self
  exact ⟨_, h', e, fin h' acc x2 d1 x1 x3⟩
/-- a comprehension that draws and leaves out -/
theorem Tl.lc_bf {src : Src} {xs : List W} {p : Pat} {t : MT} {f : M} {s0 : MS} {b : Nat} (R : W → Prop) (box : IsBox h0 b) (still : ∀ h', Bx b h0 h' → src.is xs h') (hn : xs.length < n) (hz : xs.length ≤ 16777216)
    (turn : ∀ (i : Nat) (x : W), xs[i]? = some x → ∀ h1, Bx b h0 h1 → ∃ s1, mPat p x s0 = some s1 ∧ Tl (t n s1 h1) fun c h2 => Bx b h1 h2 ∧ (c = true → Tl (f n s1 h2) fun y h3 => R y ∧ Bx b h2 h3))
    (fin : ∀ (h' : MH) (ys : List W), Bx b h0 h' → h'[h0.length]? = some (.lst ys) → ys.length ≤ xs.length → (∀ y ∈ ys, R y) → Q (.ref h0.length) h') : Tl (lcloop src p t f n h0.length s0 n 0 (h0 ++ [.lst []])) Q := by
  have hb := box.lt
  obtain ⟨acc, h', e, d1, x1, x2, x3⟩ := lc_run (src := src) (xs := xs) (p := p) (t := t) (f := f) (n := n) (d := h0.length) (s0 := s0)
    (fun i acc hh => acc.length ≤ i ∧ Bx b h0 hh ∧ ∀ y ∈ acc, R y) (fun i acc hh I _ => still hh I.2.1 i)
    (fun i x acc hh hx ⟨I1, I2, I3⟩ hd => by
      have hi := lt_of_get hx
      obtain ⟨s1, e1, c, h2, e2, x2, nx⟩ := turn i x hx hh I2
      refine ⟨s1, e1, ?_⟩
      cases c with
      | false => exact .inl ⟨h2, e2, x2.get hd (by omega), by omega, I2.trans x2, I3⟩
      | true =>
        obtain ⟨y, h3, e3, hy, x3⟩ := nx rfl
        refine .inr ⟨h2, y, h3, e2, e3, x3.get (x2.get hd (by omega)) (by omega), by omega, by simp; omega, (I2.trans (x2.trans x3)).set (Nat.le_refl _) (by omega), fun z hz => ?_⟩
        rcases List.mem_append.mp hz with q | q
        · exact I3 z q
        · rw [List.mem_singleton.mp q]; exact hy)
    n 0 [] (h0 ++ [.lst []]) (Nat.zero_le _) (by omega) ⟨Nat.le_refl _, (Ext.app _ _).toBx box, fun y q => by simp at q⟩ get_snoc_self
  exact ⟨_, h', e, fin h' acc x2 d1 x1 x3⟩
/-- what a turn of a loop may do -/
def loopK (I : MS → MH → Prop) (P : Fl → MS → MH → Prop) : Fl → MS → MH → Prop
  | .nx, s, h => I s h
  | .ct, s, h => I s h
  | .bk, s, h => P .nx s h
  | .rt w, s, h => P (.rt w) s h
theorem loopK_nx {I : MS → MH → Prop} : loopK I P .nx s h = I s h := rfl
theorem loopK_ct {I : MS → MH → Prop} : loopK I P .ct s h = I s h := rfl
theorem loopK_bk {I : MS → MH → Prop} : loopK I P .bk s h = P .nx s h := rfl
theorem loopK_rt {I : MS → MH → Prop} {w : W} : loopK I P (.rt w) s h = P (.rt w) s h := rfl
theorem Ts.for0 {src : Src} {g : MG} {b : MSt} (xs : List W) (I : Nat → MS → MH → Prop) (still : ∀ i s h, I i s h → src.is xs h)
    (turn : ∀ (i : Nat) (x : W) (s : MS) (h : MH), xs[i]? = some x → I i s h → Tl (g n x s h) fun s1 h1 => Ts (b n s1 h1) (loopK (I (i + 1)) P)) (fin : ∀ s h, I xs.length s h → P .nx s h) :
    ∀ (k i : Nat) (s : MS) (h : MH), i ≤ xs.length → xs.length - i < k → I i s h → Ts (floop src g b n k i s h) P := by
  intro k
  induction k with
  | zero => intro i s h _ hk; omega
  | succ k ih =>
    intro i s h hi hk hI
    unfold floop
    rw [still i s h hI i]
    by_cases hlt : i < xs.length
    · have ex : xs[i]? = some xs[i] := List.getElem?_eq_getElem hlt
      rw [ex]
      obtain ⟨s1, h1, e1, fl, s2, h2, e2, q⟩ := turn i _ s h ex hI
      simp only [e1]
      cases fl with
      | nx => simp only [e2]; exact ih (i + 1) s2 h2 (by omega) (by omega) q
      | ct => simp only [e2]; exact ih (i + 1) s2 h2 (by omega) (by omega) q
      | bk => simp only [e2]; exact Ts_some ▸ q
      | rt w => simp only [e2]; exact Ts_some ▸ q
    · have : i = xs.length := by omega
      subst this
      rw [List.getElem?_eq_none (Nat.le_refl _)]
      exact Ts_some ▸ fin s h hI
theorem Ts.for_ {src : Src} {g : MG} {b : MSt} (xs : List W) (I : Nat → MS → MH → Prop) (still : ∀ i s h, I i s h → src.is xs h) (hn : xs.length < n) (start : I 0 s h)
    (turn : ∀ (i : Nat) (x : W) (s : MS) (h : MH), xs[i]? = some x → I i s h → Tl (g n x s h) fun s1 h1 => Ts (b n s1 h1) (loopK (I (i + 1)) P)) (fin : ∀ s h, I xs.length s h → P .nx s h) : Ts (floop src g b n n 0 s h) P :=
  Ts.for0 xs I still turn fin n 0 s h (Nat.zero_le _) (by omega) start
theorem Ts.while0 {c : MT} {b : MSt} (I : Nat → MS → MH → Prop)
    (turn : ∀ m s h, I m s h → Tl (c n s h) fun t h1 => if t = true then Ts (b n s h1) (loopK (fun s2 h2 => ∃ m', m' < m ∧ I m' s2 h2) P) else P .nx s h1) :
    ∀ (k m : Nat) (s : MS) (h : MH), m < k → I m s h → Ts (wloop c b n k s h) P := by
  intro k
  induction k with
  | zero => intro m s h hk; omega
  | succ k ih =>
    intro m s h hk hI
    unfold wloop
    rw [Ts_thenS]
    refine (turn m s h hI).by fun t h1 q => ?_
    cases t with
    | false => simp only [Bool.false_eq_true, if_false] at q ⊢; exact Ts_some ▸ q
    | true =>
      simp only [if_true] at q ⊢
      obtain ⟨fl, s2, h2, e2, q⟩ := q
      cases fl with
      | nx => obtain ⟨m', hm, q⟩ := q; simp only [e2]; exact ih m' s2 h2 (by omega) q
      | ct => obtain ⟨m', hm, q⟩ := q; simp only [e2]; exact ih m' s2 h2 (by omega) q
      | bk => simp only [e2]; exact Ts_some ▸ q
      | rt w => simp only [e2]; exact Ts_some ▸ q
theorem Ts.while_ {c : MT} {b : MSt} (m : Nat) (I : Nat → MS → MH → Prop) (start : I m s h) (hm : m < n)
    (turn : ∀ m s h, I m s h → Tl (c n s h) fun t h1 => if t = true then Ts (b n s h1) (loopK (fun s2 h2 => ∃ m', m' < m ∧ I m' s2 h2) P) else P .nx s h1) : Ts (wloop c b n n s h) P :=
  Ts.while0 I turn n m s h hm start
end
end Mi

namespace Mi
open PySem PySem.Spec PyProof.Rows L2
section
variable {n k : Nat} {s : MS} {h : MH} {Q : W → MH → Prop} {i j : Int} {a b : Str} {xs ys : List W}
def ixK (o : Option W) (Q : W → MH → Prop) (h : MH) : Prop := match o with
  | some w => Q w h
  | none => False
theorem ixK_some {w : W} : ixK (some w) Q h = Q w h := rfl
theorem atI_n {α : Type} {xs : List α} (i : Nat) : L2.atI xs (i : Int) = xs[i]? := by
  unfold L2.atI ixN
  rw [if_pos (by omega)]
  by_cases c : (i : Int) < (xs.length : Int)
  · rw [if_pos c]; simp
  · rw [if_neg c, List.getElem?_eq_none (by omega)]; rfl
theorem atI_k0 {α : Type} {xs : List α} : L2.atI xs 0 = xs[0]? := atI_n 0
theorem atI_k1 {α : Type} {xs : List α} : L2.atI xs 1 = xs[1]? := atI_n 1
theorem atI_k2 {α : Type} {xs : List α} : L2.atI xs 2 = xs[2]? := atI_n 2
theorem atI_k3 {α : Type} {xs : List α} : L2.atI xs 3 = xs[3]? := atI_n 3
theorem atI_k4 {α : Type} {xs : List α} : L2.atI xs 4 = xs[4]? := atI_n 4
theorem atI_k5 {α : Type} {xs : List α} : L2.atI xs 5 = xs[5]? := atI_n 5
theorem atI_k6 {α : Type} {xs : List α} : L2.atI xs 6 = xs[6]? := atI_n 6
theorem atI_k8 {α : Type} {xs : List α} : L2.atI xs 8 = xs[8]? := atI_n 8
theorem atI_k9 {α : Type} {xs : List α} : L2.atI xs 9 = xs[9]? := atI_n 9
theorem atI_m1 {α : Type} {xs : List α} : L2.atI xs (-1) = xs[xs.length - 1]? := by
  unfold L2.atI ixN
  rw [if_neg (by omega)]
  by_cases c : xs.length = 0
  · rw [if_neg (by omega)]; simp [List.length_eq_zero_iff.mp c]
  · rw [if_pos (by omega)]; simp only [Option.bind]
    congr 1; omega
theorem atI_get {α : Type} {xs : List α} {i : Int} (h0 : 0 ≤ i) (h1 : i < xs.length) : ∃ w, L2.atI xs i = some w ∧ xs[i.toNat]? = some w := by
  have : i.toNat < xs.length := by omega
  refine ⟨xs[i.toNat], ?_, List.getElem?_eq_getElem this⟩
  have e := atI_n (xs := xs) i.toNat
  rw [Int.toNat_of_nonneg h0] at e
  rw [e]; exact List.getElem?_eq_getElem this
theorem dicAt_c : dicAt h n = match h[n]? with
  | some (.dic kvs) => some kvs
  | some (.fd kvs) => some kvs
  | _ => none := rfl
theorem g_ix_t : Tl (gIxD gIx (.tup xs) (.int i) h) Q = ixK (L2.atI xs i) Q h := by
  show Tl ((L2.atI xs i).map fun w => (w, h)) Q = _
  cases L2.atI xs i <;> simp only [Option.map, Tl_none, Tl_some, ixK]
theorem g_ix_s : Tl (gIxD gIx (.str a) (.int i) h) Q = (a.length ≤ 16777216 ∧ ixK ((L2.atI a.cps.toList i).map fun c => .str ⟨#[c]⟩) Q h) := by
  show Tl (if szOk a.length = true then (L2.atI a.cps.toList i).map fun c => (W.str ⟨#[c]⟩, h) else none) Q = _
  by_cases z : a.length ≤ 16777216
  · simp only [szOk, z, decide_true, if_true, true_and]
    cases L2.atI a.cps.toList i <;> simp only [Option.map, Tl_none, Tl_some, ixK]
  · simp only [szOk, z, decide_false, Bool.false_eq_true, if_false, Tl_none, false_and]
def cIx (c : Option Cell) (y : W) (Q : W → MH → Prop) (h : MH) : Prop := match c, y with
  | some (.lst xs), .int i => ixK (L2.atI xs i) Q h
  | some (.fz xs), .int i => ixK (L2.atI xs i) Q h
  | some (.dic kvs), y => ixK ((keyW y).bind (getW kvs)) Q h
  | some (.fd kvs), y => ixK ((keyW y).bind (getW kvs)) Q h
  | _, _ => False
theorem cIx_l : cIx (some (.lst xs)) (.int i) Q h = ixK (L2.atI xs i) Q h := rfl
theorem cIx_z : cIx (some (.fz xs)) (.int i) Q h = ixK (L2.atI xs i) Q h := rfl
theorem cIx_d {kvs : List (Key × W)} {y : W} : cIx (some (.dic kvs)) y Q h = ixK ((keyW y).bind (getW kvs)) Q h := by cases y <;> rfl
theorem cIx_f {kvs : List (Key × W)} {y : W} : cIx (some (.fd kvs)) y Q h = ixK ((keyW y).bind (getW kvs)) Q h := by cases y <;> rfl
theorem g_ix_r {y : W} : Tl (gIxD gIx (.ref n) y h) Q = cIx h[n]? y Q h := by
  unfold gIxD gIx
  simp only [dicAt, seqOf, lstAt]
  cases h[n]? with
  | none => cases y <;> simp [Tl_none, cIx]
  | some c =>
    cases c with
    | lst xs =>
      cases y with
      | int i => simp only [cIx]; cases L2.atI xs i <;> simp [Tl_none, Tl_some, ixK]
      | _ => simp [Tl_none, cIx]
    | fz xs =>
      cases y with
      | int i => simp only [cIx]; cases L2.atI xs i <;> simp [Tl_none, Tl_some, ixK]
      | _ => simp [Tl_none, cIx]
    | dic kvs =>
      rw [cIx_d]
      simp only []
      cases ((keyW y).bind (getW kvs)) <;> simp [Tl_none, Tl_some, ixK]
    | fd kvs =>
      rw [cIx_f]
      simp only []
      cases ((keyW y).bind (getW kvs)) <;> simp [Tl_none, Tl_some, ixK]
theorem g_sub : Mi.gSub (.int i) (.int j) h = some (.int (i - j), h) := rfl
theorem g_lt : gLt (.int i) (.int j) h = some (.bl (decide (i < j)), h) := rfl
theorem g_le : gLe (.int i) (.int j) h = some (.bl (decide (i ≤ j)), h) := rfl
theorem g_gt : gGt (.int i) (.int j) h = some (.bl (decide (j < i)), h) := rfl
theorem g_ge : gGe (.int i) (.int j) h = some (.bl (decide (j ≤ i)), h) := rfl
theorem g_addi : gAdd (.int i) (.int j) h = some (.int (i + j), h) := rfl
theorem g_addI : gAddI (.int i) (.int j) h = some (.int (i + j), h) := rfl
theorem g_adds : Tl (gAdd (.str a) (.str b) h) Q = (a.length + b.length ≤ 16777216 ∧ Q (.str (a ++ b)) h) := by
  show Tl (if szOk (a.length + b.length) = true then some (W.str (a ++ b), h) else none) Q = _
  by_cases z : a.length + b.length ≤ 16777216
  · simp only [szOk, z, decide_true, if_true, Tl_some, true_and]
  · simp only [szOk, z, decide_false, Bool.false_eq_true, if_false, Tl_none, false_and]
theorem g_addt : Tl (gAdd (.tup xs) (.tup ys) h) Q = (xs.length + ys.length ≤ 16777216 ∧ Q (.tup (xs ++ ys)) h) := by
  show Tl (if szOk (xs.length + ys.length) = true then some (W.tup (xs ++ ys), h) else none) Q = _
  by_cases z : xs.length + ys.length ≤ 16777216
  · simp only [szOk, z, decide_true, if_true, Tl_some, true_and]
  · simp only [szOk, z, decide_false, Bool.false_eq_true, if_false, Tl_none, false_and]
theorem Tl.addl {d e : Nat} (e1 : h[d]? = some (.lst xs)) (e2 : h[e]? = some (.lst ys)) (hz : xs.length + ys.length ≤ 16777216) (c : ∀ h', Ext h h' → h'.length = h.length + 1 → h'[h.length]? = some (.lst (xs ++ ys)) → Q (.ref h.length) h') : Tl (gAdd (.ref d) (.ref e) h) Q := by
  have : gAdd (.ref d) (.ref e) h = Mi.newL (xs ++ ys) h := by
    simp only [gAdd, lstM_lst e1, lstM_lst e2]
  rw [this]
  exact Tl.newL (by simpa using hz) c
theorem g_mul : Tl (gMul (.int i) (.int j) h) Q = (cMul i j = true ∧ Q (.int (i * j)) h) := by
  show Tl (if cMul i j = true then some (W.int (i * j), h) else none) Q = _
  cases cMul i j <;> simp [Tl_none, Tl_some]
theorem g_muls : Tl (gMul (.str a) (.int j) h) Q = (a.length ≤ 1000 ∧ -1000 ≤ j ∧ j ≤ 1000 ∧ Q (.str (repS a j)) h) := by
  show Tl (if (decide (a.length ≤ 1000) && decide (-1000 ≤ j) && decide (j ≤ 1000)) = true then some (W.str (repS a j), h) else none) Q = _
  by_cases z : (decide (a.length ≤ 1000) && decide (-1000 ≤ j) && decide (j ≤ 1000)) = true
  · rw [if_pos z, Tl_some]
    simp only [Bool.and_eq_true, decide_eq_true_eq] at z
    simp [z.1.1, z.1.2, z.2]
  · rw [if_neg z, Tl_none]
    simp only [Bool.and_eq_true, decide_eq_true_eq] at z
    exact propext ⟨False.elim, fun q => z ⟨⟨q.1, q.2.1⟩, q.2.2.1⟩⟩
theorem g_fdiv : Tl (gFdiv (.int i) (.int j) h) Q = (0 < j ∧ j < 1073741824 ∧ Q (.int (i / j)) h) := by
  show Tl (if (decide (0 < j) && decide (j < 1073741824)) = true then some (W.int (i / j), h) else none) Q = _
  by_cases z : (decide (0 < j) && decide (j < 1073741824)) = true
  · rw [if_pos z, Tl_some]
    simp only [Bool.and_eq_true, decide_eq_true_eq] at z
    simp [z.1, z.2]
  · rw [if_neg z, Tl_none]
    simp only [Bool.and_eq_true, decide_eq_true_eq] at z
    exact propext ⟨False.elim, fun q => z ⟨q.1, q.2.1⟩⟩
theorem g_mod : Tl (gMod (.int i) (.int j) h) Q = (0 < j ∧ Q (.int (i % j)) h) := by
  show Tl (if decide (0 < j) = true then some (W.int (i % j), h) else none) Q = _
  by_cases z : 0 < j
  · simp [z, Tl_some]
  · simp [z, Tl_none]
theorem g_neg : gNeg (.int i) h = some (.int (-i), h) := rfl
theorem g_eqs : gEq (.str a) (.str b) h = some (.bl (decide (a = b)), h) := rfl
theorem g_nes : gNe (.str a) (.str b) h = some (.bl (!decide (a = b)), h) := rfl
theorem g_eqi : gEq (.int i) (.int j) h = some (.bl (i == j), h) := by simp [gEq, eq_ints]
theorem g_nei : gNe (.int i) (.int j) h = some (.bl (!(i == j)), h) := by simp [gNe, eq_ints]
theorem g_min : gMin [.int i, .int j] h = some (.int (if j < i then j else i), h) := rfl
theorem g_max : gMax [.int i, .int j] h = some (.int (if j > i then j else i), h) := rfl
theorem g_int_b {c : Bool} : gInt3 [.bl c] h = some (.int (if c then 1 else 0), h) := rfl
theorem g_int_i : gInt3 [.int i] h = some (.int i, h) := rfl
theorem g_is_non {x : W} : gIs x .non h = some (.bl (isNon x), h) := rfl
theorem g_in_non {x : W} {k : Str} (hx : flatW x = true) : gInD false gIn x (.tup [.non, .str k]) h = some (.bl (eqV .non (flV x) || eqV (.str k) (flV x)), h) := by
  have h2 : ([W.non, W.str k].all flatW) = true := rfl
  simp [gInD, gIn, hasW, seqOf, hx, h2, inW, flV]
theorem g_lens : Tl (gLen [.str a] h) Q = (a.length ≤ 16777216 ∧ Q (.int a.length) h) := by
  show Tl (if szOk a.length = true then some (W.int a.length, h) else none) Q = _
  by_cases z : a.length ≤ 16777216
  · simp only [szOk, z, decide_true, if_true, Tl_some, true_and]
  · simp only [szOk, z, decide_false, Bool.false_eq_true, if_false, Tl_none, false_and]
theorem g_cuts {lo hi : Option Int} : Tl (gCut (.str a) lo hi h) Q = (a.length ≤ 16777216 ∧ Q (.str (cutS a lo hi)) h) := by
  show Tl (if szOk a.length = true then some (W.str (cutS a lo hi), h) else none) Q = _
  by_cases z : a.length ≤ 16777216
  · simp only [szOk, z, decide_true, if_true, Tl_some, true_and]
  · simp only [szOk, z, decide_false, Bool.false_eq_true, if_false, Tl_none, false_and]
theorem g_cutt {lo hi : Option Int} : gCut (.tup xs) lo hi h = some (.tup (cutW xs lo hi), h) := rfl
theorem Tl.cutl {d : Nat} {lo hi : Option Int} (e : h[d]? = some (.lst xs)) (hz : xs.length ≤ 16777216) (c : ∀ h', Ext h h' → h'.length = h.length + 1 → h'[h.length]? = some (.lst (cutW xs lo hi)) → Q (.ref h.length) h') : Tl (gCut (.ref d) lo hi h) Q := by
  have : gCut (.ref d) lo hi h = Mi.newL (cutW xs lo hi) h := by simp only [gCut, lstAt_lst e]
  rw [this]
  exact Tl.newL (Nat.le_trans (by unfold cutW; rw [List.length_take, List.length_drop]; omega) hz) c
theorem g_lent : gLen [.tup xs] h = some (.int xs.length, h) := rfl
def cLen (c : Option Cell) (Q : W → MH → Prop) (h : MH) : Prop := match c with
  | some (.lst xs) => Q (.int xs.length) h
  | some (.fz xs) => Q (.int xs.length) h
  | _ => False
theorem cLen_l : cLen (some (.lst xs)) Q h = Q (.int xs.length) h := rfl
theorem cLen_z : cLen (some (.fz xs)) Q h = Q (.int xs.length) h := rfl
theorem g_lenr : Tl (gLen [.ref n] h) Q = cLen h[n]? Q h := by
  unfold gLen
  simp only [lstAt]
  cases h[n]? with
  | none => simp [Tl_none, cLen]
  | some c => cases c <;> simp [Tl_none, Tl_some, cLen]
theorem g_tupt : gTuple [.tup xs] h = some (.tup xs, h) := rfl
def cTup (c : Option Cell) (Q : W → MH → Prop) (h : MH) : Prop := match c with
  | some (.lst xs) => Q (.tup xs) h
  | some (.fz xs) => Q (.tup xs) h
  | _ => False
theorem cTup_l : cTup (some (.lst xs)) Q h = Q (.tup xs) h := rfl
theorem g_tupr : Tl (gTuple [.ref n] h) Q = cTup h[n]? Q h := by
  unfold gTuple
  simp only [lstAt]
  cases h[n]? with
  | none => simp [Tl_none, cTup]
  | some c => cases c <;> simp [Tl_none, Tl_some, cTup]
theorem g_listt : gList [.tup xs] h = newL xs h := rfl
def cLst (c : Option Cell) : Bool := match c with
  | some (.lst _) => true
  | some (.fz _) => true
  | _ => false
theorem cLst_l : cLst (some (.lst xs)) = true := rfl
theorem cLst_z : cLst (some (.fz xs)) = true := rfl
theorem isLst_r : isLst (.ref n) h = cLst h[n]? := by
  simp only [isLst, lstAt]
  cases h[n]? with
  | none => rfl
  | some c => cases c <;> rfl
theorem lstAt_r : (lstAt h n).isSome = cLst h[n]? := by
  simp only [lstAt]
  cases h[n]? with
  | none => rfl
  | some c => cases c <;> rfl
def cTr (c : Option Cell) : Option Bool := match c with
  | some (.lst xs) => some (!xs.isEmpty)
  | some (.fz xs) => some (!xs.isEmpty)
  | some (.dic kvs) => some (!kvs.isEmpty)
  | _ => none
theorem cTr_l : cTr (some (.lst xs)) = some (!xs.isEmpty) := rfl
theorem tr_r : trW h (.ref n) = cTr h[n]? := rfl
theorem tr_b {c : Bool} : trW h (.bl c) = some c := rfl
def jK (o : Option Nat) (F : Nat → MH) (R : MH → Prop) : Prop := match o with
  | some j => R (F j)
  | none => False
theorem jK_some {j : Nat} {F : Nat → MH} {R : MH → Prop} : jK (some j) F R = R (F j) := rfl
def kK (o : Option Key) (F : Key → MH) (R : MH → Prop) : Prop := match o with
  | some j => R (F j)
  | none => False
theorem kK_some {j : Key} {F : Key → MH} {R : MH → Prop} : kK (some j) F R = R (F j) := rfl
def cSet (c : Option Cell) (n : Nat) (y v : W) (h : MH) (R : MH → Prop) : Prop := match c, y with
  | some (.lst xs), .int i => jK (ixN xs.length i) (fun j => h.set n (.lst (xs.set j v))) R
  | some (.dic kvs), y => kvs.length < 16777216 ∧ kK (keyW y) (fun k => h.set n (.dic (putW kvs k v))) R
  | _, _ => False
theorem cSet_l {v : W} {R : MH → Prop} : cSet (some (.lst xs)) n (.int i) v h R = jK (ixN xs.length i) (fun j => h.set n (.lst (xs.set j v))) R := rfl
theorem cSet_d {kvs : List (Key × W)} {y v : W} {R : MH → Prop} : cSet (some (.dic kvs)) n y v h R = (kvs.length < 16777216 ∧ kK (keyW y) (fun k => h.set n (.dic (putW kvs k v))) R) := by cases y <;> rfl
theorem g_set {y v : W} {R : MH → Prop} : asH (gSetD (.ref n) y v h) R = cSet h[n]? n y v h R := by
  cases e : h[n]? with
  | none => cases y <;> simp [gSetD, gSetIx, dicM, lstM, e, asH, cSet]
  | some c =>
    cases c with
    | lst xs =>
      cases y with
      | int i => rw [cSet_l]; cases q : ixN xs.length i <;> simp [gSetD, gSetIx, dicM, lstM, e, asH, jK, q]
      | _ => simp [gSetD, gSetIx, dicM, lstM, e, asH, cSet]
    | dic kvs =>
      rw [cSet_d]
      by_cases z : kvs.length < 16777216
      · cases q : keyW y <;> simp [gSetD, dicM, e, asH, kK, z, q]
      · cases q : keyW y <;> simp [gSetD, dicM, e, asH, kK, z, q]
    | fz xs => cases y <;> simp [gSetD, gSetIx, dicM, lstM, e, asH, cSet]
    | fd kvs => cases y <;> simp [gSetD, gSetIx, dicM, lstM, e, asH, cSet]
theorem ixN_0 {k : Nat} : ixN (k + 1) 0 = some 0 := by
  unfold ixN; rw [if_pos (by omega), if_pos (by omega)]; rfl
theorem ixN_1 {k : Nat} : ixN (k + 1 + 1) 1 = some 1 := by
  unfold ixN; rw [if_pos (by omega), if_pos (by omega)]; rfl
theorem ixN_2 {k : Nat} : ixN (k + 1 + 1 + 1) 2 = some 2 := by
  unfold ixN; rw [if_pos (by omega), if_pos (by omega)]; rfl
/-! trees that may be compared -/
mutual
def okT : W → Bool
  | .non => true
  | .bl _ => true
  | .int _ => true
  | .str x => PyData.strOk x
  | .tup xs => okTs xs
  | .ref _ => false
def okTs : List W → Bool
  | [] => true
  | x :: xs => okT x && okTs xs
end
mutual
def dpW : W → Nat
  | .tup xs => dpWs xs + 1
  | _ => 0
def dpWs : List W → Nat
  | [] => 0
  | x :: xs => max (dpW x) (dpWs xs)
end
mutual
def dtW : W → PyData
  | .non => .none
  | .bl b => .bool b
  | .int i => .int i
  | .str x => .str x
  | .tup xs => .tuple (dtWs xs)
  | .ref _ => .none
def dtWs : List W → List PyData
  | [] => []
  | x :: xs => dtW x :: dtWs xs
end
theorem okTs_all : ∀ {xs : List W}, okTs xs = true ↔ ∀ x ∈ xs, okT x = true
  | [] => by simp [okTs]
  | x :: xs => by simp [okTs, okTs_all (xs := xs)]
theorem dpWs_le : ∀ {xs : List W} {k : Nat}, dpWs xs ≤ k ↔ ∀ x ∈ xs, dpW x ≤ k
  | [], k => by simp [dpWs]
  | x :: xs, k => by simp only [dpWs, Nat.max_le, dpWs_le (xs := xs), List.mem_cons, forall_eq_or_imp]
mutual
theorem toD_tr : ∀ (w : W) (k : Nat), okT w = true → dpW w ≤ k → toD h k w = some (dtW w)
  | .non, k, _, _ => by unfold toD; rfl
  | .bl _, k, _, _ => by unfold toD; rfl
  | .int _, k, _, _ => by unfold toD; rfl
  | .str _, k, _, _ => by unfold toD; rfl
  | .ref _, k, e, _ => by simp [okT] at e
  | .tup xs, 0, _, d => by simp [dpW] at d
  | .tup xs, k + 1, e, d => by
    unfold toD
    rw [toDs_tr xs k (by simpa [okT] using e) (by simpa [dpW] using d)]; simp [dtW]
theorem toDs_tr : ∀ (xs : List W) (k : Nat), okTs xs = true → dpWs xs ≤ k → toDs h k xs = some (dtWs xs)
  | [], k, _, _ => by unfold toDs; rfl
  | x :: xs, k, e, d => by
    simp only [okTs, Bool.and_eq_true] at e
    simp only [dpWs, Nat.max_le] at d
    unfold toDs
    rw [toD_tr x k e.1 d.1, toDs_tr xs k e.2 d.2]; simp [dtWs]
end
mutual
theorem dt_lay : ∀ (w : W), okT w = true → (dtW w).canLay0 = true ∧ (dtW w).depth ≤ dpW w
  | .non, _ => by simp [dtW, PyData.canLay0, PyData.depth]
  | .bl _, _ => by simp [dtW, PyData.canLay0, PyData.depth]
  | .int _, _ => by simp [dtW, PyData.canLay0, PyData.depth]
  | .str x, e => by simp only [dtW, PyData.canLay0, PyData.depth]; exact ⟨by simpa [okT] using e, Nat.zero_le _⟩
  | .ref _, e => by simp [okT] at e
  | .tup xs, e => by
    obtain ⟨a, b⟩ := dts_lay xs (by simpa [okT] using e)
    simp only [dtW, PyData.canLay0, PyData.depth, dpW]
    exact ⟨a, by omega⟩
theorem dts_lay : ∀ (xs : List W), okTs xs = true → PyData.canLayAll0 (dtWs xs) = true ∧ PyData.depthAll (dtWs xs) ≤ dpWs xs
  | [], _ => by simp [dtWs, PyData.canLayAll0, PyData.depthAll]
  | x :: xs, e => by
    simp only [okTs, Bool.and_eq_true] at e
    obtain ⟨a, b⟩ := dt_lay x e.1
    obtain ⟨c, d⟩ := dts_lay xs e.2
    simp only [dtWs, PyData.canLayAll0, PyData.depthAll, dpWs]
    exact ⟨by simp [a, c], by omega⟩
end
/-- a list's == with an empty one -/
theorem eq_nil {d e : Nat} (hd : h[d]? = some (.lst xs)) (he : h[e]? = some (.lst [])) (f : okTs xs = true) (g : dpWs xs ≤ 60) : eqW (.ref d) (.ref e) h = some xs.isEmpty := by
  have e1 : toD h 64 (.ref d) = some (.list (dtWs xs)) := by
    unfold toD; rw [lstAt_lst hd]; simp [toDs_tr xs 63 f (by omega)]
  have e2 : toD h 64 (.ref e) = some (.list []) := by
    unfold toD; rw [lstAt_lst he]; simp [toDs]
  show eqD _ _ _ = _
  unfold eqD
  rw [e1, e2]
  obtain ⟨a, b⟩ := dts_lay xs f
  have s1 : SeqAt.shaped (.list (dtWs xs)) = true := by simp [SeqAt.shaped, PyData.canLay0, PyData.depth, a]; omega
  have s2 : SeqAt.shaped (.list []) = true := by simp [SeqAt.shaped, PyData.canLay0, PyData.canLayAll0, PyData.depth, PyData.depthAll]
  simp only [s1, s2, Bool.and_self, if_true]
  cases xs with
  | nil => simp [dtWs, PyData.eqv, PyData.eqvAll]
  | cons x r => simp [dtWs, PyData.eqv, PyData.eqvAll]
theorem Tl.ne_nil {d : Nat} (hd : h[d]? = some (.lst xs)) (f : okTs xs = true) (g : dpWs xs ≤ 60) (c : ∀ h', Ext h h' → Q (.bl (!xs.isEmpty)) h') : Tl (Mi.newL [] h) (fun y h2 => Tl (gNe (.ref d) y h2) Q) := by
  refine Tl.newL (by simp) fun h2 x2 _ e2 => ?_
  rw [show gNe (.ref d) (.ref h.length) h2 = some (.bl (!xs.isEmpty), h2) by simp [gNe, eq_nil (x2.get hd) e2 f g], Tl_some]
  exact c h2 x2
theorem Tl.eq_nil {d : Nat} (hd : h[d]? = some (.lst xs)) (f : okTs xs = true) (g : dpWs xs ≤ 60) (c : ∀ h', Ext h h' → Q (.bl xs.isEmpty) h') : Tl (Mi.newL [] h) (fun y h2 => Tl (gEq (.ref d) y h2) Q) := by
  refine Tl.newL (by simp) fun h2 x2 _ e2 => ?_
  rw [show gEq (.ref d) (.ref h.length) h2 = some (.bl xs.isEmpty, h2) by simp [gEq, Mi.eq_nil (x2.get hd) e2 f g], Tl_some]
  exact c h2 x2
end
end Mi

namespace Mi
open PySem L2
/-- a text of few signs, each below 128 -/
structure GoodT (L : Nat) (z : Str) : Prop where
  len : z.length ≤ L
  low : ∀ c ∈ z.cps.toList, c < 128
theorem GoodT.mono {L M : Nat} {z : Str} (g : GoodT L z) (h : L ≤ M) : GoodT M z := ⟨Nat.le_trans g.len h, g.low⟩
theorem GoodT.append {L M : Nat} {x y : Str} (a : GoodT L x) (b : GoodT M y) : GoodT (L + M) (x ++ y) := by
  refine ⟨by rw [Str.length_append]; exact Nat.add_le_add a.len b.len, fun c hc => ?_⟩
  have : c ∈ x.cps.toList ++ y.cps.toList := by
    rw [← Array.toList_append]; exact hc
  rcases List.mem_append.mp this with q | q
  · exact a.low c q
  · exact b.low c q
theorem GoodT.cut {L : Nat} {z : Str} (g : GoodT L z) (lo hi : Option Int) : GoodT L (cutS z lo hi) := by
  refine ⟨?_, fun c hc => ?_⟩
  · have : (cutS z lo hi).length = ((z.cps.toList.drop (HT.sIx z.length 0 lo)).take (HT.sIx z.length z.length hi - HT.sIx z.length 0 lo)).length := by
      show (List.toArray _).size = _
      rw [List.size_toArray]
    rw [this, List.length_take, List.length_drop, Array.length_toList]
    have := g.len
    have e : z.cps.size = z.length := rfl
    omega
  · have : c ∈ ((z.cps.toList.drop (HT.sIx z.length 0 lo)).take (HT.sIx z.length z.length hi - HT.sIx z.length 0 lo)) := by simpa [cutS] using hc
    exact g.low c (List.mem_of_mem_drop (List.mem_of_mem_take this))
theorem GoodT.upper {L : Nat} {z : Str} (g : GoodT L z) : GoodT L (Txt.upper z) := by
  rw [PyProof.Rows.upper_ascii g.low]
  refine ⟨by show (z.cps.map _).size ≤ L; rw [Array.size_map]; exact g.len, fun c hc => ?_⟩
  have : ∃ a ∈ z.cps.toList, PyProof.Rows.up1 a = c := by simpa using hc
  obtain ⟨a, ha, rfl⟩ := this
  have q := g.low a ha
  have all : ∀ b : _root_.Fin 128, PyProof.Rows.up1 b.val < 128 := by decide +kernel
  exact all ⟨a, q⟩
theorem GoodT.sz {L : Nat} {z : Str} (g : GoodT L z) (h : L ≤ 5000) : szOk z.length = true := by
  have := g.len
  simp [szOk]; omega
theorem GoodT.ok {L : Nat} {z : Str} (g : GoodT L z) : PyData.strOk z = true := by
  unfold PyData.strOk
  rw [Array.all_eq_true_iff_forall_mem]
  intro c hc
  have := g.low c (by simpa using hc)
  simp; omega
theorem GoodT.sign {z : Str} {L : Nat} (g : GoodT L z) {c : Nat} (hc : c ∈ z.cps.toList) : GoodT 1 ⟨#[c]⟩ := ⟨Nat.le_refl _, fun d hd => by
  have : d = c := by simpa using hd
  subst this; exact g.low _ hc⟩
theorem glue_good {M : Nat} : ∀ {ys : List Str} (acc : Array Nat), (∀ y ∈ ys, GoodT M y) → (∀ c ∈ acc.toList, c < 128) →
    (ys.foldl (fun acc p => acc ++ (Str.mk #[]).cps ++ p.cps) acc).size ≤ acc.size + M * ys.length ∧ ∀ c ∈ (ys.foldl (fun acc p => acc ++ (Str.mk #[]).cps ++ p.cps) acc).toList, c < 128
  | [], acc, _, ha => ⟨by simp, ha⟩
  | y :: ys, acc, hy, ha => by
    have gy := hy y (by simp)
    obtain ⟨h1, h2⟩ := glue_good (ys := ys) (acc ++ (Str.mk #[]).cps ++ y.cps) (fun z hz => hy z (by simp [hz])) (fun c hc => by
      have : c ∈ acc.toList ∨ c ∈ y.cps.toList := by simpa using hc
      rcases this with q | q
      · exact ha c q
      · exact gy.low c q)
    refine ⟨Nat.le_trans h1 ?_, h2⟩
    have : (acc ++ (Str.mk #[]).cps ++ y.cps).size = acc.size + y.length := by simp [Str.length]
    rw [this, List.length_cons, Nat.mul_succ]
    have := gy.len
    omega
theorem join_good {M : Nat} {ys : List Str} (hy : ∀ y ∈ ys, GoodT M y) : GoodT (M * ys.length) (Txt.join ⟨#[]⟩ ys) := by
  unfold Txt.join Builtin.Str.glued
  cases ys with
  | nil => exact ⟨by simp [Str.length, Str.empty], fun c hc => by simp [Str.empty] at hc⟩
  | cons y r =>
    have gy := hy y (by simp)
    obtain ⟨h1, h2⟩ := glue_good (M := M) (ys := r) y.cps (fun z hz => hy z (by simp [hz])) gy.low
    refine ⟨Nat.le_trans h1 ?_, h2⟩
    rw [List.length_cons, Nat.mul_succ]
    have := gy.len
    have e : y.cps.size = y.length := rfl
    omega

theorem strsW_map : ∀ ys : List Str, strsW (ys.map W.str) = some ys
  | [] => rfl
  | y :: r => by simp [strsW, strsW_map r]
theorem sum_le : ∀ {ys : List Str}, (∀ y ∈ ys, GoodT 1 y) → (ys.map (·.length)).sum ≤ ys.length
  | [], _ => by simp
  | y :: r, hy => by
    have a := (hy y (by simp)).len
    have b := sum_le (ys := r) fun z hz => hy z (by simp [hz])
    simp; omega
theorem sIx_pos {n d : Nat} {i : Int} (h0 : 0 ≤ i) (h1 : i ≤ n) : HT.sIx n d (some i) = i.toNat := by
  unfold HT.sIx
  simp only []
  rw [if_neg (by omega)]; omega
theorem cutS_lo {z : Str} {i : Int} (h0 : 0 ≤ i) (h1 : i ≤ z.length) : (cutS z none (some i)).length = i.toNat := by
  have e : z.cps.toList.length = z.length := by simp [Str.length]
  unfold cutS
  show (List.toArray _).size = _
  rw [List.size_toArray, sIx_pos h0 h1, HT.sIx_none]
  simp [e]; omega
theorem cutS_hi {z : Str} {i : Int} (h0 : 0 ≤ i) (h1 : i ≤ z.length) : (cutS z (some i) none).length = z.length - i.toNat := by
  have e : z.cps.toList.length = z.length := by simp [Str.length]
  unfold cutS
  show (List.toArray _).size = _
  rw [List.size_toArray, sIx_pos h0 h1, HT.sIx_none]
  simp [e]
end Mi

/-! dicts, and what stands in trees with tags -/
namespace Mi
open PySem PySem.Spec PyProof.Rows L2
theorem getW_nil {k : Key} : getW [] k = none := rfl
theorem getW_cons {k k' : Key} {w : W} {r : List (Key × W)} : getW ((k, w) :: r) k' = if k = k' then some w else getW r k' := by
  unfold getW
  rw [List.find?_cons]
  by_cases c : k = k' <;> simp [c]
theorem getW_append {k : Key} : ∀ {a b : List (Key × W)}, getW (a ++ b) k = (getW a k).or (getW b k)
  | [], b => by simp [getW_nil]
  | (k', w) :: a, b => by
    rw [List.cons_append, getW_cons, getW_cons]
    by_cases c : k' = k
    · simp [c]
    · simp [c, getW_append (a := a) (b := b)]
theorem getW_none {k : Key} : ∀ {a : List (Key × W)}, (a.any fun kv => decide (kv.1 = k)) = false → getW a k = none
  | [], _ => rfl
  | (k', w) :: a, e => by
    simp only [List.any_cons, Bool.or_eq_false_iff, decide_eq_false_iff_not] at e
    rw [getW_cons, if_neg e.1, getW_none e.2]
theorem getW_map {k k' : Key} {w : W} : ∀ {a : List (Key × W)}, getW (a.map fun kv => if kv.1 = k then (kv.1, w) else kv) k' = if k = k' then (if (a.any fun kv => decide (kv.1 = k)) = true then some w else none) else getW a k'
  | [] => by simp [getW_nil]
  | (k2, w2) :: a => by
    simp only [List.map_cons, List.any_cons]
    by_cases c : k2 = k
    · subst c
      simp only [if_true, decide_true, Bool.true_or]
      rw [getW_cons, getW_cons]
      by_cases d : k2 = k'
      · simp [d]
      · simp [d, getW_map (a := a) (k := k2) (k' := k') (w := w)]
    · simp only [c, if_false, decide_false, Bool.false_or]
      rw [getW_cons, getW_cons, getW_map (a := a)]
      by_cases d : k2 = k'
      · subst d
        rw [if_pos rfl, if_neg (fun z => c z.symm), if_pos rfl]
      · rw [if_neg d, if_neg d]
theorem getW_put {kvs : List (Key × W)} {k k' : Key} {w : W} : getW (putW kvs k w) k' = if k = k' then some w else getW kvs k' := by
  unfold putW
  cases q : kvs.any fun kv => decide (kv.1 = k) with
  | true => rw [if_pos rfl, getW_map, q]; simp
  | false =>
    rw [if_neg Bool.false_ne_true, getW_append, getW_cons, getW_nil]
    by_cases c : k = k'
    · subst c; rw [getW_none q]; simp
    · rw [if_neg c, if_neg c]; simp
theorem put_len {kvs : List (Key × W)} {k : Key} {w : W} : (putW kvs k w).length ≤ kvs.length + 1 := by
  unfold putW
  split
  · simp
  · simp
theorem put_len_in {kvs : List (Key × W)} {k : Key} {w w' : W} (e : getW kvs k = some w') : (putW kvs k w).length = kvs.length := by
  unfold putW
  cases q : kvs.any fun kv => decide (kv.1 = k) with
  | true => simp
  | false => rw [getW_none q] at e; cases e
theorem merge_nil {kvs : List (Key × W)} : mergeW kvs [] = kvs := rfl
theorem merge_cons {kvs r : List (Key × W)} {k : Key} {w : W} : mergeW kvs ((k, w) :: r) = mergeW (putW kvs k w) r := rfl
theorem merge_len : ∀ {r kvs : List (Key × W)}, (mergeW kvs r).length ≤ kvs.length + r.length
  | [], kvs => by simp [merge_nil]
  | (k, w) :: r, kvs => by
    rw [merge_cons]
    have a := merge_len (r := r) (kvs := putW kvs k w)
    have b := put_len (kvs := kvs) (k := k) (w := w)
    rw [List.length_cons]; omega
section
variable {n : Nat} {s : MS} {h : MH} {Q : W → MH → Prop} {P : Fl → MS → MH → Prop}
def keyK (o : Option Key) (F : Key → Prop) : Prop := match o with
  | some k => F k
  | none => False
theorem keyK_some {k : Key} {F : Key → Prop} : keyK (some k) F = F k := rfl
theorem keyW_str {x : Str} : keyW (.str x) = some (.inr x) := rfl
theorem keyW_int {x : Int} : keyW (.int x) = some (.inl x) := rfl
theorem wp_prs0 {R : List (Key × W) → MH → Prop} : Tl (mPrs [] n s h) R = R [] h := Tl_some
theorem wp_prs {fk fv : M} {r : List (M × M)} {R : List (Key × W) → MH → Prop} : Tl (mPrs ((fk, fv) :: r) n s h) R = Tl (fk n s h) fun x h1 => keyK (keyW x) fun k => Tl (fv n s h1) fun y h2 => Tl (mPrs r n s h2) fun l h3 => R ((k, y) :: l) h3 := by
  show Tl (match fk n s h with | some (x, h1) => _ | none => none) R = _
  cases fk n s h with
  | none => simp only [Tl_none]
  | some p =>
    obtain ⟨x, h1⟩ := p
    simp only [Tl_some]
    cases keyW x with
    | none => simp only [Tl_none, keyK]
    | some k =>
      simp only [keyK]
      cases fv n s h1 with
      | none => simp only [Tl_none]
      | some p =>
        obtain ⟨y, h2⟩ := p
        simp only [Tl_some]
        cases mPrs r n s h2 with
        | none => simp only [Tl_none]
        | some p => obtain ⟨l, h3⟩ := p; simp only [Tl_some]
theorem Tl.disp {prs : List (M × M)} (c : ∀ h1, Ext h h1 → h1.length = h.length + 1 → h1[h.length]? = some (.dic []) → Tl (mPrs prs n s h1) fun l h2 => h2[h.length]? = some (.dic []) ∧ l.length ≤ 15 ∧ ∀ h3, Chg h.length h2 h3 → h3[h.length]? = some (.dic (mergeW [] l)) → Q (.ref h.length) h3) : Tl (mDisp prs n s h) Q := by
  obtain ⟨l, h2, e, e2, hl, k⟩ := c (h ++ [.dic []]) (Ext.app _ _) (by simp) get_snoc_self
  refine ⟨.ref h.length, h2.set h.length (.dic (mergeW [] l)), ?_, k _ Chg.set (List.getElem?_set_self (lt_of_get e2))⟩
  unfold mDisp
  rw [e]
  simp [dicM, e2, hl]
theorem Tl.dnew (c : ∀ h', Ext h h' → h'.length = h.length + 1 → h'[h.length]? = some (.dic []) → Q (.ref h.length) h') : Tl (mDNew n s h) Q :=
  ⟨_, _, rfl, c _ (Ext.app _ _) (by simp) get_snoc_self⟩
theorem pairsW_map : ∀ {l : List (Str × W)}, pairsW (l.map fun p => .tup [.str p.1, p.2]) = some (l.map fun p => ((.inr p.1 : Key), p.2))
  | [] => rfl
  | p :: l => by
    simp only [List.map_cons, pairsW, pairW, keyW, Option.map_some]
    rw [pairsW_map (l := l)]
theorem Tl.dict {d : Nat} {l : List (Str × W)} (e : h[d]? = some (.lst (l.map fun p => .tup [.str p.1, p.2]))) (c : ∀ h', Ext h h' → h'.length = h.length + 1 → h'[h.length]? = some (.dic (mergeW [] (l.map fun p => ((.inr p.1 : Key), p.2)))) → Q (.ref h.length) h') : Tl (gDict [.ref d] h) Q := by
  refine ⟨.ref h.length, h ++ [.dic (mergeW [] (l.map fun p => ((.inr p.1 : Key), p.2)))], ?_, c _ (Ext.app _ _) (by simp) get_snoc_self⟩
  have e1 : dicAt h d = none := by simp [dicAt, e]
  simp [gDict, e1, lstAt_lst e, pairsW_map, newD]
theorem Ts.lock {i d : Nat} {f : MSt} {kvs : List (Key × W)} (hs : s[i]? = some (some (.ref d))) (e : h[d]? = some (.dic kvs)) (c : ∀ h1, Chg d h h1 → h1[d]? = some (.fd kvs) → Ts (f n s h1) fun fl s' h2 => ∃ kvs', h2[d]? = some (.fd kvs') ∧ ∀ h3, Chg d h2 h3 → h3[d]? = some (.dic kvs') → P fl s' h3) : Ts (mLockS i f n s h) P := by
  obtain ⟨fl, s', h2, e2, kvs', e3, k⟩ := c (h.set d (.fd kvs)) Chg.set (List.getElem?_set_self (lt_of_get e))
  refine ⟨fl, s', h2.set d (.dic kvs'), ?_, k _ Chg.set (List.getElem?_set_self (lt_of_get e3))⟩
  unfold mLockS
  rw [hs]
  simp [dicM, e, e2, e3]
theorem wp_any_fd {i d : Nat} {kvs : List (Key × W)} {R : Src → MH → Prop} (hs : s[i]? = some (some (.ref d))) (e : h[d]? = some (.fd kvs)) : Tl (miAny (mVar i) n s h) R = R (.items (kvs.map fun kv => wK kv.1)) h := by
  unfold miAny
  rw [show mVar i n s h = some (.ref d, h) from var_at hs]
  simp only [e, Tl_some]
/-- trees with a text ahead -/
def tagIs (t : Str) : W → Bool
  | .tup (.str x :: _) => decide (x = t)
  | _ => false
def Tagd (w : W) : Prop := ∃ z r, w = .tup (.str z :: r)
theorem Tl.tags {src : Src} {xs : List W} {i : Nat} {t : Str} {s0 : MS} (still : ∀ h', Ext h h' → src.is xs h') (ht : ∀ x ∈ xs, Tagd x) (hn : xs.length < n) (hz : xs.length ≤ 16777216)
    (fin : ∀ h', Ext h h' → h'[h.length]? = some (.lst (xs.filter (tagIs t))) → Q (.ref h.length) h') (hs : ∀ w : W, (s0.set i (some w))[i]? = some (some w) := by exact fun _ => rfl) :
    Tl (lcloop src (.nm i) (mB (mOp gEq (mOp (gIxD gIx) (mVar i) (mC (.int 0))) (mC (.str t)))) (mVar i) n h.length s0 n 0 (h ++ [.lst []])) Q := by
  refine Tl.lc_e (tagIs t) id still hn hz (fun x hx h1 x1 => ⟨_, rfl, ?_⟩) (fun h' x' e' => fin h' x' (by rw [e', List.map_id]))
  obtain ⟨z, r, rfl⟩ := ht x hx
  rw [wp_b, wp_op, wp_op, wp_var, hs, slotK_some, wp_c, g_ix_t, atI_k0, List.getElem?_cons_zero, ixK_some, wp_c, g_eqs, Tl_some, asB_bl]
  refine ⟨rfl, Ext.refl _, fun _ => ?_⟩
  rw [wp_var, hs, slotK_some]
  exact ⟨rfl, Ext.refl _⟩
end
end Mi

namespace K03
open PySem PySem.Spec PyProof.Rows L2 Mi
theorem cMr {i j : Int} (h : -(2 ^ 64) < j ∧ j < 2 ^ 64) : cMul i j = true := by unfold cMul; rw [decide_eq_true h.1, decide_eq_true h.2]; simp
theorem cMl {i j : Int} (h : -(2 ^ 64) < i ∧ i < 2 ^ 64) : cMul i j = true := by unfold cMul; rw [decide_eq_true h.1, decide_eq_true h.2]; simp
theorem take_spec {n b : Nat} {h : MH} {m : Int} (hb : IsBox h b) (h0 : 0 < m) (h1 : m < 1073741824) : Tl (f__law_take n [.ref b, .int m] h) fun w h' => ∃ d : Int, w = .int d ∧ 0 ≤ d ∧ d < m ∧ Bx b h h' := by
  obtain ⟨a, s, c, e⟩ := hb
  have hlt := lt_of_get e
  have e2 : ∀ x, (h.set b x)[b]? = some x := fun x => List.getElem?_set_self hlt
  have bx : ∀ a' s' c' : Int, Bx b h (h.set b (.lst [.int a', .int s', .int c'])) := fun a' s' c' =>
    ⟨by simp, fun i _ hi => List.getElem?_set_ne (fun z => hi z.symm), a', s', c', e2 _⟩
  unfold f__law_take B__law_take
  simp only [wp_c, wp_var, slotK_some, wp_op, wp_un, wp_b, asB_bl, wp_tr, asT_some, wp_yes, wp_and, wp_or, wp_not, wp_caseB, wp_andV, wp_orV, wp_notV, wp_if, wp_nil, wp_cons, wp_tup, wp_lst, wp_cb, wp_call, wp_m0, wp_m1, wp_ml0, wp_ml, wp_isi, wp_isi2, wp_nopart, asI_int, wp_part, wp_sl, wp_seq, seqK_nx, seqK_rt, seqK_bk, seqK_ct, wp_next, wp_brk, wp_cont, wp_drop, wp_ret, wp_ifS, wp_set, wp_par, wp_par3, wp_asg, wp_pat, asP_some, wp_sub, asH_some, wp_aug, wp_for, wp_while, wp_lc, wp_lc2, wp_def, defK_rt, defK_nx, wp_miseq, srcK_ref, srcK_tup, srcK_str, rngK_int, wp_range1, wp_enum, enumK_ref, Tl_some, Ts_some, loopK_nx, loopK_ct, loopK_bk, loopK_rt, ixK_some, atI_k0, atI_k1, atI_k2, atI_k3, atI_k4, atI_k5, atI_k6, atI_k8, atI_k9, L2.atI_last, atI_n, g_ix_t, g_ix_s, g_ix_r, cIx_l, cIx_z, cIx_d, cIx_f, g_sub, g_lt, g_le, g_gt, g_ge, g_addi, g_addI, g_adds, g_addt, g_mul, g_muls, g_fdiv, g_mod, g_neg, g_eqs, g_nes, g_eqi, g_nei, g_min, g_max, g_int_b, g_int_i, g_is_non, g_cuts, g_cutt, g_lens, g_lent, g_lenr, cLen_l, cLen_z, g_tupt, g_tupr, cTup_l, g_listt, isLst_r, lstAt_r, cLst_l, cLst_z, tr_r, cTr_l, tr_b, g_set, cSet_l, cSet_d, jK_some, kK_some, ixN_0, ixN_1, ixN_2, isS, mwipe, mPat, mPats, List.getElem?_cons_zero, List.getElem?_cons_succ, List.set_cons_zero, List.set_cons_succ, List.map_cons, List.map_nil, List.length_cons, List.length_nil, List.replicate_succ, List.replicate_zero, List.cons_append, List.nil_append, Nat.reduceAdd, Nat.reduceSub, Nat.reduceLeDiff, Nat.zero_add, Option.map_some, if_true, Bool.false_eq_true, if_false, true_and, and_true, decide_eq_true_eq, reduceIte, reduceCtorEq, e, e2, List.set_set, h0, h1, List.length_set]
  by_cases q : 0 < a
  · simp only [q, wp_c, wp_var, slotK_some, wp_op, wp_un, wp_b, asB_bl, wp_tr, asT_some, wp_yes, wp_and, wp_or, wp_not, wp_caseB, wp_andV, wp_orV, wp_notV, wp_if, wp_nil, wp_cons, wp_tup, wp_lst, wp_cb, wp_call, wp_m0, wp_m1, wp_ml0, wp_ml, wp_isi, wp_isi2, wp_nopart, asI_int, wp_part, wp_sl, wp_seq, seqK_nx, seqK_rt, seqK_bk, seqK_ct, wp_next, wp_brk, wp_cont, wp_drop, wp_ret, wp_ifS, wp_set, wp_par, wp_par3, wp_asg, wp_pat, asP_some, wp_sub, asH_some, wp_aug, wp_for, wp_while, wp_lc, wp_lc2, wp_def, defK_rt, defK_nx, wp_miseq, srcK_ref, srcK_tup, srcK_str, rngK_int, wp_range1, wp_enum, enumK_ref, Tl_some, Ts_some, loopK_nx, loopK_ct, loopK_bk, loopK_rt, ixK_some, atI_k0, atI_k1, atI_k2, atI_k3, atI_k4, atI_k5, atI_k6, atI_k8, atI_k9, L2.atI_last, atI_n, g_ix_t, g_ix_s, g_ix_r, cIx_l, cIx_z, cIx_d, cIx_f, g_sub, g_lt, g_le, g_gt, g_ge, g_addi, g_addI, g_adds, g_addt, g_mul, g_muls, g_fdiv, g_mod, g_neg, g_eqs, g_nes, g_eqi, g_nei, g_min, g_max, g_int_b, g_int_i, g_is_non, g_cuts, g_cutt, g_lens, g_lent, g_lenr, cLen_l, cLen_z, g_tupt, g_tupr, cTup_l, g_listt, isLst_r, lstAt_r, cLst_l, cLst_z, tr_r, cTr_l, tr_b, g_set, cSet_l, cSet_d, jK_some, kK_some, ixN_0, ixN_1, ixN_2, isS, mwipe, mPat, mPats, List.getElem?_cons_zero, List.getElem?_cons_succ, List.set_cons_zero, List.set_cons_succ, List.map_cons, List.map_nil, List.length_cons, List.length_nil, List.replicate_succ, List.replicate_zero, List.cons_append, List.nil_append, Nat.reduceAdd, Nat.reduceSub, Nat.reduceLeDiff, Nat.zero_add, Option.map_some, if_true, Bool.false_eq_true, if_false, true_and, and_true, decide_eq_true_eq, reduceIte, reduceCtorEq, e, e2, h0, h1]
    exact ⟨_, rfl, Int.emod_nonneg _ (by omega), Int.emod_lt_of_pos _ h0, bx _ _ _⟩
  · simp only [q, wp_c, wp_var, slotK_some, wp_op, wp_un, wp_b, asB_bl, wp_tr, asT_some, wp_yes, wp_and, wp_or, wp_not, wp_caseB, wp_andV, wp_orV, wp_notV, wp_if, wp_nil, wp_cons, wp_tup, wp_lst, wp_cb, wp_call, wp_m0, wp_m1, wp_ml0, wp_ml, wp_isi, wp_isi2, wp_nopart, asI_int, wp_part, wp_sl, wp_seq, seqK_nx, seqK_rt, seqK_bk, seqK_ct, wp_next, wp_brk, wp_cont, wp_drop, wp_ret, wp_ifS, wp_set, wp_par, wp_par3, wp_asg, wp_pat, asP_some, wp_sub, asH_some, wp_aug, wp_for, wp_while, wp_lc, wp_lc2, wp_def, defK_rt, defK_nx, wp_miseq, srcK_ref, srcK_tup, srcK_str, rngK_int, wp_range1, wp_enum, enumK_ref, Tl_some, Ts_some, loopK_nx, loopK_ct, loopK_bk, loopK_rt, ixK_some, atI_k0, atI_k1, atI_k2, atI_k3, atI_k4, atI_k5, atI_k6, atI_k8, atI_k9, L2.atI_last, atI_n, g_ix_t, g_ix_s, g_ix_r, cIx_l, cIx_z, cIx_d, cIx_f, g_sub, g_lt, g_le, g_gt, g_ge, g_addi, g_addI, g_adds, g_addt, g_mul, g_muls, g_fdiv, g_mod, g_neg, g_eqs, g_nes, g_eqi, g_nei, g_min, g_max, g_int_b, g_int_i, g_is_non, g_cuts, g_cutt, g_lens, g_lent, g_lenr, cLen_l, cLen_z, g_tupt, g_tupr, cTup_l, g_listt, isLst_r, lstAt_r, cLst_l, cLst_z, tr_r, cTr_l, tr_b, g_set, cSet_l, cSet_d, jK_some, kK_some, ixN_0, ixN_1, ixN_2, isS, mwipe, mPat, mPats, List.getElem?_cons_zero, List.getElem?_cons_succ, List.set_cons_zero, List.set_cons_succ, List.map_cons, List.map_nil, List.length_cons, List.length_nil, List.replicate_succ, List.replicate_zero, List.cons_append, List.nil_append, Nat.reduceAdd, Nat.reduceSub, Nat.reduceLeDiff, Nat.zero_add, Option.map_some, if_true, Bool.false_eq_true, if_false, true_and, and_true, decide_eq_true_eq, reduceIte, reduceCtorEq, e, e2, h0, h1]
    exact ⟨cMl (by decide), cMr (by decide), by decide, cMr (by decide), by decide, cMr (by decide), by decide, by decide, _, rfl, Int.emod_nonneg _ (by omega), Int.emod_lt_of_pos _ h0, bx _ _ _⟩
theorem box_tail {n : Nat} {h : MH} {v k : Int} {x0 : Option W} {P : Fl → MS → MH → Prop} (fin : ∀ b h' s, Ext h h' → h.length ≤ b → IsBox h' b → P (.rt (.ref b)) s h') : Ts ((mSeq (mSet 3 (mOp gAdd (mOp gMod (mOp gAdd (mOp gAdd (mOp gMul (mOp gMod (mVar 2) (mC (.int 2147483629))) (mC (.int 48271))) (mOp gMul (mC (.int 39841)) (mVar 1))) (mC (.int 11))) (mC (.int 2147483629))) (mC (.int 1))))
    (mRet (mLst (mCons (mOp (gIxD gIx) (mLst (mCons (mC (.int 0)) (mCons (mVar 2) mNil))) (mCB gInt3 (mCons (mOp gGe (mVar 2) (mOp gPow (mC (.int 10)) (mC (.int 18)))) mNil))) (mCons (mVar 3) (mCons (mC (.int 0)) mNil)))))) n [x0, some (.int k), some (.int v), none] h) P := by
  simp only [wp_c, wp_var, slotK_some, wp_op, wp_un, wp_b, asB_bl, wp_tr, asT_some, wp_yes, wp_and, wp_or, wp_not, wp_caseB, wp_andV, wp_orV, wp_notV, wp_if, wp_nil, wp_cons, wp_tup, wp_lst, wp_cb, wp_call, wp_m0, wp_m1, wp_ml0, wp_ml, wp_isi, wp_isi2, wp_nopart, asI_int, wp_part, wp_sl, wp_seq, seqK_nx, seqK_rt, seqK_bk, seqK_ct, wp_next, wp_brk, wp_cont, wp_drop, wp_ret, wp_ifS, wp_set, wp_par, wp_par3, wp_asg, wp_pat, asP_some, wp_sub, asH_some, wp_aug, wp_for, wp_while, wp_lc, wp_lc2, wp_def, defK_rt, defK_nx, wp_miseq, srcK_ref, srcK_tup, srcK_str, rngK_int, wp_range1, wp_enum, enumK_ref, Tl_some, Ts_some, loopK_nx, loopK_ct, loopK_bk, loopK_rt, ixK_some, atI_k0, atI_k1, atI_k2, atI_k3, atI_k4, atI_k5, atI_k6, atI_k8, atI_k9, L2.atI_last, atI_n, g_ix_t, g_ix_s, g_ix_r, cIx_l, cIx_z, cIx_d, cIx_f, g_sub, g_lt, g_le, g_gt, g_ge, g_addi, g_addI, g_adds, g_addt, g_mul, g_muls, g_fdiv, g_mod, g_neg, g_eqs, g_nes, g_eqi, g_nei, g_min, g_max, g_int_b, g_int_i, g_is_non, g_cuts, g_cutt, g_lens, g_lent, g_lenr, cLen_l, cLen_z, g_tupt, g_tupr, cTup_l, g_listt, isLst_r, lstAt_r, cLst_l, cLst_z, tr_r, cTr_l, tr_b, g_set, cSet_l, cSet_d, jK_some, kK_some, ixN_0, ixN_1, ixN_2, isS, mwipe, mPat, mPats, List.getElem?_cons_zero, List.getElem?_cons_succ, List.set_cons_zero, List.set_cons_succ, List.map_cons, List.map_nil, List.length_cons, List.length_nil, List.replicate_succ, List.replicate_zero, List.cons_append, List.nil_append, Nat.reduceAdd, Nat.reduceSub, Nat.reduceLeDiff, Nat.zero_add, Option.map_some, if_true, Bool.false_eq_true, if_false, true_and, and_true, decide_eq_true_eq, reduceIte, reduceCtorEq]
  refine ⟨by decide, cMr (by decide), cMl (by decide), by decide, ?_⟩
  refine Tl.newL (by simp) fun h1 x1 l1 e1 => ?_
  simp only [wp_c, wp_var, slotK_some, wp_op, wp_un, wp_b, asB_bl, wp_tr, asT_some, wp_yes, wp_and, wp_or, wp_not, wp_caseB, wp_andV, wp_orV, wp_notV, wp_if, wp_nil, wp_cons, wp_tup, wp_lst, wp_cb, wp_call, wp_m0, wp_m1, wp_ml0, wp_ml, wp_isi, wp_isi2, wp_nopart, asI_int, wp_part, wp_sl, wp_seq, seqK_nx, seqK_rt, seqK_bk, seqK_ct, wp_next, wp_brk, wp_cont, wp_drop, wp_ret, wp_ifS, wp_set, wp_par, wp_par3, wp_asg, wp_pat, asP_some, wp_sub, asH_some, wp_aug, wp_for, wp_while, wp_lc, wp_lc2, wp_def, defK_rt, defK_nx, wp_miseq, srcK_ref, srcK_tup, srcK_str, rngK_int, wp_range1, wp_enum, enumK_ref, Tl_some, Ts_some, loopK_nx, loopK_ct, loopK_bk, loopK_rt, ixK_some, atI_k0, atI_k1, atI_k2, atI_k3, atI_k4, atI_k5, atI_k6, atI_k8, atI_k9, L2.atI_last, atI_n, g_ix_t, g_ix_s, g_ix_r, cIx_l, cIx_z, cIx_d, cIx_f, g_sub, g_lt, g_le, g_gt, g_ge, g_addi, g_addI, g_adds, g_addt, g_mul, g_muls, g_fdiv, g_mod, g_neg, g_eqs, g_nes, g_eqi, g_nei, g_min, g_max, g_int_b, g_int_i, g_is_non, g_cuts, g_cutt, g_lens, g_lent, g_lenr, cLen_l, cLen_z, g_tupt, g_tupr, cTup_l, g_listt, isLst_r, lstAt_r, cLst_l, cLst_z, tr_r, cTr_l, tr_b, g_set, cSet_l, cSet_d, jK_some, kK_some, ixN_0, ixN_1, ixN_2, isS, mwipe, mPat, mPats, List.getElem?_cons_zero, List.getElem?_cons_succ, List.set_cons_zero, List.set_cons_succ, List.map_cons, List.map_nil, List.length_cons, List.length_nil, List.replicate_succ, List.replicate_zero, List.cons_append, List.nil_append, Nat.reduceAdd, Nat.reduceSub, Nat.reduceLeDiff, Nat.zero_add, Option.map_some, if_true, Bool.false_eq_true, if_false, true_and, and_true, decide_eq_true_eq, reduceIte, reduceCtorEq, e1]
  rw [show gPow (.int 10) (.int 18) h1 = some (.int (10 ^ 18), h1) from rfl]
  by_cases q : (10 : Int) ^ 18 ≤ v
  · simp only [wp_c, wp_var, slotK_some, wp_op, wp_un, wp_b, asB_bl, wp_tr, asT_some, wp_yes, wp_and, wp_or, wp_not, wp_caseB, wp_andV, wp_orV, wp_notV, wp_if, wp_nil, wp_cons, wp_tup, wp_lst, wp_cb, wp_call, wp_m0, wp_m1, wp_ml0, wp_ml, wp_isi, wp_isi2, wp_nopart, asI_int, wp_part, wp_sl, wp_seq, seqK_nx, seqK_rt, seqK_bk, seqK_ct, wp_next, wp_brk, wp_cont, wp_drop, wp_ret, wp_ifS, wp_set, wp_par, wp_par3, wp_asg, wp_pat, asP_some, wp_sub, asH_some, wp_aug, wp_for, wp_while, wp_lc, wp_lc2, wp_def, defK_rt, defK_nx, wp_miseq, srcK_ref, srcK_tup, srcK_str, rngK_int, wp_range1, wp_enum, enumK_ref, Tl_some, Ts_some, loopK_nx, loopK_ct, loopK_bk, loopK_rt, ixK_some, atI_k0, atI_k1, atI_k2, atI_k3, atI_k4, atI_k5, atI_k6, atI_k8, atI_k9, L2.atI_last, atI_n, g_ix_t, g_ix_s, g_ix_r, cIx_l, cIx_z, cIx_d, cIx_f, g_sub, g_lt, g_le, g_gt, g_ge, g_addi, g_addI, g_adds, g_addt, g_mul, g_muls, g_fdiv, g_mod, g_neg, g_eqs, g_nes, g_eqi, g_nei, g_min, g_max, g_int_b, g_int_i, g_is_non, g_cuts, g_cutt, g_lens, g_lent, g_lenr, cLen_l, cLen_z, g_tupt, g_tupr, cTup_l, g_listt, isLst_r, lstAt_r, cLst_l, cLst_z, tr_r, cTr_l, tr_b, g_set, cSet_l, cSet_d, jK_some, kK_some, ixN_0, ixN_1, ixN_2, isS, mwipe, mPat, mPats, List.getElem?_cons_zero, List.getElem?_cons_succ, List.set_cons_zero, List.set_cons_succ, List.map_cons, List.map_nil, List.length_cons, List.length_nil, List.replicate_succ, List.replicate_zero, List.cons_append, List.nil_append, Nat.reduceAdd, Nat.reduceSub, Nat.reduceLeDiff, Nat.zero_add, Option.map_some, if_true, Bool.false_eq_true, if_false, true_and, and_true, decide_eq_true_eq, reduceIte, reduceCtorEq, e1, q, decide_true]
    refine Tl.newL (by simp) fun h2 x2 l2 e2 => ?_
    exact fin _ _ _ (x1.trans x2) x1.len ⟨_, _, _, e2⟩
  · simp only [wp_c, wp_var, slotK_some, wp_op, wp_un, wp_b, asB_bl, wp_tr, asT_some, wp_yes, wp_and, wp_or, wp_not, wp_caseB, wp_andV, wp_orV, wp_notV, wp_if, wp_nil, wp_cons, wp_tup, wp_lst, wp_cb, wp_call, wp_m0, wp_m1, wp_ml0, wp_ml, wp_isi, wp_isi2, wp_nopart, asI_int, wp_part, wp_sl, wp_seq, seqK_nx, seqK_rt, seqK_bk, seqK_ct, wp_next, wp_brk, wp_cont, wp_drop, wp_ret, wp_ifS, wp_set, wp_par, wp_par3, wp_asg, wp_pat, asP_some, wp_sub, asH_some, wp_aug, wp_for, wp_while, wp_lc, wp_lc2, wp_def, defK_rt, defK_nx, wp_miseq, srcK_ref, srcK_tup, srcK_str, rngK_int, wp_range1, wp_enum, enumK_ref, Tl_some, Ts_some, loopK_nx, loopK_ct, loopK_bk, loopK_rt, ixK_some, atI_k0, atI_k1, atI_k2, atI_k3, atI_k4, atI_k5, atI_k6, atI_k8, atI_k9, L2.atI_last, atI_n, g_ix_t, g_ix_s, g_ix_r, cIx_l, cIx_z, cIx_d, cIx_f, g_sub, g_lt, g_le, g_gt, g_ge, g_addi, g_addI, g_adds, g_addt, g_mul, g_muls, g_fdiv, g_mod, g_neg, g_eqs, g_nes, g_eqi, g_nei, g_min, g_max, g_int_b, g_int_i, g_is_non, g_cuts, g_cutt, g_lens, g_lent, g_lenr, cLen_l, cLen_z, g_tupt, g_tupr, cTup_l, g_listt, isLst_r, lstAt_r, cLst_l, cLst_z, tr_r, cTr_l, tr_b, g_set, cSet_l, cSet_d, jK_some, kK_some, ixN_0, ixN_1, ixN_2, isS, mwipe, mPat, mPats, List.getElem?_cons_zero, List.getElem?_cons_succ, List.set_cons_zero, List.set_cons_succ, List.map_cons, List.map_nil, List.length_cons, List.length_nil, List.replicate_succ, List.replicate_zero, List.cons_append, List.nil_append, Nat.reduceAdd, Nat.reduceSub, Nat.reduceLeDiff, Nat.zero_add, Option.map_some, if_true, Bool.false_eq_true, if_false, true_and, and_true, decide_eq_true_eq, reduceIte, reduceCtorEq, e1, q, decide_false]
    refine Tl.newL (by simp) fun h2 x2 l2 e2 => ?_
    exact fin _ _ _ (x1.trans x2) x1.len ⟨_, _, _, e2⟩
theorem atI_map {ns : List Int} {i : Nat} (hi : i < ns.length) : L2.atI (ns.map W.int) (i : Int) = some (.int ns[i]) := by
  rw [atI_n]; simp [hi]
theorem box_spec {n : Nat} {h : MH} {ns : List Int} {k : Nat} (h0 : h[0]? = some (.fz (ns.map .int))) (hk : k ≤ 2) : Tl (f__law_box n [.ref 0, .int k] h) fun w h' => ∃ b, w = .ref b ∧ Ext h h' ∧ h.length ≤ b ∧ IsBox h' b := by
  unfold f__law_box B__law_box
  simp only [wp_def]
  refine Ts.cut (fun s1 h1 => s1 = [some (.ref 0), some (.int k), some (.int (8087 * (k : Int) + 31)), none] ∧ h = h1) (by simp only [wp_c, wp_var, slotK_some, wp_op, wp_un, wp_b, asB_bl, wp_tr, asT_some, wp_yes, wp_and, wp_or, wp_not, wp_caseB, wp_andV, wp_orV, wp_notV, wp_if, wp_nil, wp_cons, wp_tup, wp_lst, wp_cb, wp_call, wp_m0, wp_m1, wp_ml0, wp_ml, wp_isi, wp_isi2, wp_nopart, asI_int, wp_part, wp_sl, wp_seq, seqK_nx, seqK_rt, seqK_bk, seqK_ct, wp_next, wp_brk, wp_cont, wp_drop, wp_ret, wp_ifS, wp_set, wp_par, wp_par3, wp_asg, wp_pat, asP_some, wp_sub, asH_some, wp_aug, wp_for, wp_while, wp_lc, wp_lc2, wp_def, defK_rt, defK_nx, wp_miseq, srcK_ref, srcK_tup, srcK_str, rngK_int, wp_range1, wp_enum, enumK_ref, Tl_some, Ts_some, loopK_nx, loopK_ct, loopK_bk, loopK_rt, ixK_some, atI_k0, atI_k1, atI_k2, atI_k3, atI_k4, atI_k5, atI_k6, atI_k8, atI_k9, L2.atI_last, atI_n, g_ix_t, g_ix_s, g_ix_r, cIx_l, cIx_z, cIx_d, cIx_f, g_sub, g_lt, g_le, g_gt, g_ge, g_addi, g_addI, g_adds, g_addt, g_mul, g_muls, g_fdiv, g_mod, g_neg, g_eqs, g_nes, g_eqi, g_nei, g_min, g_max, g_int_b, g_int_i, g_is_non, g_cuts, g_cutt, g_lens, g_lent, g_lenr, cLen_l, cLen_z, g_tupt, g_tupr, cTup_l, g_listt, isLst_r, lstAt_r, cLst_l, cLst_z, tr_r, cTr_l, tr_b, g_set, cSet_l, cSet_d, jK_some, kK_some, ixN_0, ixN_1, ixN_2, isS, mwipe, mPat, mPats, List.getElem?_cons_zero, List.getElem?_cons_succ, List.set_cons_zero, List.set_cons_succ, List.map_cons, List.map_nil, List.length_cons, List.length_nil, List.replicate_succ, List.replicate_zero, List.cons_append, List.nil_append, Nat.reduceAdd, Nat.reduceSub, Nat.reduceLeDiff, Nat.zero_add, Option.map_some, if_true, Bool.false_eq_true, if_false, true_and, and_true, decide_eq_true_eq, reduceIte, reduceCtorEq]; exact cMl (by decide)) ?_
  rintro _ _ ⟨rfl, rfl⟩
  refine Ts.cut (fun s1 h2 => ∃ v : Int, s1 = [some (.ref 0), some (.int k), some (.int v), none] ∧ h = h2) ?_ ?_
  · by_cases q : k < ns.length
    · have q' : (k : Int) < (ns.length : Int) := by omega
      simp only [wp_c, wp_var, slotK_some, wp_op, wp_un, wp_b, asB_bl, wp_tr, asT_some, wp_yes, wp_and, wp_or, wp_not, wp_caseB, wp_andV, wp_orV, wp_notV, wp_if, wp_nil, wp_cons, wp_tup, wp_lst, wp_cb, wp_call, wp_m0, wp_m1, wp_ml0, wp_ml, wp_isi, wp_isi2, wp_nopart, asI_int, wp_part, wp_sl, wp_seq, seqK_nx, seqK_rt, seqK_bk, seqK_ct, wp_next, wp_brk, wp_cont, wp_drop, wp_ret, wp_ifS, wp_set, wp_par, wp_par3, wp_asg, wp_pat, asP_some, wp_sub, asH_some, wp_aug, wp_for, wp_while, wp_lc, wp_lc2, wp_def, defK_rt, defK_nx, wp_miseq, srcK_ref, srcK_tup, srcK_str, rngK_int, wp_range1, wp_enum, enumK_ref, Tl_some, Ts_some, loopK_nx, loopK_ct, loopK_bk, loopK_rt, ixK_some, atI_k0, atI_k1, atI_k2, atI_k3, atI_k4, atI_k5, atI_k6, atI_k8, atI_k9, L2.atI_last, atI_n, g_ix_t, g_ix_s, g_ix_r, cIx_l, cIx_z, cIx_d, cIx_f, g_sub, g_lt, g_le, g_gt, g_ge, g_addi, g_addI, g_adds, g_addt, g_mul, g_muls, g_fdiv, g_mod, g_neg, g_eqs, g_nes, g_eqi, g_nei, g_min, g_max, g_int_b, g_int_i, g_is_non, g_cuts, g_cutt, g_lens, g_lent, g_lenr, cLen_l, cLen_z, g_tupt, g_tupr, cTup_l, g_listt, isLst_r, lstAt_r, cLst_l, cLst_z, tr_r, cTr_l, tr_b, g_set, cSet_l, cSet_d, jK_some, kK_some, ixN_0, ixN_1, ixN_2, isS, mwipe, mPat, mPats, List.getElem?_cons_zero, List.getElem?_cons_succ, List.set_cons_zero, List.set_cons_succ, List.map_cons, List.map_nil, List.length_cons, List.length_nil, List.replicate_succ, List.replicate_zero, List.cons_append, List.nil_append, Nat.reduceAdd, Nat.reduceSub, Nat.reduceLeDiff, Nat.zero_add, Option.map_some, if_true, Bool.false_eq_true, if_false, true_and, and_true, decide_eq_true_eq, reduceIte, reduceCtorEq, h0, List.length_map, q', List.getElem?_map, List.getElem?_eq_getElem q]
      exact ⟨_, rfl⟩
    · have q' : ¬ (k : Int) < (ns.length : Int) := by omega
      by_cases z : 0 < ns.length
      · have z' : (0 : Int) < (ns.length : Int) := by omega
        have hm : k % ns.length < ns.length := Nat.mod_lt _ z
        have ea : L2.atI (ns.map W.int) ((k : Int) % (ns.length : Int)) = some (.int ns[k % ns.length]) := by
          rw [show ((k : Int) % (ns.length : Int)) = ((k % ns.length : Nat) : Int) from (Int.natCast_emod k ns.length).symm]
          exact atI_map hm
        simp only [wp_c, wp_var, slotK_some, wp_op, wp_un, wp_b, asB_bl, wp_tr, asT_some, wp_yes, wp_and, wp_or, wp_not, wp_caseB, wp_andV, wp_orV, wp_notV, wp_if, wp_nil, wp_cons, wp_tup, wp_lst, wp_cb, wp_call, wp_m0, wp_m1, wp_ml0, wp_ml, wp_isi, wp_isi2, wp_nopart, asI_int, wp_part, wp_sl, wp_seq, seqK_nx, seqK_rt, seqK_bk, seqK_ct, wp_next, wp_brk, wp_cont, wp_drop, wp_ret, wp_ifS, wp_set, wp_par, wp_par3, wp_asg, wp_pat, asP_some, wp_sub, asH_some, wp_aug, wp_for, wp_while, wp_lc, wp_lc2, wp_def, defK_rt, defK_nx, wp_miseq, srcK_ref, srcK_tup, srcK_str, rngK_int, wp_range1, wp_enum, enumK_ref, Tl_some, Ts_some, loopK_nx, loopK_ct, loopK_bk, loopK_rt, ixK_some, atI_k0, atI_k1, atI_k2, atI_k3, atI_k4, atI_k5, atI_k6, atI_k8, atI_k9, L2.atI_last, atI_n, g_ix_t, g_ix_s, g_ix_r, cIx_l, cIx_z, cIx_d, cIx_f, g_sub, g_lt, g_le, g_gt, g_ge, g_addi, g_addI, g_adds, g_addt, g_mul, g_muls, g_fdiv, g_mod, g_neg, g_eqs, g_nes, g_eqi, g_nei, g_min, g_max, g_int_b, g_int_i, g_is_non, g_cuts, g_cutt, g_lens, g_lent, g_lenr, cLen_l, cLen_z, g_tupt, g_tupr, cTup_l, g_listt, isLst_r, lstAt_r, cLst_l, cLst_z, tr_r, cTr_l, tr_b, g_set, cSet_l, cSet_d, jK_some, kK_some, ixN_0, ixN_1, ixN_2, isS, mwipe, mPat, mPats, List.getElem?_cons_zero, List.getElem?_cons_succ, List.set_cons_zero, List.set_cons_succ, List.map_cons, List.map_nil, List.length_cons, List.length_nil, List.replicate_succ, List.replicate_zero, List.cons_append, List.nil_append, Nat.reduceAdd, Nat.reduceSub, Nat.reduceLeDiff, Nat.zero_add, Option.map_some, if_true, Bool.false_eq_true, if_false, true_and, and_true, decide_eq_true_eq, reduceIte, reduceCtorEq, h0, q', z', List.length_map, ea]
        exact ⟨by decide, cMr (by decide), _, rfl⟩
      · have z' : ¬ (0 : Int) < (ns.length : Int) := by omega
        simp only [wp_c, wp_var, slotK_some, wp_op, wp_un, wp_b, asB_bl, wp_tr, asT_some, wp_yes, wp_and, wp_or, wp_not, wp_caseB, wp_andV, wp_orV, wp_notV, wp_if, wp_nil, wp_cons, wp_tup, wp_lst, wp_cb, wp_call, wp_m0, wp_m1, wp_ml0, wp_ml, wp_isi, wp_isi2, wp_nopart, asI_int, wp_part, wp_sl, wp_seq, seqK_nx, seqK_rt, seqK_bk, seqK_ct, wp_next, wp_brk, wp_cont, wp_drop, wp_ret, wp_ifS, wp_set, wp_par, wp_par3, wp_asg, wp_pat, asP_some, wp_sub, asH_some, wp_aug, wp_for, wp_while, wp_lc, wp_lc2, wp_def, defK_rt, defK_nx, wp_miseq, srcK_ref, srcK_tup, srcK_str, rngK_int, wp_range1, wp_enum, enumK_ref, Tl_some, Ts_some, loopK_nx, loopK_ct, loopK_bk, loopK_rt, ixK_some, atI_k0, atI_k1, atI_k2, atI_k3, atI_k4, atI_k5, atI_k6, atI_k8, atI_k9, L2.atI_last, atI_n, g_ix_t, g_ix_s, g_ix_r, cIx_l, cIx_z, cIx_d, cIx_f, g_sub, g_lt, g_le, g_gt, g_ge, g_addi, g_addI, g_adds, g_addt, g_mul, g_muls, g_fdiv, g_mod, g_neg, g_eqs, g_nes, g_eqi, g_nei, g_min, g_max, g_int_b, g_int_i, g_is_non, g_cuts, g_cutt, g_lens, g_lent, g_lenr, cLen_l, cLen_z, g_tupt, g_tupr, cTup_l, g_listt, isLst_r, lstAt_r, cLst_l, cLst_z, tr_r, cTr_l, tr_b, g_set, cSet_l, cSet_d, jK_some, kK_some, ixN_0, ixN_1, ixN_2, isS, mwipe, mPat, mPats, List.getElem?_cons_zero, List.getElem?_cons_succ, List.set_cons_zero, List.set_cons_succ, List.map_cons, List.map_nil, List.length_cons, List.length_nil, List.replicate_succ, List.replicate_zero, List.cons_append, List.nil_append, Nat.reduceAdd, Nat.reduceSub, Nat.reduceLeDiff, Nat.zero_add, Option.map_some, if_true, Bool.false_eq_true, if_false, true_and, and_true, decide_eq_true_eq, reduceIte, reduceCtorEq, h0, q', z', List.length_map]
        exact ⟨_, rfl⟩
  · rintro _ _ ⟨v, rfl, rfl⟩
    exact box_tail fun b h' s x1 x2 x3 => ⟨b, rfl, x1, x2, x3⟩
end K03

namespace K03
open PySem PySem.Spec PyProof.Rows L2 Mi
theorem strs_of {G : Str → Prop} : ∀ {ys : List W}, (∀ y ∈ ys, ∃ z, y = .str z ∧ G z) → ∃ zs : List Str, ys = zs.map .str ∧ ∀ z ∈ zs, G z
  | [], _ => ⟨[], rfl, by simp⟩
  | y :: ys, h => by
    obtain ⟨z, e, g⟩ := h y (by simp)
    obtain ⟨zs, e2, g2⟩ := strs_of (ys := ys) fun y hy => h y (by simp [hy])
    exact ⟨z :: zs, by rw [e, e2]; rfl, by simpa using ⟨g, g2⟩⟩
theorem range_get {k i : Nat} {x : W} (e : (rangeW 0 k)[i]? = some x) : x = .int i ∧ i < k := by
  unfold rangeW at e
  rw [List.getElem?_map] at e
  cases q : (List.range k)[i]? with
  | none => rw [q] at e; cases e
  | some j =>
    rw [q] at e
    obtain ⟨hi, ej⟩ := List.getElem?_eq_some_iff.mp q
    simp at ej hi
    subst ej
    simp at e
    exact ⟨e.symm, hi⟩
theorem range_len {k : Nat} : (rangeW 0 k).length = k := by simp [rangeW]
theorem Tl.join {h : MH} {Q : W → MH → Prop} {a : Str} {d : Nat} {zs : List Str} (e : h[d]? = some (.lst (zs.map .str))) (hz : (zs.map (·.length)).sum + zs.length * a.length ≤ 16777216) (k : Q (.str (Txt.join a zs)) h) : Tl (gJoin (.str a) [.ref d] h) Q := by
  have : gJoin (.str a) [.ref d] h = some (.str (Txt.join a zs), h) := by
    simp only [gJoin, seqOf, lstAt_lst e, strsW_map]
    simp only [hz, decide_true, if_true]
  rw [this, Tl_some]; exact k
theorem sm62 {d : Int} (h : 0 ≤ d ∧ d < 1000000) : small62 d = true := by
  unfold small62; rw [decide_eq_true (by omega), decide_eq_true (by omega)]; rfl
def letters : Str := "abcdefghijklmnopqrstuvwxyz"
theorem letters_low : ∀ c ∈ letters.cps.toList, c < 128 := by decide +kernel
theorem letters_len : letters.length = 26 := by decide +kernel
theorem letter_at {i : Int} (h0 : 0 ≤ i) (h1 : i < 26) : ∃ c, L2.atI letters.cps.toList i = some c ∧ c < 128 := by
  have hl : letters.cps.toList.length = 26 := by decide +kernel
  obtain ⟨c, e1, e2⟩ := Mi.atI_get (xs := letters.cps.toList) h0 (by rw [hl]; omega)
  exact ⟨c, e1, letters_low c (List.mem_of_getElem? e2)⟩
theorem good1 {c : Nat} (h : c < 128) : GoodT 1 ⟨#[c]⟩ := ⟨Nat.le_refl _, fun d hd => by
  have : d = c := by simpa using hd
  omega⟩
theorem repS_q (k : Nat) : ∃ z, repS "q" ((k : Int) % 2) = z ∧ GoodT 1 z ∧ z.length = k % 2 := by
  rcases Nat.mod_two_eq_zero_or_one k with e | e
  · refine ⟨_, rfl, ?_⟩
    rw [show ((k : Int) % 2) = 0 by omega, e]
    exact ⟨⟨by decide +kernel, by decide +kernel⟩, by decide +kernel⟩
  · refine ⟨_, rfl, ?_⟩
    rw [show ((k : Int) % 2) = 1 by omega, e]
    exact ⟨⟨by decide +kernel, by decide +kernel⟩, by decide +kernel⟩
theorem len_app {x y : Str} : (x ++ y).length = x.length + y.length := Str.length_append ..
/-- names: short, low, of lengths that go up and down by one -/
def NameAt (L i : Nat) (x : Str) : Prop := GoodT 6 x ∧ x.length = L + 1 + i % 2
theorem names_spec {n b m : Nat} {h : MH} (hn : 100 ≤ n) (hb : IsBox h b) (hm : m ≤ 60) : Tl (f__law_names n [.ref b, .int m] h) fun w h' => ∃ (p : Nat) (xs : List Str) (L : Nat), w = .ref p ∧ Bx b h h' ∧ h.length ≤ p ∧ h'[p]? = some (.lst (xs.map .str)) ∧ xs.length = m ∧ L ≤ 4 ∧ ∀ (i : Nat) (x : Str), xs[i]? = some x → NameAt L i x := by
  unfold f__law_names B__law_names
  try simp only [wp_c, wp_var, slotK_some, wp_op, wp_un, wp_b, asB_bl, wp_tr, asT_some, wp_yes, wp_and, wp_or, wp_not, wp_caseB, wp_andV, wp_orV, wp_notV, wp_if, wp_nil, wp_cons, wp_tup, wp_lst, wp_cb, wp_call, wp_m0, wp_m1, wp_ml0, wp_ml, wp_isi, wp_isi2, wp_nopart, asI_int, wp_part, wp_sl, wp_seq, seqK_nx, seqK_rt, seqK_bk, seqK_ct, wp_next, wp_brk, wp_cont, wp_drop, wp_ret, wp_ifS, wp_set, wp_par, wp_par3, wp_asg, wp_pat, asP_some, wp_sub, asH_some, wp_aug, wp_for, wp_while, wp_lc, wp_lc2, wp_def, defK_rt, defK_nx, wp_miseq, srcK_ref, srcK_tup, srcK_str, rngK_int, wp_range1, wp_enum, enumK_ref, Tl_some, Ts_some, loopK_nx, loopK_ct, loopK_bk, loopK_rt, ixK_some, atI_k0, atI_k1, atI_k2, atI_k3, atI_k4, atI_k5, atI_k6, atI_k8, atI_k9, L2.atI_last, atI_n, g_ix_t, g_ix_s, g_ix_r, cIx_l, cIx_z, cIx_d, cIx_f, g_sub, g_lt, g_le, g_gt, g_ge, g_addi, g_addI, g_adds, g_addt, g_mul, g_muls, g_fdiv, g_mod, g_neg, g_eqs, g_nes, g_eqi, g_nei, g_min, g_max, g_int_b, g_int_i, g_is_non, g_cuts, g_cutt, g_lens, g_lent, g_lenr, cLen_l, cLen_z, g_tupt, g_tupr, cTup_l, g_listt, isLst_r, lstAt_r, cLst_l, cLst_z, tr_r, cTr_l, tr_b, g_set, cSet_l, cSet_d, jK_some, kK_some, ixN_0, ixN_1, ixN_2, isS, mwipe, mPat, mPats, List.getElem?_cons_zero, List.getElem?_cons_succ, List.set_cons_zero, List.set_cons_succ, List.map_cons, List.map_nil, List.length_cons, List.length_nil, List.replicate_succ, List.replicate_zero, List.cons_append, List.nil_append, Nat.reduceAdd, Nat.reduceSub, Nat.reduceLeDiff, Nat.zero_add, Option.map_some, if_true, Bool.false_eq_true, if_false, true_and, and_true, decide_eq_true_eq, reduceIte, reduceCtorEq]
  refine (take_spec hb (by decide) (by decide)).by ?_
  rintro _ h1 ⟨d, rfl, d0, d1, B1⟩
  try simp only [wp_c, wp_var, slotK_some, wp_op, wp_un, wp_b, asB_bl, wp_tr, asT_some, wp_yes, wp_and, wp_or, wp_not, wp_caseB, wp_andV, wp_orV, wp_notV, wp_if, wp_nil, wp_cons, wp_tup, wp_lst, wp_cb, wp_call, wp_m0, wp_m1, wp_ml0, wp_ml, wp_isi, wp_isi2, wp_nopart, asI_int, wp_part, wp_sl, wp_seq, seqK_nx, seqK_rt, seqK_bk, seqK_ct, wp_next, wp_brk, wp_cont, wp_drop, wp_ret, wp_ifS, wp_set, wp_par, wp_par3, wp_asg, wp_pat, asP_some, wp_sub, asH_some, wp_aug, wp_for, wp_while, wp_lc, wp_lc2, wp_def, defK_rt, defK_nx, wp_miseq, srcK_ref, srcK_tup, srcK_str, rngK_int, wp_range1, wp_enum, enumK_ref, Tl_some, Ts_some, loopK_nx, loopK_ct, loopK_bk, loopK_rt, ixK_some, atI_k0, atI_k1, atI_k2, atI_k3, atI_k4, atI_k5, atI_k6, atI_k8, atI_k9, L2.atI_last, atI_n, g_ix_t, g_ix_s, g_ix_r, cIx_l, cIx_z, cIx_d, cIx_f, g_sub, g_lt, g_le, g_gt, g_ge, g_addi, g_addI, g_adds, g_addt, g_mul, g_muls, g_fdiv, g_mod, g_neg, g_eqs, g_nes, g_eqi, g_nei, g_min, g_max, g_int_b, g_int_i, g_is_non, g_cuts, g_cutt, g_lens, g_lent, g_lenr, cLen_l, cLen_z, g_tupt, g_tupr, cTup_l, g_listt, isLst_r, lstAt_r, cLst_l, cLst_z, tr_r, cTr_l, tr_b, g_set, cSet_l, cSet_d, jK_some, kK_some, ixN_0, ixN_1, ixN_2, isS, mwipe, mPat, mPats, List.getElem?_cons_zero, List.getElem?_cons_succ, List.set_cons_zero, List.set_cons_succ, List.map_cons, List.map_nil, List.length_cons, List.length_nil, List.replicate_succ, List.replicate_zero, List.cons_append, List.nil_append, Nat.reduceAdd, Nat.reduceSub, Nat.reduceLeDiff, Nat.zero_add, Option.map_some, if_true, Bool.false_eq_true, if_false, true_and, and_true, decide_eq_true_eq, reduceIte, reduceCtorEq]
  refine ⟨sm62 ⟨d0, by omega⟩, ?_⟩
  refine Tl.lc_b (b := b) (fun i w => ∃ z, w = .str z ∧ GoodT 1 z) B1.box (fun h' _ => is_items) (by rw [range_len]; omega) (by rw [range_len]; omega) ?_ ?_
  · intro i x ex h2 B2
    refine ⟨_, rfl, ?_⟩
    try simp only [wp_c, wp_var, slotK_some, wp_op, wp_un, wp_b, asB_bl, wp_tr, asT_some, wp_yes, wp_and, wp_or, wp_not, wp_caseB, wp_andV, wp_orV, wp_notV, wp_if, wp_nil, wp_cons, wp_tup, wp_lst, wp_cb, wp_call, wp_m0, wp_m1, wp_ml0, wp_ml, wp_isi, wp_isi2, wp_nopart, asI_int, wp_part, wp_sl, wp_seq, seqK_nx, seqK_rt, seqK_bk, seqK_ct, wp_next, wp_brk, wp_cont, wp_drop, wp_ret, wp_ifS, wp_set, wp_par, wp_par3, wp_asg, wp_pat, asP_some, wp_sub, asH_some, wp_aug, wp_for, wp_while, wp_lc, wp_lc2, wp_def, defK_rt, defK_nx, wp_miseq, srcK_ref, srcK_tup, srcK_str, rngK_int, wp_range1, wp_enum, enumK_ref, Tl_some, Ts_some, loopK_nx, loopK_ct, loopK_bk, loopK_rt, ixK_some, atI_k0, atI_k1, atI_k2, atI_k3, atI_k4, atI_k5, atI_k6, atI_k8, atI_k9, L2.atI_last, atI_n, g_ix_t, g_ix_s, g_ix_r, cIx_l, cIx_z, cIx_d, cIx_f, g_sub, g_lt, g_le, g_gt, g_ge, g_addi, g_addI, g_adds, g_addt, g_mul, g_muls, g_fdiv, g_mod, g_neg, g_eqs, g_nes, g_eqi, g_nei, g_min, g_max, g_int_b, g_int_i, g_is_non, g_cuts, g_cutt, g_lens, g_lent, g_lenr, cLen_l, cLen_z, g_tupt, g_tupr, cTup_l, g_listt, isLst_r, lstAt_r, cLst_l, cLst_z, tr_r, cTr_l, tr_b, g_set, cSet_l, cSet_d, jK_some, kK_some, ixN_0, ixN_1, ixN_2, isS, mwipe, mPat, mPats, List.getElem?_cons_zero, List.getElem?_cons_succ, List.set_cons_zero, List.set_cons_succ, List.map_cons, List.map_nil, List.length_cons, List.length_nil, List.replicate_succ, List.replicate_zero, List.cons_append, List.nil_append, Nat.reduceAdd, Nat.reduceSub, Nat.reduceLeDiff, Nat.zero_add, Option.map_some, if_true, Bool.false_eq_true, if_false, true_and, and_true, decide_eq_true_eq, reduceIte, reduceCtorEq]
    refine (take_spec B2.box (by decide) (by decide)).by ?_
    rintro _ h3 ⟨e, rfl, e0, e1, B3⟩
    obtain ⟨c, ec, hc⟩ := letter_at e0 e1
    try simp only [wp_c, wp_var, slotK_some, wp_op, wp_un, wp_b, asB_bl, wp_tr, asT_some, wp_yes, wp_and, wp_or, wp_not, wp_caseB, wp_andV, wp_orV, wp_notV, wp_if, wp_nil, wp_cons, wp_tup, wp_lst, wp_cb, wp_call, wp_m0, wp_m1, wp_ml0, wp_ml, wp_isi, wp_isi2, wp_nopart, asI_int, wp_part, wp_sl, wp_seq, seqK_nx, seqK_rt, seqK_bk, seqK_ct, wp_next, wp_brk, wp_cont, wp_drop, wp_ret, wp_ifS, wp_set, wp_par, wp_par3, wp_asg, wp_pat, asP_some, wp_sub, asH_some, wp_aug, wp_for, wp_while, wp_lc, wp_lc2, wp_def, defK_rt, defK_nx, wp_miseq, srcK_ref, srcK_tup, srcK_str, rngK_int, wp_range1, wp_enum, enumK_ref, Tl_some, Ts_some, loopK_nx, loopK_ct, loopK_bk, loopK_rt, ixK_some, atI_k0, atI_k1, atI_k2, atI_k3, atI_k4, atI_k5, atI_k6, atI_k8, atI_k9, L2.atI_last, atI_n, g_ix_t, g_ix_s, g_ix_r, cIx_l, cIx_z, cIx_d, cIx_f, g_sub, g_lt, g_le, g_gt, g_ge, g_addi, g_addI, g_adds, g_addt, g_mul, g_muls, g_fdiv, g_mod, g_neg, g_eqs, g_nes, g_eqi, g_nei, g_min, g_max, g_int_b, g_int_i, g_is_non, g_cuts, g_cutt, g_lens, g_lent, g_lenr, cLen_l, cLen_z, g_tupt, g_tupr, cTup_l, g_listt, isLst_r, lstAt_r, cLst_l, cLst_z, tr_r, cTr_l, tr_b, g_set, cSet_l, cSet_d, jK_some, kK_some, ixN_0, ixN_1, ixN_2, isS, mwipe, mPat, mPats, List.getElem?_cons_zero, List.getElem?_cons_succ, List.set_cons_zero, List.set_cons_succ, List.map_cons, List.map_nil, List.length_cons, List.length_nil, List.replicate_succ, List.replicate_zero, List.cons_append, List.nil_append, Nat.reduceAdd, Nat.reduceSub, Nat.reduceLeDiff, Nat.zero_add, Option.map_some, if_true, Bool.false_eq_true, if_false, true_and, and_true, decide_eq_true_eq, reduceIte, reduceCtorEq]
    refine ⟨by decide +kernel, ?_⟩
    rw [show Str.ofString "abcdefghijklmnopqrstuvwxyz" = letters from rfl, ec]
    exact ⟨⟨_, rfl, good1 hc⟩, B3⟩
  · intro h2 ys B2 eys lys hys
    obtain ⟨zs, rfl, hzs⟩ := strs_of (G := GoodT 1) fun y hy => by
      obtain ⟨i, hi, e⟩ := List.getElem_of_mem hy
      exact hys i y (by rw [← e]; exact List.getElem?_eq_getElem hi)
    rw [range_len, List.length_map] at lys
    have hsum := sum_le hzs
    refine Tl.join eys (by rw [show Str.length (Str.ofString "") = 0 from rfl]; omega) ?_
    have gs : GoodT 4 (Txt.join (Str.ofString "") zs) := (join_good hzs).mono (by omega)
    generalize Txt.join (Str.ofString "") zs = stem at gs
    have ls := gs.len
    try simp only [wp_c, wp_var, slotK_some, wp_op, wp_un, wp_b, asB_bl, wp_tr, asT_some, wp_yes, wp_and, wp_or, wp_not, wp_caseB, wp_andV, wp_orV, wp_notV, wp_if, wp_nil, wp_cons, wp_tup, wp_lst, wp_cb, wp_call, wp_m0, wp_m1, wp_ml0, wp_ml, wp_isi, wp_isi2, wp_nopart, asI_int, wp_part, wp_sl, wp_seq, seqK_nx, seqK_rt, seqK_bk, seqK_ct, wp_next, wp_brk, wp_cont, wp_drop, wp_ret, wp_ifS, wp_set, wp_par, wp_par3, wp_asg, wp_pat, asP_some, wp_sub, asH_some, wp_aug, wp_for, wp_while, wp_lc, wp_lc2, wp_def, defK_rt, defK_nx, wp_miseq, srcK_ref, srcK_tup, srcK_str, rngK_int, wp_range1, wp_enum, enumK_ref, Tl_some, Ts_some, loopK_nx, loopK_ct, loopK_bk, loopK_rt, ixK_some, atI_k0, atI_k1, atI_k2, atI_k3, atI_k4, atI_k5, atI_k6, atI_k8, atI_k9, L2.atI_last, atI_n, g_ix_t, g_ix_s, g_ix_r, cIx_l, cIx_z, cIx_d, cIx_f, g_sub, g_lt, g_le, g_gt, g_ge, g_addi, g_addI, g_adds, g_addt, g_mul, g_muls, g_fdiv, g_mod, g_neg, g_eqs, g_nes, g_eqi, g_nei, g_min, g_max, g_int_b, g_int_i, g_is_non, g_cuts, g_cutt, g_lens, g_lent, g_lenr, cLen_l, cLen_z, g_tupt, g_tupr, cTup_l, g_listt, isLst_r, lstAt_r, cLst_l, cLst_z, tr_r, cTr_l, tr_b, g_set, cSet_l, cSet_d, jK_some, kK_some, ixN_0, ixN_1, ixN_2, isS, mwipe, mPat, mPats, List.getElem?_cons_zero, List.getElem?_cons_succ, List.set_cons_zero, List.set_cons_succ, List.map_cons, List.map_nil, List.length_cons, List.length_nil, List.replicate_succ, List.replicate_zero, List.cons_append, List.nil_append, Nat.reduceAdd, Nat.reduceSub, Nat.reduceLeDiff, Nat.zero_add, Option.map_some, if_true, Bool.false_eq_true, if_false, true_and, and_true, decide_eq_true_eq, reduceIte, reduceCtorEq]
    refine ⟨by omega, ?_⟩
    refine (take_spec B2.box (by omega) (by omega)).by ?_
    rintro _ h3 ⟨spot, rfl, s0, s1, B3⟩
    try simp only [wp_c, wp_var, slotK_some, wp_op, wp_un, wp_b, asB_bl, wp_tr, asT_some, wp_yes, wp_and, wp_or, wp_not, wp_caseB, wp_andV, wp_orV, wp_notV, wp_if, wp_nil, wp_cons, wp_tup, wp_lst, wp_cb, wp_call, wp_m0, wp_m1, wp_ml0, wp_ml, wp_isi, wp_isi2, wp_nopart, asI_int, wp_part, wp_sl, wp_seq, seqK_nx, seqK_rt, seqK_bk, seqK_ct, wp_next, wp_brk, wp_cont, wp_drop, wp_ret, wp_ifS, wp_set, wp_par, wp_par3, wp_asg, wp_pat, asP_some, wp_sub, asH_some, wp_aug, wp_for, wp_while, wp_lc, wp_lc2, wp_def, defK_rt, defK_nx, wp_miseq, srcK_ref, srcK_tup, srcK_str, rngK_int, wp_range1, wp_enum, enumK_ref, Tl_some, Ts_some, loopK_nx, loopK_ct, loopK_bk, loopK_rt, ixK_some, atI_k0, atI_k1, atI_k2, atI_k3, atI_k4, atI_k5, atI_k6, atI_k8, atI_k9, L2.atI_last, atI_n, g_ix_t, g_ix_s, g_ix_r, cIx_l, cIx_z, cIx_d, cIx_f, g_sub, g_lt, g_le, g_gt, g_ge, g_addi, g_addI, g_adds, g_addt, g_mul, g_muls, g_fdiv, g_mod, g_neg, g_eqs, g_nes, g_eqi, g_nei, g_min, g_max, g_int_b, g_int_i, g_is_non, g_cuts, g_cutt, g_lens, g_lent, g_lenr, cLen_l, cLen_z, g_tupt, g_tupr, cTup_l, g_listt, isLst_r, lstAt_r, cLst_l, cLst_z, tr_r, cTr_l, tr_b, g_set, cSet_l, cSet_d, jK_some, kK_some, ixN_0, ixN_1, ixN_2, isS, mwipe, mPat, mPats, List.getElem?_cons_zero, List.getElem?_cons_succ, List.set_cons_zero, List.set_cons_succ, List.map_cons, List.map_nil, List.length_cons, List.length_nil, List.replicate_succ, List.replicate_zero, List.cons_append, List.nil_append, Nat.reduceAdd, Nat.reduceSub, Nat.reduceLeDiff, Nat.zero_add, Option.map_some, if_true, Bool.false_eq_true, if_false, true_and, and_true, decide_eq_true_eq, reduceIte, reduceCtorEq]
    refine (take_spec B3.box (by decide) (by decide)).by ?_
    rintro _ h4 ⟨first, rfl, f0, f1, B4⟩
    try simp only [wp_c, wp_var, slotK_some, wp_op, wp_un, wp_b, asB_bl, wp_tr, asT_some, wp_yes, wp_and, wp_or, wp_not, wp_caseB, wp_andV, wp_orV, wp_notV, wp_if, wp_nil, wp_cons, wp_tup, wp_lst, wp_cb, wp_call, wp_m0, wp_m1, wp_ml0, wp_ml, wp_isi, wp_isi2, wp_nopart, asI_int, wp_part, wp_sl, wp_seq, seqK_nx, seqK_rt, seqK_bk, seqK_ct, wp_next, wp_brk, wp_cont, wp_drop, wp_ret, wp_ifS, wp_set, wp_par, wp_par3, wp_asg, wp_pat, asP_some, wp_sub, asH_some, wp_aug, wp_for, wp_while, wp_lc, wp_lc2, wp_def, defK_rt, defK_nx, wp_miseq, srcK_ref, srcK_tup, srcK_str, rngK_int, wp_range1, wp_enum, enumK_ref, Tl_some, Ts_some, loopK_nx, loopK_ct, loopK_bk, loopK_rt, ixK_some, atI_k0, atI_k1, atI_k2, atI_k3, atI_k4, atI_k5, atI_k6, atI_k8, atI_k9, L2.atI_last, atI_n, g_ix_t, g_ix_s, g_ix_r, cIx_l, cIx_z, cIx_d, cIx_f, g_sub, g_lt, g_le, g_gt, g_ge, g_addi, g_addI, g_adds, g_addt, g_mul, g_muls, g_fdiv, g_mod, g_neg, g_eqs, g_nes, g_eqi, g_nei, g_min, g_max, g_int_b, g_int_i, g_is_non, g_cuts, g_cutt, g_lens, g_lent, g_lenr, cLen_l, cLen_z, g_tupt, g_tupr, cTup_l, g_listt, isLst_r, lstAt_r, cLst_l, cLst_z, tr_r, cTr_l, tr_b, g_set, cSet_l, cSet_d, jK_some, kK_some, ixN_0, ixN_1, ixN_2, isS, mwipe, mPat, mPats, List.getElem?_cons_zero, List.getElem?_cons_succ, List.set_cons_zero, List.set_cons_succ, List.map_cons, List.map_nil, List.length_cons, List.length_nil, List.replicate_succ, List.replicate_zero, List.cons_append, List.nil_append, Nat.reduceAdd, Nat.reduceSub, Nat.reduceLeDiff, Nat.zero_add, Option.map_some, if_true, Bool.false_eq_true, if_false, true_and, and_true, decide_eq_true_eq, reduceIte, reduceCtorEq]
    refine Tl.newL (by simp) fun h5 x5 l5 e5 => ?_
    try simp only [wp_c, wp_var, slotK_some, wp_op, wp_un, wp_b, asB_bl, wp_tr, asT_some, wp_yes, wp_and, wp_or, wp_not, wp_caseB, wp_andV, wp_orV, wp_notV, wp_if, wp_nil, wp_cons, wp_tup, wp_lst, wp_cb, wp_call, wp_m0, wp_m1, wp_ml0, wp_ml, wp_isi, wp_isi2, wp_nopart, asI_int, wp_part, wp_sl, wp_seq, seqK_nx, seqK_rt, seqK_bk, seqK_ct, wp_next, wp_brk, wp_cont, wp_drop, wp_ret, wp_ifS, wp_set, wp_par, wp_par3, wp_asg, wp_pat, asP_some, wp_sub, asH_some, wp_aug, wp_for, wp_while, wp_lc, wp_lc2, wp_def, defK_rt, defK_nx, wp_miseq, srcK_ref, srcK_tup, srcK_str, rngK_int, wp_range1, wp_enum, enumK_ref, Tl_some, Ts_some, loopK_nx, loopK_ct, loopK_bk, loopK_rt, ixK_some, atI_k0, atI_k1, atI_k2, atI_k3, atI_k4, atI_k5, atI_k6, atI_k8, atI_k9, L2.atI_last, atI_n, g_ix_t, g_ix_s, g_ix_r, cIx_l, cIx_z, cIx_d, cIx_f, g_sub, g_lt, g_le, g_gt, g_ge, g_addi, g_addI, g_adds, g_addt, g_mul, g_muls, g_fdiv, g_mod, g_neg, g_eqs, g_nes, g_eqi, g_nei, g_min, g_max, g_int_b, g_int_i, g_is_non, g_cuts, g_cutt, g_lens, g_lent, g_lenr, cLen_l, cLen_z, g_tupt, g_tupr, cTup_l, g_listt, isLst_r, lstAt_r, cLst_l, cLst_z, tr_r, cTr_l, tr_b, g_set, cSet_l, cSet_d, jK_some, kK_some, ixN_0, ixN_1, ixN_2, isS, mwipe, mPat, mPats, List.getElem?_cons_zero, List.getElem?_cons_succ, List.set_cons_zero, List.set_cons_succ, List.map_cons, List.map_nil, List.length_cons, List.length_nil, List.replicate_succ, List.replicate_zero, List.cons_append, List.nil_append, Nat.reduceAdd, Nat.reduceSub, Nat.reduceLeDiff, Nat.zero_add, Option.map_some, if_true, Bool.false_eq_true, if_false, true_and, and_true, decide_eq_true_eq, reduceIte, reduceCtorEq]
    refine ⟨sm62 ⟨by omega, by omega⟩, ?_⟩
    have B := (((B1.trans B2).trans B3).trans B4)
    have B5 := B.ext x5
    have hl : h.length ≤ h4.length := B.len
    refine Ts.for_ (rangeW 0 (Int.toNat m)) (fun i s hh => ∃ xs : List Str, Bx b h hh ∧ hh[h4.length]? = some (.lst (xs.map .str)) ∧ xs.length = i ∧ (∀ (i : Nat) (x : Str), xs[i]? = some x → NameAt stem.length i x) ∧ ∃ u v, s = [some (.ref b), some (.int m), some (.str "abcdefghijklmnopqrstuvwxyz"), some (.str stem), some (.ref h4.length), u, some (.int spot), some (.int first), v])
      (fun _ _ _ _ => is_items) (by rw [range_len]; omega) ⟨[], B5, e5, rfl, by simp, none, none, rfl⟩ ?_ ?_
    · rintro i x s hh ex ⟨xs, BB, eh, lx, hx, u, v, rfl⟩
      obtain ⟨rfl, hi⟩ := range_get ex
      obtain ⟨c, ec, hc⟩ := letter_at (i := (first + 7 * (i : Int)) % 26) (by omega) (by omega)
      obtain ⟨z, ez, gz, lz⟩ := repS_q i
      have c1 := gs.cut none (some spot)
      have c2 := gs.cut (some spot) none
      have l1 := cutS_lo (z := stem) s0 (by omega)
      have l2 := cutS_hi (z := stem) s0 (by omega)
      have gc := good1 hc
      simp only [wp_c, wp_var, slotK_some, wp_op, wp_un, wp_b, asB_bl, wp_tr, asT_some, wp_yes, wp_and, wp_or, wp_not, wp_caseB, wp_andV, wp_orV, wp_notV, wp_if, wp_nil, wp_cons, wp_tup, wp_lst, wp_cb, wp_call, wp_m0, wp_m1, wp_ml0, wp_ml, wp_isi, wp_isi2, wp_nopart, asI_int, wp_part, wp_sl, wp_seq, seqK_nx, seqK_rt, seqK_bk, seqK_ct, wp_next, wp_brk, wp_cont, wp_drop, wp_ret, wp_ifS, wp_set, wp_par, wp_par3, wp_asg, wp_pat, asP_some, wp_sub, asH_some, wp_aug, wp_for, wp_while, wp_lc, wp_lc2, wp_def, defK_rt, defK_nx, wp_miseq, srcK_ref, srcK_tup, srcK_str, rngK_int, wp_range1, wp_enum, enumK_ref, Tl_some, Ts_some, loopK_nx, loopK_ct, loopK_bk, loopK_rt, ixK_some, atI_k0, atI_k1, atI_k2, atI_k3, atI_k4, atI_k5, atI_k6, atI_k8, atI_k9, L2.atI_last, atI_n, g_ix_t, g_ix_s, g_ix_r, cIx_l, cIx_z, cIx_d, cIx_f, g_sub, g_lt, g_le, g_gt, g_ge, g_addi, g_addI, g_adds, g_addt, g_mul, g_muls, g_fdiv, g_mod, g_neg, g_eqs, g_nes, g_eqi, g_nei, g_min, g_max, g_int_b, g_int_i, g_is_non, g_cuts, g_cutt, g_lens, g_lent, g_lenr, cLen_l, cLen_z, g_tupt, g_tupr, cTup_l, g_listt, isLst_r, lstAt_r, cLst_l, cLst_z, tr_r, cTr_l, tr_b, g_set, cSet_l, cSet_d, jK_some, kK_some, ixN_0, ixN_1, ixN_2, isS, mwipe, mPat, mPats, List.getElem?_cons_zero, List.getElem?_cons_succ, List.set_cons_zero, List.set_cons_succ, List.map_cons, List.map_nil, List.length_cons, List.length_nil, List.replicate_succ, List.replicate_zero, List.cons_append, List.nil_append, Nat.reduceAdd, Nat.reduceSub, Nat.reduceLeDiff, Nat.zero_add, Option.map_some, if_true, Bool.false_eq_true, if_false, true_and, and_true, decide_eq_true_eq, reduceIte, reduceCtorEq, eh]
      refine ⟨cMl (by decide), by decide, by decide +kernel, ?_⟩
      rw [show Str.ofString "abcdefghijklmnopqrstuvwxyz" = letters from rfl, ec]
      have lc : (Str.mk #[c]).length = 1 := rfl
      simp only [wp_c, wp_var, slotK_some, wp_op, wp_un, wp_b, asB_bl, wp_tr, asT_some, wp_yes, wp_and, wp_or, wp_not, wp_caseB, wp_andV, wp_orV, wp_notV, wp_if, wp_nil, wp_cons, wp_tup, wp_lst, wp_cb, wp_call, wp_m0, wp_m1, wp_ml0, wp_ml, wp_isi, wp_isi2, wp_nopart, asI_int, wp_part, wp_sl, wp_seq, seqK_nx, seqK_rt, seqK_bk, seqK_ct, wp_next, wp_brk, wp_cont, wp_drop, wp_ret, wp_ifS, wp_set, wp_par, wp_par3, wp_asg, wp_pat, asP_some, wp_sub, asH_some, wp_aug, wp_for, wp_while, wp_lc, wp_lc2, wp_def, defK_rt, defK_nx, wp_miseq, srcK_ref, srcK_tup, srcK_str, rngK_int, wp_range1, wp_enum, enumK_ref, Tl_some, Ts_some, loopK_nx, loopK_ct, loopK_bk, loopK_rt, ixK_some, atI_k0, atI_k1, atI_k2, atI_k3, atI_k4, atI_k5, atI_k6, atI_k8, atI_k9, L2.atI_last, atI_n, g_ix_t, g_ix_s, g_ix_r, cIx_l, cIx_z, cIx_d, cIx_f, g_sub, g_lt, g_le, g_gt, g_ge, g_addi, g_addI, g_adds, g_addt, g_mul, g_muls, g_fdiv, g_mod, g_neg, g_eqs, g_nes, g_eqi, g_nei, g_min, g_max, g_int_b, g_int_i, g_is_non, g_cuts, g_cutt, g_lens, g_lent, g_lenr, cLen_l, cLen_z, g_tupt, g_tupr, cTup_l, g_listt, isLst_r, lstAt_r, cLst_l, cLst_z, tr_r, cTr_l, tr_b, g_set, cSet_l, cSet_d, jK_some, kK_some, ixN_0, ixN_1, ixN_2, isS, mwipe, mPat, mPats, List.getElem?_cons_zero, List.getElem?_cons_succ, List.set_cons_zero, List.set_cons_succ, List.map_cons, List.map_nil, List.length_cons, List.length_nil, List.replicate_succ, List.replicate_zero, List.cons_append, List.nil_append, Nat.reduceAdd, Nat.reduceSub, Nat.reduceLeDiff, Nat.zero_add, Option.map_some, if_true, Bool.false_eq_true, if_false, true_and, and_true, decide_eq_true_eq, reduceIte, reduceCtorEq, eh, len_app, l1, l2, ez, lz, lc]
      refine ⟨by omega, by omega, by omega, by omega, by decide, by decide +kernel, by omega, by omega, by omega, ?_⟩
      refine Tl.app eh (by simp [lx]; omega) fun h6 k6 e6 => ?_
      refine ⟨xs ++ [_], BB.chg k6 hl (by have := B.box.lt; omega), by rw [e6, List.map_append]; rfl, by simp [lx], fun j x hj => ?_, _, _, rfl⟩
      rcases get_snoc hj with q | ⟨q1, q2⟩
      · exact hx j x q
      · subst q2
        rw [q1, lx]
        refine ⟨⟨by simp only [len_app, l1, l2, lz, lc]; omega, (((c1.append gc).append c2).append gz).low⟩, by simp only [len_app, l1, l2, lz, lc]; omega⟩
    · rintro s hh ⟨xs, BB, eh, lx, hx, u, v, rfl⟩
      rw [range_len] at lx
      try simp only [wp_c, wp_var, slotK_some, wp_op, wp_un, wp_b, asB_bl, wp_tr, asT_some, wp_yes, wp_and, wp_or, wp_not, wp_caseB, wp_andV, wp_orV, wp_notV, wp_if, wp_nil, wp_cons, wp_tup, wp_lst, wp_cb, wp_call, wp_m0, wp_m1, wp_ml0, wp_ml, wp_isi, wp_isi2, wp_nopart, asI_int, wp_part, wp_sl, wp_seq, seqK_nx, seqK_rt, seqK_bk, seqK_ct, wp_next, wp_brk, wp_cont, wp_drop, wp_ret, wp_ifS, wp_set, wp_par, wp_par3, wp_asg, wp_pat, asP_some, wp_sub, asH_some, wp_aug, wp_for, wp_while, wp_lc, wp_lc2, wp_def, defK_rt, defK_nx, wp_miseq, srcK_ref, srcK_tup, srcK_str, rngK_int, wp_range1, wp_enum, enumK_ref, Tl_some, Ts_some, loopK_nx, loopK_ct, loopK_bk, loopK_rt, ixK_some, atI_k0, atI_k1, atI_k2, atI_k3, atI_k4, atI_k5, atI_k6, atI_k8, atI_k9, L2.atI_last, atI_n, g_ix_t, g_ix_s, g_ix_r, cIx_l, cIx_z, cIx_d, cIx_f, g_sub, g_lt, g_le, g_gt, g_ge, g_addi, g_addI, g_adds, g_addt, g_mul, g_muls, g_fdiv, g_mod, g_neg, g_eqs, g_nes, g_eqi, g_nei, g_min, g_max, g_int_b, g_int_i, g_is_non, g_cuts, g_cutt, g_lens, g_lent, g_lenr, cLen_l, cLen_z, g_tupt, g_tupr, cTup_l, g_listt, isLst_r, lstAt_r, cLst_l, cLst_z, tr_r, cTr_l, tr_b, g_set, cSet_l, cSet_d, jK_some, kK_some, ixN_0, ixN_1, ixN_2, isS, mwipe, mPat, mPats, List.getElem?_cons_zero, List.getElem?_cons_succ, List.set_cons_zero, List.set_cons_succ, List.map_cons, List.map_nil, List.length_cons, List.length_nil, List.replicate_succ, List.replicate_zero, List.cons_append, List.nil_append, Nat.reduceAdd, Nat.reduceSub, Nat.reduceLeDiff, Nat.zero_add, Option.map_some, if_true, Bool.false_eq_true, if_false, true_and, and_true, decide_eq_true_eq, reduceIte, reduceCtorEq]
      exact ⟨_, xs, stem.length, rfl, BB, hl, eh, by omega, ls, hx⟩
end K03

namespace K03
open PySem PySem.Spec PyProof.Rows L2 Mi
def cnt (t : Str) (xs : List W) : Nat := (xs.filter (tagIs t)).length
theorem cnt_app {t : Str} {xs ys : List W} : cnt t (xs ++ ys) = cnt t xs + cnt t ys := by simp [cnt]
def ItOk (K : Str → Prop) (m : Nat) (x : W) : Prop := x = .tup [.str "lit"] ∨ (∃ z, x = .tup [.str "sign", .str z] ∧ PyData.strOk z = true) ∨ (∃ k, x = .tup [.str "name", .str k] ∧ K k) ∨
  ∃ k ops, x = .tup [.str "term", .str k, .tup ops] ∧ K k ∧ ops.length ≤ 7 ∧ ∀ o ∈ ops, ∃ j : Nat, o = .int j ∧ j < m
structure ItsOk (K : Str → Prop) (xs : List W) : Prop where
  len : xs.length ≤ 7
  nm : cnt "name" xs ≤ 2
  tm : cnt "term" xs ≤ 3
  at_ : ∀ (i : Nat) (x : W), xs[i]? = some x → ItOk K (cnt "name" (xs.take i)) x
theorem ItOk.tagd {K : Str → Prop} {m : Nat} {x : W} (h : ItOk K m x) : Tagd x := by
  rcases h with rfl | ⟨z, rfl, _⟩ | ⟨k, rfl, _⟩ | ⟨k, ops, rfl, _⟩ <;> exact ⟨_, _, rfl⟩
theorem ItsOk.tagd {K : Str → Prop} {xs : List W} (h : ItsOk K xs) : ∀ x ∈ xs, Tagd x := fun x hx => by
  obtain ⟨i, hi, e⟩ := List.getElem_of_mem hx
  exact (h.at_ i x (by rw [← e]; exact List.getElem?_eq_getElem hi)).tagd
structure FormOk (K : Str → Prop) (f : W) (hd : Str) (its : List W) (kd : Str) : Prop where
  eq : f = .tup [.str hd, .tup its, .str kd]
  hs : PyData.strOk hd = true
  dot : occurs "." hd = false
  kd : K kd
  its : ItsOk K its
def IsForm (K : Str → Prop) (f : W) : Prop := ∃ hd its kd, FormOk K f hd its kd
def one : W := .tup [.str "term", .str "num", .tup []]
def opened : W := .tup [.str "term", .str "num", .tup [.int 0]]
def nmW : W := .tup [.str "name", .str "num"]
def litW : W := .tup [.str "lit"]
def gRow (hd : Str) (its : List W) : W := .tup [.str hd, .tup its, .str "num"]
def GF : List W := [gRow "NUM" [litW], gRow "+" [one, one], gRow "-" [one, one], gRow "*" [one, one], gRow "/" [one, one], gRow "<" [one, one], gRow "=" [one, one],
  gRow "IF" [one, one, one], gRow "NEED" [one, one], gRow "LET" [nmW, one, opened], gRow "LOOP" [one, nmW, one, opened]]
def gRow2 (hd : Str) (its : List W) : W := .tup [.str hd, .tup its]
theorem sg : Mi.signs (Str.ofString "+-*/<=") = [.str "+", .str "-", .str "*", .str "/", .str "<", .str "="] := by with_unfolding_all rfl
theorem filter_yes {xs : List W} : xs.filter (fun _ => true) = xs := List.filter_eq_self.mpr fun _ _ => rfl
theorem ground_forms_spec {n : Nat} {h : MH} (hn : 100 ≤ n) : Tl (f__law_ground_forms n [] h) fun w h' => ∃ p : Nat, w = .ref p ∧ Ext h h' ∧ h.length ≤ p ∧ h'[p]? = some (.lst GF) := by
  unfold f__law_ground_forms B__law_ground_forms
  simp only [wp_c, wp_var, slotK_some, wp_op, wp_un, wp_b, asB_bl, wp_tr, asT_some, wp_yes, wp_and, wp_or, wp_not, wp_caseB, wp_andV, wp_orV, wp_notV, wp_if, wp_nil, wp_cons, wp_tup, wp_lst, wp_cb, wp_call, wp_m0, wp_m1, wp_ml0, wp_ml, wp_isi, wp_isi2, wp_nopart, asI_int, wp_part, wp_sl, wp_seq, seqK_nx, seqK_rt, seqK_bk, seqK_ct, wp_next, wp_brk, wp_cont, wp_drop, wp_ret, wp_ifS, wp_set, wp_par, wp_par3, wp_asg, wp_pat, asP_some, wp_sub, asH_some, wp_aug, wp_for, wp_while, wp_lc, wp_lc2, wp_def, defK_rt, defK_nx, wp_miseq, srcK_ref, srcK_tup, srcK_str, rngK_int, wp_range1, wp_enum, enumK_ref, Tl_some, Ts_some, loopK_nx, loopK_ct, loopK_bk, loopK_rt, ixK_some, atI_k0, atI_k1, atI_k2, atI_k3, atI_k4, atI_k5, atI_k6, atI_k8, atI_k9, L2.atI_last, atI_n, g_ix_t, g_ix_s, g_ix_r, cIx_l, cIx_z, cIx_d, cIx_f, g_sub, g_lt, g_le, g_gt, g_ge, g_addi, g_addI, g_adds, g_addt, g_mul, g_muls, g_fdiv, g_mod, g_neg, g_eqs, g_nes, g_eqi, g_nei, g_min, g_max, g_int_b, g_int_i, g_is_non, g_cuts, g_cutt, g_lens, g_lent, g_lenr, cLen_l, cLen_z, g_tupt, g_tupr, cTup_l, g_listt, isLst_r, lstAt_r, cLst_l, cLst_z, tr_r, cTr_l, tr_b, g_set, cSet_l, cSet_d, jK_some, kK_some, ixN_0, ixN_1, ixN_2, isS, mwipe, mPat, mPats, List.getElem?_cons_zero, List.getElem?_cons_succ, List.set_cons_zero, List.set_cons_succ, List.map_cons, List.map_nil, List.length_cons, List.length_nil, List.replicate_succ, List.replicate_zero, List.cons_append, List.nil_append, Nat.reduceAdd, Nat.reduceSub, Nat.reduceLeDiff, Nat.zero_add, Option.map_some, if_true, Bool.false_eq_true, if_false, true_and, and_true, decide_eq_true_eq, reduceIte, reduceCtorEq, sg]
  repeat (refine ⟨by decide, ?_⟩)
  refine Tl.newL (by decide) fun h1 x1 l1 e1 => ?_
  refine Tl.lc_e (fun _ => true) (fun x => .tup [x, .tup [one, one]]) (fun _ _ => is_items) (by simp; omega) (by simp) ?_ ?_
  · intro x hx h2 x2
    refine ⟨_, rfl, ?_⟩
    simp only [wp_c, wp_var, slotK_some, wp_op, wp_un, wp_b, asB_bl, wp_tr, asT_some, wp_yes, wp_and, wp_or, wp_not, wp_caseB, wp_andV, wp_orV, wp_notV, wp_if, wp_nil, wp_cons, wp_tup, wp_lst, wp_cb, wp_call, wp_m0, wp_m1, wp_ml0, wp_ml, wp_isi, wp_isi2, wp_nopart, asI_int, wp_part, wp_sl, wp_seq, seqK_nx, seqK_rt, seqK_bk, seqK_ct, wp_next, wp_brk, wp_cont, wp_drop, wp_ret, wp_ifS, wp_set, wp_par, wp_par3, wp_asg, wp_pat, asP_some, wp_sub, asH_some, wp_aug, wp_for, wp_while, wp_lc, wp_lc2, wp_def, defK_rt, defK_nx, wp_miseq, srcK_ref, srcK_tup, srcK_str, rngK_int, wp_range1, wp_enum, enumK_ref, Tl_some, Ts_some, loopK_nx, loopK_ct, loopK_bk, loopK_rt, ixK_some, atI_k0, atI_k1, atI_k2, atI_k3, atI_k4, atI_k5, atI_k6, atI_k8, atI_k9, L2.atI_last, atI_n, g_ix_t, g_ix_s, g_ix_r, cIx_l, cIx_z, cIx_d, cIx_f, g_sub, g_lt, g_le, g_gt, g_ge, g_addi, g_addI, g_adds, g_addt, g_mul, g_muls, g_fdiv, g_mod, g_neg, g_eqs, g_nes, g_eqi, g_nei, g_min, g_max, g_int_b, g_int_i, g_is_non, g_cuts, g_cutt, g_lens, g_lent, g_lenr, cLen_l, cLen_z, g_tupt, g_tupr, cTup_l, g_listt, isLst_r, lstAt_r, cLst_l, cLst_z, tr_r, cTr_l, tr_b, g_set, cSet_l, cSet_d, jK_some, kK_some, ixN_0, ixN_1, ixN_2, isS, mwipe, mPat, mPats, List.getElem?_cons_zero, List.getElem?_cons_succ, List.set_cons_zero, List.set_cons_succ, List.map_cons, List.map_nil, List.length_cons, List.length_nil, List.replicate_succ, List.replicate_zero, List.cons_append, List.nil_append, Nat.reduceAdd, Nat.reduceSub, Nat.reduceLeDiff, Nat.zero_add, Option.map_some, if_true, Bool.false_eq_true, if_false, true_and, and_true, decide_eq_true_eq, reduceIte, reduceCtorEq]
    simp [Ext.refl, one]
  · intro h2 x2 e2
    rw [filter_yes] at e2
    refine Tl.addl (x2.get e1) e2 (by simp) fun h3 x3 l3 e3 => ?_
    try simp only [wp_c, wp_var, slotK_some, wp_op, wp_un, wp_b, asB_bl, wp_tr, asT_some, wp_yes, wp_and, wp_or, wp_not, wp_caseB, wp_andV, wp_orV, wp_notV, wp_if, wp_nil, wp_cons, wp_tup, wp_lst, wp_cb, wp_call, wp_m0, wp_m1, wp_ml0, wp_ml, wp_isi, wp_isi2, wp_nopart, asI_int, wp_part, wp_sl, wp_seq, seqK_nx, seqK_rt, seqK_bk, seqK_ct, wp_next, wp_brk, wp_cont, wp_drop, wp_ret, wp_ifS, wp_set, wp_par, wp_par3, wp_asg, wp_pat, asP_some, wp_sub, asH_some, wp_aug, wp_for, wp_while, wp_lc, wp_lc2, wp_def, defK_rt, defK_nx, wp_miseq, srcK_ref, srcK_tup, srcK_str, rngK_int, wp_range1, wp_enum, enumK_ref, Tl_some, Ts_some, loopK_nx, loopK_ct, loopK_bk, loopK_rt, ixK_some, atI_k0, atI_k1, atI_k2, atI_k3, atI_k4, atI_k5, atI_k6, atI_k8, atI_k9, L2.atI_last, atI_n, g_ix_t, g_ix_s, g_ix_r, cIx_l, cIx_z, cIx_d, cIx_f, g_sub, g_lt, g_le, g_gt, g_ge, g_addi, g_addI, g_adds, g_addt, g_mul, g_muls, g_fdiv, g_mod, g_neg, g_eqs, g_nes, g_eqi, g_nei, g_min, g_max, g_int_b, g_int_i, g_is_non, g_cuts, g_cutt, g_lens, g_lent, g_lenr, cLen_l, cLen_z, g_tupt, g_tupr, cTup_l, g_listt, isLst_r, lstAt_r, cLst_l, cLst_z, tr_r, cTr_l, tr_b, g_set, cSet_l, cSet_d, jK_some, kK_some, ixN_0, ixN_1, ixN_2, isS, mwipe, mPat, mPats, List.getElem?_cons_zero, List.getElem?_cons_succ, List.set_cons_zero, List.set_cons_succ, List.map_cons, List.map_nil, List.length_cons, List.length_nil, List.replicate_succ, List.replicate_zero, List.cons_append, List.nil_append, Nat.reduceAdd, Nat.reduceSub, Nat.reduceLeDiff, Nat.zero_add, Option.map_some, if_true, Bool.false_eq_true, if_false, true_and, and_true, decide_eq_true_eq, reduceIte, reduceCtorEq]
    repeat (refine ⟨by decide, ?_⟩)
    refine Tl.newL (by decide) fun h4 x4 l4 e4 => ?_
    refine Tl.addl (x4.get e3) e4 (by simp) fun h5 x5 l5 e5 => ?_
    try simp only [wp_c, wp_var, slotK_some, wp_op, wp_un, wp_b, asB_bl, wp_tr, asT_some, wp_yes, wp_and, wp_or, wp_not, wp_caseB, wp_andV, wp_orV, wp_notV, wp_if, wp_nil, wp_cons, wp_tup, wp_lst, wp_cb, wp_call, wp_m0, wp_m1, wp_ml0, wp_ml, wp_isi, wp_isi2, wp_nopart, asI_int, wp_part, wp_sl, wp_seq, seqK_nx, seqK_rt, seqK_bk, seqK_ct, wp_next, wp_brk, wp_cont, wp_drop, wp_ret, wp_ifS, wp_set, wp_par, wp_par3, wp_asg, wp_pat, asP_some, wp_sub, asH_some, wp_aug, wp_for, wp_while, wp_lc, wp_lc2, wp_def, defK_rt, defK_nx, wp_miseq, srcK_ref, srcK_tup, srcK_str, rngK_int, wp_range1, wp_enum, enumK_ref, Tl_some, Ts_some, loopK_nx, loopK_ct, loopK_bk, loopK_rt, ixK_some, atI_k0, atI_k1, atI_k2, atI_k3, atI_k4, atI_k5, atI_k6, atI_k8, atI_k9, L2.atI_last, atI_n, g_ix_t, g_ix_s, g_ix_r, cIx_l, cIx_z, cIx_d, cIx_f, g_sub, g_lt, g_le, g_gt, g_ge, g_addi, g_addI, g_adds, g_addt, g_mul, g_muls, g_fdiv, g_mod, g_neg, g_eqs, g_nes, g_eqi, g_nei, g_min, g_max, g_int_b, g_int_i, g_is_non, g_cuts, g_cutt, g_lens, g_lent, g_lenr, cLen_l, cLen_z, g_tupt, g_tupr, cTup_l, g_listt, isLst_r, lstAt_r, cLst_l, cLst_z, tr_r, cTr_l, tr_b, g_set, cSet_l, cSet_d, jK_some, kK_some, ixN_0, ixN_1, ixN_2, isS, mwipe, mPat, mPats, List.getElem?_cons_zero, List.getElem?_cons_succ, List.set_cons_zero, List.set_cons_succ, List.map_cons, List.map_nil, List.length_cons, List.length_nil, List.replicate_succ, List.replicate_zero, List.cons_append, List.nil_append, Nat.reduceAdd, Nat.reduceSub, Nat.reduceLeDiff, Nat.zero_add, Option.map_some, if_true, Bool.false_eq_true, if_false, true_and, and_true, decide_eq_true_eq, reduceIte, reduceCtorEq, e5]
    repeat (refine ⟨by decide, ?_⟩)
    refine Tl.app e5 (by simp) fun h6 k6 e6 => ?_
    try simp only [wp_c, wp_var, slotK_some, wp_op, wp_un, wp_b, asB_bl, wp_tr, asT_some, wp_yes, wp_and, wp_or, wp_not, wp_caseB, wp_andV, wp_orV, wp_notV, wp_if, wp_nil, wp_cons, wp_tup, wp_lst, wp_cb, wp_call, wp_m0, wp_m1, wp_ml0, wp_ml, wp_isi, wp_isi2, wp_nopart, asI_int, wp_part, wp_sl, wp_seq, seqK_nx, seqK_rt, seqK_bk, seqK_ct, wp_next, wp_brk, wp_cont, wp_drop, wp_ret, wp_ifS, wp_set, wp_par, wp_par3, wp_asg, wp_pat, asP_some, wp_sub, asH_some, wp_aug, wp_for, wp_while, wp_lc, wp_lc2, wp_def, defK_rt, defK_nx, wp_miseq, srcK_ref, srcK_tup, srcK_str, rngK_int, wp_range1, wp_enum, enumK_ref, Tl_some, Ts_some, loopK_nx, loopK_ct, loopK_bk, loopK_rt, ixK_some, atI_k0, atI_k1, atI_k2, atI_k3, atI_k4, atI_k5, atI_k6, atI_k8, atI_k9, L2.atI_last, atI_n, g_ix_t, g_ix_s, g_ix_r, cIx_l, cIx_z, cIx_d, cIx_f, g_sub, g_lt, g_le, g_gt, g_ge, g_addi, g_addI, g_adds, g_addt, g_mul, g_muls, g_fdiv, g_mod, g_neg, g_eqs, g_nes, g_eqi, g_nei, g_min, g_max, g_int_b, g_int_i, g_is_non, g_cuts, g_cutt, g_lens, g_lent, g_lenr, cLen_l, cLen_z, g_tupt, g_tupr, cTup_l, g_listt, isLst_r, lstAt_r, cLst_l, cLst_z, tr_r, cTr_l, tr_b, g_set, cSet_l, cSet_d, jK_some, kK_some, ixN_0, ixN_1, ixN_2, isS, mwipe, mPat, mPats, List.getElem?_cons_zero, List.getElem?_cons_succ, List.set_cons_zero, List.set_cons_succ, List.map_cons, List.map_nil, List.length_cons, List.length_nil, List.replicate_succ, List.replicate_zero, List.cons_append, List.nil_append, Nat.reduceAdd, Nat.reduceSub, Nat.reduceLeDiff, Nat.zero_add, Option.map_some, if_true, Bool.false_eq_true, if_false, true_and, and_true, decide_eq_true_eq, reduceIte, reduceCtorEq, e6]
    have x6 : Ext h h6 := ((((x1.trans x2).trans x3).trans x4).trans x5).chg k6 (by have := x1.len; have := x2.len; have := x3.len; have := x4.len; omega)
    rw [List.cons_append] at e6
    simp only [List.map_cons, List.map_nil, List.cons_append, List.nil_append] at e6
    obtain ⟨gg, hgg⟩ : ∃ gg, gg = ([gRow2 "NUM" [litW], gRow2 "+" [one, one], gRow2 "-" [one, one], gRow2 "*" [one, one], gRow2 "/" [one, one], gRow2 "<" [one, one], gRow2 "=" [one, one], gRow2 "IF" [one, one, one], gRow2 "NEED" [one, one], gRow2 "LET" [nmW, one, opened], gRow2 "LOOP" [one, nmW, one, opened]] : List W) := ⟨_, rfl⟩
    have e6' : h6[List.length h4]? = some (.lst gg) := by rw [hgg]; exact e6
    refine Tl.lc_e (fun _ => true) (fun x => match x with | .tup xs => .tup (xs ++ [.str "num"]) | x => x) (xs := gg) (fun _ y => is_cell (y.get e6')) (by rw [hgg]; simp; omega) (by rw [hgg]; simp) ?_ ?_
    · intro x hx h7 x7
      refine ⟨_, rfl, ?_⟩
      have : ∃ hd its, x = gRow2 hd its := by
        rw [hgg] at hx
        simp only [List.mem_cons, List.not_mem_nil, or_false] at hx
        rcases hx with rfl | rfl | rfl | rfl | rfl | rfl | rfl | rfl | rfl | rfl | rfl <;> exact ⟨_, _, rfl⟩
      obtain ⟨hd, its, rfl⟩ := this
      unfold gRow2
      simp only [wp_c, wp_var, slotK_some, wp_op, wp_un, wp_b, asB_bl, wp_tr, asT_some, wp_yes, wp_and, wp_or, wp_not, wp_caseB, wp_andV, wp_orV, wp_notV, wp_if, wp_nil, wp_cons, wp_tup, wp_lst, wp_cb, wp_call, wp_m0, wp_m1, wp_ml0, wp_ml, wp_isi, wp_isi2, wp_nopart, asI_int, wp_part, wp_sl, wp_seq, seqK_nx, seqK_rt, seqK_bk, seqK_ct, wp_next, wp_brk, wp_cont, wp_drop, wp_ret, wp_ifS, wp_set, wp_par, wp_par3, wp_asg, wp_pat, asP_some, wp_sub, asH_some, wp_aug, wp_for, wp_while, wp_lc, wp_lc2, wp_def, defK_rt, defK_nx, wp_miseq, srcK_ref, srcK_tup, srcK_str, rngK_int, wp_range1, wp_enum, enumK_ref, Tl_some, Ts_some, loopK_nx, loopK_ct, loopK_bk, loopK_rt, ixK_some, atI_k0, atI_k1, atI_k2, atI_k3, atI_k4, atI_k5, atI_k6, atI_k8, atI_k9, L2.atI_last, atI_n, g_ix_t, g_ix_s, g_ix_r, cIx_l, cIx_z, cIx_d, cIx_f, g_sub, g_lt, g_le, g_gt, g_ge, g_addi, g_addI, g_adds, g_addt, g_mul, g_muls, g_fdiv, g_mod, g_neg, g_eqs, g_nes, g_eqi, g_nei, g_min, g_max, g_int_b, g_int_i, g_is_non, g_cuts, g_cutt, g_lens, g_lent, g_lenr, cLen_l, cLen_z, g_tupt, g_tupr, cTup_l, g_listt, isLst_r, lstAt_r, cLst_l, cLst_z, tr_r, cTr_l, tr_b, g_set, cSet_l, cSet_d, jK_some, kK_some, ixN_0, ixN_1, ixN_2, isS, mwipe, mPat, mPats, List.getElem?_cons_zero, List.getElem?_cons_succ, List.set_cons_zero, List.set_cons_succ, List.map_cons, List.map_nil, List.length_cons, List.length_nil, List.replicate_succ, List.replicate_zero, List.cons_append, List.nil_append, Nat.reduceAdd, Nat.reduceSub, Nat.reduceLeDiff, Nat.zero_add, Option.map_some, if_true, Bool.false_eq_true, if_false, true_and, and_true, decide_eq_true_eq, reduceIte, reduceCtorEq]
      simp [Ext.refl]
    · intro h7 x7 e7
      rw [filter_yes] at e7
      refine ⟨_, rfl, x6.trans x7, by have := x6.len; omega, ?_⟩
      rw [e7, hgg]; rfl
end K03

namespace K03
open PySem PySem.Spec PyProof.Rows L2 Mi
def S4 (t : Str) : Prop := t = "lit" ∨ t = "name" ∨ t = "term" ∨ t = "sign"
theorem n1 : (Str.ofString "lit" = Str.ofString "name") = False := by decide
theorem n2 : (Str.ofString "lit" = Str.ofString "term") = False := by decide
theorem n3 : (Str.ofString "lit" = Str.ofString "sign") = False := by decide
theorem n4 : (Str.ofString "name" = Str.ofString "lit") = False := by decide
theorem n5 : (Str.ofString "name" = Str.ofString "term") = False := by decide
theorem n6 : (Str.ofString "name" = Str.ofString "sign") = False := by decide
theorem n7 : (Str.ofString "term" = Str.ofString "lit") = False := by decide
theorem n8 : (Str.ofString "term" = Str.ofString "name") = False := by decide
theorem n9 : (Str.ofString "term" = Str.ofString "sign") = False := by decide
theorem n10 : (Str.ofString "sign" = Str.ofString "lit") = False := by decide
theorem n11 : (Str.ofString "sign" = Str.ofString "name") = False := by decide
theorem n12 : (Str.ofString "sign" = Str.ofString "term") = False := by decide
theorem inrE {a b : Str} : ((Sum.inr a : Key) = Sum.inr b) = (a = b) := by simp
structure DF (kvs : List (Key × W)) (its : List W) (v : Str → Int) : Prop where
  len : kvs.length ≤ 100
  get : ∀ t, S4 t → getW kvs (.inr t) = some (.int (v t))
  nm : v "name" + cnt "name" its = 2
  n0 : 0 ≤ v "name"
  tm : v "term" + cnt "term" its = 3
  t0 : 0 ≤ v "term"
theorem bx_ne {b : Nat} {h : MH} {i : Nat} (hb : IsBox h b) (hi : h.length ≤ i) : i ≠ b := by have := hb.lt; omega
theorem pick_item {K : Str → Prop} {t k z : Str} {ops : List W} {m : Nat} (ht : S4 t) (hk : K k) (lo : ops.length ≤ 7) (hO : ∀ y ∈ ops, ∃ j : Nat, y = .int j ∧ j < m) (hz : PyData.strOk z = true) :
    ∃ x, getW (putW (mergeW [] [((.inr "lit" : Key), .tup [.str "lit"]), (.inr "name", .tup [.str "name", .str k]), (.inr "term", .tup [.str "term", .str k, .tup ops])]) (.inr "sign") (.tup [.str "sign", .str z])) (.inr t) = some x ∧
      ItOk K m x ∧ cnt "name" [x] = (if t = "name" then 1 else 0) ∧ cnt "term" [x] = (if t = "term" then 1 else 0) := by
  rcases ht with rfl | rfl | rfl | rfl
  · refine ⟨.tup [.str "lit"], ?_, .inl rfl, ?_, ?_⟩
    · simp [merge_cons, merge_nil, getW_put, getW_nil, n1, n2, n3, n4, n5, n6, n7, n8, n9, n10, n11, n12]
    · simp [cnt, tagIs, n1]
    · simp [cnt, tagIs, n2]
  · refine ⟨.tup [.str "name", .str k], ?_, .inr (.inr (.inl ⟨k, rfl, hk⟩)), ?_, ?_⟩
    · simp [merge_cons, merge_nil, getW_put, getW_nil, n1, n2, n3, n4, n5, n6, n7, n8, n9, n10, n11, n12]
    · simp [cnt, tagIs]
    · simp [cnt, tagIs, n5]
  · refine ⟨.tup [.str "term", .str k, .tup ops], ?_, .inr (.inr (.inr ⟨k, ops, rfl, hk, lo, hO⟩)), ?_, ?_⟩
    · simp [merge_cons, merge_nil, getW_put, getW_nil, n1, n2, n3, n4, n5, n6, n7, n8, n9, n10, n11, n12]
    · simp [cnt, tagIs, n8]
    · simp [cnt, tagIs]
  · refine ⟨.tup [.str "sign", .str z], ?_, .inr (.inl ⟨z, rfl, hz⟩), ?_, ?_⟩
    · simp [merge_cons, merge_nil, getW_put, getW_nil, n1, n2, n3, n4, n5, n6, n7, n8, n9, n10, n11, n12]
    · simp [cnt, tagIs, n11]
    · simp [cnt, tagIs, n12]
theorem items_spec {n b kd : Nat} {h : MH} {K : Str → Prop} {ks : List Str} (hn : 100 ≤ n) (hb : IsBox h b) (hk : h[kd]? = some (.lst (ks.map .str))) (hkb : kd ≠ b) (k0 : 0 < ks.length) (k1 : ks.length ≤ 10) (hK : ∀ k ∈ ks, K k) :
    Tl (f__law_items n [.ref b, .ref kd] h) fun w h' => ∃ its, w = .tup its ∧ Bx b h h' ∧ ItsOk K its := by
  unfold f__law_items B__law_items
  simp only [wp_c, wp_var, slotK_some, wp_op, wp_un, wp_b, asB_bl, wp_tr, asT_some, wp_yes, wp_and, wp_or, wp_not, wp_caseB, wp_andV, wp_orV, wp_notV, wp_if, wp_nil, wp_cons, wp_tup, wp_lst, wp_cb, wp_call, wp_m0, wp_m1, wp_ml0, wp_ml, wp_isi, wp_isi2, wp_nopart, asI_int, wp_part, wp_sl, wp_seq, seqK_nx, seqK_rt, seqK_bk, seqK_ct, wp_next, wp_brk, wp_cont, wp_drop, wp_ret, wp_ifS, wp_set, wp_par, wp_par3, wp_asg, wp_pat, asP_some, wp_sub, asH_some, wp_aug, wp_for, wp_while, wp_lc, wp_lc2, wp_def, defK_rt, defK_nx, wp_miseq, srcK_ref, srcK_tup, srcK_str, rngK_int, wp_range1, wp_enum, enumK_ref, Tl_some, Ts_some, loopK_nx, loopK_ct, loopK_bk, loopK_rt, ixK_some, atI_k0, atI_k1, atI_k2, atI_k3, atI_k4, atI_k5, atI_k6, atI_k8, atI_k9, L2.atI_last, atI_n, g_ix_t, g_ix_s, g_ix_r, cIx_l, cIx_z, cIx_d, cIx_f, g_sub, g_lt, g_le, g_gt, g_ge, g_addi, g_addI, g_adds, g_addt, g_mul, g_muls, g_fdiv, g_mod, g_neg, g_eqs, g_nes, g_eqi, g_nei, g_min, g_max, g_int_b, g_int_i, g_is_non, g_cuts, g_cutt, g_lens, g_lent, g_lenr, cLen_l, cLen_z, g_tupt, g_tupr, cTup_l, g_listt, isLst_r, lstAt_r, cLst_l, cLst_z, tr_r, cTr_l, tr_b, g_set, cSet_l, cSet_d, jK_some, kK_some, ixN_0, ixN_1, ixN_2, isS, mwipe, mPat, mPats, List.getElem?_cons_zero, List.getElem?_cons_succ, List.set_cons_zero, List.set_cons_succ, List.map_cons, List.map_nil, List.length_cons, List.length_nil, List.replicate_succ, List.replicate_zero, List.cons_append, List.nil_append, Nat.reduceAdd, Nat.reduceSub, Nat.reduceLeDiff, Nat.zero_add, Option.map_some, if_true, Bool.false_eq_true, if_false, true_and, and_true, decide_eq_true_eq, reduceIte, reduceCtorEq]
  refine Tl.newL (by decide) fun h1 x1 l1 e1 => ?_
  refine Tl.disp fun h2 x2 l2 e2 => ?_
  simp only [wp_prs, wp_prs0, keyW_str, keyK_some, wp_c, wp_var, slotK_some, wp_op, wp_un, wp_b, asB_bl, wp_tr, asT_some, wp_yes, wp_and, wp_or, wp_not, wp_caseB, wp_andV, wp_orV, wp_notV, wp_if, wp_nil, wp_cons, wp_tup, wp_lst, wp_cb, wp_call, wp_m0, wp_m1, wp_ml0, wp_ml, wp_isi, wp_isi2, wp_nopart, asI_int, wp_part, wp_sl, wp_seq, seqK_nx, seqK_rt, seqK_bk, seqK_ct, wp_next, wp_brk, wp_cont, wp_drop, wp_ret, wp_ifS, wp_set, wp_par, wp_par3, wp_asg, wp_pat, asP_some, wp_sub, asH_some, wp_aug, wp_for, wp_while, wp_lc, wp_lc2, wp_def, defK_rt, defK_nx, wp_miseq, srcK_ref, srcK_tup, srcK_str, rngK_int, wp_range1, wp_enum, enumK_ref, Tl_some, Ts_some, loopK_nx, loopK_ct, loopK_bk, loopK_rt, ixK_some, atI_k0, atI_k1, atI_k2, atI_k3, atI_k4, atI_k5, atI_k6, atI_k8, atI_k9, L2.atI_last, atI_n, g_ix_t, g_ix_s, g_ix_r, cIx_l, cIx_z, cIx_d, cIx_f, g_sub, g_lt, g_le, g_gt, g_ge, g_addi, g_addI, g_adds, g_addt, g_mul, g_muls, g_fdiv, g_mod, g_neg, g_eqs, g_nes, g_eqi, g_nei, g_min, g_max, g_int_b, g_int_i, g_is_non, g_cuts, g_cutt, g_lens, g_lent, g_lenr, cLen_l, cLen_z, g_tupt, g_tupr, cTup_l, g_listt, isLst_r, lstAt_r, cLst_l, cLst_z, tr_r, cTr_l, tr_b, g_set, cSet_l, cSet_d, jK_some, kK_some, ixN_0, ixN_1, ixN_2, isS, mwipe, mPat, mPats, List.getElem?_cons_zero, List.getElem?_cons_succ, List.set_cons_zero, List.set_cons_succ, List.map_cons, List.map_nil, List.length_cons, List.length_nil, List.replicate_succ, List.replicate_zero, List.cons_append, List.nil_append, Nat.reduceAdd, Nat.reduceSub, Nat.reduceLeDiff, Nat.zero_add, Option.map_some, if_true, Bool.false_eq_true, if_false, true_and, and_true, decide_eq_true_eq, reduceIte, reduceCtorEq]
  refine ⟨e2, fun h3 c3 e3 => ?_⟩
  have x3 : Ext h h3 := (x1.trans x2).chg c3 (by omega)
  have e1' : h3[h.length]? = some (.lst []) := c3.get (x2.get e1) (by omega)
  refine (take_spec (hb.ext x3) (by decide) (by decide)).by ?_
  rintro _ h4 ⟨d, rfl, d0, d1, B4⟩
  simp only [wp_c, wp_var, slotK_some, wp_op, wp_un, wp_b, asB_bl, wp_tr, asT_some, wp_yes, wp_and, wp_or, wp_not, wp_caseB, wp_andV, wp_orV, wp_notV, wp_if, wp_nil, wp_cons, wp_tup, wp_lst, wp_cb, wp_call, wp_m0, wp_m1, wp_ml0, wp_ml, wp_isi, wp_isi2, wp_nopart, asI_int, wp_part, wp_sl, wp_seq, seqK_nx, seqK_rt, seqK_bk, seqK_ct, wp_next, wp_brk, wp_cont, wp_drop, wp_ret, wp_ifS, wp_set, wp_par, wp_par3, wp_asg, wp_pat, asP_some, wp_sub, asH_some, wp_aug, wp_for, wp_while, wp_lc, wp_lc2, wp_def, defK_rt, defK_nx, wp_miseq, srcK_ref, srcK_tup, srcK_str, rngK_int, wp_range1, wp_enum, enumK_ref, Tl_some, Ts_some, loopK_nx, loopK_ct, loopK_bk, loopK_rt, ixK_some, atI_k0, atI_k1, atI_k2, atI_k3, atI_k4, atI_k5, atI_k6, atI_k8, atI_k9, L2.atI_last, atI_n, g_ix_t, g_ix_s, g_ix_r, cIx_l, cIx_z, cIx_d, cIx_f, g_sub, g_lt, g_le, g_gt, g_ge, g_addi, g_addI, g_adds, g_addt, g_mul, g_muls, g_fdiv, g_mod, g_neg, g_eqs, g_nes, g_eqi, g_nei, g_min, g_max, g_int_b, g_int_i, g_is_non, g_cuts, g_cutt, g_lens, g_lent, g_lenr, cLen_l, cLen_z, g_tupt, g_tupr, cTup_l, g_listt, isLst_r, lstAt_r, cLst_l, cLst_z, tr_r, cTr_l, tr_b, g_set, cSet_l, cSet_d, jK_some, kK_some, ixN_0, ixN_1, ixN_2, isS, mwipe, mPat, mPats, List.getElem?_cons_zero, List.getElem?_cons_succ, List.set_cons_zero, List.set_cons_succ, List.map_cons, List.map_nil, List.length_cons, List.length_nil, List.replicate_succ, List.replicate_zero, List.cons_append, List.nil_append, Nat.reduceAdd, Nat.reduceSub, Nat.reduceLeDiff, Nat.zero_add, Option.map_some, if_true, Bool.false_eq_true, if_false, true_and, and_true, decide_eq_true_eq, reduceIte, reduceCtorEq]
  refine ⟨sm62 ⟨d0, by omega⟩, ?_⟩
  have hbl := hb.lt
  have B := x3.bx B4
  refine Ts.for_ (rangeW 0 d.toNat) (fun i s hh => ∃ its kvs v u2 u5 u6 u7 u8 u9 u10, s = [some (.ref b), some (.ref kd), u2, some (.ref h.length), some (.ref h1.length), u5, u6, u7, u8, u9, u10] ∧ Bx b h hh ∧ hh[h.length]? = some (.lst its) ∧ hh[h1.length]? = some (.dic kvs) ∧ DF kvs its v ∧ its.length ≤ i ∧ ∀ (i : Nat) (x : W), its[i]? = some x → ItOk K (cnt "name" (its.take i)) x)
    (fun _ _ _ _ => is_items) (by rw [range_len]; omega) ?_ ?_ ?_
  · refine ⟨[], _, fun t => if t = "lit" then 2 else if t = "name" then 2 else if t = "term" then 3 else 3, _, _, _, _, _, _, _, rfl, B, B4.get e1' (by omega), B4.get e3 (by omega), ⟨?_, ?_, by decide, by decide, by decide, by decide⟩, Nat.le_refl _, by simp⟩
    · exact Nat.le_trans merge_len (by simp)
    · intro t ht
      rcases ht with rfl | rfl | rfl | rfl <;>
      simp [merge_cons, merge_nil, getW_put, getW_nil, n1, n2, n3, n4, n5, n6, n7, n8, n9, n10, n11, n12]
  · rintro i x s hh ex ⟨its, kvs, v, u2, u5, u6, u7, u8, u9, u10, rfl, BB, eF, eD, df, li, hit⟩
    obtain ⟨rfl, hi⟩ := range_get ex
    simp only [wp_c, wp_var, slotK_some, wp_op, wp_un, wp_b, asB_bl, wp_tr, asT_some, wp_yes, wp_and, wp_or, wp_not, wp_caseB, wp_andV, wp_orV, wp_notV, wp_if, wp_nil, wp_cons, wp_tup, wp_lst, wp_cb, wp_call, wp_m0, wp_m1, wp_ml0, wp_ml, wp_isi, wp_isi2, wp_nopart, asI_int, wp_part, wp_sl, wp_seq, seqK_nx, seqK_rt, seqK_bk, seqK_ct, wp_next, wp_brk, wp_cont, wp_drop, wp_ret, wp_ifS, wp_set, wp_par, wp_par3, wp_asg, wp_pat, asP_some, wp_sub, asH_some, wp_aug, wp_for, wp_while, wp_lc, wp_lc2, wp_def, defK_rt, defK_nx, wp_miseq, srcK_ref, srcK_tup, srcK_str, rngK_int, wp_range1, wp_enum, enumK_ref, Tl_some, Ts_some, loopK_nx, loopK_ct, loopK_bk, loopK_rt, ixK_some, atI_k0, atI_k1, atI_k2, atI_k3, atI_k4, atI_k5, atI_k6, atI_k8, atI_k9, L2.atI_last, atI_n, g_ix_t, g_ix_s, g_ix_r, cIx_l, cIx_z, cIx_d, cIx_f, g_sub, g_lt, g_le, g_gt, g_ge, g_addi, g_addI, g_adds, g_addt, g_mul, g_muls, g_fdiv, g_mod, g_neg, g_eqs, g_nes, g_eqi, g_nei, g_min, g_max, g_int_b, g_int_i, g_is_non, g_cuts, g_cutt, g_lens, g_lent, g_lenr, cLen_l, cLen_z, g_tupt, g_tupr, cTup_l, g_listt, isLst_r, lstAt_r, cLst_l, cLst_z, tr_r, cTr_l, tr_b, g_set, cSet_l, cSet_d, jK_some, kK_some, ixN_0, ixN_1, ixN_2, isS, mwipe, mPat, mPats, List.getElem?_cons_zero, List.getElem?_cons_succ, List.set_cons_zero, List.set_cons_succ, List.map_cons, List.map_nil, List.length_cons, List.length_nil, List.replicate_succ, List.replicate_zero, List.cons_append, List.nil_append, Nat.reduceAdd, Nat.reduceSub, Nat.reduceLeDiff, Nat.zero_add, Option.map_some, if_true, Bool.false_eq_true, if_false, true_and, and_true, decide_eq_true_eq, reduceIte, reduceCtorEq]
    refine Tl.newL (by decide) fun h5 x5 l5 e5 => ?_
    refine (take_spec (BB.box.ext x5) (by decide) (by decide)).by ?_
    rintro _ h6 ⟨q, rfl, q0, q1, B6⟩
    have B6' := x5.bx B6
    have e5' := B6.get e5 (by have := BB.box.lt; omega)
    simp only [wp_c, wp_var, slotK_some, wp_op, wp_un, wp_b, asB_bl, wp_tr, asT_some, wp_yes, wp_and, wp_or, wp_not, wp_caseB, wp_andV, wp_orV, wp_notV, wp_if, wp_nil, wp_cons, wp_tup, wp_lst, wp_cb, wp_call, wp_m0, wp_m1, wp_ml0, wp_ml, wp_isi, wp_isi2, wp_nopart, asI_int, wp_part, wp_sl, wp_seq, seqK_nx, seqK_rt, seqK_bk, seqK_ct, wp_next, wp_brk, wp_cont, wp_drop, wp_ret, wp_ifS, wp_set, wp_par, wp_par3, wp_asg, wp_pat, asP_some, wp_sub, asH_some, wp_aug, wp_for, wp_while, wp_lc, wp_lc2, wp_def, defK_rt, defK_nx, wp_miseq, srcK_ref, srcK_tup, srcK_str, rngK_int, wp_range1, wp_enum, enumK_ref, Tl_some, Ts_some, loopK_nx, loopK_ct, loopK_bk, loopK_rt, ixK_some, atI_k0, atI_k1, atI_k2, atI_k3, atI_k4, atI_k5, atI_k6, atI_k8, atI_k9, L2.atI_last, atI_n, g_ix_t, g_ix_s, g_ix_r, cIx_l, cIx_z, cIx_d, cIx_f, g_sub, g_lt, g_le, g_gt, g_ge, g_addi, g_addI, g_adds, g_addt, g_mul, g_muls, g_fdiv, g_mod, g_neg, g_eqs, g_nes, g_eqi, g_nei, g_min, g_max, g_int_b, g_int_i, g_is_non, g_cuts, g_cutt, g_lens, g_lent, g_lenr, cLen_l, cLen_z, g_tupt, g_tupr, cTup_l, g_listt, isLst_r, lstAt_r, cLst_l, cLst_z, tr_r, cTr_l, tr_b, g_set, cSet_l, cSet_d, jK_some, kK_some, ixN_0, ixN_1, ixN_2, isS, mwipe, mPat, mPats, List.getElem?_cons_zero, List.getElem?_cons_succ, List.set_cons_zero, List.set_cons_succ, List.map_cons, List.map_nil, List.length_cons, List.length_nil, List.replicate_succ, List.replicate_zero, List.cons_append, List.nil_append, Nat.reduceAdd, Nat.reduceSub, Nat.reduceLeDiff, Nat.zero_add, Option.map_some, if_true, Bool.false_eq_true, if_false, true_and, and_true, decide_eq_true_eq, reduceIte, reduceCtorEq, e5']
    have : ∃ t, L2.atI [W.str "term", W.str "term", W.str "name", W.str "name", W.str "lit", W.str "sign"] q = some (.str t) ∧ S4 t := by
      have : q = 0 ∨ q = 1 ∨ q = 2 ∨ q = 3 ∨ q = 4 ∨ q = 5 := by omega
      rcases this with rfl | rfl | rfl | rfl | rfl | rfl
      · exact ⟨"term", rfl, .inr (.inr (.inl rfl))⟩
      · exact ⟨"term", rfl, .inr (.inr (.inl rfl))⟩
      · exact ⟨"name", rfl, .inr (.inl rfl)⟩
      · exact ⟨"name", rfl, .inr (.inl rfl)⟩
      · exact ⟨"lit", rfl, .inl rfl⟩
      · exact ⟨"sign", rfl, .inr (.inr (.inr rfl))⟩
    obtain ⟨t, et, ht⟩ := this
    rw [et]
    have eF6 := B6'.get eF (by omega)
    have eD6 := B6'.get eD (by omega)
    have B7 := BB.trans B6'
    simp only [wp_c, wp_var, slotK_some, wp_op, wp_un, wp_b, asB_bl, wp_tr, asT_some, wp_yes, wp_and, wp_or, wp_not, wp_caseB, wp_andV, wp_orV, wp_notV, wp_if, wp_nil, wp_cons, wp_tup, wp_lst, wp_cb, wp_call, wp_m0, wp_m1, wp_ml0, wp_ml, wp_isi, wp_isi2, wp_nopart, asI_int, wp_part, wp_sl, wp_seq, seqK_nx, seqK_rt, seqK_bk, seqK_ct, wp_next, wp_brk, wp_cont, wp_drop, wp_ret, wp_ifS, wp_set, wp_par, wp_par3, wp_asg, wp_pat, asP_some, wp_sub, asH_some, wp_aug, wp_for, wp_while, wp_lc, wp_lc2, wp_def, defK_rt, defK_nx, wp_miseq, srcK_ref, srcK_tup, srcK_str, rngK_int, wp_range1, wp_enum, enumK_ref, Tl_some, Ts_some, loopK_nx, loopK_ct, loopK_bk, loopK_rt, ixK_some, atI_k0, atI_k1, atI_k2, atI_k3, atI_k4, atI_k5, atI_k6, atI_k8, atI_k9, L2.atI_last, atI_n, g_ix_t, g_ix_s, g_ix_r, cIx_l, cIx_z, cIx_d, cIx_f, g_sub, g_lt, g_le, g_gt, g_ge, g_addi, g_addI, g_adds, g_addt, g_mul, g_muls, g_fdiv, g_mod, g_neg, g_eqs, g_nes, g_eqi, g_nei, g_min, g_max, g_int_b, g_int_i, g_is_non, g_cuts, g_cutt, g_lens, g_lent, g_lenr, cLen_l, cLen_z, g_tupt, g_tupr, cTup_l, g_listt, isLst_r, lstAt_r, cLst_l, cLst_z, tr_r, cTr_l, tr_b, g_set, cSet_l, cSet_d, jK_some, kK_some, ixN_0, ixN_1, ixN_2, isS, mwipe, mPat, mPats, List.getElem?_cons_zero, List.getElem?_cons_succ, List.set_cons_zero, List.set_cons_succ, List.map_cons, List.map_nil, List.length_cons, List.length_nil, List.replicate_succ, List.replicate_zero, List.cons_append, List.nil_append, Nat.reduceAdd, Nat.reduceSub, Nat.reduceLeDiff, Nat.zero_add, Option.map_some, if_true, Bool.false_eq_true, if_false, true_and, and_true, decide_eq_true_eq, reduceIte, reduceCtorEq, eD6, keyW_str, Option.bind_some, df.get t ht]
    by_cases vp : 0 < v t
    · simp only [vp, wp_c, wp_var, slotK_some, wp_op, wp_un, wp_b, asB_bl, wp_tr, asT_some, wp_yes, wp_and, wp_or, wp_not, wp_caseB, wp_andV, wp_orV, wp_notV, wp_if, wp_nil, wp_cons, wp_tup, wp_lst, wp_cb, wp_call, wp_m0, wp_m1, wp_ml0, wp_ml, wp_isi, wp_isi2, wp_nopart, asI_int, wp_part, wp_sl, wp_seq, seqK_nx, seqK_rt, seqK_bk, seqK_ct, wp_next, wp_brk, wp_cont, wp_drop, wp_ret, wp_ifS, wp_set, wp_par, wp_par3, wp_asg, wp_pat, asP_some, wp_sub, asH_some, wp_aug, wp_for, wp_while, wp_lc, wp_lc2, wp_def, defK_rt, defK_nx, wp_miseq, srcK_ref, srcK_tup, srcK_str, rngK_int, wp_range1, wp_enum, enumK_ref, Tl_some, Ts_some, loopK_nx, loopK_ct, loopK_bk, loopK_rt, ixK_some, atI_k0, atI_k1, atI_k2, atI_k3, atI_k4, atI_k5, atI_k6, atI_k8, atI_k9, L2.atI_last, atI_n, g_ix_t, g_ix_s, g_ix_r, cIx_l, cIx_z, cIx_d, cIx_f, g_sub, g_lt, g_le, g_gt, g_ge, g_addi, g_addI, g_adds, g_addt, g_mul, g_muls, g_fdiv, g_mod, g_neg, g_eqs, g_nes, g_eqi, g_nei, g_min, g_max, g_int_b, g_int_i, g_is_non, g_cuts, g_cutt, g_lens, g_lent, g_lenr, cLen_l, cLen_z, g_tupt, g_tupr, cTup_l, g_listt, isLst_r, lstAt_r, cLst_l, cLst_z, tr_r, cTr_l, tr_b, g_set, cSet_l, cSet_d, jK_some, kK_some, ixN_0, ixN_1, ixN_2, isS, mwipe, mPat, mPats, List.getElem?_cons_zero, List.getElem?_cons_succ, List.set_cons_zero, List.set_cons_succ, List.map_cons, List.map_nil, List.length_cons, List.length_nil, List.replicate_succ, List.replicate_zero, List.cons_append, List.nil_append, Nat.reduceAdd, Nat.reduceSub, Nat.reduceLeDiff, Nat.zero_add, Option.map_some, if_true, Bool.false_eq_true, if_false, true_and, and_true, decide_eq_true_eq, reduceIte, reduceCtorEq, eD6, keyW_str, Option.bind_some, df.get t ht]
      refine ⟨by have := df.len; omega, ?_⟩
      have c7 : Chg h1.length h6 (h6.set h1.length (.dic (putW kvs (.inr t) (.int (v t - 1))))) := Chg.set
      have e7 : (h6.set h1.length (.dic (putW kvs (.inr t) (.int (v t - 1)))))[h1.length]? = some (.dic (putW kvs (.inr t) (.int (v t - 1)))) := List.getElem?_set_self (lt_of_get eD6)
      generalize (h6.set h1.length (.dic (putW kvs (.inr t) (.int (v t - 1))))) = h7 at c7 e7
      have B7' : Bx b h h7 := B7.chg c7 (by omega) (by omega)
      have eF7 := c7.get eF6 (by omega)
      rw [eF7]
      refine ⟨rfl, ?_⟩
      have tg : ∀ x ∈ its, Tagd x := fun x hx => by
        obtain ⟨j, hj, e⟩ := List.getElem_of_mem hx
        exact (hit j x (by rw [← e]; exact List.getElem?_eq_getElem hj)).tagd
      refine Tl.tags (xs := its) (fun h' x' => is_cell (x'.get eF7)) tg (by omega) (by omega) (fun h8 x8 e8 => ?_)
      rw [show (its.filter (tagIs (Str.ofString "name"))) = its.filter (tagIs "name") from rfl] at e8
      have B8 := B7'.ext x8
      have eK8 := B8.get hk hkb
      simp only [wp_c, wp_var, slotK_some, wp_op, wp_un, wp_b, asB_bl, wp_tr, asT_some, wp_yes, wp_and, wp_or, wp_not, wp_caseB, wp_andV, wp_orV, wp_notV, wp_if, wp_nil, wp_cons, wp_tup, wp_lst, wp_cb, wp_call, wp_m0, wp_m1, wp_ml0, wp_ml, wp_isi, wp_isi2, wp_nopart, asI_int, wp_part, wp_sl, wp_seq, seqK_nx, seqK_rt, seqK_bk, seqK_ct, wp_next, wp_brk, wp_cont, wp_drop, wp_ret, wp_ifS, wp_set, wp_par, wp_par3, wp_asg, wp_pat, asP_some, wp_sub, asH_some, wp_aug, wp_for, wp_while, wp_lc, wp_lc2, wp_def, defK_rt, defK_nx, wp_miseq, srcK_ref, srcK_tup, srcK_str, rngK_int, wp_range1, wp_enum, enumK_ref, Tl_some, Ts_some, loopK_nx, loopK_ct, loopK_bk, loopK_rt, ixK_some, atI_k0, atI_k1, atI_k2, atI_k3, atI_k4, atI_k5, atI_k6, atI_k8, atI_k9, L2.atI_last, atI_n, g_ix_t, g_ix_s, g_ix_r, cIx_l, cIx_z, cIx_d, cIx_f, g_sub, g_lt, g_le, g_gt, g_ge, g_addi, g_addI, g_adds, g_addt, g_mul, g_muls, g_fdiv, g_mod, g_neg, g_eqs, g_nes, g_eqi, g_nei, g_min, g_max, g_int_b, g_int_i, g_is_non, g_cuts, g_cutt, g_lens, g_lent, g_lenr, cLen_l, cLen_z, g_tupt, g_tupr, cTup_l, g_listt, isLst_r, lstAt_r, cLst_l, cLst_z, tr_r, cTr_l, tr_b, g_set, cSet_l, cSet_d, jK_some, kK_some, ixN_0, ixN_1, ixN_2, isS, mwipe, mPat, mPats, List.getElem?_cons_zero, List.getElem?_cons_succ, List.set_cons_zero, List.set_cons_succ, List.map_cons, List.map_nil, List.length_cons, List.length_nil, List.replicate_succ, List.replicate_zero, List.cons_append, List.nil_append, Nat.reduceAdd, Nat.reduceSub, Nat.reduceLeDiff, Nat.zero_add, Option.map_some, if_true, Bool.false_eq_true, if_false, true_and, and_true, decide_eq_true_eq, reduceIte, reduceCtorEq, e8, eK8, List.length_map]
      refine (take_spec B8.box (by omega) (by omega)).by ?_
      rintro _ h9 ⟨g, rfl, g0, g1, B9⟩
      have B9' := B8.trans B9
      have eK9 := B9'.get hk hkb
      obtain ⟨k, ek, hk2⟩ : ∃ k, L2.atI (ks.map W.str) g = some (.str k) ∧ K k := by
        obtain ⟨w, e1, e2⟩ := Mi.atI_get (xs := ks.map W.str) g0 (by rw [List.length_map]; exact g1)
        rw [List.getElem?_map] at e2
        cases q : ks[g.toNat]? with
        | none => rw [q] at e2; cases e2
        | some z => rw [q] at e2; cases e2; exact ⟨z, e1, hK z (List.mem_of_getElem? q)⟩
      have cn : cnt "name" its ≤ 2 := by have := df.nm; have := df.n0; omega
      simp only [wp_c, wp_var, slotK_some, wp_op, wp_un, wp_b, asB_bl, wp_tr, asT_some, wp_yes, wp_and, wp_or, wp_not, wp_caseB, wp_andV, wp_orV, wp_notV, wp_if, wp_nil, wp_cons, wp_tup, wp_lst, wp_cb, wp_call, wp_m0, wp_m1, wp_ml0, wp_ml, wp_isi, wp_isi2, wp_nopart, asI_int, wp_part, wp_sl, wp_seq, seqK_nx, seqK_rt, seqK_bk, seqK_ct, wp_next, wp_brk, wp_cont, wp_drop, wp_ret, wp_ifS, wp_set, wp_par, wp_par3, wp_asg, wp_pat, asP_some, wp_sub, asH_some, wp_aug, wp_for, wp_while, wp_lc, wp_lc2, wp_def, defK_rt, defK_nx, wp_miseq, srcK_ref, srcK_tup, srcK_str, rngK_int, wp_range1, wp_enum, enumK_ref, Tl_some, Ts_some, loopK_nx, loopK_ct, loopK_bk, loopK_rt, ixK_some, atI_k0, atI_k1, atI_k2, atI_k3, atI_k4, atI_k5, atI_k6, atI_k8, atI_k9, L2.atI_last, atI_n, g_ix_t, g_ix_s, g_ix_r, cIx_l, cIx_z, cIx_d, cIx_f, g_sub, g_lt, g_le, g_gt, g_ge, g_addi, g_addI, g_adds, g_addt, g_mul, g_muls, g_fdiv, g_mod, g_neg, g_eqs, g_nes, g_eqi, g_nei, g_min, g_max, g_int_b, g_int_i, g_is_non, g_cuts, g_cutt, g_lens, g_lent, g_lenr, cLen_l, cLen_z, g_tupt, g_tupr, cTup_l, g_listt, isLst_r, lstAt_r, cLst_l, cLst_z, tr_r, cTr_l, tr_b, g_set, cSet_l, cSet_d, jK_some, kK_some, ixN_0, ixN_1, ixN_2, isS, mwipe, mPat, mPats, List.getElem?_cons_zero, List.getElem?_cons_succ, List.set_cons_zero, List.set_cons_succ, List.map_cons, List.map_nil, List.length_cons, List.length_nil, List.replicate_succ, List.replicate_zero, List.cons_append, List.nil_append, Nat.reduceAdd, Nat.reduceSub, Nat.reduceLeDiff, Nat.zero_add, Option.map_some, if_true, Bool.false_eq_true, if_false, true_and, and_true, decide_eq_true_eq, reduceIte, reduceCtorEq, eK9, ek]
      refine ⟨sm62 ⟨by omega, by unfold cnt at cn; omega⟩, ?_⟩
      refine Tl.lc_bf (b := b) (xs := rangeW 0 (cnt "name" its)) (fun w => ∃ j : Nat, w = .int j ∧ j < cnt "name" its) B9'.box (fun h' _ => by rw [Int.toNat_natCast]; exact is_items) (by rw [range_len]; omega) (by rw [range_len]; omega) ?_ ?_
      · intro j x ex h10 B10
        obtain ⟨rfl, hj⟩ := range_get ex
        refine ⟨_, rfl, ?_⟩
        simp only [wp_c, wp_var, slotK_some, wp_op, wp_un, wp_b, asB_bl, wp_tr, asT_some, wp_yes, wp_and, wp_or, wp_not, wp_caseB, wp_andV, wp_orV, wp_notV, wp_if, wp_nil, wp_cons, wp_tup, wp_lst, wp_cb, wp_call, wp_m0, wp_m1, wp_ml0, wp_ml, wp_isi, wp_isi2, wp_nopart, asI_int, wp_part, wp_sl, wp_seq, seqK_nx, seqK_rt, seqK_bk, seqK_ct, wp_next, wp_brk, wp_cont, wp_drop, wp_ret, wp_ifS, wp_set, wp_par, wp_par3, wp_asg, wp_pat, asP_some, wp_sub, asH_some, wp_aug, wp_for, wp_while, wp_lc, wp_lc2, wp_def, defK_rt, defK_nx, wp_miseq, srcK_ref, srcK_tup, srcK_str, rngK_int, wp_range1, wp_enum, enumK_ref, Tl_some, Ts_some, loopK_nx, loopK_ct, loopK_bk, loopK_rt, ixK_some, atI_k0, atI_k1, atI_k2, atI_k3, atI_k4, atI_k5, atI_k6, atI_k8, atI_k9, L2.atI_last, atI_n, g_ix_t, g_ix_s, g_ix_r, cIx_l, cIx_z, cIx_d, cIx_f, g_sub, g_lt, g_le, g_gt, g_ge, g_addi, g_addI, g_adds, g_addt, g_mul, g_muls, g_fdiv, g_mod, g_neg, g_eqs, g_nes, g_eqi, g_nei, g_min, g_max, g_int_b, g_int_i, g_is_non, g_cuts, g_cutt, g_lens, g_lent, g_lenr, cLen_l, cLen_z, g_tupt, g_tupr, cTup_l, g_listt, isLst_r, lstAt_r, cLst_l, cLst_z, tr_r, cTr_l, tr_b, g_set, cSet_l, cSet_d, jK_some, kK_some, ixN_0, ixN_1, ixN_2, isS, mwipe, mPat, mPats, List.getElem?_cons_zero, List.getElem?_cons_succ, List.set_cons_zero, List.set_cons_succ, List.map_cons, List.map_nil, List.length_cons, List.length_nil, List.replicate_succ, List.replicate_zero, List.cons_append, List.nil_append, Nat.reduceAdd, Nat.reduceSub, Nat.reduceLeDiff, Nat.zero_add, Option.map_some, if_true, Bool.false_eq_true, if_false, true_and, and_true, decide_eq_true_eq, reduceIte, reduceCtorEq]
        refine (take_spec B10.box (by decide) (by decide)).by ?_
        rintro _ h11 ⟨y, rfl, y0, y1, B11⟩
        simp only [wp_c, wp_var, slotK_some, wp_op, wp_un, wp_b, asB_bl, wp_tr, asT_some, wp_yes, wp_and, wp_or, wp_not, wp_caseB, wp_andV, wp_orV, wp_notV, wp_if, wp_nil, wp_cons, wp_tup, wp_lst, wp_cb, wp_call, wp_m0, wp_m1, wp_ml0, wp_ml, wp_isi, wp_isi2, wp_nopart, asI_int, wp_part, wp_sl, wp_seq, seqK_nx, seqK_rt, seqK_bk, seqK_ct, wp_next, wp_brk, wp_cont, wp_drop, wp_ret, wp_ifS, wp_set, wp_par, wp_par3, wp_asg, wp_pat, asP_some, wp_sub, asH_some, wp_aug, wp_for, wp_while, wp_lc, wp_lc2, wp_def, defK_rt, defK_nx, wp_miseq, srcK_ref, srcK_tup, srcK_str, rngK_int, wp_range1, wp_enum, enumK_ref, Tl_some, Ts_some, loopK_nx, loopK_ct, loopK_bk, loopK_rt, ixK_some, atI_k0, atI_k1, atI_k2, atI_k3, atI_k4, atI_k5, atI_k6, atI_k8, atI_k9, L2.atI_last, atI_n, g_ix_t, g_ix_s, g_ix_r, cIx_l, cIx_z, cIx_d, cIx_f, g_sub, g_lt, g_le, g_gt, g_ge, g_addi, g_addI, g_adds, g_addt, g_mul, g_muls, g_fdiv, g_mod, g_neg, g_eqs, g_nes, g_eqi, g_nei, g_min, g_max, g_int_b, g_int_i, g_is_non, g_cuts, g_cutt, g_lens, g_lent, g_lenr, cLen_l, cLen_z, g_tupt, g_tupr, cTup_l, g_listt, isLst_r, lstAt_r, cLst_l, cLst_z, tr_r, cTr_l, tr_b, g_set, cSet_l, cSet_d, jK_some, kK_some, ixN_0, ixN_1, ixN_2, isS, mwipe, mPat, mPats, List.getElem?_cons_zero, List.getElem?_cons_succ, List.set_cons_zero, List.set_cons_succ, List.map_cons, List.map_nil, List.length_cons, List.length_nil, List.replicate_succ, List.replicate_zero, List.cons_append, List.nil_append, Nat.reduceAdd, Nat.reduceSub, Nat.reduceLeDiff, Nat.zero_add, Option.map_some, if_true, Bool.false_eq_true, if_false, true_and, and_true, decide_eq_true_eq, reduceIte, reduceCtorEq]
        exact ⟨B11, fun _ => ⟨⟨j, rfl, hj⟩, Bx.refl B11.box⟩⟩
      · intro h10 ops B10 eO lO hO
        rw [range_len] at lO
        have B10' := B9'.trans B10
        refine Tl.disp fun h11 x11 l11 e11 => ?_
        have eO' := x11.get eO
        simp only [wp_prs, wp_prs0, keyW_str, keyK_some, wp_c, wp_var, slotK_some, wp_op, wp_un, wp_b, asB_bl, wp_tr, asT_some, wp_yes, wp_and, wp_or, wp_not, wp_caseB, wp_andV, wp_orV, wp_notV, wp_if, wp_nil, wp_cons, wp_tup, wp_lst, wp_cb, wp_call, wp_m0, wp_m1, wp_ml0, wp_ml, wp_isi, wp_isi2, wp_nopart, asI_int, wp_part, wp_sl, wp_seq, seqK_nx, seqK_rt, seqK_bk, seqK_ct, wp_next, wp_brk, wp_cont, wp_drop, wp_ret, wp_ifS, wp_set, wp_par, wp_par3, wp_asg, wp_pat, asP_some, wp_sub, asH_some, wp_aug, wp_for, wp_while, wp_lc, wp_lc2, wp_def, defK_rt, defK_nx, wp_miseq, srcK_ref, srcK_tup, srcK_str, rngK_int, wp_range1, wp_enum, enumK_ref, Tl_some, Ts_some, loopK_nx, loopK_ct, loopK_bk, loopK_rt, ixK_some, atI_k0, atI_k1, atI_k2, atI_k3, atI_k4, atI_k5, atI_k6, atI_k8, atI_k9, L2.atI_last, atI_n, g_ix_t, g_ix_s, g_ix_r, cIx_l, cIx_z, cIx_d, cIx_f, g_sub, g_lt, g_le, g_gt, g_ge, g_addi, g_addI, g_adds, g_addt, g_mul, g_muls, g_fdiv, g_mod, g_neg, g_eqs, g_nes, g_eqi, g_nei, g_min, g_max, g_int_b, g_int_i, g_is_non, g_cuts, g_cutt, g_lens, g_lent, g_lenr, cLen_l, cLen_z, g_tupt, g_tupr, cTup_l, g_listt, isLst_r, lstAt_r, cLst_l, cLst_z, tr_r, cTr_l, tr_b, g_set, cSet_l, cSet_d, jK_some, kK_some, ixN_0, ixN_1, ixN_2, isS, mwipe, mPat, mPats, List.getElem?_cons_zero, List.getElem?_cons_succ, List.set_cons_zero, List.set_cons_succ, List.map_cons, List.map_nil, List.length_cons, List.length_nil, List.replicate_succ, List.replicate_zero, List.cons_append, List.nil_append, Nat.reduceAdd, Nat.reduceSub, Nat.reduceLeDiff, Nat.zero_add, Option.map_some, if_true, Bool.false_eq_true, if_false, true_and, and_true, decide_eq_true_eq, reduceIte, reduceCtorEq, eO']
        repeat (first | refine ⟨by decide, ?_⟩ | refine ⟨by simp, ?_⟩)
        refine ⟨e11, fun h12 c12 e12 => ?_⟩
        have x12 : Ext h10 h12 := x11.chg c12 (Nat.le_refl _)
        have B12 := B10'.ext x12
        refine Tl.newL (by decide) fun h13 x13 l13 e13 => ?_
        refine (take_spec (B12.box.ext x13) (by decide) (by decide)).by ?_
        rintro _ h14 ⟨y, rfl, y0, y1, B14⟩
        have lb := B12.box.lt
        have e13' := B14.get e13 (by omega)
        have B14' := x13.bx B14
        have e12' := B14'.get e12 (by have := B10'.box.lt; omega)
        obtain ⟨z, ez, hz⟩ : ∃ z, L2.atI [W.str "AT", W.str "?", W.str ","] y = some (.str z) ∧ PyData.strOk z = true := by
          have : y = 0 ∨ y = 1 ∨ y = 2 := by omega
          rcases this with rfl | rfl | rfl
          · exact ⟨_, rfl, by decide +kernel⟩
          · exact ⟨_, rfl, by decide +kernel⟩
          · exact ⟨_, rfl, by decide +kernel⟩
        simp only [wp_c, wp_var, slotK_some, wp_op, wp_un, wp_b, asB_bl, wp_tr, asT_some, wp_yes, wp_and, wp_or, wp_not, wp_caseB, wp_andV, wp_orV, wp_notV, wp_if, wp_nil, wp_cons, wp_tup, wp_lst, wp_cb, wp_call, wp_m0, wp_m1, wp_ml0, wp_ml, wp_isi, wp_isi2, wp_nopart, asI_int, wp_part, wp_sl, wp_seq, seqK_nx, seqK_rt, seqK_bk, seqK_ct, wp_next, wp_brk, wp_cont, wp_drop, wp_ret, wp_ifS, wp_set, wp_par, wp_par3, wp_asg, wp_pat, asP_some, wp_sub, asH_some, wp_aug, wp_for, wp_while, wp_lc, wp_lc2, wp_def, defK_rt, defK_nx, wp_miseq, srcK_ref, srcK_tup, srcK_str, rngK_int, wp_range1, wp_enum, enumK_ref, Tl_some, Ts_some, loopK_nx, loopK_ct, loopK_bk, loopK_rt, ixK_some, atI_k0, atI_k1, atI_k2, atI_k3, atI_k4, atI_k5, atI_k6, atI_k8, atI_k9, L2.atI_last, atI_n, g_ix_t, g_ix_s, g_ix_r, cIx_l, cIx_z, cIx_d, cIx_f, g_sub, g_lt, g_le, g_gt, g_ge, g_addi, g_addI, g_adds, g_addt, g_mul, g_muls, g_fdiv, g_mod, g_neg, g_eqs, g_nes, g_eqi, g_nei, g_min, g_max, g_int_b, g_int_i, g_is_non, g_cuts, g_cutt, g_lens, g_lent, g_lenr, cLen_l, cLen_z, g_tupt, g_tupr, cTup_l, g_listt, isLst_r, lstAt_r, cLst_l, cLst_z, tr_r, cTr_l, tr_b, g_set, cSet_l, cSet_d, jK_some, kK_some, ixN_0, ixN_1, ixN_2, isS, mwipe, mPat, mPats, List.getElem?_cons_zero, List.getElem?_cons_succ, List.set_cons_zero, List.set_cons_succ, List.map_cons, List.map_nil, List.length_cons, List.length_nil, List.replicate_succ, List.replicate_zero, List.cons_append, List.nil_append, Nat.reduceAdd, Nat.reduceSub, Nat.reduceLeDiff, Nat.zero_add, Option.map_some, if_true, Bool.false_eq_true, if_false, true_and, and_true, decide_eq_true_eq, reduceIte, reduceCtorEq, e13', ez, e12', keyW_str]
        refine ⟨Nat.lt_of_le_of_lt merge_len (by simp), ?_⟩
        obtain ⟨x, egx, hx, cx1, cx2⟩ := pick_item (K := K) (t := t) (k := k) (z := z) (ops := ops) (m := cnt "name" its) ht hk2 (by omega) hO hz
        generalize hpw : putW (mergeW [] [((.inr "lit" : Key), W.tup [.str "lit"]), (.inr "name", .tup [.str "name", .str k]), (.inr "term", .tup [.str "term", .str k, .tup ops])]) (.inr "sign") (.tup [.str "sign", .str z]) = pw at egx
        have c15 : Chg h10.length h14 (h14.set h10.length (.dic pw)) := Chg.set
        have e15 : (h14.set h10.length (.dic pw))[h10.length]? = some (.dic pw) := List.getElem?_set_self (lt_of_get e12')
        generalize h14.set h10.length (.dic pw) = h15 at c15 e15
        have B15 : Bx b h h15 := (B12.trans B14').chg c15 B10'.len (by have := B10'.len; omega)
        have C14 : Bx b h7 h14 := (((x8.bx B9).trans B10).ext x12).trans B14'
        have len7 : h.length < h7.length ∧ h1.length < h7.length := ⟨lt_of_get eF7, lt_of_get e7⟩
        have len10 : h7.length ≤ h10.length := Nat.le_trans x8.len (Nat.le_trans B9.len B10.len)
        have eF15 := c15.get (C14.get eF7 (by omega)) (by omega)
        have eD15 := c15.get (C14.get e7 (by omega)) (by omega)
        simp only [wp_c, wp_var, slotK_some, wp_op, wp_un, wp_b, asB_bl, wp_tr, asT_some, wp_yes, wp_and, wp_or, wp_not, wp_caseB, wp_andV, wp_orV, wp_notV, wp_if, wp_nil, wp_cons, wp_tup, wp_lst, wp_cb, wp_call, wp_m0, wp_m1, wp_ml0, wp_ml, wp_isi, wp_isi2, wp_nopart, asI_int, wp_part, wp_sl, wp_seq, seqK_nx, seqK_rt, seqK_bk, seqK_ct, wp_next, wp_brk, wp_cont, wp_drop, wp_ret, wp_ifS, wp_set, wp_par, wp_par3, wp_asg, wp_pat, asP_some, wp_sub, asH_some, wp_aug, wp_for, wp_while, wp_lc, wp_lc2, wp_def, defK_rt, defK_nx, wp_miseq, srcK_ref, srcK_tup, srcK_str, rngK_int, wp_range1, wp_enum, enumK_ref, Tl_some, Ts_some, loopK_nx, loopK_ct, loopK_bk, loopK_rt, ixK_some, atI_k0, atI_k1, atI_k2, atI_k3, atI_k4, atI_k5, atI_k6, atI_k8, atI_k9, L2.atI_last, atI_n, g_ix_t, g_ix_s, g_ix_r, cIx_l, cIx_z, cIx_d, cIx_f, g_sub, g_lt, g_le, g_gt, g_ge, g_addi, g_addI, g_adds, g_addt, g_mul, g_muls, g_fdiv, g_mod, g_neg, g_eqs, g_nes, g_eqi, g_nei, g_min, g_max, g_int_b, g_int_i, g_is_non, g_cuts, g_cutt, g_lens, g_lent, g_lenr, cLen_l, cLen_z, g_tupt, g_tupr, cTup_l, g_listt, isLst_r, lstAt_r, cLst_l, cLst_z, tr_r, cTr_l, tr_b, g_set, cSet_l, cSet_d, jK_some, kK_some, ixN_0, ixN_1, ixN_2, isS, mwipe, mPat, mPats, List.getElem?_cons_zero, List.getElem?_cons_succ, List.set_cons_zero, List.set_cons_succ, List.map_cons, List.map_nil, List.length_cons, List.length_nil, List.replicate_succ, List.replicate_zero, List.cons_append, List.nil_append, Nat.reduceAdd, Nat.reduceSub, Nat.reduceLeDiff, Nat.zero_add, Option.map_some, if_true, Bool.false_eq_true, if_false, true_and, and_true, decide_eq_true_eq, reduceIte, reduceCtorEq, e15, egx, eF15, keyW_str, Option.bind_some]
        refine Tl.app eF15 (by omega) fun h16 c16 e16 => ?_
        refine ⟨its ++ [x], _, fun u => if u = t then v t - 1 else v u, _, _, _, _, _, _, _, rfl, B15.chg c16 (Nat.le_refl _) (by omega), e16, c16.get eD15 (by omega), ?_, by simp; omega, ?_⟩
        · refine ⟨?_, ?_, ?_, ?_, ?_, ?_⟩
          · rw [put_len_in (df.get t ht)]; exact df.len
          · intro u hu
            rw [getW_put]
            by_cases q : t = u
            · subst q; simp
            · rw [if_neg (fun z => q (by simpa using z)), if_neg (fun z => q z.symm)]; exact df.get u hu
          · have := df.nm
            rw [cnt_app, cx1]
            by_cases q : t = "name"
            · subst q; simp; omega
            · rw [if_neg q, if_neg (fun z => q z.symm)]; simpa using this
          · have := df.n0
            by_cases q : t = "name"
            · subst q; simp; omega
            · rw [if_neg (fun z => q z.symm)]; exact this
          · have := df.tm
            rw [cnt_app, cx2]
            by_cases q : t = "term"
            · subst q; simp; omega
            · rw [if_neg q, if_neg (fun z => q z.symm)]; simpa using this
          · have := df.t0
            by_cases q : t = "term"
            · subst q; simp; omega
            · rw [if_neg (fun z => q z.symm)]; exact this
        · intro j y hj
          rcases get_snoc hj with q | ⟨q1, q2⟩
          · rw [List.take_append_of_le_length (by have := lt_of_get q; omega)]
            exact hit j y q
          · rw [q1, q2, List.take_left']
            · exact hx
            · rfl
    · simp only [vp, wp_c, wp_var, slotK_some, wp_op, wp_un, wp_b, asB_bl, wp_tr, asT_some, wp_yes, wp_and, wp_or, wp_not, wp_caseB, wp_andV, wp_orV, wp_notV, wp_if, wp_nil, wp_cons, wp_tup, wp_lst, wp_cb, wp_call, wp_m0, wp_m1, wp_ml0, wp_ml, wp_isi, wp_isi2, wp_nopart, asI_int, wp_part, wp_sl, wp_seq, seqK_nx, seqK_rt, seqK_bk, seqK_ct, wp_next, wp_brk, wp_cont, wp_drop, wp_ret, wp_ifS, wp_set, wp_par, wp_par3, wp_asg, wp_pat, asP_some, wp_sub, asH_some, wp_aug, wp_for, wp_while, wp_lc, wp_lc2, wp_def, defK_rt, defK_nx, wp_miseq, srcK_ref, srcK_tup, srcK_str, rngK_int, wp_range1, wp_enum, enumK_ref, Tl_some, Ts_some, loopK_nx, loopK_ct, loopK_bk, loopK_rt, ixK_some, atI_k0, atI_k1, atI_k2, atI_k3, atI_k4, atI_k5, atI_k6, atI_k8, atI_k9, L2.atI_last, atI_n, g_ix_t, g_ix_s, g_ix_r, cIx_l, cIx_z, cIx_d, cIx_f, g_sub, g_lt, g_le, g_gt, g_ge, g_addi, g_addI, g_adds, g_addt, g_mul, g_muls, g_fdiv, g_mod, g_neg, g_eqs, g_nes, g_eqi, g_nei, g_min, g_max, g_int_b, g_int_i, g_is_non, g_cuts, g_cutt, g_lens, g_lent, g_lenr, cLen_l, cLen_z, g_tupt, g_tupr, cTup_l, g_listt, isLst_r, lstAt_r, cLst_l, cLst_z, tr_r, cTr_l, tr_b, g_set, cSet_l, cSet_d, jK_some, kK_some, ixN_0, ixN_1, ixN_2, isS, mwipe, mPat, mPats, List.getElem?_cons_zero, List.getElem?_cons_succ, List.set_cons_zero, List.set_cons_succ, List.map_cons, List.map_nil, List.length_cons, List.length_nil, List.replicate_succ, List.replicate_zero, List.cons_append, List.nil_append, Nat.reduceAdd, Nat.reduceSub, Nat.reduceLeDiff, Nat.zero_add, Option.map_some, if_true, Bool.false_eq_true, if_false, true_and, and_true, decide_eq_true_eq, reduceIte, reduceCtorEq]
      exact ⟨its, kvs, v, _, _, _, _, _, _, _, rfl, B7, eF6, rfl, df, by omega, hit⟩
  · rintro s hh ⟨its, kvs, v, u2, u5, u6, u7, u8, u9, u10, rfl, BB, eF, eD, df, li, hit⟩
    simp only [wp_c, wp_var, slotK_some, wp_op, wp_un, wp_b, asB_bl, wp_tr, asT_some, wp_yes, wp_and, wp_or, wp_not, wp_caseB, wp_andV, wp_orV, wp_notV, wp_if, wp_nil, wp_cons, wp_tup, wp_lst, wp_cb, wp_call, wp_m0, wp_m1, wp_ml0, wp_ml, wp_isi, wp_isi2, wp_nopart, asI_int, wp_part, wp_sl, wp_seq, seqK_nx, seqK_rt, seqK_bk, seqK_ct, wp_next, wp_brk, wp_cont, wp_drop, wp_ret, wp_ifS, wp_set, wp_par, wp_par3, wp_asg, wp_pat, asP_some, wp_sub, asH_some, wp_aug, wp_for, wp_while, wp_lc, wp_lc2, wp_def, defK_rt, defK_nx, wp_miseq, srcK_ref, srcK_tup, srcK_str, rngK_int, wp_range1, wp_enum, enumK_ref, Tl_some, Ts_some, loopK_nx, loopK_ct, loopK_bk, loopK_rt, ixK_some, atI_k0, atI_k1, atI_k2, atI_k3, atI_k4, atI_k5, atI_k6, atI_k8, atI_k9, L2.atI_last, atI_n, g_ix_t, g_ix_s, g_ix_r, cIx_l, cIx_z, cIx_d, cIx_f, g_sub, g_lt, g_le, g_gt, g_ge, g_addi, g_addI, g_adds, g_addt, g_mul, g_muls, g_fdiv, g_mod, g_neg, g_eqs, g_nes, g_eqi, g_nei, g_min, g_max, g_int_b, g_int_i, g_is_non, g_cuts, g_cutt, g_lens, g_lent, g_lenr, cLen_l, cLen_z, g_tupt, g_tupr, cTup_l, g_listt, isLst_r, lstAt_r, cLst_l, cLst_z, tr_r, cTr_l, tr_b, g_set, cSet_l, cSet_d, jK_some, kK_some, ixN_0, ixN_1, ixN_2, isS, mwipe, mPat, mPats, List.getElem?_cons_zero, List.getElem?_cons_succ, List.set_cons_zero, List.set_cons_succ, List.map_cons, List.map_nil, List.length_cons, List.length_nil, List.replicate_succ, List.replicate_zero, List.cons_append, List.nil_append, Nat.reduceAdd, Nat.reduceSub, Nat.reduceLeDiff, Nat.zero_add, Option.map_some, if_true, Bool.false_eq_true, if_false, true_and, and_true, decide_eq_true_eq, reduceIte, reduceCtorEq, eF]
    rw [range_len] at li
    exact ⟨its, rfl, BB, by omega, by have := df.nm; have := df.n0; omega, by have := df.tm; have := df.t0; omega, hit⟩
end K03

namespace K03
open PySem PySem.Spec PyProof.Rows L2 Mi
theorem meant_spec {n : Nat} {h : MH} {its : List W} (hn : 100 ≤ n) (ht : ∀ x ∈ its, Tagd x) (hl : its.length ≤ 7) : Tl (f__law_meant n [.tup its] h) fun w h' => Ext h h' := by
  unfold f__law_meant B__law_meant
  simp only [wp_c, wp_var, slotK_some, wp_op, wp_un, wp_b, asB_bl, wp_tr, asT_some, wp_yes, wp_and, wp_or, wp_not, wp_caseB, wp_andV, wp_orV, wp_notV, wp_if, wp_nil, wp_cons, wp_tup, wp_lst, wp_cb, wp_call, wp_m0, wp_m1, wp_ml0, wp_ml, wp_isi, wp_isi2, wp_nopart, asI_int, wp_part, wp_sl, wp_seq, seqK_nx, seqK_rt, seqK_bk, seqK_ct, wp_next, wp_brk, wp_cont, wp_drop, wp_ret, wp_ifS, wp_set, wp_par, wp_par3, wp_asg, wp_pat, asP_some, wp_sub, asH_some, wp_aug, wp_for, wp_while, wp_lc, wp_lc2, wp_def, defK_rt, defK_nx, wp_miseq, srcK_ref, srcK_tup, srcK_str, rngK_int, wp_range1, wp_enum, enumK_ref, Tl_some, Ts_some, loopK_nx, loopK_ct, loopK_bk, loopK_rt, ixK_some, atI_k0, atI_k1, atI_k2, atI_k3, atI_k4, atI_k5, atI_k6, atI_k8, atI_k9, L2.atI_last, atI_n, g_ix_t, g_ix_s, g_ix_r, cIx_l, cIx_z, cIx_d, cIx_f, g_sub, g_lt, g_le, g_gt, g_ge, g_addi, g_addI, g_adds, g_addt, g_mul, g_muls, g_fdiv, g_mod, g_neg, g_eqs, g_nes, g_eqi, g_nei, g_min, g_max, g_int_b, g_int_i, g_is_non, g_cuts, g_cutt, g_lens, g_lent, g_lenr, cLen_l, cLen_z, g_tupt, g_tupr, cTup_l, g_listt, isLst_r, lstAt_r, cLst_l, cLst_z, tr_r, cTr_l, tr_b, g_set, cSet_l, cSet_d, jK_some, kK_some, ixN_0, ixN_1, ixN_2, isS, mwipe, mPat, mPats, List.getElem?_cons_zero, List.getElem?_cons_succ, List.set_cons_zero, List.set_cons_succ, List.map_cons, List.map_nil, List.length_cons, List.length_nil, List.replicate_succ, List.replicate_zero, List.cons_append, List.nil_append, Nat.reduceAdd, Nat.reduceSub, Nat.reduceLeDiff, Nat.zero_add, Option.map_some, if_true, Bool.false_eq_true, if_false, true_and, and_true, decide_eq_true_eq, reduceIte, reduceCtorEq]
  repeat (refine ⟨by decide, ?_⟩)
  have lf : ∀ t, (its.filter (tagIs t)).length ≤ 7 := fun t => Nat.le_trans (List.length_filter_le _ _) hl
  refine Tl.tags (xs := its) (fun _ _ => is_items) ht (by omega) (by omega) (fun h1 x1 e1 => ?_)
  simp only [wp_c, wp_var, slotK_some, wp_op, wp_un, wp_b, asB_bl, wp_tr, asT_some, wp_yes, wp_and, wp_or, wp_not, wp_caseB, wp_andV, wp_orV, wp_notV, wp_if, wp_nil, wp_cons, wp_tup, wp_lst, wp_cb, wp_call, wp_m0, wp_m1, wp_ml0, wp_ml, wp_isi, wp_isi2, wp_nopart, asI_int, wp_part, wp_sl, wp_seq, seqK_nx, seqK_rt, seqK_bk, seqK_ct, wp_next, wp_brk, wp_cont, wp_drop, wp_ret, wp_ifS, wp_set, wp_par, wp_par3, wp_asg, wp_pat, asP_some, wp_sub, asH_some, wp_aug, wp_for, wp_while, wp_lc, wp_lc2, wp_def, defK_rt, defK_nx, wp_miseq, srcK_ref, srcK_tup, srcK_str, rngK_int, wp_range1, wp_enum, enumK_ref, Tl_some, Ts_some, loopK_nx, loopK_ct, loopK_bk, loopK_rt, ixK_some, atI_k0, atI_k1, atI_k2, atI_k3, atI_k4, atI_k5, atI_k6, atI_k8, atI_k9, L2.atI_last, atI_n, g_ix_t, g_ix_s, g_ix_r, cIx_l, cIx_z, cIx_d, cIx_f, g_sub, g_lt, g_le, g_gt, g_ge, g_addi, g_addI, g_adds, g_addt, g_mul, g_muls, g_fdiv, g_mod, g_neg, g_eqs, g_nes, g_eqi, g_nei, g_min, g_max, g_int_b, g_int_i, g_is_non, g_cuts, g_cutt, g_lens, g_lent, g_lenr, cLen_l, cLen_z, g_tupt, g_tupr, cTup_l, g_listt, isLst_r, lstAt_r, cLst_l, cLst_z, tr_r, cTr_l, tr_b, g_set, cSet_l, cSet_d, jK_some, kK_some, ixN_0, ixN_1, ixN_2, isS, mwipe, mPat, mPats, List.getElem?_cons_zero, List.getElem?_cons_succ, List.set_cons_zero, List.set_cons_succ, List.map_cons, List.map_nil, List.length_cons, List.length_nil, List.replicate_succ, List.replicate_zero, List.cons_append, List.nil_append, Nat.reduceAdd, Nat.reduceSub, Nat.reduceLeDiff, Nat.zero_add, Option.map_some, if_true, Bool.false_eq_true, if_false, true_and, and_true, decide_eq_true_eq, reduceIte, reduceCtorEq, e1]
  have := lf (Str.ofString "term")
  refine ⟨sm62 ⟨by omega, by omega⟩, ?_⟩
  refine Ts.for_ (rangeW 0 (its.filter (tagIs (Str.ofString "term"))).length) (fun i s hh => Ext h hh ∧ ∃ w u2 u3 u4, s = [some (.tup its), some w, u2, u3, u4]) (fun _ _ _ _ => by rw [Int.toNat_natCast]; exact is_items) (by rw [range_len]; omega) ⟨x1, _, _, _, _, rfl⟩ ?_ ?_
  · rintro i x s hh ex ⟨xx, w, u2, u3, u4, rfl⟩
    obtain ⟨rfl, hi⟩ := range_get ex
    simp only [wp_c, wp_var, slotK_some, wp_op, wp_un, wp_b, asB_bl, wp_tr, asT_some, wp_yes, wp_and, wp_or, wp_not, wp_caseB, wp_andV, wp_orV, wp_notV, wp_if, wp_nil, wp_cons, wp_tup, wp_lst, wp_cb, wp_call, wp_m0, wp_m1, wp_ml0, wp_ml, wp_isi, wp_isi2, wp_nopart, asI_int, wp_part, wp_sl, wp_seq, seqK_nx, seqK_rt, seqK_bk, seqK_ct, wp_next, wp_brk, wp_cont, wp_drop, wp_ret, wp_ifS, wp_set, wp_par, wp_par3, wp_asg, wp_pat, asP_some, wp_sub, asH_some, wp_aug, wp_for, wp_while, wp_lc, wp_lc2, wp_def, defK_rt, defK_nx, wp_miseq, srcK_ref, srcK_tup, srcK_str, rngK_int, wp_range1, wp_enum, enumK_ref, Tl_some, Ts_some, loopK_nx, loopK_ct, loopK_bk, loopK_rt, ixK_some, atI_k0, atI_k1, atI_k2, atI_k3, atI_k4, atI_k5, atI_k6, atI_k8, atI_k9, L2.atI_last, atI_n, g_ix_t, g_ix_s, g_ix_r, cIx_l, cIx_z, cIx_d, cIx_f, g_sub, g_lt, g_le, g_gt, g_ge, g_addi, g_addI, g_adds, g_addt, g_mul, g_muls, g_fdiv, g_mod, g_neg, g_eqs, g_nes, g_eqi, g_nei, g_min, g_max, g_int_b, g_int_i, g_is_non, g_cuts, g_cutt, g_lens, g_lent, g_lenr, cLen_l, cLen_z, g_tupt, g_tupr, cTup_l, g_listt, isLst_r, lstAt_r, cLst_l, cLst_z, tr_r, cTr_l, tr_b, g_set, cSet_l, cSet_d, jK_some, kK_some, ixN_0, ixN_1, ixN_2, isS, mwipe, mPat, mPats, List.getElem?_cons_zero, List.getElem?_cons_succ, List.set_cons_zero, List.set_cons_succ, List.map_cons, List.map_nil, List.length_cons, List.length_nil, List.replicate_succ, List.replicate_zero, List.cons_append, List.nil_append, Nat.reduceAdd, Nat.reduceSub, Nat.reduceLeDiff, Nat.zero_add, Option.map_some, if_true, Bool.false_eq_true, if_false, true_and, and_true, decide_eq_true_eq, reduceIte, reduceCtorEq]
    repeat (refine ⟨by decide, ?_⟩)
    exact ⟨xx, _, _, _, _, rfl⟩
  · rintro s hh ⟨xx, w, u2, u3, u4, rfl⟩
    simp only [wp_c, wp_var, slotK_some, wp_op, wp_un, wp_b, asB_bl, wp_tr, asT_some, wp_yes, wp_and, wp_or, wp_not, wp_caseB, wp_andV, wp_orV, wp_notV, wp_if, wp_nil, wp_cons, wp_tup, wp_lst, wp_cb, wp_call, wp_m0, wp_m1, wp_ml0, wp_ml, wp_isi, wp_isi2, wp_nopart, asI_int, wp_part, wp_sl, wp_seq, seqK_nx, seqK_rt, seqK_bk, seqK_ct, wp_next, wp_brk, wp_cont, wp_drop, wp_ret, wp_ifS, wp_set, wp_par, wp_par3, wp_asg, wp_pat, asP_some, wp_sub, asH_some, wp_aug, wp_for, wp_while, wp_lc, wp_lc2, wp_def, defK_rt, defK_nx, wp_miseq, srcK_ref, srcK_tup, srcK_str, rngK_int, wp_range1, wp_enum, enumK_ref, Tl_some, Ts_some, loopK_nx, loopK_ct, loopK_bk, loopK_rt, ixK_some, atI_k0, atI_k1, atI_k2, atI_k3, atI_k4, atI_k5, atI_k6, atI_k8, atI_k9, L2.atI_last, atI_n, g_ix_t, g_ix_s, g_ix_r, cIx_l, cIx_z, cIx_d, cIx_f, g_sub, g_lt, g_le, g_gt, g_ge, g_addi, g_addI, g_adds, g_addt, g_mul, g_muls, g_fdiv, g_mod, g_neg, g_eqs, g_nes, g_eqi, g_nei, g_min, g_max, g_int_b, g_int_i, g_is_non, g_cuts, g_cutt, g_lens, g_lent, g_lenr, cLen_l, cLen_z, g_tupt, g_tupr, cTup_l, g_listt, isLst_r, lstAt_r, cLst_l, cLst_z, tr_r, cTr_l, tr_b, g_set, cSet_l, cSet_d, jK_some, kK_some, ixN_0, ixN_1, ixN_2, isS, mwipe, mPat, mPats, List.getElem?_cons_zero, List.getElem?_cons_succ, List.set_cons_zero, List.set_cons_succ, List.map_cons, List.map_nil, List.length_cons, List.length_nil, List.replicate_succ, List.replicate_zero, List.cons_append, List.nil_append, Nat.reduceAdd, Nat.reduceSub, Nat.reduceLeDiff, Nat.zero_add, Option.map_some, if_true, Bool.false_eq_true, if_false, true_and, and_true, decide_eq_true_eq, reduceIte, reduceCtorEq]
    refine Tl.tags (xs := its) (fun _ _ => is_items) ht (by omega) (by omega) (fun h2 x2 e2 => ?_)
    simp only [wp_c, wp_var, slotK_some, wp_op, wp_un, wp_b, asB_bl, wp_tr, asT_some, wp_yes, wp_and, wp_or, wp_not, wp_caseB, wp_andV, wp_orV, wp_notV, wp_if, wp_nil, wp_cons, wp_tup, wp_lst, wp_cb, wp_call, wp_m0, wp_m1, wp_ml0, wp_ml, wp_isi, wp_isi2, wp_nopart, asI_int, wp_part, wp_sl, wp_seq, seqK_nx, seqK_rt, seqK_bk, seqK_ct, wp_next, wp_brk, wp_cont, wp_drop, wp_ret, wp_ifS, wp_set, wp_par, wp_par3, wp_asg, wp_pat, asP_some, wp_sub, asH_some, wp_aug, wp_for, wp_while, wp_lc, wp_lc2, wp_def, defK_rt, defK_nx, wp_miseq, srcK_ref, srcK_tup, srcK_str, rngK_int, wp_range1, wp_enum, enumK_ref, Tl_some, Ts_some, loopK_nx, loopK_ct, loopK_bk, loopK_rt, ixK_some, atI_k0, atI_k1, atI_k2, atI_k3, atI_k4, atI_k5, atI_k6, atI_k8, atI_k9, L2.atI_last, atI_n, g_ix_t, g_ix_s, g_ix_r, cIx_l, cIx_z, cIx_d, cIx_f, g_sub, g_lt, g_le, g_gt, g_ge, g_addi, g_addI, g_adds, g_addt, g_mul, g_muls, g_fdiv, g_mod, g_neg, g_eqs, g_nes, g_eqi, g_nei, g_min, g_max, g_int_b, g_int_i, g_is_non, g_cuts, g_cutt, g_lens, g_lent, g_lenr, cLen_l, cLen_z, g_tupt, g_tupr, cTup_l, g_listt, isLst_r, lstAt_r, cLst_l, cLst_z, tr_r, cTr_l, tr_b, g_set, cSet_l, cSet_d, jK_some, kK_some, ixN_0, ixN_1, ixN_2, isS, mwipe, mPat, mPats, List.getElem?_cons_zero, List.getElem?_cons_succ, List.set_cons_zero, List.set_cons_succ, List.map_cons, List.map_nil, List.length_cons, List.length_nil, List.replicate_succ, List.replicate_zero, List.cons_append, List.nil_append, Nat.reduceAdd, Nat.reduceSub, Nat.reduceLeDiff, Nat.zero_add, Option.map_some, if_true, Bool.false_eq_true, if_false, true_and, and_true, decide_eq_true_eq, reduceIte, reduceCtorEq, e2]
    have := lf (Str.ofString "name")
    refine ⟨sm62 ⟨by omega, by omega⟩, ?_⟩
    refine Ts.for_ (rangeW 0 (its.filter (tagIs (Str.ofString "name"))).length) (fun i s hh => Ext h hh ∧ ∃ w u2 u3 u4, s = [some (.tup its), some w, u2, u3, u4]) (fun _ _ _ _ => by rw [Int.toNat_natCast]; exact is_items) (by rw [range_len]; omega) ⟨xx.trans x2, _, _, _, _, rfl⟩ ?_ ?_
    · rintro i x s hh ex ⟨xx, w, u2, u3, u4, rfl⟩
      obtain ⟨rfl, hi⟩ := range_get ex
      simp only [wp_c, wp_var, slotK_some, wp_op, wp_un, wp_b, asB_bl, wp_tr, asT_some, wp_yes, wp_and, wp_or, wp_not, wp_caseB, wp_andV, wp_orV, wp_notV, wp_if, wp_nil, wp_cons, wp_tup, wp_lst, wp_cb, wp_call, wp_m0, wp_m1, wp_ml0, wp_ml, wp_isi, wp_isi2, wp_nopart, asI_int, wp_part, wp_sl, wp_seq, seqK_nx, seqK_rt, seqK_bk, seqK_ct, wp_next, wp_brk, wp_cont, wp_drop, wp_ret, wp_ifS, wp_set, wp_par, wp_par3, wp_asg, wp_pat, asP_some, wp_sub, asH_some, wp_aug, wp_for, wp_while, wp_lc, wp_lc2, wp_def, defK_rt, defK_nx, wp_miseq, srcK_ref, srcK_tup, srcK_str, rngK_int, wp_range1, wp_enum, enumK_ref, Tl_some, Ts_some, loopK_nx, loopK_ct, loopK_bk, loopK_rt, ixK_some, atI_k0, atI_k1, atI_k2, atI_k3, atI_k4, atI_k5, atI_k6, atI_k8, atI_k9, L2.atI_last, atI_n, g_ix_t, g_ix_s, g_ix_r, cIx_l, cIx_z, cIx_d, cIx_f, g_sub, g_lt, g_le, g_gt, g_ge, g_addi, g_addI, g_adds, g_addt, g_mul, g_muls, g_fdiv, g_mod, g_neg, g_eqs, g_nes, g_eqi, g_nei, g_min, g_max, g_int_b, g_int_i, g_is_non, g_cuts, g_cutt, g_lens, g_lent, g_lenr, cLen_l, cLen_z, g_tupt, g_tupr, cTup_l, g_listt, isLst_r, lstAt_r, cLst_l, cLst_z, tr_r, cTr_l, tr_b, g_set, cSet_l, cSet_d, jK_some, kK_some, ixN_0, ixN_1, ixN_2, isS, mwipe, mPat, mPats, List.getElem?_cons_zero, List.getElem?_cons_succ, List.set_cons_zero, List.set_cons_succ, List.map_cons, List.map_nil, List.length_cons, List.length_nil, List.replicate_succ, List.replicate_zero, List.cons_append, List.nil_append, Nat.reduceAdd, Nat.reduceSub, Nat.reduceLeDiff, Nat.zero_add, Option.map_some, if_true, Bool.false_eq_true, if_false, true_and, and_true, decide_eq_true_eq, reduceIte, reduceCtorEq]
      repeat (refine ⟨by decide, ?_⟩)
      exact ⟨xx, _, _, _, _, rfl⟩
    · rintro s hh ⟨xx, w, u2, u3, u4, rfl⟩
      simp only [wp_c, wp_var, slotK_some, wp_op, wp_un, wp_b, asB_bl, wp_tr, asT_some, wp_yes, wp_and, wp_or, wp_not, wp_caseB, wp_andV, wp_orV, wp_notV, wp_if, wp_nil, wp_cons, wp_tup, wp_lst, wp_cb, wp_call, wp_m0, wp_m1, wp_ml0, wp_ml, wp_isi, wp_isi2, wp_nopart, asI_int, wp_part, wp_sl, wp_seq, seqK_nx, seqK_rt, seqK_bk, seqK_ct, wp_next, wp_brk, wp_cont, wp_drop, wp_ret, wp_ifS, wp_set, wp_par, wp_par3, wp_asg, wp_pat, asP_some, wp_sub, asH_some, wp_aug, wp_for, wp_while, wp_lc, wp_lc2, wp_def, defK_rt, defK_nx, wp_miseq, srcK_ref, srcK_tup, srcK_str, rngK_int, wp_range1, wp_enum, enumK_ref, Tl_some, Ts_some, loopK_nx, loopK_ct, loopK_bk, loopK_rt, ixK_some, atI_k0, atI_k1, atI_k2, atI_k3, atI_k4, atI_k5, atI_k6, atI_k8, atI_k9, L2.atI_last, atI_n, g_ix_t, g_ix_s, g_ix_r, cIx_l, cIx_z, cIx_d, cIx_f, g_sub, g_lt, g_le, g_gt, g_ge, g_addi, g_addI, g_adds, g_addt, g_mul, g_muls, g_fdiv, g_mod, g_neg, g_eqs, g_nes, g_eqi, g_nei, g_min, g_max, g_int_b, g_int_i, g_is_non, g_cuts, g_cutt, g_lens, g_lent, g_lenr, cLen_l, cLen_z, g_tupt, g_tupr, cTup_l, g_listt, isLst_r, lstAt_r, cLst_l, cLst_z, tr_r, cTr_l, tr_b, g_set, cSet_l, cSet_d, jK_some, kK_some, ixN_0, ixN_1, ixN_2, isS, mwipe, mPat, mPats, List.getElem?_cons_zero, List.getElem?_cons_succ, List.set_cons_zero, List.set_cons_succ, List.map_cons, List.map_nil, List.length_cons, List.length_nil, List.replicate_succ, List.replicate_zero, List.cons_append, List.nil_append, Nat.reduceAdd, Nat.reduceSub, Nat.reduceLeDiff, Nat.zero_add, Option.map_some, if_true, Bool.false_eq_true, if_false, true_and, and_true, decide_eq_true_eq, reduceIte, reduceCtorEq]
      exact xx
/-- a form as a tongue has it -/
structure Form4 (K : Str → Prop) (hds ks : List Str) (i : Nat) (f : W) : Prop where
  eq : ∃ hd its kd mn, f = .tup [.str hd, .tup its, .str kd, mn] ∧ hds[i]? = some hd ∧ ks[i % ks.length]? = some kd ∧ ItsOk K its ∧ (i < ks.length → its = [litW])
theorem lit_its {K : Str → Prop} : ItsOk K [litW] := ⟨by decide, by decide, by decide, fun i x e => by
  cases i with
  | zero => cases e; exact .inl rfl
  | succ i => simp at e⟩
theorem tongue_spec {n b kd hd : Nat} {h : MH} {K : Str → Prop} {ks hds : List Str} {nm : Str} (hn : 100 ≤ n) (hb : IsBox h b) (hk : h[kd]? = some (.lst (ks.map .str))) (hkb : kd ≠ b) (k0 : 0 < ks.length) (k1 : ks.length ≤ 10) (hK : ∀ k ∈ ks, K k)
    (hh : h[hd]? = some (.lst (hds.map .str))) (hhb : hd ≠ b) (hhl : hds.length ≤ 10) :
    Tl (f__law_tongue n [.ref b, .str nm, .ref kd, .ref hd] h) fun w h' => Bx b h h' ∧ ∃ x4 x5 x6 fs, w = .tup [.str "tongue", .str nm, .str "ground", x4, x5, x6, .tup fs] ∧ fs.length = hds.length ∧ ∀ (i : Nat) (f : W), fs[i]? = some f → Form4 K hds ks i f := by
  unfold f__law_tongue B__law_tongue
  simp only [wp_c, wp_var, slotK_some, wp_op, wp_un, wp_b, asB_bl, wp_tr, asT_some, wp_yes, wp_and, wp_or, wp_not, wp_caseB, wp_andV, wp_orV, wp_notV, wp_if, wp_nil, wp_cons, wp_tup, wp_lst, wp_cb, wp_call, wp_m0, wp_m1, wp_ml0, wp_ml, wp_isi, wp_isi2, wp_nopart, asI_int, wp_part, wp_sl, wp_seq, seqK_nx, seqK_rt, seqK_bk, seqK_ct, wp_next, wp_brk, wp_cont, wp_drop, wp_ret, wp_ifS, wp_set, wp_par, wp_par3, wp_asg, wp_pat, asP_some, wp_sub, asH_some, wp_aug, wp_for, wp_while, wp_lc, wp_lc2, wp_def, defK_rt, defK_nx, wp_miseq, srcK_ref, srcK_tup, srcK_str, rngK_int, wp_range1, wp_enum, enumK_ref, Tl_some, Ts_some, loopK_nx, loopK_ct, loopK_bk, loopK_rt, ixK_some, atI_k0, atI_k1, atI_k2, atI_k3, atI_k4, atI_k5, atI_k6, atI_k8, atI_k9, L2.atI_last, atI_n, g_ix_t, g_ix_s, g_ix_r, cIx_l, cIx_z, cIx_d, cIx_f, g_sub, g_lt, g_le, g_gt, g_ge, g_addi, g_addI, g_adds, g_addt, g_mul, g_muls, g_fdiv, g_mod, g_neg, g_eqs, g_nes, g_eqi, g_nei, g_min, g_max, g_int_b, g_int_i, g_is_non, g_cuts, g_cutt, g_lens, g_lent, g_lenr, cLen_l, cLen_z, g_tupt, g_tupr, cTup_l, g_listt, isLst_r, lstAt_r, cLst_l, cLst_z, tr_r, cTr_l, tr_b, g_set, cSet_l, cSet_d, jK_some, kK_some, ixN_0, ixN_1, ixN_2, isS, mwipe, mPat, mPats, List.getElem?_cons_zero, List.getElem?_cons_succ, List.set_cons_zero, List.set_cons_succ, List.map_cons, List.map_nil, List.length_cons, List.length_nil, List.replicate_succ, List.replicate_zero, List.cons_append, List.nil_append, Nat.reduceAdd, Nat.reduceSub, Nat.reduceLeDiff, Nat.zero_add, Option.map_some, if_true, Bool.false_eq_true, if_false, true_and, and_true, decide_eq_true_eq, reduceIte, reduceCtorEq]
  refine Tl.newL (by decide) fun h1 x1 l1 e1 => ?_
  have hbl := hb.lt
  have hh1 := x1.get hh
  simp only [wp_c, wp_var, slotK_some, wp_op, wp_un, wp_b, asB_bl, wp_tr, asT_some, wp_yes, wp_and, wp_or, wp_not, wp_caseB, wp_andV, wp_orV, wp_notV, wp_if, wp_nil, wp_cons, wp_tup, wp_lst, wp_cb, wp_call, wp_m0, wp_m1, wp_ml0, wp_ml, wp_isi, wp_isi2, wp_nopart, asI_int, wp_part, wp_sl, wp_seq, seqK_nx, seqK_rt, seqK_bk, seqK_ct, wp_next, wp_brk, wp_cont, wp_drop, wp_ret, wp_ifS, wp_set, wp_par, wp_par3, wp_asg, wp_pat, asP_some, wp_sub, asH_some, wp_aug, wp_for, wp_while, wp_lc, wp_lc2, wp_def, defK_rt, defK_nx, wp_miseq, srcK_ref, srcK_tup, srcK_str, rngK_int, wp_range1, wp_enum, enumK_ref, Tl_some, Ts_some, loopK_nx, loopK_ct, loopK_bk, loopK_rt, ixK_some, atI_k0, atI_k1, atI_k2, atI_k3, atI_k4, atI_k5, atI_k6, atI_k8, atI_k9, L2.atI_last, atI_n, g_ix_t, g_ix_s, g_ix_r, cIx_l, cIx_z, cIx_d, cIx_f, g_sub, g_lt, g_le, g_gt, g_ge, g_addi, g_addI, g_adds, g_addt, g_mul, g_muls, g_fdiv, g_mod, g_neg, g_eqs, g_nes, g_eqi, g_nei, g_min, g_max, g_int_b, g_int_i, g_is_non, g_cuts, g_cutt, g_lens, g_lent, g_lenr, cLen_l, cLen_z, g_tupt, g_tupr, cTup_l, g_listt, isLst_r, lstAt_r, cLst_l, cLst_z, tr_r, cTr_l, tr_b, g_set, cSet_l, cSet_d, jK_some, kK_some, ixN_0, ixN_1, ixN_2, isS, mwipe, mPat, mPats, List.getElem?_cons_zero, List.getElem?_cons_succ, List.set_cons_zero, List.set_cons_succ, List.map_cons, List.map_nil, List.length_cons, List.length_nil, List.replicate_succ, List.replicate_zero, List.cons_append, List.nil_append, Nat.reduceAdd, Nat.reduceSub, Nat.reduceLeDiff, Nat.zero_add, Option.map_some, if_true, Bool.false_eq_true, if_false, true_and, and_true, decide_eq_true_eq, reduceIte, reduceCtorEq, hh1]
  refine Ts.for_ (enumW 0 (hds.map .str)) (fun i s g => ∃ fs u5 u6 u7 u8, s = [some (.ref b), some (.str nm), some (.ref kd), some (.ref hd), some (.ref h.length), u5, u6, u7, u8] ∧ Bx b h g ∧ g[h.length]? = some (.lst fs) ∧ fs.length = i ∧ ∀ (i : Nat) (f : W), fs[i]? = some f → Form4 K hds ks i f)
    (fun i s g ⟨fs, _, _, _, _, _, B, _⟩ => is_enum (B.get hh hhb)) (by rw [enumW_length, List.length_map]; omega) ⟨[], _, _, _, _, rfl, x1.toBx hb, e1, rfl, by simp⟩ ?_ ?_
  · rintro i x s g ex ⟨fs, u5, u6, u7, u8, rfl, B, eF, lf, hf⟩
    rw [enumW_get, List.getElem?_map] at ex
    cases q : hds[i]? with
    | none => rw [q] at ex; cases ex
    | some z =>
      rw [q] at ex
      simp only [Option.map_some, Option.some.injEq] at ex
      subst ex
      have hi := lt_of_get q
      have eK := B.get hk hkb
      simp only [wp_c, wp_var, slotK_some, wp_op, wp_un, wp_b, asB_bl, wp_tr, asT_some, wp_yes, wp_and, wp_or, wp_not, wp_caseB, wp_andV, wp_orV, wp_notV, wp_if, wp_nil, wp_cons, wp_tup, wp_lst, wp_cb, wp_call, wp_m0, wp_m1, wp_ml0, wp_ml, wp_isi, wp_isi2, wp_nopart, asI_int, wp_part, wp_sl, wp_seq, seqK_nx, seqK_rt, seqK_bk, seqK_ct, wp_next, wp_brk, wp_cont, wp_drop, wp_ret, wp_ifS, wp_set, wp_par, wp_par3, wp_asg, wp_pat, asP_some, wp_sub, asH_some, wp_aug, wp_for, wp_while, wp_lc, wp_lc2, wp_def, defK_rt, defK_nx, wp_miseq, srcK_ref, srcK_tup, srcK_str, rngK_int, wp_range1, wp_enum, enumK_ref, Tl_some, Ts_some, loopK_nx, loopK_ct, loopK_bk, loopK_rt, ixK_some, atI_k0, atI_k1, atI_k2, atI_k3, atI_k4, atI_k5, atI_k6, atI_k8, atI_k9, L2.atI_last, atI_n, g_ix_t, g_ix_s, g_ix_r, cIx_l, cIx_z, cIx_d, cIx_f, g_sub, g_lt, g_le, g_gt, g_ge, g_addi, g_addI, g_adds, g_addt, g_mul, g_muls, g_fdiv, g_mod, g_neg, g_eqs, g_nes, g_eqi, g_nei, g_min, g_max, g_int_b, g_int_i, g_is_non, g_cuts, g_cutt, g_lens, g_lent, g_lenr, cLen_l, cLen_z, g_tupt, g_tupr, cTup_l, g_listt, isLst_r, lstAt_r, cLst_l, cLst_z, tr_r, cTr_l, tr_b, g_set, cSet_l, cSet_d, jK_some, kK_some, ixN_0, ixN_1, ixN_2, isS, mwipe, mPat, mPats, List.getElem?_cons_zero, List.getElem?_cons_succ, List.set_cons_zero, List.set_cons_succ, List.map_cons, List.map_nil, List.length_cons, List.length_nil, List.replicate_succ, List.replicate_zero, List.cons_append, List.nil_append, Nat.reduceAdd, Nat.reduceSub, Nat.reduceLeDiff, Nat.zero_add, Option.map_some, if_true, Bool.false_eq_true, if_false, true_and, and_true, decide_eq_true_eq, reduceIte, reduceCtorEq, eK, List.length_map]
      repeat (refine ⟨by decide, ?_⟩)
      by_cases c : (ks.length : Int) ≤ (i : Int)
      · rw [if_pos c]
        refine (items_spec hn B.box eK hkb k0 k1 hK).by ?_
        rintro _ g1 ⟨its, rfl, B1, hits⟩
        have hlit : i < ks.length → its = [litW] := fun z => by omega
        have eK1 := B1.get eK hkb
        have eF1 := B1.get eF (by omega)
        have hm : i % ks.length < ks.length := Nat.mod_lt _ k0
        have ea : L2.atI (ks.map W.str) ((i : Int) % (ks.length : Int)) = some (.str ks[i % ks.length]) := by
          rw [show ((i : Int) % (ks.length : Int)) = ((i % ks.length : Nat) : Int) from (Int.natCast_emod i ks.length).symm, atI_n, List.getElem?_map, List.getElem?_eq_getElem hm]; rfl
        simp only [wp_c, wp_var, slotK_some, wp_op, wp_un, wp_b, asB_bl, wp_tr, asT_some, wp_yes, wp_and, wp_or, wp_not, wp_caseB, wp_andV, wp_orV, wp_notV, wp_if, wp_nil, wp_cons, wp_tup, wp_lst, wp_cb, wp_call, wp_m0, wp_m1, wp_ml0, wp_ml, wp_isi, wp_isi2, wp_nopart, asI_int, wp_part, wp_sl, wp_seq, seqK_nx, seqK_rt, seqK_bk, seqK_ct, wp_next, wp_brk, wp_cont, wp_drop, wp_ret, wp_ifS, wp_set, wp_par, wp_par3, wp_asg, wp_pat, asP_some, wp_sub, asH_some, wp_aug, wp_for, wp_while, wp_lc, wp_lc2, wp_def, defK_rt, defK_nx, wp_miseq, srcK_ref, srcK_tup, srcK_str, rngK_int, wp_range1, wp_enum, enumK_ref, Tl_some, Ts_some, loopK_nx, loopK_ct, loopK_bk, loopK_rt, ixK_some, atI_k0, atI_k1, atI_k2, atI_k3, atI_k4, atI_k5, atI_k6, atI_k8, atI_k9, L2.atI_last, atI_n, g_ix_t, g_ix_s, g_ix_r, cIx_l, cIx_z, cIx_d, cIx_f, g_sub, g_lt, g_le, g_gt, g_ge, g_addi, g_addI, g_adds, g_addt, g_mul, g_muls, g_fdiv, g_mod, g_neg, g_eqs, g_nes, g_eqi, g_nei, g_min, g_max, g_int_b, g_int_i, g_is_non, g_cuts, g_cutt, g_lens, g_lent, g_lenr, cLen_l, cLen_z, g_tupt, g_tupr, cTup_l, g_listt, isLst_r, lstAt_r, cLst_l, cLst_z, tr_r, cTr_l, tr_b, g_set, cSet_l, cSet_d, jK_some, kK_some, ixN_0, ixN_1, ixN_2, isS, mwipe, mPat, mPats, List.getElem?_cons_zero, List.getElem?_cons_succ, List.set_cons_zero, List.set_cons_succ, List.map_cons, List.map_nil, List.length_cons, List.length_nil, List.replicate_succ, List.replicate_zero, List.cons_append, List.nil_append, Nat.reduceAdd, Nat.reduceSub, Nat.reduceLeDiff, Nat.zero_add, Option.map_some, if_true, Bool.false_eq_true, if_false, true_and, and_true, decide_eq_true_eq, reduceIte, reduceCtorEq, eK1, eF1, List.length_map, ea]
        refine (fun z => (⟨by omega, z⟩ : (0 : Int) < ks.length ∧ _)) ?_
        refine (meant_spec hn hits.tagd hits.len).by fun mn g2 x2 => ?_
        refine Tl.app (x2.get eF1) (by omega) fun g3 c3 e3 => ?_
        refine ⟨fs ++ [_], _, _, _, _, rfl, (B.trans (B1.ext x2)).chg c3 (Nat.le_refl _) (by omega), e3, by simp [lf], fun j f hj => ?_⟩
        rcases get_snoc hj with q1 | ⟨q1, q2⟩
        · exact hf j f q1
        · rw [q1, lf]
          exact ⟨_, its, _, mn, q2, q, by rw [List.getElem?_eq_getElem hm], hits, hlit⟩
      · rw [if_neg c]
        have hits : ItsOk K [litW] := lit_its
        obtain ⟨its, rfl⟩ : ∃ its, its = [litW] := ⟨_, rfl⟩
        have hlit : i < ks.length → [litW] = [litW] := fun _ => rfl
        have B1 : Bx b g g := Bx.refl B.box
        have eK1 := B1.get eK hkb
        have eF1 := B1.get eF (by omega)
        have hm : i % ks.length < ks.length := Nat.mod_lt _ k0
        have ea : L2.atI (ks.map W.str) ((i : Int) % (ks.length : Int)) = some (.str ks[i % ks.length]) := by
          rw [show ((i : Int) % (ks.length : Int)) = ((i % ks.length : Nat) : Int) from (Int.natCast_emod i ks.length).symm, atI_n, List.getElem?_map, List.getElem?_eq_getElem hm]; rfl
        simp only [wp_c, wp_var, slotK_some, wp_op, wp_un, wp_b, asB_bl, wp_tr, asT_some, wp_yes, wp_and, wp_or, wp_not, wp_caseB, wp_andV, wp_orV, wp_notV, wp_if, wp_nil, wp_cons, wp_tup, wp_lst, wp_cb, wp_call, wp_m0, wp_m1, wp_ml0, wp_ml, wp_isi, wp_isi2, wp_nopart, asI_int, wp_part, wp_sl, wp_seq, seqK_nx, seqK_rt, seqK_bk, seqK_ct, wp_next, wp_brk, wp_cont, wp_drop, wp_ret, wp_ifS, wp_set, wp_par, wp_par3, wp_asg, wp_pat, asP_some, wp_sub, asH_some, wp_aug, wp_for, wp_while, wp_lc, wp_lc2, wp_def, defK_rt, defK_nx, wp_miseq, srcK_ref, srcK_tup, srcK_str, rngK_int, wp_range1, wp_enum, enumK_ref, Tl_some, Ts_some, loopK_nx, loopK_ct, loopK_bk, loopK_rt, ixK_some, atI_k0, atI_k1, atI_k2, atI_k3, atI_k4, atI_k5, atI_k6, atI_k8, atI_k9, L2.atI_last, atI_n, g_ix_t, g_ix_s, g_ix_r, cIx_l, cIx_z, cIx_d, cIx_f, g_sub, g_lt, g_le, g_gt, g_ge, g_addi, g_addI, g_adds, g_addt, g_mul, g_muls, g_fdiv, g_mod, g_neg, g_eqs, g_nes, g_eqi, g_nei, g_min, g_max, g_int_b, g_int_i, g_is_non, g_cuts, g_cutt, g_lens, g_lent, g_lenr, cLen_l, cLen_z, g_tupt, g_tupr, cTup_l, g_listt, isLst_r, lstAt_r, cLst_l, cLst_z, tr_r, cTr_l, tr_b, g_set, cSet_l, cSet_d, jK_some, kK_some, ixN_0, ixN_1, ixN_2, isS, mwipe, mPat, mPats, List.getElem?_cons_zero, List.getElem?_cons_succ, List.set_cons_zero, List.set_cons_succ, List.map_cons, List.map_nil, List.length_cons, List.length_nil, List.replicate_succ, List.replicate_zero, List.cons_append, List.nil_append, Nat.reduceAdd, Nat.reduceSub, Nat.reduceLeDiff, Nat.zero_add, Option.map_some, if_true, Bool.false_eq_true, if_false, true_and, and_true, decide_eq_true_eq, reduceIte, reduceCtorEq, eK1, eF1, List.length_map, ea]
        refine (fun z => (⟨by omega, z⟩ : (0 : Int) < ks.length ∧ _)) ?_
        refine (meant_spec hn hits.tagd hits.len).by fun mn g2 x2 => ?_
        refine Tl.app (x2.get eF1) (by omega) fun g3 c3 e3 => ?_
        refine ⟨fs ++ [_], _, _, _, _, rfl, (B.trans (B1.ext x2)).chg c3 (Nat.le_refl _) (by omega), e3, by simp [lf], fun j f hj => ?_⟩
        rcases get_snoc hj with q1 | ⟨q1, q2⟩
        · exact hf j f q1
        · rw [q1, lf]
          exact ⟨_, [litW], _, mn, q2, q, by rw [List.getElem?_eq_getElem hm], hits, hlit⟩
  · rintro s g ⟨fs, u5, u6, u7, u8, rfl, B, eF, lf, hf⟩
    rw [enumW_length, List.length_map] at lf
    have eK := B.get hk hkb
    simp only [wp_c, wp_var, slotK_some, wp_op, wp_un, wp_b, asB_bl, wp_tr, asT_some, wp_yes, wp_and, wp_or, wp_not, wp_caseB, wp_andV, wp_orV, wp_notV, wp_if, wp_nil, wp_cons, wp_tup, wp_lst, wp_cb, wp_call, wp_m0, wp_m1, wp_ml0, wp_ml, wp_isi, wp_isi2, wp_nopart, asI_int, wp_part, wp_sl, wp_seq, seqK_nx, seqK_rt, seqK_bk, seqK_ct, wp_next, wp_brk, wp_cont, wp_drop, wp_ret, wp_ifS, wp_set, wp_par, wp_par3, wp_asg, wp_pat, asP_some, wp_sub, asH_some, wp_aug, wp_for, wp_while, wp_lc, wp_lc2, wp_def, defK_rt, defK_nx, wp_miseq, srcK_ref, srcK_tup, srcK_str, rngK_int, wp_range1, wp_enum, enumK_ref, Tl_some, Ts_some, loopK_nx, loopK_ct, loopK_bk, loopK_rt, ixK_some, atI_k0, atI_k1, atI_k2, atI_k3, atI_k4, atI_k5, atI_k6, atI_k8, atI_k9, L2.atI_last, atI_n, g_ix_t, g_ix_s, g_ix_r, cIx_l, cIx_z, cIx_d, cIx_f, g_sub, g_lt, g_le, g_gt, g_ge, g_addi, g_addI, g_adds, g_addt, g_mul, g_muls, g_fdiv, g_mod, g_neg, g_eqs, g_nes, g_eqi, g_nei, g_min, g_max, g_int_b, g_int_i, g_is_non, g_cuts, g_cutt, g_lens, g_lent, g_lenr, cLen_l, cLen_z, g_tupt, g_tupr, cTup_l, g_listt, isLst_r, lstAt_r, cLst_l, cLst_z, tr_r, cTr_l, tr_b, g_set, cSet_l, cSet_d, jK_some, kK_some, ixN_0, ixN_1, ixN_2, isS, mwipe, mPat, mPats, List.getElem?_cons_zero, List.getElem?_cons_succ, List.set_cons_zero, List.set_cons_succ, List.map_cons, List.map_nil, List.length_cons, List.length_nil, List.replicate_succ, List.replicate_zero, List.cons_append, List.nil_append, Nat.reduceAdd, Nat.reduceSub, Nat.reduceLeDiff, Nat.zero_add, Option.map_some, if_true, Bool.false_eq_true, if_false, true_and, and_true, decide_eq_true_eq, reduceIte, reduceCtorEq, eK]
    refine Tl.lc_e (xs := ks.map .str) (fun _ => true) (fun x => .tup [x, .str "num"]) (fun _ x => is_cell (x.get eK)) (by rw [List.length_map]; omega) (by rw [List.length_map]; omega) ?_ ?_
    · intro x hx g1 x1
      refine ⟨_, rfl, ?_⟩
      simp only [wp_c, wp_var, slotK_some, wp_op, wp_un, wp_b, asB_bl, wp_tr, asT_some, wp_yes, wp_and, wp_or, wp_not, wp_caseB, wp_andV, wp_orV, wp_notV, wp_if, wp_nil, wp_cons, wp_tup, wp_lst, wp_cb, wp_call, wp_m0, wp_m1, wp_ml0, wp_ml, wp_isi, wp_isi2, wp_nopart, asI_int, wp_part, wp_sl, wp_seq, seqK_nx, seqK_rt, seqK_bk, seqK_ct, wp_next, wp_brk, wp_cont, wp_drop, wp_ret, wp_ifS, wp_set, wp_par, wp_par3, wp_asg, wp_pat, asP_some, wp_sub, asH_some, wp_aug, wp_for, wp_while, wp_lc, wp_lc2, wp_def, defK_rt, defK_nx, wp_miseq, srcK_ref, srcK_tup, srcK_str, rngK_int, wp_range1, wp_enum, enumK_ref, Tl_some, Ts_some, loopK_nx, loopK_ct, loopK_bk, loopK_rt, ixK_some, atI_k0, atI_k1, atI_k2, atI_k3, atI_k4, atI_k5, atI_k6, atI_k8, atI_k9, L2.atI_last, atI_n, g_ix_t, g_ix_s, g_ix_r, cIx_l, cIx_z, cIx_d, cIx_f, g_sub, g_lt, g_le, g_gt, g_ge, g_addi, g_addI, g_adds, g_addt, g_mul, g_muls, g_fdiv, g_mod, g_neg, g_eqs, g_nes, g_eqi, g_nei, g_min, g_max, g_int_b, g_int_i, g_is_non, g_cuts, g_cutt, g_lens, g_lent, g_lenr, cLen_l, cLen_z, g_tupt, g_tupr, cTup_l, g_listt, isLst_r, lstAt_r, cLst_l, cLst_z, tr_r, cTr_l, tr_b, g_set, cSet_l, cSet_d, jK_some, kK_some, ixN_0, ixN_1, ixN_2, isS, mwipe, mPat, mPats, List.getElem?_cons_zero, List.getElem?_cons_succ, List.set_cons_zero, List.set_cons_succ, List.map_cons, List.map_nil, List.length_cons, List.length_nil, List.replicate_succ, List.replicate_zero, List.cons_append, List.nil_append, Nat.reduceAdd, Nat.reduceSub, Nat.reduceLeDiff, Nat.zero_add, Option.map_some, if_true, Bool.false_eq_true, if_false, true_and, and_true, decide_eq_true_eq, reduceIte, reduceCtorEq]
      simp [Ext.refl]
    · intro g1 x1 e1
      have eF1 := x1.get eF
      simp only [wp_c, wp_var, slotK_some, wp_op, wp_un, wp_b, asB_bl, wp_tr, asT_some, wp_yes, wp_and, wp_or, wp_not, wp_caseB, wp_andV, wp_orV, wp_notV, wp_if, wp_nil, wp_cons, wp_tup, wp_lst, wp_cb, wp_call, wp_m0, wp_m1, wp_ml0, wp_ml, wp_isi, wp_isi2, wp_nopart, asI_int, wp_part, wp_sl, wp_seq, seqK_nx, seqK_rt, seqK_bk, seqK_ct, wp_next, wp_brk, wp_cont, wp_drop, wp_ret, wp_ifS, wp_set, wp_par, wp_par3, wp_asg, wp_pat, asP_some, wp_sub, asH_some, wp_aug, wp_for, wp_while, wp_lc, wp_lc2, wp_def, defK_rt, defK_nx, wp_miseq, srcK_ref, srcK_tup, srcK_str, rngK_int, wp_range1, wp_enum, enumK_ref, Tl_some, Ts_some, loopK_nx, loopK_ct, loopK_bk, loopK_rt, ixK_some, atI_k0, atI_k1, atI_k2, atI_k3, atI_k4, atI_k5, atI_k6, atI_k8, atI_k9, L2.atI_last, atI_n, g_ix_t, g_ix_s, g_ix_r, cIx_l, cIx_z, cIx_d, cIx_f, g_sub, g_lt, g_le, g_gt, g_ge, g_addi, g_addI, g_adds, g_addt, g_mul, g_muls, g_fdiv, g_mod, g_neg, g_eqs, g_nes, g_eqi, g_nei, g_min, g_max, g_int_b, g_int_i, g_is_non, g_cuts, g_cutt, g_lens, g_lent, g_lenr, cLen_l, cLen_z, g_tupt, g_tupr, cTup_l, g_listt, isLst_r, lstAt_r, cLst_l, cLst_z, tr_r, cTr_l, tr_b, g_set, cSet_l, cSet_d, jK_some, kK_some, ixN_0, ixN_1, ixN_2, isS, mwipe, mPat, mPats, List.getElem?_cons_zero, List.getElem?_cons_succ, List.set_cons_zero, List.set_cons_succ, List.map_cons, List.map_nil, List.length_cons, List.length_nil, List.replicate_succ, List.replicate_zero, List.cons_append, List.nil_append, Nat.reduceAdd, Nat.reduceSub, Nat.reduceLeDiff, Nat.zero_add, Option.map_some, if_true, Bool.false_eq_true, if_false, true_and, and_true, decide_eq_true_eq, reduceIte, reduceCtorEq, e1, eF1]
      repeat (refine ⟨by decide, ?_⟩)
      exact ⟨B.ext x1, _, _, _, fs, rfl, lf, hf⟩
end K03

namespace K03
open PySem PySem.Spec PyProof.Rows L2 Mi
/-- all cells but some stand -/
structure Fr (A : Nat → Prop) (h h' : MH) : Prop where
  len : h.length ≤ h'.length
  keep : ∀ i, i < h.length → ¬ A i → h'[i]? = h[i]?
theorem Fr.get {A : Nat → Prop} {h h' : MH} {i : Nat} {c : Cell} (f : Fr A h h') (e : h[i]? = some c) (hi : ¬ A i) : h'[i]? = some c := by rw [f.keep i (lt_of_get e) hi, e]
theorem Fr.trans {A : Nat → Prop} {a b c : MH} (x : Fr A a b) (y : Fr A b c) : Fr A a c := ⟨Nat.le_trans x.len y.len, fun i hi ha => (y.keep i (Nat.lt_of_lt_of_le hi x.len) ha).trans (x.keep i hi ha)⟩
theorem Fr.ext {A : Nat → Prop} {a b : MH} (x : Ext a b) : Fr A a b := ⟨x.len, fun i hi _ => x.keep i hi⟩
theorem Fr.bx {A : Nat → Prop} {b : Nat} {x y : MH} (B : Bx b x y) (hA : A b) : Fr A x y := ⟨B.len, fun i hi ha => B.keep i hi fun z => ha (z ▸ hA)⟩
theorem Fr.chg {A : Nat → Prop} {d : Nat} {x y : MH} (B : Chg d x y) (hA : A d) : Fr A x y := ⟨by rw [B.len]; exact Nat.le_refl _, fun i hi ha => B.keep i fun z => ha (z ▸ hA)⟩
/-- a function that may be called -/
structure CallOk (A : Nat → Prop) (h : MH) (ks : List Str) (c : W) (hd : Str) (r : Nat) (kl : List Str) (kd : Str) : Prop where
  eq : c = .tup [.str hd, .ref r, .str kd]
  hs : PyData.strOk hd = true
  dot : occurs "." hd = true
  kd : kd ∈ ks
  ra : ¬ A r
  at_ : h[r]? = some (.lst (kl.map .str))
  l0 : 0 < kl.length
  l1 : kl.length ≤ 3
  kl : ∀ k ∈ kl, k ∈ ks
theorem CallOk.fr {A : Nat → Prop} {h h' : MH} {ks : List Str} {c : W} {hd : Str} {r : Nat} {kl : List Str} {kd : Str} (x : CallOk A h ks c hd r kl kd) (f : Fr A h h') : CallOk A h' ks c hd r kl kd := { x with at_ := f.get x.at_ x.ra }
def IsCall (A : Nat → Prop) (h : MH) (ks : List Str) (c : W) : Prop := ∃ hd r kl kd, CallOk A h ks c hd r kl kd
/-- a form without terms, of a kind -/
def Base (ks : List Str) (fs : List W) (k : Str) : Prop := ∃ hd its, (W.tup [.str hd, .tup its, .str k]) ∈ fs ∧ cnt "term" its = 0
structure TongueAt (A : Nat → Prop) (h : MH) (fd cd : List (Key × W)) (t : Str) (ks : List Str) : Prop where
  k0 : 0 < ks.length
  kok : ∀ k ∈ ks, PyData.strOk k = true
  forms : ∃ i fs, getW fd (.inr t) = some (.ref i) ∧ ¬ A i ∧ h[i]? = some (.lst fs) ∧ fs.length ≤ 20 ∧ (∀ f ∈ fs, IsForm (· ∈ ks) f) ∧ ∀ k ∈ ks, Base ks fs k
  calls : ∃ j cs, getW cd (.inr t) = some (.ref j) ∧ ¬ A j ∧ h[j]? = some (.lst cs) ∧ cs.length ≤ 20 ∧ ∀ c ∈ cs, IsCall A h ks c
theorem TongueAt.fr {A : Nat → Prop} {h h' : MH} {fd cd : List (Key × W)} {t : Str} {ks : List Str} (x : TongueAt A h fd cd t ks) (f : Fr A h h') : TongueAt A h' fd cd t ks := by
  obtain ⟨i, fs, e1, a1, e2, l1, f1, f2⟩ := x.forms
  obtain ⟨j, cs, e3, a2, e4, l2, c1⟩ := x.calls
  refine ⟨x.k0, x.kok, ⟨i, fs, e1, a1, f.get e2 a1, l1, f1, f2⟩, ⟨j, cs, e3, a2, f.get e4 a2, l2, fun c hc => ?_⟩⟩
  obtain ⟨hd, r, kl, kd, q⟩ := c1 c hc
  exact ⟨hd, r, kl, kd, q.fr f⟩
theorem TongueAt.sub {A A' : Nat → Prop} (s : ∀ i, A' i → A i) {h : MH} {fd cd : List (Key × W)} {t : Str} {ks : List Str} (x : TongueAt A h fd cd t ks) : TongueAt A' h fd cd t ks := by
  obtain ⟨i, fs, e1, a1, e2, l1, f1, f2⟩ := x.forms
  obtain ⟨j, cs, e3, a2, e4, l2, c1⟩ := x.calls
  refine ⟨x.k0, x.kok, ⟨i, fs, e1, fun z => a1 (s i z), e2, l1, f1, f2⟩, ⟨j, cs, e3, fun z => a2 (s j z), e4, l2, fun c hc => ?_⟩⟩
  obtain ⟨hd, r, kl, kd, q⟩ := c1 c hc
  exact ⟨hd, r, kl, kd, { q with ra := fun z => q.ra (s r z) }⟩
def pairsOf (l : List (Str × Str)) : List W := l.map fun p => .tup [.str p.1, .str p.2]
structure KnownAt (A : Nat → Prop) (h : MH) (kd : List (Key × W)) (t : Str) (ks : List Str) : Prop where
  at_ : ∃ i l, getW kd (.inr t) = some (.ref i) ∧ ¬ A i ∧ h[i]? = some (.lst (pairsOf l)) ∧ l.length = 4 ∧ ∀ p ∈ l, PyData.strOk p.1 = true ∧ p.2 ∈ ks
theorem KnownAt.fr {A : Nat → Prop} {h h' : MH} {kd : List (Key × W)} {t : Str} {ks : List Str} (x : KnownAt A h kd t ks) (f : Fr A h h') : KnownAt A h' kd t ks := by
  obtain ⟨i, l, e1, a1, e2, r⟩ := x.at_
  exact ⟨i, l, e1, a1, f.get e2 a1, r⟩
theorem KnownAt.sub {A A' : Nat → Prop} (s : ∀ i, A' i → A i) {h : MH} {kd : List (Key × W)} {t : Str} {ks : List Str} (x : KnownAt A h kd t ks) : KnownAt A' h kd t ks := by
  obtain ⟨i, l, e1, a1, e2, r⟩ := x.at_
  exact ⟨i, l, e1, fun z => a1 (s i z), e2, r⟩
/-- the drawn world -/
structure World (b : Nat) (h : MH) (wd : Nat) : Prop where
  at_ : ∃ (F C N O Kn : Nat) (D fd cd kd : List (Key × W)) (pool : List Str) (x0 x1 : Str), PyData.strOk x0 = true ∧ PyData.strOk x1 = true ∧ wd ≠ b ∧ F ≠ b ∧ C ≠ b ∧ N ≠ b ∧ O ≠ b ∧ Kn ≠ b ∧ h[wd]? = some (.dic D) ∧
    getW D (.inr "forms") = some (.ref F) ∧ getW D (.inr "calls") = some (.ref C) ∧ getW D (.inr "known") = some (.ref Kn) ∧ getW D (.inr "names") = some (.ref N) ∧ getW D (.inr "own") = some (.ref O) ∧
    h[F]? = some (.dic fd) ∧ h[C]? = some (.dic cd) ∧ h[Kn]? = some (.dic kd) ∧ h[N]? = some (.lst (pool.map .str)) ∧ h[O]? = some (.lst [.str x0, .str x1]) ∧
    pool.length = 6 ∧ (∀ p ∈ pool, PyData.strOk p = true) ∧ (∃ p q, p ∈ pool ∧ q ∈ pool ∧ p ≠ q) ∧
    (∃ ks, TongueAt (· = b) h fd cd x0 ks ∧ KnownAt (· = b) h kd x0 ks) ∧ (∃ ks, TongueAt (· = b) h fd cd x1 ks ∧ KnownAt (· = b) h kd x1 ks) ∧ ∃ ks, TongueAt (· = b) h fd cd "ground" ks
theorem World.bx {b : Nat} {h h' : MH} {wd : Nat} (w : World b h wd) (B : Bx b h h') : World b h' wd := by
  obtain ⟨F, C, N, O, Kn, D, fd, cd, kd, pool, x0, x1, y0, y1, n1, n2, n3, n4, n5, n6, e1, g1, g2, g3, g4, g5, e2, e3, e4, e5, e6, l, p, u, ⟨k0, t0, q0⟩, ⟨k1, t1, q1⟩, k2, t2⟩ := w.at_
  have f : Fr (· = b) h h' := Fr.bx B rfl
  exact ⟨F, C, N, O, Kn, D, fd, cd, kd, pool, x0, x1, y0, y1, n1, n2, n3, n4, n5, n6, B.get e1 n1, g1, g2, g3, g4, g5, B.get e2 n2, B.get e3 n3, B.get e4 n6, B.get e5 n4, B.get e6 n5, l, p, u, ⟨k0, t0.fr f, q0.fr f⟩, ⟨k1, t1.fr f, q1.fr f⟩, k2, t2.fr f⟩
/-! signs of heads -/
def caps : Str := "ABCDEFGHIJKLMNOPQRSTUVWXYZ"
theorem caps_all : ∀ c ∈ caps.cps.toList, 65 ≤ c ∧ c < 91 := by decide +kernel
theorem cap_at {i : Int} (h0 : -26 ≤ i) (h1 : i < 26) : ∃ c, L2.atI caps.cps.toList i = some c ∧ 65 ≤ c ∧ c < 91 := by
  have hl : caps.cps.toList.length = 26 := by decide +kernel
  by_cases q : 0 ≤ i
  · obtain ⟨c, e1, e2⟩ := Mi.atI_get (xs := caps.cps.toList) q (by rw [hl]; omega)
    exact ⟨c, e1, caps_all c (List.mem_of_getElem? e2)⟩
  · have hj : (i + 26).toNat < caps.cps.toList.length := by rw [hl]; omega
    refine ⟨caps.cps.toList[(i + 26).toNat], ?_, caps_all _ (List.getElem_mem hj)⟩
    unfold L2.atI ixN
    rw [if_neg q, hl, if_pos (by omega)]
    simp only [Option.bind]
    rw [show (i + (26 : Nat)).toNat = (i + 26).toNat from rfl]
    exact List.getElem?_eq_getElem hj
/-- capital letters, at most two -/
def CapT (z : Str) : Prop := GoodT 2 z ∧ ∀ c ∈ z.cps.toList, 65 ≤ c ∧ c < 91
theorem occurs_one (c : Nat) (g : Str) : occurs ⟨#[c]⟩ g = decide (c ∈ g.cps.toList) := StrLaws.found_one g c
theorem dot_one : Str.ofString "." = ⟨#[46]⟩ := by with_unfolding_all rfl
theorem CapT.dot {z : Str} (h : CapT z) : occurs "." z = false := by
  rw [dot_one, occurs_one, decide_eq_false_iff_not]
  intro q
  have := h.2 46 q
  omega
theorem dot_mid {x y : Str} : occurs "." (x ++ "." ++ y) = true := by
  rw [dot_one, occurs_one, decide_eq_true_eq]
  have : (x ++ ⟨#[46]⟩ ++ y).cps = x.cps ++ #[46] ++ y.cps := rfl
  rw [this]; simp
theorem repS_k {c : Nat} (h : 65 ≤ c ∧ c < 91) (k : Nat) (hk : k < 2) : ∃ z, repS ⟨#[c]⟩ (k : Int) = z ∧ GoodT 1 z ∧ ∀ d ∈ z.cps.toList, 65 ≤ d ∧ d < 91 := by
  have : k = 0 ∨ k = 1 := by omega
  rcases this with rfl | rfl
  · refine ⟨_, rfl, ⟨by simp [repS, Str.empty, Str.length], ?_⟩, ?_⟩ <;> intro d hd <;> simp [repS, Str.empty] at hd
  · have e : repS ⟨#[c]⟩ ((1 : Nat) : Int) = ⟨#[c]⟩ := by simp [repS]
    rw [e]
    exact ⟨_, rfl, good1 (by omega), fun d hd => by
      have : d = c := by simpa using hd
      omega⟩
end K03

namespace K03
open PySem PySem.Spec PyProof.Rows L2 Mi
theorem num_ok : PyData.strOk "num" = true := by decide +kernel
theorem it_one : ∀ m, ItOk (· ∈ [Str.ofString "num"]) m one := fun m => .inr (.inr (.inr ⟨_, _, rfl, by simp, by decide, by simp⟩))
theorem it_nm : ∀ m, ItOk (· ∈ [Str.ofString "num"]) m nmW := fun m => .inr (.inr (.inl ⟨_, rfl, by simp⟩))
theorem it_open : ∀ m, 0 < m → ItOk (· ∈ [Str.ofString "num"]) m opened := fun m h => .inr (.inr (.inr ⟨_, _, rfl, by simp, by decide, fun o ho => ⟨0, by simpa using ho, h⟩⟩))
theorem it_lit {K : Str → Prop} : ∀ m, ItOk K m litW := fun m => .inl rfl
theorem gform {hd : Str} {its : List W} (h1 : PyData.strOk hd = true) (h2 : occurs "." hd = false) (h3 : ItsOk (· ∈ [Str.ofString "num"]) its) : IsForm (· ∈ [Str.ofString "num"]) (gRow hd its) := ⟨hd, its, "num", rfl, h1, h2, by simp, h3⟩
theorem its2 : ItsOk (· ∈ [Str.ofString "num"]) [one, one] := ⟨by decide, by decide, by decide, fun i x e => by
  rcases i with _ | _ | i <;> simp at e <;> subst e <;> exact it_one _⟩
theorem its3 : ItsOk (· ∈ [Str.ofString "num"]) [one, one, one] := ⟨by decide, by decide, by decide, fun i x e => by
  rcases i with _ | _ | _ | i <;> simp at e <;> subst e <;> exact it_one _⟩
theorem itsL : ItsOk (· ∈ [Str.ofString "num"]) [nmW, one, opened] := ⟨by decide, by decide, by decide, fun i x e => by
  rcases i with _ | _ | _ | i <;> simp at e <;> subst e
  · exact it_nm _
  · exact it_one _
  · exact it_open _ (by decide)⟩
theorem itsP : ItsOk (· ∈ [Str.ofString "num"]) [one, nmW, one, opened] := ⟨by decide, by decide, by decide, fun i x e => by
  rcases i with _ | _ | _ | _ | i <;> simp at e <;> subst e
  · exact it_one _
  · exact it_nm _
  · exact it_one _
  · exact it_open _ (by decide)⟩
theorem GF_ok : ∀ f ∈ GF, IsForm (· ∈ [Str.ofString "num"]) f := fun f hf => by
  simp only [GF, List.mem_cons, List.not_mem_nil, or_false] at hf
  rcases hf with rfl | rfl | rfl | rfl | rfl | rfl | rfl | rfl | rfl | rfl | rfl
  · exact gform (by decide +kernel) (by decide +kernel) lit_its
  · exact gform (by decide +kernel) (by decide +kernel) its2
  · exact gform (by decide +kernel) (by decide +kernel) its2
  · exact gform (by decide +kernel) (by decide +kernel) its2
  · exact gform (by decide +kernel) (by decide +kernel) its2
  · exact gform (by decide +kernel) (by decide +kernel) its2
  · exact gform (by decide +kernel) (by decide +kernel) its2
  · exact gform (by decide +kernel) (by decide +kernel) its3
  · exact gform (by decide +kernel) (by decide +kernel) its2
  · exact gform (by decide +kernel) (by decide +kernel) itsL
  · exact gform (by decide +kernel) (by decide +kernel) itsP
theorem cut_map {xs : List Str} {lo hi : Nat} (h : lo ≤ hi) (hl : hi ≤ xs.length) : ∃ ks : List Str, cutW (xs.map W.str) (some (lo : Int)) (some (hi : Int)) = ks.map .str ∧ ks.length = hi - lo ∧ (∀ k ∈ ks, k ∈ xs) ∧ ks = (xs.drop lo).take (hi - lo) := by
  refine ⟨(xs.drop lo).take (hi - lo), ?_, ?_, fun k hk => List.mem_of_mem_drop (List.mem_of_mem_take hk), rfl⟩
  · unfold cutW
    rw [HT.sIx_nat, HT.sIx_nat, List.length_map, Nat.min_eq_left (by omega), Nat.min_eq_left (by omega), List.map_take, List.map_drop]
  · rw [List.length_take, List.length_drop]; omega
theorem nameAt_ok {L i : Nat} {x : Str} (h : NameAt L i x) : PyData.strOk x = true := h.1.ok
theorem str_map_at {xs : List Str} {i : Int} (h0 : 0 ≤ i) (h1 : i < xs.length) : ∃ z, L2.atI (xs.map W.str) i = some (.str z) ∧ xs[i.toNat]? = some z := by
  obtain ⟨w, e1, e2⟩ := Mi.atI_get (xs := xs.map W.str) h0 (by rw [List.length_map]; exact h1)
  rw [List.getElem?_map] at e2
  cases q : xs[i.toNat]? with
  | none => rw [q] at e2; cases e2
  | some z => rw [q] at e2; cases e2; exact ⟨z, e1, rfl⟩
def Bad (b T F C Kn i : Nat) : Prop := i = b ∨ i = T ∨ i = F ∨ i = C ∨ i = Kn
structure WInv (b : Nat) (h : MH) (NM T F C Kn : Nat) (xs : List Str) (i : Nat) (hh : MH) (tw : List W) (fd cd kd : List (Key × W)) : Prop where
  B : Bx b h hh
  eN : hh[NM]? = some (.lst (xs.map .str))
  eT : hh[T]? = some (.lst tw)
  eF : hh[F]? = some (.dic fd)
  eC : hh[C]? = some (.dic cd)
  eK : hh[Kn]? = some (.dic kd)
  lt : tw.length ≤ 2 * i
  lf : fd.length ≤ 1 + i
  lc : cd.length ≤ 1 + i
  lk : kd.length ≤ i
  gr : ∃ ks, TongueAt (Bad b T F C Kn) hh fd cd "ground" ks
  at_ : ∀ j, j < i → ∃ x ks, xs[j]? = some x ∧ TongueAt (Bad b T F C Kn) hh fd cd x ks ∧ KnownAt (Bad b T F C Kn) hh kd x ks
theorem TongueAt.put {A : Nat → Prop} {h : MH} {fd cd : List (Key × W)} {t x : Str} {ks : List Str} {w w' : W} (q : TongueAt A h fd cd t ks) (ne : x ≠ t) : TongueAt A h (putW fd (.inr x) w) (putW cd (.inr x) w') t ks := by
  have e : ∀ kvs v, getW (putW kvs (.inr x) v) (.inr t) = getW kvs (.inr t) := fun kvs v => by
    rw [getW_put, if_neg]; simpa using ne
  obtain ⟨i, fs, e1, r⟩ := q.forms
  obtain ⟨j, cs, e3, r2⟩ := q.calls
  exact ⟨q.k0, q.kok, ⟨i, fs, by rw [e]; exact e1, r⟩, ⟨j, cs, by rw [e]; exact e3, r2⟩⟩
theorem KnownAt.put {A : Nat → Prop} {h : MH} {kd : List (Key × W)} {t x : Str} {ks : List Str} {w : W} (q : KnownAt A h kd t ks) (ne : x ≠ t) : KnownAt A h (putW kd (.inr x) w) t ks := by
  obtain ⟨i, l, e1, r⟩ := q.at_
  exact ⟨i, l, by rw [getW_put, if_neg (by simpa using ne)]; exact e1, r⟩
def cut3 : W → W
  | .tup xs => .tup (cutW xs none (some 3))
  | x => x
theorem new_forms {ks hs : List Str} {fs : List W} (hk : 0 < ks.length) (hkl : ks.length ≤ hs.length) (lfs : fs.length = hs.length) (hfs : ∀ (i : Nat) (f : W), fs[i]? = some f → Form4 (fun x => x ∈ ks) hs ks i f) (hhs : ∀ z ∈ hs, CapT z) :
    (∀ f ∈ fs.map cut3, IsForm (· ∈ ks) f) ∧ ∀ k ∈ ks, Base ks (fs.map cut3) k := by
  constructor
  · intro f hf
    obtain ⟨g, hg, rfl⟩ := List.mem_map.mp hf
    obtain ⟨j, hj, e⟩ := List.getElem_of_mem hg
    obtain ⟨⟨hd, its, kd, mn, rfl, q1, q2, q3, _⟩⟩ := hfs j g (by rw [← e]; exact List.getElem?_eq_getElem hj)
    have c := hhs hd (List.mem_of_getElem? q1)
    exact ⟨hd, its, kd, rfl, c.1.ok, c.dot, List.mem_of_getElem? q2, q3⟩
  · intro k hk
    obtain ⟨j, hj, e⟩ := List.getElem_of_mem hk
    have hjf : j < fs.length := by omega
    obtain ⟨⟨hd, its, kd, mn, q0, q1, q2, q3, q4⟩⟩ := hfs j fs[j] (List.getElem?_eq_getElem hjf)
    rw [Nat.mod_eq_of_lt hj, List.getElem?_eq_getElem hj, e] at q2
    cases q2
    refine ⟨hd, its, List.mem_map.mpr ⟨fs[j], List.getElem_mem hjf, by rw [q0]; rfl⟩, ?_⟩
    rw [q4 hj]; rfl
theorem pairs_of {G : Str → Str → Prop} : ∀ {ys : List W}, (∀ y ∈ ys, ∃ p q, y = .tup [.str p, .str q] ∧ G p q) → ∃ l : List (Str × Str), ys = pairsOf l ∧ ∀ p ∈ l, G p.1 p.2
  | [], _ => ⟨[], rfl, by simp⟩
  | y :: ys, h => by
    obtain ⟨p, q, e, g⟩ := h y (by simp)
    obtain ⟨l, e2, g2⟩ := pairs_of (ys := ys) fun y hy => h y (by simp [hy])
    exact ⟨(p, q) :: l, by rw [e, e2]; rfl, fun x hx => by
      rcases List.mem_cons.mp hx with rfl | hx
      · exact g
      · exact g2 x hx⟩
theorem pairs_len {l : List (Str × Str)} : (pairsOf l).length = l.length := by simp [pairsOf]
theorem world_spec {n b : Nat} {h : MH} (hn : 100 ≤ n) (hb : IsBox h b) : Tl (f__law_world n [.ref b] h) fun w h' => ∃ wd : Nat, w = .ref wd ∧ Bx b h h' ∧ h.length ≤ wd ∧ World b h' wd := by
  unfold f__law_world B__law_world
  try simp only [wp_c, wp_var, slotK_some, wp_op, wp_un, wp_b, asB_bl, wp_tr, asT_some, wp_yes, wp_and, wp_or, wp_not, wp_caseB, wp_andV, wp_orV, wp_notV, wp_if, wp_nil, wp_cons, wp_tup, wp_lst, wp_cb, wp_call, wp_m0, wp_m1, wp_ml0, wp_ml, wp_isi, wp_isi2, wp_nopart, asI_int, wp_part, wp_sl, wp_seq, seqK_nx, seqK_rt, seqK_bk, seqK_ct, wp_next, wp_brk, wp_cont, wp_drop, wp_ret, wp_ifS, wp_set, wp_par, wp_par3, wp_asg, wp_pat, asP_some, wp_sub, asH_some, wp_aug, wp_for, wp_while, wp_lc, wp_lc2, wp_def, defK_rt, defK_nx, wp_miseq, srcK_ref, srcK_tup, srcK_str, rngK_int, wp_range1, wp_enum, enumK_ref, Tl_some, Ts_some, loopK_nx, loopK_ct, loopK_bk, loopK_rt, ixK_some, atI_k0, atI_k1, atI_k2, atI_k3, atI_k4, atI_k5, atI_k6, atI_k8, atI_k9, L2.atI_last, atI_n, g_ix_t, g_ix_s, g_ix_r, cIx_l, cIx_z, cIx_d, cIx_f, g_sub, g_lt, g_le, g_gt, g_ge, g_addi, g_addI, g_adds, g_addt, g_mul, g_muls, g_fdiv, g_mod, g_neg, g_eqs, g_nes, g_eqi, g_nei, g_min, g_max, g_int_b, g_int_i, g_is_non, g_cuts, g_cutt, g_lens, g_lent, g_lenr, cLen_l, cLen_z, g_tupt, g_tupr, cTup_l, g_listt, isLst_r, lstAt_r, cLst_l, cLst_z, tr_r, cTr_l, tr_b, g_set, cSet_l, cSet_d, jK_some, kK_some, ixN_0, ixN_1, ixN_2, isS, mwipe, mPat, mPats, List.getElem?_cons_zero, List.getElem?_cons_succ, List.set_cons_zero, List.set_cons_succ, List.map_cons, List.map_nil, List.length_cons, List.length_nil, List.replicate_succ, List.replicate_zero, List.cons_append, List.nil_append, Nat.reduceAdd, Nat.reduceSub, Nat.reduceLeDiff, Nat.zero_add, Option.map_some, if_true, Bool.false_eq_true, if_false, true_and, and_true, decide_eq_true_eq, reduceIte, reduceCtorEq]
  refine (show Tl (f__law_names n [.ref b, .int 18] h) _ from names_spec (m := 18) hn hb (by omega)).by ?_
  rintro _ h1 ⟨NM, xs, L, rfl, B1, lNM, eNM, lxs, lL, hxs⟩
  try simp only [wp_c, wp_var, slotK_some, wp_op, wp_un, wp_b, asB_bl, wp_tr, asT_some, wp_yes, wp_and, wp_or, wp_not, wp_caseB, wp_andV, wp_orV, wp_notV, wp_if, wp_nil, wp_cons, wp_tup, wp_lst, wp_cb, wp_call, wp_m0, wp_m1, wp_ml0, wp_ml, wp_isi, wp_isi2, wp_nopart, asI_int, wp_part, wp_sl, wp_seq, seqK_nx, seqK_rt, seqK_bk, seqK_ct, wp_next, wp_brk, wp_cont, wp_drop, wp_ret, wp_ifS, wp_set, wp_par, wp_par3, wp_asg, wp_pat, asP_some, wp_sub, asH_some, wp_aug, wp_for, wp_while, wp_lc, wp_lc2, wp_def, defK_rt, defK_nx, wp_miseq, srcK_ref, srcK_tup, srcK_str, rngK_int, wp_range1, wp_enum, enumK_ref, Tl_some, Ts_some, loopK_nx, loopK_ct, loopK_bk, loopK_rt, ixK_some, atI_k0, atI_k1, atI_k2, atI_k3, atI_k4, atI_k5, atI_k6, atI_k8, atI_k9, L2.atI_last, atI_n, g_ix_t, g_ix_s, g_ix_r, cIx_l, cIx_z, cIx_d, cIx_f, g_sub, g_lt, g_le, g_gt, g_ge, g_addi, g_addI, g_adds, g_addt, g_mul, g_muls, g_fdiv, g_mod, g_neg, g_eqs, g_nes, g_eqi, g_nei, g_min, g_max, g_int_b, g_int_i, g_is_non, g_cuts, g_cutt, g_lens, g_lent, g_lenr, cLen_l, cLen_z, g_tupt, g_tupr, cTup_l, g_listt, isLst_r, lstAt_r, cLst_l, cLst_z, tr_r, cTr_l, tr_b, g_set, cSet_l, cSet_d, jK_some, kK_some, ixN_0, ixN_1, ixN_2, isS, mwipe, mPat, mPats, List.getElem?_cons_zero, List.getElem?_cons_succ, List.set_cons_zero, List.set_cons_succ, List.map_cons, List.map_nil, List.length_cons, List.length_nil, List.replicate_succ, List.replicate_zero, List.cons_append, List.nil_append, Nat.reduceAdd, Nat.reduceSub, Nat.reduceLeDiff, Nat.zero_add, Option.map_some, if_true, Bool.false_eq_true, if_false, true_and, and_true, decide_eq_true_eq, reduceIte, reduceCtorEq]
  repeat (refine ⟨by decide, ?_⟩)
  refine (take_spec B1.box (by decide) (by decide)).by ?_
  rintro _ h2 ⟨first, rfl, f0, f1, B2⟩
  try simp only [wp_c, wp_var, slotK_some, wp_op, wp_un, wp_b, asB_bl, wp_tr, asT_some, wp_yes, wp_and, wp_or, wp_not, wp_caseB, wp_andV, wp_orV, wp_notV, wp_if, wp_nil, wp_cons, wp_tup, wp_lst, wp_cb, wp_call, wp_m0, wp_m1, wp_ml0, wp_ml, wp_isi, wp_isi2, wp_nopart, asI_int, wp_part, wp_sl, wp_seq, seqK_nx, seqK_rt, seqK_bk, seqK_ct, wp_next, wp_brk, wp_cont, wp_drop, wp_ret, wp_ifS, wp_set, wp_par, wp_par3, wp_asg, wp_pat, asP_some, wp_sub, asH_some, wp_aug, wp_for, wp_while, wp_lc, wp_lc2, wp_def, defK_rt, defK_nx, wp_miseq, srcK_ref, srcK_tup, srcK_str, rngK_int, wp_range1, wp_enum, enumK_ref, Tl_some, Ts_some, loopK_nx, loopK_ct, loopK_bk, loopK_rt, ixK_some, atI_k0, atI_k1, atI_k2, atI_k3, atI_k4, atI_k5, atI_k6, atI_k8, atI_k9, L2.atI_last, atI_n, g_ix_t, g_ix_s, g_ix_r, cIx_l, cIx_z, cIx_d, cIx_f, g_sub, g_lt, g_le, g_gt, g_ge, g_addi, g_addI, g_adds, g_addt, g_mul, g_muls, g_fdiv, g_mod, g_neg, g_eqs, g_nes, g_eqi, g_nei, g_min, g_max, g_int_b, g_int_i, g_is_non, g_cuts, g_cutt, g_lens, g_lent, g_lenr, cLen_l, cLen_z, g_tupt, g_tupr, cTup_l, g_listt, isLst_r, lstAt_r, cLst_l, cLst_z, tr_r, cTr_l, tr_b, g_set, cSet_l, cSet_d, jK_some, kK_some, ixN_0, ixN_1, ixN_2, isS, mwipe, mPat, mPats, List.getElem?_cons_zero, List.getElem?_cons_succ, List.set_cons_zero, List.set_cons_succ, List.map_cons, List.map_nil, List.length_cons, List.length_nil, List.replicate_succ, List.replicate_zero, List.cons_append, List.nil_append, Nat.reduceAdd, Nat.reduceSub, Nat.reduceLeDiff, Nat.zero_add, Option.map_some, if_true, Bool.false_eq_true, if_false, true_and, and_true, decide_eq_true_eq, reduceIte, reduceCtorEq]
  refine Tl.newL (by decide) fun h3 x3 l3 e3 => ?_
  refine Tl.disp fun h4 x4 l4 e4 => ?_
  try simp only [wp_prs, wp_prs0, keyW_str, keyK_some, wp_c, wp_var, slotK_some, wp_op, wp_un, wp_b, asB_bl, wp_tr, asT_some, wp_yes, wp_and, wp_or, wp_not, wp_caseB, wp_andV, wp_orV, wp_notV, wp_if, wp_nil, wp_cons, wp_tup, wp_lst, wp_cb, wp_call, wp_m0, wp_m1, wp_ml0, wp_ml, wp_isi, wp_isi2, wp_nopart, asI_int, wp_part, wp_sl, wp_seq, seqK_nx, seqK_rt, seqK_bk, seqK_ct, wp_next, wp_brk, wp_cont, wp_drop, wp_ret, wp_ifS, wp_set, wp_par, wp_par3, wp_asg, wp_pat, asP_some, wp_sub, asH_some, wp_aug, wp_for, wp_while, wp_lc, wp_lc2, wp_def, defK_rt, defK_nx, wp_miseq, srcK_ref, srcK_tup, srcK_str, rngK_int, wp_range1, wp_enum, enumK_ref, Tl_some, Ts_some, loopK_nx, loopK_ct, loopK_bk, loopK_rt, ixK_some, atI_k0, atI_k1, atI_k2, atI_k3, atI_k4, atI_k5, atI_k6, atI_k8, atI_k9, L2.atI_last, atI_n, g_ix_t, g_ix_s, g_ix_r, cIx_l, cIx_z, cIx_d, cIx_f, g_sub, g_lt, g_le, g_gt, g_ge, g_addi, g_addI, g_adds, g_addt, g_mul, g_muls, g_fdiv, g_mod, g_neg, g_eqs, g_nes, g_eqi, g_nei, g_min, g_max, g_int_b, g_int_i, g_is_non, g_cuts, g_cutt, g_lens, g_lent, g_lenr, cLen_l, cLen_z, g_tupt, g_tupr, cTup_l, g_listt, isLst_r, lstAt_r, cLst_l, cLst_z, tr_r, cTr_l, tr_b, g_set, cSet_l, cSet_d, jK_some, kK_some, ixN_0, ixN_1, ixN_2, isS, mwipe, mPat, mPats, List.getElem?_cons_zero, List.getElem?_cons_succ, List.set_cons_zero, List.set_cons_succ, List.map_cons, List.map_nil, List.length_cons, List.length_nil, List.replicate_succ, List.replicate_zero, List.cons_append, List.nil_append, Nat.reduceAdd, Nat.reduceSub, Nat.reduceLeDiff, Nat.zero_add, Option.map_some, if_true, Bool.false_eq_true, if_false, true_and, and_true, decide_eq_true_eq, reduceIte, reduceCtorEq]
  refine (ground_forms_spec hn).by ?_
  rintro _ h5 ⟨p, rfl, x5, lp, e5⟩
  refine ⟨x5.get e4, fun h6 c6 e6 => ?_⟩
  refine Tl.disp fun h7 x7 l7 e7 => ?_
  try simp only [wp_prs, wp_prs0, keyW_str, keyK_some, wp_c, wp_var, slotK_some, wp_op, wp_un, wp_b, asB_bl, wp_tr, asT_some, wp_yes, wp_and, wp_or, wp_not, wp_caseB, wp_andV, wp_orV, wp_notV, wp_if, wp_nil, wp_cons, wp_tup, wp_lst, wp_cb, wp_call, wp_m0, wp_m1, wp_ml0, wp_ml, wp_isi, wp_isi2, wp_nopart, asI_int, wp_part, wp_sl, wp_seq, seqK_nx, seqK_rt, seqK_bk, seqK_ct, wp_next, wp_brk, wp_cont, wp_drop, wp_ret, wp_ifS, wp_set, wp_par, wp_par3, wp_asg, wp_pat, asP_some, wp_sub, asH_some, wp_aug, wp_for, wp_while, wp_lc, wp_lc2, wp_def, defK_rt, defK_nx, wp_miseq, srcK_ref, srcK_tup, srcK_str, rngK_int, wp_range1, wp_enum, enumK_ref, Tl_some, Ts_some, loopK_nx, loopK_ct, loopK_bk, loopK_rt, ixK_some, atI_k0, atI_k1, atI_k2, atI_k3, atI_k4, atI_k5, atI_k6, atI_k8, atI_k9, L2.atI_last, atI_n, g_ix_t, g_ix_s, g_ix_r, cIx_l, cIx_z, cIx_d, cIx_f, g_sub, g_lt, g_le, g_gt, g_ge, g_addi, g_addI, g_adds, g_addt, g_mul, g_muls, g_fdiv, g_mod, g_neg, g_eqs, g_nes, g_eqi, g_nei, g_min, g_max, g_int_b, g_int_i, g_is_non, g_cuts, g_cutt, g_lens, g_lent, g_lenr, cLen_l, cLen_z, g_tupt, g_tupr, cTup_l, g_listt, isLst_r, lstAt_r, cLst_l, cLst_z, tr_r, cTr_l, tr_b, g_set, cSet_l, cSet_d, jK_some, kK_some, ixN_0, ixN_1, ixN_2, isS, mwipe, mPat, mPats, List.getElem?_cons_zero, List.getElem?_cons_succ, List.set_cons_zero, List.set_cons_succ, List.map_cons, List.map_nil, List.length_cons, List.length_nil, List.replicate_succ, List.replicate_zero, List.cons_append, List.nil_append, Nat.reduceAdd, Nat.reduceSub, Nat.reduceLeDiff, Nat.zero_add, Option.map_some, if_true, Bool.false_eq_true, if_false, true_and, and_true, decide_eq_true_eq, reduceIte, reduceCtorEq]
  refine Tl.newL (by decide) fun h8 x8 l8 e8 => ?_
  refine ⟨x8.get e7, fun h9 c9 e9 => ?_⟩
  refine Tl.dnew fun h10 x10 l10 e10 => ?_
  try simp only [wp_c, wp_var, slotK_some, wp_op, wp_un, wp_b, asB_bl, wp_tr, asT_some, wp_yes, wp_and, wp_or, wp_not, wp_caseB, wp_andV, wp_orV, wp_notV, wp_if, wp_nil, wp_cons, wp_tup, wp_lst, wp_cb, wp_call, wp_m0, wp_m1, wp_ml0, wp_ml, wp_isi, wp_isi2, wp_nopart, asI_int, wp_part, wp_sl, wp_seq, seqK_nx, seqK_rt, seqK_bk, seqK_ct, wp_next, wp_brk, wp_cont, wp_drop, wp_ret, wp_ifS, wp_set, wp_par, wp_par3, wp_asg, wp_pat, asP_some, wp_sub, asH_some, wp_aug, wp_for, wp_while, wp_lc, wp_lc2, wp_def, defK_rt, defK_nx, wp_miseq, srcK_ref, srcK_tup, srcK_str, rngK_int, wp_range1, wp_enum, enumK_ref, Tl_some, Ts_some, loopK_nx, loopK_ct, loopK_bk, loopK_rt, ixK_some, atI_k0, atI_k1, atI_k2, atI_k3, atI_k4, atI_k5, atI_k6, atI_k8, atI_k9, L2.atI_last, atI_n, g_ix_t, g_ix_s, g_ix_r, cIx_l, cIx_z, cIx_d, cIx_f, g_sub, g_lt, g_le, g_gt, g_ge, g_addi, g_addI, g_adds, g_addt, g_mul, g_muls, g_fdiv, g_mod, g_neg, g_eqs, g_nes, g_eqi, g_nei, g_min, g_max, g_int_b, g_int_i, g_is_non, g_cuts, g_cutt, g_lens, g_lent, g_lenr, cLen_l, cLen_z, g_tupt, g_tupr, cTup_l, g_listt, isLst_r, lstAt_r, cLst_l, cLst_z, tr_r, cTr_l, tr_b, g_set, cSet_l, cSet_d, jK_some, kK_some, ixN_0, ixN_1, ixN_2, isS, mwipe, mPat, mPats, List.getElem?_cons_zero, List.getElem?_cons_succ, List.set_cons_zero, List.set_cons_succ, List.map_cons, List.map_nil, List.length_cons, List.length_nil, List.replicate_succ, List.replicate_zero, List.cons_append, List.nil_append, Nat.reduceAdd, Nat.reduceSub, Nat.reduceLeDiff, Nat.zero_add, Option.map_some, if_true, Bool.false_eq_true, if_false, true_and, and_true, decide_eq_true_eq, reduceIte, reduceCtorEq]
  repeat (refine ⟨by decide, ?_⟩)
  have l5 := x5.len
  have l6 := c6.len
  have l7' := x7.len
  have l8' := x8.len
  have l9 := c9.len
  have lb := hb.lt
  have l1 := B1.len
  have l2 := B2.len
  have lp5 := lt_of_get e5
  have lN := lt_of_get eNM
  refine Ts.for_ (rangeW 0 (Int.toNat 2)) (fun i s hh => ∃ tw fd cd kd u1 u2 u10 u11 u12 u13 u14 u15 u16, s = [some (.ref b), u1, u2, some (.ref NM), some (.str "ABCDEFGHIJKLMNOPQRSTUVWXYZ"), some (.int first), some (.ref h2.length), some (.ref h3.length), some (.ref h6.length), some (.ref h9.length), u10, u11, u12, u13, u14, u15, u16] ∧ WInv b h NM h2.length h3.length h6.length h9.length xs i hh tw fd cd kd)
    (fun _ _ _ _ => is_items) (by rw [range_len]; show 2 < n; omega) ?_ ?_ ?_
  · refine ⟨[], mergeW [] [((.inr "ground" : Key), .ref p)], mergeW [] [((.inr "ground" : Key), .ref h7.length)], [], _, _, _, _, _, _, _, _, _, rfl, ?_⟩
    have E6 : Ext h6 h10 := ((x7.trans x8).chg c9 (Nat.le_refl _)).trans x10
    have E3 : Ext h3 h10 := ((x4.trans x5).chg c6 (Nat.le_refl _)).trans E6
    have D1 : Bx b h1 h10 := (B2.ext x3).ext E3
    refine ⟨B1.trans D1, D1.get eNM (by omega), E3.get e3, E6.get e6, x10.get e9, e10, by simp, by simp [merge_cons, merge_nil, putW], by simp [merge_cons, merge_nil, putW], by simp, ⟨[Str.ofString "num"], by simp, by simpa using num_ok, ?_, ?_⟩, fun j hj => absurd hj (Nat.not_lt_zero _)⟩
    · refine ⟨p, GF, by simp [merge_cons, merge_nil, getW_put], ?_, E6.get (c6.get e5 (by omega)), by decide, GF_ok, fun k hk => ?_⟩
      · unfold Bad; omega
      · have : k = Str.ofString "num" := by simpa using hk
        subst this
        exact ⟨"NUM", [litW], by simp [GF, gRow], by decide⟩
    · refine ⟨h7.length, [], by simp [merge_cons, merge_nil, getW_put], ?_, x10.get (c9.get e8 (by omega)), by simp, by simp⟩
      unfold Bad; omega
  · rintro i x s hh ex ⟨tw, fd, cd, kd, u1, u2, u10, u11, u12, u13, u14, u15, u16, rfl, I⟩
    obtain ⟨rfl, hi⟩ := range_get ex
    have hi2 : i < 2 := hi
    simp only [wp_c, wp_var, slotK_some, wp_op, wp_un, wp_b, asB_bl, wp_tr, asT_some, wp_yes, wp_and, wp_or, wp_not, wp_caseB, wp_andV, wp_orV, wp_notV, wp_if, wp_nil, wp_cons, wp_tup, wp_lst, wp_cb, wp_call, wp_m0, wp_m1, wp_ml0, wp_ml, wp_isi, wp_isi2, wp_nopart, asI_int, wp_part, wp_sl, wp_seq, seqK_nx, seqK_rt, seqK_bk, seqK_ct, wp_next, wp_brk, wp_cont, wp_drop, wp_ret, wp_ifS, wp_set, wp_par, wp_par3, wp_asg, wp_pat, asP_some, wp_sub, asH_some, wp_aug, wp_for, wp_while, wp_lc, wp_lc2, wp_def, defK_rt, defK_nx, wp_miseq, srcK_ref, srcK_tup, srcK_str, rngK_int, wp_range1, wp_enum, enumK_ref, Tl_some, Ts_some, loopK_nx, loopK_ct, loopK_bk, loopK_rt, ixK_some, atI_k0, atI_k1, atI_k2, atI_k3, atI_k4, atI_k5, atI_k6, atI_k8, atI_k9, L2.atI_last, atI_n, g_ix_t, g_ix_s, g_ix_r, cIx_l, cIx_z, cIx_d, cIx_f, g_sub, g_lt, g_le, g_gt, g_ge, g_addi, g_addI, g_adds, g_addt, g_mul, g_muls, g_fdiv, g_mod, g_neg, g_eqs, g_nes, g_eqi, g_nei, g_min, g_max, g_int_b, g_int_i, g_is_non, g_cuts, g_cutt, g_lens, g_lent, g_lenr, cLen_l, cLen_z, g_tupt, g_tupr, cTup_l, g_listt, isLst_r, lstAt_r, cLst_l, cLst_z, tr_r, cTr_l, tr_b, g_set, cSet_l, cSet_d, jK_some, kK_some, ixN_0, ixN_1, ixN_2, isS, mwipe, mPat, mPats, List.getElem?_cons_zero, List.getElem?_cons_succ, List.set_cons_zero, List.set_cons_succ, List.map_cons, List.map_nil, List.length_cons, List.length_nil, List.replicate_succ, List.replicate_zero, List.cons_append, List.nil_append, Nat.reduceAdd, Nat.reduceSub, Nat.reduceLeDiff, Nat.zero_add, Option.map_some, if_true, Bool.false_eq_true, if_false, true_and, and_true, decide_eq_true_eq, reduceIte, reduceCtorEq, I.eN, I.eT]
    refine ⟨cMl (by decide), cMl (by decide), ?_⟩
    refine (take_spec I.B.box (by decide) (by decide)).by ?_
    rintro _ g1 ⟨d, rfl, d0, d1, C1⟩
    simp only [wp_c, wp_var, slotK_some, wp_op, wp_un, wp_b, asB_bl, wp_tr, asT_some, wp_yes, wp_and, wp_or, wp_not, wp_caseB, wp_andV, wp_orV, wp_notV, wp_if, wp_nil, wp_cons, wp_tup, wp_lst, wp_cb, wp_call, wp_m0, wp_m1, wp_ml0, wp_ml, wp_isi, wp_isi2, wp_nopart, asI_int, wp_part, wp_sl, wp_seq, seqK_nx, seqK_rt, seqK_bk, seqK_ct, wp_next, wp_brk, wp_cont, wp_drop, wp_ret, wp_ifS, wp_set, wp_par, wp_par3, wp_asg, wp_pat, asP_some, wp_sub, asH_some, wp_aug, wp_for, wp_while, wp_lc, wp_lc2, wp_def, defK_rt, defK_nx, wp_miseq, srcK_ref, srcK_tup, srcK_str, rngK_int, wp_range1, wp_enum, enumK_ref, Tl_some, Ts_some, loopK_nx, loopK_ct, loopK_bk, loopK_rt, ixK_some, atI_k0, atI_k1, atI_k2, atI_k3, atI_k4, atI_k5, atI_k6, atI_k8, atI_k9, L2.atI_last, atI_n, g_ix_t, g_ix_s, g_ix_r, cIx_l, cIx_z, cIx_d, cIx_f, g_sub, g_lt, g_le, g_gt, g_ge, g_addi, g_addI, g_adds, g_addt, g_mul, g_muls, g_fdiv, g_mod, g_neg, g_eqs, g_nes, g_eqi, g_nei, g_min, g_max, g_int_b, g_int_i, g_is_non, g_cuts, g_cutt, g_lens, g_lent, g_lenr, cLen_l, cLen_z, g_tupt, g_tupr, cTup_l, g_listt, isLst_r, lstAt_r, cLst_l, cLst_z, tr_r, cTr_l, tr_b, g_set, cSet_l, cSet_d, jK_some, kK_some, ixN_0, ixN_1, ixN_2, isS, mwipe, mPat, mPats, List.getElem?_cons_zero, List.getElem?_cons_succ, List.set_cons_zero, List.set_cons_succ, List.map_cons, List.map_nil, List.length_cons, List.length_nil, List.replicate_succ, List.replicate_zero, List.cons_append, List.nil_append, Nat.reduceAdd, Nat.reduceSub, Nat.reduceLeDiff, Nat.zero_add, Option.map_some, if_true, Bool.false_eq_true, if_false, true_and, and_true, decide_eq_true_eq, reduceIte, reduceCtorEq]
    obtain ⟨ks, eks, lks, mks, dks⟩ := cut_map (xs := xs) (lo := 2 + 2 * i) (hi := 3 + 2 * i + d.toNat) (by omega) (by omega)
    refine Tl.cutl (C1.get I.eN (by omega)) (by rw [List.length_map]; omega) fun g2 y2 m2 a2 => ?_
    rw [show (2 + 2 * (i : Int)) = ((2 + 2 * i : Nat) : Int) by omega, show (3 + 2 * (i : Int) + d) = ((3 + 2 * i + d.toNat : Nat) : Int) by omega, eks] at a2
    repeat (refine ⟨by decide, ?_⟩)
    have lb' := I.B.box.lt
    have Cg2 : Bx b hh g2 := C1.ext y2
    refine (take_spec Cg2.box (by decide) (by decide)).by ?_
    rintro _ g3 ⟨d2, rfl, e0, e1, C3⟩
    have C3' := y2.bx C3
    have Cg3 : Bx b hh g3 := Cg2.trans C3
    try simp only [wp_c, wp_var, slotK_some, wp_op, wp_un, wp_b, asB_bl, wp_tr, asT_some, wp_yes, wp_and, wp_or, wp_not, wp_caseB, wp_andV, wp_orV, wp_notV, wp_if, wp_nil, wp_cons, wp_tup, wp_lst, wp_cb, wp_call, wp_m0, wp_m1, wp_ml0, wp_ml, wp_isi, wp_isi2, wp_nopart, asI_int, wp_part, wp_sl, wp_seq, seqK_nx, seqK_rt, seqK_bk, seqK_ct, wp_next, wp_brk, wp_cont, wp_drop, wp_ret, wp_ifS, wp_set, wp_par, wp_par3, wp_asg, wp_pat, asP_some, wp_sub, asH_some, wp_aug, wp_for, wp_while, wp_lc, wp_lc2, wp_def, defK_rt, defK_nx, wp_miseq, srcK_ref, srcK_tup, srcK_str, rngK_int, wp_range1, wp_enum, enumK_ref, Tl_some, Ts_some, loopK_nx, loopK_ct, loopK_bk, loopK_rt, ixK_some, atI_k0, atI_k1, atI_k2, atI_k3, atI_k4, atI_k5, atI_k6, atI_k8, atI_k9, L2.atI_last, atI_n, g_ix_t, g_ix_s, g_ix_r, cIx_l, cIx_z, cIx_d, cIx_f, g_sub, g_lt, g_le, g_gt, g_ge, g_addi, g_addI, g_adds, g_addt, g_mul, g_muls, g_fdiv, g_mod, g_neg, g_eqs, g_nes, g_eqi, g_nei, g_min, g_max, g_int_b, g_int_i, g_is_non, g_cuts, g_cutt, g_lens, g_lent, g_lenr, cLen_l, cLen_z, g_tupt, g_tupr, cTup_l, g_listt, isLst_r, lstAt_r, cLst_l, cLst_z, tr_r, cTr_l, tr_b, g_set, cSet_l, cSet_d, jK_some, kK_some, ixN_0, ixN_1, ixN_2, isS, mwipe, mPat, mPats, List.getElem?_cons_zero, List.getElem?_cons_succ, List.set_cons_zero, List.set_cons_succ, List.map_cons, List.map_nil, List.length_cons, List.length_nil, List.replicate_succ, List.replicate_zero, List.cons_append, List.nil_append, Nat.reduceAdd, Nat.reduceSub, Nat.reduceLeDiff, Nat.zero_add, Option.map_some, if_true, Bool.false_eq_true, if_false, true_and, and_true, decide_eq_true_eq, reduceIte, reduceCtorEq]
    refine ⟨sm62 ⟨by omega, by omega⟩, ?_⟩
    refine Tl.lc_b (b := b) (fun i w => ∃ z, w = .str z ∧ CapT z) C3.box (fun h' _ => is_items) (by rw [range_len]; omega) (by rw [range_len]; omega) ?_ ?_
    · intro j x ex g4 C4
      obtain ⟨rfl, hj⟩ := range_get ex
      refine ⟨_, rfl, ?_⟩
      obtain ⟨c, ec, hc⟩ := cap_at (i := first + (j : Int)) (by omega) (by omega)
      obtain ⟨c', ec', hc'⟩ := cap_at (i := first - 1 - (j : Int)) (by omega) (by omega)
      obtain ⟨z, ez, gz, lz⟩ := repS_k hc' i hi2
      simp only [wp_c, wp_var, slotK_some, wp_op, wp_un, wp_b, asB_bl, wp_tr, asT_some, wp_yes, wp_and, wp_or, wp_not, wp_caseB, wp_andV, wp_orV, wp_notV, wp_if, wp_nil, wp_cons, wp_tup, wp_lst, wp_cb, wp_call, wp_m0, wp_m1, wp_ml0, wp_ml, wp_isi, wp_isi2, wp_nopart, asI_int, wp_part, wp_sl, wp_seq, seqK_nx, seqK_rt, seqK_bk, seqK_ct, wp_next, wp_brk, wp_cont, wp_drop, wp_ret, wp_ifS, wp_set, wp_par, wp_par3, wp_asg, wp_pat, asP_some, wp_sub, asH_some, wp_aug, wp_for, wp_while, wp_lc, wp_lc2, wp_def, defK_rt, defK_nx, wp_miseq, srcK_ref, srcK_tup, srcK_str, rngK_int, wp_range1, wp_enum, enumK_ref, Tl_some, Ts_some, loopK_nx, loopK_ct, loopK_bk, loopK_rt, ixK_some, atI_k0, atI_k1, atI_k2, atI_k3, atI_k4, atI_k5, atI_k6, atI_k8, atI_k9, L2.atI_last, atI_n, g_ix_t, g_ix_s, g_ix_r, cIx_l, cIx_z, cIx_d, cIx_f, g_sub, g_lt, g_le, g_gt, g_ge, g_addi, g_addI, g_adds, g_addt, g_mul, g_muls, g_fdiv, g_mod, g_neg, g_eqs, g_nes, g_eqi, g_nei, g_min, g_max, g_int_b, g_int_i, g_is_non, g_cuts, g_cutt, g_lens, g_lent, g_lenr, cLen_l, cLen_z, g_tupt, g_tupr, cTup_l, g_listt, isLst_r, lstAt_r, cLst_l, cLst_z, tr_r, cTr_l, tr_b, g_set, cSet_l, cSet_d, jK_some, kK_some, ixN_0, ixN_1, ixN_2, isS, mwipe, mPat, mPats, List.getElem?_cons_zero, List.getElem?_cons_succ, List.set_cons_zero, List.set_cons_succ, List.map_cons, List.map_nil, List.length_cons, List.length_nil, List.replicate_succ, List.replicate_zero, List.cons_append, List.nil_append, Nat.reduceAdd, Nat.reduceSub, Nat.reduceLeDiff, Nat.zero_add, Option.map_some, if_true, Bool.false_eq_true, if_false, true_and, and_true, decide_eq_true_eq, reduceIte, reduceCtorEq]
      rw [show Str.ofString "ABCDEFGHIJKLMNOPQRSTUVWXYZ" = caps from rfl, ec, ec']
      have hcap : caps.length ≤ 16777216 := by decide +kernel
      have lgz := gz.len
      simp only [wp_c, wp_var, slotK_some, wp_op, wp_un, wp_b, asB_bl, wp_tr, asT_some, wp_yes, wp_and, wp_or, wp_not, wp_caseB, wp_andV, wp_orV, wp_notV, wp_if, wp_nil, wp_cons, wp_tup, wp_lst, wp_cb, wp_call, wp_m0, wp_m1, wp_ml0, wp_ml, wp_isi, wp_isi2, wp_nopart, asI_int, wp_part, wp_sl, wp_seq, seqK_nx, seqK_rt, seqK_bk, seqK_ct, wp_next, wp_brk, wp_cont, wp_drop, wp_ret, wp_ifS, wp_set, wp_par, wp_par3, wp_asg, wp_pat, asP_some, wp_sub, asH_some, wp_aug, wp_for, wp_while, wp_lc, wp_lc2, wp_def, defK_rt, defK_nx, wp_miseq, srcK_ref, srcK_tup, srcK_str, rngK_int, wp_range1, wp_enum, enumK_ref, Tl_some, Ts_some, loopK_nx, loopK_ct, loopK_bk, loopK_rt, ixK_some, atI_k0, atI_k1, atI_k2, atI_k3, atI_k4, atI_k5, atI_k6, atI_k8, atI_k9, L2.atI_last, atI_n, g_ix_t, g_ix_s, g_ix_r, cIx_l, cIx_z, cIx_d, cIx_f, g_sub, g_lt, g_le, g_gt, g_ge, g_addi, g_addI, g_adds, g_addt, g_mul, g_muls, g_fdiv, g_mod, g_neg, g_eqs, g_nes, g_eqi, g_nei, g_min, g_max, g_int_b, g_int_i, g_is_non, g_cuts, g_cutt, g_lens, g_lent, g_lenr, cLen_l, cLen_z, g_tupt, g_tupr, cTup_l, g_listt, isLst_r, lstAt_r, cLst_l, cLst_z, tr_r, cTr_l, tr_b, g_set, cSet_l, cSet_d, jK_some, kK_some, ixN_0, ixN_1, ixN_2, isS, mwipe, mPat, mPats, List.getElem?_cons_zero, List.getElem?_cons_succ, List.set_cons_zero, List.set_cons_succ, List.map_cons, List.map_nil, List.length_cons, List.length_nil, List.replicate_succ, List.replicate_zero, List.cons_append, List.nil_append, Nat.reduceAdd, Nat.reduceSub, Nat.reduceLeDiff, Nat.zero_add, Option.map_some, if_true, Bool.false_eq_true, if_false, true_and, and_true, decide_eq_true_eq, reduceIte, reduceCtorEq, ez, len_app, show (Str.mk #[c]).length = 1 from rfl, show (Str.mk #[c']).length = 1 from rfl]
      refine ⟨hcap, hcap, by omega, by omega, by omega, ⟨_, rfl, (good1 (by omega)).append gz, fun y hy => ?_⟩, Bx.refl C4.box⟩
      have : y = c ∨ y ∈ z.cps.toList := by
        have q : ((⟨#[c]⟩ : Str) ++ z).cps = #[c] ++ z.cps := rfl
        rw [q] at hy; simpa using hy
      rcases this with rfl | q
      · exact hc
      · exact lz y q
    intro g4 hds C4 a4 l4h hhd
    obtain ⟨hs, rfl, hhs⟩ := strs_of (G := CapT) fun y hy => by
      obtain ⟨j, hj, e⟩ := List.getElem_of_mem hy
      exact hhd j y (by rw [← e]; exact List.getElem?_eq_getElem hj)
    rw [range_len, List.length_map] at l4h
    have Cg4 : Bx b hh g4 := Cg3.trans C4
    have C24 : Bx b g2 g4 := C3.trans C4
    have aN4 := Cg4.get I.eN (by omega)
    have aT4 := Cg4.get I.eT (by omega)
    obtain ⟨x, ex, hx⟩ := str_map_at (xs := xs) (i := (i : Int)) (by omega) (by omega)
    rw [Int.toNat_natCast] at hx
    have hxm : (xs.map W.str)[i]? = some (.str x) := by rw [List.getElem?_map, hx]; rfl
    simp only [wp_c, wp_var, slotK_some, wp_op, wp_un, wp_b, asB_bl, wp_tr, asT_some, wp_yes, wp_and, wp_or, wp_not, wp_caseB, wp_andV, wp_orV, wp_notV, wp_if, wp_nil, wp_cons, wp_tup, wp_lst, wp_cb, wp_call, wp_m0, wp_m1, wp_ml0, wp_ml, wp_isi, wp_isi2, wp_nopart, asI_int, wp_part, wp_sl, wp_seq, seqK_nx, seqK_rt, seqK_bk, seqK_ct, wp_next, wp_brk, wp_cont, wp_drop, wp_ret, wp_ifS, wp_set, wp_par, wp_par3, wp_asg, wp_pat, asP_some, wp_sub, asH_some, wp_aug, wp_for, wp_while, wp_lc, wp_lc2, wp_def, defK_rt, defK_nx, wp_miseq, srcK_ref, srcK_tup, srcK_str, rngK_int, wp_range1, wp_enum, enumK_ref, Tl_some, Ts_some, loopK_nx, loopK_ct, loopK_bk, loopK_rt, ixK_some, atI_k0, atI_k1, atI_k2, atI_k3, atI_k4, atI_k5, atI_k6, atI_k8, atI_k9, L2.atI_last, atI_n, g_ix_t, g_ix_s, g_ix_r, cIx_l, cIx_z, cIx_d, cIx_f, g_sub, g_lt, g_le, g_gt, g_ge, g_addi, g_addI, g_adds, g_addt, g_mul, g_muls, g_fdiv, g_mod, g_neg, g_eqs, g_nes, g_eqi, g_nei, g_min, g_max, g_int_b, g_int_i, g_is_non, g_cuts, g_cutt, g_lens, g_lent, g_lenr, cLen_l, cLen_z, g_tupt, g_tupr, cTup_l, g_listt, isLst_r, lstAt_r, cLst_l, cLst_z, tr_r, cTr_l, tr_b, g_set, cSet_l, cSet_d, jK_some, kK_some, ixN_0, ixN_1, ixN_2, isS, mwipe, mPat, mPats, List.getElem?_cons_zero, List.getElem?_cons_succ, List.set_cons_zero, List.set_cons_succ, List.map_cons, List.map_nil, List.length_cons, List.length_nil, List.replicate_succ, List.replicate_zero, List.cons_append, List.nil_append, Nat.reduceAdd, Nat.reduceSub, Nat.reduceLeDiff, Nat.zero_add, Option.map_some, if_true, Bool.false_eq_true, if_false, true_and, and_true, decide_eq_true_eq, reduceIte, reduceCtorEq, aT4, aN4, hxm]
    have lg2 := y2.len
    have lg3 := C3.len
    have lg1 := C1.len
    have aK4 := C24.get a2 (by omega)
    have lg4 := C4.len
    have hfr := I.B.len
    have lT := lt_of_get I.eT
    have lF := lt_of_get I.eF
    have lC := lt_of_get I.eC
    have lK := lt_of_get I.eK
    refine (tongue_spec (K := (· ∈ ks)) hn Cg4.box aK4 (by omega) (by omega) (by omega) (fun _ h => h) a4 (by omega) (by omega)).by ?_
    rintro _ g5 ⟨C5, x4', x5', x6', fs, rfl, lfs, hfs⟩
    have Cg5 : Bx b hh g5 := Cg4.trans C5
    have aT5 := C5.get aT4 (by omega)
    refine Tl.app aT5 (by have := I.lt; omega) fun g6 c6 a6 => ?_
    have aN6 := c6.get (C5.get aN4 (by omega)) (by omega)
    have aF6 := c6.get (Cg5.get I.eF (by omega)) (by omega)
    have aC6 := c6.get (Cg5.get I.eC (by omega)) (by omega)
    have aKn6 := c6.get (Cg5.get I.eK (by omega)) (by omega)
    have aK6 := c6.get (C5.get aK4 (by omega)) (by omega)
    have lg5 := C5.len
    have lg6 := c6.len
    simp only [wp_c, wp_var, slotK_some, wp_op, wp_un, wp_b, asB_bl, wp_tr, asT_some, wp_yes, wp_and, wp_or, wp_not, wp_caseB, wp_andV, wp_orV, wp_notV, wp_if, wp_nil, wp_cons, wp_tup, wp_lst, wp_cb, wp_call, wp_m0, wp_m1, wp_ml0, wp_ml, wp_isi, wp_isi2, wp_nopart, asI_int, wp_part, wp_sl, wp_seq, seqK_nx, seqK_rt, seqK_bk, seqK_ct, wp_next, wp_brk, wp_cont, wp_drop, wp_ret, wp_ifS, wp_set, wp_par, wp_par3, wp_asg, wp_pat, asP_some, wp_sub, asH_some, wp_aug, wp_for, wp_while, wp_lc, wp_lc2, wp_def, defK_rt, defK_nx, wp_miseq, srcK_ref, srcK_tup, srcK_str, rngK_int, wp_range1, wp_enum, enumK_ref, Tl_some, Ts_some, loopK_nx, loopK_ct, loopK_bk, loopK_rt, ixK_some, atI_k0, atI_k1, atI_k2, atI_k3, atI_k4, atI_k5, atI_k6, atI_k8, atI_k9, L2.atI_last, atI_n, g_ix_t, g_ix_s, g_ix_r, cIx_l, cIx_z, cIx_d, cIx_f, g_sub, g_lt, g_le, g_gt, g_ge, g_addi, g_addI, g_adds, g_addt, g_mul, g_muls, g_fdiv, g_mod, g_neg, g_eqs, g_nes, g_eqi, g_nei, g_min, g_max, g_int_b, g_int_i, g_is_non, g_cuts, g_cutt, g_lens, g_lent, g_lenr, cLen_l, cLen_z, g_tupt, g_tupr, cTup_l, g_listt, isLst_r, lstAt_r, cLst_l, cLst_z, tr_r, cTr_l, tr_b, g_set, cSet_l, cSet_d, jK_some, kK_some, ixN_0, ixN_1, ixN_2, isS, mwipe, mPat, mPats, List.getElem?_cons_zero, List.getElem?_cons_succ, List.set_cons_zero, List.set_cons_succ, List.map_cons, List.map_nil, List.length_cons, List.length_nil, List.replicate_succ, List.replicate_zero, List.cons_append, List.nil_append, Nat.reduceAdd, Nat.reduceSub, Nat.reduceLeDiff, Nat.zero_add, Option.map_some, if_true, Bool.false_eq_true, if_false, true_and, and_true, decide_eq_true_eq, reduceIte, reduceCtorEq, a6]
    refine Tl.lc_e (xs := fs) (fun _ => true) cut3 (fun _ _ => is_items) (by omega) (by omega) ?_ ?_
    · intro f hf g7 y7
      obtain ⟨j, hj, e⟩ := List.getElem_of_mem hf
      obtain ⟨⟨hd, its, kd, mn, rfl, _⟩⟩ := hfs j f (by rw [← e]; exact List.getElem?_eq_getElem hj)
      refine ⟨_, rfl, ?_⟩
      simp only [wp_c, wp_var, slotK_some, wp_op, wp_un, wp_b, asB_bl, wp_tr, asT_some, wp_yes, wp_and, wp_or, wp_not, wp_caseB, wp_andV, wp_orV, wp_notV, wp_if, wp_nil, wp_cons, wp_tup, wp_lst, wp_cb, wp_call, wp_m0, wp_m1, wp_ml0, wp_ml, wp_isi, wp_isi2, wp_nopart, asI_int, wp_part, wp_sl, wp_seq, seqK_nx, seqK_rt, seqK_bk, seqK_ct, wp_next, wp_brk, wp_cont, wp_drop, wp_ret, wp_ifS, wp_set, wp_par, wp_par3, wp_asg, wp_pat, asP_some, wp_sub, asH_some, wp_aug, wp_for, wp_while, wp_lc, wp_lc2, wp_def, defK_rt, defK_nx, wp_miseq, srcK_ref, srcK_tup, srcK_str, rngK_int, wp_range1, wp_enum, enumK_ref, Tl_some, Ts_some, loopK_nx, loopK_ct, loopK_bk, loopK_rt, ixK_some, atI_k0, atI_k1, atI_k2, atI_k3, atI_k4, atI_k5, atI_k6, atI_k8, atI_k9, L2.atI_last, atI_n, g_ix_t, g_ix_s, g_ix_r, cIx_l, cIx_z, cIx_d, cIx_f, g_sub, g_lt, g_le, g_gt, g_ge, g_addi, g_addI, g_adds, g_addt, g_mul, g_muls, g_fdiv, g_mod, g_neg, g_eqs, g_nes, g_eqi, g_nei, g_min, g_max, g_int_b, g_int_i, g_is_non, g_cuts, g_cutt, g_lens, g_lent, g_lenr, cLen_l, cLen_z, g_tupt, g_tupr, cTup_l, g_listt, isLst_r, lstAt_r, cLst_l, cLst_z, tr_r, cTr_l, tr_b, g_set, cSet_l, cSet_d, jK_some, kK_some, ixN_0, ixN_1, ixN_2, isS, mwipe, mPat, mPats, List.getElem?_cons_zero, List.getElem?_cons_succ, List.set_cons_zero, List.set_cons_succ, List.map_cons, List.map_nil, List.length_cons, List.length_nil, List.replicate_succ, List.replicate_zero, List.cons_append, List.nil_append, Nat.reduceAdd, Nat.reduceSub, Nat.reduceLeDiff, Nat.zero_add, Option.map_some, if_true, Bool.false_eq_true, if_false, true_and, and_true, decide_eq_true_eq, reduceIte, reduceCtorEq]
      exact ⟨Ext.refl _, fun _ => ⟨rfl, Ext.refl _⟩⟩
    intro g7 y7 a7
    rw [filter_yes] at a7
    have lg7 := y7.len
    have aF7 := y7.get aF6
    have aN7 := y7.get aN6
    simp only [wp_c, wp_var, slotK_some, wp_op, wp_un, wp_b, asB_bl, wp_tr, asT_some, wp_yes, wp_and, wp_or, wp_not, wp_caseB, wp_andV, wp_orV, wp_notV, wp_if, wp_nil, wp_cons, wp_tup, wp_lst, wp_cb, wp_call, wp_m0, wp_m1, wp_ml0, wp_ml, wp_isi, wp_isi2, wp_nopart, asI_int, wp_part, wp_sl, wp_seq, seqK_nx, seqK_rt, seqK_bk, seqK_ct, wp_next, wp_brk, wp_cont, wp_drop, wp_ret, wp_ifS, wp_set, wp_par, wp_par3, wp_asg, wp_pat, asP_some, wp_sub, asH_some, wp_aug, wp_for, wp_while, wp_lc, wp_lc2, wp_def, defK_rt, defK_nx, wp_miseq, srcK_ref, srcK_tup, srcK_str, rngK_int, wp_range1, wp_enum, enumK_ref, Tl_some, Ts_some, loopK_nx, loopK_ct, loopK_bk, loopK_rt, ixK_some, atI_k0, atI_k1, atI_k2, atI_k3, atI_k4, atI_k5, atI_k6, atI_k8, atI_k9, L2.atI_last, atI_n, g_ix_t, g_ix_s, g_ix_r, cIx_l, cIx_z, cIx_d, cIx_f, g_sub, g_lt, g_le, g_gt, g_ge, g_addi, g_addI, g_adds, g_addt, g_mul, g_muls, g_fdiv, g_mod, g_neg, g_eqs, g_nes, g_eqi, g_nei, g_min, g_max, g_int_b, g_int_i, g_is_non, g_cuts, g_cutt, g_lens, g_lent, g_lenr, cLen_l, cLen_z, g_tupt, g_tupr, cTup_l, g_listt, isLst_r, lstAt_r, cLst_l, cLst_z, tr_r, cTr_l, tr_b, g_set, cSet_l, cSet_d, jK_some, kK_some, ixN_0, ixN_1, ixN_2, isS, mwipe, mPat, mPats, List.getElem?_cons_zero, List.getElem?_cons_succ, List.set_cons_zero, List.set_cons_succ, List.map_cons, List.map_nil, List.length_cons, List.length_nil, List.replicate_succ, List.replicate_zero, List.cons_append, List.nil_append, Nat.reduceAdd, Nat.reduceSub, Nat.reduceLeDiff, Nat.zero_add, Option.map_some, if_true, Bool.false_eq_true, if_false, true_and, and_true, decide_eq_true_eq, reduceIte, reduceCtorEq, aN7, hxm, aF7, keyW_str]
    refine ⟨by have := I.lf; omega, ?_⟩
    have c8 : Chg h3.length g7 (g7.set h3.length (.dic (putW fd (.inr x) (.ref g6.length)))) := Chg.set
    have a8 : (g7.set h3.length (.dic (putW fd (.inr x) (.ref g6.length))))[h3.length]? = some (.dic (putW fd (.inr x) (.ref g6.length))) := List.getElem?_set_self (lt_of_get aF7)
    generalize g7.set h3.length (.dic (putW fd (.inr x) (.ref g6.length))) = g8 at c8 a8
    have lg8 := c8.len
    have aN8 := c8.get aN7 (by omega)
    have aK8 := c8.get (y7.get aK6) (by omega)
    have aT8 := c8.get (y7.get a6) (by omega)
    have aC8 := c8.get (y7.get aC6) (by omega)
    have aKn8 := c8.get (y7.get aKn6) (by omega)
    have aL8 := c8.get a7 (by omega)
    have Cg8 : Bx b h g8 := (((I.B.trans Cg5).chg c6 (by omega) (by omega)).ext y7).chg c8 (by omega) (by omega)
    refine (take_spec Cg8.box (by decide) (by decide)).by ?_
    rintro _ g9 ⟨d3, rfl, r0, r1, C9⟩
    try simp only [wp_c, wp_var, slotK_some, wp_op, wp_un, wp_b, asB_bl, wp_tr, asT_some, wp_yes, wp_and, wp_or, wp_not, wp_caseB, wp_andV, wp_orV, wp_notV, wp_if, wp_nil, wp_cons, wp_tup, wp_lst, wp_cb, wp_call, wp_m0, wp_m1, wp_ml0, wp_ml, wp_isi, wp_isi2, wp_nopart, asI_int, wp_part, wp_sl, wp_seq, seqK_nx, seqK_rt, seqK_bk, seqK_ct, wp_next, wp_brk, wp_cont, wp_drop, wp_ret, wp_ifS, wp_set, wp_par, wp_par3, wp_asg, wp_pat, asP_some, wp_sub, asH_some, wp_aug, wp_for, wp_while, wp_lc, wp_lc2, wp_def, defK_rt, defK_nx, wp_miseq, srcK_ref, srcK_tup, srcK_str, rngK_int, wp_range1, wp_enum, enumK_ref, Tl_some, Ts_some, loopK_nx, loopK_ct, loopK_bk, loopK_rt, ixK_some, atI_k0, atI_k1, atI_k2, atI_k3, atI_k4, atI_k5, atI_k6, atI_k8, atI_k9, L2.atI_last, atI_n, g_ix_t, g_ix_s, g_ix_r, cIx_l, cIx_z, cIx_d, cIx_f, g_sub, g_lt, g_le, g_gt, g_ge, g_addi, g_addI, g_adds, g_addt, g_mul, g_muls, g_fdiv, g_mod, g_neg, g_eqs, g_nes, g_eqi, g_nei, g_min, g_max, g_int_b, g_int_i, g_is_non, g_cuts, g_cutt, g_lens, g_lent, g_lenr, cLen_l, cLen_z, g_tupt, g_tupr, cTup_l, g_listt, isLst_r, lstAt_r, cLst_l, cLst_z, tr_r, cTr_l, tr_b, g_set, cSet_l, cSet_d, jK_some, kK_some, ixN_0, ixN_1, ixN_2, isS, mwipe, mPat, mPats, List.getElem?_cons_zero, List.getElem?_cons_succ, List.set_cons_zero, List.set_cons_succ, List.map_cons, List.map_nil, List.length_cons, List.length_nil, List.replicate_succ, List.replicate_zero, List.cons_append, List.nil_append, Nat.reduceAdd, Nat.reduceSub, Nat.reduceLeDiff, Nat.zero_add, Option.map_some, if_true, Bool.false_eq_true, if_false, true_and, and_true, decide_eq_true_eq, reduceIte, reduceCtorEq]
    refine ⟨sm62 ⟨by omega, by omega⟩, ?_⟩
    have lg9 := C9.len
    refine Tl.lc_b (b := b) (fun i w => ∃ p q, w = .tup [.str p, .str q] ∧ PyData.strOk p = true ∧ q ∈ ks) C9.box (fun h' _ => is_items) (by rw [range_len]; omega) (by rw [range_len]; omega) ?_ ?_
    · intro j w ex g10 C10
      obtain ⟨rfl, hj⟩ := range_get ex
      refine ⟨_, rfl, ?_⟩
      have aN10 := C10.get (C9.get aN8 (by omega)) (by omega)
      have aK10 := C10.get (C9.get aK8 (by omega)) (by omega)
      obtain ⟨y, ey, hy⟩ := str_map_at (xs := xs) (i := 8 + (j : Int)) (by omega) (by omega)
      obtain ⟨k, ek, hk⟩ := str_map_at (xs := ks) (i := (j : Int) % (ks.length : Int)) (Int.emod_nonneg _ (by omega)) (Int.emod_lt_of_pos _ (by omega))
      simp only [wp_c, wp_var, slotK_some, wp_op, wp_un, wp_b, asB_bl, wp_tr, asT_some, wp_yes, wp_and, wp_or, wp_not, wp_caseB, wp_andV, wp_orV, wp_notV, wp_if, wp_nil, wp_cons, wp_tup, wp_lst, wp_cb, wp_call, wp_m0, wp_m1, wp_ml0, wp_ml, wp_isi, wp_isi2, wp_nopart, asI_int, wp_part, wp_sl, wp_seq, seqK_nx, seqK_rt, seqK_bk, seqK_ct, wp_next, wp_brk, wp_cont, wp_drop, wp_ret, wp_ifS, wp_set, wp_par, wp_par3, wp_asg, wp_pat, asP_some, wp_sub, asH_some, wp_aug, wp_for, wp_while, wp_lc, wp_lc2, wp_def, defK_rt, defK_nx, wp_miseq, srcK_ref, srcK_tup, srcK_str, rngK_int, wp_range1, wp_enum, enumK_ref, Tl_some, Ts_some, loopK_nx, loopK_ct, loopK_bk, loopK_rt, ixK_some, atI_k0, atI_k1, atI_k2, atI_k3, atI_k4, atI_k5, atI_k6, atI_k8, atI_k9, L2.atI_last, atI_n, g_ix_t, g_ix_s, g_ix_r, cIx_l, cIx_z, cIx_d, cIx_f, g_sub, g_lt, g_le, g_gt, g_ge, g_addi, g_addI, g_adds, g_addt, g_mul, g_muls, g_fdiv, g_mod, g_neg, g_eqs, g_nes, g_eqi, g_nei, g_min, g_max, g_int_b, g_int_i, g_is_non, g_cuts, g_cutt, g_lens, g_lent, g_lenr, cLen_l, cLen_z, g_tupt, g_tupr, cTup_l, g_listt, isLst_r, lstAt_r, cLst_l, cLst_z, tr_r, cTr_l, tr_b, g_set, cSet_l, cSet_d, jK_some, kK_some, ixN_0, ixN_1, ixN_2, isS, mwipe, mPat, mPats, List.getElem?_cons_zero, List.getElem?_cons_succ, List.set_cons_zero, List.set_cons_succ, List.map_cons, List.map_nil, List.length_cons, List.length_nil, List.replicate_succ, List.replicate_zero, List.cons_append, List.nil_append, Nat.reduceAdd, Nat.reduceSub, Nat.reduceLeDiff, Nat.zero_add, Option.map_some, if_true, Bool.false_eq_true, if_false, true_and, and_true, decide_eq_true_eq, reduceIte, reduceCtorEq, aN10, aK10, ey, ek, List.length_map]
      refine ⟨by omega, ⟨⟨_, _, rfl, (hxs _ _ hy).1.ok, List.mem_of_getElem? hk⟩, Bx.refl C10.box⟩⟩
    intro g10 ys C10 a10 l10y hys
    obtain ⟨l, rfl, hl⟩ := pairs_of (G := fun p q => PyData.strOk p = true ∧ q ∈ ks) (ys := ys) fun y hy => by
      obtain ⟨j, hj, e⟩ := List.getElem_of_mem hy
      exact hys j y (by rw [← e]; exact List.getElem?_eq_getElem hj)
    rw [pairs_len, range_len] at l10y
    obtain ⟨p0, l', rfl⟩ : ∃ p0 l', l = p0 :: l' := by
      cases l with
      | nil => simp at l10y; omega
      | cons p0 l' => exact ⟨p0, l', rfl⟩
    have C810 : Bx b g8 g10 := C9.trans C10
    have aN10 := C810.get aN8 (by omega)
    have aT10 := C810.get aT8 (by omega)
    have lg10 := C10.len
    obtain ⟨y6, ey6, hy6⟩ := str_map_at (xs := xs) (i := 6 + (i : Int)) (by omega) (by omega)
    obtain ⟨y9, ey9, hy9⟩ := str_map_at (xs := xs) (i := 9) (by omega) (by omega)
    obtain ⟨y8, ey8, hy8⟩ := str_map_at (xs := xs) (i := 8) (by omega) (by omega)
    have hq9 : (xs.map W.str)[9]? = some (.str y9) := by rw [List.getElem?_map]; rw [show xs[9]? = some y9 from hy9]; rfl
    have hq8 : (xs.map W.str)[8]? = some (.str y8) := by rw [List.getElem?_map]; rw [show xs[8]? = some y8 from hy8]; rfl
    have hp0 : (pairsOf (p0 :: l'))[0]? = some (.tup [.str p0.1, .str p0.2]) := rfl
    simp only [wp_c, wp_var, slotK_some, wp_op, wp_un, wp_b, asB_bl, wp_tr, asT_some, wp_yes, wp_and, wp_or, wp_not, wp_caseB, wp_andV, wp_orV, wp_notV, wp_if, wp_nil, wp_cons, wp_tup, wp_lst, wp_cb, wp_call, wp_m0, wp_m1, wp_ml0, wp_ml, wp_isi, wp_isi2, wp_nopart, asI_int, wp_part, wp_sl, wp_seq, seqK_nx, seqK_rt, seqK_bk, seqK_ct, wp_next, wp_brk, wp_cont, wp_drop, wp_ret, wp_ifS, wp_set, wp_par, wp_par3, wp_asg, wp_pat, asP_some, wp_sub, asH_some, wp_aug, wp_for, wp_while, wp_lc, wp_lc2, wp_def, defK_rt, defK_nx, wp_miseq, srcK_ref, srcK_tup, srcK_str, rngK_int, wp_range1, wp_enum, enumK_ref, Tl_some, Ts_some, loopK_nx, loopK_ct, loopK_bk, loopK_rt, ixK_some, atI_k0, atI_k1, atI_k2, atI_k3, atI_k4, atI_k5, atI_k6, atI_k8, atI_k9, L2.atI_last, atI_n, g_ix_t, g_ix_s, g_ix_r, cIx_l, cIx_z, cIx_d, cIx_f, g_sub, g_lt, g_le, g_gt, g_ge, g_addi, g_addI, g_adds, g_addt, g_mul, g_muls, g_fdiv, g_mod, g_neg, g_eqs, g_nes, g_eqi, g_nei, g_min, g_max, g_int_b, g_int_i, g_is_non, g_cuts, g_cutt, g_lens, g_lent, g_lenr, cLen_l, cLen_z, g_tupt, g_tupr, cTup_l, g_listt, isLst_r, lstAt_r, cLst_l, cLst_z, tr_r, cTr_l, tr_b, g_set, cSet_l, cSet_d, jK_some, kK_some, ixN_0, ixN_1, ixN_2, isS, mwipe, mPat, mPats, List.getElem?_cons_zero, List.getElem?_cons_succ, List.set_cons_zero, List.set_cons_succ, List.map_cons, List.map_nil, List.length_cons, List.length_nil, List.replicate_succ, List.replicate_zero, List.cons_append, List.nil_append, Nat.reduceAdd, Nat.reduceSub, Nat.reduceLeDiff, Nat.zero_add, Option.map_some, if_true, Bool.false_eq_true, if_false, true_and, and_true, decide_eq_true_eq, reduceIte, reduceCtorEq, a10, aT10, aN10, ey6, hq9, hq8, hxm, hp0]
    repeat (refine ⟨by simp, ?_⟩)
    refine Tl.app aT10 (by have := I.lt; simp; omega) fun g11 c11 a11 => ?_
    have aN11 := c11.get aN10 (by omega)
    simp only [wp_c, wp_var, slotK_some, wp_op, wp_un, wp_b, asB_bl, wp_tr, asT_some, wp_yes, wp_and, wp_or, wp_not, wp_caseB, wp_andV, wp_orV, wp_notV, wp_if, wp_nil, wp_cons, wp_tup, wp_lst, wp_cb, wp_call, wp_m0, wp_m1, wp_ml0, wp_ml, wp_isi, wp_isi2, wp_nopart, asI_int, wp_part, wp_sl, wp_seq, seqK_nx, seqK_rt, seqK_bk, seqK_ct, wp_next, wp_brk, wp_cont, wp_drop, wp_ret, wp_ifS, wp_set, wp_par, wp_par3, wp_asg, wp_pat, asP_some, wp_sub, asH_some, wp_aug, wp_for, wp_while, wp_lc, wp_lc2, wp_def, defK_rt, defK_nx, wp_miseq, srcK_ref, srcK_tup, srcK_str, rngK_int, wp_range1, wp_enum, enumK_ref, Tl_some, Ts_some, loopK_nx, loopK_ct, loopK_bk, loopK_rt, ixK_some, atI_k0, atI_k1, atI_k2, atI_k3, atI_k4, atI_k5, atI_k6, atI_k8, atI_k9, L2.atI_last, atI_n, g_ix_t, g_ix_s, g_ix_r, cIx_l, cIx_z, cIx_d, cIx_f, g_sub, g_lt, g_le, g_gt, g_ge, g_addi, g_addI, g_adds, g_addt, g_mul, g_muls, g_fdiv, g_mod, g_neg, g_eqs, g_nes, g_eqi, g_nei, g_min, g_max, g_int_b, g_int_i, g_is_non, g_cuts, g_cutt, g_lens, g_lent, g_lenr, cLen_l, cLen_z, g_tupt, g_tupr, cTup_l, g_listt, isLst_r, lstAt_r, cLst_l, cLst_z, tr_r, cTr_l, tr_b, g_set, cSet_l, cSet_d, jK_some, kK_some, ixN_0, ixN_1, ixN_2, isS, mwipe, mPat, mPats, List.getElem?_cons_zero, List.getElem?_cons_succ, List.set_cons_zero, List.set_cons_succ, List.map_cons, List.map_nil, List.length_cons, List.length_nil, List.replicate_succ, List.replicate_zero, List.cons_append, List.nil_append, Nat.reduceAdd, Nat.reduceSub, Nat.reduceLeDiff, Nat.zero_add, Option.map_some, if_true, Bool.false_eq_true, if_false, true_and, and_true, decide_eq_true_eq, reduceIte, reduceCtorEq, aN11, ey6, hq9, hq8, hxm, hp0, len_app]
    have n6 := (hxs _ _ hy6).1
    have n9 := (hxs _ _ hy9).1
    have l6n := n6.len
    have l9n := n9.len
    have ldot : (Str.ofString ".").length = 1 := by decide +kernel
    refine ⟨by omega, by omega, ?_⟩
    have lg11 := c11.len
    refine Tl.lc_e (xs := pairsOf (p0 :: l')) (fun _ => true) (fun f => match f with | .tup [_, k] => k | x => x) (fun _ _ => is_items) (by rw [pairs_len]; omega) (by rw [pairs_len]; omega) ?_ ?_
    · intro f hf g12 y12
      have : ∃ p, f = .tup [.str p, .str p] ∨ ∃ q, f = .tup [.str p, .str q] := by
        obtain ⟨p, _, rfl⟩ := List.mem_map.mp hf
        exact ⟨p.1, .inr ⟨p.2, rfl⟩⟩
      obtain ⟨p, rfl | ⟨q, rfl⟩⟩ := this
      · refine ⟨_, rfl, ?_⟩
        simp only [wp_c, wp_var, slotK_some, wp_op, wp_un, wp_b, asB_bl, wp_tr, asT_some, wp_yes, wp_and, wp_or, wp_not, wp_caseB, wp_andV, wp_orV, wp_notV, wp_if, wp_nil, wp_cons, wp_tup, wp_lst, wp_cb, wp_call, wp_m0, wp_m1, wp_ml0, wp_ml, wp_isi, wp_isi2, wp_nopart, asI_int, wp_part, wp_sl, wp_seq, seqK_nx, seqK_rt, seqK_bk, seqK_ct, wp_next, wp_brk, wp_cont, wp_drop, wp_ret, wp_ifS, wp_set, wp_par, wp_par3, wp_asg, wp_pat, asP_some, wp_sub, asH_some, wp_aug, wp_for, wp_while, wp_lc, wp_lc2, wp_def, defK_rt, defK_nx, wp_miseq, srcK_ref, srcK_tup, srcK_str, rngK_int, wp_range1, wp_enum, enumK_ref, Tl_some, Ts_some, loopK_nx, loopK_ct, loopK_bk, loopK_rt, ixK_some, atI_k0, atI_k1, atI_k2, atI_k3, atI_k4, atI_k5, atI_k6, atI_k8, atI_k9, L2.atI_last, atI_n, g_ix_t, g_ix_s, g_ix_r, cIx_l, cIx_z, cIx_d, cIx_f, g_sub, g_lt, g_le, g_gt, g_ge, g_addi, g_addI, g_adds, g_addt, g_mul, g_muls, g_fdiv, g_mod, g_neg, g_eqs, g_nes, g_eqi, g_nei, g_min, g_max, g_int_b, g_int_i, g_is_non, g_cuts, g_cutt, g_lens, g_lent, g_lenr, cLen_l, cLen_z, g_tupt, g_tupr, cTup_l, g_listt, isLst_r, lstAt_r, cLst_l, cLst_z, tr_r, cTr_l, tr_b, g_set, cSet_l, cSet_d, jK_some, kK_some, ixN_0, ixN_1, ixN_2, isS, mwipe, mPat, mPats, List.getElem?_cons_zero, List.getElem?_cons_succ, List.set_cons_zero, List.set_cons_succ, List.map_cons, List.map_nil, List.length_cons, List.length_nil, List.replicate_succ, List.replicate_zero, List.cons_append, List.nil_append, Nat.reduceAdd, Nat.reduceSub, Nat.reduceLeDiff, Nat.zero_add, Option.map_some, if_true, Bool.false_eq_true, if_false, true_and, and_true, decide_eq_true_eq, reduceIte, reduceCtorEq]
        exact ⟨Ext.refl _, fun _ => Ext.refl _⟩
      · refine ⟨_, rfl, ?_⟩
        simp only [wp_c, wp_var, slotK_some, wp_op, wp_un, wp_b, asB_bl, wp_tr, asT_some, wp_yes, wp_and, wp_or, wp_not, wp_caseB, wp_andV, wp_orV, wp_notV, wp_if, wp_nil, wp_cons, wp_tup, wp_lst, wp_cb, wp_call, wp_m0, wp_m1, wp_ml0, wp_ml, wp_isi, wp_isi2, wp_nopart, asI_int, wp_part, wp_sl, wp_seq, seqK_nx, seqK_rt, seqK_bk, seqK_ct, wp_next, wp_brk, wp_cont, wp_drop, wp_ret, wp_ifS, wp_set, wp_par, wp_par3, wp_asg, wp_pat, asP_some, wp_sub, asH_some, wp_aug, wp_for, wp_while, wp_lc, wp_lc2, wp_def, defK_rt, defK_nx, wp_miseq, srcK_ref, srcK_tup, srcK_str, rngK_int, wp_range1, wp_enum, enumK_ref, Tl_some, Ts_some, loopK_nx, loopK_ct, loopK_bk, loopK_rt, ixK_some, atI_k0, atI_k1, atI_k2, atI_k3, atI_k4, atI_k5, atI_k6, atI_k8, atI_k9, L2.atI_last, atI_n, g_ix_t, g_ix_s, g_ix_r, cIx_l, cIx_z, cIx_d, cIx_f, g_sub, g_lt, g_le, g_gt, g_ge, g_addi, g_addI, g_adds, g_addt, g_mul, g_muls, g_fdiv, g_mod, g_neg, g_eqs, g_nes, g_eqi, g_nei, g_min, g_max, g_int_b, g_int_i, g_is_non, g_cuts, g_cutt, g_lens, g_lent, g_lenr, cLen_l, cLen_z, g_tupt, g_tupr, cTup_l, g_listt, isLst_r, lstAt_r, cLst_l, cLst_z, tr_r, cTr_l, tr_b, g_set, cSet_l, cSet_d, jK_some, kK_some, ixN_0, ixN_1, ixN_2, isS, mwipe, mPat, mPats, List.getElem?_cons_zero, List.getElem?_cons_succ, List.set_cons_zero, List.set_cons_succ, List.map_cons, List.map_nil, List.length_cons, List.length_nil, List.replicate_succ, List.replicate_zero, List.cons_append, List.nil_append, Nat.reduceAdd, Nat.reduceSub, Nat.reduceLeDiff, Nat.zero_add, Option.map_some, if_true, Bool.false_eq_true, if_false, true_and, and_true, decide_eq_true_eq, reduceIte, reduceCtorEq]
        exact ⟨Ext.refl _, fun _ => Ext.refl _⟩
    intro g12 y12 a12
    rw [filter_yes] at a12
    have a12' : g12[g11.length]? = some (.lst (((p0 :: l').map (·.2)).map W.str)) := by
      rw [a12]; simp [pairsOf]
    have lg12 := y12.len
    repeat (refine ⟨by decide, ?_⟩)
    refine Tl.newL (by simp) fun g13 y13 m13 a13 => ?_
    have aN13 := (y12.trans y13).get aN11
    have aC13 := (y12.trans y13).get (c11.get (C810.get aC8 (by omega)) (by omega))
    simp only [wp_c, wp_var, slotK_some, wp_op, wp_un, wp_b, asB_bl, wp_tr, asT_some, wp_yes, wp_and, wp_or, wp_not, wp_caseB, wp_andV, wp_orV, wp_notV, wp_if, wp_nil, wp_cons, wp_tup, wp_lst, wp_cb, wp_call, wp_m0, wp_m1, wp_ml0, wp_ml, wp_isi, wp_isi2, wp_nopart, asI_int, wp_part, wp_sl, wp_seq, seqK_nx, seqK_rt, seqK_bk, seqK_ct, wp_next, wp_brk, wp_cont, wp_drop, wp_ret, wp_ifS, wp_set, wp_par, wp_par3, wp_asg, wp_pat, asP_some, wp_sub, asH_some, wp_aug, wp_for, wp_while, wp_lc, wp_lc2, wp_def, defK_rt, defK_nx, wp_miseq, srcK_ref, srcK_tup, srcK_str, rngK_int, wp_range1, wp_enum, enumK_ref, Tl_some, Ts_some, loopK_nx, loopK_ct, loopK_bk, loopK_rt, ixK_some, atI_k0, atI_k1, atI_k2, atI_k3, atI_k4, atI_k5, atI_k6, atI_k8, atI_k9, L2.atI_last, atI_n, g_ix_t, g_ix_s, g_ix_r, cIx_l, cIx_z, cIx_d, cIx_f, g_sub, g_lt, g_le, g_gt, g_ge, g_addi, g_addI, g_adds, g_addt, g_mul, g_muls, g_fdiv, g_mod, g_neg, g_eqs, g_nes, g_eqi, g_nei, g_min, g_max, g_int_b, g_int_i, g_is_non, g_cuts, g_cutt, g_lens, g_lent, g_lenr, cLen_l, cLen_z, g_tupt, g_tupr, cTup_l, g_listt, isLst_r, lstAt_r, cLst_l, cLst_z, tr_r, cTr_l, tr_b, g_set, cSet_l, cSet_d, jK_some, kK_some, ixN_0, ixN_1, ixN_2, isS, mwipe, mPat, mPats, List.getElem?_cons_zero, List.getElem?_cons_succ, List.set_cons_zero, List.set_cons_succ, List.map_cons, List.map_nil, List.length_cons, List.length_nil, List.replicate_succ, List.replicate_zero, List.cons_append, List.nil_append, Nat.reduceAdd, Nat.reduceSub, Nat.reduceLeDiff, Nat.zero_add, Option.map_some, if_true, Bool.false_eq_true, if_false, true_and, and_true, decide_eq_true_eq, reduceIte, reduceCtorEq, aN13, hxm, aC13, keyW_str]
    refine ⟨by have := I.lc; omega, by decide, ?_⟩
    have c14 : Chg h6.length g13 (g13.set h6.length (.dic (putW cd (.inr x) (.ref g12.length)))) := Chg.set
    have a14 : (g13.set h6.length (.dic (putW cd (.inr x) (.ref g12.length))))[h6.length]? = some (.dic (putW cd (.inr x) (.ref g12.length))) := List.getElem?_set_self (lt_of_get aC13)
    generalize g13.set h6.length (.dic (putW cd (.inr x) (.ref g12.length))) = g14 at c14 a14
    have lg13 := y13.len
    have lg14 := c14.len
    have Cg14 : Bx b h g14 := (((Cg8.trans C810).chg c11 (by omega) (by omega)).ext (y12.trans y13)).chg c14 (by omega) (by omega)
    have aN14 := c14.get aN13 (by omega)
    have aK14 := c14.get ((y12.trans y13).get (c11.get (C810.get aK8 (by omega)) (by omega))) (by omega)
    have aKn14 := c14.get ((y12.trans y13).get (c11.get (C810.get aKn8 (by omega)) (by omega))) (by omega)
    refine Tl.lc_b (b := b) (fun i w => ∃ p q, w = .tup [.str p, .str q] ∧ PyData.strOk p = true ∧ q ∈ ks) Cg14.box (fun h' _ => is_items) (by rw [range_len]; show 4 < n; omega) (by rw [range_len]; decide) ?_ ?_
    · intro j w ex g15 C15
      obtain ⟨rfl, hj⟩ := range_get ex
      have hj4 : j < 4 := hj
      refine ⟨_, rfl, ?_⟩
      have aN15 := C15.get aN14 (by omega)
      have aK15 := C15.get aK14 (by omega)
      obtain ⟨y, ey, hy⟩ := str_map_at (xs := xs) (i := 11 + (j : Int)) (by omega) (by omega)
      obtain ⟨k, ek, hk⟩ := str_map_at (xs := ks) (i := (j : Int) % (ks.length : Int)) (Int.emod_nonneg _ (by omega)) (Int.emod_lt_of_pos _ (by omega))
      simp only [wp_c, wp_var, slotK_some, wp_op, wp_un, wp_b, asB_bl, wp_tr, asT_some, wp_yes, wp_and, wp_or, wp_not, wp_caseB, wp_andV, wp_orV, wp_notV, wp_if, wp_nil, wp_cons, wp_tup, wp_lst, wp_cb, wp_call, wp_m0, wp_m1, wp_ml0, wp_ml, wp_isi, wp_isi2, wp_nopart, asI_int, wp_part, wp_sl, wp_seq, seqK_nx, seqK_rt, seqK_bk, seqK_ct, wp_next, wp_brk, wp_cont, wp_drop, wp_ret, wp_ifS, wp_set, wp_par, wp_par3, wp_asg, wp_pat, asP_some, wp_sub, asH_some, wp_aug, wp_for, wp_while, wp_lc, wp_lc2, wp_def, defK_rt, defK_nx, wp_miseq, srcK_ref, srcK_tup, srcK_str, rngK_int, wp_range1, wp_enum, enumK_ref, Tl_some, Ts_some, loopK_nx, loopK_ct, loopK_bk, loopK_rt, ixK_some, atI_k0, atI_k1, atI_k2, atI_k3, atI_k4, atI_k5, atI_k6, atI_k8, atI_k9, L2.atI_last, atI_n, g_ix_t, g_ix_s, g_ix_r, cIx_l, cIx_z, cIx_d, cIx_f, g_sub, g_lt, g_le, g_gt, g_ge, g_addi, g_addI, g_adds, g_addt, g_mul, g_muls, g_fdiv, g_mod, g_neg, g_eqs, g_nes, g_eqi, g_nei, g_min, g_max, g_int_b, g_int_i, g_is_non, g_cuts, g_cutt, g_lens, g_lent, g_lenr, cLen_l, cLen_z, g_tupt, g_tupr, cTup_l, g_listt, isLst_r, lstAt_r, cLst_l, cLst_z, tr_r, cTr_l, tr_b, g_set, cSet_l, cSet_d, jK_some, kK_some, ixN_0, ixN_1, ixN_2, isS, mwipe, mPat, mPats, List.getElem?_cons_zero, List.getElem?_cons_succ, List.set_cons_zero, List.set_cons_succ, List.map_cons, List.map_nil, List.length_cons, List.length_nil, List.replicate_succ, List.replicate_zero, List.cons_append, List.nil_append, Nat.reduceAdd, Nat.reduceSub, Nat.reduceLeDiff, Nat.zero_add, Option.map_some, if_true, Bool.false_eq_true, if_false, true_and, and_true, decide_eq_true_eq, reduceIte, reduceCtorEq, aN15, aK15, ey, ek, List.length_map]
      exact ⟨by omega, ⟨⟨_, _, rfl, (hxs _ _ hy).1.ok, List.mem_of_getElem? hk⟩, Bx.refl C15.box⟩⟩
    intro g15 zs C15 a15 l15z hzs
    obtain ⟨kl, rfl, hkl⟩ := pairs_of (G := fun p q => PyData.strOk p = true ∧ q ∈ ks) (ys := zs) fun y hy => by
      obtain ⟨j, hj, e⟩ := List.getElem_of_mem hy
      exact hzs j y (by rw [← e]; exact List.getElem?_eq_getElem hj)
    rw [pairs_len, range_len] at l15z
    have lg15 := C15.len
    have aN15 := C15.get aN14 (by omega)
    have aKn15 := C15.get aKn14 (by omega)
    simp only [wp_c, wp_var, slotK_some, wp_op, wp_un, wp_b, asB_bl, wp_tr, asT_some, wp_yes, wp_and, wp_or, wp_not, wp_caseB, wp_andV, wp_orV, wp_notV, wp_if, wp_nil, wp_cons, wp_tup, wp_lst, wp_cb, wp_call, wp_m0, wp_m1, wp_ml0, wp_ml, wp_isi, wp_isi2, wp_nopart, asI_int, wp_part, wp_sl, wp_seq, seqK_nx, seqK_rt, seqK_bk, seqK_ct, wp_next, wp_brk, wp_cont, wp_drop, wp_ret, wp_ifS, wp_set, wp_par, wp_par3, wp_asg, wp_pat, asP_some, wp_sub, asH_some, wp_aug, wp_for, wp_while, wp_lc, wp_lc2, wp_def, defK_rt, defK_nx, wp_miseq, srcK_ref, srcK_tup, srcK_str, rngK_int, wp_range1, wp_enum, enumK_ref, Tl_some, Ts_some, loopK_nx, loopK_ct, loopK_bk, loopK_rt, ixK_some, atI_k0, atI_k1, atI_k2, atI_k3, atI_k4, atI_k5, atI_k6, atI_k8, atI_k9, L2.atI_last, atI_n, g_ix_t, g_ix_s, g_ix_r, cIx_l, cIx_z, cIx_d, cIx_f, g_sub, g_lt, g_le, g_gt, g_ge, g_addi, g_addI, g_adds, g_addt, g_mul, g_muls, g_fdiv, g_mod, g_neg, g_eqs, g_nes, g_eqi, g_nei, g_min, g_max, g_int_b, g_int_i, g_is_non, g_cuts, g_cutt, g_lens, g_lent, g_lenr, cLen_l, cLen_z, g_tupt, g_tupr, cTup_l, g_listt, isLst_r, lstAt_r, cLst_l, cLst_z, tr_r, cTr_l, tr_b, g_set, cSet_l, cSet_d, jK_some, kK_some, ixN_0, ixN_1, ixN_2, isS, mwipe, mPat, mPats, List.getElem?_cons_zero, List.getElem?_cons_succ, List.set_cons_zero, List.set_cons_succ, List.map_cons, List.map_nil, List.length_cons, List.length_nil, List.replicate_succ, List.replicate_zero, List.cons_append, List.nil_append, Nat.reduceAdd, Nat.reduceSub, Nat.reduceLeDiff, Nat.zero_add, Option.map_some, if_true, Bool.false_eq_true, if_false, true_and, and_true, decide_eq_true_eq, reduceIte, reduceCtorEq, aN15, hxm, aKn15, keyW_str]
    refine ⟨by have := I.lk; omega, ?_⟩
    have c16 : Chg h9.length g15 (g15.set h9.length (.dic (putW kd (.inr x) (.ref g14.length)))) := Chg.set
    have a16 : (g15.set h9.length (.dic (putW kd (.inr x) (.ref g14.length))))[h9.length]? = some (.dic (putW kd (.inr x) (.ref g14.length))) := List.getElem?_set_self (lt_of_get aKn15)
    generalize g15.set h9.length (.dic (putW kd (.inr x) (.ref g14.length))) = g16 at c16 a16
    have lg16 := c16.len
    have bT : Bad b h2.length h3.length h6.length h9.length h2.length := .inr (.inl rfl)
    have bF : Bad b h2.length h3.length h6.length h9.length h3.length := .inr (.inr (.inl rfl))
    have bC : Bad b h2.length h3.length h6.length h9.length h6.length := .inr (.inr (.inr (.inl rfl)))
    have bK : Bad b h2.length h3.length h6.length h9.length h9.length := .inr (.inr (.inr (.inr rfl)))
    have bb : Bad b h2.length h3.length h6.length h9.length b := .inl rfl
    generalize hA : Bad b h2.length h3.length h6.length h9.length = A at bT bF bC bK bb
    have nA : ∀ j, hh.length ≤ j → ¬ A j := fun j hj => by rw [← hA]; unfold Bad; omega
    have F14 : Fr A g14 g16 := (Fr.bx C15 bb).trans (Fr.chg c16 bK)
    have F12 : Fr A g12 g16 := (Fr.ext y13).trans ((Fr.chg c14 bC).trans F14)
    have F8 : Fr A g8 g16 := (Fr.bx C810 bb).trans ((Fr.chg c11 bT).trans ((Fr.ext y12).trans F12))
    have F0 : Fr A hh g16 := (Fr.bx Cg5 bb).trans ((Fr.chg c6 bT).trans ((Fr.ext y7).trans ((Fr.chg c8 bF).trans F8)))
    have nf := new_forms (ks := ks) (hs := hs) (by omega) (by omega) lfs hfs hhs
    have newT : TongueAt A g16 (putW fd (.inr x) (.ref g6.length)) (putW cd (.inr x) (.ref g12.length)) x ks := by
      refine ⟨by omega, fun k hk => ?_, ⟨g6.length, fs.map cut3, by rw [getW_put, if_pos rfl], nA _ (by omega), F8.get aL8 (nA _ (by omega)), by simp; omega, nf.1, nf.2⟩, ⟨g12.length, [.tup [.str (y6 ++ Str.ofString "." ++ y9), .ref g11.length, .str p0.snd]], by rw [getW_put, if_pos rfl], nA _ (by omega), F14.get (c14.get a13 (by omega)) (nA _ (by omega)), by simp, ?_⟩⟩
      · obtain ⟨j, hj, e⟩ := List.getElem_of_mem (mks k hk)
        exact (hxs j k (by rw [← e]; exact List.getElem?_eq_getElem hj)).1.ok
      · intro c hc
        have : c = .tup [.str (y6 ++ Str.ofString "." ++ y9), .ref g11.length, .str p0.snd] := by simpa using hc
        subst this
        refine ⟨_, g11.length, (p0 :: l').map (·.2), p0.2, rfl, ((n6.append (M := 1) ⟨by omega, by decide +kernel⟩).append n9).ok, dot_mid, (hl p0 (by simp)).2, nA _ (by omega), F12.get a12' (nA _ (by omega)), by rw [List.length_map]; exact Nat.succ_pos _, by rw [List.length_map]; omega, fun k hk => ?_⟩
        obtain ⟨p, hp, rfl⟩ := List.mem_map.mp hk
        exact (hl p hp).2
    have newK : KnownAt A g16 (putW kd (.inr x) (.ref g14.length)) x ks := ⟨⟨g14.length, kl, by rw [getW_put, if_pos rfl], nA _ (by omega), c16.get a15 (by omega), l15z, hkl⟩⟩
    refine ⟨_, putW fd (.inr x) (.ref g6.length), putW cd (.inr x) (.ref g12.length), putW kd (.inr x) (.ref g14.length), _, _, _, _, _, _, _, _, _, rfl, ⟨(Cg14.trans C15).chg c16 (by omega) (by omega), c16.get aN15 (by omega), c16.get (C15.get (c14.get ((y12.trans y13).get a11) (by omega)) (by omega)) (by omega), ?_, ?_, a16, ?_, ?_, ?_, ?_, ?_, ?_⟩⟩
    · exact c16.get (C15.get (c14.get ((y12.trans y13).get (c11.get (C810.get a8 (by omega)) (by omega))) (by omega)) (by omega)) (by omega)
    · exact c16.get (C15.get a14 (by omega)) (by omega)
    · have := I.lt
      simp; omega
    · exact Nat.le_trans put_len (by have := I.lf; omega)
    · exact Nat.le_trans put_len (by have := I.lc; omega)
    · exact Nat.le_trans put_len (by have := I.lk; omega)
    · rw [hA]
      by_cases q : x = "ground"
      · rw [← q]; exact ⟨ks, newT⟩
      · obtain ⟨kg, tg⟩ := I.gr
        rw [hA] at tg
        exact ⟨kg, (tg.fr F0).put q⟩
    · rw [hA]
      intro j hj
      by_cases q : j = i
      · subst q
        exact ⟨x, ks, hx, newT, newK⟩
      · obtain ⟨x', ks', e', t', k'⟩ := I.at_ j (by omega)
        rw [hA] at t' k'
        have ne : x ≠ x' := fun z => by
          have a := (hxs _ _ hx).2
          have c := (hxs _ _ e').2
          rw [z, c] at a
          omega
        exact ⟨x', ks', e', (t'.fr F0).put ne, (k'.fr F0).put ne⟩
  · rintro s hh ⟨tw, fd, cd, kd, u1, u2, u10, u11, u12, u13, u14, u15, u16, rfl, I⟩
    rw [range_len, show Int.toNat 2 = 2 from rfl] at I
    simp only [wp_c, wp_var, slotK_some, wp_op, wp_un, wp_b, asB_bl, wp_tr, asT_some, wp_yes, wp_and, wp_or, wp_not, wp_caseB, wp_andV, wp_orV, wp_notV, wp_if, wp_nil, wp_cons, wp_tup, wp_lst, wp_cb, wp_call, wp_m0, wp_m1, wp_ml0, wp_ml, wp_isi, wp_isi2, wp_nopart, asI_int, wp_part, wp_sl, wp_seq, seqK_nx, seqK_rt, seqK_bk, seqK_ct, wp_next, wp_brk, wp_cont, wp_drop, wp_ret, wp_ifS, wp_set, wp_par, wp_par3, wp_asg, wp_pat, asP_some, wp_sub, asH_some, wp_aug, wp_for, wp_while, wp_lc, wp_lc2, wp_def, defK_rt, defK_nx, wp_miseq, srcK_ref, srcK_tup, srcK_str, rngK_int, wp_range1, wp_enum, enumK_ref, Tl_some, Ts_some, loopK_nx, loopK_ct, loopK_bk, loopK_rt, ixK_some, atI_k0, atI_k1, atI_k2, atI_k3, atI_k4, atI_k5, atI_k6, atI_k8, atI_k9, L2.atI_last, atI_n, g_ix_t, g_ix_s, g_ix_r, cIx_l, cIx_z, cIx_d, cIx_f, g_sub, g_lt, g_le, g_gt, g_ge, g_addi, g_addI, g_adds, g_addt, g_mul, g_muls, g_fdiv, g_mod, g_neg, g_eqs, g_nes, g_eqi, g_nei, g_min, g_max, g_int_b, g_int_i, g_is_non, g_cuts, g_cutt, g_lens, g_lent, g_lenr, cLen_l, cLen_z, g_tupt, g_tupr, cTup_l, g_listt, isLst_r, lstAt_r, cLst_l, cLst_z, tr_r, cTr_l, tr_b, g_set, cSet_l, cSet_d, jK_some, kK_some, ixN_0, ixN_1, ixN_2, isS, mwipe, mPat, mPats, List.getElem?_cons_zero, List.getElem?_cons_succ, List.set_cons_zero, List.set_cons_succ, List.map_cons, List.map_nil, List.length_cons, List.length_nil, List.replicate_succ, List.replicate_zero, List.cons_append, List.nil_append, Nat.reduceAdd, Nat.reduceSub, Nat.reduceLeDiff, Nat.zero_add, Option.map_some, if_true, Bool.false_eq_true, if_false, true_and, and_true, decide_eq_true_eq, reduceIte, reduceCtorEq]
    obtain ⟨pool, epool, lpool, mpool, dpool⟩ := cut_map (xs := xs) (lo := 11) (hi := 17) (by omega) (by omega)
    have hfr := I.B.len
    have lN' := lt_of_get I.eN
    refine Tl.cutl I.eN (by rw [List.length_map]; omega) fun g1 y1 m1 a1 => ?_
    rw [show cutW (xs.map W.str) (some 11) (some 17) = pool.map .str from epool] at a1
    try simp only [wp_c, wp_var, slotK_some, wp_op, wp_un, wp_b, asB_bl, wp_tr, asT_some, wp_yes, wp_and, wp_or, wp_not, wp_caseB, wp_andV, wp_orV, wp_notV, wp_if, wp_nil, wp_cons, wp_tup, wp_lst, wp_cb, wp_call, wp_m0, wp_m1, wp_ml0, wp_ml, wp_isi, wp_isi2, wp_nopart, asI_int, wp_part, wp_sl, wp_seq, seqK_nx, seqK_rt, seqK_bk, seqK_ct, wp_next, wp_brk, wp_cont, wp_drop, wp_ret, wp_ifS, wp_set, wp_par, wp_par3, wp_asg, wp_pat, asP_some, wp_sub, asH_some, wp_aug, wp_for, wp_while, wp_lc, wp_lc2, wp_def, defK_rt, defK_nx, wp_miseq, srcK_ref, srcK_tup, srcK_str, rngK_int, wp_range1, wp_enum, enumK_ref, Tl_some, Ts_some, loopK_nx, loopK_ct, loopK_bk, loopK_rt, ixK_some, atI_k0, atI_k1, atI_k2, atI_k3, atI_k4, atI_k5, atI_k6, atI_k8, atI_k9, L2.atI_last, atI_n, g_ix_t, g_ix_s, g_ix_r, cIx_l, cIx_z, cIx_d, cIx_f, g_sub, g_lt, g_le, g_gt, g_ge, g_addi, g_addI, g_adds, g_addt, g_mul, g_muls, g_fdiv, g_mod, g_neg, g_eqs, g_nes, g_eqi, g_nei, g_min, g_max, g_int_b, g_int_i, g_is_non, g_cuts, g_cutt, g_lens, g_lent, g_lenr, cLen_l, cLen_z, g_tupt, g_tupr, cTup_l, g_listt, isLst_r, lstAt_r, cLst_l, cLst_z, tr_r, cTr_l, tr_b, g_set, cSet_l, cSet_d, jK_some, kK_some, ixN_0, ixN_1, ixN_2, isS, mwipe, mPat, mPats, List.getElem?_cons_zero, List.getElem?_cons_succ, List.set_cons_zero, List.set_cons_succ, List.map_cons, List.map_nil, List.length_cons, List.length_nil, List.replicate_succ, List.replicate_zero, List.cons_append, List.nil_append, Nat.reduceAdd, Nat.reduceSub, Nat.reduceLeDiff, Nat.zero_add, Option.map_some, if_true, Bool.false_eq_true, if_false, true_and, and_true, decide_eq_true_eq, reduceIte, reduceCtorEq]
    refine Tl.disp fun g2 y2 m2 a2 => ?_
    have aT2 := (y1.trans y2).get I.eT
    have aN2 := (y1.trans y2).get I.eN
    try simp only [wp_prs, wp_prs0, keyW_str, keyK_some, wp_c, wp_var, slotK_some, wp_op, wp_un, wp_b, asB_bl, wp_tr, asT_some, wp_yes, wp_and, wp_or, wp_not, wp_caseB, wp_andV, wp_orV, wp_notV, wp_if, wp_nil, wp_cons, wp_tup, wp_lst, wp_cb, wp_call, wp_m0, wp_m1, wp_ml0, wp_ml, wp_isi, wp_isi2, wp_nopart, asI_int, wp_part, wp_sl, wp_seq, seqK_nx, seqK_rt, seqK_bk, seqK_ct, wp_next, wp_brk, wp_cont, wp_drop, wp_ret, wp_ifS, wp_set, wp_par, wp_par3, wp_asg, wp_pat, asP_some, wp_sub, asH_some, wp_aug, wp_for, wp_while, wp_lc, wp_lc2, wp_def, defK_rt, defK_nx, wp_miseq, srcK_ref, srcK_tup, srcK_str, rngK_int, wp_range1, wp_enum, enumK_ref, Tl_some, Ts_some, loopK_nx, loopK_ct, loopK_bk, loopK_rt, ixK_some, atI_k0, atI_k1, atI_k2, atI_k3, atI_k4, atI_k5, atI_k6, atI_k8, atI_k9, L2.atI_last, atI_n, g_ix_t, g_ix_s, g_ix_r, cIx_l, cIx_z, cIx_d, cIx_f, g_sub, g_lt, g_le, g_gt, g_ge, g_addi, g_addI, g_adds, g_addt, g_mul, g_muls, g_fdiv, g_mod, g_neg, g_eqs, g_nes, g_eqi, g_nei, g_min, g_max, g_int_b, g_int_i, g_is_non, g_cuts, g_cutt, g_lens, g_lent, g_lenr, cLen_l, cLen_z, g_tupt, g_tupr, cTup_l, g_listt, isLst_r, lstAt_r, cLst_l, cLst_z, tr_r, cTr_l, tr_b, g_set, cSet_l, cSet_d, jK_some, kK_some, ixN_0, ixN_1, ixN_2, isS, mwipe, mPat, mPats, List.getElem?_cons_zero, List.getElem?_cons_succ, List.set_cons_zero, List.set_cons_succ, List.map_cons, List.map_nil, List.length_cons, List.length_nil, List.replicate_succ, List.replicate_zero, List.cons_append, List.nil_append, Nat.reduceAdd, Nat.reduceSub, Nat.reduceLeDiff, Nat.zero_add, Option.map_some, if_true, Bool.false_eq_true, if_false, true_and, and_true, decide_eq_true_eq, reduceIte, reduceCtorEq, aT2]
    refine Tl.cutl aN2 (by rw [List.length_map]; omega) fun g3 y3 m3 a3 => ?_
    try simp only [wp_prs, wp_prs0, keyW_str, keyK_some, wp_c, wp_var, slotK_some, wp_op, wp_un, wp_b, asB_bl, wp_tr, asT_some, wp_yes, wp_and, wp_or, wp_not, wp_caseB, wp_andV, wp_orV, wp_notV, wp_if, wp_nil, wp_cons, wp_tup, wp_lst, wp_cb, wp_call, wp_m0, wp_m1, wp_ml0, wp_ml, wp_isi, wp_isi2, wp_nopart, asI_int, wp_part, wp_sl, wp_seq, seqK_nx, seqK_rt, seqK_bk, seqK_ct, wp_next, wp_brk, wp_cont, wp_drop, wp_ret, wp_ifS, wp_set, wp_par, wp_par3, wp_asg, wp_pat, asP_some, wp_sub, asH_some, wp_aug, wp_for, wp_while, wp_lc, wp_lc2, wp_def, defK_rt, defK_nx, wp_miseq, srcK_ref, srcK_tup, srcK_str, rngK_int, wp_range1, wp_enum, enumK_ref, Tl_some, Ts_some, loopK_nx, loopK_ct, loopK_bk, loopK_rt, ixK_some, atI_k0, atI_k1, atI_k2, atI_k3, atI_k4, atI_k5, atI_k6, atI_k8, atI_k9, L2.atI_last, atI_n, g_ix_t, g_ix_s, g_ix_r, cIx_l, cIx_z, cIx_d, cIx_f, g_sub, g_lt, g_le, g_gt, g_ge, g_addi, g_addI, g_adds, g_addt, g_mul, g_muls, g_fdiv, g_mod, g_neg, g_eqs, g_nes, g_eqi, g_nei, g_min, g_max, g_int_b, g_int_i, g_is_non, g_cuts, g_cutt, g_lens, g_lent, g_lenr, cLen_l, cLen_z, g_tupt, g_tupr, cTup_l, g_listt, isLst_r, lstAt_r, cLst_l, cLst_z, tr_r, cTr_l, tr_b, g_set, cSet_l, cSet_d, jK_some, kK_some, ixN_0, ixN_1, ixN_2, isS, mwipe, mPat, mPats, List.getElem?_cons_zero, List.getElem?_cons_succ, List.set_cons_zero, List.set_cons_succ, List.map_cons, List.map_nil, List.length_cons, List.length_nil, List.replicate_succ, List.replicate_zero, List.cons_append, List.nil_append, Nat.reduceAdd, Nat.reduceSub, Nat.reduceLeDiff, Nat.zero_add, Option.map_some, if_true, Bool.false_eq_true, if_false, true_and, and_true, decide_eq_true_eq, reduceIte, reduceCtorEq]
    refine ⟨y3.get a2, fun g4 c4 a4 => ?_⟩
    have lg1 := y1.len
    have lg2 := y2.len
    have lg3 := y3.len
    have lg4 := c4.len
    have lF := lt_of_get I.eF
    have lC := lt_of_get I.eC
    have lK := lt_of_get I.eK
    have Y : Ext hh g3 := (y1.trans y2).trans y3
    have Yc : Ext hh g4 := Y.chg c4 (by omega)
    have F : Fr (Bad b h2.length h3.length h6.length h9.length) hh g4 := Fr.ext Yc
    have sub : ∀ i, i = b → Bad b h2.length h3.length h6.length h9.length i := fun i e => .inl e
    obtain ⟨x0, ks0, ex0, t0, k0⟩ := I.at_ 0 (by omega)
    obtain ⟨x1, ks1, ex1, t1, k1⟩ := I.at_ 1 (by omega)
    obtain ⟨kg, tg⟩ := I.gr
    have own : cutW (xs.map W.str) none (some 2) = [.str x0, .str x1] := by
      have e0 : ∃ r, xs = x0 :: x1 :: r := by
        cases xs with
        | nil => simp at ex0
        | cons a r =>
          cases r with
          | nil => simp at ex1
          | cons c r =>
            simp at ex0 ex1
            exact ⟨r, by rw [ex0, ex1]⟩
      obtain ⟨r, rfl⟩ := e0
      unfold cutW
      rw [HT.sIx_none, show HT.sIx ((x0 :: x1 :: r).map W.str).length ((x0 :: x1 :: r).map W.str).length (some 2) = 2 by
        rw [show (2 : Int) = ((2 : Nat) : Int) from rfl, HT.sIx_nat]; simp at lxs ⊢]
      rfl
    rw [own] at a3
    refine ⟨_, rfl, (I.B.ext Y).chg c4 (by omega) (by omega), by omega, ⟨⟨h3.length, h6.length, hh.length, g2.length, h9.length, _, fd, cd, kd, pool, x0, x1, (hxs _ _ ex0).1.ok, (hxs _ _ ex1).1.ok, by omega, by omega, by omega, by omega, by omega, by omega, a4, ?_, ?_, ?_, ?_, ?_, Yc.get I.eF, Yc.get I.eC, Yc.get I.eK, c4.get ((y2.trans y3).get a1) (by omega), c4.get a3 (by omega), by omega, ?_, ?_, ⟨ks0, (t0.fr F).sub sub, (k0.fr F).sub sub⟩, ⟨ks1, (t1.fr F).sub sub, (k1.fr F).sub sub⟩, kg, (tg.fr F).sub sub⟩⟩⟩
    · rfl
    · rfl
    · rfl
    · rfl
    · rfl
    · intro q hq
      obtain ⟨j, hj, e⟩ := List.getElem_of_mem (mpool q hq)
      exact (hxs j q (by rw [← e]; exact List.getElem?_eq_getElem hj)).1.ok
    · obtain ⟨p11, e11⟩ : ∃ p, xs[11]? = some p := ⟨xs[11], List.getElem?_eq_getElem (by omega)⟩
      obtain ⟨p12, e12⟩ : ∃ p, xs[12]? = some p := ⟨xs[12], List.getElem?_eq_getElem (by omega)⟩
      refine ⟨p11, p12, ?_, ?_, fun z => ?_⟩
      · refine List.mem_of_getElem? (i := 0) ?_
        rw [dpool, List.getElem?_take_of_lt (by omega), List.getElem?_drop]; exact e11
      · refine List.mem_of_getElem? (i := 1) ?_
        rw [dpool, List.getElem?_take_of_lt (by omega), List.getElem?_drop]; exact e12
      · have a := (hxs _ _ e11).2
        have c := (hxs _ _ e12).2
        rw [z, c] at a
        omega
end K03

namespace K03
open PySem PySem.Spec PyProof.Rows L2 Mi
/-! trees as terms -/
def isT : W → Bool
  | .tup _ => true
  | _ => false
def isP : W → Bool
  | .int _ => true
  | .str _ => true
  | _ => false
/-- a term of at most so many levels -/
inductive Tm : Nat → W → Prop
  | name {n : Nat} {x : Str} (hx : PyData.strOk x = true) : Tm n (.tup [.str "name", .str x])
  | call {n : Nat} {f : Str} {a : List W} (hf : PyData.strOk f = true) (k : ∀ w ∈ a, Tm n w) (l : a.length ≤ 3) : Tm (n + 1) (.tup [.str "call", .str f, .tup a])
  | use {n : Nat} {t h : Str} {a : List W} (ht : PyData.strOk t = true) (hh : PyData.strOk h = true) (kp : ∀ w ∈ a, isP w = true → okT w = true) (k : ∀ w ∈ a, isP w = false → Tm n w) (l : a.length ≤ 7) (l3 : (a.filter isT).length ≤ 3) : Tm (n + 1) (.tup [.str "use", .str t, .str h, .tup a])
theorem Tm.isT {n : Nat} {w : W} (t : Tm n w) : isT w = true := by cases t <;> rfl
def KindOk (mu : Bool) (ks : List Str) (kind : W) : Prop := (mu = true ∧ kind = .non) ∨ (mu = false ∧ ∃ k ∈ ks, kind = .str k)
theorem KindOk.flat {mu : Bool} {ks : List Str} {kind : W} (h : KindOk mu ks kind) : flatW kind = true := by
  rcases h with ⟨_, rfl⟩ | ⟨_, k, _, rfl⟩ <;> rfl
theorem KindOk.non {mu : Bool} {ks : List Str} {kind : W} (h : KindOk mu ks kind) : isNon kind = mu := by
  rcases h with ⟨rfl, rfl⟩ | ⟨rfl, k, _, rfl⟩ <;> rfl
/-- what a term is drawn of -/
structure Scene (b : Nat) (h : MH) (wd o : Nat) (mu : Bool) (ksA : List Str) : Prop where
  at_ : ∃ (F C N : Nat) (D fd cd : List (Key × W)) (pool ts : List Str), (∀ t ∈ ts, PyData.strOk t = true) ∧ wd ≠ b ∧ F ≠ b ∧ C ≠ b ∧ N ≠ b ∧ o ≠ b ∧ h[wd]? = some (.dic D) ∧
    getW D (.inr "forms") = some (.ref F) ∧ getW D (.inr "calls") = some (.ref C) ∧ getW D (.inr "names") = some (.ref N) ∧
    h[F]? = some (.dic fd) ∧ h[C]? = some (.dic cd) ∧ h[N]? = some (.lst (pool.map .str)) ∧ h[o]? = some (.lst (ts.map .str)) ∧
    pool.length = 6 ∧ (∀ p ∈ pool, PyData.strOk p = true) ∧ (∃ p q, p ∈ pool ∧ q ∈ pool ∧ p ≠ q) ∧ 0 < ts.length ∧ ts.length ≤ 3 ∧ ∀ t ∈ ts, ∃ ks, TongueAt (· = b) h fd cd t ks ∧ (mu = false → ks = ksA)
theorem Scene.bx {b : Nat} {h h' : MH} {wd o : Nat} {mu : Bool} {ksA : List Str} (w : Scene b h wd o mu ksA) (B : Bx b h h') : Scene b h' wd o mu ksA := by
  obtain ⟨F, C, N, D, fd, cd, pool, ts, tok, n1, n2, n3, n4, n5, e1, g1, g2, g3, e2, e3, e4, e5, l, p, u, t0, t1, t2⟩ := w.at_
  have f : Fr (· = b) h h' := Fr.bx B rfl
  exact ⟨F, C, N, D, fd, cd, pool, ts, tok, n1, n2, n3, n4, n5, B.get e1 n1, g1, g2, g3, B.get e2 n2, B.get e3 n3, B.get e4 n4, B.get e5 n5, l, p, u, t0, t1, fun t ht => by
    obtain ⟨ks, a, c⟩ := t2 t ht
    exact ⟨ks, a.fr f, c⟩⟩
/-- names known -/
structure Known (b : Nat) (h : MH) (kn : Nat) (l : List (Str × Str)) : Prop where
  ne : kn ≠ b
  at_ : h[kn]? = some (.lst (pairsOf l))
  ok : ∀ p ∈ l, PyData.strOk p.1 = true
theorem Known.bx {b : Nat} {h h' : MH} {kn : Nat} {l : List (Str × Str)} (k : Known b h kn l) (B : Bx b h h') : Known b h' kn l := ⟨k.ne, B.get k.at_ k.ne, k.ok⟩
/-- a def that draws a term of so many levels by a room -/
def Draws (n b wd o : Nat) (mu : Bool) (ksA : List Str) (d : Nat) (r : Int) (most : Nat) (F : MF) : Prop := ∀ (h : MH) (kn : Nat) (l : List (Str × Str)) (kind : W) (room : Int), IsBox h b → Scene b h wd o mu ksA → Known b h kn l → l.length ≤ most → KindOk mu ksA kind → room ≤ r →
  Tl (F n [.ref b, .ref wd, .ref o, .ref kn, kind, .int room] h) fun w h' => Tm d w ∧ Bx b h h'
theorem tagIs_it {K : Str → Prop} {m : Nat} {x : W} (h : ItOk K m x) : (∃ t, S4 t ∧ ∀ u, tagIs u x = decide (t = u)) := by
  rcases h with rfl | ⟨z, rfl, _⟩ | ⟨k, rfl, _⟩ | ⟨k, ops, rfl, _⟩
  · exact ⟨"lit", .inl rfl, fun u => rfl⟩
  · exact ⟨"sign", .inr (.inr (.inr rfl)), fun u => rfl⟩
  · exact ⟨"name", .inr (.inl rfl), fun u => rfl⟩
  · exact ⟨"term", .inr (.inr (.inl rfl)), fun u => rfl⟩
theorem cnt_snoc {t : Str} {xs : List W} {i : Nat} {x : W} (e : xs[i]? = some x) : cnt t (xs.take (i + 1)) = cnt t (xs.take i) + (if tagIs t x = true then 1 else 0) := by
  rw [List.take_add_one, e]
  show cnt t (xs.take i ++ [x]) = _
  rw [cnt_app]
  congr 1
  by_cases c : tagIs t x = true <;> simp [cnt, c]
theorem cnt_le {t : Str} {xs : List W} {i : Nat} : cnt t (xs.take i) ≤ cnt t xs := by
  have : cnt t xs = cnt t (xs.take i) + cnt t (xs.drop i) := by rw [← cnt_app, List.take_append_drop]
  omega
theorem inW_strs {y : Str} : ∀ zs : List Str, inW (.str y) (zs.map W.str) = decide (y ∈ zs)
  | [] => rfl
  | z :: zs => by
    have ih := inW_strs (y := y) zs
    unfold inW at ih ⊢
    rw [List.map_cons, List.any_cons, ih]
    have : eqV (flV (.str z)) (flV (.str y)) = decide (y = z) := by
      show (z == y) = _
      by_cases c : y = z
      · subst c; simp
      · rw [decide_eq_false c]; exact beq_eq_false_iff_ne.mpr fun w => c w.symm
    rw [this]
    by_cases c : y = z <;> simp [c]
theorem in_strs {h : MH} {r : Nat} {y : Str} {zs : List Str} (e : h[r]? = some (.lst (zs.map .str))) : gInD true gNotIn (.str y) (.ref r) h = some (.bl (!decide (y ∈ zs)), h) := by
  have e1 : dicAt h r = none := by simp [dicAt, e]
  have f : (zs.map W.str).all flatW = true := by rw [List.all_eq_true]; intro x hx; obtain ⟨z, _, rfl⟩ := List.mem_map.mp hx; rfl
  have f2 : flatW (.str y) = true := rfl
  have : hasW (.str y) (.ref r) h = some (decide (y ∈ zs)) := by
    show (match seqOf h (.ref r) with | some xs => if (flatW (.str y) && xs.all flatW) = true then some (inW (.str y) xs) else none | none => none) = _
    rw [show seqOf h (.ref r) = some (zs.map .str) from lstAt_lst e]
    simp only [f, f2, Bool.and_self, if_true, inW_strs]
  simp [gInD, e1, gNotIn, this]
def fstW : W → W
  | .tup [a, _] => a
  | x => x
theorem pairs_app {l m : List (Str × Str)} : pairsOf l ++ pairsOf m = pairsOf (l ++ m) := by simp [pairsOf]
theorem map_fst {l : List (Str × Str)} : (pairsOf l).map fstW = (l.map (·.1)).map .str := by simp [pairsOf, fstW]
def pickO (made : List (Str × Str)) : W → Str × Str
  | .int j => made[j.toNat]?.getD ("", "")
  | _ => ("", "")
theorem use_spec {n b wd o kn : Nat} {mu : Bool} {ks ksA : List Str} {d : Nat} {r room : Int} {most : Nat} {F : MF} {h : MH} {t hd : Str} {its : List W} {l : List (Str × Str)} (htok : PyData.strOk t = true) (hhok : PyData.strOk hd = true) (hn : 1000 ≤ n) (hm : most ≤ 900) (hb : IsBox h b) (sc : Scene b h wd o mu ksA) (kw : Known b h kn l) (hl : l.length + 7 ≤ most)
    (hi : ItsOk (· ∈ ks) its) (hks : mu = false → ks = ksA) (kok : ∀ k ∈ ks, PyData.strOk k = true) (HF : 0 < cnt "term" its → Draws n b wd o mu ksA d r most F) (hr : 0 < cnt "term" its → room * 2 / 3 ≤ r) :
    Tl (f__law_use F n [.ref b, .ref wd, .ref o, .ref kn, .tup [.str t, .str hd, .tup its, .bl mu, .int room]] h) fun w h' => Tm (d + 1) w ∧ Bx b h h' := by
  unfold f__law_use B__law_use
  simp only [wp_c, wp_var, slotK_some, wp_op, wp_un, wp_b, asB_bl, wp_tr, asT_some, wp_yes, wp_and, wp_or, wp_not, wp_caseB, wp_andV, wp_orV, wp_notV, wp_if, wp_nil, wp_cons, wp_tup, wp_lst, wp_cb, wp_call, wp_m0, wp_m1, wp_ml0, wp_ml, wp_isi, wp_isi2, wp_nopart, asI_int, wp_part, wp_sl, wp_seq, seqK_nx, seqK_rt, seqK_bk, seqK_ct, wp_next, wp_brk, wp_cont, wp_drop, wp_ret, wp_ifS, wp_set, wp_par, wp_par3, wp_asg, wp_pat, asP_some, wp_sub, asH_some, wp_aug, wp_for, wp_while, wp_lc, wp_lc2, wp_def, defK_rt, defK_nx, wp_miseq, srcK_ref, srcK_tup, srcK_str, rngK_int, wp_range1, wp_enum, enumK_ref, Tl_some, Ts_some, loopK_nx, loopK_ct, loopK_bk, loopK_rt, ixK_some, atI_k0, atI_k1, atI_k2, atI_k3, atI_k4, atI_k5, atI_k6, atI_k8, atI_k9, L2.atI_last, atI_n, g_ix_t, g_ix_s, g_ix_r, cIx_l, cIx_z, cIx_d, cIx_f, g_sub, g_lt, g_le, g_gt, g_ge, g_addi, g_addI, g_adds, g_addt, g_mul, g_muls, g_fdiv, g_mod, g_neg, g_eqs, g_nes, g_eqi, g_nei, g_min, g_max, g_int_b, g_int_i, g_is_non, g_cuts, g_cutt, g_lens, g_lent, g_lenr, cLen_l, cLen_z, g_tupt, g_tupr, cTup_l, g_listt, isLst_r, lstAt_r, cLst_l, cLst_z, tr_r, cTr_l, tr_b, g_set, cSet_l, cSet_d, jK_some, kK_some, ixN_0, ixN_1, ixN_2, isS, mwipe, mPat, mPats, List.getElem?_cons_zero, List.getElem?_cons_succ, List.set_cons_zero, List.set_cons_succ, List.map_cons, List.map_nil, List.length_cons, List.length_nil, List.replicate_succ, List.replicate_zero, List.cons_append, List.nil_append, Nat.reduceAdd, Nat.reduceSub, Nat.reduceLeDiff, Nat.zero_add, Option.map_some, if_true, Bool.false_eq_true, if_false, true_and, and_true, decide_eq_true_eq, reduceIte, reduceCtorEq]
  refine Tl.newL (by decide) fun h1 x1 l1 e1 => ?_
  refine Tl.newL (by decide) fun h2 x2 l2 e2 => ?_
  try simp only [wp_c, wp_var, slotK_some, wp_op, wp_un, wp_b, asB_bl, wp_tr, asT_some, wp_yes, wp_and, wp_or, wp_not, wp_caseB, wp_andV, wp_orV, wp_notV, wp_if, wp_nil, wp_cons, wp_tup, wp_lst, wp_cb, wp_call, wp_m0, wp_m1, wp_ml0, wp_ml, wp_isi, wp_isi2, wp_nopart, asI_int, wp_part, wp_sl, wp_seq, seqK_nx, seqK_rt, seqK_bk, seqK_ct, wp_next, wp_brk, wp_cont, wp_drop, wp_ret, wp_ifS, wp_set, wp_par, wp_par3, wp_asg, wp_pat, asP_some, wp_sub, asH_some, wp_aug, wp_for, wp_while, wp_lc, wp_lc2, wp_def, defK_rt, defK_nx, wp_miseq, srcK_ref, srcK_tup, srcK_str, rngK_int, wp_range1, wp_enum, enumK_ref, Tl_some, Ts_some, loopK_nx, loopK_ct, loopK_bk, loopK_rt, ixK_some, atI_k0, atI_k1, atI_k2, atI_k3, atI_k4, atI_k5, atI_k6, atI_k8, atI_k9, L2.atI_last, atI_n, g_ix_t, g_ix_s, g_ix_r, cIx_l, cIx_z, cIx_d, cIx_f, g_sub, g_lt, g_le, g_gt, g_ge, g_addi, g_addI, g_adds, g_addt, g_mul, g_muls, g_fdiv, g_mod, g_neg, g_eqs, g_nes, g_eqi, g_nei, g_min, g_max, g_int_b, g_int_i, g_is_non, g_cuts, g_cutt, g_lens, g_lent, g_lenr, cLen_l, cLen_z, g_tupt, g_tupr, cTup_l, g_listt, isLst_r, lstAt_r, cLst_l, cLst_z, tr_r, cTr_l, tr_b, g_set, cSet_l, cSet_d, jK_some, kK_some, ixN_0, ixN_1, ixN_2, isS, mwipe, mPat, mPats, List.getElem?_cons_zero, List.getElem?_cons_succ, List.set_cons_zero, List.set_cons_succ, List.map_cons, List.map_nil, List.length_cons, List.length_nil, List.replicate_succ, List.replicate_zero, List.cons_append, List.nil_append, Nat.reduceAdd, Nat.reduceSub, Nat.reduceLeDiff, Nat.zero_add, Option.map_some, if_true, Bool.false_eq_true, if_false, true_and, and_true, decide_eq_true_eq, reduceIte, reduceCtorEq]
  have hil := hi.len
  refine Tl.tags (xs := its) (fun _ _ => is_items) hi.tagd (by omega) (by omega) (fun h3 x3 e3 => ?_)
  obtain ⟨many, em⟩ : ∃ many : Int, (if (((its.filter (tagIs (Str.ofString "term"))).length : Nat) : Int) > 1 then (((its.filter (tagIs (Str.ofString "term"))).length : Nat) : Int) else 1) = many := ⟨_, rfl⟩
  have hmany : 0 < many ∧ many < 10 := by
    have := List.length_filter_le (tagIs (Str.ofString "term")) its
    rw [← em]; split <;> omega
  simp only [wp_c, wp_var, slotK_some, wp_op, wp_un, wp_b, asB_bl, wp_tr, asT_some, wp_yes, wp_and, wp_or, wp_not, wp_caseB, wp_andV, wp_orV, wp_notV, wp_if, wp_nil, wp_cons, wp_tup, wp_lst, wp_cb, wp_call, wp_m0, wp_m1, wp_ml0, wp_ml, wp_isi, wp_isi2, wp_nopart, asI_int, wp_part, wp_sl, wp_seq, seqK_nx, seqK_rt, seqK_bk, seqK_ct, wp_next, wp_brk, wp_cont, wp_drop, wp_ret, wp_ifS, wp_set, wp_par, wp_par3, wp_asg, wp_pat, asP_some, wp_sub, asH_some, wp_aug, wp_for, wp_while, wp_lc, wp_lc2, wp_def, defK_rt, defK_nx, wp_miseq, srcK_ref, srcK_tup, srcK_str, rngK_int, wp_range1, wp_enum, enumK_ref, Tl_some, Ts_some, loopK_nx, loopK_ct, loopK_bk, loopK_rt, ixK_some, atI_k0, atI_k1, atI_k2, atI_k3, atI_k4, atI_k5, atI_k6, atI_k8, atI_k9, L2.atI_last, atI_n, g_ix_t, g_ix_s, g_ix_r, cIx_l, cIx_z, cIx_d, cIx_f, g_sub, g_lt, g_le, g_gt, g_ge, g_addi, g_addI, g_adds, g_addt, g_mul, g_muls, g_fdiv, g_mod, g_neg, g_eqs, g_nes, g_eqi, g_nei, g_min, g_max, g_int_b, g_int_i, g_is_non, g_cuts, g_cutt, g_lens, g_lent, g_lenr, cLen_l, cLen_z, g_tupt, g_tupr, cTup_l, g_listt, isLst_r, lstAt_r, cLst_l, cLst_z, tr_r, cTr_l, tr_b, g_set, cSet_l, cSet_d, jK_some, kK_some, ixN_0, ixN_1, ixN_2, isS, mwipe, mPat, mPats, List.getElem?_cons_zero, List.getElem?_cons_succ, List.set_cons_zero, List.set_cons_succ, List.map_cons, List.map_nil, List.length_cons, List.length_nil, List.replicate_succ, List.replicate_zero, List.cons_append, List.nil_append, Nat.reduceAdd, Nat.reduceSub, Nat.reduceLeDiff, Nat.zero_add, Option.map_some, if_true, Bool.false_eq_true, if_false, true_and, and_true, decide_eq_true_eq, reduceIte, reduceCtorEq, e3, em]
  have hbl := hb.lt
  have X3 : Ext h h3 := (x1.trans x2).trans x3
  have lx3 := x3.len
  refine Ts.for_ its (fun i s hh => ∃ ths made u6 u14 u15 u16 u17 u18 u19 u20 u21, s = [some (.ref b), some (.ref wd), some (.ref o), some (.ref kn), some (.tup [.str t, .str hd, .tup its, .bl mu, .int room]), some (.int many), u6, some (.tup its), some (.str t), some (.str hd), some (.bl mu), some (.int room), some (.ref h.length), some (.ref h1.length), u14, u15, u16, u17, u18, u19, u20, u21] ∧
      Bx b h hh ∧ hh[h.length]? = some (.lst ths) ∧ hh[h1.length]? = some (.lst (pairsOf made)) ∧ made.length = cnt "name" (its.take i) ∧ ths.length ≤ i ∧ (∀ w ∈ ths, isP w = false → Tm d w) ∧ (∀ w ∈ ths, isP w = true → okT w = true) ∧ (ths.filter isT).length ≤ cnt "term" (its.take i) ∧ ∀ p ∈ made, PyData.strOk p.1 = true)
    (fun _ _ _ _ => is_items) (by omega) ?_ ?_ ?_
  · exact ⟨[], [], _, _, _, _, _, _, _, _, _, rfl, X3.toBx hb, (x2.trans x3).get e1, x3.get e2, rfl, Nat.le_refl _, by simp, by simp, by simp, by simp⟩
  · rintro i x s hh ex ⟨ths, made, u6, u14, u15, u16, u17, u18, u19, u20, u21, rfl, B, eT, eM, lm, lt, hth, hpt, ft, hmd⟩
    have hil' := lt_of_get ex
    have hx := hi.at_ i x ex
    have lhh := B.len
    have lt1 := lt_of_get eT
    have lt2 := lt_of_get eM
    have cN := cnt_snoc (t := "name") ex
    have cT := cnt_snoc (t := "term") ex
    rcases hx with rfl | ⟨z, rfl, hz⟩ | ⟨k, rfl, hk⟩ | ⟨k, ops, rfl, hk, lo, hops⟩
    · simp only [wp_c, wp_var, slotK_some, wp_op, wp_un, wp_b, asB_bl, wp_tr, asT_some, wp_yes, wp_and, wp_or, wp_not, wp_caseB, wp_andV, wp_orV, wp_notV, wp_if, wp_nil, wp_cons, wp_tup, wp_lst, wp_cb, wp_call, wp_m0, wp_m1, wp_ml0, wp_ml, wp_isi, wp_isi2, wp_nopart, asI_int, wp_part, wp_sl, wp_seq, seqK_nx, seqK_rt, seqK_bk, seqK_ct, wp_next, wp_brk, wp_cont, wp_drop, wp_ret, wp_ifS, wp_set, wp_par, wp_par3, wp_asg, wp_pat, asP_some, wp_sub, asH_some, wp_aug, wp_for, wp_while, wp_lc, wp_lc2, wp_def, defK_rt, defK_nx, wp_miseq, srcK_ref, srcK_tup, srcK_str, rngK_int, wp_range1, wp_enum, enumK_ref, Tl_some, Ts_some, loopK_nx, loopK_ct, loopK_bk, loopK_rt, ixK_some, atI_k0, atI_k1, atI_k2, atI_k3, atI_k4, atI_k5, atI_k6, atI_k8, atI_k9, L2.atI_last, atI_n, g_ix_t, g_ix_s, g_ix_r, cIx_l, cIx_z, cIx_d, cIx_f, g_sub, g_lt, g_le, g_gt, g_ge, g_addi, g_addI, g_adds, g_addt, g_mul, g_muls, g_fdiv, g_mod, g_neg, g_eqs, g_nes, g_eqi, g_nei, g_min, g_max, g_int_b, g_int_i, g_is_non, g_cuts, g_cutt, g_lens, g_lent, g_lenr, cLen_l, cLen_z, g_tupt, g_tupr, cTup_l, g_listt, isLst_r, lstAt_r, cLst_l, cLst_z, tr_r, cTr_l, tr_b, g_set, cSet_l, cSet_d, jK_some, kK_some, ixN_0, ixN_1, ixN_2, isS, mwipe, mPat, mPats, List.getElem?_cons_zero, List.getElem?_cons_succ, List.set_cons_zero, List.set_cons_succ, List.map_cons, List.map_nil, List.length_cons, List.length_nil, List.replicate_succ, List.replicate_zero, List.cons_append, List.nil_append, Nat.reduceAdd, Nat.reduceSub, Nat.reduceLeDiff, Nat.zero_add, Option.map_some, if_true, Bool.false_eq_true, if_false, true_and, and_true, decide_eq_true_eq, reduceIte, reduceCtorEq, n1, n2, eT]
      refine (take_spec B.box (by decide) (by decide)).by ?_
      rintro _ g1 ⟨v, rfl, v0, v1, B1⟩
      refine Tl.app (B1.get eT (by omega)) (by omega) fun g2 c2 e2 => ?_
      try simp only [wp_c, wp_var, slotK_some, wp_op, wp_un, wp_b, asB_bl, wp_tr, asT_some, wp_yes, wp_and, wp_or, wp_not, wp_caseB, wp_andV, wp_orV, wp_notV, wp_if, wp_nil, wp_cons, wp_tup, wp_lst, wp_cb, wp_call, wp_m0, wp_m1, wp_ml0, wp_ml, wp_isi, wp_isi2, wp_nopart, asI_int, wp_part, wp_sl, wp_seq, seqK_nx, seqK_rt, seqK_bk, seqK_ct, wp_next, wp_brk, wp_cont, wp_drop, wp_ret, wp_ifS, wp_set, wp_par, wp_par3, wp_asg, wp_pat, asP_some, wp_sub, asH_some, wp_aug, wp_for, wp_while, wp_lc, wp_lc2, wp_def, defK_rt, defK_nx, wp_miseq, srcK_ref, srcK_tup, srcK_str, rngK_int, wp_range1, wp_enum, enumK_ref, Tl_some, Ts_some, loopK_nx, loopK_ct, loopK_bk, loopK_rt, ixK_some, atI_k0, atI_k1, atI_k2, atI_k3, atI_k4, atI_k5, atI_k6, atI_k8, atI_k9, L2.atI_last, atI_n, g_ix_t, g_ix_s, g_ix_r, cIx_l, cIx_z, cIx_d, cIx_f, g_sub, g_lt, g_le, g_gt, g_ge, g_addi, g_addI, g_adds, g_addt, g_mul, g_muls, g_fdiv, g_mod, g_neg, g_eqs, g_nes, g_eqi, g_nei, g_min, g_max, g_int_b, g_int_i, g_is_non, g_cuts, g_cutt, g_lens, g_lent, g_lenr, cLen_l, cLen_z, g_tupt, g_tupr, cTup_l, g_listt, isLst_r, lstAt_r, cLst_l, cLst_z, tr_r, cTr_l, tr_b, g_set, cSet_l, cSet_d, jK_some, kK_some, ixN_0, ixN_1, ixN_2, isS, mwipe, mPat, mPats, List.getElem?_cons_zero, List.getElem?_cons_succ, List.set_cons_zero, List.set_cons_succ, List.map_cons, List.map_nil, List.length_cons, List.length_nil, List.replicate_succ, List.replicate_zero, List.cons_append, List.nil_append, Nat.reduceAdd, Nat.reduceSub, Nat.reduceLeDiff, Nat.zero_add, Option.map_some, if_true, Bool.false_eq_true, if_false, true_and, and_true, decide_eq_true_eq, reduceIte, reduceCtorEq, n1, n2]
      refine ⟨ths ++ [.int v], made, _, _, _, _, _, _, _, _, _, rfl, (B.trans B1).chg c2 (Nat.le_refl _) (by omega), e2, c2.get (B1.get eM (by omega)) (by omega), by rw [lm, cN]; rfl, by simp; omega, fun w hw p => ?_, fun w hw p => ?_, by rw [cT]; simpa [isT] using Nat.le_trans ft (Nat.le_add_right _ _), hmd⟩
      · rcases List.mem_append.mp hw with q | q
        · exact hth w q p
        · rw [List.mem_singleton.mp q] at p; cases p
      · rcases List.mem_append.mp hw with q | q
        · exact hpt w q p
        · rw [List.mem_singleton.mp q]; rfl
    · simp only [wp_c, wp_var, slotK_some, wp_op, wp_un, wp_b, asB_bl, wp_tr, asT_some, wp_yes, wp_and, wp_or, wp_not, wp_caseB, wp_andV, wp_orV, wp_notV, wp_if, wp_nil, wp_cons, wp_tup, wp_lst, wp_cb, wp_call, wp_m0, wp_m1, wp_ml0, wp_ml, wp_isi, wp_isi2, wp_nopart, asI_int, wp_part, wp_sl, wp_seq, seqK_nx, seqK_rt, seqK_bk, seqK_ct, wp_next, wp_brk, wp_cont, wp_drop, wp_ret, wp_ifS, wp_set, wp_par, wp_par3, wp_asg, wp_pat, asP_some, wp_sub, asH_some, wp_aug, wp_for, wp_while, wp_lc, wp_lc2, wp_def, defK_rt, defK_nx, wp_miseq, srcK_ref, srcK_tup, srcK_str, rngK_int, wp_range1, wp_enum, enumK_ref, Tl_some, Ts_some, loopK_nx, loopK_ct, loopK_bk, loopK_rt, ixK_some, atI_k0, atI_k1, atI_k2, atI_k3, atI_k4, atI_k5, atI_k6, atI_k8, atI_k9, L2.atI_last, atI_n, g_ix_t, g_ix_s, g_ix_r, cIx_l, cIx_z, cIx_d, cIx_f, g_sub, g_lt, g_le, g_gt, g_ge, g_addi, g_addI, g_adds, g_addt, g_mul, g_muls, g_fdiv, g_mod, g_neg, g_eqs, g_nes, g_eqi, g_nei, g_min, g_max, g_int_b, g_int_i, g_is_non, g_cuts, g_cutt, g_lens, g_lent, g_lenr, cLen_l, cLen_z, g_tupt, g_tupr, cTup_l, g_listt, isLst_r, lstAt_r, cLst_l, cLst_z, tr_r, cTr_l, tr_b, g_set, cSet_l, cSet_d, jK_some, kK_some, ixN_0, ixN_1, ixN_2, isS, mwipe, mPat, mPats, List.getElem?_cons_zero, List.getElem?_cons_succ, List.set_cons_zero, List.set_cons_succ, List.map_cons, List.map_nil, List.length_cons, List.length_nil, List.replicate_succ, List.replicate_zero, List.cons_append, List.nil_append, Nat.reduceAdd, Nat.reduceSub, Nat.reduceLeDiff, Nat.zero_add, Option.map_some, if_true, Bool.false_eq_true, if_false, true_and, and_true, decide_eq_true_eq, reduceIte, reduceCtorEq, n10, n11, n12]
      exact ⟨ths, made, _, _, _, _, _, _, _, _, _, rfl, B, eT, eM, by rw [lm, cN]; rfl, by omega, hth, hpt, by rw [cT]; exact Nat.le_trans ft (Nat.le_add_right _ _), hmd⟩
    · obtain ⟨wF, wC, wN, wD, wfd, wcd, pool, ts, _, q1, q2, q3, q4, q5, eD, g1, g2, g3, eF, eC, eN, eo, lp, pok, ⟨pp, pq, hp1, hp2, hpq⟩, _⟩ := (sc.bx B).at_
      have lm1 : made.length ≤ 1 := by
        have a := cnt_le (t := "name") (xs := its) (i := i + 1)
        have b := hi.nm
        rw [cN, ← lm] at a
        simp only [tagIs, decide_true, if_true] at a
        omega
      simp only [wp_c, wp_var, slotK_some, wp_op, wp_un, wp_b, asB_bl, wp_tr, asT_some, wp_yes, wp_and, wp_or, wp_not, wp_caseB, wp_andV, wp_orV, wp_notV, wp_if, wp_nil, wp_cons, wp_tup, wp_lst, wp_cb, wp_call, wp_m0, wp_m1, wp_ml0, wp_ml, wp_isi, wp_isi2, wp_nopart, asI_int, wp_part, wp_sl, wp_seq, seqK_nx, seqK_rt, seqK_bk, seqK_ct, wp_next, wp_brk, wp_cont, wp_drop, wp_ret, wp_ifS, wp_set, wp_par, wp_par3, wp_asg, wp_pat, asP_some, wp_sub, asH_some, wp_aug, wp_for, wp_while, wp_lc, wp_lc2, wp_def, defK_rt, defK_nx, wp_miseq, srcK_ref, srcK_tup, srcK_str, rngK_int, wp_range1, wp_enum, enumK_ref, Tl_some, Ts_some, loopK_nx, loopK_ct, loopK_bk, loopK_rt, ixK_some, atI_k0, atI_k1, atI_k2, atI_k3, atI_k4, atI_k5, atI_k6, atI_k8, atI_k9, L2.atI_last, atI_n, g_ix_t, g_ix_s, g_ix_r, cIx_l, cIx_z, cIx_d, cIx_f, g_sub, g_lt, g_le, g_gt, g_ge, g_addi, g_addI, g_adds, g_addt, g_mul, g_muls, g_fdiv, g_mod, g_neg, g_eqs, g_nes, g_eqi, g_nei, g_min, g_max, g_int_b, g_int_i, g_is_non, g_cuts, g_cutt, g_lens, g_lent, g_lenr, cLen_l, cLen_z, g_tupt, g_tupr, cTup_l, g_listt, isLst_r, lstAt_r, cLst_l, cLst_z, tr_r, cTr_l, tr_b, g_set, cSet_l, cSet_d, jK_some, kK_some, ixN_0, ixN_1, ixN_2, isS, mwipe, mPat, mPats, List.getElem?_cons_zero, List.getElem?_cons_succ, List.set_cons_zero, List.set_cons_succ, List.map_cons, List.map_nil, List.length_cons, List.length_nil, List.replicate_succ, List.replicate_zero, List.cons_append, List.nil_append, Nat.reduceAdd, Nat.reduceSub, Nat.reduceLeDiff, Nat.zero_add, Option.map_some, if_true, Bool.false_eq_true, if_false, true_and, and_true, decide_eq_true_eq, reduceIte, reduceCtorEq, n4, n5, eD, keyW_str, Option.bind_some, g3, eN]
      refine Tl.lc_e (xs := pool.map .str) (fun x => match x with | .str y => !decide (y ∈ made.map (·.1)) | _ => false) id (fun _ x => is_cell (x.get eN)) (by rw [List.length_map]; omega) (by rw [List.length_map]; omega) ?_ ?_
      · intro x hx g1 y1
        obtain ⟨y, hy, rfl⟩ := List.mem_map.mp hx
        refine ⟨_, rfl, ?_⟩
        have eM1 := y1.get eM
        simp only [wp_c, wp_var, slotK_some, wp_op, wp_un, wp_b, asB_bl, wp_tr, asT_some, wp_yes, wp_and, wp_or, wp_not, wp_caseB, wp_andV, wp_orV, wp_notV, wp_if, wp_nil, wp_cons, wp_tup, wp_lst, wp_cb, wp_call, wp_m0, wp_m1, wp_ml0, wp_ml, wp_isi, wp_isi2, wp_nopart, asI_int, wp_part, wp_sl, wp_seq, seqK_nx, seqK_rt, seqK_bk, seqK_ct, wp_next, wp_brk, wp_cont, wp_drop, wp_ret, wp_ifS, wp_set, wp_par, wp_par3, wp_asg, wp_pat, asP_some, wp_sub, asH_some, wp_aug, wp_for, wp_while, wp_lc, wp_lc2, wp_def, defK_rt, defK_nx, wp_miseq, srcK_ref, srcK_tup, srcK_str, rngK_int, wp_range1, wp_enum, enumK_ref, Tl_some, Ts_some, loopK_nx, loopK_ct, loopK_bk, loopK_rt, ixK_some, atI_k0, atI_k1, atI_k2, atI_k3, atI_k4, atI_k5, atI_k6, atI_k8, atI_k9, L2.atI_last, atI_n, g_ix_t, g_ix_s, g_ix_r, cIx_l, cIx_z, cIx_d, cIx_f, g_sub, g_lt, g_le, g_gt, g_ge, g_addi, g_addI, g_adds, g_addt, g_mul, g_muls, g_fdiv, g_mod, g_neg, g_eqs, g_nes, g_eqi, g_nei, g_min, g_max, g_int_b, g_int_i, g_is_non, g_cuts, g_cutt, g_lens, g_lent, g_lenr, cLen_l, cLen_z, g_tupt, g_tupr, cTup_l, g_listt, isLst_r, lstAt_r, cLst_l, cLst_z, tr_r, cTr_l, tr_b, g_set, cSet_l, cSet_d, jK_some, kK_some, ixN_0, ixN_1, ixN_2, isS, mwipe, mPat, mPats, List.getElem?_cons_zero, List.getElem?_cons_succ, List.set_cons_zero, List.set_cons_succ, List.map_cons, List.map_nil, List.length_cons, List.length_nil, List.replicate_succ, List.replicate_zero, List.cons_append, List.nil_append, Nat.reduceAdd, Nat.reduceSub, Nat.reduceLeDiff, Nat.zero_add, Option.map_some, if_true, Bool.false_eq_true, if_false, true_and, and_true, decide_eq_true_eq, reduceIte, reduceCtorEq, eM1]
        refine Tl.lc_e (xs := pairsOf made) (fun _ => true) fstW (fun _ x => is_cell (x.get eM1)) (by rw [pairs_len]; omega) (by rw [pairs_len]; omega) ?_ ?_
        · intro x hx g2 y2
          obtain ⟨p, hp, rfl⟩ := List.mem_map.mp hx
          refine ⟨_, rfl, ?_⟩
          simp only [wp_c, wp_var, slotK_some, wp_op, wp_un, wp_b, asB_bl, wp_tr, asT_some, wp_yes, wp_and, wp_or, wp_not, wp_caseB, wp_andV, wp_orV, wp_notV, wp_if, wp_nil, wp_cons, wp_tup, wp_lst, wp_cb, wp_call, wp_m0, wp_m1, wp_ml0, wp_ml, wp_isi, wp_isi2, wp_nopart, asI_int, wp_part, wp_sl, wp_seq, seqK_nx, seqK_rt, seqK_bk, seqK_ct, wp_next, wp_brk, wp_cont, wp_drop, wp_ret, wp_ifS, wp_set, wp_par, wp_par3, wp_asg, wp_pat, asP_some, wp_sub, asH_some, wp_aug, wp_for, wp_while, wp_lc, wp_lc2, wp_def, defK_rt, defK_nx, wp_miseq, srcK_ref, srcK_tup, srcK_str, rngK_int, wp_range1, wp_enum, enumK_ref, Tl_some, Ts_some, loopK_nx, loopK_ct, loopK_bk, loopK_rt, ixK_some, atI_k0, atI_k1, atI_k2, atI_k3, atI_k4, atI_k5, atI_k6, atI_k8, atI_k9, L2.atI_last, atI_n, g_ix_t, g_ix_s, g_ix_r, cIx_l, cIx_z, cIx_d, cIx_f, g_sub, g_lt, g_le, g_gt, g_ge, g_addi, g_addI, g_adds, g_addt, g_mul, g_muls, g_fdiv, g_mod, g_neg, g_eqs, g_nes, g_eqi, g_nei, g_min, g_max, g_int_b, g_int_i, g_is_non, g_cuts, g_cutt, g_lens, g_lent, g_lenr, cLen_l, cLen_z, g_tupt, g_tupr, cTup_l, g_listt, isLst_r, lstAt_r, cLst_l, cLst_z, tr_r, cTr_l, tr_b, g_set, cSet_l, cSet_d, jK_some, kK_some, ixN_0, ixN_1, ixN_2, isS, mwipe, mPat, mPats, List.getElem?_cons_zero, List.getElem?_cons_succ, List.set_cons_zero, List.set_cons_succ, List.map_cons, List.map_nil, List.length_cons, List.length_nil, List.replicate_succ, List.replicate_zero, List.cons_append, List.nil_append, Nat.reduceAdd, Nat.reduceSub, Nat.reduceLeDiff, Nat.zero_add, Option.map_some, if_true, Bool.false_eq_true, if_false, true_and, and_true, decide_eq_true_eq, reduceIte, reduceCtorEq]
          exact ⟨Ext.refl _, fun _ => ⟨rfl, Ext.refl _⟩⟩
        · intro g2 y2 a2
          rw [filter_yes, map_fst] at a2
          rw [in_strs a2, Tl_some, asB_bl]
          exact ⟨rfl, y2, fun _ => by try simp only [wp_c, wp_var, slotK_some, wp_op, wp_un, wp_b, asB_bl, wp_tr, asT_some, wp_yes, wp_and, wp_or, wp_not, wp_caseB, wp_andV, wp_orV, wp_notV, wp_if, wp_nil, wp_cons, wp_tup, wp_lst, wp_cb, wp_call, wp_m0, wp_m1, wp_ml0, wp_ml, wp_isi, wp_isi2, wp_nopart, asI_int, wp_part, wp_sl, wp_seq, seqK_nx, seqK_rt, seqK_bk, seqK_ct, wp_next, wp_brk, wp_cont, wp_drop, wp_ret, wp_ifS, wp_set, wp_par, wp_par3, wp_asg, wp_pat, asP_some, wp_sub, asH_some, wp_aug, wp_for, wp_while, wp_lc, wp_lc2, wp_def, defK_rt, defK_nx, wp_miseq, srcK_ref, srcK_tup, srcK_str, rngK_int, wp_range1, wp_enum, enumK_ref, Tl_some, Ts_some, loopK_nx, loopK_ct, loopK_bk, loopK_rt, ixK_some, atI_k0, atI_k1, atI_k2, atI_k3, atI_k4, atI_k5, atI_k6, atI_k8, atI_k9, L2.atI_last, atI_n, g_ix_t, g_ix_s, g_ix_r, cIx_l, cIx_z, cIx_d, cIx_f, g_sub, g_lt, g_le, g_gt, g_ge, g_addi, g_addI, g_adds, g_addt, g_mul, g_muls, g_fdiv, g_mod, g_neg, g_eqs, g_nes, g_eqi, g_nei, g_min, g_max, g_int_b, g_int_i, g_is_non, g_cuts, g_cutt, g_lens, g_lent, g_lenr, cLen_l, cLen_z, g_tupt, g_tupr, cTup_l, g_listt, isLst_r, lstAt_r, cLst_l, cLst_z, tr_r, cTr_l, tr_b, g_set, cSet_l, cSet_d, jK_some, kK_some, ixN_0, ixN_1, ixN_2, isS, mwipe, mPat, mPats, List.getElem?_cons_zero, List.getElem?_cons_succ, List.set_cons_zero, List.set_cons_succ, List.map_cons, List.map_nil, List.length_cons, List.length_nil, List.replicate_succ, List.replicate_zero, List.cons_append, List.nil_append, Nat.reduceAdd, Nat.reduceSub, Nat.reduceLeDiff, Nat.zero_add, Option.map_some, if_true, Bool.false_eq_true, if_false, true_and, and_true, decide_eq_true_eq, reduceIte, reduceCtorEq]
                                      exact ⟨rfl, Ext.refl _⟩⟩
      · intro g1 y1 a1
        have a1' : g1[hh.length]? = some (.lst ((pool.filter fun y => !decide (y ∈ made.map (·.1))).map .str)) := by
          rw [a1, List.map_id, List.filter_map]; rfl
        obtain ⟨left, hleft⟩ : ∃ left, left = pool.filter fun y => !decide (y ∈ made.map (·.1)) := ⟨_, rfl⟩
        rw [← hleft] at a1'
        have l0 : 0 < left.length := by
          rcases made with _ | ⟨m0, _ | ⟨m1, mr⟩⟩
          · exact List.length_pos_of_mem (a := pp) (by rw [hleft]; simp [hp1])
          · by_cases z : pp = m0.1
            · exact List.length_pos_of_mem (a := pq) (by rw [hleft, List.mem_filter]; refine ⟨hp2, ?_⟩; simp; exact fun w => hpq (z.trans w.symm))
            · exact List.length_pos_of_mem (a := pp) (by rw [hleft, List.mem_filter]; refine ⟨hp1, ?_⟩; simpa using z)
          · simp at lm1
        have lle : left.length ≤ 6 := by rw [hleft, ← lp]; exact List.length_filter_le _ _
        have eT1 := y1.get eT
        have eM1 := y1.get eM
        simp only [wp_c, wp_var, slotK_some, wp_op, wp_un, wp_b, asB_bl, wp_tr, asT_some, wp_yes, wp_and, wp_or, wp_not, wp_caseB, wp_andV, wp_orV, wp_notV, wp_if, wp_nil, wp_cons, wp_tup, wp_lst, wp_cb, wp_call, wp_m0, wp_m1, wp_ml0, wp_ml, wp_isi, wp_isi2, wp_nopart, asI_int, wp_part, wp_sl, wp_seq, seqK_nx, seqK_rt, seqK_bk, seqK_ct, wp_next, wp_brk, wp_cont, wp_drop, wp_ret, wp_ifS, wp_set, wp_par, wp_par3, wp_asg, wp_pat, asP_some, wp_sub, asH_some, wp_aug, wp_for, wp_while, wp_lc, wp_lc2, wp_def, defK_rt, defK_nx, wp_miseq, srcK_ref, srcK_tup, srcK_str, rngK_int, wp_range1, wp_enum, enumK_ref, Tl_some, Ts_some, loopK_nx, loopK_ct, loopK_bk, loopK_rt, ixK_some, atI_k0, atI_k1, atI_k2, atI_k3, atI_k4, atI_k5, atI_k6, atI_k8, atI_k9, L2.atI_last, atI_n, g_ix_t, g_ix_s, g_ix_r, cIx_l, cIx_z, cIx_d, cIx_f, g_sub, g_lt, g_le, g_gt, g_ge, g_addi, g_addI, g_adds, g_addt, g_mul, g_muls, g_fdiv, g_mod, g_neg, g_eqs, g_nes, g_eqi, g_nei, g_min, g_max, g_int_b, g_int_i, g_is_non, g_cuts, g_cutt, g_lens, g_lent, g_lenr, cLen_l, cLen_z, g_tupt, g_tupr, cTup_l, g_listt, isLst_r, lstAt_r, cLst_l, cLst_z, tr_r, cTr_l, tr_b, g_set, cSet_l, cSet_d, jK_some, kK_some, ixN_0, ixN_1, ixN_2, isS, mwipe, mPat, mPats, List.getElem?_cons_zero, List.getElem?_cons_succ, List.set_cons_zero, List.set_cons_succ, List.map_cons, List.map_nil, List.length_cons, List.length_nil, List.replicate_succ, List.replicate_zero, List.cons_append, List.nil_append, Nat.reduceAdd, Nat.reduceSub, Nat.reduceLeDiff, Nat.zero_add, Option.map_some, if_true, Bool.false_eq_true, if_false, true_and, and_true, decide_eq_true_eq, reduceIte, reduceCtorEq, a1', eM1, List.length_map]
        refine (take_spec (B.box.ext y1) (by omega) (by omega)).by ?_
        rintro _ g2 ⟨v, rfl, v0, v1, B2⟩
        obtain ⟨y, ey, hy⟩ := str_map_at (xs := left) v0 v1
        have hyp : y ∈ pool := by
          have : y ∈ left := List.mem_of_getElem? hy
          rw [hleft] at this
          exact (List.mem_filter.mp this).1
        have lB := B.box.lt
        have ly := y1.len
        have a2 := B2.get a1' (by omega)
        have eM2 := B2.get eM1 (by omega)
        have eT2 := B2.get eT1 (by omega)
        simp only [wp_c, wp_var, slotK_some, wp_op, wp_un, wp_b, asB_bl, wp_tr, asT_some, wp_yes, wp_and, wp_or, wp_not, wp_caseB, wp_andV, wp_orV, wp_notV, wp_if, wp_nil, wp_cons, wp_tup, wp_lst, wp_cb, wp_call, wp_m0, wp_m1, wp_ml0, wp_ml, wp_isi, wp_isi2, wp_nopart, asI_int, wp_part, wp_sl, wp_seq, seqK_nx, seqK_rt, seqK_bk, seqK_ct, wp_next, wp_brk, wp_cont, wp_drop, wp_ret, wp_ifS, wp_set, wp_par, wp_par3, wp_asg, wp_pat, asP_some, wp_sub, asH_some, wp_aug, wp_for, wp_while, wp_lc, wp_lc2, wp_def, defK_rt, defK_nx, wp_miseq, srcK_ref, srcK_tup, srcK_str, rngK_int, wp_range1, wp_enum, enumK_ref, Tl_some, Ts_some, loopK_nx, loopK_ct, loopK_bk, loopK_rt, ixK_some, atI_k0, atI_k1, atI_k2, atI_k3, atI_k4, atI_k5, atI_k6, atI_k8, atI_k9, L2.atI_last, atI_n, g_ix_t, g_ix_s, g_ix_r, cIx_l, cIx_z, cIx_d, cIx_f, g_sub, g_lt, g_le, g_gt, g_ge, g_addi, g_addI, g_adds, g_addt, g_mul, g_muls, g_fdiv, g_mod, g_neg, g_eqs, g_nes, g_eqi, g_nei, g_min, g_max, g_int_b, g_int_i, g_is_non, g_cuts, g_cutt, g_lens, g_lent, g_lenr, cLen_l, cLen_z, g_tupt, g_tupr, cTup_l, g_listt, isLst_r, lstAt_r, cLst_l, cLst_z, tr_r, cTr_l, tr_b, g_set, cSet_l, cSet_d, jK_some, kK_some, ixN_0, ixN_1, ixN_2, isS, mwipe, mPat, mPats, List.getElem?_cons_zero, List.getElem?_cons_succ, List.set_cons_zero, List.set_cons_succ, List.map_cons, List.map_nil, List.length_cons, List.length_nil, List.replicate_succ, List.replicate_zero, List.cons_append, List.nil_append, Nat.reduceAdd, Nat.reduceSub, Nat.reduceLeDiff, Nat.zero_add, Option.map_some, if_true, Bool.false_eq_true, if_false, true_and, and_true, decide_eq_true_eq, reduceIte, reduceCtorEq, a2, ey, eM2, eT2]
        repeat (refine ⟨by decide, ?_⟩)
        refine Tl.app eM2 (by rw [pairs_len]; omega) fun g3 c3 a3 => ?_
        have eT3 := c3.get eT2 (by omega)
        simp only [wp_c, wp_var, slotK_some, wp_op, wp_un, wp_b, asB_bl, wp_tr, asT_some, wp_yes, wp_and, wp_or, wp_not, wp_caseB, wp_andV, wp_orV, wp_notV, wp_if, wp_nil, wp_cons, wp_tup, wp_lst, wp_cb, wp_call, wp_m0, wp_m1, wp_ml0, wp_ml, wp_isi, wp_isi2, wp_nopart, asI_int, wp_part, wp_sl, wp_seq, seqK_nx, seqK_rt, seqK_bk, seqK_ct, wp_next, wp_brk, wp_cont, wp_drop, wp_ret, wp_ifS, wp_set, wp_par, wp_par3, wp_asg, wp_pat, asP_some, wp_sub, asH_some, wp_aug, wp_for, wp_while, wp_lc, wp_lc2, wp_def, defK_rt, defK_nx, wp_miseq, srcK_ref, srcK_tup, srcK_str, rngK_int, wp_range1, wp_enum, enumK_ref, Tl_some, Ts_some, loopK_nx, loopK_ct, loopK_bk, loopK_rt, ixK_some, atI_k0, atI_k1, atI_k2, atI_k3, atI_k4, atI_k5, atI_k6, atI_k8, atI_k9, L2.atI_last, atI_n, g_ix_t, g_ix_s, g_ix_r, cIx_l, cIx_z, cIx_d, cIx_f, g_sub, g_lt, g_le, g_gt, g_ge, g_addi, g_addI, g_adds, g_addt, g_mul, g_muls, g_fdiv, g_mod, g_neg, g_eqs, g_nes, g_eqi, g_nei, g_min, g_max, g_int_b, g_int_i, g_is_non, g_cuts, g_cutt, g_lens, g_lent, g_lenr, cLen_l, cLen_z, g_tupt, g_tupr, cTup_l, g_listt, isLst_r, lstAt_r, cLst_l, cLst_z, tr_r, cTr_l, tr_b, g_set, cSet_l, cSet_d, jK_some, kK_some, ixN_0, ixN_1, ixN_2, isS, mwipe, mPat, mPats, List.getElem?_cons_zero, List.getElem?_cons_succ, List.set_cons_zero, List.set_cons_succ, List.map_cons, List.map_nil, List.length_cons, List.length_nil, List.replicate_succ, List.replicate_zero, List.cons_append, List.nil_append, Nat.reduceAdd, Nat.reduceSub, Nat.reduceLeDiff, Nat.zero_add, Option.map_some, if_true, Bool.false_eq_true, if_false, true_and, and_true, decide_eq_true_eq, reduceIte, reduceCtorEq, a3, eT3]
        refine Tl.app eT3 (by omega) fun g4 c4 a4 => ?_
        refine ⟨ths ++ [.str y], made ++ [(y, k)], _, _, _, _, _, _, _, _, _, rfl, (((B.ext y1).trans B2).chg c3 (by omega) (by omega)).chg c4 (Nat.le_refl _) (by omega), a4, by rw [c4.get a3 (by omega), ← pairs_app]; rfl, by rw [List.length_append, lm, cN]; rfl, by simp; omega, fun w hw p => ?_, fun w hw p => ?_, by rw [cT]; simpa [isT] using Nat.le_trans ft (Nat.le_add_right _ _), fun p hp => ?_⟩
        · rcases List.mem_append.mp hw with q | q
          · exact hth w q p
          · rw [List.mem_singleton.mp q] at p; cases p
        · rcases List.mem_append.mp hw with q | q
          · exact hpt w q p
          · rw [List.mem_singleton.mp q]; exact pok y hyp
        · rcases List.mem_append.mp hp with q | q
          · exact hmd p q
          · rw [List.mem_singleton.mp q]; exact pok y hyp
    · have ct : 0 < cnt "term" its := by
        have a := cnt_le (t := "term") (xs := its) (i := i + 1)
        rw [cT] at a
        simp only [tagIs, decide_true, if_true] at a
        omega
      rw [← lm] at hops
      simp only [wp_c, wp_var, slotK_some, wp_op, wp_un, wp_b, asB_bl, wp_tr, asT_some, wp_yes, wp_and, wp_or, wp_not, wp_caseB, wp_andV, wp_orV, wp_notV, wp_if, wp_nil, wp_cons, wp_tup, wp_lst, wp_cb, wp_call, wp_m0, wp_m1, wp_ml0, wp_ml, wp_isi, wp_isi2, wp_nopart, asI_int, wp_part, wp_sl, wp_seq, seqK_nx, seqK_rt, seqK_bk, seqK_ct, wp_next, wp_brk, wp_cont, wp_drop, wp_ret, wp_ifS, wp_set, wp_par, wp_par3, wp_asg, wp_pat, asP_some, wp_sub, asH_some, wp_aug, wp_for, wp_while, wp_lc, wp_lc2, wp_def, defK_rt, defK_nx, wp_miseq, srcK_ref, srcK_tup, srcK_str, rngK_int, wp_range1, wp_enum, enumK_ref, Tl_some, Ts_some, loopK_nx, loopK_ct, loopK_bk, loopK_rt, ixK_some, atI_k0, atI_k1, atI_k2, atI_k3, atI_k4, atI_k5, atI_k6, atI_k8, atI_k9, L2.atI_last, atI_n, g_ix_t, g_ix_s, g_ix_r, cIx_l, cIx_z, cIx_d, cIx_f, g_sub, g_lt, g_le, g_gt, g_ge, g_addi, g_addI, g_adds, g_addt, g_mul, g_muls, g_fdiv, g_mod, g_neg, g_eqs, g_nes, g_eqi, g_nei, g_min, g_max, g_int_b, g_int_i, g_is_non, g_cuts, g_cutt, g_lens, g_lent, g_lenr, cLen_l, cLen_z, g_tupt, g_tupr, cTup_l, g_listt, isLst_r, lstAt_r, cLst_l, cLst_z, tr_r, cTr_l, tr_b, g_set, cSet_l, cSet_d, jK_some, kK_some, ixN_0, ixN_1, ixN_2, isS, mwipe, mPat, mPats, List.getElem?_cons_zero, List.getElem?_cons_succ, List.set_cons_zero, List.set_cons_succ, List.map_cons, List.map_nil, List.length_cons, List.length_nil, List.replicate_succ, List.replicate_zero, List.cons_append, List.nil_append, Nat.reduceAdd, Nat.reduceSub, Nat.reduceLeDiff, Nat.zero_add, Option.map_some, if_true, Bool.false_eq_true, if_false, true_and, and_true, decide_eq_true_eq, reduceIte, reduceCtorEq, n7, n8]
      refine Tl.lc_e (xs := ops) (fun _ => true) (fun o => .tup [.str (pickO made o).1, .str (pickO made o).2]) (fun _ _ => is_items) (by omega) (by omega) ?_ ?_
      · intro x hx g1 y1
        obtain ⟨j, rfl, hj⟩ := hops x hx
        refine ⟨_, rfl, ?_⟩
        have eM1 := y1.get eM
        have e5 : (pairsOf made)[j]? = some (.tup [.str made[j].1, .str made[j].2]) := by
          unfold pairsOf; rw [List.getElem?_map, List.getElem?_eq_getElem hj]; rfl
        simp only [wp_c, wp_var, slotK_some, wp_op, wp_un, wp_b, asB_bl, wp_tr, asT_some, wp_yes, wp_and, wp_or, wp_not, wp_caseB, wp_andV, wp_orV, wp_notV, wp_if, wp_nil, wp_cons, wp_tup, wp_lst, wp_cb, wp_call, wp_m0, wp_m1, wp_ml0, wp_ml, wp_isi, wp_isi2, wp_nopart, asI_int, wp_part, wp_sl, wp_seq, seqK_nx, seqK_rt, seqK_bk, seqK_ct, wp_next, wp_brk, wp_cont, wp_drop, wp_ret, wp_ifS, wp_set, wp_par, wp_par3, wp_asg, wp_pat, asP_some, wp_sub, asH_some, wp_aug, wp_for, wp_while, wp_lc, wp_lc2, wp_def, defK_rt, defK_nx, wp_miseq, srcK_ref, srcK_tup, srcK_str, rngK_int, wp_range1, wp_enum, enumK_ref, Tl_some, Ts_some, loopK_nx, loopK_ct, loopK_bk, loopK_rt, ixK_some, atI_k0, atI_k1, atI_k2, atI_k3, atI_k4, atI_k5, atI_k6, atI_k8, atI_k9, L2.atI_last, atI_n, g_ix_t, g_ix_s, g_ix_r, cIx_l, cIx_z, cIx_d, cIx_f, g_sub, g_lt, g_le, g_gt, g_ge, g_addi, g_addI, g_adds, g_addt, g_mul, g_muls, g_fdiv, g_mod, g_neg, g_eqs, g_nes, g_eqi, g_nei, g_min, g_max, g_int_b, g_int_i, g_is_non, g_cuts, g_cutt, g_lens, g_lent, g_lenr, cLen_l, cLen_z, g_tupt, g_tupr, cTup_l, g_listt, isLst_r, lstAt_r, cLst_l, cLst_z, tr_r, cTr_l, tr_b, g_set, cSet_l, cSet_d, jK_some, kK_some, ixN_0, ixN_1, ixN_2, isS, mwipe, mPat, mPats, List.getElem?_cons_zero, List.getElem?_cons_succ, List.set_cons_zero, List.set_cons_succ, List.map_cons, List.map_nil, List.length_cons, List.length_nil, List.replicate_succ, List.replicate_zero, List.cons_append, List.nil_append, Nat.reduceAdd, Nat.reduceSub, Nat.reduceLeDiff, Nat.zero_add, Option.map_some, if_true, Bool.false_eq_true, if_false, true_and, and_true, decide_eq_true_eq, reduceIte, reduceCtorEq, eM1, e5]
        refine ⟨Ext.refl _, fun _ => ⟨?_, Ext.refl _⟩⟩
        simp [pickO, hj]
      · intro g1 y1 a1
        rw [filter_yes] at a1
        have a1' : g1[hh.length]? = some (.lst (pairsOf (ops.map (pickO made)))) := by rw [a1]; simp [pairsOf]
        have kw1 := (kw.bx B).bx (y1.toBx B.box)
        refine Tl.addl kw1.at_ a1' (by rw [pairs_len, pairs_len, List.length_map]; omega) fun g2 y2 m2 a2 => ?_
        rw [pairs_app] at a2
        try simp only [wp_c, wp_var, slotK_some, wp_op, wp_un, wp_b, asB_bl, wp_tr, asT_some, wp_yes, wp_and, wp_or, wp_not, wp_caseB, wp_andV, wp_orV, wp_notV, wp_if, wp_nil, wp_cons, wp_tup, wp_lst, wp_cb, wp_call, wp_m0, wp_m1, wp_ml0, wp_ml, wp_isi, wp_isi2, wp_nopart, asI_int, wp_part, wp_sl, wp_seq, seqK_nx, seqK_rt, seqK_bk, seqK_ct, wp_next, wp_brk, wp_cont, wp_drop, wp_ret, wp_ifS, wp_set, wp_par, wp_par3, wp_asg, wp_pat, asP_some, wp_sub, asH_some, wp_aug, wp_for, wp_while, wp_lc, wp_lc2, wp_def, defK_rt, defK_nx, wp_miseq, srcK_ref, srcK_tup, srcK_str, rngK_int, wp_range1, wp_enum, enumK_ref, Tl_some, Ts_some, loopK_nx, loopK_ct, loopK_bk, loopK_rt, ixK_some, atI_k0, atI_k1, atI_k2, atI_k3, atI_k4, atI_k5, atI_k6, atI_k8, atI_k9, L2.atI_last, atI_n, g_ix_t, g_ix_s, g_ix_r, cIx_l, cIx_z, cIx_d, cIx_f, g_sub, g_lt, g_le, g_gt, g_ge, g_addi, g_addI, g_adds, g_addt, g_mul, g_muls, g_fdiv, g_mod, g_neg, g_eqs, g_nes, g_eqi, g_nei, g_min, g_max, g_int_b, g_int_i, g_is_non, g_cuts, g_cutt, g_lens, g_lent, g_lenr, cLen_l, cLen_z, g_tupt, g_tupr, cTup_l, g_listt, isLst_r, lstAt_r, cLst_l, cLst_z, tr_r, cTr_l, tr_b, g_set, cSet_l, cSet_d, jK_some, kK_some, ixN_0, ixN_1, ixN_2, isS, mwipe, mPat, mPats, List.getElem?_cons_zero, List.getElem?_cons_succ, List.set_cons_zero, List.set_cons_succ, List.map_cons, List.map_nil, List.length_cons, List.length_nil, List.replicate_succ, List.replicate_zero, List.cons_append, List.nil_append, Nat.reduceAdd, Nat.reduceSub, Nat.reduceLeDiff, Nat.zero_add, Option.map_some, if_true, Bool.false_eq_true, if_false, true_and, and_true, decide_eq_true_eq, reduceIte, reduceCtorEq]
        refine Tl.newL (by simp) fun g3 y3 m3 a3 => ?_
        have Y := (y1.trans y2).trans y3
        have BY := B.ext Y
        have sel : L2.atI [W.str k, W.non] (if mu then 1 else 0) = some (if mu then .non else .str k) := by cases mu <;> rfl
        simp only [wp_c, wp_var, slotK_some, wp_op, wp_un, wp_b, asB_bl, wp_tr, asT_some, wp_yes, wp_and, wp_or, wp_not, wp_caseB, wp_andV, wp_orV, wp_notV, wp_if, wp_nil, wp_cons, wp_tup, wp_lst, wp_cb, wp_call, wp_m0, wp_m1, wp_ml0, wp_ml, wp_isi, wp_isi2, wp_nopart, asI_int, wp_part, wp_sl, wp_seq, seqK_nx, seqK_rt, seqK_bk, seqK_ct, wp_next, wp_brk, wp_cont, wp_drop, wp_ret, wp_ifS, wp_set, wp_par, wp_par3, wp_asg, wp_pat, asP_some, wp_sub, asH_some, wp_aug, wp_for, wp_while, wp_lc, wp_lc2, wp_def, defK_rt, defK_nx, wp_miseq, srcK_ref, srcK_tup, srcK_str, rngK_int, wp_range1, wp_enum, enumK_ref, Tl_some, Ts_some, loopK_nx, loopK_ct, loopK_bk, loopK_rt, ixK_some, atI_k0, atI_k1, atI_k2, atI_k3, atI_k4, atI_k5, atI_k6, atI_k8, atI_k9, L2.atI_last, atI_n, g_ix_t, g_ix_s, g_ix_r, cIx_l, cIx_z, cIx_d, cIx_f, g_sub, g_lt, g_le, g_gt, g_ge, g_addi, g_addI, g_adds, g_addt, g_mul, g_muls, g_fdiv, g_mod, g_neg, g_eqs, g_nes, g_eqi, g_nei, g_min, g_max, g_int_b, g_int_i, g_is_non, g_cuts, g_cutt, g_lens, g_lent, g_lenr, cLen_l, cLen_z, g_tupt, g_tupr, cTup_l, g_listt, isLst_r, lstAt_r, cLst_l, cLst_z, tr_r, cTr_l, tr_b, g_set, cSet_l, cSet_d, jK_some, kK_some, ixN_0, ixN_1, ixN_2, isS, mwipe, mPat, mPats, List.getElem?_cons_zero, List.getElem?_cons_succ, List.set_cons_zero, List.set_cons_succ, List.map_cons, List.map_nil, List.length_cons, List.length_nil, List.replicate_succ, List.replicate_zero, List.cons_append, List.nil_append, Nat.reduceAdd, Nat.reduceSub, Nat.reduceLeDiff, Nat.zero_add, Option.map_some, if_true, Bool.false_eq_true, if_false, true_and, and_true, decide_eq_true_eq, reduceIte, reduceCtorEq, a3, sel]
        refine ⟨hmany.1, by omega, cMr (by decide), by decide, by decide, ?_⟩
        have eT3 := Y.get eT
        simp only [wp_c, wp_var, slotK_some, wp_op, wp_un, wp_b, asB_bl, wp_tr, asT_some, wp_yes, wp_and, wp_or, wp_not, wp_caseB, wp_andV, wp_orV, wp_notV, wp_if, wp_nil, wp_cons, wp_tup, wp_lst, wp_cb, wp_call, wp_m0, wp_m1, wp_ml0, wp_ml, wp_isi, wp_isi2, wp_nopart, asI_int, wp_part, wp_sl, wp_seq, seqK_nx, seqK_rt, seqK_bk, seqK_ct, wp_next, wp_brk, wp_cont, wp_drop, wp_ret, wp_ifS, wp_set, wp_par, wp_par3, wp_asg, wp_pat, asP_some, wp_sub, asH_some, wp_aug, wp_for, wp_while, wp_lc, wp_lc2, wp_def, defK_rt, defK_nx, wp_miseq, srcK_ref, srcK_tup, srcK_str, rngK_int, wp_range1, wp_enum, enumK_ref, Tl_some, Ts_some, loopK_nx, loopK_ct, loopK_bk, loopK_rt, ixK_some, atI_k0, atI_k1, atI_k2, atI_k3, atI_k4, atI_k5, atI_k6, atI_k8, atI_k9, L2.atI_last, atI_n, g_ix_t, g_ix_s, g_ix_r, cIx_l, cIx_z, cIx_d, cIx_f, g_sub, g_lt, g_le, g_gt, g_ge, g_addi, g_addI, g_adds, g_addt, g_mul, g_muls, g_fdiv, g_mod, g_neg, g_eqs, g_nes, g_eqi, g_nei, g_min, g_max, g_int_b, g_int_i, g_is_non, g_cuts, g_cutt, g_lens, g_lent, g_lenr, cLen_l, cLen_z, g_tupt, g_tupr, cTup_l, g_listt, isLst_r, lstAt_r, cLst_l, cLst_z, tr_r, cTr_l, tr_b, g_set, cSet_l, cSet_d, jK_some, kK_some, ixN_0, ixN_1, ixN_2, isS, mwipe, mPat, mPats, List.getElem?_cons_zero, List.getElem?_cons_succ, List.set_cons_zero, List.set_cons_succ, List.map_cons, List.map_nil, List.length_cons, List.length_nil, List.replicate_succ, List.replicate_zero, List.cons_append, List.nil_append, Nat.reduceAdd, Nat.reduceSub, Nat.reduceLeDiff, Nat.zero_add, Option.map_some, if_true, Bool.false_eq_true, if_false, true_and, and_true, decide_eq_true_eq, reduceIte, reduceCtorEq, eT3]
        have kw3 : Known b g3 g1.length (l ++ ops.map (pickO made)) := ⟨by have := B.box.lt; have := y1.len; omega, y3.get a2, fun p hp => by
          rcases List.mem_append.mp hp with q | q
          · exact kw.ok p q
          · obtain ⟨o, ho, rfl⟩ := List.mem_map.mp q
            obtain ⟨j, rfl, hj⟩ := hops o ho
            exact hmd _ (by simp [pickO, hj])⟩
        have kk : KindOk mu ksA (if mu then .non else .str k) := by
          cases mu with
          | true => exact .inl ⟨rfl, rfl⟩
          | false => exact .inr ⟨rfl, k, hks rfl ▸ hk, rfl⟩
        have hr' := hr ct
        refine (HF ct g3 g1.length (l ++ ops.map (pickO made)) _ _ BY.box (sc.bx BY) kw3 (by rw [List.length_append, List.length_map]; omega) kk (by split <;> omega)).by ?_
        rintro w g4 ⟨tw, B4⟩
        refine Tl.app (B4.get eT3 (by omega)) (by omega) fun g5 c5 a5 => ?_
        refine ⟨ths ++ [w], made, _, _, _, _, _, _, _, _, _, rfl, (BY.trans B4).chg c5 (Nat.le_refl _) (by omega), a5, c5.get (B4.get (Y.get eM) (by omega)) (by omega), by rw [lm, cN]; rfl, by simp; omega, fun z hz p => ?_, fun z hz p => ?_, by rw [cT]; simp [tagIs, tw.isT]; omega, hmd⟩
        · rcases List.mem_append.mp hz with q | q
          · exact hth z q p
          · rw [List.mem_singleton.mp q]; exact tw
        · rcases List.mem_append.mp hz with q | q
          · exact hpt z q p
          · rw [List.mem_singleton.mp q] at p; cases tw <;> cases p
  · rintro s hh ⟨ths, made, u6, u14, u15, u16, u17, u18, u19, u20, u21, rfl, B, eT, eM, lm, lt, hth, hpt, ft, hmd⟩
    simp only [wp_c, wp_var, slotK_some, wp_op, wp_un, wp_b, asB_bl, wp_tr, asT_some, wp_yes, wp_and, wp_or, wp_not, wp_caseB, wp_andV, wp_orV, wp_notV, wp_if, wp_nil, wp_cons, wp_tup, wp_lst, wp_cb, wp_call, wp_m0, wp_m1, wp_ml0, wp_ml, wp_isi, wp_isi2, wp_nopart, asI_int, wp_part, wp_sl, wp_seq, seqK_nx, seqK_rt, seqK_bk, seqK_ct, wp_next, wp_brk, wp_cont, wp_drop, wp_ret, wp_ifS, wp_set, wp_par, wp_par3, wp_asg, wp_pat, asP_some, wp_sub, asH_some, wp_aug, wp_for, wp_while, wp_lc, wp_lc2, wp_def, defK_rt, defK_nx, wp_miseq, srcK_ref, srcK_tup, srcK_str, rngK_int, wp_range1, wp_enum, enumK_ref, Tl_some, Ts_some, loopK_nx, loopK_ct, loopK_bk, loopK_rt, ixK_some, atI_k0, atI_k1, atI_k2, atI_k3, atI_k4, atI_k5, atI_k6, atI_k8, atI_k9, L2.atI_last, atI_n, g_ix_t, g_ix_s, g_ix_r, cIx_l, cIx_z, cIx_d, cIx_f, g_sub, g_lt, g_le, g_gt, g_ge, g_addi, g_addI, g_adds, g_addt, g_mul, g_muls, g_fdiv, g_mod, g_neg, g_eqs, g_nes, g_eqi, g_nei, g_min, g_max, g_int_b, g_int_i, g_is_non, g_cuts, g_cutt, g_lens, g_lent, g_lenr, cLen_l, cLen_z, g_tupt, g_tupr, cTup_l, g_listt, isLst_r, lstAt_r, cLst_l, cLst_z, tr_r, cTr_l, tr_b, g_set, cSet_l, cSet_d, jK_some, kK_some, ixN_0, ixN_1, ixN_2, isS, mwipe, mPat, mPats, List.getElem?_cons_zero, List.getElem?_cons_succ, List.set_cons_zero, List.set_cons_succ, List.map_cons, List.map_nil, List.length_cons, List.length_nil, List.replicate_succ, List.replicate_zero, List.cons_append, List.nil_append, Nat.reduceAdd, Nat.reduceSub, Nat.reduceLeDiff, Nat.zero_add, Option.map_some, if_true, Bool.false_eq_true, if_false, true_and, and_true, decide_eq_true_eq, reduceIte, reduceCtorEq, eT]
    repeat (refine ⟨by decide, ?_⟩)
    rw [List.take_length] at ft
    have := hi.tm
    exact ⟨.use htok hhok hpt hth (by omega) (by omega), B⟩
end K03

namespace K03
open PySem PySem.Spec PyProof.Rows L2 Mi
theorem put_all {P : Key × W → Prop} {kvs : List (Key × W)} {k : Key} {w : W} (h : ∀ kv ∈ kvs, P kv) (p : P (k, w)) : ∀ kv ∈ putW kvs k w, P kv := by
  intro kv hkv
  unfold putW at hkv
  split at hkv
  · obtain ⟨x, hx, e⟩ := List.mem_map.mp hkv
    split at e
    · next c => rw [← e, c]; exact p
    · rw [← e]; exact h x hx
  · rcases List.mem_append.mp hkv with q | q
    · exact h kv q
    · rw [List.mem_singleton.mp q]; exact p
theorem merge_all {P : Key × W → Prop} : ∀ {r kvs : List (Key × W)}, (∀ kv ∈ kvs, P kv) → (∀ kv ∈ r, P kv) → ∀ kv ∈ mergeW kvs r, P kv
  | [], kvs, h, _ => h
  | (k, w) :: r, kvs, h, g => by
    rw [merge_cons]
    exact merge_all (put_all h (g _ (by simp))) fun kv hkv => g kv (by simp [hkv])
theorem getW_mem {k : Key} {w : W} : ∀ {kvs : List (Key × W)}, (k, w) ∈ kvs → ∃ w', getW kvs k = some w' ∧ (k, w') ∈ kvs
  | [], h => by simp at h
  | (k', w') :: kvs, h => by
    rw [getW_cons]
    by_cases c : k' = k
    · subst c; exact ⟨w', by simp, by simp⟩
    · rcases List.mem_cons.mp h with q | q
      · cases q; exact absurd rfl c
      · obtain ⟨w2, e1, e2⟩ := getW_mem q
        exact ⟨w2, by rw [if_neg c]; exact e1, by simp [e2]⟩
def inKd (kind : W) (k : Str) : Bool := eqV .non (flV kind) || eqV (.str k) (flV kind)
theorem inKd_ok {mu : Bool} {ks : List Str} {kind : W} (h : KindOk mu ks kind) : ∃ P : Str → Bool, (∀ k, inKd kind k = P k) ∧ (mu = true → ∀ k, P k = true) ∧ (mu = false → ∃ k ∈ ks, P k = true) := by
  rcases h with ⟨rfl, rfl⟩ | ⟨rfl, k, hk, rfl⟩
  · exact ⟨fun _ => true, fun k => rfl, fun _ _ => rfl, fun z => by cases z⟩
  · refine ⟨_, fun k => rfl, (by simp), fun _ => ⟨k, hk, ?_⟩⟩
    show (false || (k == k)) = true
    simp
theorem term_names {n : Nat} {h : MH} {kn : Nat} {b wd o : W} {l : List (Str × Str)} {mu : Bool} {ksA : List Str} {kind : W} {room : Int} (hn : 1000 ≤ n) (hl : l.length ≤ 900) (ek : h[kn]? = some (.lst (pairsOf l))) (lok : ∀ p ∈ l, PyData.strOk p.1 = true) (kk : KindOk mu ksA kind) {P : Fl → MS → MH → Prop} 
    (fin : ∀ (h' : MH) (d6 d7 : Nat) (ys : List Str), Ext h h' → h'[d7]? = some (.lst (ys.map W.str)) → (∀ y ∈ ys, PyData.strOk y = true) → ys.length ≤ 900 → P .nx [some b, some wd, some o, some (.ref kn), some kind, some (.int room), some (.ref d6), some (.ref d7), none, none, none, none, none, none, none, none, none, none, none, none] h') :
    Ts (mSeq (mSet 6 (mCB gDict (mCons (mVar 3) mNil))) (mLockS 6 (mSet 7 (mLc (miAny (mVar 6)) (.nm 15) (mB (mOp (gInD false gIn) (mVar 4) (mTup (mCons (mC .non) (mCons (mOp (gIxD gIx) (mVar 6) (mVar 15)) mNil))))) (mVar 15) [15]))) n
      [some b, some wd, some o, some (.ref kn), some kind, some (.int room), none, none, none, none, none, none, none, none, none, none, none, none, none, none] h) P := by
  simp only [wp_c, wp_var, slotK_some, wp_op, wp_un, wp_b, asB_bl, wp_tr, asT_some, wp_yes, wp_and, wp_or, wp_not, wp_caseB, wp_andV, wp_orV, wp_notV, wp_if, wp_nil, wp_cons, wp_tup, wp_lst, wp_cb, wp_call, wp_m0, wp_m1, wp_ml0, wp_ml, wp_isi, wp_isi2, wp_nopart, asI_int, wp_part, wp_sl, wp_seq, seqK_nx, seqK_rt, seqK_bk, seqK_ct, wp_next, wp_brk, wp_cont, wp_drop, wp_ret, wp_ifS, wp_set, wp_par, wp_par3, wp_asg, wp_pat, asP_some, wp_sub, asH_some, wp_aug, wp_for, wp_while, wp_lc, wp_lc2, wp_def, defK_rt, defK_nx, wp_miseq, srcK_ref, srcK_tup, srcK_str, rngK_int, wp_range1, wp_enum, enumK_ref, Tl_some, Ts_some, loopK_nx, loopK_ct, loopK_bk, loopK_rt, ixK_some, atI_k0, atI_k1, atI_k2, atI_k3, atI_k4, atI_k5, atI_k6, atI_k8, atI_k9, L2.atI_last, atI_n, g_ix_t, g_ix_s, g_ix_r, cIx_l, cIx_z, cIx_d, cIx_f, g_sub, g_lt, g_le, g_gt, g_ge, g_addi, g_addI, g_adds, g_addt, g_mul, g_muls, g_fdiv, g_mod, g_neg, g_eqs, g_nes, g_eqi, g_nei, g_min, g_max, g_int_b, g_int_i, g_is_non, g_cuts, g_cutt, g_lens, g_lent, g_lenr, cLen_l, cLen_z, g_tupt, g_tupr, cTup_l, g_listt, isLst_r, lstAt_r, cLst_l, cLst_z, tr_r, cTr_l, tr_b, g_set, cSet_l, cSet_d, jK_some, kK_some, ixN_0, ixN_1, ixN_2, isS, mwipe, mPat, mPats, List.getElem?_cons_zero, List.getElem?_cons_succ, List.set_cons_zero, List.set_cons_succ, List.map_cons, List.map_nil, List.length_cons, List.length_nil, List.replicate_succ, List.replicate_zero, List.cons_append, List.nil_append, Nat.reduceAdd, Nat.reduceSub, Nat.reduceLeDiff, Nat.zero_add, Option.map_some, if_true, Bool.false_eq_true, if_false, true_and, and_true, decide_eq_true_eq, reduceIte, reduceCtorEq]
  refine Tl.dict (l := l.map fun p => (p.1, W.str p.2)) (by rw [ek]; simp [pairsOf]) fun h1 x1 l1 e1 => ?_
  obtain ⟨kvs, hkvs⟩ : ∃ kvs, kvs = mergeW [] ((l.map fun p => (p.1, W.str p.2)).map fun p => ((.inr p.1 : Key), p.2)) := ⟨_, rfl⟩
  rw [← hkvs] at e1
  have all : ∀ kv ∈ kvs, ∃ x k, kv = ((.inr x : Key), W.str k) ∧ PyData.strOk x = true := by
    rw [hkvs]
    refine merge_all (by simp) fun kv hkv => ?_
    simp only [List.map_map, List.mem_map] at hkv
    obtain ⟨p, hp, rfl⟩ := hkv
    exact ⟨p.1, p.2, rfl, lok p hp⟩
  have lk : kvs.length ≤ 900 := by
    rw [hkvs]
    refine Nat.le_trans merge_len ?_
    simpa using hl
  try simp only [wp_c, wp_var, slotK_some, wp_op, wp_un, wp_b, asB_bl, wp_tr, asT_some, wp_yes, wp_and, wp_or, wp_not, wp_caseB, wp_andV, wp_orV, wp_notV, wp_if, wp_nil, wp_cons, wp_tup, wp_lst, wp_cb, wp_call, wp_m0, wp_m1, wp_ml0, wp_ml, wp_isi, wp_isi2, wp_nopart, asI_int, wp_part, wp_sl, wp_seq, seqK_nx, seqK_rt, seqK_bk, seqK_ct, wp_next, wp_brk, wp_cont, wp_drop, wp_ret, wp_ifS, wp_set, wp_par, wp_par3, wp_asg, wp_pat, asP_some, wp_sub, asH_some, wp_aug, wp_for, wp_while, wp_lc, wp_lc2, wp_def, defK_rt, defK_nx, wp_miseq, srcK_ref, srcK_tup, srcK_str, rngK_int, wp_range1, wp_enum, enumK_ref, Tl_some, Ts_some, loopK_nx, loopK_ct, loopK_bk, loopK_rt, ixK_some, atI_k0, atI_k1, atI_k2, atI_k3, atI_k4, atI_k5, atI_k6, atI_k8, atI_k9, L2.atI_last, atI_n, g_ix_t, g_ix_s, g_ix_r, cIx_l, cIx_z, cIx_d, cIx_f, g_sub, g_lt, g_le, g_gt, g_ge, g_addi, g_addI, g_adds, g_addt, g_mul, g_muls, g_fdiv, g_mod, g_neg, g_eqs, g_nes, g_eqi, g_nei, g_min, g_max, g_int_b, g_int_i, g_is_non, g_cuts, g_cutt, g_lens, g_lent, g_lenr, cLen_l, cLen_z, g_tupt, g_tupr, cTup_l, g_listt, isLst_r, lstAt_r, cLst_l, cLst_z, tr_r, cTr_l, tr_b, g_set, cSet_l, cSet_d, jK_some, kK_some, ixN_0, ixN_1, ixN_2, isS, mwipe, mPat, mPats, List.getElem?_cons_zero, List.getElem?_cons_succ, List.set_cons_zero, List.set_cons_succ, List.map_cons, List.map_nil, List.length_cons, List.length_nil, List.replicate_succ, List.replicate_zero, List.cons_append, List.nil_append, Nat.reduceAdd, Nat.reduceSub, Nat.reduceLeDiff, Nat.zero_add, Option.map_some, if_true, Bool.false_eq_true, if_false, true_and, and_true, decide_eq_true_eq, reduceIte, reduceCtorEq]
  refine Ts.lock (d := h.length) rfl e1 fun h2 c2 e2 => ?_
  simp only [wp_c, wp_var, slotK_some, wp_op, wp_un, wp_b, asB_bl, wp_tr, asT_some, wp_yes, wp_and, wp_or, wp_not, wp_caseB, wp_andV, wp_orV, wp_notV, wp_if, wp_nil, wp_cons, wp_tup, wp_lst, wp_cb, wp_call, wp_m0, wp_m1, wp_ml0, wp_ml, wp_isi, wp_isi2, wp_nopart, asI_int, wp_part, wp_sl, wp_seq, seqK_nx, seqK_rt, seqK_bk, seqK_ct, wp_next, wp_brk, wp_cont, wp_drop, wp_ret, wp_ifS, wp_set, wp_par, wp_par3, wp_asg, wp_pat, asP_some, wp_sub, asH_some, wp_aug, wp_for, wp_while, wp_lc, wp_lc2, wp_def, defK_rt, defK_nx, wp_miseq, srcK_ref, srcK_tup, srcK_str, rngK_int, wp_range1, wp_enum, enumK_ref, Tl_some, Ts_some, loopK_nx, loopK_ct, loopK_bk, loopK_rt, ixK_some, atI_k0, atI_k1, atI_k2, atI_k3, atI_k4, atI_k5, atI_k6, atI_k8, atI_k9, L2.atI_last, atI_n, g_ix_t, g_ix_s, g_ix_r, cIx_l, cIx_z, cIx_d, cIx_f, g_sub, g_lt, g_le, g_gt, g_ge, g_addi, g_addI, g_adds, g_addt, g_mul, g_muls, g_fdiv, g_mod, g_neg, g_eqs, g_nes, g_eqi, g_nei, g_min, g_max, g_int_b, g_int_i, g_is_non, g_cuts, g_cutt, g_lens, g_lent, g_lenr, cLen_l, cLen_z, g_tupt, g_tupr, cTup_l, g_listt, isLst_r, lstAt_r, cLst_l, cLst_z, tr_r, cTr_l, tr_b, g_set, cSet_l, cSet_d, jK_some, kK_some, ixN_0, ixN_1, ixN_2, isS, mwipe, mPat, mPats, List.getElem?_cons_zero, List.getElem?_cons_succ, List.set_cons_zero, List.set_cons_succ, List.map_cons, List.map_nil, List.length_cons, List.length_nil, List.replicate_succ, List.replicate_zero, List.cons_append, List.nil_append, Nat.reduceAdd, Nat.reduceSub, Nat.reduceLeDiff, Nat.zero_add, Option.map_some, if_true, Bool.false_eq_true, if_false, true_and, and_true, decide_eq_true_eq, reduceIte, reduceCtorEq]
  rw [wp_any_fd (d := h.length) rfl e2]
  have x2 : Ext h h2 := x1.chg c2 (Nat.le_refl _)
  refine Tl.lc_e (xs := kvs.map fun kv => wK kv.1) (fun x => match x with | .str x => (match getW kvs (.inr x) with | some (.str k) => inKd kind k | _ => false) | _ => false) id (fun _ _ => is_items) (by rw [List.length_map]; omega) (by rw [List.length_map]; omega) ?_ ?_
  · intro x hx h3 x3
    obtain ⟨kv, hkv, rfl⟩ := List.mem_map.mp hx
    obtain ⟨x, k, rfl, hx⟩ := all kv hkv
    obtain ⟨w', g1, g2⟩ := getW_mem hkv
    obtain ⟨x', k', q, _⟩ := all _ g2
    cases q
    refine ⟨_, rfl, ?_⟩
    have e3 := x3.get e2
    simp only [wp_c, wp_var, slotK_some, wp_op, wp_un, wp_b, asB_bl, wp_tr, asT_some, wp_yes, wp_and, wp_or, wp_not, wp_caseB, wp_andV, wp_orV, wp_notV, wp_if, wp_nil, wp_cons, wp_tup, wp_lst, wp_cb, wp_call, wp_m0, wp_m1, wp_ml0, wp_ml, wp_isi, wp_isi2, wp_nopart, asI_int, wp_part, wp_sl, wp_seq, seqK_nx, seqK_rt, seqK_bk, seqK_ct, wp_next, wp_brk, wp_cont, wp_drop, wp_ret, wp_ifS, wp_set, wp_par, wp_par3, wp_asg, wp_pat, asP_some, wp_sub, asH_some, wp_aug, wp_for, wp_while, wp_lc, wp_lc2, wp_def, defK_rt, defK_nx, wp_miseq, srcK_ref, srcK_tup, srcK_str, rngK_int, wp_range1, wp_enum, enumK_ref, Tl_some, Ts_some, loopK_nx, loopK_ct, loopK_bk, loopK_rt, ixK_some, atI_k0, atI_k1, atI_k2, atI_k3, atI_k4, atI_k5, atI_k6, atI_k8, atI_k9, L2.atI_last, atI_n, g_ix_t, g_ix_s, g_ix_r, cIx_l, cIx_z, cIx_d, cIx_f, g_sub, g_lt, g_le, g_gt, g_ge, g_addi, g_addI, g_adds, g_addt, g_mul, g_muls, g_fdiv, g_mod, g_neg, g_eqs, g_nes, g_eqi, g_nei, g_min, g_max, g_int_b, g_int_i, g_is_non, g_cuts, g_cutt, g_lens, g_lent, g_lenr, cLen_l, cLen_z, g_tupt, g_tupr, cTup_l, g_listt, isLst_r, lstAt_r, cLst_l, cLst_z, tr_r, cTr_l, tr_b, g_set, cSet_l, cSet_d, jK_some, kK_some, ixN_0, ixN_1, ixN_2, isS, mwipe, mPat, mPats, List.getElem?_cons_zero, List.getElem?_cons_succ, List.set_cons_zero, List.set_cons_succ, List.map_cons, List.map_nil, List.length_cons, List.length_nil, List.replicate_succ, List.replicate_zero, List.cons_append, List.nil_append, Nat.reduceAdd, Nat.reduceSub, Nat.reduceLeDiff, Nat.zero_add, Option.map_some, if_true, Bool.false_eq_true, if_false, true_and, and_true, decide_eq_true_eq, reduceIte, reduceCtorEq, e3, wK, keyW_str, Option.bind_some, g1]
    repeat (refine ⟨by decide, ?_⟩)
    rw [g_in_non kk.flat, Tl_some, asB_bl]
    exact ⟨rfl, Ext.refl _, fun _ => ⟨rfl, Ext.refl _⟩⟩
  · intro h3 x3 e3
    rw [List.map_id] at e3
    have all2 : ∀ w ∈ (kvs.map fun kv => wK kv.1).filter (fun x => match x with | .str x => (match getW kvs (.inr x) with | some (.str k) => inKd kind k | _ => false) | _ => false), ∃ z, w = .str z ∧ PyData.strOk z = true := fun w hw => by
      obtain ⟨kv, hkv, rfl⟩ := List.mem_map.mp (List.mem_filter.mp hw).1
      obtain ⟨x, k, rfl, hx⟩ := all kv hkv
      exact ⟨x, rfl, hx⟩
    obtain ⟨ys, hys, hy⟩ := strs_of (G := fun z => PyData.strOk z = true) all2
    have ly : ys.length ≤ 900 := by
      have := congrArg List.length hys
      rw [List.length_map] at this
      rw [← this]
      exact Nat.le_trans (List.length_filter_le _ _) (by rw [List.length_map]; exact lk)
    rw [hys] at e3
    try simp only [wp_c, wp_var, slotK_some, wp_op, wp_un, wp_b, asB_bl, wp_tr, asT_some, wp_yes, wp_and, wp_or, wp_not, wp_caseB, wp_andV, wp_orV, wp_notV, wp_if, wp_nil, wp_cons, wp_tup, wp_lst, wp_cb, wp_call, wp_m0, wp_m1, wp_ml0, wp_ml, wp_isi, wp_isi2, wp_nopart, asI_int, wp_part, wp_sl, wp_seq, seqK_nx, seqK_rt, seqK_bk, seqK_ct, wp_next, wp_brk, wp_cont, wp_drop, wp_ret, wp_ifS, wp_set, wp_par, wp_par3, wp_asg, wp_pat, asP_some, wp_sub, asH_some, wp_aug, wp_for, wp_while, wp_lc, wp_lc2, wp_def, defK_rt, defK_nx, wp_miseq, srcK_ref, srcK_tup, srcK_str, rngK_int, wp_range1, wp_enum, enumK_ref, Tl_some, Ts_some, loopK_nx, loopK_ct, loopK_bk, loopK_rt, ixK_some, atI_k0, atI_k1, atI_k2, atI_k3, atI_k4, atI_k5, atI_k6, atI_k8, atI_k9, L2.atI_last, atI_n, g_ix_t, g_ix_s, g_ix_r, cIx_l, cIx_z, cIx_d, cIx_f, g_sub, g_lt, g_le, g_gt, g_ge, g_addi, g_addI, g_adds, g_addt, g_mul, g_muls, g_fdiv, g_mod, g_neg, g_eqs, g_nes, g_eqi, g_nei, g_min, g_max, g_int_b, g_int_i, g_is_non, g_cuts, g_cutt, g_lens, g_lent, g_lenr, cLen_l, cLen_z, g_tupt, g_tupr, cTup_l, g_listt, isLst_r, lstAt_r, cLst_l, cLst_z, tr_r, cTr_l, tr_b, g_set, cSet_l, cSet_d, jK_some, kK_some, ixN_0, ixN_1, ixN_2, isS, mwipe, mPat, mPats, List.getElem?_cons_zero, List.getElem?_cons_succ, List.set_cons_zero, List.set_cons_succ, List.map_cons, List.map_nil, List.length_cons, List.length_nil, List.replicate_succ, List.replicate_zero, List.cons_append, List.nil_append, Nat.reduceAdd, Nat.reduceSub, Nat.reduceLeDiff, Nat.zero_add, Option.map_some, if_true, Bool.false_eq_true, if_false, true_and, and_true, decide_eq_true_eq, reduceIte, reduceCtorEq]
    refine ⟨kvs, x3.get e2, fun h4 c4 e4 => ?_⟩
    exact fin h4 _ _ ys ((x2.trans x3).chg c4 (Nat.le_refl _)) (c4.get e3 (by have := lt_of_get e2; omega)) hy ly
end K03

namespace K03
open PySem PySem.Spec PyProof.Rows L2 Mi
def DatOk (h : MH) (w : W) : Prop := ∃ d, toD h 63 w = some d ∧ d.canLay0 = true ∧ d.depth ≤ 62
theorem dats {h : MH} : ∀ {xs : List W}, (∀ x ∈ xs, DatOk h x) → ∃ ds, toDs h 63 xs = some ds ∧ PyData.canLayAll0 ds = true ∧ PyData.depthAll ds ≤ 62 ∧ ds.length = xs.length
  | [], _ => ⟨[], by unfold toDs; rfl, by simp [PyData.canLayAll0], by simp [PyData.depthAll], rfl⟩
  | x :: xs, hx => by
    obtain ⟨d, e1, a1, b1⟩ := hx x (by simp)
    obtain ⟨ds, e2, a2, b2, c2⟩ := dats (xs := xs) fun y hy => hx y (by simp [hy])
    refine ⟨d :: ds, by unfold toDs; rw [e1, e2], by simp [PyData.canLayAll0, a1, a2], ?_, by simp [c2]⟩
    simp only [PyData.depthAll]; omega
theorem eq_nilD {h : MH} {d e : Nat} {xs : List W} (hd : h[d]? = some (.lst xs)) (he : h[e]? = some (.lst [])) (f : ∀ x ∈ xs, DatOk h x) : eqW (.ref d) (.ref e) h = some xs.isEmpty := by
  obtain ⟨ds, e3, a, b, c⟩ := dats f
  have e1 : toD h 64 (.ref d) = some (.list ds) := by unfold toD; rw [lstAt_lst hd]; simp [e3]
  have e2 : toD h 64 (.ref e) = some (.list []) := by unfold toD; rw [lstAt_lst he]; simp [toDs]
  show eqD _ _ _ = _
  unfold eqD
  rw [e1, e2]
  have s1 : SeqAt.shaped (.list ds) = true := by simp [SeqAt.shaped, PyData.canLay0, PyData.depth, a]; omega
  have s2 : SeqAt.shaped (.list []) = true := by simp [SeqAt.shaped, PyData.canLay0, PyData.canLayAll0, PyData.depth, PyData.depthAll]
  simp only [s1, s2, Bool.and_self, if_true]
  cases xs with
  | nil => cases ds with
    | nil => simp [PyData.eqv, PyData.eqvAll]
    | cons y r => simp at c
  | cons x r => cases ds with
    | nil => simp at c
    | cons y r => simp [PyData.eqv, PyData.eqvAll]
theorem Tl.ne_nilD {h : MH} {Q : W → MH → Prop} {d : Nat} {xs : List W} (hd : h[d]? = some (.lst xs)) (f : ∀ h', Ext h h' → ∀ x ∈ xs, DatOk h' x) (c : ∀ h', Ext h h' → Q (.bl (!xs.isEmpty)) h') : Tl (Mi.newL [] h) (fun y h2 => Tl (gNe (.ref d) y h2) Q) := by
  refine Tl.newL (by simp) fun h2 x2 _ e2 => ?_
  rw [show gNe (.ref d) (.ref h.length) h2 = some (.bl (!xs.isEmpty), h2) by simp [gNe, eq_nilD (x2.get hd) e2 (f h2 x2)], Tl_some]
  exact c h2 x2
theorem okT_it {K : Str → Prop} {m : Nat} {x : W} (h : ItOk K m x) (hK : ∀ k, K k → PyData.strOk k = true) : okT x = true ∧ dpW x ≤ 2 := by
  have k1 : PyData.strOk "lit" = true := by decide +kernel
  have k2 : PyData.strOk "sign" = true := by decide +kernel
  have k3 : PyData.strOk "name" = true := by decide +kernel
  have k4 : PyData.strOk "term" = true := by decide +kernel
  rcases h with rfl | ⟨z, rfl, hz⟩ | ⟨k, rfl, hk⟩ | ⟨k, ops, rfl, hk, _, ho⟩
  · simp [okT, okTs, dpW, dpWs, k1]
  · simp [okT, okTs, dpW, dpWs, k2, hz]
  · simp [okT, okTs, dpW, dpWs, k3, hK k hk]
  · have a : okTs ops = true := okTs_all.mpr fun o h => by obtain ⟨j, rfl, _⟩ := ho o h; rfl
    have b : dpWs ops ≤ 0 := dpWs_le.mpr fun o h => by obtain ⟨j, rfl, _⟩ := ho o h; exact Nat.le_refl _
    refine ⟨by simp [okT, okTs, k4, hK k hk, a], ?_⟩
    simp [dpW, dpWs]; omega
theorem okT_its {K : Str → Prop} {its : List W} (h : ItsOk K its) (hK : ∀ k, K k → PyData.strOk k = true) : okTs its = true ∧ dpWs its ≤ 2 := by
  have : ∀ x ∈ its, okT x = true ∧ dpW x ≤ 2 := fun x hx => by
    obtain ⟨i, hi, e⟩ := List.getElem_of_mem hx
    exact okT_it (h.at_ i x (by rw [← e]; exact List.getElem?_eq_getElem hi)) hK
  exact ⟨okTs_all.mpr fun x hx => (this x hx).1, dpWs_le.mpr fun x hx => (this x hx).2⟩
theorem dat_tree {h : MH} {w : W} (a : okT w = true) (b : dpW w ≤ 60) : DatOk h w := by
  obtain ⟨c, d⟩ := dt_lay w a
  exact ⟨dtW w, toD_tr w 63 a (by omega), c, by omega⟩
theorem dat_form {h : MH} {ks : List Str} {f : W} (hf : IsForm (· ∈ ks) f) (kok : ∀ k ∈ ks, PyData.strOk k = true) : DatOk h f := by
  obtain ⟨hd, its, kd, q⟩ := hf
  rw [q.eq]
  obtain ⟨a, b⟩ := okT_its q.its kok
  refine dat_tree (by simp [okT, okTs, q.hs, a, kok kd q.kd]) ?_
  simp [dpW, dpWs]; omega
theorem toDs_strs {h : MH} {k : Nat} : ∀ {zs : List Str}, toDs h k (zs.map W.str) = some (zs.map PyData.str)
  | [] => by unfold toDs; rfl
  | z :: zs => by
    rw [List.map_cons]; unfold toDs
    rw [toDs_strs (zs := zs)]
    have : toD h k (.str z) = some (.str z) := by unfold toD; rfl
    rw [this]; rfl
theorem lay_strs : ∀ {zs : List Str}, (∀ z ∈ zs, PyData.strOk z = true) → PyData.canLayAll0 (zs.map PyData.str) = true ∧ PyData.depthAll (zs.map PyData.str) = 0
  | [], _ => by simp [PyData.canLayAll0, PyData.depthAll]
  | z :: zs, h => by
    obtain ⟨a, b⟩ := lay_strs (zs := zs) fun y hy => h y (by simp [hy])
    simp [PyData.canLayAll0, PyData.depthAll, PyData.canLay0, PyData.depth, a, b, h z (by simp)]
theorem dat_call {A : Nat → Prop} {h : MH} {ks : List Str} {c : W} (hc : IsCall A h ks c) (kok : ∀ k ∈ ks, PyData.strOk k = true) : DatOk h c := by
  obtain ⟨hd, r, kl, kd, q⟩ := hc
  rw [q.eq]
  obtain ⟨a, b⟩ := lay_strs (zs := kl) fun k hk => kok k (q.kl k hk)
  refine ⟨.tuple [.str hd, .list (kl.map .str), .str kd], ?_, ?_, ?_⟩
  · unfold toD
    have e1 : toD h 62 (.str hd) = some (.str hd) := by unfold toD; rfl
    have e2 : toD h 62 (.str kd) = some (.str kd) := by unfold toD; rfl
    have e3 : toD h 62 (.ref r) = some (.list (kl.map .str)) := by unfold toD; rw [lstAt_lst q.at_]; simp [toDs_strs]
    simp [toDs, e1, e2, e3]
  · simp [PyData.canLay0, PyData.canLayAll0, a, q.hs, kok kd q.kd]
  · simp [PyData.depth, PyData.depthAll, b]
end K03

namespace K03
open PySem PySem.Spec PyProof.Rows L2 Mi
def kindF (kind : W) : W → Bool
  | .tup [_, _, .str k] => inKd kind k
  | _ => false
def leafF : W → Bool
  | .tup [_, .tup its, _] => (its.filter (tagIs "term")).isEmpty
  | _ => false
def wideF : W → Bool
  | .tup [.str hd, .tup its, _] => occurs "." hd || !(its.filter (tagIs "term")).isEmpty
  | .tup [.str hd, .ref _, _] => occurs "." hd
  | _ => false
def IsRow (A : Nat → Prop) (h : MH) (ks : List Str) (leaf : Prop) (w : W) : Prop := (∃ hd its kd, FormOk (· ∈ ks) w hd its kd ∧ (leaf → cnt "term" its = 0)) ∨ (IsCall A h ks w ∧ ¬ leaf)
theorem IsRow.fr {A : Nat → Prop} {h h' : MH} {ks : List Str} {leaf : Prop} {w : W} (x : IsRow A h ks leaf w) (f : Fr A h h') : IsRow A h' ks leaf w := by
  rcases x with q | ⟨⟨hd, r, kl, kd, q⟩, p⟩
  · exact .inl q
  · exact .inr ⟨⟨hd, r, kl, kd, q.fr f⟩, p⟩
theorem g_in_s {h : MH} {a b : Str} : gInD false gIn (.str a) (.str b) h = some (.bl (occurs a b), h) := rfl
theorem base_in {ks : List Str} {mu : Bool} {ksA : List Str} {kind : W} {fs : List W} (k0 : 0 < ks.length) (kk : KindOk mu ksA kind) (hks : mu = false → ks = ksA) (hb : ∀ k ∈ ks, Base ks fs k) : ∃ hd its k, (W.tup [.str hd, .tup its, .str k]) ∈ fs ∧ cnt "term" its = 0 ∧ inKd kind k = true := by
  obtain ⟨P, p1, p2, p3⟩ := inKd_ok kk
  cases mu with
  | true =>
    obtain ⟨hd, its, m, c⟩ := hb ks[0] (List.getElem_mem k0)
    exact ⟨hd, its, _, m, c, by rw [p1]; exact p2 rfl _⟩
  | false =>
    obtain ⟨k, hk, pk⟩ := p3 rfl
    obtain ⟨hd, its, m, c⟩ := hb k (by rw [hks rfl]; exact hk)
    exact ⟨hd, its, _, m, c, by rw [p1]; exact pk⟩
theorem rows_spec {n b wd F C : Nat} {h : MH} {o kn d6 d7 : W} {D fd cd : List (Key × W)} {ks ksA : List Str} {mu : Bool} {kind : W} {room : Int} {t : Str} (hn : 1000 ≤ n) (hb : IsBox h b) (eD : h[wd]? = some (.dic D)) (g1 : getW D (.inr "forms") = some (.ref F)) (g2 : getW D (.inr "calls") = some (.ref C))
    (wdb : wd ≠ b) (Fb : F ≠ b) (Cb : C ≠ b) (eF : h[F]? = some (.dic fd)) (eC : h[C]? = some (.dic cd)) (tg : TongueAt (· = b) h fd cd t ks) (kk : KindOk mu ksA kind) (hks : mu = false → ks = ksA) {P : Fl → MS → MH → Prop}
    (fin : ∀ (h' : MH) (r : Nat) (u9 : Option W) (rows : List W), Bx b h h' → r ≠ b → h'[r]? = some (.lst rows) → 0 < rows.length → rows.length ≤ 60 → (∀ w ∈ rows, IsRow (· = b) h' ks (room < 2) w) →
      P .nx [some (.ref b), some (.ref wd), some o, some kn, some kind, some (.int room), some d6, some (.ref r), some (.str t), u9, none, none, none, none, none, none, none, none, none, none] h') :
    Ts (mSeq (mSet 7 (mLc (miSeq (mOp (gIxD gIx) (mOp (gIxD gIx) (mVar 1) (mC (.str "forms"))) (mVar 8))) (.nm 16) (mB (mOp (gInD false gIn) (mVar 4) (mTup (mCons (mC .non) (mCons (mOp (gIxD gIx) (mVar 16) (mC (.int 2))) mNil))))) (mVar 16) [16]))
    (mIfS (mB (mOp gLt (mVar 5) (mC (.int 2)))) (mSet 7 (mLc (miSeq (mVar 7)) (.nm 16) (mB (mOp gEq (mLc (miSeq (mOp (gIxD gIx) (mVar 16) (mC (.int 1)))) (.nm 17) (mB (mOp gEq (mOp (gIxD gIx) (mVar 17) (mC (.int 0))) (mC (.str "term")))) (mVar 17) [17]) (mLst mNil))) (mVar 16) [16])) (mSeq (mSet 7 (mOp gAdd (mVar 7) (mLc (miSeq (mOp (gIxD gIx) (mOp (gIxD gIx) (mVar 1) (mC (.str "calls"))) (mVar 8))) (.nm 18) (mB (mOp (gInD false gIn) (mVar 4) (mTup (mCons (mC .non) (mCons (mOp (gIxD gIx) (mVar 18) (mC (.int 2))) mNil))))) (mVar 18) [18])))
    (mSeq (mSet 9 (mLc (miSeq (mVar 7)) (.nm 18) (mOr (mB (mOp (gInD false gIn) (mC (.str ".")) (mOp (gIxD gIx) (mVar 18) (mC (.int 0))))) (mB (mOp gNe (mLc (miSeq (mOp (gIxD gIx) (mVar 18) (mC (.int 1)))) (.nm 17) (mB (mOp gEq (mOp (gIxD gIx) (mVar 17) (mC (.int 0))) (mC (.str "term")))) (mVar 17) [17]) (mLst mNil)))) (mVar 18) [18]))
    (mSet 7 (mOp (gIxD gIx) (mLst (mCons (mVar 7) (mCons (mVar 9) mNil))) (mCB gInt3 (mCons (mAndV (mOp gNe (mVar 9) (mLst mNil)) (mOp gGt (mCall f__law_take (mCons (mVar 0) (mCons (mC (.int 6)) mNil))) (mC (.int 0)))) mNil)))))))
    n [some (.ref b), some (.ref wd), some o, some kn, some kind, some (.int room), some d6, some d7, some (.str t), none, none, none, none, none, none, none, none, none, none, none] h) P := by
  obtain ⟨i, fs, f1, f2, f3, f4, f5, f6⟩ := tg.forms
  obtain ⟨j, cs, j1, j2, j3, j4, j5⟩ := tg.calls
  obtain ⟨bh, bi, bk, bm, bc, bq⟩ := base_in tg.k0 kk hks f6
  have lb := hb.lt
  simp only [wp_c, wp_var, slotK_some, wp_op, wp_un, wp_b, asB_bl, wp_tr, asT_some, wp_yes, wp_and, wp_or, wp_not, wp_caseB, wp_andV, wp_orV, wp_notV, wp_if, wp_nil, wp_cons, wp_tup, wp_lst, wp_cb, wp_call, wp_m0, wp_m1, wp_ml0, wp_ml, wp_isi, wp_isi2, wp_nopart, asI_int, wp_part, wp_sl, wp_seq, seqK_nx, seqK_rt, seqK_bk, seqK_ct, wp_next, wp_brk, wp_cont, wp_drop, wp_ret, wp_ifS, wp_set, wp_par, wp_par3, wp_asg, wp_pat, asP_some, wp_sub, asH_some, wp_aug, wp_for, wp_while, wp_lc, wp_lc2, wp_def, defK_rt, defK_nx, wp_miseq, srcK_ref, srcK_tup, srcK_str, rngK_int, wp_range1, wp_enum, enumK_ref, Tl_some, Ts_some, loopK_nx, loopK_ct, loopK_bk, loopK_rt, ixK_some, atI_k0, atI_k1, atI_k2, atI_k3, atI_k4, atI_k5, atI_k6, atI_k8, atI_k9, L2.atI_last, atI_n, g_ix_t, g_ix_s, g_ix_r, cIx_l, cIx_z, cIx_d, cIx_f, g_sub, g_lt, g_le, g_gt, g_ge, g_addi, g_addI, g_adds, g_addt, g_mul, g_muls, g_fdiv, g_mod, g_neg, g_eqs, g_nes, g_eqi, g_nei, g_min, g_max, g_int_b, g_int_i, g_is_non, g_cuts, g_cutt, g_lens, g_lent, g_lenr, cLen_l, cLen_z, g_tupt, g_tupr, cTup_l, g_listt, isLst_r, lstAt_r, cLst_l, cLst_z, tr_r, cTr_l, tr_b, g_set, cSet_l, cSet_d, jK_some, kK_some, ixN_0, ixN_1, ixN_2, isS, mwipe, mPat, mPats, List.getElem?_cons_zero, List.getElem?_cons_succ, List.set_cons_zero, List.set_cons_succ, List.map_cons, List.map_nil, List.length_cons, List.length_nil, List.replicate_succ, List.replicate_zero, List.cons_append, List.nil_append, Nat.reduceAdd, Nat.reduceSub, Nat.reduceLeDiff, Nat.zero_add, Option.map_some, if_true, Bool.false_eq_true, if_false, true_and, and_true, decide_eq_true_eq, reduceIte, reduceCtorEq, eD, keyW_str, Option.bind_some, g1, eF, f1, f3]
  refine Tl.lc_e (xs := fs) (kindF kind) id (fun _ x => is_cell (x.get f3)) (by omega) (by omega) ?_ ?_
  · intro x hx h1 x1
    obtain ⟨hd, its, kd, q⟩ := f5 x hx
    have qe := q.eq
    subst qe
    refine ⟨_, rfl, ?_⟩
    simp only [wp_c, wp_var, slotK_some, wp_op, wp_un, wp_b, asB_bl, wp_tr, asT_some, wp_yes, wp_and, wp_or, wp_not, wp_caseB, wp_andV, wp_orV, wp_notV, wp_if, wp_nil, wp_cons, wp_tup, wp_lst, wp_cb, wp_call, wp_m0, wp_m1, wp_ml0, wp_ml, wp_isi, wp_isi2, wp_nopart, asI_int, wp_part, wp_sl, wp_seq, seqK_nx, seqK_rt, seqK_bk, seqK_ct, wp_next, wp_brk, wp_cont, wp_drop, wp_ret, wp_ifS, wp_set, wp_par, wp_par3, wp_asg, wp_pat, asP_some, wp_sub, asH_some, wp_aug, wp_for, wp_while, wp_lc, wp_lc2, wp_def, defK_rt, defK_nx, wp_miseq, srcK_ref, srcK_tup, srcK_str, rngK_int, wp_range1, wp_enum, enumK_ref, Tl_some, Ts_some, loopK_nx, loopK_ct, loopK_bk, loopK_rt, ixK_some, atI_k0, atI_k1, atI_k2, atI_k3, atI_k4, atI_k5, atI_k6, atI_k8, atI_k9, L2.atI_last, atI_n, g_ix_t, g_ix_s, g_ix_r, cIx_l, cIx_z, cIx_d, cIx_f, g_sub, g_lt, g_le, g_gt, g_ge, g_addi, g_addI, g_adds, g_addt, g_mul, g_muls, g_fdiv, g_mod, g_neg, g_eqs, g_nes, g_eqi, g_nei, g_min, g_max, g_int_b, g_int_i, g_is_non, g_cuts, g_cutt, g_lens, g_lent, g_lenr, cLen_l, cLen_z, g_tupt, g_tupr, cTup_l, g_listt, isLst_r, lstAt_r, cLst_l, cLst_z, tr_r, cTr_l, tr_b, g_set, cSet_l, cSet_d, jK_some, kK_some, ixN_0, ixN_1, ixN_2, isS, mwipe, mPat, mPats, List.getElem?_cons_zero, List.getElem?_cons_succ, List.set_cons_zero, List.set_cons_succ, List.map_cons, List.map_nil, List.length_cons, List.length_nil, List.replicate_succ, List.replicate_zero, List.cons_append, List.nil_append, Nat.reduceAdd, Nat.reduceSub, Nat.reduceLeDiff, Nat.zero_add, Option.map_some, if_true, Bool.false_eq_true, if_false, true_and, and_true, decide_eq_true_eq, reduceIte, reduceCtorEq]
    repeat (refine ⟨by decide, ?_⟩)
    rw [g_in_non kk.flat, Tl_some, asB_bl]
    exact ⟨rfl, Ext.refl _, fun _ => ⟨rfl, Ext.refl _⟩⟩
  · intro h1 x1 e1
    rw [List.map_id] at e1
    have lx1 := x1.len
    have hm : W.tup [.str bh, .tup bi, .str bk] ∈ fs.filter (kindF kind) := List.mem_filter.mpr ⟨bm, bq⟩
    have lf : (fs.filter (kindF kind)).length ≤ 20 := Nat.le_trans (List.length_filter_le _ _) f4
    have frm : ∀ x ∈ fs.filter (kindF kind), IsForm (· ∈ ks) x := fun x hx => f5 x (List.mem_filter.mp hx).1
    generalize fs.filter (kindF kind) = fl at e1 hm lf frm
    try simp only [wp_c, wp_var, slotK_some, wp_op, wp_un, wp_b, asB_bl, wp_tr, asT_some, wp_yes, wp_and, wp_or, wp_not, wp_caseB, wp_andV, wp_orV, wp_notV, wp_if, wp_nil, wp_cons, wp_tup, wp_lst, wp_cb, wp_call, wp_m0, wp_m1, wp_ml0, wp_ml, wp_isi, wp_isi2, wp_nopart, asI_int, wp_part, wp_sl, wp_seq, seqK_nx, seqK_rt, seqK_bk, seqK_ct, wp_next, wp_brk, wp_cont, wp_drop, wp_ret, wp_ifS, wp_set, wp_par, wp_par3, wp_asg, wp_pat, asP_some, wp_sub, asH_some, wp_aug, wp_for, wp_while, wp_lc, wp_lc2, wp_def, defK_rt, defK_nx, wp_miseq, srcK_ref, srcK_tup, srcK_str, rngK_int, wp_range1, wp_enum, enumK_ref, Tl_some, Ts_some, loopK_nx, loopK_ct, loopK_bk, loopK_rt, ixK_some, atI_k0, atI_k1, atI_k2, atI_k3, atI_k4, atI_k5, atI_k6, atI_k8, atI_k9, L2.atI_last, atI_n, g_ix_t, g_ix_s, g_ix_r, cIx_l, cIx_z, cIx_d, cIx_f, g_sub, g_lt, g_le, g_gt, g_ge, g_addi, g_addI, g_adds, g_addt, g_mul, g_muls, g_fdiv, g_mod, g_neg, g_eqs, g_nes, g_eqi, g_nei, g_min, g_max, g_int_b, g_int_i, g_is_non, g_cuts, g_cutt, g_lens, g_lent, g_lenr, cLen_l, cLen_z, g_tupt, g_tupr, cTup_l, g_listt, isLst_r, lstAt_r, cLst_l, cLst_z, tr_r, cTr_l, tr_b, g_set, cSet_l, cSet_d, jK_some, kK_some, ixN_0, ixN_1, ixN_2, isS, mwipe, mPat, mPats, List.getElem?_cons_zero, List.getElem?_cons_succ, List.set_cons_zero, List.set_cons_succ, List.map_cons, List.map_nil, List.length_cons, List.length_nil, List.replicate_succ, List.replicate_zero, List.cons_append, List.nil_append, Nat.reduceAdd, Nat.reduceSub, Nat.reduceLeDiff, Nat.zero_add, Option.map_some, if_true, Bool.false_eq_true, if_false, true_and, and_true, decide_eq_true_eq, reduceIte, reduceCtorEq]
    by_cases hr : room < 2
    · simp only [hr, wp_c, wp_var, slotK_some, wp_op, wp_un, wp_b, asB_bl, wp_tr, asT_some, wp_yes, wp_and, wp_or, wp_not, wp_caseB, wp_andV, wp_orV, wp_notV, wp_if, wp_nil, wp_cons, wp_tup, wp_lst, wp_cb, wp_call, wp_m0, wp_m1, wp_ml0, wp_ml, wp_isi, wp_isi2, wp_nopart, asI_int, wp_part, wp_sl, wp_seq, seqK_nx, seqK_rt, seqK_bk, seqK_ct, wp_next, wp_brk, wp_cont, wp_drop, wp_ret, wp_ifS, wp_set, wp_par, wp_par3, wp_asg, wp_pat, asP_some, wp_sub, asH_some, wp_aug, wp_for, wp_while, wp_lc, wp_lc2, wp_def, defK_rt, defK_nx, wp_miseq, srcK_ref, srcK_tup, srcK_str, rngK_int, wp_range1, wp_enum, enumK_ref, Tl_some, Ts_some, loopK_nx, loopK_ct, loopK_bk, loopK_rt, ixK_some, atI_k0, atI_k1, atI_k2, atI_k3, atI_k4, atI_k5, atI_k6, atI_k8, atI_k9, L2.atI_last, atI_n, g_ix_t, g_ix_s, g_ix_r, cIx_l, cIx_z, cIx_d, cIx_f, g_sub, g_lt, g_le, g_gt, g_ge, g_addi, g_addI, g_adds, g_addt, g_mul, g_muls, g_fdiv, g_mod, g_neg, g_eqs, g_nes, g_eqi, g_nei, g_min, g_max, g_int_b, g_int_i, g_is_non, g_cuts, g_cutt, g_lens, g_lent, g_lenr, cLen_l, cLen_z, g_tupt, g_tupr, cTup_l, g_listt, isLst_r, lstAt_r, cLst_l, cLst_z, tr_r, cTr_l, tr_b, g_set, cSet_l, cSet_d, jK_some, kK_some, ixN_0, ixN_1, ixN_2, isS, mwipe, mPat, mPats, List.getElem?_cons_zero, List.getElem?_cons_succ, List.set_cons_zero, List.set_cons_succ, List.map_cons, List.map_nil, List.length_cons, List.length_nil, List.replicate_succ, List.replicate_zero, List.cons_append, List.nil_append, Nat.reduceAdd, Nat.reduceSub, Nat.reduceLeDiff, Nat.zero_add, Option.map_some, if_true, Bool.false_eq_true, if_false, true_and, and_true, decide_eq_true_eq, reduceIte, reduceCtorEq, e1]
      refine Tl.lc_e (xs := fl) leafF id (fun _ x => is_cell (x.get e1)) (by omega) (by omega) ?_ ?_
      · intro x hx h2 x2
        obtain ⟨hd, its, kd, q⟩ := frm x hx
        have qe := q.eq
        subst qe
        refine ⟨_, rfl, ?_⟩
        simp only [wp_c, wp_var, slotK_some, wp_op, wp_un, wp_b, asB_bl, wp_tr, asT_some, wp_yes, wp_and, wp_or, wp_not, wp_caseB, wp_andV, wp_orV, wp_notV, wp_if, wp_nil, wp_cons, wp_tup, wp_lst, wp_cb, wp_call, wp_m0, wp_m1, wp_ml0, wp_ml, wp_isi, wp_isi2, wp_nopart, asI_int, wp_part, wp_sl, wp_seq, seqK_nx, seqK_rt, seqK_bk, seqK_ct, wp_next, wp_brk, wp_cont, wp_drop, wp_ret, wp_ifS, wp_set, wp_par, wp_par3, wp_asg, wp_pat, asP_some, wp_sub, asH_some, wp_aug, wp_for, wp_while, wp_lc, wp_lc2, wp_def, defK_rt, defK_nx, wp_miseq, srcK_ref, srcK_tup, srcK_str, rngK_int, wp_range1, wp_enum, enumK_ref, Tl_some, Ts_some, loopK_nx, loopK_ct, loopK_bk, loopK_rt, ixK_some, atI_k0, atI_k1, atI_k2, atI_k3, atI_k4, atI_k5, atI_k6, atI_k8, atI_k9, L2.atI_last, atI_n, g_ix_t, g_ix_s, g_ix_r, cIx_l, cIx_z, cIx_d, cIx_f, g_sub, g_lt, g_le, g_gt, g_ge, g_addi, g_addI, g_adds, g_addt, g_mul, g_muls, g_fdiv, g_mod, g_neg, g_eqs, g_nes, g_eqi, g_nei, g_min, g_max, g_int_b, g_int_i, g_is_non, g_cuts, g_cutt, g_lens, g_lent, g_lenr, cLen_l, cLen_z, g_tupt, g_tupr, cTup_l, g_listt, isLst_r, lstAt_r, cLst_l, cLst_z, tr_r, cTr_l, tr_b, g_set, cSet_l, cSet_d, jK_some, kK_some, ixN_0, ixN_1, ixN_2, isS, mwipe, mPat, mPats, List.getElem?_cons_zero, List.getElem?_cons_succ, List.set_cons_zero, List.set_cons_succ, List.map_cons, List.map_nil, List.length_cons, List.length_nil, List.replicate_succ, List.replicate_zero, List.cons_append, List.nil_append, Nat.reduceAdd, Nat.reduceSub, Nat.reduceLeDiff, Nat.zero_add, Option.map_some, if_true, Bool.false_eq_true, if_false, true_and, and_true, decide_eq_true_eq, reduceIte, reduceCtorEq]
        have lit := q.its.len
        refine Tl.tags (xs := its) (fun _ _ => is_items) q.its.tagd (by omega) (by omega) (fun h3 x3 e3 => ?_)
        obtain ⟨a, c⟩ := okT_its q.its tg.kok
        have a' : okTs (its.filter (tagIs (Str.ofString "term"))) = true := okTs_all.mpr fun x hx => okTs_all.mp a x (List.mem_filter.mp hx).1
        have c' : dpWs (its.filter (tagIs (Str.ofString "term"))) ≤ 60 := dpWs_le.mpr fun x hx => Nat.le_trans (dpWs_le.mp c x (List.mem_filter.mp hx).1) (by omega)
        refine Tl.eq_nil e3 a' c' fun h4 x4 => ?_
        simp only [wp_c, wp_var, slotK_some, wp_op, wp_un, wp_b, asB_bl, wp_tr, asT_some, wp_yes, wp_and, wp_or, wp_not, wp_caseB, wp_andV, wp_orV, wp_notV, wp_if, wp_nil, wp_cons, wp_tup, wp_lst, wp_cb, wp_call, wp_m0, wp_m1, wp_ml0, wp_ml, wp_isi, wp_isi2, wp_nopart, asI_int, wp_part, wp_sl, wp_seq, seqK_nx, seqK_rt, seqK_bk, seqK_ct, wp_next, wp_brk, wp_cont, wp_drop, wp_ret, wp_ifS, wp_set, wp_par, wp_par3, wp_asg, wp_pat, asP_some, wp_sub, asH_some, wp_aug, wp_for, wp_while, wp_lc, wp_lc2, wp_def, defK_rt, defK_nx, wp_miseq, srcK_ref, srcK_tup, srcK_str, rngK_int, wp_range1, wp_enum, enumK_ref, Tl_some, Ts_some, loopK_nx, loopK_ct, loopK_bk, loopK_rt, ixK_some, atI_k0, atI_k1, atI_k2, atI_k3, atI_k4, atI_k5, atI_k6, atI_k8, atI_k9, L2.atI_last, atI_n, g_ix_t, g_ix_s, g_ix_r, cIx_l, cIx_z, cIx_d, cIx_f, g_sub, g_lt, g_le, g_gt, g_ge, g_addi, g_addI, g_adds, g_addt, g_mul, g_muls, g_fdiv, g_mod, g_neg, g_eqs, g_nes, g_eqi, g_nei, g_min, g_max, g_int_b, g_int_i, g_is_non, g_cuts, g_cutt, g_lens, g_lent, g_lenr, cLen_l, cLen_z, g_tupt, g_tupr, cTup_l, g_listt, isLst_r, lstAt_r, cLst_l, cLst_z, tr_r, cTr_l, tr_b, g_set, cSet_l, cSet_d, jK_some, kK_some, ixN_0, ixN_1, ixN_2, isS, mwipe, mPat, mPats, List.getElem?_cons_zero, List.getElem?_cons_succ, List.set_cons_zero, List.set_cons_succ, List.map_cons, List.map_nil, List.length_cons, List.length_nil, List.replicate_succ, List.replicate_zero, List.cons_append, List.nil_append, Nat.reduceAdd, Nat.reduceSub, Nat.reduceLeDiff, Nat.zero_add, Option.map_some, if_true, Bool.false_eq_true, if_false, true_and, and_true, decide_eq_true_eq, reduceIte, reduceCtorEq]
        exact ⟨rfl, x3.trans x4, fun _ => ⟨rfl, Ext.refl _⟩⟩
      · intro h2 x2 e2
        rw [List.map_id] at e2
        refine fin h2 _ _ _ ((x1.trans x2).toBx hb) (by have := x1.len; omega) e2 ?_ (Nat.le_trans (List.length_filter_le _ _) (by omega)) fun w hw => ?_
        · refine List.length_pos_of_mem (List.mem_filter.mpr ⟨hm, ?_⟩)
          show (bi.filter (tagIs "term")).isEmpty = true
          rw [List.isEmpty_iff_length_eq_zero]; exact bc
        · obtain ⟨hw1, hw2⟩ := List.mem_filter.mp hw
          obtain ⟨hd, its, kd, q⟩ := frm w hw1
          refine .inl ⟨hd, its, kd, q, fun _ => ?_⟩
          rw [q.eq] at hw2
          have : (its.filter (tagIs "term")).isEmpty = true := hw2
          rw [List.isEmpty_iff_length_eq_zero] at this; exact this
    · have eD1 := x1.get eD
      have eC1 := x1.get eC
      have j31 := x1.get j3
      simp only [hr, wp_c, wp_var, slotK_some, wp_op, wp_un, wp_b, asB_bl, wp_tr, asT_some, wp_yes, wp_and, wp_or, wp_not, wp_caseB, wp_andV, wp_orV, wp_notV, wp_if, wp_nil, wp_cons, wp_tup, wp_lst, wp_cb, wp_call, wp_m0, wp_m1, wp_ml0, wp_ml, wp_isi, wp_isi2, wp_nopart, asI_int, wp_part, wp_sl, wp_seq, seqK_nx, seqK_rt, seqK_bk, seqK_ct, wp_next, wp_brk, wp_cont, wp_drop, wp_ret, wp_ifS, wp_set, wp_par, wp_par3, wp_asg, wp_pat, asP_some, wp_sub, asH_some, wp_aug, wp_for, wp_while, wp_lc, wp_lc2, wp_def, defK_rt, defK_nx, wp_miseq, srcK_ref, srcK_tup, srcK_str, rngK_int, wp_range1, wp_enum, enumK_ref, Tl_some, Ts_some, loopK_nx, loopK_ct, loopK_bk, loopK_rt, ixK_some, atI_k0, atI_k1, atI_k2, atI_k3, atI_k4, atI_k5, atI_k6, atI_k8, atI_k9, L2.atI_last, atI_n, g_ix_t, g_ix_s, g_ix_r, cIx_l, cIx_z, cIx_d, cIx_f, g_sub, g_lt, g_le, g_gt, g_ge, g_addi, g_addI, g_adds, g_addt, g_mul, g_muls, g_fdiv, g_mod, g_neg, g_eqs, g_nes, g_eqi, g_nei, g_min, g_max, g_int_b, g_int_i, g_is_non, g_cuts, g_cutt, g_lens, g_lent, g_lenr, cLen_l, cLen_z, g_tupt, g_tupr, cTup_l, g_listt, isLst_r, lstAt_r, cLst_l, cLst_z, tr_r, cTr_l, tr_b, g_set, cSet_l, cSet_d, jK_some, kK_some, ixN_0, ixN_1, ixN_2, isS, mwipe, mPat, mPats, List.getElem?_cons_zero, List.getElem?_cons_succ, List.set_cons_zero, List.set_cons_succ, List.map_cons, List.map_nil, List.length_cons, List.length_nil, List.replicate_succ, List.replicate_zero, List.cons_append, List.nil_append, Nat.reduceAdd, Nat.reduceSub, Nat.reduceLeDiff, Nat.zero_add, Option.map_some, if_true, Bool.false_eq_true, if_false, true_and, and_true, decide_eq_true_eq, reduceIte, reduceCtorEq, eD1, keyW_str, Option.bind_some, g2, eC1, j1, j31]
      refine Tl.lc_e (xs := cs) (kindF kind) id (fun _ x => is_cell (x.get j31)) (by omega) (by omega) ?_ ?_
      · intro x hx h2 x2
        obtain ⟨hd, r, kl, kd, q⟩ := j5 x hx
        have qe := q.eq
        subst qe
        refine ⟨_, rfl, ?_⟩
        simp only [wp_c, wp_var, slotK_some, wp_op, wp_un, wp_b, asB_bl, wp_tr, asT_some, wp_yes, wp_and, wp_or, wp_not, wp_caseB, wp_andV, wp_orV, wp_notV, wp_if, wp_nil, wp_cons, wp_tup, wp_lst, wp_cb, wp_call, wp_m0, wp_m1, wp_ml0, wp_ml, wp_isi, wp_isi2, wp_nopart, asI_int, wp_part, wp_sl, wp_seq, seqK_nx, seqK_rt, seqK_bk, seqK_ct, wp_next, wp_brk, wp_cont, wp_drop, wp_ret, wp_ifS, wp_set, wp_par, wp_par3, wp_asg, wp_pat, asP_some, wp_sub, asH_some, wp_aug, wp_for, wp_while, wp_lc, wp_lc2, wp_def, defK_rt, defK_nx, wp_miseq, srcK_ref, srcK_tup, srcK_str, rngK_int, wp_range1, wp_enum, enumK_ref, Tl_some, Ts_some, loopK_nx, loopK_ct, loopK_bk, loopK_rt, ixK_some, atI_k0, atI_k1, atI_k2, atI_k3, atI_k4, atI_k5, atI_k6, atI_k8, atI_k9, L2.atI_last, atI_n, g_ix_t, g_ix_s, g_ix_r, cIx_l, cIx_z, cIx_d, cIx_f, g_sub, g_lt, g_le, g_gt, g_ge, g_addi, g_addI, g_adds, g_addt, g_mul, g_muls, g_fdiv, g_mod, g_neg, g_eqs, g_nes, g_eqi, g_nei, g_min, g_max, g_int_b, g_int_i, g_is_non, g_cuts, g_cutt, g_lens, g_lent, g_lenr, cLen_l, cLen_z, g_tupt, g_tupr, cTup_l, g_listt, isLst_r, lstAt_r, cLst_l, cLst_z, tr_r, cTr_l, tr_b, g_set, cSet_l, cSet_d, jK_some, kK_some, ixN_0, ixN_1, ixN_2, isS, mwipe, mPat, mPats, List.getElem?_cons_zero, List.getElem?_cons_succ, List.set_cons_zero, List.set_cons_succ, List.map_cons, List.map_nil, List.length_cons, List.length_nil, List.replicate_succ, List.replicate_zero, List.cons_append, List.nil_append, Nat.reduceAdd, Nat.reduceSub, Nat.reduceLeDiff, Nat.zero_add, Option.map_some, if_true, Bool.false_eq_true, if_false, true_and, and_true, decide_eq_true_eq, reduceIte, reduceCtorEq]
        repeat (refine ⟨by decide, ?_⟩)
        rw [g_in_non kk.flat, Tl_some, asB_bl]
        exact ⟨rfl, Ext.refl _, fun _ => ⟨rfl, Ext.refl _⟩⟩
      · intro h2 x2 e2
        rw [List.map_id] at e2
        have lc : (cs.filter (kindF kind)).length ≤ 20 := Nat.le_trans (List.length_filter_le _ _) j4
        have cal : ∀ x ∈ cs.filter (kindF kind), IsCall (· = b) h ks x := fun x hx => j5 x (List.mem_filter.mp hx).1
        generalize cs.filter (kindF kind) = cl at e2 lc cal
        refine Tl.addl (x2.get e1) e2 (by omega) fun h3 x3 l3 e3 => ?_
        have X3 : Ext h h3 := (x1.trans x2).trans x3
        try simp only [wp_c, wp_var, slotK_some, wp_op, wp_un, wp_b, asB_bl, wp_tr, asT_some, wp_yes, wp_and, wp_or, wp_not, wp_caseB, wp_andV, wp_orV, wp_notV, wp_if, wp_nil, wp_cons, wp_tup, wp_lst, wp_cb, wp_call, wp_m0, wp_m1, wp_ml0, wp_ml, wp_isi, wp_isi2, wp_nopart, asI_int, wp_part, wp_sl, wp_seq, seqK_nx, seqK_rt, seqK_bk, seqK_ct, wp_next, wp_brk, wp_cont, wp_drop, wp_ret, wp_ifS, wp_set, wp_par, wp_par3, wp_asg, wp_pat, asP_some, wp_sub, asH_some, wp_aug, wp_for, wp_while, wp_lc, wp_lc2, wp_def, defK_rt, defK_nx, wp_miseq, srcK_ref, srcK_tup, srcK_str, rngK_int, wp_range1, wp_enum, enumK_ref, Tl_some, Ts_some, loopK_nx, loopK_ct, loopK_bk, loopK_rt, ixK_some, atI_k0, atI_k1, atI_k2, atI_k3, atI_k4, atI_k5, atI_k6, atI_k8, atI_k9, L2.atI_last, atI_n, g_ix_t, g_ix_s, g_ix_r, cIx_l, cIx_z, cIx_d, cIx_f, g_sub, g_lt, g_le, g_gt, g_ge, g_addi, g_addI, g_adds, g_addt, g_mul, g_muls, g_fdiv, g_mod, g_neg, g_eqs, g_nes, g_eqi, g_nei, g_min, g_max, g_int_b, g_int_i, g_is_non, g_cuts, g_cutt, g_lens, g_lent, g_lenr, cLen_l, cLen_z, g_tupt, g_tupr, cTup_l, g_listt, isLst_r, lstAt_r, cLst_l, cLst_z, tr_r, cTr_l, tr_b, g_set, cSet_l, cSet_d, jK_some, kK_some, ixN_0, ixN_1, ixN_2, isS, mwipe, mPat, mPats, List.getElem?_cons_zero, List.getElem?_cons_succ, List.set_cons_zero, List.set_cons_succ, List.map_cons, List.map_nil, List.length_cons, List.length_nil, List.replicate_succ, List.replicate_zero, List.cons_append, List.nil_append, Nat.reduceAdd, Nat.reduceSub, Nat.reduceLeDiff, Nat.zero_add, Option.map_some, if_true, Bool.false_eq_true, if_false, true_and, and_true, decide_eq_true_eq, reduceIte, reduceCtorEq, e3]
        refine Tl.lc_e (xs := fl ++ cl) wideF id (fun _ x => is_cell (x.get e3)) (by rw [List.length_append]; omega) (by rw [List.length_append]; omega) ?_ ?_
        · intro x hx h4 x4
          refine ⟨_, rfl, ?_⟩
          rcases List.mem_append.mp hx with hx | hx
          · obtain ⟨hd, its, kd, q⟩ := frm x hx
            have qe := q.eq
            subst qe
            simp only [wp_c, wp_var, slotK_some, wp_op, wp_un, wp_b, asB_bl, wp_tr, asT_some, wp_yes, wp_and, wp_or, wp_not, wp_caseB, wp_andV, wp_orV, wp_notV, wp_if, wp_nil, wp_cons, wp_tup, wp_lst, wp_cb, wp_call, wp_m0, wp_m1, wp_ml0, wp_ml, wp_isi, wp_isi2, wp_nopart, asI_int, wp_part, wp_sl, wp_seq, seqK_nx, seqK_rt, seqK_bk, seqK_ct, wp_next, wp_brk, wp_cont, wp_drop, wp_ret, wp_ifS, wp_set, wp_par, wp_par3, wp_asg, wp_pat, asP_some, wp_sub, asH_some, wp_aug, wp_for, wp_while, wp_lc, wp_lc2, wp_def, defK_rt, defK_nx, wp_miseq, srcK_ref, srcK_tup, srcK_str, rngK_int, wp_range1, wp_enum, enumK_ref, Tl_some, Ts_some, loopK_nx, loopK_ct, loopK_bk, loopK_rt, ixK_some, atI_k0, atI_k1, atI_k2, atI_k3, atI_k4, atI_k5, atI_k6, atI_k8, atI_k9, L2.atI_last, atI_n, g_ix_t, g_ix_s, g_ix_r, cIx_l, cIx_z, cIx_d, cIx_f, g_sub, g_lt, g_le, g_gt, g_ge, g_addi, g_addI, g_adds, g_addt, g_mul, g_muls, g_fdiv, g_mod, g_neg, g_eqs, g_nes, g_eqi, g_nei, g_min, g_max, g_int_b, g_int_i, g_is_non, g_cuts, g_cutt, g_lens, g_lent, g_lenr, cLen_l, cLen_z, g_tupt, g_tupr, cTup_l, g_listt, isLst_r, lstAt_r, cLst_l, cLst_z, tr_r, cTr_l, tr_b, g_set, cSet_l, cSet_d, jK_some, kK_some, ixN_0, ixN_1, ixN_2, isS, mwipe, mPat, mPats, List.getElem?_cons_zero, List.getElem?_cons_succ, List.set_cons_zero, List.set_cons_succ, List.map_cons, List.map_nil, List.length_cons, List.length_nil, List.replicate_succ, List.replicate_zero, List.cons_append, List.nil_append, Nat.reduceAdd, Nat.reduceSub, Nat.reduceLeDiff, Nat.zero_add, Option.map_some, if_true, Bool.false_eq_true, if_false, true_and, and_true, decide_eq_true_eq, reduceIte, reduceCtorEq]
            rw [g_in_s, Tl_some, asB_bl]
            simp only [q.dot, wp_c, wp_var, slotK_some, wp_op, wp_un, wp_b, asB_bl, wp_tr, asT_some, wp_yes, wp_and, wp_or, wp_not, wp_caseB, wp_andV, wp_orV, wp_notV, wp_if, wp_nil, wp_cons, wp_tup, wp_lst, wp_cb, wp_call, wp_m0, wp_m1, wp_ml0, wp_ml, wp_isi, wp_isi2, wp_nopart, asI_int, wp_part, wp_sl, wp_seq, seqK_nx, seqK_rt, seqK_bk, seqK_ct, wp_next, wp_brk, wp_cont, wp_drop, wp_ret, wp_ifS, wp_set, wp_par, wp_par3, wp_asg, wp_pat, asP_some, wp_sub, asH_some, wp_aug, wp_for, wp_while, wp_lc, wp_lc2, wp_def, defK_rt, defK_nx, wp_miseq, srcK_ref, srcK_tup, srcK_str, rngK_int, wp_range1, wp_enum, enumK_ref, Tl_some, Ts_some, loopK_nx, loopK_ct, loopK_bk, loopK_rt, ixK_some, atI_k0, atI_k1, atI_k2, atI_k3, atI_k4, atI_k5, atI_k6, atI_k8, atI_k9, L2.atI_last, atI_n, g_ix_t, g_ix_s, g_ix_r, cIx_l, cIx_z, cIx_d, cIx_f, g_sub, g_lt, g_le, g_gt, g_ge, g_addi, g_addI, g_adds, g_addt, g_mul, g_muls, g_fdiv, g_mod, g_neg, g_eqs, g_nes, g_eqi, g_nei, g_min, g_max, g_int_b, g_int_i, g_is_non, g_cuts, g_cutt, g_lens, g_lent, g_lenr, cLen_l, cLen_z, g_tupt, g_tupr, cTup_l, g_listt, isLst_r, lstAt_r, cLst_l, cLst_z, tr_r, cTr_l, tr_b, g_set, cSet_l, cSet_d, jK_some, kK_some, ixN_0, ixN_1, ixN_2, isS, mwipe, mPat, mPats, List.getElem?_cons_zero, List.getElem?_cons_succ, List.set_cons_zero, List.set_cons_succ, List.map_cons, List.map_nil, List.length_cons, List.length_nil, List.replicate_succ, List.replicate_zero, List.cons_append, List.nil_append, Nat.reduceAdd, Nat.reduceSub, Nat.reduceLeDiff, Nat.zero_add, Option.map_some, if_true, Bool.false_eq_true, if_false, true_and, and_true, decide_eq_true_eq, reduceIte, reduceCtorEq]
            have lit := q.its.len
            refine Tl.tags (xs := its) (fun _ _ => is_items) q.its.tagd (by omega) (by omega) (fun h3 x3 e3 => ?_)
            obtain ⟨a, c⟩ := okT_its q.its tg.kok
            have a' : okTs (its.filter (tagIs (Str.ofString "term"))) = true := okTs_all.mpr fun x hx => okTs_all.mp a x (List.mem_filter.mp hx).1
            have c' : dpWs (its.filter (tagIs (Str.ofString "term"))) ≤ 60 := dpWs_le.mpr fun x hx => Nat.le_trans (dpWs_le.mp c x (List.mem_filter.mp hx).1) (by omega)
            refine Tl.ne_nil e3 a' c' fun h4 x4 => ?_
            simp only [wp_c, wp_var, slotK_some, wp_op, wp_un, wp_b, asB_bl, wp_tr, asT_some, wp_yes, wp_and, wp_or, wp_not, wp_caseB, wp_andV, wp_orV, wp_notV, wp_if, wp_nil, wp_cons, wp_tup, wp_lst, wp_cb, wp_call, wp_m0, wp_m1, wp_ml0, wp_ml, wp_isi, wp_isi2, wp_nopart, asI_int, wp_part, wp_sl, wp_seq, seqK_nx, seqK_rt, seqK_bk, seqK_ct, wp_next, wp_brk, wp_cont, wp_drop, wp_ret, wp_ifS, wp_set, wp_par, wp_par3, wp_asg, wp_pat, asP_some, wp_sub, asH_some, wp_aug, wp_for, wp_while, wp_lc, wp_lc2, wp_def, defK_rt, defK_nx, wp_miseq, srcK_ref, srcK_tup, srcK_str, rngK_int, wp_range1, wp_enum, enumK_ref, Tl_some, Ts_some, loopK_nx, loopK_ct, loopK_bk, loopK_rt, ixK_some, atI_k0, atI_k1, atI_k2, atI_k3, atI_k4, atI_k5, atI_k6, atI_k8, atI_k9, L2.atI_last, atI_n, g_ix_t, g_ix_s, g_ix_r, cIx_l, cIx_z, cIx_d, cIx_f, g_sub, g_lt, g_le, g_gt, g_ge, g_addi, g_addI, g_adds, g_addt, g_mul, g_muls, g_fdiv, g_mod, g_neg, g_eqs, g_nes, g_eqi, g_nei, g_min, g_max, g_int_b, g_int_i, g_is_non, g_cuts, g_cutt, g_lens, g_lent, g_lenr, cLen_l, cLen_z, g_tupt, g_tupr, cTup_l, g_listt, isLst_r, lstAt_r, cLst_l, cLst_z, tr_r, cTr_l, tr_b, g_set, cSet_l, cSet_d, jK_some, kK_some, ixN_0, ixN_1, ixN_2, isS, mwipe, mPat, mPats, List.getElem?_cons_zero, List.getElem?_cons_succ, List.set_cons_zero, List.set_cons_succ, List.map_cons, List.map_nil, List.length_cons, List.length_nil, List.replicate_succ, List.replicate_zero, List.cons_append, List.nil_append, Nat.reduceAdd, Nat.reduceSub, Nat.reduceLeDiff, Nat.zero_add, Option.map_some, if_true, Bool.false_eq_true, if_false, true_and, and_true, decide_eq_true_eq, reduceIte, reduceCtorEq]
            refine ⟨?_, x3.trans x4, fun _ => ⟨rfl, Ext.refl _⟩⟩
            show _ = (occurs "." hd || !(its.filter (tagIs "term")).isEmpty)
            rw [q.dot]; rfl
          · obtain ⟨hd, r, kl, kd, q⟩ := cal x hx
            have qe := q.eq
            subst qe
            simp only [wp_c, wp_var, slotK_some, wp_op, wp_un, wp_b, asB_bl, wp_tr, asT_some, wp_yes, wp_and, wp_or, wp_not, wp_caseB, wp_andV, wp_orV, wp_notV, wp_if, wp_nil, wp_cons, wp_tup, wp_lst, wp_cb, wp_call, wp_m0, wp_m1, wp_ml0, wp_ml, wp_isi, wp_isi2, wp_nopart, asI_int, wp_part, wp_sl, wp_seq, seqK_nx, seqK_rt, seqK_bk, seqK_ct, wp_next, wp_brk, wp_cont, wp_drop, wp_ret, wp_ifS, wp_set, wp_par, wp_par3, wp_asg, wp_pat, asP_some, wp_sub, asH_some, wp_aug, wp_for, wp_while, wp_lc, wp_lc2, wp_def, defK_rt, defK_nx, wp_miseq, srcK_ref, srcK_tup, srcK_str, rngK_int, wp_range1, wp_enum, enumK_ref, Tl_some, Ts_some, loopK_nx, loopK_ct, loopK_bk, loopK_rt, ixK_some, atI_k0, atI_k1, atI_k2, atI_k3, atI_k4, atI_k5, atI_k6, atI_k8, atI_k9, L2.atI_last, atI_n, g_ix_t, g_ix_s, g_ix_r, cIx_l, cIx_z, cIx_d, cIx_f, g_sub, g_lt, g_le, g_gt, g_ge, g_addi, g_addI, g_adds, g_addt, g_mul, g_muls, g_fdiv, g_mod, g_neg, g_eqs, g_nes, g_eqi, g_nei, g_min, g_max, g_int_b, g_int_i, g_is_non, g_cuts, g_cutt, g_lens, g_lent, g_lenr, cLen_l, cLen_z, g_tupt, g_tupr, cTup_l, g_listt, isLst_r, lstAt_r, cLst_l, cLst_z, tr_r, cTr_l, tr_b, g_set, cSet_l, cSet_d, jK_some, kK_some, ixN_0, ixN_1, ixN_2, isS, mwipe, mPat, mPats, List.getElem?_cons_zero, List.getElem?_cons_succ, List.set_cons_zero, List.set_cons_succ, List.map_cons, List.map_nil, List.length_cons, List.length_nil, List.replicate_succ, List.replicate_zero, List.cons_append, List.nil_append, Nat.reduceAdd, Nat.reduceSub, Nat.reduceLeDiff, Nat.zero_add, Option.map_some, if_true, Bool.false_eq_true, if_false, true_and, and_true, decide_eq_true_eq, reduceIte, reduceCtorEq]
            rw [g_in_s, Tl_some, asB_bl]
            simp only [q.dot, wp_c, wp_var, slotK_some, wp_op, wp_un, wp_b, asB_bl, wp_tr, asT_some, wp_yes, wp_and, wp_or, wp_not, wp_caseB, wp_andV, wp_orV, wp_notV, wp_if, wp_nil, wp_cons, wp_tup, wp_lst, wp_cb, wp_call, wp_m0, wp_m1, wp_ml0, wp_ml, wp_isi, wp_isi2, wp_nopart, asI_int, wp_part, wp_sl, wp_seq, seqK_nx, seqK_rt, seqK_bk, seqK_ct, wp_next, wp_brk, wp_cont, wp_drop, wp_ret, wp_ifS, wp_set, wp_par, wp_par3, wp_asg, wp_pat, asP_some, wp_sub, asH_some, wp_aug, wp_for, wp_while, wp_lc, wp_lc2, wp_def, defK_rt, defK_nx, wp_miseq, srcK_ref, srcK_tup, srcK_str, rngK_int, wp_range1, wp_enum, enumK_ref, Tl_some, Ts_some, loopK_nx, loopK_ct, loopK_bk, loopK_rt, ixK_some, atI_k0, atI_k1, atI_k2, atI_k3, atI_k4, atI_k5, atI_k6, atI_k8, atI_k9, L2.atI_last, atI_n, g_ix_t, g_ix_s, g_ix_r, cIx_l, cIx_z, cIx_d, cIx_f, g_sub, g_lt, g_le, g_gt, g_ge, g_addi, g_addI, g_adds, g_addt, g_mul, g_muls, g_fdiv, g_mod, g_neg, g_eqs, g_nes, g_eqi, g_nei, g_min, g_max, g_int_b, g_int_i, g_is_non, g_cuts, g_cutt, g_lens, g_lent, g_lenr, cLen_l, cLen_z, g_tupt, g_tupr, cTup_l, g_listt, isLst_r, lstAt_r, cLst_l, cLst_z, tr_r, cTr_l, tr_b, g_set, cSet_l, cSet_d, jK_some, kK_some, ixN_0, ixN_1, ixN_2, isS, mwipe, mPat, mPats, List.getElem?_cons_zero, List.getElem?_cons_succ, List.set_cons_zero, List.set_cons_succ, List.map_cons, List.map_nil, List.length_cons, List.length_nil, List.replicate_succ, List.replicate_zero, List.cons_append, List.nil_append, Nat.reduceAdd, Nat.reduceSub, Nat.reduceLeDiff, Nat.zero_add, Option.map_some, if_true, Bool.false_eq_true, if_false, true_and, and_true, decide_eq_true_eq, reduceIte, reduceCtorEq]
            refine ⟨?_, Ext.refl _, fun _ => ⟨rfl, Ext.refl _⟩⟩
            show true = occurs "." hd
            rw [q.dot]
        · intro h4 x4 e4
          rw [List.map_id] at e4
          have X4 := X3.trans x4
          have lw : ((fl ++ cl).filter wideF).length ≤ 40 := Nat.le_trans (List.length_filter_le _ _) (by rw [List.length_append]; omega)
          have rows : ∀ h', Bx b h h' → ∀ w ∈ fl ++ cl, IsRow (· = b) h' ks (room < 2) w := fun h' B w hw => by
            rcases List.mem_append.mp hw with hw | hw
            · obtain ⟨hd, its, kd, q⟩ := frm w hw
              exact .inl ⟨hd, its, kd, q, fun z => absurd z hr⟩
            · obtain ⟨hd, r, kl, kd, q⟩ := cal w hw
              exact .inr ⟨⟨hd, r, kl, kd, q.fr (Fr.bx B rfl)⟩, hr⟩
          have wr : ∀ w ∈ (fl ++ cl).filter wideF, w ∈ fl ++ cl := fun w hw => (List.mem_filter.mp hw).1
          generalize hwd : (fl ++ cl).filter wideF = wl at e4 lw wr
          try simp only [wp_c, wp_var, slotK_some, wp_op, wp_un, wp_b, asB_bl, wp_tr, asT_some, wp_yes, wp_and, wp_or, wp_not, wp_caseB, wp_andV, wp_orV, wp_notV, wp_if, wp_nil, wp_cons, wp_tup, wp_lst, wp_cb, wp_call, wp_m0, wp_m1, wp_ml0, wp_ml, wp_isi, wp_isi2, wp_nopart, asI_int, wp_part, wp_sl, wp_seq, seqK_nx, seqK_rt, seqK_bk, seqK_ct, wp_next, wp_brk, wp_cont, wp_drop, wp_ret, wp_ifS, wp_set, wp_par, wp_par3, wp_asg, wp_pat, asP_some, wp_sub, asH_some, wp_aug, wp_for, wp_while, wp_lc, wp_lc2, wp_def, defK_rt, defK_nx, wp_miseq, srcK_ref, srcK_tup, srcK_str, rngK_int, wp_range1, wp_enum, enumK_ref, Tl_some, Ts_some, loopK_nx, loopK_ct, loopK_bk, loopK_rt, ixK_some, atI_k0, atI_k1, atI_k2, atI_k3, atI_k4, atI_k5, atI_k6, atI_k8, atI_k9, L2.atI_last, atI_n, g_ix_t, g_ix_s, g_ix_r, cIx_l, cIx_z, cIx_d, cIx_f, g_sub, g_lt, g_le, g_gt, g_ge, g_addi, g_addI, g_adds, g_addt, g_mul, g_muls, g_fdiv, g_mod, g_neg, g_eqs, g_nes, g_eqi, g_nei, g_min, g_max, g_int_b, g_int_i, g_is_non, g_cuts, g_cutt, g_lens, g_lent, g_lenr, cLen_l, cLen_z, g_tupt, g_tupr, cTup_l, g_listt, isLst_r, lstAt_r, cLst_l, cLst_z, tr_r, cTr_l, tr_b, g_set, cSet_l, cSet_d, jK_some, kK_some, ixN_0, ixN_1, ixN_2, isS, mwipe, mPat, mPats, List.getElem?_cons_zero, List.getElem?_cons_succ, List.set_cons_zero, List.set_cons_succ, List.map_cons, List.map_nil, List.length_cons, List.length_nil, List.replicate_succ, List.replicate_zero, List.cons_append, List.nil_append, Nat.reduceAdd, Nat.reduceSub, Nat.reduceLeDiff, Nat.zero_add, Option.map_some, if_true, Bool.false_eq_true, if_false, true_and, and_true, decide_eq_true_eq, reduceIte, reduceCtorEq]
          refine Tl.newL (by simp) fun h5 x5 l5 e5 => ?_
          have lx4 := X4.len
          have lx3 := X3.len
          refine Tl.ne_nilD (x5.get e4) (fun h6 x6 x hx => ?_) fun h6 x6 => ?_
          · rcases List.mem_append.mp (wr x hx) with hx | hx
            · exact dat_form (frm x hx) tg.kok
            · obtain ⟨hd, r, kl, kd, q⟩ := cal x hx
              exact dat_call ⟨hd, r, kl, kd, q.fr (Fr.ext (X4.trans (x5.trans x6)))⟩ tg.kok
          · have X6 := X4.trans (x5.trans x6)
            have some7 : h6[h2.length]? = some (.lst (fl ++ cl)) := (x4.trans (x5.trans x6)).get e3
            have some9 : h6[h3.length]? = some (.lst wl) := (x5.trans x6).get e4
            have pos : 0 < (fl ++ cl).length := List.length_pos_of_mem (List.mem_append_left cl hm)
            have lfc : (fl ++ cl).length ≤ 40 := by rw [List.length_append]; omega
            have e56 := x6.get e5
            cases hw : wl with
            | nil =>
              simp only [wp_c, wp_var, slotK_some, wp_op, wp_un, wp_b, asB_bl, wp_tr, asT_some, wp_yes, wp_and, wp_or, wp_not, wp_caseB, wp_andV, wp_orV, wp_notV, wp_if, wp_nil, wp_cons, wp_tup, wp_lst, wp_cb, wp_call, wp_m0, wp_m1, wp_ml0, wp_ml, wp_isi, wp_isi2, wp_nopart, asI_int, wp_part, wp_sl, wp_seq, seqK_nx, seqK_rt, seqK_bk, seqK_ct, wp_next, wp_brk, wp_cont, wp_drop, wp_ret, wp_ifS, wp_set, wp_par, wp_par3, wp_asg, wp_pat, asP_some, wp_sub, asH_some, wp_aug, wp_for, wp_while, wp_lc, wp_lc2, wp_def, defK_rt, defK_nx, wp_miseq, srcK_ref, srcK_tup, srcK_str, rngK_int, wp_range1, wp_enum, enumK_ref, Tl_some, Ts_some, loopK_nx, loopK_ct, loopK_bk, loopK_rt, ixK_some, atI_k0, atI_k1, atI_k2, atI_k3, atI_k4, atI_k5, atI_k6, atI_k8, atI_k9, L2.atI_last, atI_n, g_ix_t, g_ix_s, g_ix_r, cIx_l, cIx_z, cIx_d, cIx_f, g_sub, g_lt, g_le, g_gt, g_ge, g_addi, g_addI, g_adds, g_addt, g_mul, g_muls, g_fdiv, g_mod, g_neg, g_eqs, g_nes, g_eqi, g_nei, g_min, g_max, g_int_b, g_int_i, g_is_non, g_cuts, g_cutt, g_lens, g_lent, g_lenr, cLen_l, cLen_z, g_tupt, g_tupr, cTup_l, g_listt, isLst_r, lstAt_r, cLst_l, cLst_z, tr_r, cTr_l, tr_b, g_set, cSet_l, cSet_d, jK_some, kK_some, ixN_0, ixN_1, ixN_2, isS, mwipe, mPat, mPats, List.getElem?_cons_zero, List.getElem?_cons_succ, List.set_cons_zero, List.set_cons_succ, List.map_cons, List.map_nil, List.length_cons, List.length_nil, List.replicate_succ, List.replicate_zero, List.cons_append, List.nil_append, Nat.reduceAdd, Nat.reduceSub, Nat.reduceLeDiff, Nat.zero_add, Option.map_some, if_true, Bool.false_eq_true, if_false, true_and, and_true, decide_eq_true_eq, reduceIte, reduceCtorEq, List.isEmpty_nil, Bool.not_true, e56]
              exact fin h6 _ _ _ (X6.toBx hb) (by have := x1.len; have := x2.len; omega) some7 pos (by omega) (rows h6 (X6.toBx hb))
            | cons w0 wr' =>
              simp only [wp_c, wp_var, slotK_some, wp_op, wp_un, wp_b, asB_bl, wp_tr, asT_some, wp_yes, wp_and, wp_or, wp_not, wp_caseB, wp_andV, wp_orV, wp_notV, wp_if, wp_nil, wp_cons, wp_tup, wp_lst, wp_cb, wp_call, wp_m0, wp_m1, wp_ml0, wp_ml, wp_isi, wp_isi2, wp_nopart, asI_int, wp_part, wp_sl, wp_seq, seqK_nx, seqK_rt, seqK_bk, seqK_ct, wp_next, wp_brk, wp_cont, wp_drop, wp_ret, wp_ifS, wp_set, wp_par, wp_par3, wp_asg, wp_pat, asP_some, wp_sub, asH_some, wp_aug, wp_for, wp_while, wp_lc, wp_lc2, wp_def, defK_rt, defK_nx, wp_miseq, srcK_ref, srcK_tup, srcK_str, rngK_int, wp_range1, wp_enum, enumK_ref, Tl_some, Ts_some, loopK_nx, loopK_ct, loopK_bk, loopK_rt, ixK_some, atI_k0, atI_k1, atI_k2, atI_k3, atI_k4, atI_k5, atI_k6, atI_k8, atI_k9, L2.atI_last, atI_n, g_ix_t, g_ix_s, g_ix_r, cIx_l, cIx_z, cIx_d, cIx_f, g_sub, g_lt, g_le, g_gt, g_ge, g_addi, g_addI, g_adds, g_addt, g_mul, g_muls, g_fdiv, g_mod, g_neg, g_eqs, g_nes, g_eqi, g_nei, g_min, g_max, g_int_b, g_int_i, g_is_non, g_cuts, g_cutt, g_lens, g_lent, g_lenr, cLen_l, cLen_z, g_tupt, g_tupr, cTup_l, g_listt, isLst_r, lstAt_r, cLst_l, cLst_z, tr_r, cTr_l, tr_b, g_set, cSet_l, cSet_d, jK_some, kK_some, ixN_0, ixN_1, ixN_2, isS, mwipe, mPat, mPats, List.getElem?_cons_zero, List.getElem?_cons_succ, List.set_cons_zero, List.set_cons_succ, List.map_cons, List.map_nil, List.length_cons, List.length_nil, List.replicate_succ, List.replicate_zero, List.cons_append, List.nil_append, Nat.reduceAdd, Nat.reduceSub, Nat.reduceLeDiff, Nat.zero_add, Option.map_some, if_true, Bool.false_eq_true, if_false, true_and, and_true, decide_eq_true_eq, reduceIte, reduceCtorEq, List.isEmpty_cons, Bool.not_false]
              refine (take_spec (hb.ext X6) (by decide) (by decide)).by ?_
              rintro _ h7 ⟨v, rfl, v0, v1, B7⟩
              have B7' := X6.bx B7
              have e57 := B7.get e56 (by omega)
              by_cases hv : 0 < v
              · simp only [wp_c, wp_var, slotK_some, wp_op, wp_un, wp_b, asB_bl, wp_tr, asT_some, wp_yes, wp_and, wp_or, wp_not, wp_caseB, wp_andV, wp_orV, wp_notV, wp_if, wp_nil, wp_cons, wp_tup, wp_lst, wp_cb, wp_call, wp_m0, wp_m1, wp_ml0, wp_ml, wp_isi, wp_isi2, wp_nopart, asI_int, wp_part, wp_sl, wp_seq, seqK_nx, seqK_rt, seqK_bk, seqK_ct, wp_next, wp_brk, wp_cont, wp_drop, wp_ret, wp_ifS, wp_set, wp_par, wp_par3, wp_asg, wp_pat, asP_some, wp_sub, asH_some, wp_aug, wp_for, wp_while, wp_lc, wp_lc2, wp_def, defK_rt, defK_nx, wp_miseq, srcK_ref, srcK_tup, srcK_str, rngK_int, wp_range1, wp_enum, enumK_ref, Tl_some, Ts_some, loopK_nx, loopK_ct, loopK_bk, loopK_rt, ixK_some, atI_k0, atI_k1, atI_k2, atI_k3, atI_k4, atI_k5, atI_k6, atI_k8, atI_k9, L2.atI_last, atI_n, g_ix_t, g_ix_s, g_ix_r, cIx_l, cIx_z, cIx_d, cIx_f, g_sub, g_lt, g_le, g_gt, g_ge, g_addi, g_addI, g_adds, g_addt, g_mul, g_muls, g_fdiv, g_mod, g_neg, g_eqs, g_nes, g_eqi, g_nei, g_min, g_max, g_int_b, g_int_i, g_is_non, g_cuts, g_cutt, g_lens, g_lent, g_lenr, cLen_l, cLen_z, g_tupt, g_tupr, cTup_l, g_listt, isLst_r, lstAt_r, cLst_l, cLst_z, tr_r, cTr_l, tr_b, g_set, cSet_l, cSet_d, jK_some, kK_some, ixN_0, ixN_1, ixN_2, isS, mwipe, mPat, mPats, List.getElem?_cons_zero, List.getElem?_cons_succ, List.set_cons_zero, List.set_cons_succ, List.map_cons, List.map_nil, List.length_cons, List.length_nil, List.replicate_succ, List.replicate_zero, List.cons_append, List.nil_append, Nat.reduceAdd, Nat.reduceSub, Nat.reduceLeDiff, Nat.zero_add, Option.map_some, if_true, Bool.false_eq_true, if_false, true_and, and_true, decide_eq_true_eq, reduceIte, reduceCtorEq, hv, decide_true, e57]
                refine fin h7 _ _ _ B7' (by omega) (B7.get some9 (by omega)) (by rw [hw]; exact Nat.succ_pos _) (by omega) fun w hw' => rows h7 B7' w (wr w hw')
              · simp only [wp_c, wp_var, slotK_some, wp_op, wp_un, wp_b, asB_bl, wp_tr, asT_some, wp_yes, wp_and, wp_or, wp_not, wp_caseB, wp_andV, wp_orV, wp_notV, wp_if, wp_nil, wp_cons, wp_tup, wp_lst, wp_cb, wp_call, wp_m0, wp_m1, wp_ml0, wp_ml, wp_isi, wp_isi2, wp_nopart, asI_int, wp_part, wp_sl, wp_seq, seqK_nx, seqK_rt, seqK_bk, seqK_ct, wp_next, wp_brk, wp_cont, wp_drop, wp_ret, wp_ifS, wp_set, wp_par, wp_par3, wp_asg, wp_pat, asP_some, wp_sub, asH_some, wp_aug, wp_for, wp_while, wp_lc, wp_lc2, wp_def, defK_rt, defK_nx, wp_miseq, srcK_ref, srcK_tup, srcK_str, rngK_int, wp_range1, wp_enum, enumK_ref, Tl_some, Ts_some, loopK_nx, loopK_ct, loopK_bk, loopK_rt, ixK_some, atI_k0, atI_k1, atI_k2, atI_k3, atI_k4, atI_k5, atI_k6, atI_k8, atI_k9, L2.atI_last, atI_n, g_ix_t, g_ix_s, g_ix_r, cIx_l, cIx_z, cIx_d, cIx_f, g_sub, g_lt, g_le, g_gt, g_ge, g_addi, g_addI, g_adds, g_addt, g_mul, g_muls, g_fdiv, g_mod, g_neg, g_eqs, g_nes, g_eqi, g_nei, g_min, g_max, g_int_b, g_int_i, g_is_non, g_cuts, g_cutt, g_lens, g_lent, g_lenr, cLen_l, cLen_z, g_tupt, g_tupr, cTup_l, g_listt, isLst_r, lstAt_r, cLst_l, cLst_z, tr_r, cTr_l, tr_b, g_set, cSet_l, cSet_d, jK_some, kK_some, ixN_0, ixN_1, ixN_2, isS, mwipe, mPat, mPats, List.getElem?_cons_zero, List.getElem?_cons_succ, List.set_cons_zero, List.set_cons_succ, List.map_cons, List.map_nil, List.length_cons, List.length_nil, List.replicate_succ, List.replicate_zero, List.cons_append, List.nil_append, Nat.reduceAdd, Nat.reduceSub, Nat.reduceLeDiff, Nat.zero_add, Option.map_some, if_true, Bool.false_eq_true, if_false, true_and, and_true, decide_eq_true_eq, reduceIte, reduceCtorEq, hv, decide_false, e57]
                exact fin h7 _ _ _ B7' (by have := x1.len; have := x2.len; omega) (B7.get some7 (by have := x1.len; have := x2.len; omega)) pos (by omega) (rows h7 B7')
end K03

namespace K03
open PySem PySem.Spec PyProof.Rows L2 Mi
theorem seq_assoc {f g k : MSt} : mSeq f (mSeq g k) = mSeq (mSeq f g) k := by
  funext n s h
  unfold mSeq
  cases f n s h with
  | none => rfl
  | some p => obtain ⟨fl, s1, h1⟩ := p; cases fl <;> rfl
theorem Ts.cut2 {f g : MSt} {n : Nat} {s : MS} {h : MH} {P : Fl → MS → MH → Prop} (R : MS → MH → Prop) (a : Ts (f n s h) fun fl s1 h1 => (fl = .nx ∧ R s1 h1) ∨ ∃ w, fl = .rt w ∧ P (.rt w) s1 h1) (b : ∀ s1 h1, R s1 h1 → Ts (g n s1 h1) P) : Ts (mSeq f g n s h) P := by
  rw [wp_seq]
  refine a.by fun fl s1 h1 q => ?_
  rcases q with ⟨rfl, r⟩ | ⟨w, rfl, p⟩
  · exact b s1 h1 r
  · exact p
theorem body_spec {n b wd o kn : Nat} {mu : Bool} {ksA : List Str} {d : Nat} {r room : Int} {most : Nat} {F : MF} {h : MH} {l : List (Str × Str)} {kind : W} (hn : 1000 ≤ n) (hm : most ≤ 900) (hb : IsBox h b) (sc : Scene b h wd o mu ksA) (kw : Known b h kn l) (hl : l.length + 7 ≤ most) (kk : KindOk mu ksA kind)
    (HF : ¬ room < 2 → Draws n b wd o mu ksA d r most F ∧ room * 2 / 3 ≤ r) :
    Tl (mDef 20 (B__law_term F) n [.ref b, .ref wd, .ref o, .ref kn, kind, .int room] h) fun w h' => Tm (d + 1) w ∧ Bx b h h' := by
  unfold B__law_term
  rw [wp_def, seq_assoc]
  refine Ts.cut (fun s1 h1 => ∃ (d6 d7 : Nat) (ys : List Str), s1 = [some (.ref b), some (.ref wd), some (.ref o), some (.ref kn), some kind, some (.int room), some (.ref d6), some (.ref d7), none, none, none, none, none, none, none, none, none, none, none, none] ∧ Ext h h1 ∧ h1[d7]? = some (.lst (ys.map .str)) ∧ (∀ y ∈ ys, PyData.strOk y = true) ∧ ys.length ≤ 900)
    (term_names hn (by omega) kw.at_ kw.ok kk fun h' d6 d7 ys x e a c => ⟨rfl, d6, d7, ys, rfl, x, e, a, c⟩) ?_
  rintro _ h1 ⟨d6, d7, ys, rfl, x1, e1, yok, ly⟩
  have dts : okTs (ys.map W.str) = true ∧ dpWs (ys.map W.str) ≤ 60 := ⟨okTs_all.mpr fun x hx => by obtain ⟨y, hy, rfl⟩ := List.mem_map.mp hx; exact yok y hy, dpWs_le.mpr fun x hx => by obtain ⟨y, hy, rfl⟩ := List.mem_map.mp hx; exact Nat.zero_le _⟩
  have lb := hb.lt
  refine Ts.cut2 (fun s1 h2 => s1 = [some (.ref b), some (.ref wd), some (.ref o), some (.ref kn), some kind, some (.int room), some (.ref d6), some (.ref d7), none, none, none, none, none, none, none, none, none, none, none, none] ∧ Bx b h h2) ?_ ?_
  · simp only [wp_c, wp_var, slotK_some, wp_op, wp_un, wp_b, asB_bl, wp_tr, asT_some, wp_yes, wp_and, wp_or, wp_not, wp_caseB, wp_andV, wp_orV, wp_notV, wp_if, wp_nil, wp_cons, wp_tup, wp_lst, wp_cb, wp_call, wp_m0, wp_m1, wp_ml0, wp_ml, wp_isi, wp_isi2, wp_nopart, asI_int, wp_part, wp_sl, wp_seq, seqK_nx, seqK_rt, seqK_bk, seqK_ct, wp_next, wp_brk, wp_cont, wp_drop, wp_ret, wp_ifS, wp_set, wp_par, wp_par3, wp_asg, wp_pat, asP_some, wp_sub, asH_some, wp_aug, wp_for, wp_while, wp_lc, wp_lc2, wp_def, defK_rt, defK_nx, wp_miseq, srcK_ref, srcK_tup, srcK_str, rngK_int, wp_range1, wp_enum, enumK_ref, Tl_some, Ts_some, loopK_nx, loopK_ct, loopK_bk, loopK_rt, ixK_some, atI_k0, atI_k1, atI_k2, atI_k3, atI_k4, atI_k5, atI_k6, atI_k8, atI_k9, L2.atI_last, atI_n, g_ix_t, g_ix_s, g_ix_r, cIx_l, cIx_z, cIx_d, cIx_f, g_sub, g_lt, g_le, g_gt, g_ge, g_addi, g_addI, g_adds, g_addt, g_mul, g_muls, g_fdiv, g_mod, g_neg, g_eqs, g_nes, g_eqi, g_nei, g_min, g_max, g_int_b, g_int_i, g_is_non, g_cuts, g_cutt, g_lens, g_lent, g_lenr, cLen_l, cLen_z, g_tupt, g_tupr, cTup_l, g_listt, isLst_r, lstAt_r, cLst_l, cLst_z, tr_r, cTr_l, tr_b, g_set, cSet_l, cSet_d, jK_some, kK_some, ixN_0, ixN_1, ixN_2, isS, mwipe, mPat, mPats, List.getElem?_cons_zero, List.getElem?_cons_succ, List.set_cons_zero, List.set_cons_succ, List.map_cons, List.map_nil, List.length_cons, List.length_nil, List.replicate_succ, List.replicate_zero, List.cons_append, List.nil_append, Nat.reduceAdd, Nat.reduceSub, Nat.reduceLeDiff, Nat.zero_add, Option.map_some, if_true, Bool.false_eq_true, if_false, true_and, and_true, decide_eq_true_eq, reduceIte, reduceCtorEq]
    refine Tl.ne_nil e1 dts.1 dts.2 fun h2 x2 => ?_
    have e2 := x2.get e1
    have X2 := x1.trans x2
    cases hy : ys with
    | nil =>
      simp only [wp_c, wp_var, slotK_some, wp_op, wp_un, wp_b, asB_bl, wp_tr, asT_some, wp_yes, wp_and, wp_or, wp_not, wp_caseB, wp_andV, wp_orV, wp_notV, wp_if, wp_nil, wp_cons, wp_tup, wp_lst, wp_cb, wp_call, wp_m0, wp_m1, wp_ml0, wp_ml, wp_isi, wp_isi2, wp_nopart, asI_int, wp_part, wp_sl, wp_seq, seqK_nx, seqK_rt, seqK_bk, seqK_ct, wp_next, wp_brk, wp_cont, wp_drop, wp_ret, wp_ifS, wp_set, wp_par, wp_par3, wp_asg, wp_pat, asP_some, wp_sub, asH_some, wp_aug, wp_for, wp_while, wp_lc, wp_lc2, wp_def, defK_rt, defK_nx, wp_miseq, srcK_ref, srcK_tup, srcK_str, rngK_int, wp_range1, wp_enum, enumK_ref, Tl_some, Ts_some, loopK_nx, loopK_ct, loopK_bk, loopK_rt, ixK_some, atI_k0, atI_k1, atI_k2, atI_k3, atI_k4, atI_k5, atI_k6, atI_k8, atI_k9, L2.atI_last, atI_n, g_ix_t, g_ix_s, g_ix_r, cIx_l, cIx_z, cIx_d, cIx_f, g_sub, g_lt, g_le, g_gt, g_ge, g_addi, g_addI, g_adds, g_addt, g_mul, g_muls, g_fdiv, g_mod, g_neg, g_eqs, g_nes, g_eqi, g_nei, g_min, g_max, g_int_b, g_int_i, g_is_non, g_cuts, g_cutt, g_lens, g_lent, g_lenr, cLen_l, cLen_z, g_tupt, g_tupr, cTup_l, g_listt, isLst_r, lstAt_r, cLst_l, cLst_z, tr_r, cTr_l, tr_b, g_set, cSet_l, cSet_d, jK_some, kK_some, ixN_0, ixN_1, ixN_2, isS, mwipe, mPat, mPats, List.getElem?_cons_zero, List.getElem?_cons_succ, List.set_cons_zero, List.set_cons_succ, List.map_cons, List.map_nil, List.length_cons, List.length_nil, List.replicate_succ, List.replicate_zero, List.cons_append, List.nil_append, Nat.reduceAdd, Nat.reduceSub, Nat.reduceLeDiff, Nat.zero_add, Option.map_some, if_true, Bool.false_eq_true, if_false, true_and, and_true, decide_eq_true_eq, reduceIte, reduceCtorEq, List.map_nil, List.isEmpty_nil, Bool.not_true]
      exact .inl (X2.toBx hb)
    | cons y0 yr =>
      simp only [wp_c, wp_var, slotK_some, wp_op, wp_un, wp_b, asB_bl, wp_tr, asT_some, wp_yes, wp_and, wp_or, wp_not, wp_caseB, wp_andV, wp_orV, wp_notV, wp_if, wp_nil, wp_cons, wp_tup, wp_lst, wp_cb, wp_call, wp_m0, wp_m1, wp_ml0, wp_ml, wp_isi, wp_isi2, wp_nopart, asI_int, wp_part, wp_sl, wp_seq, seqK_nx, seqK_rt, seqK_bk, seqK_ct, wp_next, wp_brk, wp_cont, wp_drop, wp_ret, wp_ifS, wp_set, wp_par, wp_par3, wp_asg, wp_pat, asP_some, wp_sub, asH_some, wp_aug, wp_for, wp_while, wp_lc, wp_lc2, wp_def, defK_rt, defK_nx, wp_miseq, srcK_ref, srcK_tup, srcK_str, rngK_int, wp_range1, wp_enum, enumK_ref, Tl_some, Ts_some, loopK_nx, loopK_ct, loopK_bk, loopK_rt, ixK_some, atI_k0, atI_k1, atI_k2, atI_k3, atI_k4, atI_k5, atI_k6, atI_k8, atI_k9, L2.atI_last, atI_n, g_ix_t, g_ix_s, g_ix_r, cIx_l, cIx_z, cIx_d, cIx_f, g_sub, g_lt, g_le, g_gt, g_ge, g_addi, g_addI, g_adds, g_addt, g_mul, g_muls, g_fdiv, g_mod, g_neg, g_eqs, g_nes, g_eqi, g_nei, g_min, g_max, g_int_b, g_int_i, g_is_non, g_cuts, g_cutt, g_lens, g_lent, g_lenr, cLen_l, cLen_z, g_tupt, g_tupr, cTup_l, g_listt, isLst_r, lstAt_r, cLst_l, cLst_z, tr_r, cTr_l, tr_b, g_set, cSet_l, cSet_d, jK_some, kK_some, ixN_0, ixN_1, ixN_2, isS, mwipe, mPat, mPats, List.getElem?_cons_zero, List.getElem?_cons_succ, List.set_cons_zero, List.set_cons_succ, List.map_cons, List.map_nil, List.length_cons, List.length_nil, List.replicate_succ, List.replicate_zero, List.cons_append, List.nil_append, Nat.reduceAdd, Nat.reduceSub, Nat.reduceLeDiff, Nat.zero_add, Option.map_some, if_true, Bool.false_eq_true, if_false, true_and, and_true, decide_eq_true_eq, reduceIte, reduceCtorEq, List.map_cons, List.isEmpty_cons, Bool.not_false]
      have fin : ∀ (Q : W → MH → Prop), (∀ x h5, Tm (d + 1) (.tup [.str "name", x]) → Bx b h h5 → Q x h5) → ∀ h3, Bx b h h3 → h3[d7]? = some (.lst (ys.map .str)) → Tl (f__law_take n [.ref b, .int ys.length] h3) fun y h4 => cIx h4[d7]? y Q h4 := fun Q hQ h3 B3 e3 => by
        have : 0 < ys.length := by rw [hy]; exact Nat.succ_pos _
        refine (take_spec B3.box (by omega) (by omega)).by ?_
        rintro _ h4 ⟨v, rfl, v0, v1, B4⟩
        have lt7 := lt_of_get e1
        obtain ⟨z, ez, hz⟩ := str_map_at (xs := ys) v0 v1
        have e4 : h4[d7]? = some (.lst (ys.map .str)) := B4.get e3 (by
          intro q
          obtain ⟨_, _, _, eb⟩ := B3.box
          rw [← q, e3] at eb
          rw [hy] at eb
          simp at eb)
        simp only [wp_c, wp_var, slotK_some, wp_op, wp_un, wp_b, asB_bl, wp_tr, asT_some, wp_yes, wp_and, wp_or, wp_not, wp_caseB, wp_andV, wp_orV, wp_notV, wp_if, wp_nil, wp_cons, wp_tup, wp_lst, wp_cb, wp_call, wp_m0, wp_m1, wp_ml0, wp_ml, wp_isi, wp_isi2, wp_nopart, asI_int, wp_part, wp_sl, wp_seq, seqK_nx, seqK_rt, seqK_bk, seqK_ct, wp_next, wp_brk, wp_cont, wp_drop, wp_ret, wp_ifS, wp_set, wp_par, wp_par3, wp_asg, wp_pat, asP_some, wp_sub, asH_some, wp_aug, wp_for, wp_while, wp_lc, wp_lc2, wp_def, defK_rt, defK_nx, wp_miseq, srcK_ref, srcK_tup, srcK_str, rngK_int, wp_range1, wp_enum, enumK_ref, Tl_some, Ts_some, loopK_nx, loopK_ct, loopK_bk, loopK_rt, ixK_some, atI_k0, atI_k1, atI_k2, atI_k3, atI_k4, atI_k5, atI_k6, atI_k8, atI_k9, L2.atI_last, atI_n, g_ix_t, g_ix_s, g_ix_r, cIx_l, cIx_z, cIx_d, cIx_f, g_sub, g_lt, g_le, g_gt, g_ge, g_addi, g_addI, g_adds, g_addt, g_mul, g_muls, g_fdiv, g_mod, g_neg, g_eqs, g_nes, g_eqi, g_nei, g_min, g_max, g_int_b, g_int_i, g_is_non, g_cuts, g_cutt, g_lens, g_lent, g_lenr, cLen_l, cLen_z, g_tupt, g_tupr, cTup_l, g_listt, isLst_r, lstAt_r, cLst_l, cLst_z, tr_r, cTr_l, tr_b, g_set, cSet_l, cSet_d, jK_some, kK_some, ixN_0, ixN_1, ixN_2, isS, mwipe, mPat, mPats, List.getElem?_cons_zero, List.getElem?_cons_succ, List.set_cons_zero, List.set_cons_succ, List.map_cons, List.map_nil, List.length_cons, List.length_nil, List.replicate_succ, List.replicate_zero, List.cons_append, List.nil_append, Nat.reduceAdd, Nat.reduceSub, Nat.reduceLeDiff, Nat.zero_add, Option.map_some, if_true, Bool.false_eq_true, if_false, true_and, and_true, decide_eq_true_eq, reduceIte, reduceCtorEq, e4, ez]
        exact hQ _ _ (.name (yok z (List.mem_of_getElem? hz))) (B3.trans B4)
      by_cases hr : room < 2
      · simp only [hr, wp_c, wp_var, slotK_some, wp_op, wp_un, wp_b, asB_bl, wp_tr, asT_some, wp_yes, wp_and, wp_or, wp_not, wp_caseB, wp_andV, wp_orV, wp_notV, wp_if, wp_nil, wp_cons, wp_tup, wp_lst, wp_cb, wp_call, wp_m0, wp_m1, wp_ml0, wp_ml, wp_isi, wp_isi2, wp_nopart, asI_int, wp_part, wp_sl, wp_seq, seqK_nx, seqK_rt, seqK_bk, seqK_ct, wp_next, wp_brk, wp_cont, wp_drop, wp_ret, wp_ifS, wp_set, wp_par, wp_par3, wp_asg, wp_pat, asP_some, wp_sub, asH_some, wp_aug, wp_for, wp_while, wp_lc, wp_lc2, wp_def, defK_rt, defK_nx, wp_miseq, srcK_ref, srcK_tup, srcK_str, rngK_int, wp_range1, wp_enum, enumK_ref, Tl_some, Ts_some, loopK_nx, loopK_ct, loopK_bk, loopK_rt, ixK_some, atI_k0, atI_k1, atI_k2, atI_k3, atI_k4, atI_k5, atI_k6, atI_k8, atI_k9, L2.atI_last, atI_n, g_ix_t, g_ix_s, g_ix_r, cIx_l, cIx_z, cIx_d, cIx_f, g_sub, g_lt, g_le, g_gt, g_ge, g_addi, g_addI, g_adds, g_addt, g_mul, g_muls, g_fdiv, g_mod, g_neg, g_eqs, g_nes, g_eqi, g_nei, g_min, g_max, g_int_b, g_int_i, g_is_non, g_cuts, g_cutt, g_lens, g_lent, g_lenr, cLen_l, cLen_z, g_tupt, g_tupr, cTup_l, g_listt, isLst_r, lstAt_r, cLst_l, cLst_z, tr_r, cTr_l, tr_b, g_set, cSet_l, cSet_d, jK_some, kK_some, ixN_0, ixN_1, ixN_2, isS, mwipe, mPat, mPats, List.getElem?_cons_zero, List.getElem?_cons_succ, List.set_cons_zero, List.set_cons_succ, List.map_cons, List.map_nil, List.length_cons, List.length_nil, List.replicate_succ, List.replicate_zero, List.cons_append, List.nil_append, Nat.reduceAdd, Nat.reduceSub, Nat.reduceLeDiff, Nat.zero_add, Option.map_some, if_true, Bool.false_eq_true, if_false, true_and, and_true, decide_eq_true_eq, reduceIte, reduceCtorEq, e2, List.length_map]
        exact fin _ (fun x h5 a c => .inr ⟨_, rfl, a, c⟩) h2 (X2.toBx hb) e2
      · simp only [hr, wp_c, wp_var, slotK_some, wp_op, wp_un, wp_b, asB_bl, wp_tr, asT_some, wp_yes, wp_and, wp_or, wp_not, wp_caseB, wp_andV, wp_orV, wp_notV, wp_if, wp_nil, wp_cons, wp_tup, wp_lst, wp_cb, wp_call, wp_m0, wp_m1, wp_ml0, wp_ml, wp_isi, wp_isi2, wp_nopart, asI_int, wp_part, wp_sl, wp_seq, seqK_nx, seqK_rt, seqK_bk, seqK_ct, wp_next, wp_brk, wp_cont, wp_drop, wp_ret, wp_ifS, wp_set, wp_par, wp_par3, wp_asg, wp_pat, asP_some, wp_sub, asH_some, wp_aug, wp_for, wp_while, wp_lc, wp_lc2, wp_def, defK_rt, defK_nx, wp_miseq, srcK_ref, srcK_tup, srcK_str, rngK_int, wp_range1, wp_enum, enumK_ref, Tl_some, Ts_some, loopK_nx, loopK_ct, loopK_bk, loopK_rt, ixK_some, atI_k0, atI_k1, atI_k2, atI_k3, atI_k4, atI_k5, atI_k6, atI_k8, atI_k9, L2.atI_last, atI_n, g_ix_t, g_ix_s, g_ix_r, cIx_l, cIx_z, cIx_d, cIx_f, g_sub, g_lt, g_le, g_gt, g_ge, g_addi, g_addI, g_adds, g_addt, g_mul, g_muls, g_fdiv, g_mod, g_neg, g_eqs, g_nes, g_eqi, g_nei, g_min, g_max, g_int_b, g_int_i, g_is_non, g_cuts, g_cutt, g_lens, g_lent, g_lenr, cLen_l, cLen_z, g_tupt, g_tupr, cTup_l, g_listt, isLst_r, lstAt_r, cLst_l, cLst_z, tr_r, cTr_l, tr_b, g_set, cSet_l, cSet_d, jK_some, kK_some, ixN_0, ixN_1, ixN_2, isS, mwipe, mPat, mPats, List.getElem?_cons_zero, List.getElem?_cons_succ, List.set_cons_zero, List.set_cons_succ, List.map_cons, List.map_nil, List.length_cons, List.length_nil, List.replicate_succ, List.replicate_zero, List.cons_append, List.nil_append, Nat.reduceAdd, Nat.reduceSub, Nat.reduceLeDiff, Nat.zero_add, Option.map_some, if_true, Bool.false_eq_true, if_false, true_and, and_true, decide_eq_true_eq, reduceIte, reduceCtorEq]
        refine (take_spec (hb.ext X2) (by decide) (by decide)).by ?_
        rintro _ h3 ⟨v, rfl, v0, v1, B3⟩
        try simp only [wp_c, wp_var, slotK_some, wp_op, wp_un, wp_b, asB_bl, wp_tr, asT_some, wp_yes, wp_and, wp_or, wp_not, wp_caseB, wp_andV, wp_orV, wp_notV, wp_if, wp_nil, wp_cons, wp_tup, wp_lst, wp_cb, wp_call, wp_m0, wp_m1, wp_ml0, wp_ml, wp_isi, wp_isi2, wp_nopart, asI_int, wp_part, wp_sl, wp_seq, seqK_nx, seqK_rt, seqK_bk, seqK_ct, wp_next, wp_brk, wp_cont, wp_drop, wp_ret, wp_ifS, wp_set, wp_par, wp_par3, wp_asg, wp_pat, asP_some, wp_sub, asH_some, wp_aug, wp_for, wp_while, wp_lc, wp_lc2, wp_def, defK_rt, defK_nx, wp_miseq, srcK_ref, srcK_tup, srcK_str, rngK_int, wp_range1, wp_enum, enumK_ref, Tl_some, Ts_some, loopK_nx, loopK_ct, loopK_bk, loopK_rt, ixK_some, atI_k0, atI_k1, atI_k2, atI_k3, atI_k4, atI_k5, atI_k6, atI_k8, atI_k9, L2.atI_last, atI_n, g_ix_t, g_ix_s, g_ix_r, cIx_l, cIx_z, cIx_d, cIx_f, g_sub, g_lt, g_le, g_gt, g_ge, g_addi, g_addI, g_adds, g_addt, g_mul, g_muls, g_fdiv, g_mod, g_neg, g_eqs, g_nes, g_eqi, g_nei, g_min, g_max, g_int_b, g_int_i, g_is_non, g_cuts, g_cutt, g_lens, g_lent, g_lenr, cLen_l, cLen_z, g_tupt, g_tupr, cTup_l, g_listt, isLst_r, lstAt_r, cLst_l, cLst_z, tr_r, cTr_l, tr_b, g_set, cSet_l, cSet_d, jK_some, kK_some, ixN_0, ixN_1, ixN_2, isS, mwipe, mPat, mPats, List.getElem?_cons_zero, List.getElem?_cons_succ, List.set_cons_zero, List.set_cons_succ, List.map_cons, List.map_nil, List.length_cons, List.length_nil, List.replicate_succ, List.replicate_zero, List.cons_append, List.nil_append, Nat.reduceAdd, Nat.reduceSub, Nat.reduceLeDiff, Nat.zero_add, Option.map_some, if_true, Bool.false_eq_true, if_false, true_and, and_true, decide_eq_true_eq, reduceIte, reduceCtorEq]
        have B3' := X2.bx B3
        by_cases hv : v = 0
        · subst hv
          have e3 : h3[d7]? = some (.lst (ys.map .str)) := B3.get e2 (by
            intro q
            obtain ⟨_, _, _, eb⟩ := (hb.ext X2)
            rw [← q, e2] at eb
            rw [hy] at eb
            simp at eb)
          simp only [beq_self_eq_true, wp_c, wp_var, slotK_some, wp_op, wp_un, wp_b, asB_bl, wp_tr, asT_some, wp_yes, wp_and, wp_or, wp_not, wp_caseB, wp_andV, wp_orV, wp_notV, wp_if, wp_nil, wp_cons, wp_tup, wp_lst, wp_cb, wp_call, wp_m0, wp_m1, wp_ml0, wp_ml, wp_isi, wp_isi2, wp_nopart, asI_int, wp_part, wp_sl, wp_seq, seqK_nx, seqK_rt, seqK_bk, seqK_ct, wp_next, wp_brk, wp_cont, wp_drop, wp_ret, wp_ifS, wp_set, wp_par, wp_par3, wp_asg, wp_pat, asP_some, wp_sub, asH_some, wp_aug, wp_for, wp_while, wp_lc, wp_lc2, wp_def, defK_rt, defK_nx, wp_miseq, srcK_ref, srcK_tup, srcK_str, rngK_int, wp_range1, wp_enum, enumK_ref, Tl_some, Ts_some, loopK_nx, loopK_ct, loopK_bk, loopK_rt, ixK_some, atI_k0, atI_k1, atI_k2, atI_k3, atI_k4, atI_k5, atI_k6, atI_k8, atI_k9, L2.atI_last, atI_n, g_ix_t, g_ix_s, g_ix_r, cIx_l, cIx_z, cIx_d, cIx_f, g_sub, g_lt, g_le, g_gt, g_ge, g_addi, g_addI, g_adds, g_addt, g_mul, g_muls, g_fdiv, g_mod, g_neg, g_eqs, g_nes, g_eqi, g_nei, g_min, g_max, g_int_b, g_int_i, g_is_non, g_cuts, g_cutt, g_lens, g_lent, g_lenr, cLen_l, cLen_z, g_tupt, g_tupr, cTup_l, g_listt, isLst_r, lstAt_r, cLst_l, cLst_z, tr_r, cTr_l, tr_b, g_set, cSet_l, cSet_d, jK_some, kK_some, ixN_0, ixN_1, ixN_2, isS, mwipe, mPat, mPats, List.getElem?_cons_zero, List.getElem?_cons_succ, List.set_cons_zero, List.set_cons_succ, List.map_cons, List.map_nil, List.length_cons, List.length_nil, List.replicate_succ, List.replicate_zero, List.cons_append, List.nil_append, Nat.reduceAdd, Nat.reduceSub, Nat.reduceLeDiff, Nat.zero_add, Option.map_some, if_true, Bool.false_eq_true, if_false, true_and, and_true, decide_eq_true_eq, reduceIte, reduceCtorEq, e3, List.length_map]
          exact fin _ (fun x h5 a c => .inr ⟨_, rfl, a, c⟩) h3 B3' e3
        · rw [if_neg (by simpa using hv)]
          exact .inl B3'
  · rintro _ h2 ⟨rfl, B2⟩
    obtain ⟨wF, wC, wN, wD, wfd, wcd, pool, ts, tok, q1, q2, q3, q4, q5, eD, g1, g2, g3, eF, eC, eN, eo, lp, pok, _, t0, t1, tts⟩ := (sc.bx B2).at_
    refine Ts.cut (fun s1 h3 => ∃ t ∈ ts, s1 = [some (.ref b), some (.ref wd), some (.ref o), some (.ref kn), some kind, some (.int room), some (.ref d6), some (.ref d7), some (.str t), none, none, none, none, none, none, none, none, none, none, none] ∧ Bx b h2 h3) ?_ ?_
    · simp only [wp_c, wp_var, slotK_some, wp_op, wp_un, wp_b, asB_bl, wp_tr, asT_some, wp_yes, wp_and, wp_or, wp_not, wp_caseB, wp_andV, wp_orV, wp_notV, wp_if, wp_nil, wp_cons, wp_tup, wp_lst, wp_cb, wp_call, wp_m0, wp_m1, wp_ml0, wp_ml, wp_isi, wp_isi2, wp_nopart, asI_int, wp_part, wp_sl, wp_seq, seqK_nx, seqK_rt, seqK_bk, seqK_ct, wp_next, wp_brk, wp_cont, wp_drop, wp_ret, wp_ifS, wp_set, wp_par, wp_par3, wp_asg, wp_pat, asP_some, wp_sub, asH_some, wp_aug, wp_for, wp_while, wp_lc, wp_lc2, wp_def, defK_rt, defK_nx, wp_miseq, srcK_ref, srcK_tup, srcK_str, rngK_int, wp_range1, wp_enum, enumK_ref, Tl_some, Ts_some, loopK_nx, loopK_ct, loopK_bk, loopK_rt, ixK_some, atI_k0, atI_k1, atI_k2, atI_k3, atI_k4, atI_k5, atI_k6, atI_k8, atI_k9, L2.atI_last, atI_n, g_ix_t, g_ix_s, g_ix_r, cIx_l, cIx_z, cIx_d, cIx_f, g_sub, g_lt, g_le, g_gt, g_ge, g_addi, g_addI, g_adds, g_addt, g_mul, g_muls, g_fdiv, g_mod, g_neg, g_eqs, g_nes, g_eqi, g_nei, g_min, g_max, g_int_b, g_int_i, g_is_non, g_cuts, g_cutt, g_lens, g_lent, g_lenr, cLen_l, cLen_z, g_tupt, g_tupr, cTup_l, g_listt, isLst_r, lstAt_r, cLst_l, cLst_z, tr_r, cTr_l, tr_b, g_set, cSet_l, cSet_d, jK_some, kK_some, ixN_0, ixN_1, ixN_2, isS, mwipe, mPat, mPats, List.getElem?_cons_zero, List.getElem?_cons_succ, List.set_cons_zero, List.set_cons_succ, List.map_cons, List.map_nil, List.length_cons, List.length_nil, List.replicate_succ, List.replicate_zero, List.cons_append, List.nil_append, Nat.reduceAdd, Nat.reduceSub, Nat.reduceLeDiff, Nat.zero_add, Option.map_some, if_true, Bool.false_eq_true, if_false, true_and, and_true, decide_eq_true_eq, reduceIte, reduceCtorEq, eo, List.length_map]
      refine (take_spec B2.box (by omega) (by omega)).by ?_
      rintro _ h3 ⟨v, rfl, v0, v1, B3⟩
      have eo3 := B3.get eo q5
      obtain ⟨t, et, ht⟩ := str_map_at (xs := ts) v0 v1
      simp only [wp_c, wp_var, slotK_some, wp_op, wp_un, wp_b, asB_bl, wp_tr, asT_some, wp_yes, wp_and, wp_or, wp_not, wp_caseB, wp_andV, wp_orV, wp_notV, wp_if, wp_nil, wp_cons, wp_tup, wp_lst, wp_cb, wp_call, wp_m0, wp_m1, wp_ml0, wp_ml, wp_isi, wp_isi2, wp_nopart, asI_int, wp_part, wp_sl, wp_seq, seqK_nx, seqK_rt, seqK_bk, seqK_ct, wp_next, wp_brk, wp_cont, wp_drop, wp_ret, wp_ifS, wp_set, wp_par, wp_par3, wp_asg, wp_pat, asP_some, wp_sub, asH_some, wp_aug, wp_for, wp_while, wp_lc, wp_lc2, wp_def, defK_rt, defK_nx, wp_miseq, srcK_ref, srcK_tup, srcK_str, rngK_int, wp_range1, wp_enum, enumK_ref, Tl_some, Ts_some, loopK_nx, loopK_ct, loopK_bk, loopK_rt, ixK_some, atI_k0, atI_k1, atI_k2, atI_k3, atI_k4, atI_k5, atI_k6, atI_k8, atI_k9, L2.atI_last, atI_n, g_ix_t, g_ix_s, g_ix_r, cIx_l, cIx_z, cIx_d, cIx_f, g_sub, g_lt, g_le, g_gt, g_ge, g_addi, g_addI, g_adds, g_addt, g_mul, g_muls, g_fdiv, g_mod, g_neg, g_eqs, g_nes, g_eqi, g_nei, g_min, g_max, g_int_b, g_int_i, g_is_non, g_cuts, g_cutt, g_lens, g_lent, g_lenr, cLen_l, cLen_z, g_tupt, g_tupr, cTup_l, g_listt, isLst_r, lstAt_r, cLst_l, cLst_z, tr_r, cTr_l, tr_b, g_set, cSet_l, cSet_d, jK_some, kK_some, ixN_0, ixN_1, ixN_2, isS, mwipe, mPat, mPats, List.getElem?_cons_zero, List.getElem?_cons_succ, List.set_cons_zero, List.set_cons_succ, List.map_cons, List.map_nil, List.length_cons, List.length_nil, List.replicate_succ, List.replicate_zero, List.cons_append, List.nil_append, Nat.reduceAdd, Nat.reduceSub, Nat.reduceLeDiff, Nat.zero_add, Option.map_some, if_true, Bool.false_eq_true, if_false, true_and, and_true, decide_eq_true_eq, reduceIte, reduceCtorEq, eo3, et]
      exact ⟨t, List.mem_of_getElem? ht, rfl, B3⟩
    rintro _ h3 ⟨t, ht, rfl, B3⟩
    obtain ⟨ks, tg, hks⟩ := tts t ht
    have tg3 := tg.fr (Fr.bx B3 rfl)
    have BB3 := B2.trans B3
    rw [seq_assoc]
    refine Ts.cut (fun s1 h4 => ∃ (r7 : Nat) (u9 : Option W) (rows : List W), s1 = [some (.ref b), some (.ref wd), some (.ref o), some (.ref kn), some kind, some (.int room), some (.ref d6), some (.ref r7), some (.str t), u9, none, none, none, none, none, none, none, none, none, none] ∧ Bx b h3 h4 ∧ r7 ≠ b ∧ h4[r7]? = some (.lst rows) ∧ 0 < rows.length ∧ rows.length ≤ 60 ∧ ∀ w ∈ rows, IsRow (· = b) h4 ks (room < 2) w)
      (rows_spec hn B3.box (B3.get eD q1) g1 g2 q1 q2 q3 (B3.get eF q2) (B3.get eC q3) tg3 kk hks fun h' r7 u9 rows a c e f g i => ⟨rfl, r7, u9, rows, rfl, a, c, e, f, g, i⟩) ?_
    rintro _ h4 ⟨r7, u9, rows, rfl, B4, r7b, e4, l0, l60, hrow⟩
    have BB4 := BB3.trans B4
    simp only [wp_c, wp_var, slotK_some, wp_op, wp_un, wp_b, asB_bl, wp_tr, asT_some, wp_yes, wp_and, wp_or, wp_not, wp_caseB, wp_andV, wp_orV, wp_notV, wp_if, wp_nil, wp_cons, wp_tup, wp_lst, wp_cb, wp_call, wp_m0, wp_m1, wp_ml0, wp_ml, wp_isi, wp_isi2, wp_nopart, asI_int, wp_part, wp_sl, wp_seq, seqK_nx, seqK_rt, seqK_bk, seqK_ct, wp_next, wp_brk, wp_cont, wp_drop, wp_ret, wp_ifS, wp_set, wp_par, wp_par3, wp_asg, wp_pat, asP_some, wp_sub, asH_some, wp_aug, wp_for, wp_while, wp_lc, wp_lc2, wp_def, defK_rt, defK_nx, wp_miseq, srcK_ref, srcK_tup, srcK_str, rngK_int, wp_range1, wp_enum, enumK_ref, Tl_some, Ts_some, loopK_nx, loopK_ct, loopK_bk, loopK_rt, ixK_some, atI_k0, atI_k1, atI_k2, atI_k3, atI_k4, atI_k5, atI_k6, atI_k8, atI_k9, L2.atI_last, atI_n, g_ix_t, g_ix_s, g_ix_r, cIx_l, cIx_z, cIx_d, cIx_f, g_sub, g_lt, g_le, g_gt, g_ge, g_addi, g_addI, g_adds, g_addt, g_mul, g_muls, g_fdiv, g_mod, g_neg, g_eqs, g_nes, g_eqi, g_nei, g_min, g_max, g_int_b, g_int_i, g_is_non, g_cuts, g_cutt, g_lens, g_lent, g_lenr, cLen_l, cLen_z, g_tupt, g_tupr, cTup_l, g_listt, isLst_r, lstAt_r, cLst_l, cLst_z, tr_r, cTr_l, tr_b, g_set, cSet_l, cSet_d, jK_some, kK_some, ixN_0, ixN_1, ixN_2, isS, mwipe, mPat, mPats, List.getElem?_cons_zero, List.getElem?_cons_succ, List.set_cons_zero, List.set_cons_succ, List.map_cons, List.map_nil, List.length_cons, List.length_nil, List.replicate_succ, List.replicate_zero, List.cons_append, List.nil_append, Nat.reduceAdd, Nat.reduceSub, Nat.reduceLeDiff, Nat.zero_add, Option.map_some, if_true, Bool.false_eq_true, if_false, true_and, and_true, decide_eq_true_eq, reduceIte, reduceCtorEq, e4]
    refine (take_spec BB4.box (by omega) (by omega)).by ?_
    rintro _ h5 ⟨v, rfl, v0, v1, B5⟩
    have e5 := B5.get e4 r7b
    have BB5 := BB4.trans B5
    obtain ⟨row, er, hr⟩ := Mi.atI_get (xs := rows) v0 v1
    have hro := (hrow row (List.mem_of_getElem? hr)).fr (Fr.bx B5 rfl)
    simp only [wp_c, wp_var, slotK_some, wp_op, wp_un, wp_b, asB_bl, wp_tr, asT_some, wp_yes, wp_and, wp_or, wp_not, wp_caseB, wp_andV, wp_orV, wp_notV, wp_if, wp_nil, wp_cons, wp_tup, wp_lst, wp_cb, wp_call, wp_m0, wp_m1, wp_ml0, wp_ml, wp_isi, wp_isi2, wp_nopart, asI_int, wp_part, wp_sl, wp_seq, seqK_nx, seqK_rt, seqK_bk, seqK_ct, wp_next, wp_brk, wp_cont, wp_drop, wp_ret, wp_ifS, wp_set, wp_par, wp_par3, wp_asg, wp_pat, asP_some, wp_sub, asH_some, wp_aug, wp_for, wp_while, wp_lc, wp_lc2, wp_def, defK_rt, defK_nx, wp_miseq, srcK_ref, srcK_tup, srcK_str, rngK_int, wp_range1, wp_enum, enumK_ref, Tl_some, Ts_some, loopK_nx, loopK_ct, loopK_bk, loopK_rt, ixK_some, atI_k0, atI_k1, atI_k2, atI_k3, atI_k4, atI_k5, atI_k6, atI_k8, atI_k9, L2.atI_last, atI_n, g_ix_t, g_ix_s, g_ix_r, cIx_l, cIx_z, cIx_d, cIx_f, g_sub, g_lt, g_le, g_gt, g_ge, g_addi, g_addI, g_adds, g_addt, g_mul, g_muls, g_fdiv, g_mod, g_neg, g_eqs, g_nes, g_eqi, g_nei, g_min, g_max, g_int_b, g_int_i, g_is_non, g_cuts, g_cutt, g_lens, g_lent, g_lenr, cLen_l, cLen_z, g_tupt, g_tupr, cTup_l, g_listt, isLst_r, lstAt_r, cLst_l, cLst_z, tr_r, cTr_l, tr_b, g_set, cSet_l, cSet_d, jK_some, kK_some, ixN_0, ixN_1, ixN_2, isS, mwipe, mPat, mPats, List.getElem?_cons_zero, List.getElem?_cons_succ, List.set_cons_zero, List.set_cons_succ, List.map_cons, List.map_nil, List.length_cons, List.length_nil, List.replicate_succ, List.replicate_zero, List.cons_append, List.nil_append, Nat.reduceAdd, Nat.reduceSub, Nat.reduceLeDiff, Nat.zero_add, Option.map_some, if_true, Bool.false_eq_true, if_false, true_and, and_true, decide_eq_true_eq, reduceIte, reduceCtorEq, e5, er]
    rcases hro with ⟨hd, its, kd, q, leaf⟩ | ⟨⟨hd, rk, kl, kd, q⟩, leaf⟩
    · have qe := q.eq
      subst qe
      simp only [wp_c, wp_var, slotK_some, wp_op, wp_un, wp_b, asB_bl, wp_tr, asT_some, wp_yes, wp_and, wp_or, wp_not, wp_caseB, wp_andV, wp_orV, wp_notV, wp_if, wp_nil, wp_cons, wp_tup, wp_lst, wp_cb, wp_call, wp_m0, wp_m1, wp_ml0, wp_ml, wp_isi, wp_isi2, wp_nopart, asI_int, wp_part, wp_sl, wp_seq, seqK_nx, seqK_rt, seqK_bk, seqK_ct, wp_next, wp_brk, wp_cont, wp_drop, wp_ret, wp_ifS, wp_set, wp_par, wp_par3, wp_asg, wp_pat, asP_some, wp_sub, asH_some, wp_aug, wp_for, wp_while, wp_lc, wp_lc2, wp_def, defK_rt, defK_nx, wp_miseq, srcK_ref, srcK_tup, srcK_str, rngK_int, wp_range1, wp_enum, enumK_ref, Tl_some, Ts_some, loopK_nx, loopK_ct, loopK_bk, loopK_rt, ixK_some, atI_k0, atI_k1, atI_k2, atI_k3, atI_k4, atI_k5, atI_k6, atI_k8, atI_k9, L2.atI_last, atI_n, g_ix_t, g_ix_s, g_ix_r, cIx_l, cIx_z, cIx_d, cIx_f, g_sub, g_lt, g_le, g_gt, g_ge, g_addi, g_addI, g_adds, g_addt, g_mul, g_muls, g_fdiv, g_mod, g_neg, g_eqs, g_nes, g_eqi, g_nei, g_min, g_max, g_int_b, g_int_i, g_is_non, g_cuts, g_cutt, g_lens, g_lent, g_lenr, cLen_l, cLen_z, g_tupt, g_tupr, cTup_l, g_listt, isLst_r, lstAt_r, cLst_l, cLst_z, tr_r, cTr_l, tr_b, g_set, cSet_l, cSet_d, jK_some, kK_some, ixN_0, ixN_1, ixN_2, isS, mwipe, mPat, mPats, List.getElem?_cons_zero, List.getElem?_cons_succ, List.set_cons_zero, List.set_cons_succ, List.map_cons, List.map_nil, List.length_cons, List.length_nil, List.replicate_succ, List.replicate_zero, List.cons_append, List.nil_append, Nat.reduceAdd, Nat.reduceSub, Nat.reduceLeDiff, Nat.zero_add, Option.map_some, if_true, Bool.false_eq_true, if_false, true_and, and_true, decide_eq_true_eq, reduceIte, reduceCtorEq, g_in_s, q.dot, g_is_non, kk.non]
      repeat (refine ⟨by simp, ?_⟩)
      have cnl : 0 < cnt "term" its → ¬ room < 2 := fun c z => by rw [leaf z] at c; exact absurd c (Nat.lt_irrefl 0)
      refine (use_spec (ks := ks) (F := F) (d := d) (r := r) (most := most) (tok t ht) q.hs hn hm BB5.box (sc.bx BB5) (kw.bx BB5) hl q.its hks tg.kok (fun c => (HF (cnl c)).1) (fun c => (HF (cnl c)).2)).by fun w h6 ⟨a, c⟩ => ⟨a, BB5.trans c⟩
    · have qe := q.eq
      subst qe
      simp only [wp_c, wp_var, slotK_some, wp_op, wp_un, wp_b, asB_bl, wp_tr, asT_some, wp_yes, wp_and, wp_or, wp_not, wp_caseB, wp_andV, wp_orV, wp_notV, wp_if, wp_nil, wp_cons, wp_tup, wp_lst, wp_cb, wp_call, wp_m0, wp_m1, wp_ml0, wp_ml, wp_isi, wp_isi2, wp_nopart, asI_int, wp_part, wp_sl, wp_seq, seqK_nx, seqK_rt, seqK_bk, seqK_ct, wp_next, wp_brk, wp_cont, wp_drop, wp_ret, wp_ifS, wp_set, wp_par, wp_par3, wp_asg, wp_pat, asP_some, wp_sub, asH_some, wp_aug, wp_for, wp_while, wp_lc, wp_lc2, wp_def, defK_rt, defK_nx, wp_miseq, srcK_ref, srcK_tup, srcK_str, rngK_int, wp_range1, wp_enum, enumK_ref, Tl_some, Ts_some, loopK_nx, loopK_ct, loopK_bk, loopK_rt, ixK_some, atI_k0, atI_k1, atI_k2, atI_k3, atI_k4, atI_k5, atI_k6, atI_k8, atI_k9, L2.atI_last, atI_n, g_ix_t, g_ix_s, g_ix_r, cIx_l, cIx_z, cIx_d, cIx_f, g_sub, g_lt, g_le, g_gt, g_ge, g_addi, g_addI, g_adds, g_addt, g_mul, g_muls, g_fdiv, g_mod, g_neg, g_eqs, g_nes, g_eqi, g_nei, g_min, g_max, g_int_b, g_int_i, g_is_non, g_cuts, g_cutt, g_lens, g_lent, g_lenr, cLen_l, cLen_z, g_tupt, g_tupr, cTup_l, g_listt, isLst_r, lstAt_r, cLst_l, cLst_z, tr_r, cTr_l, tr_b, g_set, cSet_l, cSet_d, jK_some, kK_some, ixN_0, ixN_1, ixN_2, isS, mwipe, mPat, mPats, List.getElem?_cons_zero, List.getElem?_cons_succ, List.set_cons_zero, List.set_cons_succ, List.map_cons, List.map_nil, List.length_cons, List.length_nil, List.replicate_succ, List.replicate_zero, List.cons_append, List.nil_append, Nat.reduceAdd, Nat.reduceSub, Nat.reduceLeDiff, Nat.zero_add, Option.map_some, if_true, Bool.false_eq_true, if_false, true_and, and_true, decide_eq_true_eq, reduceIte, reduceCtorEq, g_in_s, q.dot, g_is_non, kk.non, q.at_, List.length_map]
      have lkl := q.l1
      have lk0 := q.l0
      refine ⟨by omega, by omega, cMr (by decide), by decide, by decide, ?_⟩
      obtain ⟨HF1, HF2⟩ := HF leaf
      have lb5 := BB5.box.lt
      refine Tl.lc_e (xs := kl.map .str) (fun _ => true) (fun x => if mu then .non else x) (fun _ x => is_cell (x.get q.at_)) (by rw [List.length_map]; omega) (by rw [List.length_map]; omega) ?_ ?_
      · intro x hx h6 x6
        refine ⟨_, rfl, ?_⟩
        simp only [wp_c, wp_var, slotK_some, wp_op, wp_un, wp_b, asB_bl, wp_tr, asT_some, wp_yes, wp_and, wp_or, wp_not, wp_caseB, wp_andV, wp_orV, wp_notV, wp_if, wp_nil, wp_cons, wp_tup, wp_lst, wp_cb, wp_call, wp_m0, wp_m1, wp_ml0, wp_ml, wp_isi, wp_isi2, wp_nopart, asI_int, wp_part, wp_sl, wp_seq, seqK_nx, seqK_rt, seqK_bk, seqK_ct, wp_next, wp_brk, wp_cont, wp_drop, wp_ret, wp_ifS, wp_set, wp_par, wp_par3, wp_asg, wp_pat, asP_some, wp_sub, asH_some, wp_aug, wp_for, wp_while, wp_lc, wp_lc2, wp_def, defK_rt, defK_nx, wp_miseq, srcK_ref, srcK_tup, srcK_str, rngK_int, wp_range1, wp_enum, enumK_ref, Tl_some, Ts_some, loopK_nx, loopK_ct, loopK_bk, loopK_rt, ixK_some, atI_k0, atI_k1, atI_k2, atI_k3, atI_k4, atI_k5, atI_k6, atI_k8, atI_k9, L2.atI_last, atI_n, g_ix_t, g_ix_s, g_ix_r, cIx_l, cIx_z, cIx_d, cIx_f, g_sub, g_lt, g_le, g_gt, g_ge, g_addi, g_addI, g_adds, g_addt, g_mul, g_muls, g_fdiv, g_mod, g_neg, g_eqs, g_nes, g_eqi, g_nei, g_min, g_max, g_int_b, g_int_i, g_is_non, g_cuts, g_cutt, g_lens, g_lent, g_lenr, cLen_l, cLen_z, g_tupt, g_tupr, cTup_l, g_listt, isLst_r, lstAt_r, cLst_l, cLst_z, tr_r, cTr_l, tr_b, g_set, cSet_l, cSet_d, jK_some, kK_some, ixN_0, ixN_1, ixN_2, isS, mwipe, mPat, mPats, List.getElem?_cons_zero, List.getElem?_cons_succ, List.set_cons_zero, List.set_cons_succ, List.map_cons, List.map_nil, List.length_cons, List.length_nil, List.replicate_succ, List.replicate_zero, List.cons_append, List.nil_append, Nat.reduceAdd, Nat.reduceSub, Nat.reduceLeDiff, Nat.zero_add, Option.map_some, if_true, Bool.false_eq_true, if_false, true_and, and_true, decide_eq_true_eq, reduceIte, reduceCtorEq]
        refine ⟨Ext.refl _, fun _ => ?_⟩
        refine Tl.newL (by simp) fun h7 x7 l7 e7 => ?_
        have sel : L2.atI [x, W.non] (if mu then 1 else 0) = some (if mu then .non else x) := by cases mu <;> rfl
        simp only [wp_c, wp_var, slotK_some, wp_op, wp_un, wp_b, asB_bl, wp_tr, asT_some, wp_yes, wp_and, wp_or, wp_not, wp_caseB, wp_andV, wp_orV, wp_notV, wp_if, wp_nil, wp_cons, wp_tup, wp_lst, wp_cb, wp_call, wp_m0, wp_m1, wp_ml0, wp_ml, wp_isi, wp_isi2, wp_nopart, asI_int, wp_part, wp_sl, wp_seq, seqK_nx, seqK_rt, seqK_bk, seqK_ct, wp_next, wp_brk, wp_cont, wp_drop, wp_ret, wp_ifS, wp_set, wp_par, wp_par3, wp_asg, wp_pat, asP_some, wp_sub, asH_some, wp_aug, wp_for, wp_while, wp_lc, wp_lc2, wp_def, defK_rt, defK_nx, wp_miseq, srcK_ref, srcK_tup, srcK_str, rngK_int, wp_range1, wp_enum, enumK_ref, Tl_some, Ts_some, loopK_nx, loopK_ct, loopK_bk, loopK_rt, ixK_some, atI_k0, atI_k1, atI_k2, atI_k3, atI_k4, atI_k5, atI_k6, atI_k8, atI_k9, L2.atI_last, atI_n, g_ix_t, g_ix_s, g_ix_r, cIx_l, cIx_z, cIx_d, cIx_f, g_sub, g_lt, g_le, g_gt, g_ge, g_addi, g_addI, g_adds, g_addt, g_mul, g_muls, g_fdiv, g_mod, g_neg, g_eqs, g_nes, g_eqi, g_nei, g_min, g_max, g_int_b, g_int_i, g_is_non, g_cuts, g_cutt, g_lens, g_lent, g_lenr, cLen_l, cLen_z, g_tupt, g_tupr, cTup_l, g_listt, isLst_r, lstAt_r, cLst_l, cLst_z, tr_r, cTr_l, tr_b, g_set, cSet_l, cSet_d, jK_some, kK_some, ixN_0, ixN_1, ixN_2, isS, mwipe, mPat, mPats, List.getElem?_cons_zero, List.getElem?_cons_succ, List.set_cons_zero, List.set_cons_succ, List.map_cons, List.map_nil, List.length_cons, List.length_nil, List.replicate_succ, List.replicate_zero, List.cons_append, List.nil_append, Nat.reduceAdd, Nat.reduceSub, Nat.reduceLeDiff, Nat.zero_add, Option.map_some, if_true, Bool.false_eq_true, if_false, true_and, and_true, decide_eq_true_eq, reduceIte, reduceCtorEq, g_is_non, kk.non, e7, sel]
        exact x7
      · intro h6 x6 e6
        rw [filter_yes] at e6
        simp only [wp_c, wp_var, slotK_some, wp_op, wp_un, wp_b, asB_bl, wp_tr, asT_some, wp_yes, wp_and, wp_or, wp_not, wp_caseB, wp_andV, wp_orV, wp_notV, wp_if, wp_nil, wp_cons, wp_tup, wp_lst, wp_cb, wp_call, wp_m0, wp_m1, wp_ml0, wp_ml, wp_isi, wp_isi2, wp_nopart, asI_int, wp_part, wp_sl, wp_seq, seqK_nx, seqK_rt, seqK_bk, seqK_ct, wp_next, wp_brk, wp_cont, wp_drop, wp_ret, wp_ifS, wp_set, wp_par, wp_par3, wp_asg, wp_pat, asP_some, wp_sub, asH_some, wp_aug, wp_for, wp_while, wp_lc, wp_lc2, wp_def, defK_rt, defK_nx, wp_miseq, srcK_ref, srcK_tup, srcK_str, rngK_int, wp_range1, wp_enum, enumK_ref, Tl_some, Ts_some, loopK_nx, loopK_ct, loopK_bk, loopK_rt, ixK_some, atI_k0, atI_k1, atI_k2, atI_k3, atI_k4, atI_k5, atI_k6, atI_k8, atI_k9, L2.atI_last, atI_n, g_ix_t, g_ix_s, g_ix_r, cIx_l, cIx_z, cIx_d, cIx_f, g_sub, g_lt, g_le, g_gt, g_ge, g_addi, g_addI, g_adds, g_addt, g_mul, g_muls, g_fdiv, g_mod, g_neg, g_eqs, g_nes, g_eqi, g_nei, g_min, g_max, g_int_b, g_int_i, g_is_non, g_cuts, g_cutt, g_lens, g_lent, g_lenr, cLen_l, cLen_z, g_tupt, g_tupr, cTup_l, g_listt, isLst_r, lstAt_r, cLst_l, cLst_z, tr_r, cTr_l, tr_b, g_set, cSet_l, cSet_d, jK_some, kK_some, ixN_0, ixN_1, ixN_2, isS, mwipe, mPat, mPats, List.getElem?_cons_zero, List.getElem?_cons_succ, List.set_cons_zero, List.set_cons_succ, List.map_cons, List.map_nil, List.length_cons, List.length_nil, List.replicate_succ, List.replicate_zero, List.cons_append, List.nil_append, Nat.reduceAdd, Nat.reduceSub, Nat.reduceLeDiff, Nat.zero_add, Option.map_some, if_true, Bool.false_eq_true, if_false, true_and, and_true, decide_eq_true_eq, reduceIte, reduceCtorEq, e6]
        have B6 := BB5.ext x6
        refine Tl.lc_b (b := b) (xs := (kl.map W.str).map fun x => if mu then .non else x) (fun i w => Tm d w) B6.box (fun h' B => is_cell (B.get e6 (by omega))) (by rw [List.length_map, List.length_map]; omega) (by rw [List.length_map, List.length_map]; omega) ?_ ?_
        · intro i x hx h7 B7
          refine ⟨_, rfl, ?_⟩
          have hx' := List.mem_of_getElem? hx
          rw [List.map_map] at hx'
          obtain ⟨k, hk, rfl⟩ := List.mem_map.mp hx'
          simp only [wp_c, wp_var, slotK_some, wp_op, wp_un, wp_b, asB_bl, wp_tr, asT_some, wp_yes, wp_and, wp_or, wp_not, wp_caseB, wp_andV, wp_orV, wp_notV, wp_if, wp_nil, wp_cons, wp_tup, wp_lst, wp_cb, wp_call, wp_m0, wp_m1, wp_ml0, wp_ml, wp_isi, wp_isi2, wp_nopart, asI_int, wp_part, wp_sl, wp_seq, seqK_nx, seqK_rt, seqK_bk, seqK_ct, wp_next, wp_brk, wp_cont, wp_drop, wp_ret, wp_ifS, wp_set, wp_par, wp_par3, wp_asg, wp_pat, asP_some, wp_sub, asH_some, wp_aug, wp_for, wp_while, wp_lc, wp_lc2, wp_def, defK_rt, defK_nx, wp_miseq, srcK_ref, srcK_tup, srcK_str, rngK_int, wp_range1, wp_enum, enumK_ref, Tl_some, Ts_some, loopK_nx, loopK_ct, loopK_bk, loopK_rt, ixK_some, atI_k0, atI_k1, atI_k2, atI_k3, atI_k4, atI_k5, atI_k6, atI_k8, atI_k9, L2.atI_last, atI_n, g_ix_t, g_ix_s, g_ix_r, cIx_l, cIx_z, cIx_d, cIx_f, g_sub, g_lt, g_le, g_gt, g_ge, g_addi, g_addI, g_adds, g_addt, g_mul, g_muls, g_fdiv, g_mod, g_neg, g_eqs, g_nes, g_eqi, g_nei, g_min, g_max, g_int_b, g_int_i, g_is_non, g_cuts, g_cutt, g_lens, g_lent, g_lenr, cLen_l, cLen_z, g_tupt, g_tupr, cTup_l, g_listt, isLst_r, lstAt_r, cLst_l, cLst_z, tr_r, cTr_l, tr_b, g_set, cSet_l, cSet_d, jK_some, kK_some, ixN_0, ixN_1, ixN_2, isS, mwipe, mPat, mPats, List.getElem?_cons_zero, List.getElem?_cons_succ, List.set_cons_zero, List.set_cons_succ, List.map_cons, List.map_nil, List.length_cons, List.length_nil, List.replicate_succ, List.replicate_zero, List.cons_append, List.nil_append, Nat.reduceAdd, Nat.reduceSub, Nat.reduceLeDiff, Nat.zero_add, Option.map_some, if_true, Bool.false_eq_true, if_false, true_and, and_true, decide_eq_true_eq, reduceIte, reduceCtorEq]
          have kk' : KindOk mu ksA (if mu then .non else .str k) := by
            cases mu with
            | true => exact .inl ⟨rfl, rfl⟩
            | false => exact .inr ⟨rfl, k, hks rfl ▸ q.kl k hk, rfl⟩
          have B7' := B6.trans B7
          exact HF1 h7 kn l _ _ B7'.box (sc.bx B7') (kw.bx B7') (by omega) kk' (by split <;> omega)
        · intro h7 zs B7 e7 l7 hzs
          simp only [wp_c, wp_var, slotK_some, wp_op, wp_un, wp_b, asB_bl, wp_tr, asT_some, wp_yes, wp_and, wp_or, wp_not, wp_caseB, wp_andV, wp_orV, wp_notV, wp_if, wp_nil, wp_cons, wp_tup, wp_lst, wp_cb, wp_call, wp_m0, wp_m1, wp_ml0, wp_ml, wp_isi, wp_isi2, wp_nopart, asI_int, wp_part, wp_sl, wp_seq, seqK_nx, seqK_rt, seqK_bk, seqK_ct, wp_next, wp_brk, wp_cont, wp_drop, wp_ret, wp_ifS, wp_set, wp_par, wp_par3, wp_asg, wp_pat, asP_some, wp_sub, asH_some, wp_aug, wp_for, wp_while, wp_lc, wp_lc2, wp_def, defK_rt, defK_nx, wp_miseq, srcK_ref, srcK_tup, srcK_str, rngK_int, wp_range1, wp_enum, enumK_ref, Tl_some, Ts_some, loopK_nx, loopK_ct, loopK_bk, loopK_rt, ixK_some, atI_k0, atI_k1, atI_k2, atI_k3, atI_k4, atI_k5, atI_k6, atI_k8, atI_k9, L2.atI_last, atI_n, g_ix_t, g_ix_s, g_ix_r, cIx_l, cIx_z, cIx_d, cIx_f, g_sub, g_lt, g_le, g_gt, g_ge, g_addi, g_addI, g_adds, g_addt, g_mul, g_muls, g_fdiv, g_mod, g_neg, g_eqs, g_nes, g_eqi, g_nei, g_min, g_max, g_int_b, g_int_i, g_is_non, g_cuts, g_cutt, g_lens, g_lent, g_lenr, cLen_l, cLen_z, g_tupt, g_tupr, cTup_l, g_listt, isLst_r, lstAt_r, cLst_l, cLst_z, tr_r, cTr_l, tr_b, g_set, cSet_l, cSet_d, jK_some, kK_some, ixN_0, ixN_1, ixN_2, isS, mwipe, mPat, mPats, List.getElem?_cons_zero, List.getElem?_cons_succ, List.set_cons_zero, List.set_cons_succ, List.map_cons, List.map_nil, List.length_cons, List.length_nil, List.replicate_succ, List.replicate_zero, List.cons_append, List.nil_append, Nat.reduceAdd, Nat.reduceSub, Nat.reduceLeDiff, Nat.zero_add, Option.map_some, if_true, Bool.false_eq_true, if_false, true_and, and_true, decide_eq_true_eq, reduceIte, reduceCtorEq, e7]
          rw [List.length_map, List.length_map] at l7
          refine ⟨.call q.hs (fun w hw => ?_) (by omega), B6.trans B7⟩
          obtain ⟨i, hi, e⟩ := List.getElem_of_mem hw
          exact hzs i w (by rw [← e]; exact List.getElem?_eq_getElem hi)
def cap : Nat → Int
  | 0 => 1
  | 1 => 2
  | 2 => 4
  | 3 => 6
  | 4 => 10
  | 5 => 15
  | _ => 22
theorem term_spec {n b wd o : Nat} {mu : Bool} {ksA : List Str} (hn : 1000 ≤ n) : ∀ d, d ≤ 6 → ∀ e, d ≤ e → Draws n b wd o mu ksA (d + 1) (cap d) (100 - 7 * d - 7) (f__law_term (e + 1))
  | 0, _ => fun e _ h kn l kind room hb sc kw hl kk hr => body_spec (d := 0) (r := 0) (most := 100) hn (by omega) hb sc kw (by omega) kk fun c => absurd (show room < 2 by have : room ≤ 1 := hr; omega) c
  | d + 1, hd => fun e he h kn l kind room hb sc kw hl kk hr => body_spec (d := d + 1) (r := cap d) (most := 100 - 7 * d - 7) hn (by omega) hb sc kw (by omega) kk fun c => by
    obtain ⟨e', rfl⟩ : ∃ e', e = e' + 1 := ⟨e - 1, by omega⟩
    refine ⟨term_spec hn d (by omega) e' (by omega), ?_⟩
    have : d = 0 ∨ d = 1 ∨ d = 2 ∨ d = 3 ∨ d = 4 ∨ d = 5 := by omega
    rcases this with rfl | rfl | rfl | rfl | rfl | rfl <;> simp only [cap] at hr ⊢ <;> omega
end K03

namespace K03
open PySem PySem.Spec PyProof.Rows L2 Mi
def sndW : W → W
  | .tup [_, k] => k
  | x => x
theorem ground_ok : PyData.strOk "ground" = true := by decide +kernel
theorem drawn_spec {n b wd : Nat} {h : MH} (hn : 1000 ≤ n) (hb : IsBox h b) (w : World b h wd) : Tl (f__law_drawn n [.ref b, .ref wd] h) fun v h' => Tm 7 v ∧ Bx b h h' := by
  have lb := hb.lt
  unfold f__law_drawn B__law_drawn
  simp only [wp_c, wp_var, slotK_some, wp_op, wp_un, wp_b, asB_bl, wp_tr, asT_some, wp_yes, wp_and, wp_or, wp_not, wp_caseB, wp_andV, wp_orV, wp_notV, wp_if, wp_nil, wp_cons, wp_tup, wp_lst, wp_cb, wp_call, wp_m0, wp_m1, wp_ml0, wp_ml, wp_isi, wp_isi2, wp_nopart, asI_int, wp_part, wp_sl, wp_seq, seqK_nx, seqK_rt, seqK_bk, seqK_ct, wp_next, wp_brk, wp_cont, wp_drop, wp_ret, wp_ifS, wp_set, wp_par, wp_par3, wp_asg, wp_pat, asP_some, wp_sub, asH_some, wp_aug, wp_for, wp_while, wp_lc, wp_lc2, wp_def, defK_rt, defK_nx, wp_miseq, srcK_ref, srcK_tup, srcK_str, rngK_int, wp_range1, wp_enum, enumK_ref, Tl_some, Ts_some, loopK_nx, loopK_ct, loopK_bk, loopK_rt, ixK_some, atI_k0, atI_k1, atI_k2, atI_k3, atI_k4, atI_k5, atI_k6, atI_k8, atI_k9, L2.atI_last, atI_n, g_ix_t, g_ix_s, g_ix_r, cIx_l, cIx_z, cIx_d, cIx_f, g_sub, g_lt, g_le, g_gt, g_ge, g_addi, g_addI, g_adds, g_addt, g_mul, g_muls, g_fdiv, g_mod, g_neg, g_eqs, g_nes, g_eqi, g_nei, g_min, g_max, g_int_b, g_int_i, g_is_non, g_cuts, g_cutt, g_lens, g_lent, g_lenr, cLen_l, cLen_z, g_tupt, g_tupr, cTup_l, g_listt, isLst_r, lstAt_r, cLst_l, cLst_z, tr_r, cTr_l, tr_b, g_set, cSet_l, cSet_d, jK_some, kK_some, ixN_0, ixN_1, ixN_2, isS, mwipe, mPat, mPats, List.getElem?_cons_zero, List.getElem?_cons_succ, List.set_cons_zero, List.set_cons_succ, List.map_cons, List.map_nil, List.length_cons, List.length_nil, List.replicate_succ, List.replicate_zero, List.cons_append, List.nil_append, Nat.reduceAdd, Nat.reduceSub, Nat.reduceLeDiff, Nat.zero_add, Option.map_some, if_true, Bool.false_eq_true, if_false, true_and, and_true, decide_eq_true_eq, reduceIte, reduceCtorEq]
  refine (take_spec hb (by decide) (by decide)).by ?_
  rintro _ h1 ⟨v, rfl, v0, v1, B1⟩
  try simp only [wp_c, wp_var, slotK_some, wp_op, wp_un, wp_b, asB_bl, wp_tr, asT_some, wp_yes, wp_and, wp_or, wp_not, wp_caseB, wp_andV, wp_orV, wp_notV, wp_if, wp_nil, wp_cons, wp_tup, wp_lst, wp_cb, wp_call, wp_m0, wp_m1, wp_ml0, wp_ml, wp_isi, wp_isi2, wp_nopart, asI_int, wp_part, wp_sl, wp_seq, seqK_nx, seqK_rt, seqK_bk, seqK_ct, wp_next, wp_brk, wp_cont, wp_drop, wp_ret, wp_ifS, wp_set, wp_par, wp_par3, wp_asg, wp_pat, asP_some, wp_sub, asH_some, wp_aug, wp_for, wp_while, wp_lc, wp_lc2, wp_def, defK_rt, defK_nx, wp_miseq, srcK_ref, srcK_tup, srcK_str, rngK_int, wp_range1, wp_enum, enumK_ref, Tl_some, Ts_some, loopK_nx, loopK_ct, loopK_bk, loopK_rt, ixK_some, atI_k0, atI_k1, atI_k2, atI_k3, atI_k4, atI_k5, atI_k6, atI_k8, atI_k9, L2.atI_last, atI_n, g_ix_t, g_ix_s, g_ix_r, cIx_l, cIx_z, cIx_d, cIx_f, g_sub, g_lt, g_le, g_gt, g_ge, g_addi, g_addI, g_adds, g_addt, g_mul, g_muls, g_fdiv, g_mod, g_neg, g_eqs, g_nes, g_eqi, g_nei, g_min, g_max, g_int_b, g_int_i, g_is_non, g_cuts, g_cutt, g_lens, g_lent, g_lenr, cLen_l, cLen_z, g_tupt, g_tupr, cTup_l, g_listt, isLst_r, lstAt_r, cLst_l, cLst_z, tr_r, cTr_l, tr_b, g_set, cSet_l, cSet_d, jK_some, kK_some, ixN_0, ixN_1, ixN_2, isS, mwipe, mPat, mPats, List.getElem?_cons_zero, List.getElem?_cons_succ, List.set_cons_zero, List.set_cons_succ, List.map_cons, List.map_nil, List.length_cons, List.length_nil, List.replicate_succ, List.replicate_zero, List.cons_append, List.nil_append, Nat.reduceAdd, Nat.reduceSub, Nat.reduceLeDiff, Nat.zero_add, Option.map_some, if_true, Bool.false_eq_true, if_false, true_and, and_true, decide_eq_true_eq, reduceIte, reduceCtorEq]
  obtain ⟨F, C, N, O, Kn, D, fd, cd, kd, pool, x0, x1, y0, y1, n1, n2, n3, n4, n5, n6, e1, g1, g2, g3, g4, g5, e2, e3, e4, e5, e6, l, p, u, ⟨ks0, t0, k0⟩, ⟨ks1, t1, k1⟩, kg, tg⟩ := (w.bx B1).at_
  by_cases hv : v = 0
  · subst hv
    simp only [beq_self_eq_true, wp_c, wp_var, slotK_some, wp_op, wp_un, wp_b, asB_bl, wp_tr, asT_some, wp_yes, wp_and, wp_or, wp_not, wp_caseB, wp_andV, wp_orV, wp_notV, wp_if, wp_nil, wp_cons, wp_tup, wp_lst, wp_cb, wp_call, wp_m0, wp_m1, wp_ml0, wp_ml, wp_isi, wp_isi2, wp_nopart, asI_int, wp_part, wp_sl, wp_seq, seqK_nx, seqK_rt, seqK_bk, seqK_ct, wp_next, wp_brk, wp_cont, wp_drop, wp_ret, wp_ifS, wp_set, wp_par, wp_par3, wp_asg, wp_pat, asP_some, wp_sub, asH_some, wp_aug, wp_for, wp_while, wp_lc, wp_lc2, wp_def, defK_rt, defK_nx, wp_miseq, srcK_ref, srcK_tup, srcK_str, rngK_int, wp_range1, wp_enum, enumK_ref, Tl_some, Ts_some, loopK_nx, loopK_ct, loopK_bk, loopK_rt, ixK_some, atI_k0, atI_k1, atI_k2, atI_k3, atI_k4, atI_k5, atI_k6, atI_k8, atI_k9, L2.atI_last, atI_n, g_ix_t, g_ix_s, g_ix_r, cIx_l, cIx_z, cIx_d, cIx_f, g_sub, g_lt, g_le, g_gt, g_ge, g_addi, g_addI, g_adds, g_addt, g_mul, g_muls, g_fdiv, g_mod, g_neg, g_eqs, g_nes, g_eqi, g_nei, g_min, g_max, g_int_b, g_int_i, g_is_non, g_cuts, g_cutt, g_lens, g_lent, g_lenr, cLen_l, cLen_z, g_tupt, g_tupr, cTup_l, g_listt, isLst_r, lstAt_r, cLst_l, cLst_z, tr_r, cTr_l, tr_b, g_set, cSet_l, cSet_d, jK_some, kK_some, ixN_0, ixN_1, ixN_2, isS, mwipe, mPat, mPats, List.getElem?_cons_zero, List.getElem?_cons_succ, List.set_cons_zero, List.set_cons_succ, List.map_cons, List.map_nil, List.length_cons, List.length_nil, List.replicate_succ, List.replicate_zero, List.cons_append, List.nil_append, Nat.reduceAdd, Nat.reduceSub, Nat.reduceLeDiff, Nat.zero_add, Option.map_some, if_true, Bool.false_eq_true, if_false, true_and, and_true, decide_eq_true_eq, reduceIte, reduceCtorEq, e1, keyW_str, Option.bind_some, g5]
    refine Tl.newL (by decide) fun h2 x2 l2 a2 => ?_
    refine Tl.addl (x2.get e6) a2 (by simp) fun h3 x3 l3 a3 => ?_
    have X := x2.trans x3
    have B3 := B1.ext X
    obtain ⟨ik, lk, q1, q2, q3, q4, q5⟩ := k0.at_
    have e13 := X.get e1
    have e43 := X.get e4
    have h0 : ([W.str x0, W.str x1] ++ [W.str (Str.ofString "ground")])[0]? = some (.str x0) := rfl
    simp only [wp_c, wp_var, slotK_some, wp_op, wp_un, wp_b, asB_bl, wp_tr, asT_some, wp_yes, wp_and, wp_or, wp_not, wp_caseB, wp_andV, wp_orV, wp_notV, wp_if, wp_nil, wp_cons, wp_tup, wp_lst, wp_cb, wp_call, wp_m0, wp_m1, wp_ml0, wp_ml, wp_isi, wp_isi2, wp_nopart, asI_int, wp_part, wp_sl, wp_seq, seqK_nx, seqK_rt, seqK_bk, seqK_ct, wp_next, wp_brk, wp_cont, wp_drop, wp_ret, wp_ifS, wp_set, wp_par, wp_par3, wp_asg, wp_pat, asP_some, wp_sub, asH_some, wp_aug, wp_for, wp_while, wp_lc, wp_lc2, wp_def, defK_rt, defK_nx, wp_miseq, srcK_ref, srcK_tup, srcK_str, rngK_int, wp_range1, wp_enum, enumK_ref, Tl_some, Ts_some, loopK_nx, loopK_ct, loopK_bk, loopK_rt, ixK_some, atI_k0, atI_k1, atI_k2, atI_k3, atI_k4, atI_k5, atI_k6, atI_k8, atI_k9, L2.atI_last, atI_n, g_ix_t, g_ix_s, g_ix_r, cIx_l, cIx_z, cIx_d, cIx_f, g_sub, g_lt, g_le, g_gt, g_ge, g_addi, g_addI, g_adds, g_addt, g_mul, g_muls, g_fdiv, g_mod, g_neg, g_eqs, g_nes, g_eqi, g_nei, g_min, g_max, g_int_b, g_int_i, g_is_non, g_cuts, g_cutt, g_lens, g_lent, g_lenr, cLen_l, cLen_z, g_tupt, g_tupr, cTup_l, g_listt, isLst_r, lstAt_r, cLst_l, cLst_z, tr_r, cTr_l, tr_b, g_set, cSet_l, cSet_d, jK_some, kK_some, ixN_0, ixN_1, ixN_2, isS, mwipe, mPat, mPats, List.getElem?_cons_zero, List.getElem?_cons_succ, List.set_cons_zero, List.set_cons_succ, List.map_cons, List.map_nil, List.length_cons, List.length_nil, List.replicate_succ, List.replicate_zero, List.cons_append, List.nil_append, Nat.reduceAdd, Nat.reduceSub, Nat.reduceLeDiff, Nat.zero_add, Option.map_some, if_true, Bool.false_eq_true, if_false, true_and, and_true, decide_eq_true_eq, reduceIte, reduceCtorEq, e13, keyW_str, Option.bind_some, g3, a3, e43, q1]
    refine (take_spec B3.box (by decide) (by decide)).by ?_
    rintro _ h4 ⟨r, rfl, r0, r1, B4⟩
    try simp only [wp_c, wp_var, slotK_some, wp_op, wp_un, wp_b, asB_bl, wp_tr, asT_some, wp_yes, wp_and, wp_or, wp_not, wp_caseB, wp_andV, wp_orV, wp_notV, wp_if, wp_nil, wp_cons, wp_tup, wp_lst, wp_cb, wp_call, wp_m0, wp_m1, wp_ml0, wp_ml, wp_isi, wp_isi2, wp_nopart, asI_int, wp_part, wp_sl, wp_seq, seqK_nx, seqK_rt, seqK_bk, seqK_ct, wp_next, wp_brk, wp_cont, wp_drop, wp_ret, wp_ifS, wp_set, wp_par, wp_par3, wp_asg, wp_pat, asP_some, wp_sub, asH_some, wp_aug, wp_for, wp_while, wp_lc, wp_lc2, wp_def, defK_rt, defK_nx, wp_miseq, srcK_ref, srcK_tup, srcK_str, rngK_int, wp_range1, wp_enum, enumK_ref, Tl_some, Ts_some, loopK_nx, loopK_ct, loopK_bk, loopK_rt, ixK_some, atI_k0, atI_k1, atI_k2, atI_k3, atI_k4, atI_k5, atI_k6, atI_k8, atI_k9, L2.atI_last, atI_n, g_ix_t, g_ix_s, g_ix_r, cIx_l, cIx_z, cIx_d, cIx_f, g_sub, g_lt, g_le, g_gt, g_ge, g_addi, g_addI, g_adds, g_addt, g_mul, g_muls, g_fdiv, g_mod, g_neg, g_eqs, g_nes, g_eqi, g_nei, g_min, g_max, g_int_b, g_int_i, g_is_non, g_cuts, g_cutt, g_lens, g_lent, g_lenr, cLen_l, cLen_z, g_tupt, g_tupr, cTup_l, g_listt, isLst_r, lstAt_r, cLst_l, cLst_z, tr_r, cTr_l, tr_b, g_set, cSet_l, cSet_d, jK_some, kK_some, ixN_0, ixN_1, ixN_2, isS, mwipe, mPat, mPats, List.getElem?_cons_zero, List.getElem?_cons_succ, List.set_cons_zero, List.set_cons_succ, List.map_cons, List.map_nil, List.length_cons, List.length_nil, List.replicate_succ, List.replicate_zero, List.cons_append, List.nil_append, Nat.reduceAdd, Nat.reduceSub, Nat.reduceLeDiff, Nat.zero_add, Option.map_some, if_true, Bool.false_eq_true, if_false, true_and, and_true, decide_eq_true_eq, reduceIte, reduceCtorEq]
    have B34 := B3.trans B4
    have BX := X.bx B4
    have lx := X.len
    have sc : Scene b h4 wd h2.length true [] := ⟨F, C, N, D, fd, cd, pool, [x0, x1, "ground"], by simp [y0, y1, ground_ok], n1, n2, n3, n4, by have := B1.len; have := x2.len; omega, BX.get e1 n1, g1, g2, g4, BX.get e2 n2, BX.get e3 n3, BX.get e5 n4, B4.get a3 (by have := B1.len; have := x2.len; omega), l, p, u, by simp, by simp, fun t ht => by
      have f : Fr (· = b) h1 h4 := Fr.bx BX rfl
      simp only [List.mem_cons, List.not_mem_nil, or_false] at ht
      rcases ht with rfl | rfl | rfl
      · exact ⟨ks0, t0.fr f, fun z => by cases z⟩
      · exact ⟨ks1, t1.fr f, fun z => by cases z⟩
      · exact ⟨kg, tg.fr f, fun z => by cases z⟩⟩
    have kn : Known b h4 ik lk := ⟨q2, BX.get q3 q2, fun p hp => (q5 p hp).1⟩
    refine (term_spec (o := h2.length) (mu := true) (ksA := []) hn 6 (by omega) 11 (by omega) h4 ik lk .non (4 + r) B34.box sc kn (by omega) (.inl ⟨rfl, rfl⟩) (by show 4 + r ≤ 22; omega)).by fun w h5 ⟨a, c⟩ => ⟨a, B34.trans c⟩
  · have hv' : (v == 0) = false := by simpa using hv
    simp only [hv', wp_c, wp_var, slotK_some, wp_op, wp_un, wp_b, asB_bl, wp_tr, asT_some, wp_yes, wp_and, wp_or, wp_not, wp_caseB, wp_andV, wp_orV, wp_notV, wp_if, wp_nil, wp_cons, wp_tup, wp_lst, wp_cb, wp_call, wp_m0, wp_m1, wp_ml0, wp_ml, wp_isi, wp_isi2, wp_nopart, asI_int, wp_part, wp_sl, wp_seq, seqK_nx, seqK_rt, seqK_bk, seqK_ct, wp_next, wp_brk, wp_cont, wp_drop, wp_ret, wp_ifS, wp_set, wp_par, wp_par3, wp_asg, wp_pat, asP_some, wp_sub, asH_some, wp_aug, wp_for, wp_while, wp_lc, wp_lc2, wp_def, defK_rt, defK_nx, wp_miseq, srcK_ref, srcK_tup, srcK_str, rngK_int, wp_range1, wp_enum, enumK_ref, Tl_some, Ts_some, loopK_nx, loopK_ct, loopK_bk, loopK_rt, ixK_some, atI_k0, atI_k1, atI_k2, atI_k3, atI_k4, atI_k5, atI_k6, atI_k8, atI_k9, L2.atI_last, atI_n, g_ix_t, g_ix_s, g_ix_r, cIx_l, cIx_z, cIx_d, cIx_f, g_sub, g_lt, g_le, g_gt, g_ge, g_addi, g_addI, g_adds, g_addt, g_mul, g_muls, g_fdiv, g_mod, g_neg, g_eqs, g_nes, g_eqi, g_nei, g_min, g_max, g_int_b, g_int_i, g_is_non, g_cuts, g_cutt, g_lens, g_lent, g_lenr, cLen_l, cLen_z, g_tupt, g_tupr, cTup_l, g_listt, isLst_r, lstAt_r, cLst_l, cLst_z, tr_r, cTr_l, tr_b, g_set, cSet_l, cSet_d, jK_some, kK_some, ixN_0, ixN_1, ixN_2, isS, mwipe, mPat, mPats, List.getElem?_cons_zero, List.getElem?_cons_succ, List.set_cons_zero, List.set_cons_succ, List.map_cons, List.map_nil, List.length_cons, List.length_nil, List.replicate_succ, List.replicate_zero, List.cons_append, List.nil_append, Nat.reduceAdd, Nat.reduceSub, Nat.reduceLeDiff, Nat.zero_add, Option.map_some, if_true, Bool.false_eq_true, if_false, true_and, and_true, decide_eq_true_eq, reduceIte, reduceCtorEq, e1, keyW_str, Option.bind_some, g5]
    refine (take_spec B1.box (by decide) (by decide)).by ?_
    rintro _ h2 ⟨r, rfl, r0, r1, B2⟩
    have B12 := B1.trans B2
    obtain ⟨t, ks, et, tok, tt, kt⟩ : ∃ t ks, L2.atI [W.str x0, W.str x1] r = some (.str t) ∧ PyData.strOk t = true ∧ TongueAt (· = b) h1 fd cd t ks ∧ KnownAt (· = b) h1 kd t ks := by
      have : r = 0 ∨ r = 1 := by omega
      rcases this with rfl | rfl
      · exact ⟨x0, ks0, rfl, y0, t0, k0⟩
      · exact ⟨x1, ks1, rfl, y1, t1, k1⟩
    obtain ⟨ik, lk, q1, q2, q3, q4, q5⟩ := kt.at_
    have e62 := B2.get e6 n5
    have e12 := B2.get e1 n1
    have e42 := B2.get e4 n6
    have q32 := B2.get q3 q2
    simp only [wp_c, wp_var, slotK_some, wp_op, wp_un, wp_b, asB_bl, wp_tr, asT_some, wp_yes, wp_and, wp_or, wp_not, wp_caseB, wp_andV, wp_orV, wp_notV, wp_if, wp_nil, wp_cons, wp_tup, wp_lst, wp_cb, wp_call, wp_m0, wp_m1, wp_ml0, wp_ml, wp_isi, wp_isi2, wp_nopart, asI_int, wp_part, wp_sl, wp_seq, seqK_nx, seqK_rt, seqK_bk, seqK_ct, wp_next, wp_brk, wp_cont, wp_drop, wp_ret, wp_ifS, wp_set, wp_par, wp_par3, wp_asg, wp_pat, asP_some, wp_sub, asH_some, wp_aug, wp_for, wp_while, wp_lc, wp_lc2, wp_def, defK_rt, defK_nx, wp_miseq, srcK_ref, srcK_tup, srcK_str, rngK_int, wp_range1, wp_enum, enumK_ref, Tl_some, Ts_some, loopK_nx, loopK_ct, loopK_bk, loopK_rt, ixK_some, atI_k0, atI_k1, atI_k2, atI_k3, atI_k4, atI_k5, atI_k6, atI_k8, atI_k9, L2.atI_last, atI_n, g_ix_t, g_ix_s, g_ix_r, cIx_l, cIx_z, cIx_d, cIx_f, g_sub, g_lt, g_le, g_gt, g_ge, g_addi, g_addI, g_adds, g_addt, g_mul, g_muls, g_fdiv, g_mod, g_neg, g_eqs, g_nes, g_eqi, g_nei, g_min, g_max, g_int_b, g_int_i, g_is_non, g_cuts, g_cutt, g_lens, g_lent, g_lenr, cLen_l, cLen_z, g_tupt, g_tupr, cTup_l, g_listt, isLst_r, lstAt_r, cLst_l, cLst_z, tr_r, cTr_l, tr_b, g_set, cSet_l, cSet_d, jK_some, kK_some, ixN_0, ixN_1, ixN_2, isS, mwipe, mPat, mPats, List.getElem?_cons_zero, List.getElem?_cons_succ, List.set_cons_zero, List.set_cons_succ, List.map_cons, List.map_nil, List.length_cons, List.length_nil, List.replicate_succ, List.replicate_zero, List.cons_append, List.nil_append, Nat.reduceAdd, Nat.reduceSub, Nat.reduceLeDiff, Nat.zero_add, Option.map_some, if_true, Bool.false_eq_true, if_false, true_and, and_true, decide_eq_true_eq, reduceIte, reduceCtorEq, e62, et, e12, keyW_str, Option.bind_some, g3, e42, q1, q32]
    refine Tl.lc_e (xs := pairsOf lk) (fun _ => true) sndW (fun _ x => is_cell (x.get q32)) (by rw [pairs_len]; omega) (by rw [pairs_len]; omega) ?_ ?_
    · intro x hx h3 x3
      obtain ⟨p, hp, rfl⟩ := List.mem_map.mp hx
      refine ⟨_, rfl, ?_⟩
      simp only [wp_c, wp_var, slotK_some, wp_op, wp_un, wp_b, asB_bl, wp_tr, asT_some, wp_yes, wp_and, wp_or, wp_not, wp_caseB, wp_andV, wp_orV, wp_notV, wp_if, wp_nil, wp_cons, wp_tup, wp_lst, wp_cb, wp_call, wp_m0, wp_m1, wp_ml0, wp_ml, wp_isi, wp_isi2, wp_nopart, asI_int, wp_part, wp_sl, wp_seq, seqK_nx, seqK_rt, seqK_bk, seqK_ct, wp_next, wp_brk, wp_cont, wp_drop, wp_ret, wp_ifS, wp_set, wp_par, wp_par3, wp_asg, wp_pat, asP_some, wp_sub, asH_some, wp_aug, wp_for, wp_while, wp_lc, wp_lc2, wp_def, defK_rt, defK_nx, wp_miseq, srcK_ref, srcK_tup, srcK_str, rngK_int, wp_range1, wp_enum, enumK_ref, Tl_some, Ts_some, loopK_nx, loopK_ct, loopK_bk, loopK_rt, ixK_some, atI_k0, atI_k1, atI_k2, atI_k3, atI_k4, atI_k5, atI_k6, atI_k8, atI_k9, L2.atI_last, atI_n, g_ix_t, g_ix_s, g_ix_r, cIx_l, cIx_z, cIx_d, cIx_f, g_sub, g_lt, g_le, g_gt, g_ge, g_addi, g_addI, g_adds, g_addt, g_mul, g_muls, g_fdiv, g_mod, g_neg, g_eqs, g_nes, g_eqi, g_nei, g_min, g_max, g_int_b, g_int_i, g_is_non, g_cuts, g_cutt, g_lens, g_lent, g_lenr, cLen_l, cLen_z, g_tupt, g_tupr, cTup_l, g_listt, isLst_r, lstAt_r, cLst_l, cLst_z, tr_r, cTr_l, tr_b, g_set, cSet_l, cSet_d, jK_some, kK_some, ixN_0, ixN_1, ixN_2, isS, mwipe, mPat, mPats, List.getElem?_cons_zero, List.getElem?_cons_succ, List.set_cons_zero, List.set_cons_succ, List.map_cons, List.map_nil, List.length_cons, List.length_nil, List.replicate_succ, List.replicate_zero, List.cons_append, List.nil_append, Nat.reduceAdd, Nat.reduceSub, Nat.reduceLeDiff, Nat.zero_add, Option.map_some, if_true, Bool.false_eq_true, if_false, true_and, and_true, decide_eq_true_eq, reduceIte, reduceCtorEq]
      exact ⟨Ext.refl _, fun _ => ⟨rfl, Ext.refl _⟩⟩
    · intro h3 x3 a3
      rw [filter_yes] at a3
      have a3' : h3[h2.length]? = some (.lst ((lk.map (·.2)).map .str)) := by rw [a3]; simp [pairsOf, sndW]
      try simp only [wp_c, wp_var, slotK_some, wp_op, wp_un, wp_b, asB_bl, wp_tr, asT_some, wp_yes, wp_and, wp_or, wp_not, wp_caseB, wp_andV, wp_orV, wp_notV, wp_if, wp_nil, wp_cons, wp_tup, wp_lst, wp_cb, wp_call, wp_m0, wp_m1, wp_ml0, wp_ml, wp_isi, wp_isi2, wp_nopart, asI_int, wp_part, wp_sl, wp_seq, seqK_nx, seqK_rt, seqK_bk, seqK_ct, wp_next, wp_brk, wp_cont, wp_drop, wp_ret, wp_ifS, wp_set, wp_par, wp_par3, wp_asg, wp_pat, asP_some, wp_sub, asH_some, wp_aug, wp_for, wp_while, wp_lc, wp_lc2, wp_def, defK_rt, defK_nx, wp_miseq, srcK_ref, srcK_tup, srcK_str, rngK_int, wp_range1, wp_enum, enumK_ref, Tl_some, Ts_some, loopK_nx, loopK_ct, loopK_bk, loopK_rt, ixK_some, atI_k0, atI_k1, atI_k2, atI_k3, atI_k4, atI_k5, atI_k6, atI_k8, atI_k9, L2.atI_last, atI_n, g_ix_t, g_ix_s, g_ix_r, cIx_l, cIx_z, cIx_d, cIx_f, g_sub, g_lt, g_le, g_gt, g_ge, g_addi, g_addI, g_adds, g_addt, g_mul, g_muls, g_fdiv, g_mod, g_neg, g_eqs, g_nes, g_eqi, g_nei, g_min, g_max, g_int_b, g_int_i, g_is_non, g_cuts, g_cutt, g_lens, g_lent, g_lenr, cLen_l, cLen_z, g_tupt, g_tupr, cTup_l, g_listt, isLst_r, lstAt_r, cLst_l, cLst_z, tr_r, cTr_l, tr_b, g_set, cSet_l, cSet_d, jK_some, kK_some, ixN_0, ixN_1, ixN_2, isS, mwipe, mPat, mPats, List.getElem?_cons_zero, List.getElem?_cons_succ, List.set_cons_zero, List.set_cons_succ, List.map_cons, List.map_nil, List.length_cons, List.length_nil, List.replicate_succ, List.replicate_zero, List.cons_append, List.nil_append, Nat.reduceAdd, Nat.reduceSub, Nat.reduceLeDiff, Nat.zero_add, Option.map_some, if_true, Bool.false_eq_true, if_false, true_and, and_true, decide_eq_true_eq, reduceIte, reduceCtorEq]
      refine Tl.newL (by simp) fun h4 x4 l4 a4 => ?_
      have X := x3.trans x4
      have B4 := B12.ext X
      have e14 := X.get e12
      have e44 := X.get e42
      simp only [wp_c, wp_var, slotK_some, wp_op, wp_un, wp_b, asB_bl, wp_tr, asT_some, wp_yes, wp_and, wp_or, wp_not, wp_caseB, wp_andV, wp_orV, wp_notV, wp_if, wp_nil, wp_cons, wp_tup, wp_lst, wp_cb, wp_call, wp_m0, wp_m1, wp_ml0, wp_ml, wp_isi, wp_isi2, wp_nopart, asI_int, wp_part, wp_sl, wp_seq, seqK_nx, seqK_rt, seqK_bk, seqK_ct, wp_next, wp_brk, wp_cont, wp_drop, wp_ret, wp_ifS, wp_set, wp_par, wp_par3, wp_asg, wp_pat, asP_some, wp_sub, asH_some, wp_aug, wp_for, wp_while, wp_lc, wp_lc2, wp_def, defK_rt, defK_nx, wp_miseq, srcK_ref, srcK_tup, srcK_str, rngK_int, wp_range1, wp_enum, enumK_ref, Tl_some, Ts_some, loopK_nx, loopK_ct, loopK_bk, loopK_rt, ixK_some, atI_k0, atI_k1, atI_k2, atI_k3, atI_k4, atI_k5, atI_k6, atI_k8, atI_k9, L2.atI_last, atI_n, g_ix_t, g_ix_s, g_ix_r, cIx_l, cIx_z, cIx_d, cIx_f, g_sub, g_lt, g_le, g_gt, g_ge, g_addi, g_addI, g_adds, g_addt, g_mul, g_muls, g_fdiv, g_mod, g_neg, g_eqs, g_nes, g_eqi, g_nei, g_min, g_max, g_int_b, g_int_i, g_is_non, g_cuts, g_cutt, g_lens, g_lent, g_lenr, cLen_l, cLen_z, g_tupt, g_tupr, cTup_l, g_listt, isLst_r, lstAt_r, cLst_l, cLst_z, tr_r, cTr_l, tr_b, g_set, cSet_l, cSet_d, jK_some, kK_some, ixN_0, ixN_1, ixN_2, isS, mwipe, mPat, mPats, List.getElem?_cons_zero, List.getElem?_cons_succ, List.set_cons_zero, List.set_cons_succ, List.map_cons, List.map_nil, List.length_cons, List.length_nil, List.replicate_succ, List.replicate_zero, List.cons_append, List.nil_append, Nat.reduceAdd, Nat.reduceSub, Nat.reduceLeDiff, Nat.zero_add, Option.map_some, if_true, Bool.false_eq_true, if_false, true_and, and_true, decide_eq_true_eq, reduceIte, reduceCtorEq, e14, keyW_str, Option.bind_some, g3, e44, q1]
      refine (take_spec B4.box (by decide) (by decide)).by ?_
      rintro _ h5 ⟨i, rfl, i0, i1, B5⟩
      have lx3 := x3.len
      have lx4 := x4.len
      have l12 := B12.len
      have a35 := B5.get (x4.get a3') (by omega)
      obtain ⟨kk, ek, hk⟩ := str_map_at (xs := lk.map (·.2)) i0 (by rw [List.length_map, q4]; exact i1)
      simp only [wp_c, wp_var, slotK_some, wp_op, wp_un, wp_b, asB_bl, wp_tr, asT_some, wp_yes, wp_and, wp_or, wp_not, wp_caseB, wp_andV, wp_orV, wp_notV, wp_if, wp_nil, wp_cons, wp_tup, wp_lst, wp_cb, wp_call, wp_m0, wp_m1, wp_ml0, wp_ml, wp_isi, wp_isi2, wp_nopart, asI_int, wp_part, wp_sl, wp_seq, seqK_nx, seqK_rt, seqK_bk, seqK_ct, wp_next, wp_brk, wp_cont, wp_drop, wp_ret, wp_ifS, wp_set, wp_par, wp_par3, wp_asg, wp_pat, asP_some, wp_sub, asH_some, wp_aug, wp_for, wp_while, wp_lc, wp_lc2, wp_def, defK_rt, defK_nx, wp_miseq, srcK_ref, srcK_tup, srcK_str, rngK_int, wp_range1, wp_enum, enumK_ref, Tl_some, Ts_some, loopK_nx, loopK_ct, loopK_bk, loopK_rt, ixK_some, atI_k0, atI_k1, atI_k2, atI_k3, atI_k4, atI_k5, atI_k6, atI_k8, atI_k9, L2.atI_last, atI_n, g_ix_t, g_ix_s, g_ix_r, cIx_l, cIx_z, cIx_d, cIx_f, g_sub, g_lt, g_le, g_gt, g_ge, g_addi, g_addI, g_adds, g_addt, g_mul, g_muls, g_fdiv, g_mod, g_neg, g_eqs, g_nes, g_eqi, g_nei, g_min, g_max, g_int_b, g_int_i, g_is_non, g_cuts, g_cutt, g_lens, g_lent, g_lenr, cLen_l, cLen_z, g_tupt, g_tupr, cTup_l, g_listt, isLst_r, lstAt_r, cLst_l, cLst_z, tr_r, cTr_l, tr_b, g_set, cSet_l, cSet_d, jK_some, kK_some, ixN_0, ixN_1, ixN_2, isS, mwipe, mPat, mPats, List.getElem?_cons_zero, List.getElem?_cons_succ, List.set_cons_zero, List.set_cons_succ, List.map_cons, List.map_nil, List.length_cons, List.length_nil, List.replicate_succ, List.replicate_zero, List.cons_append, List.nil_append, Nat.reduceAdd, Nat.reduceSub, Nat.reduceLeDiff, Nat.zero_add, Option.map_some, if_true, Bool.false_eq_true, if_false, true_and, and_true, decide_eq_true_eq, reduceIte, reduceCtorEq, a35, ek]
      refine (take_spec B5.box (by decide) (by decide)).by ?_
      rintro _ h6 ⟨r2, rfl, s0, s1, B6⟩
      try simp only [wp_c, wp_var, slotK_some, wp_op, wp_un, wp_b, asB_bl, wp_tr, asT_some, wp_yes, wp_and, wp_or, wp_not, wp_caseB, wp_andV, wp_orV, wp_notV, wp_if, wp_nil, wp_cons, wp_tup, wp_lst, wp_cb, wp_call, wp_m0, wp_m1, wp_ml0, wp_ml, wp_isi, wp_isi2, wp_nopart, asI_int, wp_part, wp_sl, wp_seq, seqK_nx, seqK_rt, seqK_bk, seqK_ct, wp_next, wp_brk, wp_cont, wp_drop, wp_ret, wp_ifS, wp_set, wp_par, wp_par3, wp_asg, wp_pat, asP_some, wp_sub, asH_some, wp_aug, wp_for, wp_while, wp_lc, wp_lc2, wp_def, defK_rt, defK_nx, wp_miseq, srcK_ref, srcK_tup, srcK_str, rngK_int, wp_range1, wp_enum, enumK_ref, Tl_some, Ts_some, loopK_nx, loopK_ct, loopK_bk, loopK_rt, ixK_some, atI_k0, atI_k1, atI_k2, atI_k3, atI_k4, atI_k5, atI_k6, atI_k8, atI_k9, L2.atI_last, atI_n, g_ix_t, g_ix_s, g_ix_r, cIx_l, cIx_z, cIx_d, cIx_f, g_sub, g_lt, g_le, g_gt, g_ge, g_addi, g_addI, g_adds, g_addt, g_mul, g_muls, g_fdiv, g_mod, g_neg, g_eqs, g_nes, g_eqi, g_nei, g_min, g_max, g_int_b, g_int_i, g_is_non, g_cuts, g_cutt, g_lens, g_lent, g_lenr, cLen_l, cLen_z, g_tupt, g_tupr, cTup_l, g_listt, isLst_r, lstAt_r, cLst_l, cLst_z, tr_r, cTr_l, tr_b, g_set, cSet_l, cSet_d, jK_some, kK_some, ixN_0, ixN_1, ixN_2, isS, mwipe, mPat, mPats, List.getElem?_cons_zero, List.getElem?_cons_succ, List.set_cons_zero, List.set_cons_succ, List.map_cons, List.map_nil, List.length_cons, List.length_nil, List.replicate_succ, List.replicate_zero, List.cons_append, List.nil_append, Nat.reduceAdd, Nat.reduceSub, Nat.reduceLeDiff, Nat.zero_add, Option.map_some, if_true, Bool.false_eq_true, if_false, true_and, and_true, decide_eq_true_eq, reduceIte, reduceCtorEq]
      have BX : Bx b h2 h6 := (X.bx B5).trans B6
      have BX1 : Bx b h1 h6 := B2.trans BX
      have B46 : Bx b h h6 := (B4.trans B5).trans B6
      have hkk : kk ∈ ks := by
        obtain ⟨p, hp, rfl⟩ := List.mem_map.mp (List.mem_of_getElem? hk)
        exact (q5 p hp).2
      have sc : Scene b h6 wd h3.length false ks := ⟨F, C, N, D, fd, cd, pool, [t], by simp [tok], n1, n2, n3, n4, by omega, BX1.get e1 n1, g1, g2, g4, BX1.get e2 n2, BX1.get e3 n3, BX1.get e5 n4, B6.get (B5.get a4 (by omega)) (by omega), l, p, u, by simp, by simp, fun t' ht => by
        have f : Fr (· = b) h1 h6 := Fr.bx BX1 rfl
        simp only [List.mem_cons, List.not_mem_nil, or_false] at ht
        subst ht
        exact ⟨ks, tt.fr f, fun _ => rfl⟩⟩
      have kn : Known b h6 ik lk := ⟨q2, BX1.get q3 q2, fun p hp => (q5 p hp).1⟩
      refine (term_spec (o := h3.length) (mu := false) (ksA := ks) hn 6 (by omega) 11 (by omega) h6 ik lk (.str kk) (4 + r2) B46.box sc kn (by omega) (.inr ⟨rfl, kk, hkk, rfl⟩) (by show 4 + r2 ≤ 22; omega)).by fun w h7 ⟨a, c⟩ => ⟨a, B46.trans c⟩
end K03

namespace K03
open PySem PySem.Spec PyProof.Rows L2 Mi
/-- what stands in a term -/
def things : W → List W
  | .tup [.str _, .str _, .tup a] => a
  | .tup [.str _, .str _, .str _, .tup a] => a
  | _ => []
def kids (w : W) : List W := (things w).filter isT
theorem Tm.thing {d : Nat} {w x : W} (t : Tm d w) (hx : x ∈ things w) : isP x = true ∨ K03.isT x = true := by
  cases t with
  | name => simp [things] at hx
  | call hf k => exact .inr (k x hx).isT
  | use ht hh kp k =>
    cases q : isP x with
    | true => exact .inl rfl
    | false => exact .inr (k x hx q).isT
theorem Tm.kid {d : Nat} {w x : W} (t : Tm (d + 1) w) (hx : x ∈ kids w) : Tm d x := by
  obtain ⟨h1, h2⟩ := List.mem_filter.mp hx
  cases t with
  | name => simp [things] at h1
  | call hf k => exact k x h1
  | use ht hh kp k =>
    refine k x h1 ?_
    cases x <;> first | rfl | cases h2
theorem Tm.kid0 {w : W} (t : Tm 0 w) : kids w = [] := by
  cases t; rfl
theorem Tm.len {d : Nat} {w : W} (t : Tm d w) : (things w).length ≤ 7 ∧ (kids w).length ≤ 3 := by
  cases t with
  | name => exact ⟨Nat.zero_le _, Nat.zero_le _⟩
  | @call _ f a hf k l => exact ⟨by show a.length ≤ 7; omega, Nat.le_trans (List.length_filter_le _ _) l⟩
  | use ht hh kp k l l3 => exact ⟨l, l3⟩
theorem okT_tup {xs : List W} : okT (.tup xs) = okTs xs := by simp [okT]
theorem tms (d : Nat) : ∀ w, Tm d w → okT w = true ∧ dpW w ≤ 2 * d + 1 := by
  have kc : PyData.strOk "call" = true := by decide +kernel
  have kn : PyData.strOk "name" = true := by decide +kernel
  have ku : PyData.strOk "use" = true := by decide +kernel
  induction d with
  | zero =>
    intro w t
    cases t with
    | name hx => simp [okT, okTs, dpW, dpWs, kn, hx]
  | succ d ih =>
    intro w t
    cases t with
    | name hx => refine ⟨by simp [okT, okTs, kn, hx], by simp [dpW, dpWs]⟩
    | @call _ f a hf k l =>
      have a1 : okTs a = true := okTs_all.mpr fun x hx => (ih x (k x hx)).1
      have a2 : dpWs a ≤ 2 * d + 1 := dpWs_le.mpr fun x hx => (ih x (k x hx)).2
      refine ⟨by simp [okT, okTs, kc, hf, a1], ?_⟩
      simp [dpW, dpWs]; omega
    | @use _ t h a ht hh kp k l l3 =>
      have a0 : ∀ x ∈ a, okT x = true ∧ dpW x ≤ 2 * d + 1 := fun x hx => by
        cases q : isP x with
        | true => refine ⟨kp x hx q, ?_⟩; cases x <;> first | (cases q; done) | exact Nat.zero_le _ | (simp [dpW])
        | false => exact ih x (k x hx q)
      have a1 : okTs a = true := okTs_all.mpr fun x hx => (a0 x hx).1
      have a2 : dpWs a ≤ 2 * d + 1 := dpWs_le.mpr fun x hx => (a0 x hx).2
      refine ⟨by simp [okT, okTs, ku, ht, hh, a1], ?_⟩
      simp [dpW, dpWs]; omega
theorem ne1 : (Str.ofString "call" = Str.ofString "name") = False := by decide
theorem ne2 : (Str.ofString "use" = Str.ofString "name") = False := by decide
theorem ne3 : (Str.ofString "use" = Str.ofString "call") = False := by decide
theorem ne4 : (Str.ofString "name" = Str.ofString "call") = False := by decide
theorem ne5 : (Str.ofString "name" = Str.ofString "use") = False := by decide
theorem things_in_spec {n d : Nat} {w : W} {h : MH} (t : Tm d w) : Tl (f_things_in n [w] h) fun v h' => v = .tup (things w) ∧ h = h' := by
  unfold f_things_in B_things_in
  cases t with
  | name hx => simp only [wp_c, wp_var, slotK_some, wp_op, wp_un, wp_b, asB_bl, wp_tr, asT_some, wp_yes, wp_and, wp_or, wp_not, wp_caseB, wp_andV, wp_orV, wp_notV, wp_if, wp_nil, wp_cons, wp_tup, wp_lst, wp_cb, wp_call, wp_m0, wp_m1, wp_ml0, wp_ml, wp_isi, wp_isi2, wp_nopart, asI_int, wp_part, wp_sl, wp_seq, seqK_nx, seqK_rt, seqK_bk, seqK_ct, wp_next, wp_brk, wp_cont, wp_drop, wp_ret, wp_ifS, wp_set, wp_par, wp_par3, wp_asg, wp_pat, asP_some, wp_sub, asH_some, wp_aug, wp_for, wp_while, wp_lc, wp_lc2, wp_def, defK_rt, defK_nx, wp_miseq, srcK_ref, srcK_tup, srcK_str, rngK_int, wp_range1, wp_enum, enumK_ref, Tl_some, Ts_some, loopK_nx, loopK_ct, loopK_bk, loopK_rt, ixK_some, atI_k0, atI_k1, atI_k2, atI_k3, atI_k4, atI_k5, atI_k6, atI_k8, atI_k9, L2.atI_last, atI_n, g_ix_t, g_ix_s, g_ix_r, cIx_l, cIx_z, cIx_d, cIx_f, g_sub, g_lt, g_le, g_gt, g_ge, g_addi, g_addI, g_adds, g_addt, g_mul, g_muls, g_fdiv, g_mod, g_neg, g_eqs, g_nes, g_eqi, g_nei, g_min, g_max, g_int_b, g_int_i, g_is_non, g_cuts, g_cutt, g_lens, g_lent, g_lenr, cLen_l, cLen_z, g_tupt, g_tupr, cTup_l, g_listt, isLst_r, lstAt_r, cLst_l, cLst_z, tr_r, cTr_l, tr_b, g_set, cSet_l, cSet_d, jK_some, kK_some, ixN_0, ixN_1, ixN_2, isS, mwipe, mPat, mPats, List.getElem?_cons_zero, List.getElem?_cons_succ, List.set_cons_zero, List.set_cons_succ, List.map_cons, List.map_nil, List.length_cons, List.length_nil, List.replicate_succ, List.replicate_zero, List.cons_append, List.nil_append, Nat.reduceAdd, Nat.reduceSub, Nat.reduceLeDiff, Nat.zero_add, Option.map_some, if_true, Bool.false_eq_true, if_false, true_and, and_true, decide_eq_true_eq, reduceIte, reduceCtorEq]; first | rfl | exact ⟨by decide, rfl⟩ | trivial
  | call hf k => simp only [wp_c, wp_var, slotK_some, wp_op, wp_un, wp_b, asB_bl, wp_tr, asT_some, wp_yes, wp_and, wp_or, wp_not, wp_caseB, wp_andV, wp_orV, wp_notV, wp_if, wp_nil, wp_cons, wp_tup, wp_lst, wp_cb, wp_call, wp_m0, wp_m1, wp_ml0, wp_ml, wp_isi, wp_isi2, wp_nopart, asI_int, wp_part, wp_sl, wp_seq, seqK_nx, seqK_rt, seqK_bk, seqK_ct, wp_next, wp_brk, wp_cont, wp_drop, wp_ret, wp_ifS, wp_set, wp_par, wp_par3, wp_asg, wp_pat, asP_some, wp_sub, asH_some, wp_aug, wp_for, wp_while, wp_lc, wp_lc2, wp_def, defK_rt, defK_nx, wp_miseq, srcK_ref, srcK_tup, srcK_str, rngK_int, wp_range1, wp_enum, enumK_ref, Tl_some, Ts_some, loopK_nx, loopK_ct, loopK_bk, loopK_rt, ixK_some, atI_k0, atI_k1, atI_k2, atI_k3, atI_k4, atI_k5, atI_k6, atI_k8, atI_k9, L2.atI_last, atI_n, g_ix_t, g_ix_s, g_ix_r, cIx_l, cIx_z, cIx_d, cIx_f, g_sub, g_lt, g_le, g_gt, g_ge, g_addi, g_addI, g_adds, g_addt, g_mul, g_muls, g_fdiv, g_mod, g_neg, g_eqs, g_nes, g_eqi, g_nei, g_min, g_max, g_int_b, g_int_i, g_is_non, g_cuts, g_cutt, g_lens, g_lent, g_lenr, cLen_l, cLen_z, g_tupt, g_tupr, cTup_l, g_listt, isLst_r, lstAt_r, cLst_l, cLst_z, tr_r, cTr_l, tr_b, g_set, cSet_l, cSet_d, jK_some, kK_some, ixN_0, ixN_1, ixN_2, isS, mwipe, mPat, mPats, List.getElem?_cons_zero, List.getElem?_cons_succ, List.set_cons_zero, List.set_cons_succ, List.map_cons, List.map_nil, List.length_cons, List.length_nil, List.replicate_succ, List.replicate_zero, List.cons_append, List.nil_append, Nat.reduceAdd, Nat.reduceSub, Nat.reduceLeDiff, Nat.zero_add, Option.map_some, if_true, Bool.false_eq_true, if_false, true_and, and_true, decide_eq_true_eq, reduceIte, reduceCtorEq, ne1]; rfl
  | use ht hh kp k => simp only [wp_c, wp_var, slotK_some, wp_op, wp_un, wp_b, asB_bl, wp_tr, asT_some, wp_yes, wp_and, wp_or, wp_not, wp_caseB, wp_andV, wp_orV, wp_notV, wp_if, wp_nil, wp_cons, wp_tup, wp_lst, wp_cb, wp_call, wp_m0, wp_m1, wp_ml0, wp_ml, wp_isi, wp_isi2, wp_nopart, asI_int, wp_part, wp_sl, wp_seq, seqK_nx, seqK_rt, seqK_bk, seqK_ct, wp_next, wp_brk, wp_cont, wp_drop, wp_ret, wp_ifS, wp_set, wp_par, wp_par3, wp_asg, wp_pat, asP_some, wp_sub, asH_some, wp_aug, wp_for, wp_while, wp_lc, wp_lc2, wp_def, defK_rt, defK_nx, wp_miseq, srcK_ref, srcK_tup, srcK_str, rngK_int, wp_range1, wp_enum, enumK_ref, Tl_some, Ts_some, loopK_nx, loopK_ct, loopK_bk, loopK_rt, ixK_some, atI_k0, atI_k1, atI_k2, atI_k3, atI_k4, atI_k5, atI_k6, atI_k8, atI_k9, L2.atI_last, atI_n, g_ix_t, g_ix_s, g_ix_r, cIx_l, cIx_z, cIx_d, cIx_f, g_sub, g_lt, g_le, g_gt, g_ge, g_addi, g_addI, g_adds, g_addt, g_mul, g_muls, g_fdiv, g_mod, g_neg, g_eqs, g_nes, g_eqi, g_nei, g_min, g_max, g_int_b, g_int_i, g_is_non, g_cuts, g_cutt, g_lens, g_lent, g_lenr, cLen_l, cLen_z, g_tupt, g_tupr, cTup_l, g_listt, isLst_r, lstAt_r, cLst_l, cLst_z, tr_r, cTr_l, tr_b, g_set, cSet_l, cSet_d, jK_some, kK_some, ixN_0, ixN_1, ixN_2, isS, mwipe, mPat, mPats, List.getElem?_cons_zero, List.getElem?_cons_succ, List.set_cons_zero, List.set_cons_succ, List.map_cons, List.map_nil, List.length_cons, List.length_nil, List.replicate_succ, List.replicate_zero, List.cons_append, List.nil_append, Nat.reduceAdd, Nat.reduceSub, Nat.reduceLeDiff, Nat.zero_add, Option.map_some, if_true, Bool.false_eq_true, if_false, true_and, and_true, decide_eq_true_eq, reduceIte, reduceCtorEq, ne2, ne3]; rfl
theorem kb1 : kitB "int" "tuple" = some false := by decide +kernel
theorem kb2 : kitB "str" "tuple" = some false := by decide +kernel
theorem kb3 : kitB "tuple" "tuple" = some true := by decide +kernel
/-- isinstance of a thing -/
theorem isi_t {x : W} {h : MH} (hx : isP x = true ∨ isT x = true) : ((tyW h x).bind fun u => kitB u "tuple") = some (isT x) := by
  cases x <;> first | (rcases hx with q | q <;> cases q; done) | skip
  · exact kb1
  · exact kb2
  · exact kb3
theorem terms_in_spec {n d : Nat} {w : W} {h : MH} (hn : 1000 ≤ n) (t : Tm d w) : Tl (f_terms_in n [w] h) fun v h' => v = .ref h.length ∧ Ext h h' ∧ h'[h.length]? = some (.lst (kids w)) := by
  unfold f_terms_in B_terms_in
  simp only [wp_c, wp_var, slotK_some, wp_op, wp_un, wp_b, asB_bl, wp_tr, asT_some, wp_yes, wp_and, wp_or, wp_not, wp_caseB, wp_andV, wp_orV, wp_notV, wp_if, wp_nil, wp_cons, wp_tup, wp_lst, wp_cb, wp_call, wp_m0, wp_m1, wp_ml0, wp_ml, wp_isi, wp_isi2, wp_nopart, asI_int, wp_part, wp_sl, wp_seq, seqK_nx, seqK_rt, seqK_bk, seqK_ct, wp_next, wp_brk, wp_cont, wp_drop, wp_ret, wp_ifS, wp_set, wp_par, wp_par3, wp_asg, wp_pat, asP_some, wp_sub, asH_some, wp_aug, wp_for, wp_while, wp_lc, wp_lc2, wp_def, defK_rt, defK_nx, wp_miseq, srcK_ref, srcK_tup, srcK_str, rngK_int, wp_range1, wp_enum, enumK_ref, Tl_some, Ts_some, loopK_nx, loopK_ct, loopK_bk, loopK_rt, ixK_some, atI_k0, atI_k1, atI_k2, atI_k3, atI_k4, atI_k5, atI_k6, atI_k8, atI_k9, L2.atI_last, atI_n, g_ix_t, g_ix_s, g_ix_r, cIx_l, cIx_z, cIx_d, cIx_f, g_sub, g_lt, g_le, g_gt, g_ge, g_addi, g_addI, g_adds, g_addt, g_mul, g_muls, g_fdiv, g_mod, g_neg, g_eqs, g_nes, g_eqi, g_nei, g_min, g_max, g_int_b, g_int_i, g_is_non, g_cuts, g_cutt, g_lens, g_lent, g_lenr, cLen_l, cLen_z, g_tupt, g_tupr, cTup_l, g_listt, isLst_r, lstAt_r, cLst_l, cLst_z, tr_r, cTr_l, tr_b, g_set, cSet_l, cSet_d, jK_some, kK_some, ixN_0, ixN_1, ixN_2, isS, mwipe, mPat, mPats, List.getElem?_cons_zero, List.getElem?_cons_succ, List.set_cons_zero, List.set_cons_succ, List.map_cons, List.map_nil, List.length_cons, List.length_nil, List.replicate_succ, List.replicate_zero, List.cons_append, List.nil_append, Nat.reduceAdd, Nat.reduceSub, Nat.reduceLeDiff, Nat.zero_add, Option.map_some, if_true, Bool.false_eq_true, if_false, true_and, and_true, decide_eq_true_eq, reduceIte, reduceCtorEq]
  refine (things_in_spec t).by ?_
  rintro _ h1 ⟨rfl, rfl⟩
  have l := t.len.1
  try simp only [wp_c, wp_var, slotK_some, wp_op, wp_un, wp_b, asB_bl, wp_tr, asT_some, wp_yes, wp_and, wp_or, wp_not, wp_caseB, wp_andV, wp_orV, wp_notV, wp_if, wp_nil, wp_cons, wp_tup, wp_lst, wp_cb, wp_call, wp_m0, wp_m1, wp_ml0, wp_ml, wp_isi, wp_isi2, wp_nopart, asI_int, wp_part, wp_sl, wp_seq, seqK_nx, seqK_rt, seqK_bk, seqK_ct, wp_next, wp_brk, wp_cont, wp_drop, wp_ret, wp_ifS, wp_set, wp_par, wp_par3, wp_asg, wp_pat, asP_some, wp_sub, asH_some, wp_aug, wp_for, wp_while, wp_lc, wp_lc2, wp_def, defK_rt, defK_nx, wp_miseq, srcK_ref, srcK_tup, srcK_str, rngK_int, wp_range1, wp_enum, enumK_ref, Tl_some, Ts_some, loopK_nx, loopK_ct, loopK_bk, loopK_rt, ixK_some, atI_k0, atI_k1, atI_k2, atI_k3, atI_k4, atI_k5, atI_k6, atI_k8, atI_k9, L2.atI_last, atI_n, g_ix_t, g_ix_s, g_ix_r, cIx_l, cIx_z, cIx_d, cIx_f, g_sub, g_lt, g_le, g_gt, g_ge, g_addi, g_addI, g_adds, g_addt, g_mul, g_muls, g_fdiv, g_mod, g_neg, g_eqs, g_nes, g_eqi, g_nei, g_min, g_max, g_int_b, g_int_i, g_is_non, g_cuts, g_cutt, g_lens, g_lent, g_lenr, cLen_l, cLen_z, g_tupt, g_tupr, cTup_l, g_listt, isLst_r, lstAt_r, cLst_l, cLst_z, tr_r, cTr_l, tr_b, g_set, cSet_l, cSet_d, jK_some, kK_some, ixN_0, ixN_1, ixN_2, isS, mwipe, mPat, mPats, List.getElem?_cons_zero, List.getElem?_cons_succ, List.set_cons_zero, List.set_cons_succ, List.map_cons, List.map_nil, List.length_cons, List.length_nil, List.replicate_succ, List.replicate_zero, List.cons_append, List.nil_append, Nat.reduceAdd, Nat.reduceSub, Nat.reduceLeDiff, Nat.zero_add, Option.map_some, if_true, Bool.false_eq_true, if_false, true_and, and_true, decide_eq_true_eq, reduceIte, reduceCtorEq]
  refine Tl.lc_e (xs := things w) isT id (fun _ _ => is_items) (by omega) (by omega) ?_ ?_
  · intro x hx h1 x1
    refine ⟨_, rfl, ?_⟩
    simp only [wp_c, wp_var, slotK_some, wp_op, wp_un, wp_b, asB_bl, wp_tr, asT_some, wp_yes, wp_and, wp_or, wp_not, wp_caseB, wp_andV, wp_orV, wp_notV, wp_if, wp_nil, wp_cons, wp_tup, wp_lst, wp_cb, wp_call, wp_m0, wp_m1, wp_ml0, wp_ml, wp_isi, wp_isi2, wp_nopart, asI_int, wp_part, wp_sl, wp_seq, seqK_nx, seqK_rt, seqK_bk, seqK_ct, wp_next, wp_brk, wp_cont, wp_drop, wp_ret, wp_ifS, wp_set, wp_par, wp_par3, wp_asg, wp_pat, asP_some, wp_sub, asH_some, wp_aug, wp_for, wp_while, wp_lc, wp_lc2, wp_def, defK_rt, defK_nx, wp_miseq, srcK_ref, srcK_tup, srcK_str, rngK_int, wp_range1, wp_enum, enumK_ref, Tl_some, Ts_some, loopK_nx, loopK_ct, loopK_bk, loopK_rt, ixK_some, atI_k0, atI_k1, atI_k2, atI_k3, atI_k4, atI_k5, atI_k6, atI_k8, atI_k9, L2.atI_last, atI_n, g_ix_t, g_ix_s, g_ix_r, cIx_l, cIx_z, cIx_d, cIx_f, g_sub, g_lt, g_le, g_gt, g_ge, g_addi, g_addI, g_adds, g_addt, g_mul, g_muls, g_fdiv, g_mod, g_neg, g_eqs, g_nes, g_eqi, g_nei, g_min, g_max, g_int_b, g_int_i, g_is_non, g_cuts, g_cutt, g_lens, g_lent, g_lenr, cLen_l, cLen_z, g_tupt, g_tupr, cTup_l, g_listt, isLst_r, lstAt_r, cLst_l, cLst_z, tr_r, cTr_l, tr_b, g_set, cSet_l, cSet_d, jK_some, kK_some, ixN_0, ixN_1, ixN_2, isS, mwipe, mPat, mPats, List.getElem?_cons_zero, List.getElem?_cons_succ, List.set_cons_zero, List.set_cons_succ, List.map_cons, List.map_nil, List.length_cons, List.length_nil, List.replicate_succ, List.replicate_zero, List.cons_append, List.nil_append, Nat.reduceAdd, Nat.reduceSub, Nat.reduceLeDiff, Nat.zero_add, Option.map_some, if_true, Bool.false_eq_true, if_false, true_and, and_true, decide_eq_true_eq, reduceIte, reduceCtorEq, isi_t (t.thing hx)]
    exact ⟨Ext.refl _, fun _ => ⟨rfl, Ext.refl _⟩⟩
  · intro h1 x1 e1
    rw [List.map_id] at e1
    try simp only [wp_c, wp_var, slotK_some, wp_op, wp_un, wp_b, asB_bl, wp_tr, asT_some, wp_yes, wp_and, wp_or, wp_not, wp_caseB, wp_andV, wp_orV, wp_notV, wp_if, wp_nil, wp_cons, wp_tup, wp_lst, wp_cb, wp_call, wp_m0, wp_m1, wp_ml0, wp_ml, wp_isi, wp_isi2, wp_nopart, asI_int, wp_part, wp_sl, wp_seq, seqK_nx, seqK_rt, seqK_bk, seqK_ct, wp_next, wp_brk, wp_cont, wp_drop, wp_ret, wp_ifS, wp_set, wp_par, wp_par3, wp_asg, wp_pat, asP_some, wp_sub, asH_some, wp_aug, wp_for, wp_while, wp_lc, wp_lc2, wp_def, defK_rt, defK_nx, wp_miseq, srcK_ref, srcK_tup, srcK_str, rngK_int, wp_range1, wp_enum, enumK_ref, Tl_some, Ts_some, loopK_nx, loopK_ct, loopK_bk, loopK_rt, ixK_some, atI_k0, atI_k1, atI_k2, atI_k3, atI_k4, atI_k5, atI_k6, atI_k8, atI_k9, L2.atI_last, atI_n, g_ix_t, g_ix_s, g_ix_r, cIx_l, cIx_z, cIx_d, cIx_f, g_sub, g_lt, g_le, g_gt, g_ge, g_addi, g_addI, g_adds, g_addt, g_mul, g_muls, g_fdiv, g_mod, g_neg, g_eqs, g_nes, g_eqi, g_nei, g_min, g_max, g_int_b, g_int_i, g_is_non, g_cuts, g_cutt, g_lens, g_lent, g_lenr, cLen_l, cLen_z, g_tupt, g_tupr, cTup_l, g_listt, isLst_r, lstAt_r, cLst_l, cLst_z, tr_r, cTr_l, tr_b, g_set, cSet_l, cSet_d, jK_some, kK_some, ixN_0, ixN_1, ixN_2, isS, mwipe, mPat, mPats, List.getElem?_cons_zero, List.getElem?_cons_succ, List.set_cons_zero, List.set_cons_succ, List.map_cons, List.map_nil, List.length_cons, List.length_nil, List.replicate_succ, List.replicate_zero, List.cons_append, List.nil_append, Nat.reduceAdd, Nat.reduceSub, Nat.reduceLeDiff, Nat.zero_add, Option.map_some, if_true, Bool.false_eq_true, if_false, true_and, and_true, decide_eq_true_eq, reduceIte, reduceCtorEq]
    exact ⟨x1, e1⟩
def pre : Nat → W → List W
  | 0, w => [w]
  | n + 1, w => w :: (kids w).flatMap (pre n)
theorem pre_stab : ∀ (d a : Nat) (w : W), Tm d w → d ≤ a → pre a w = pre d w
  | 0, 0, w, t, _ => rfl
  | 0, a + 1, w, t, _ => by simp [pre, t.kid0]
  | d + 1, 0, w, t, h => absurd h (by omega)
  | d + 1, a + 1, w, t, h => by
    show w :: (kids w).flatMap (pre a) = w :: (kids w).flatMap (pre d)
    have : (kids w).map (pre a) = (kids w).map (pre d) := List.map_congr_left fun x hx => pre_stab d a x (t.kid hx) (by omega)
    rw [List.flatMap_def, List.flatMap_def, this]
def Pre (w : W) : List W := pre 7 w
def T7 (w : W) : Prop := ∃ d, d ≤ 7 ∧ Tm d w
theorem T7.kid {w x : W} (t : T7 w) (hx : x ∈ kids w) : T7 x := by
  obtain ⟨d, hd, t⟩ := t
  cases d with
  | zero => rw [t.kid0] at hx; simp at hx
  | succ d => exact ⟨d, by omega, t.kid hx⟩
theorem Pre_eq {w : W} (t : T7 w) : Pre w = w :: (kids w).flatMap Pre := by
  obtain ⟨d, hd, t⟩ := t
  cases d with
  | zero => rw [t.kid0]; show w :: (kids w).flatMap (pre 6) = _; rw [t.kid0]; rfl
  | succ d =>
    show w :: (kids w).flatMap (pre 6) = w :: (kids w).flatMap (pre 7)
    have : (kids w).map (pre 6) = (kids w).map (pre 7) := List.map_congr_left fun x hx => by
      rw [pre_stab d 6 x (t.kid hx) (by omega), pre_stab d 7 x (t.kid hx) (by omega)]
    rw [List.flatMap_def, List.flatMap_def, this]
theorem flat_len {f : W → List W} {k : Nat} : ∀ {l : List W}, (∀ x ∈ l, (f x).length ≤ k) → (l.flatMap f).length ≤ l.length * k
  | [], _ => by simp
  | x :: l, h => by
    rw [List.flatMap_cons, List.length_append, List.length_cons, Nat.succ_mul]
    have a := h x (by simp)
    have b := flat_len (l := l) fun y hy => h y (by simp [hy])
    omega
theorem pre_len : ∀ (d : Nat) (w : W), Tm d w → (pre d w).length ≤ 4 ^ d
  | 0, w, t => by simp [pre]
  | d + 1, w, t => by
    show (w :: (kids w).flatMap (pre d)).length ≤ _
    have a := flat_len (f := pre d) (k := 4 ^ d) (l := kids w) fun x hx => pre_len d x (t.kid hx)
    have b := t.len.2
    have c : (kids w).length * 4 ^ d ≤ 3 * 4 ^ d := Nat.mul_le_mul_right _ b
    have e : 0 < 4 ^ d := Nat.pow_pos (by decide)
    rw [List.length_cons, Nat.pow_succ]; omega
theorem Pre_len {w : W} (t : T7 w) : (Pre w).length ≤ 16384 := by
  obtain ⟨d, hd, t⟩ := t
  have : Pre w = pre d w := pre_stab d 7 w t hd
  rw [this]
  exact Nat.le_trans (pre_len d w t) (Nat.le_trans (Nat.pow_le_pow_right (by decide) hd) (by decide))
theorem pre_tm : ∀ (d : Nat) (w : W), Tm d w → ∀ x ∈ pre d w, ∃ e, e ≤ d ∧ Tm e x
  | 0, w, t, x, hx => by
    have : x = w := by simpa [pre] using hx
    exact ⟨0, Nat.le_refl _, this ▸ t⟩
  | d + 1, w, t, x, hx => by
    rcases List.mem_cons.mp hx with rfl | hx
    · exact ⟨d + 1, Nat.le_refl _, t⟩
    · obtain ⟨k, hk, hx⟩ := List.mem_flatMap.mp hx
      obtain ⟨e, he, te⟩ := pre_tm d k (t.kid hk) x hx
      exact ⟨e, by omega, te⟩
theorem Pre_tm {w : W} (t : T7 w) : ∀ x ∈ Pre w, T7 x := fun x hx => by
  obtain ⟨d, hd, t⟩ := t
  rw [show Pre w = pre d w from pre_stab d 7 w t hd] at hx
  obtain ⟨e, he, te⟩ := pre_tm d w t x hx
  exact ⟨e, by omega, te⟩
theorem Tl.rev {h : MH} {Q : W → MH → Prop} {d : Nat} {xs : List W} (e : h[d]? = some (.lst xs)) (hz : xs.length ≤ 16777216) (c : ∀ h', Ext h h' → h'.length = h.length + 1 → h'[h.length]? = some (.lst xs.reverse) → Q (.ref h.length) h') : Tl (gRev (.ref d) h) Q := by
  have : gRev (.ref d) h = Mi.newL xs.reverse h := by simp only [gRev, lstAt_lst e, Option.bind_some]
  rw [this]
  exact Tl.newL (by simpa using hz) c
theorem parts_spec {n : Nat} {w : W} {h : MH} (hn : 1000000 ≤ n) (t : T7 w) : Tl (f_parts n [w] h) fun v h' => v = .ref h.length ∧ Ext h h' ∧ h'[h.length]? = some (.lst (Pre w)) := by
  unfold f_parts B_parts
  simp only [wp_c, wp_var, slotK_some, wp_op, wp_un, wp_b, asB_bl, wp_tr, asT_some, wp_yes, wp_and, wp_or, wp_not, wp_caseB, wp_andV, wp_orV, wp_notV, wp_if, wp_nil, wp_cons, wp_tup, wp_lst, wp_cb, wp_call, wp_m0, wp_m1, wp_ml0, wp_ml, wp_isi, wp_isi2, wp_nopart, asI_int, wp_part, wp_sl, wp_seq, seqK_nx, seqK_rt, seqK_bk, seqK_ct, wp_next, wp_brk, wp_cont, wp_drop, wp_ret, wp_ifS, wp_set, wp_par, wp_par3, wp_asg, wp_pat, asP_some, wp_sub, asH_some, wp_aug, wp_for, wp_while, wp_lc, wp_lc2, wp_def, defK_rt, defK_nx, wp_miseq, srcK_ref, srcK_tup, srcK_str, rngK_int, wp_range1, wp_enum, enumK_ref, Tl_some, Ts_some, loopK_nx, loopK_ct, loopK_bk, loopK_rt, ixK_some, atI_k0, atI_k1, atI_k2, atI_k3, atI_k4, atI_k5, atI_k6, atI_k8, atI_k9, L2.atI_last, atI_n, g_ix_t, g_ix_s, g_ix_r, cIx_l, cIx_z, cIx_d, cIx_f, g_sub, g_lt, g_le, g_gt, g_ge, g_addi, g_addI, g_adds, g_addt, g_mul, g_muls, g_fdiv, g_mod, g_neg, g_eqs, g_nes, g_eqi, g_nei, g_min, g_max, g_int_b, g_int_i, g_is_non, g_cuts, g_cutt, g_lens, g_lent, g_lenr, cLen_l, cLen_z, g_tupt, g_tupr, cTup_l, g_listt, isLst_r, lstAt_r, cLst_l, cLst_z, tr_r, cTr_l, tr_b, g_set, cSet_l, cSet_d, jK_some, kK_some, ixN_0, ixN_1, ixN_2, isS, mwipe, mPat, mPats, List.getElem?_cons_zero, List.getElem?_cons_succ, List.set_cons_zero, List.set_cons_succ, List.map_cons, List.map_nil, List.length_cons, List.length_nil, List.replicate_succ, List.replicate_zero, List.cons_append, List.nil_append, Nat.reduceAdd, Nat.reduceSub, Nat.reduceLeDiff, Nat.zero_add, Option.map_some, if_true, Bool.false_eq_true, if_false, true_and, and_true, decide_eq_true_eq, reduceIte, reduceCtorEq]
  refine Tl.newL (by decide) fun h1 x1 l1 e1 => ?_
  refine Tl.newL (by simp) fun h2 x2 l2 e2 => ?_
  try simp only [wp_c, wp_var, slotK_some, wp_op, wp_un, wp_b, asB_bl, wp_tr, asT_some, wp_yes, wp_and, wp_or, wp_not, wp_caseB, wp_andV, wp_orV, wp_notV, wp_if, wp_nil, wp_cons, wp_tup, wp_lst, wp_cb, wp_call, wp_m0, wp_m1, wp_ml0, wp_ml, wp_isi, wp_isi2, wp_nopart, asI_int, wp_part, wp_sl, wp_seq, seqK_nx, seqK_rt, seqK_bk, seqK_ct, wp_next, wp_brk, wp_cont, wp_drop, wp_ret, wp_ifS, wp_set, wp_par, wp_par3, wp_asg, wp_pat, asP_some, wp_sub, asH_some, wp_aug, wp_for, wp_while, wp_lc, wp_lc2, wp_def, defK_rt, defK_nx, wp_miseq, srcK_ref, srcK_tup, srcK_str, rngK_int, wp_range1, wp_enum, enumK_ref, Tl_some, Ts_some, loopK_nx, loopK_ct, loopK_bk, loopK_rt, ixK_some, atI_k0, atI_k1, atI_k2, atI_k3, atI_k4, atI_k5, atI_k6, atI_k8, atI_k9, L2.atI_last, atI_n, g_ix_t, g_ix_s, g_ix_r, cIx_l, cIx_z, cIx_d, cIx_f, g_sub, g_lt, g_le, g_gt, g_ge, g_addi, g_addI, g_adds, g_addt, g_mul, g_muls, g_fdiv, g_mod, g_neg, g_eqs, g_nes, g_eqi, g_nei, g_min, g_max, g_int_b, g_int_i, g_is_non, g_cuts, g_cutt, g_lens, g_lent, g_lenr, cLen_l, cLen_z, g_tupt, g_tupr, cTup_l, g_listt, isLst_r, lstAt_r, cLst_l, cLst_z, tr_r, cTr_l, tr_b, g_set, cSet_l, cSet_d, jK_some, kK_some, ixN_0, ixN_1, ixN_2, isS, mwipe, mPat, mPats, List.getElem?_cons_zero, List.getElem?_cons_succ, List.set_cons_zero, List.set_cons_succ, List.map_cons, List.map_nil, List.length_cons, List.length_nil, List.replicate_succ, List.replicate_zero, List.cons_append, List.nil_append, Nat.reduceAdd, Nat.reduceSub, Nat.reduceLeDiff, Nat.zero_add, Option.map_some, if_true, Bool.false_eq_true, if_false, true_and, and_true, decide_eq_true_eq, reduceIte, reduceCtorEq]
  have lt := Pre_len t
  refine Ts.while_ ((Pre w).length) (fun m s g => ∃ found todo x3, s = [some w, some (.ref h.length), some (.ref h1.length), x3] ∧ g[h.length]? = some (.lst found) ∧ g[h1.length]? = some (.lst todo) ∧ Ext h g ∧ (∀ x ∈ todo, T7 x) ∧ found ++ todo.reverse.flatMap Pre = Pre w ∧ m = (todo.reverse.flatMap Pre).length)
    ⟨[], [w], _, rfl, x2.get e1, e2, x1.trans x2, by simpa using t, by simp, by simp⟩ (by omega) ?_
  rintro m s g ⟨found, todo, x3, rfl, eF, eT, X, ht, hp, rfl⟩
  simp only [wp_c, wp_var, slotK_some, wp_op, wp_un, wp_b, asB_bl, wp_tr, asT_some, wp_yes, wp_and, wp_or, wp_not, wp_caseB, wp_andV, wp_orV, wp_notV, wp_if, wp_nil, wp_cons, wp_tup, wp_lst, wp_cb, wp_call, wp_m0, wp_m1, wp_ml0, wp_ml, wp_isi, wp_isi2, wp_nopart, asI_int, wp_part, wp_sl, wp_seq, seqK_nx, seqK_rt, seqK_bk, seqK_ct, wp_next, wp_brk, wp_cont, wp_drop, wp_ret, wp_ifS, wp_set, wp_par, wp_par3, wp_asg, wp_pat, asP_some, wp_sub, asH_some, wp_aug, wp_for, wp_while, wp_lc, wp_lc2, wp_def, defK_rt, defK_nx, wp_miseq, srcK_ref, srcK_tup, srcK_str, rngK_int, wp_range1, wp_enum, enumK_ref, Tl_some, Ts_some, loopK_nx, loopK_ct, loopK_bk, loopK_rt, ixK_some, atI_k0, atI_k1, atI_k2, atI_k3, atI_k4, atI_k5, atI_k6, atI_k8, atI_k9, L2.atI_last, atI_n, g_ix_t, g_ix_s, g_ix_r, cIx_l, cIx_z, cIx_d, cIx_f, g_sub, g_lt, g_le, g_gt, g_ge, g_addi, g_addI, g_adds, g_addt, g_mul, g_muls, g_fdiv, g_mod, g_neg, g_eqs, g_nes, g_eqi, g_nei, g_min, g_max, g_int_b, g_int_i, g_is_non, g_cuts, g_cutt, g_lens, g_lent, g_lenr, cLen_l, cLen_z, g_tupt, g_tupr, cTup_l, g_listt, isLst_r, lstAt_r, cLst_l, cLst_z, tr_r, cTr_l, tr_b, g_set, cSet_l, cSet_d, jK_some, kK_some, ixN_0, ixN_1, ixN_2, isS, mwipe, mPat, mPats, List.getElem?_cons_zero, List.getElem?_cons_succ, List.set_cons_zero, List.set_cons_succ, List.map_cons, List.map_nil, List.length_cons, List.length_nil, List.replicate_succ, List.replicate_zero, List.cons_append, List.nil_append, Nat.reduceAdd, Nat.reduceSub, Nat.reduceLeDiff, Nat.zero_add, Option.map_some, if_true, Bool.false_eq_true, if_false, true_and, and_true, decide_eq_true_eq, reduceIte, reduceCtorEq, eT]
  rcases List.eq_nil_or_concat todo with rfl | ⟨ys, y, rfl⟩
  · simp only [List.isEmpty_nil, Bool.not_true, wp_c, wp_var, slotK_some, wp_op, wp_un, wp_b, asB_bl, wp_tr, asT_some, wp_yes, wp_and, wp_or, wp_not, wp_caseB, wp_andV, wp_orV, wp_notV, wp_if, wp_nil, wp_cons, wp_tup, wp_lst, wp_cb, wp_call, wp_m0, wp_m1, wp_ml0, wp_ml, wp_isi, wp_isi2, wp_nopart, asI_int, wp_part, wp_sl, wp_seq, seqK_nx, seqK_rt, seqK_bk, seqK_ct, wp_next, wp_brk, wp_cont, wp_drop, wp_ret, wp_ifS, wp_set, wp_par, wp_par3, wp_asg, wp_pat, asP_some, wp_sub, asH_some, wp_aug, wp_for, wp_while, wp_lc, wp_lc2, wp_def, defK_rt, defK_nx, wp_miseq, srcK_ref, srcK_tup, srcK_str, rngK_int, wp_range1, wp_enum, enumK_ref, Tl_some, Ts_some, loopK_nx, loopK_ct, loopK_bk, loopK_rt, ixK_some, atI_k0, atI_k1, atI_k2, atI_k3, atI_k4, atI_k5, atI_k6, atI_k8, atI_k9, L2.atI_last, atI_n, g_ix_t, g_ix_s, g_ix_r, cIx_l, cIx_z, cIx_d, cIx_f, g_sub, g_lt, g_le, g_gt, g_ge, g_addi, g_addI, g_adds, g_addt, g_mul, g_muls, g_fdiv, g_mod, g_neg, g_eqs, g_nes, g_eqi, g_nei, g_min, g_max, g_int_b, g_int_i, g_is_non, g_cuts, g_cutt, g_lens, g_lent, g_lenr, cLen_l, cLen_z, g_tupt, g_tupr, cTup_l, g_listt, isLst_r, lstAt_r, cLst_l, cLst_z, tr_r, cTr_l, tr_b, g_set, cSet_l, cSet_d, jK_some, kK_some, ixN_0, ixN_1, ixN_2, isS, mwipe, mPat, mPats, List.getElem?_cons_zero, List.getElem?_cons_succ, List.set_cons_zero, List.set_cons_succ, List.map_cons, List.map_nil, List.length_cons, List.length_nil, List.replicate_succ, List.replicate_zero, List.cons_append, List.nil_append, Nat.reduceAdd, Nat.reduceSub, Nat.reduceLeDiff, Nat.zero_add, Option.map_some, if_true, Bool.false_eq_true, if_false, true_and, and_true, decide_eq_true_eq, reduceIte, reduceCtorEq]
    refine ⟨X, ?_⟩
    rw [eF, ← hp]; simp
  · rw [List.concat_eq_append] at *
    have ne : ((ys ++ [y]).isEmpty) = false := by cases ys <;> rfl
    simp only [ne, Bool.not_false, wp_c, wp_var, slotK_some, wp_op, wp_un, wp_b, asB_bl, wp_tr, asT_some, wp_yes, wp_and, wp_or, wp_not, wp_caseB, wp_andV, wp_orV, wp_notV, wp_if, wp_nil, wp_cons, wp_tup, wp_lst, wp_cb, wp_call, wp_m0, wp_m1, wp_ml0, wp_ml, wp_isi, wp_isi2, wp_nopart, asI_int, wp_part, wp_sl, wp_seq, seqK_nx, seqK_rt, seqK_bk, seqK_ct, wp_next, wp_brk, wp_cont, wp_drop, wp_ret, wp_ifS, wp_set, wp_par, wp_par3, wp_asg, wp_pat, asP_some, wp_sub, asH_some, wp_aug, wp_for, wp_while, wp_lc, wp_lc2, wp_def, defK_rt, defK_nx, wp_miseq, srcK_ref, srcK_tup, srcK_str, rngK_int, wp_range1, wp_enum, enumK_ref, Tl_some, Ts_some, loopK_nx, loopK_ct, loopK_bk, loopK_rt, ixK_some, atI_k0, atI_k1, atI_k2, atI_k3, atI_k4, atI_k5, atI_k6, atI_k8, atI_k9, L2.atI_last, atI_n, g_ix_t, g_ix_s, g_ix_r, cIx_l, cIx_z, cIx_d, cIx_f, g_sub, g_lt, g_le, g_gt, g_ge, g_addi, g_addI, g_adds, g_addt, g_mul, g_muls, g_fdiv, g_mod, g_neg, g_eqs, g_nes, g_eqi, g_nei, g_min, g_max, g_int_b, g_int_i, g_is_non, g_cuts, g_cutt, g_lens, g_lent, g_lenr, cLen_l, cLen_z, g_tupt, g_tupr, cTup_l, g_listt, isLst_r, lstAt_r, cLst_l, cLst_z, tr_r, cTr_l, tr_b, g_set, cSet_l, cSet_d, jK_some, kK_some, ixN_0, ixN_1, ixN_2, isS, mwipe, mPat, mPats, List.getElem?_cons_zero, List.getElem?_cons_succ, List.set_cons_zero, List.set_cons_succ, List.map_cons, List.map_nil, List.length_cons, List.length_nil, List.replicate_succ, List.replicate_zero, List.cons_append, List.nil_append, Nat.reduceAdd, Nat.reduceSub, Nat.reduceLeDiff, Nat.zero_add, Option.map_some, if_true, Bool.false_eq_true, if_false, true_and, and_true, decide_eq_true_eq, reduceIte, reduceCtorEq]
    have ty : T7 y := ht y (by simp)
    have hp' : found ++ (Pre y ++ ys.reverse.flatMap Pre) = Pre w := by simpa using hp
    have bl := congrArg List.length hp'
    simp only [List.length_append] at bl
    have py : (Pre y).length = 1 + ((kids y).flatMap Pre).length := by rw [Pre_eq ty, List.length_cons]; omega
    have lk : (kids y).length ≤ 3 := by obtain ⟨d, _, t⟩ := ty; exact t.len.2
    have lF := lt_of_get eF
    have lT := lt_of_get eT
    have lys : ys.length ≤ (ys.reverse.flatMap Pre).length := by
      have : ∀ l : List W, (∀ x ∈ l, T7 x) → l.length ≤ (l.flatMap Pre).length := fun l hl => by
        induction l with
        | nil => simp
        | cons z l ih =>
          rw [List.flatMap_cons, List.length_append, List.length_cons, Pre_eq (hl z (by simp)), List.length_cons]
          have := ih fun x hx => hl x (by simp [hx])
          omega
      have a := this ys.reverse fun x hx => ht x (by simp at hx; simp [hx])
      simpa using a
    refine Tl.pop eT fun g1 c1 a1 => ?_
    have eF1 := c1.get eF (by omega)
    simp only [wp_c, wp_var, slotK_some, wp_op, wp_un, wp_b, asB_bl, wp_tr, asT_some, wp_yes, wp_and, wp_or, wp_not, wp_caseB, wp_andV, wp_orV, wp_notV, wp_if, wp_nil, wp_cons, wp_tup, wp_lst, wp_cb, wp_call, wp_m0, wp_m1, wp_ml0, wp_ml, wp_isi, wp_isi2, wp_nopart, asI_int, wp_part, wp_sl, wp_seq, seqK_nx, seqK_rt, seqK_bk, seqK_ct, wp_next, wp_brk, wp_cont, wp_drop, wp_ret, wp_ifS, wp_set, wp_par, wp_par3, wp_asg, wp_pat, asP_some, wp_sub, asH_some, wp_aug, wp_for, wp_while, wp_lc, wp_lc2, wp_def, defK_rt, defK_nx, wp_miseq, srcK_ref, srcK_tup, srcK_str, rngK_int, wp_range1, wp_enum, enumK_ref, Tl_some, Ts_some, loopK_nx, loopK_ct, loopK_bk, loopK_rt, ixK_some, atI_k0, atI_k1, atI_k2, atI_k3, atI_k4, atI_k5, atI_k6, atI_k8, atI_k9, L2.atI_last, atI_n, g_ix_t, g_ix_s, g_ix_r, cIx_l, cIx_z, cIx_d, cIx_f, g_sub, g_lt, g_le, g_gt, g_ge, g_addi, g_addI, g_adds, g_addt, g_mul, g_muls, g_fdiv, g_mod, g_neg, g_eqs, g_nes, g_eqi, g_nei, g_min, g_max, g_int_b, g_int_i, g_is_non, g_cuts, g_cutt, g_lens, g_lent, g_lenr, cLen_l, cLen_z, g_tupt, g_tupr, cTup_l, g_listt, isLst_r, lstAt_r, cLst_l, cLst_z, tr_r, cTr_l, tr_b, g_set, cSet_l, cSet_d, jK_some, kK_some, ixN_0, ixN_1, ixN_2, isS, mwipe, mPat, mPats, List.getElem?_cons_zero, List.getElem?_cons_succ, List.set_cons_zero, List.set_cons_succ, List.map_cons, List.map_nil, List.length_cons, List.length_nil, List.replicate_succ, List.replicate_zero, List.cons_append, List.nil_append, Nat.reduceAdd, Nat.reduceSub, Nat.reduceLeDiff, Nat.zero_add, Option.map_some, if_true, Bool.false_eq_true, if_false, true_and, and_true, decide_eq_true_eq, reduceIte, reduceCtorEq, eF1]
    refine Tl.app eF1 (by omega) fun g2 c2 a2 => ?_
    have aT2 := c2.get a1 (by omega)
    simp only [wp_c, wp_var, slotK_some, wp_op, wp_un, wp_b, asB_bl, wp_tr, asT_some, wp_yes, wp_and, wp_or, wp_not, wp_caseB, wp_andV, wp_orV, wp_notV, wp_if, wp_nil, wp_cons, wp_tup, wp_lst, wp_cb, wp_call, wp_m0, wp_m1, wp_ml0, wp_ml, wp_isi, wp_isi2, wp_nopart, asI_int, wp_part, wp_sl, wp_seq, seqK_nx, seqK_rt, seqK_bk, seqK_ct, wp_next, wp_brk, wp_cont, wp_drop, wp_ret, wp_ifS, wp_set, wp_par, wp_par3, wp_asg, wp_pat, asP_some, wp_sub, asH_some, wp_aug, wp_for, wp_while, wp_lc, wp_lc2, wp_def, defK_rt, defK_nx, wp_miseq, srcK_ref, srcK_tup, srcK_str, rngK_int, wp_range1, wp_enum, enumK_ref, Tl_some, Ts_some, loopK_nx, loopK_ct, loopK_bk, loopK_rt, ixK_some, atI_k0, atI_k1, atI_k2, atI_k3, atI_k4, atI_k5, atI_k6, atI_k8, atI_k9, L2.atI_last, atI_n, g_ix_t, g_ix_s, g_ix_r, cIx_l, cIx_z, cIx_d, cIx_f, g_sub, g_lt, g_le, g_gt, g_ge, g_addi, g_addI, g_adds, g_addt, g_mul, g_muls, g_fdiv, g_mod, g_neg, g_eqs, g_nes, g_eqi, g_nei, g_min, g_max, g_int_b, g_int_i, g_is_non, g_cuts, g_cutt, g_lens, g_lent, g_lenr, cLen_l, cLen_z, g_tupt, g_tupr, cTup_l, g_listt, isLst_r, lstAt_r, cLst_l, cLst_z, tr_r, cTr_l, tr_b, g_set, cSet_l, cSet_d, jK_some, kK_some, ixN_0, ixN_1, ixN_2, isS, mwipe, mPat, mPats, List.getElem?_cons_zero, List.getElem?_cons_succ, List.set_cons_zero, List.set_cons_succ, List.map_cons, List.map_nil, List.length_cons, List.length_nil, List.replicate_succ, List.replicate_zero, List.cons_append, List.nil_append, Nat.reduceAdd, Nat.reduceSub, Nat.reduceLeDiff, Nat.zero_add, Option.map_some, if_true, Bool.false_eq_true, if_false, true_and, and_true, decide_eq_true_eq, reduceIte, reduceCtorEq, aT2]
    obtain ⟨d, hd, tm⟩ := ty
    refine (terms_in_spec (by omega) tm).by ?_
    rintro _ g3 ⟨rfl, x3', a3⟩
    refine Tl.rev a3 (by omega) fun g4 x4 l4 a4 => ?_
    try simp only [wp_c, wp_var, slotK_some, wp_op, wp_un, wp_b, asB_bl, wp_tr, asT_some, wp_yes, wp_and, wp_or, wp_not, wp_caseB, wp_andV, wp_orV, wp_notV, wp_if, wp_nil, wp_cons, wp_tup, wp_lst, wp_cb, wp_call, wp_m0, wp_m1, wp_ml0, wp_ml, wp_isi, wp_isi2, wp_nopart, asI_int, wp_part, wp_sl, wp_seq, seqK_nx, seqK_rt, seqK_bk, seqK_ct, wp_next, wp_brk, wp_cont, wp_drop, wp_ret, wp_ifS, wp_set, wp_par, wp_par3, wp_asg, wp_pat, asP_some, wp_sub, asH_some, wp_aug, wp_for, wp_while, wp_lc, wp_lc2, wp_def, defK_rt, defK_nx, wp_miseq, srcK_ref, srcK_tup, srcK_str, rngK_int, wp_range1, wp_enum, enumK_ref, Tl_some, Ts_some, loopK_nx, loopK_ct, loopK_bk, loopK_rt, ixK_some, atI_k0, atI_k1, atI_k2, atI_k3, atI_k4, atI_k5, atI_k6, atI_k8, atI_k9, L2.atI_last, atI_n, g_ix_t, g_ix_s, g_ix_r, cIx_l, cIx_z, cIx_d, cIx_f, g_sub, g_lt, g_le, g_gt, g_ge, g_addi, g_addI, g_adds, g_addt, g_mul, g_muls, g_fdiv, g_mod, g_neg, g_eqs, g_nes, g_eqi, g_nei, g_min, g_max, g_int_b, g_int_i, g_is_non, g_cuts, g_cutt, g_lens, g_lent, g_lenr, cLen_l, cLen_z, g_tupt, g_tupr, cTup_l, g_listt, isLst_r, lstAt_r, cLst_l, cLst_z, tr_r, cTr_l, tr_b, g_set, cSet_l, cSet_d, jK_some, kK_some, ixN_0, ixN_1, ixN_2, isS, mwipe, mPat, mPats, List.getElem?_cons_zero, List.getElem?_cons_succ, List.set_cons_zero, List.set_cons_succ, List.map_cons, List.map_nil, List.length_cons, List.length_nil, List.replicate_succ, List.replicate_zero, List.cons_append, List.nil_append, Nat.reduceAdd, Nat.reduceSub, Nat.reduceLeDiff, Nat.zero_add, Option.map_some, if_true, Bool.false_eq_true, if_false, true_and, and_true, decide_eq_true_eq, reduceIte, reduceCtorEq]
    have X34 := x3'.trans x4
    refine Tl.extend (X34.get aT2) a4 (by rw [List.length_reverse]; omega) fun g5 c5 a5 => ?_
    have X2 : Ext h g2 := (X.chg c1 (by omega)).chg c2 (Nat.le_refl _)
    refine ⟨_, ?_, found ++ [y], ys ++ (kids y).reverse, _, rfl, c5.get (X34.get a2) (by omega), a5, (X2.trans X34).chg c5 (by omega), ?_, ?_, rfl⟩
    · rw [List.reverse_append, List.reverse_reverse, List.flatMap_append, List.length_append]
      simp only [List.reverse_append, List.reverse_cons, List.reverse_nil, List.nil_append, List.cons_append, List.flatMap_cons, List.length_append]
      omega
    · intro x hx
      rcases List.mem_append.mp hx with q | q
      · exact ht x (by simp [q])
      · exact T7.kid ⟨d, hd, tm⟩ (by simpa using q)
    · rw [List.reverse_append, List.reverse_reverse, List.flatMap_append, ← hp', Pre_eq ⟨d, hd, tm⟩]; simp
end K03

namespace K03
open PySem PySem.Spec PyProof.Rows L2 Mi
theorem within_spec {n d : Nat} {w : W} {h : MH} (hn : 1000 ≤ n) (t : Tm d w) : Tl (f__law_within n [w] h) fun v h' => v = .ref h.length ∧ Ext h h' ∧ h'[h.length]? = some (.lst (kids w)) := by
  unfold f__law_within B__law_within
  cases t with
  | name hx =>
    simp only [wp_c, wp_var, slotK_some, wp_op, wp_un, wp_b, asB_bl, wp_tr, asT_some, wp_yes, wp_and, wp_or, wp_not, wp_caseB, wp_andV, wp_orV, wp_notV, wp_if, wp_nil, wp_cons, wp_tup, wp_lst, wp_cb, wp_call, wp_m0, wp_m1, wp_ml0, wp_ml, wp_isi, wp_isi2, wp_nopart, asI_int, wp_part, wp_sl, wp_seq, seqK_nx, seqK_rt, seqK_bk, seqK_ct, wp_next, wp_brk, wp_cont, wp_drop, wp_ret, wp_ifS, wp_set, wp_par, wp_par3, wp_asg, wp_pat, asP_some, wp_sub, asH_some, wp_aug, wp_for, wp_while, wp_lc, wp_lc2, wp_def, defK_rt, defK_nx, wp_miseq, srcK_ref, srcK_tup, srcK_str, rngK_int, wp_range1, wp_enum, enumK_ref, Tl_some, Ts_some, loopK_nx, loopK_ct, loopK_bk, loopK_rt, ixK_some, atI_k0, atI_k1, atI_k2, atI_k3, atI_k4, atI_k5, atI_k6, atI_k8, atI_k9, L2.atI_last, atI_n, g_ix_t, g_ix_s, g_ix_r, cIx_l, cIx_z, cIx_d, cIx_f, g_sub, g_lt, g_le, g_gt, g_ge, g_addi, g_addI, g_adds, g_addt, g_mul, g_muls, g_fdiv, g_mod, g_neg, g_eqs, g_nes, g_eqi, g_nei, g_min, g_max, g_int_b, g_int_i, g_is_non, g_cuts, g_cutt, g_lens, g_lent, g_lenr, cLen_l, cLen_z, g_tupt, g_tupr, cTup_l, g_listt, isLst_r, lstAt_r, cLst_l, cLst_z, tr_r, cTr_l, tr_b, g_set, cSet_l, cSet_d, jK_some, kK_some, ixN_0, ixN_1, ixN_2, isS, mwipe, mPat, mPats, List.getElem?_cons_zero, List.getElem?_cons_succ, List.set_cons_zero, List.set_cons_succ, List.map_cons, List.map_nil, List.length_cons, List.length_nil, List.replicate_succ, List.replicate_zero, List.cons_append, List.nil_append, Nat.reduceAdd, Nat.reduceSub, Nat.reduceLeDiff, Nat.zero_add, Option.map_some, if_true, Bool.false_eq_true, if_false, true_and, and_true, decide_eq_true_eq, reduceIte, reduceCtorEq, ne4, ne5]
    refine Tl.newL (by decide) fun h1 x1 l1 e1 => ?_
    try simp only [wp_c, wp_var, slotK_some, wp_op, wp_un, wp_b, asB_bl, wp_tr, asT_some, wp_yes, wp_and, wp_or, wp_not, wp_caseB, wp_andV, wp_orV, wp_notV, wp_if, wp_nil, wp_cons, wp_tup, wp_lst, wp_cb, wp_call, wp_m0, wp_m1, wp_ml0, wp_ml, wp_isi, wp_isi2, wp_nopart, asI_int, wp_part, wp_sl, wp_seq, seqK_nx, seqK_rt, seqK_bk, seqK_ct, wp_next, wp_brk, wp_cont, wp_drop, wp_ret, wp_ifS, wp_set, wp_par, wp_par3, wp_asg, wp_pat, asP_some, wp_sub, asH_some, wp_aug, wp_for, wp_while, wp_lc, wp_lc2, wp_def, defK_rt, defK_nx, wp_miseq, srcK_ref, srcK_tup, srcK_str, rngK_int, wp_range1, wp_enum, enumK_ref, Tl_some, Ts_some, loopK_nx, loopK_ct, loopK_bk, loopK_rt, ixK_some, atI_k0, atI_k1, atI_k2, atI_k3, atI_k4, atI_k5, atI_k6, atI_k8, atI_k9, L2.atI_last, atI_n, g_ix_t, g_ix_s, g_ix_r, cIx_l, cIx_z, cIx_d, cIx_f, g_sub, g_lt, g_le, g_gt, g_ge, g_addi, g_addI, g_adds, g_addt, g_mul, g_muls, g_fdiv, g_mod, g_neg, g_eqs, g_nes, g_eqi, g_nei, g_min, g_max, g_int_b, g_int_i, g_is_non, g_cuts, g_cutt, g_lens, g_lent, g_lenr, cLen_l, cLen_z, g_tupt, g_tupr, cTup_l, g_listt, isLst_r, lstAt_r, cLst_l, cLst_z, tr_r, cTr_l, tr_b, g_set, cSet_l, cSet_d, jK_some, kK_some, ixN_0, ixN_1, ixN_2, isS, mwipe, mPat, mPats, List.getElem?_cons_zero, List.getElem?_cons_succ, List.set_cons_zero, List.set_cons_succ, List.map_cons, List.map_nil, List.length_cons, List.length_nil, List.replicate_succ, List.replicate_zero, List.cons_append, List.nil_append, Nat.reduceAdd, Nat.reduceSub, Nat.reduceLeDiff, Nat.zero_add, Option.map_some, if_true, Bool.false_eq_true, if_false, true_and, and_true, decide_eq_true_eq, reduceIte, reduceCtorEq]
    exact ⟨x1, e1⟩
  | @call _ f a hf k l =>
    simp only [wp_c, wp_var, slotK_some, wp_op, wp_un, wp_b, asB_bl, wp_tr, asT_some, wp_yes, wp_and, wp_or, wp_not, wp_caseB, wp_andV, wp_orV, wp_notV, wp_if, wp_nil, wp_cons, wp_tup, wp_lst, wp_cb, wp_call, wp_m0, wp_m1, wp_ml0, wp_ml, wp_isi, wp_isi2, wp_nopart, asI_int, wp_part, wp_sl, wp_seq, seqK_nx, seqK_rt, seqK_bk, seqK_ct, wp_next, wp_brk, wp_cont, wp_drop, wp_ret, wp_ifS, wp_set, wp_par, wp_par3, wp_asg, wp_pat, asP_some, wp_sub, asH_some, wp_aug, wp_for, wp_while, wp_lc, wp_lc2, wp_def, defK_rt, defK_nx, wp_miseq, srcK_ref, srcK_tup, srcK_str, rngK_int, wp_range1, wp_enum, enumK_ref, Tl_some, Ts_some, loopK_nx, loopK_ct, loopK_bk, loopK_rt, ixK_some, atI_k0, atI_k1, atI_k2, atI_k3, atI_k4, atI_k5, atI_k6, atI_k8, atI_k9, L2.atI_last, atI_n, g_ix_t, g_ix_s, g_ix_r, cIx_l, cIx_z, cIx_d, cIx_f, g_sub, g_lt, g_le, g_gt, g_ge, g_addi, g_addI, g_adds, g_addt, g_mul, g_muls, g_fdiv, g_mod, g_neg, g_eqs, g_nes, g_eqi, g_nei, g_min, g_max, g_int_b, g_int_i, g_is_non, g_cuts, g_cutt, g_lens, g_lent, g_lenr, cLen_l, cLen_z, g_tupt, g_tupr, cTup_l, g_listt, isLst_r, lstAt_r, cLst_l, cLst_z, tr_r, cTr_l, tr_b, g_set, cSet_l, cSet_d, jK_some, kK_some, ixN_0, ixN_1, ixN_2, isS, mwipe, mPat, mPats, List.getElem?_cons_zero, List.getElem?_cons_succ, List.set_cons_zero, List.set_cons_succ, List.map_cons, List.map_nil, List.length_cons, List.length_nil, List.replicate_succ, List.replicate_zero, List.cons_append, List.nil_append, Nat.reduceAdd, Nat.reduceSub, Nat.reduceLeDiff, Nat.zero_add, Option.map_some, if_true, Bool.false_eq_true, if_false, true_and, and_true, decide_eq_true_eq, reduceIte, reduceCtorEq]
    refine Tl.newL (by omega) fun h1 x1 l1 e1 => ?_
    try simp only [wp_c, wp_var, slotK_some, wp_op, wp_un, wp_b, asB_bl, wp_tr, asT_some, wp_yes, wp_and, wp_or, wp_not, wp_caseB, wp_andV, wp_orV, wp_notV, wp_if, wp_nil, wp_cons, wp_tup, wp_lst, wp_cb, wp_call, wp_m0, wp_m1, wp_ml0, wp_ml, wp_isi, wp_isi2, wp_nopart, asI_int, wp_part, wp_sl, wp_seq, seqK_nx, seqK_rt, seqK_bk, seqK_ct, wp_next, wp_brk, wp_cont, wp_drop, wp_ret, wp_ifS, wp_set, wp_par, wp_par3, wp_asg, wp_pat, asP_some, wp_sub, asH_some, wp_aug, wp_for, wp_while, wp_lc, wp_lc2, wp_def, defK_rt, defK_nx, wp_miseq, srcK_ref, srcK_tup, srcK_str, rngK_int, wp_range1, wp_enum, enumK_ref, Tl_some, Ts_some, loopK_nx, loopK_ct, loopK_bk, loopK_rt, ixK_some, atI_k0, atI_k1, atI_k2, atI_k3, atI_k4, atI_k5, atI_k6, atI_k8, atI_k9, L2.atI_last, atI_n, g_ix_t, g_ix_s, g_ix_r, cIx_l, cIx_z, cIx_d, cIx_f, g_sub, g_lt, g_le, g_gt, g_ge, g_addi, g_addI, g_adds, g_addt, g_mul, g_muls, g_fdiv, g_mod, g_neg, g_eqs, g_nes, g_eqi, g_nei, g_min, g_max, g_int_b, g_int_i, g_is_non, g_cuts, g_cutt, g_lens, g_lent, g_lenr, cLen_l, cLen_z, g_tupt, g_tupr, cTup_l, g_listt, isLst_r, lstAt_r, cLst_l, cLst_z, tr_r, cTr_l, tr_b, g_set, cSet_l, cSet_d, jK_some, kK_some, ixN_0, ixN_1, ixN_2, isS, mwipe, mPat, mPats, List.getElem?_cons_zero, List.getElem?_cons_succ, List.set_cons_zero, List.set_cons_succ, List.map_cons, List.map_nil, List.length_cons, List.length_nil, List.replicate_succ, List.replicate_zero, List.cons_append, List.nil_append, Nat.reduceAdd, Nat.reduceSub, Nat.reduceLeDiff, Nat.zero_add, Option.map_some, if_true, Bool.false_eq_true, if_false, true_and, and_true, decide_eq_true_eq, reduceIte, reduceCtorEq]
    refine ⟨x1, ?_⟩
    rw [e1]
    have : a.filter isT = a := List.filter_eq_self.mpr fun x hx => (k x hx).isT
    show _ = some (Cell.lst (a.filter isT))
    rw [this]
  | @use _ t hd a ht hh kp k l l3 =>
    simp only [wp_c, wp_var, slotK_some, wp_op, wp_un, wp_b, asB_bl, wp_tr, asT_some, wp_yes, wp_and, wp_or, wp_not, wp_caseB, wp_andV, wp_orV, wp_notV, wp_if, wp_nil, wp_cons, wp_tup, wp_lst, wp_cb, wp_call, wp_m0, wp_m1, wp_ml0, wp_ml, wp_isi, wp_isi2, wp_nopart, asI_int, wp_part, wp_sl, wp_seq, seqK_nx, seqK_rt, seqK_bk, seqK_ct, wp_next, wp_brk, wp_cont, wp_drop, wp_ret, wp_ifS, wp_set, wp_par, wp_par3, wp_asg, wp_pat, asP_some, wp_sub, asH_some, wp_aug, wp_for, wp_while, wp_lc, wp_lc2, wp_def, defK_rt, defK_nx, wp_miseq, srcK_ref, srcK_tup, srcK_str, rngK_int, wp_range1, wp_enum, enumK_ref, Tl_some, Ts_some, loopK_nx, loopK_ct, loopK_bk, loopK_rt, ixK_some, atI_k0, atI_k1, atI_k2, atI_k3, atI_k4, atI_k5, atI_k6, atI_k8, atI_k9, L2.atI_last, atI_n, g_ix_t, g_ix_s, g_ix_r, cIx_l, cIx_z, cIx_d, cIx_f, g_sub, g_lt, g_le, g_gt, g_ge, g_addi, g_addI, g_adds, g_addt, g_mul, g_muls, g_fdiv, g_mod, g_neg, g_eqs, g_nes, g_eqi, g_nei, g_min, g_max, g_int_b, g_int_i, g_is_non, g_cuts, g_cutt, g_lens, g_lent, g_lenr, cLen_l, cLen_z, g_tupt, g_tupr, cTup_l, g_listt, isLst_r, lstAt_r, cLst_l, cLst_z, tr_r, cTr_l, tr_b, g_set, cSet_l, cSet_d, jK_some, kK_some, ixN_0, ixN_1, ixN_2, isS, mwipe, mPat, mPats, List.getElem?_cons_zero, List.getElem?_cons_succ, List.set_cons_zero, List.set_cons_succ, List.map_cons, List.map_nil, List.length_cons, List.length_nil, List.replicate_succ, List.replicate_zero, List.cons_append, List.nil_append, Nat.reduceAdd, Nat.reduceSub, Nat.reduceLeDiff, Nat.zero_add, Option.map_some, if_true, Bool.false_eq_true, if_false, true_and, and_true, decide_eq_true_eq, reduceIte, reduceCtorEq, ne3]
    refine Tl.lc_e (xs := a) isT id (fun _ _ => is_items) (by omega) (by omega) ?_ ?_
    · intro x hx h1 x1
      refine ⟨_, rfl, ?_⟩
      have q : isP x = true ∨ isT x = true := (Tm.use ht hh kp k l l3).thing hx
      simp only [wp_c, wp_var, slotK_some, wp_op, wp_un, wp_b, asB_bl, wp_tr, asT_some, wp_yes, wp_and, wp_or, wp_not, wp_caseB, wp_andV, wp_orV, wp_notV, wp_if, wp_nil, wp_cons, wp_tup, wp_lst, wp_cb, wp_call, wp_m0, wp_m1, wp_ml0, wp_ml, wp_isi, wp_isi2, wp_nopart, asI_int, wp_part, wp_sl, wp_seq, seqK_nx, seqK_rt, seqK_bk, seqK_ct, wp_next, wp_brk, wp_cont, wp_drop, wp_ret, wp_ifS, wp_set, wp_par, wp_par3, wp_asg, wp_pat, asP_some, wp_sub, asH_some, wp_aug, wp_for, wp_while, wp_lc, wp_lc2, wp_def, defK_rt, defK_nx, wp_miseq, srcK_ref, srcK_tup, srcK_str, rngK_int, wp_range1, wp_enum, enumK_ref, Tl_some, Ts_some, loopK_nx, loopK_ct, loopK_bk, loopK_rt, ixK_some, atI_k0, atI_k1, atI_k2, atI_k3, atI_k4, atI_k5, atI_k6, atI_k8, atI_k9, L2.atI_last, atI_n, g_ix_t, g_ix_s, g_ix_r, cIx_l, cIx_z, cIx_d, cIx_f, g_sub, g_lt, g_le, g_gt, g_ge, g_addi, g_addI, g_adds, g_addt, g_mul, g_muls, g_fdiv, g_mod, g_neg, g_eqs, g_nes, g_eqi, g_nei, g_min, g_max, g_int_b, g_int_i, g_is_non, g_cuts, g_cutt, g_lens, g_lent, g_lenr, cLen_l, cLen_z, g_tupt, g_tupr, cTup_l, g_listt, isLst_r, lstAt_r, cLst_l, cLst_z, tr_r, cTr_l, tr_b, g_set, cSet_l, cSet_d, jK_some, kK_some, ixN_0, ixN_1, ixN_2, isS, mwipe, mPat, mPats, List.getElem?_cons_zero, List.getElem?_cons_succ, List.set_cons_zero, List.set_cons_succ, List.map_cons, List.map_nil, List.length_cons, List.length_nil, List.replicate_succ, List.replicate_zero, List.cons_append, List.nil_append, Nat.reduceAdd, Nat.reduceSub, Nat.reduceLeDiff, Nat.zero_add, Option.map_some, if_true, Bool.false_eq_true, if_false, true_and, and_true, decide_eq_true_eq, reduceIte, reduceCtorEq, isi_t q]
      exact ⟨Ext.refl _, fun _ => ⟨rfl, Ext.refl _⟩⟩
    · intro h1 x1 e1
      rw [List.map_id] at e1
      try simp only [wp_c, wp_var, slotK_some, wp_op, wp_un, wp_b, asB_bl, wp_tr, asT_some, wp_yes, wp_and, wp_or, wp_not, wp_caseB, wp_andV, wp_orV, wp_notV, wp_if, wp_nil, wp_cons, wp_tup, wp_lst, wp_cb, wp_call, wp_m0, wp_m1, wp_ml0, wp_ml, wp_isi, wp_isi2, wp_nopart, asI_int, wp_part, wp_sl, wp_seq, seqK_nx, seqK_rt, seqK_bk, seqK_ct, wp_next, wp_brk, wp_cont, wp_drop, wp_ret, wp_ifS, wp_set, wp_par, wp_par3, wp_asg, wp_pat, asP_some, wp_sub, asH_some, wp_aug, wp_for, wp_while, wp_lc, wp_lc2, wp_def, defK_rt, defK_nx, wp_miseq, srcK_ref, srcK_tup, srcK_str, rngK_int, wp_range1, wp_enum, enumK_ref, Tl_some, Ts_some, loopK_nx, loopK_ct, loopK_bk, loopK_rt, ixK_some, atI_k0, atI_k1, atI_k2, atI_k3, atI_k4, atI_k5, atI_k6, atI_k8, atI_k9, L2.atI_last, atI_n, g_ix_t, g_ix_s, g_ix_r, cIx_l, cIx_z, cIx_d, cIx_f, g_sub, g_lt, g_le, g_gt, g_ge, g_addi, g_addI, g_adds, g_addt, g_mul, g_muls, g_fdiv, g_mod, g_neg, g_eqs, g_nes, g_eqi, g_nei, g_min, g_max, g_int_b, g_int_i, g_is_non, g_cuts, g_cutt, g_lens, g_lent, g_lenr, cLen_l, cLen_z, g_tupt, g_tupr, cTup_l, g_listt, isLst_r, lstAt_r, cLst_l, cLst_z, tr_r, cTr_l, tr_b, g_set, cSet_l, cSet_d, jK_some, kK_some, ixN_0, ixN_1, ixN_2, isS, mwipe, mPat, mPats, List.getElem?_cons_zero, List.getElem?_cons_succ, List.set_cons_zero, List.set_cons_succ, List.map_cons, List.map_nil, List.length_cons, List.length_nil, List.replicate_succ, List.replicate_zero, List.cons_append, List.nil_append, Nat.reduceAdd, Nat.reduceSub, Nat.reduceLeDiff, Nat.zero_add, Option.map_some, if_true, Bool.false_eq_true, if_false, true_and, and_true, decide_eq_true_eq, reduceIte, reduceCtorEq]
      exact ⟨x1, e1⟩
theorem all_body {n d : Nat} {w : W} {h : MH} {F : MF} {g : W → List W} (hn : 1000 ≤ n) (t : Tm d w) (gl : ∀ x ∈ kids w, (g x).length ≤ 100000) (HF : ∀ x ∈ kids w, ∀ h, Tl (F n [x] h) fun v h' => ∃ p : Nat, v = .ref p ∧ Ext h h' ∧ h.length ≤ p ∧ h'[p]? = some (.lst (g x))) :
    Tl (mDef 3 (B__law_all F) n [w] h) fun v h' => ∃ p : Nat, v = .ref p ∧ Ext h h' ∧ h.length ≤ p ∧ h'[p]? = some (.lst (w :: (kids w).flatMap g)) := by
  unfold B__law_all
  simp only [wp_c, wp_var, slotK_some, wp_op, wp_un, wp_b, asB_bl, wp_tr, asT_some, wp_yes, wp_and, wp_or, wp_not, wp_caseB, wp_andV, wp_orV, wp_notV, wp_if, wp_nil, wp_cons, wp_tup, wp_lst, wp_cb, wp_call, wp_m0, wp_m1, wp_ml0, wp_ml, wp_isi, wp_isi2, wp_nopart, asI_int, wp_part, wp_sl, wp_seq, seqK_nx, seqK_rt, seqK_bk, seqK_ct, wp_next, wp_brk, wp_cont, wp_drop, wp_ret, wp_ifS, wp_set, wp_par, wp_par3, wp_asg, wp_pat, asP_some, wp_sub, asH_some, wp_aug, wp_for, wp_while, wp_lc, wp_lc2, wp_def, defK_rt, defK_nx, wp_miseq, srcK_ref, srcK_tup, srcK_str, rngK_int, wp_range1, wp_enum, enumK_ref, Tl_some, Ts_some, loopK_nx, loopK_ct, loopK_bk, loopK_rt, ixK_some, atI_k0, atI_k1, atI_k2, atI_k3, atI_k4, atI_k5, atI_k6, atI_k8, atI_k9, L2.atI_last, atI_n, g_ix_t, g_ix_s, g_ix_r, cIx_l, cIx_z, cIx_d, cIx_f, g_sub, g_lt, g_le, g_gt, g_ge, g_addi, g_addI, g_adds, g_addt, g_mul, g_muls, g_fdiv, g_mod, g_neg, g_eqs, g_nes, g_eqi, g_nei, g_min, g_max, g_int_b, g_int_i, g_is_non, g_cuts, g_cutt, g_lens, g_lent, g_lenr, cLen_l, cLen_z, g_tupt, g_tupr, cTup_l, g_listt, isLst_r, lstAt_r, cLst_l, cLst_z, tr_r, cTr_l, tr_b, g_set, cSet_l, cSet_d, jK_some, kK_some, ixN_0, ixN_1, ixN_2, isS, mwipe, mPat, mPats, List.getElem?_cons_zero, List.getElem?_cons_succ, List.set_cons_zero, List.set_cons_succ, List.map_cons, List.map_nil, List.length_cons, List.length_nil, List.replicate_succ, List.replicate_zero, List.cons_append, List.nil_append, Nat.reduceAdd, Nat.reduceSub, Nat.reduceLeDiff, Nat.zero_add, Option.map_some, if_true, Bool.false_eq_true, if_false, true_and, and_true, decide_eq_true_eq, reduceIte, reduceCtorEq]
  refine Tl.newL (by simp) fun h1 x1 l1 e1 => ?_
  try simp only [wp_c, wp_var, slotK_some, wp_op, wp_un, wp_b, asB_bl, wp_tr, asT_some, wp_yes, wp_and, wp_or, wp_not, wp_caseB, wp_andV, wp_orV, wp_notV, wp_if, wp_nil, wp_cons, wp_tup, wp_lst, wp_cb, wp_call, wp_m0, wp_m1, wp_ml0, wp_ml, wp_isi, wp_isi2, wp_nopart, asI_int, wp_part, wp_sl, wp_seq, seqK_nx, seqK_rt, seqK_bk, seqK_ct, wp_next, wp_brk, wp_cont, wp_drop, wp_ret, wp_ifS, wp_set, wp_par, wp_par3, wp_asg, wp_pat, asP_some, wp_sub, asH_some, wp_aug, wp_for, wp_while, wp_lc, wp_lc2, wp_def, defK_rt, defK_nx, wp_miseq, srcK_ref, srcK_tup, srcK_str, rngK_int, wp_range1, wp_enum, enumK_ref, Tl_some, Ts_some, loopK_nx, loopK_ct, loopK_bk, loopK_rt, ixK_some, atI_k0, atI_k1, atI_k2, atI_k3, atI_k4, atI_k5, atI_k6, atI_k8, atI_k9, L2.atI_last, atI_n, g_ix_t, g_ix_s, g_ix_r, cIx_l, cIx_z, cIx_d, cIx_f, g_sub, g_lt, g_le, g_gt, g_ge, g_addi, g_addI, g_adds, g_addt, g_mul, g_muls, g_fdiv, g_mod, g_neg, g_eqs, g_nes, g_eqi, g_nei, g_min, g_max, g_int_b, g_int_i, g_is_non, g_cuts, g_cutt, g_lens, g_lent, g_lenr, cLen_l, cLen_z, g_tupt, g_tupr, cTup_l, g_listt, isLst_r, lstAt_r, cLst_l, cLst_z, tr_r, cTr_l, tr_b, g_set, cSet_l, cSet_d, jK_some, kK_some, ixN_0, ixN_1, ixN_2, isS, mwipe, mPat, mPats, List.getElem?_cons_zero, List.getElem?_cons_succ, List.set_cons_zero, List.set_cons_succ, List.map_cons, List.map_nil, List.length_cons, List.length_nil, List.replicate_succ, List.replicate_zero, List.cons_append, List.nil_append, Nat.reduceAdd, Nat.reduceSub, Nat.reduceLeDiff, Nat.zero_add, Option.map_some, if_true, Bool.false_eq_true, if_false, true_and, and_true, decide_eq_true_eq, reduceIte, reduceCtorEq]
  refine (within_spec hn t).by ?_
  rintro _ h2 ⟨rfl, x2, e2⟩
  have l := t.len.2
  simp only [wp_c, wp_var, slotK_some, wp_op, wp_un, wp_b, asB_bl, wp_tr, asT_some, wp_yes, wp_and, wp_or, wp_not, wp_caseB, wp_andV, wp_orV, wp_notV, wp_if, wp_nil, wp_cons, wp_tup, wp_lst, wp_cb, wp_call, wp_m0, wp_m1, wp_ml0, wp_ml, wp_isi, wp_isi2, wp_nopart, asI_int, wp_part, wp_sl, wp_seq, seqK_nx, seqK_rt, seqK_bk, seqK_ct, wp_next, wp_brk, wp_cont, wp_drop, wp_ret, wp_ifS, wp_set, wp_par, wp_par3, wp_asg, wp_pat, asP_some, wp_sub, asH_some, wp_aug, wp_for, wp_while, wp_lc, wp_lc2, wp_def, defK_rt, defK_nx, wp_miseq, srcK_ref, srcK_tup, srcK_str, rngK_int, wp_range1, wp_enum, enumK_ref, Tl_some, Ts_some, loopK_nx, loopK_ct, loopK_bk, loopK_rt, ixK_some, atI_k0, atI_k1, atI_k2, atI_k3, atI_k4, atI_k5, atI_k6, atI_k8, atI_k9, L2.atI_last, atI_n, g_ix_t, g_ix_s, g_ix_r, cIx_l, cIx_z, cIx_d, cIx_f, g_sub, g_lt, g_le, g_gt, g_ge, g_addi, g_addI, g_adds, g_addt, g_mul, g_muls, g_fdiv, g_mod, g_neg, g_eqs, g_nes, g_eqi, g_nei, g_min, g_max, g_int_b, g_int_i, g_is_non, g_cuts, g_cutt, g_lens, g_lent, g_lenr, cLen_l, cLen_z, g_tupt, g_tupr, cTup_l, g_listt, isLst_r, lstAt_r, cLst_l, cLst_z, tr_r, cTr_l, tr_b, g_set, cSet_l, cSet_d, jK_some, kK_some, ixN_0, ixN_1, ixN_2, isS, mwipe, mPat, mPats, List.getElem?_cons_zero, List.getElem?_cons_succ, List.set_cons_zero, List.set_cons_succ, List.map_cons, List.map_nil, List.length_cons, List.length_nil, List.replicate_succ, List.replicate_zero, List.cons_append, List.nil_append, Nat.reduceAdd, Nat.reduceSub, Nat.reduceLeDiff, Nat.zero_add, Option.map_some, if_true, Bool.false_eq_true, if_false, true_and, and_true, decide_eq_true_eq, reduceIte, reduceCtorEq, e2]
  refine Ts.for_ (kids w) (fun i s hh => ∃ u, s = [some w, some (.ref h.length), u] ∧ Ext h hh ∧ hh[h1.length]? = some (.lst (kids w)) ∧ hh[h.length]? = some (.lst (w :: ((kids w).take i).flatMap g)))
    (fun i s hh ⟨u, _, _, e, _⟩ => is_cell e) (by omega) ⟨_, rfl, x1.trans x2, e2, by simpa using x2.get e1⟩ ?_ ?_
  · rintro i x s hh ex ⟨u, rfl, X, eK, eL⟩
    have hi := lt_of_get ex
    have hx := List.mem_of_getElem? ex
    have lL := lt_of_get eL
    have lK := lt_of_get eK
    simp only [wp_c, wp_var, slotK_some, wp_op, wp_un, wp_b, asB_bl, wp_tr, asT_some, wp_yes, wp_and, wp_or, wp_not, wp_caseB, wp_andV, wp_orV, wp_notV, wp_if, wp_nil, wp_cons, wp_tup, wp_lst, wp_cb, wp_call, wp_m0, wp_m1, wp_ml0, wp_ml, wp_isi, wp_isi2, wp_nopart, asI_int, wp_part, wp_sl, wp_seq, seqK_nx, seqK_rt, seqK_bk, seqK_ct, wp_next, wp_brk, wp_cont, wp_drop, wp_ret, wp_ifS, wp_set, wp_par, wp_par3, wp_asg, wp_pat, asP_some, wp_sub, asH_some, wp_aug, wp_for, wp_while, wp_lc, wp_lc2, wp_def, defK_rt, defK_nx, wp_miseq, srcK_ref, srcK_tup, srcK_str, rngK_int, wp_range1, wp_enum, enumK_ref, Tl_some, Ts_some, loopK_nx, loopK_ct, loopK_bk, loopK_rt, ixK_some, atI_k0, atI_k1, atI_k2, atI_k3, atI_k4, atI_k5, atI_k6, atI_k8, atI_k9, L2.atI_last, atI_n, g_ix_t, g_ix_s, g_ix_r, cIx_l, cIx_z, cIx_d, cIx_f, g_sub, g_lt, g_le, g_gt, g_ge, g_addi, g_addI, g_adds, g_addt, g_mul, g_muls, g_fdiv, g_mod, g_neg, g_eqs, g_nes, g_eqi, g_nei, g_min, g_max, g_int_b, g_int_i, g_is_non, g_cuts, g_cutt, g_lens, g_lent, g_lenr, cLen_l, cLen_z, g_tupt, g_tupr, cTup_l, g_listt, isLst_r, lstAt_r, cLst_l, cLst_z, tr_r, cTr_l, tr_b, g_set, cSet_l, cSet_d, jK_some, kK_some, ixN_0, ixN_1, ixN_2, isS, mwipe, mPat, mPats, List.getElem?_cons_zero, List.getElem?_cons_succ, List.set_cons_zero, List.set_cons_succ, List.map_cons, List.map_nil, List.length_cons, List.length_nil, List.replicate_succ, List.replicate_zero, List.cons_append, List.nil_append, Nat.reduceAdd, Nat.reduceSub, Nat.reduceLeDiff, Nat.zero_add, Option.map_some, if_true, Bool.false_eq_true, if_false, true_and, and_true, decide_eq_true_eq, reduceIte, reduceCtorEq, eL]
    refine (HF x hx hh).by ?_
    rintro _ h3 ⟨p, rfl, x3, lp, e3⟩
    have lf : (((kids w).take i).flatMap g).length ≤ 3 * 100000 := by
      refine Nat.le_trans (flat_len (k := 100000) fun y hy => gl y (List.mem_of_mem_take hy)) ?_
      exact Nat.mul_le_mul_right _ (by rw [List.length_take]; omega)
    refine Tl.extend (x3.get eL) e3 (by have := gl x hx; rw [List.length_cons]; omega) fun h4 c4 e4 => ?_
    try simp only [wp_c, wp_var, slotK_some, wp_op, wp_un, wp_b, asB_bl, wp_tr, asT_some, wp_yes, wp_and, wp_or, wp_not, wp_caseB, wp_andV, wp_orV, wp_notV, wp_if, wp_nil, wp_cons, wp_tup, wp_lst, wp_cb, wp_call, wp_m0, wp_m1, wp_ml0, wp_ml, wp_isi, wp_isi2, wp_nopart, asI_int, wp_part, wp_sl, wp_seq, seqK_nx, seqK_rt, seqK_bk, seqK_ct, wp_next, wp_brk, wp_cont, wp_drop, wp_ret, wp_ifS, wp_set, wp_par, wp_par3, wp_asg, wp_pat, asP_some, wp_sub, asH_some, wp_aug, wp_for, wp_while, wp_lc, wp_lc2, wp_def, defK_rt, defK_nx, wp_miseq, srcK_ref, srcK_tup, srcK_str, rngK_int, wp_range1, wp_enum, enumK_ref, Tl_some, Ts_some, loopK_nx, loopK_ct, loopK_bk, loopK_rt, ixK_some, atI_k0, atI_k1, atI_k2, atI_k3, atI_k4, atI_k5, atI_k6, atI_k8, atI_k9, L2.atI_last, atI_n, g_ix_t, g_ix_s, g_ix_r, cIx_l, cIx_z, cIx_d, cIx_f, g_sub, g_lt, g_le, g_gt, g_ge, g_addi, g_addI, g_adds, g_addt, g_mul, g_muls, g_fdiv, g_mod, g_neg, g_eqs, g_nes, g_eqi, g_nei, g_min, g_max, g_int_b, g_int_i, g_is_non, g_cuts, g_cutt, g_lens, g_lent, g_lenr, cLen_l, cLen_z, g_tupt, g_tupr, cTup_l, g_listt, isLst_r, lstAt_r, cLst_l, cLst_z, tr_r, cTr_l, tr_b, g_set, cSet_l, cSet_d, jK_some, kK_some, ixN_0, ixN_1, ixN_2, isS, mwipe, mPat, mPats, List.getElem?_cons_zero, List.getElem?_cons_succ, List.set_cons_zero, List.set_cons_succ, List.map_cons, List.map_nil, List.length_cons, List.length_nil, List.replicate_succ, List.replicate_zero, List.cons_append, List.nil_append, Nat.reduceAdd, Nat.reduceSub, Nat.reduceLeDiff, Nat.zero_add, Option.map_some, if_true, Bool.false_eq_true, if_false, true_and, and_true, decide_eq_true_eq, reduceIte, reduceCtorEq]
    refine ⟨_, rfl, (X.trans x3).chg c4 (Nat.le_refl _), c4.get (x3.get eK) (by omega), ?_⟩
    rw [e4, List.take_add_one, ex]
    simp
  · rintro s hh ⟨u, rfl, X, eK, eL⟩
    rw [List.take_length] at eL
    simp only [wp_c, wp_var, slotK_some, wp_op, wp_un, wp_b, asB_bl, wp_tr, asT_some, wp_yes, wp_and, wp_or, wp_not, wp_caseB, wp_andV, wp_orV, wp_notV, wp_if, wp_nil, wp_cons, wp_tup, wp_lst, wp_cb, wp_call, wp_m0, wp_m1, wp_ml0, wp_ml, wp_isi, wp_isi2, wp_nopart, asI_int, wp_part, wp_sl, wp_seq, seqK_nx, seqK_rt, seqK_bk, seqK_ct, wp_next, wp_brk, wp_cont, wp_drop, wp_ret, wp_ifS, wp_set, wp_par, wp_par3, wp_asg, wp_pat, asP_some, wp_sub, asH_some, wp_aug, wp_for, wp_while, wp_lc, wp_lc2, wp_def, defK_rt, defK_nx, wp_miseq, srcK_ref, srcK_tup, srcK_str, rngK_int, wp_range1, wp_enum, enumK_ref, Tl_some, Ts_some, loopK_nx, loopK_ct, loopK_bk, loopK_rt, ixK_some, atI_k0, atI_k1, atI_k2, atI_k3, atI_k4, atI_k5, atI_k6, atI_k8, atI_k9, L2.atI_last, atI_n, g_ix_t, g_ix_s, g_ix_r, cIx_l, cIx_z, cIx_d, cIx_f, g_sub, g_lt, g_le, g_gt, g_ge, g_addi, g_addI, g_adds, g_addt, g_mul, g_muls, g_fdiv, g_mod, g_neg, g_eqs, g_nes, g_eqi, g_nei, g_min, g_max, g_int_b, g_int_i, g_is_non, g_cuts, g_cutt, g_lens, g_lent, g_lenr, cLen_l, cLen_z, g_tupt, g_tupr, cTup_l, g_listt, isLst_r, lstAt_r, cLst_l, cLst_z, tr_r, cTr_l, tr_b, g_set, cSet_l, cSet_d, jK_some, kK_some, ixN_0, ixN_1, ixN_2, isS, mwipe, mPat, mPats, List.getElem?_cons_zero, List.getElem?_cons_succ, List.set_cons_zero, List.set_cons_succ, List.map_cons, List.map_nil, List.length_cons, List.length_nil, List.replicate_succ, List.replicate_zero, List.cons_append, List.nil_append, Nat.reduceAdd, Nat.reduceSub, Nat.reduceLeDiff, Nat.zero_add, Option.map_some, if_true, Bool.false_eq_true, if_false, true_and, and_true, decide_eq_true_eq, reduceIte, reduceCtorEq]
    exact ⟨_, rfl, X, Nat.le_refl _, eL⟩
theorem all_spec {n : Nat} (hn : 1000 ≤ n) : ∀ (d : Nat), d ≤ 7 → ∀ (w : W), Tm d w → ∀ (e : Nat), d ≤ e → ∀ h, Tl (f__law_all (e + 1) n [w] h) fun v h' => ∃ p : Nat, v = .ref p ∧ Ext h h' ∧ h.length ≤ p ∧ h'[p]? = some (.lst (pre d w))
  | 0, _, w, t, e, _, h => by
    have k := t.kid0
    refine (all_body (F := f__law_all e) (g := fun _ => []) hn t (by rw [k]; simp) (by rw [k]; simp)).by fun v h' ⟨p, a, b, c, q⟩ => ⟨p, a, b, c, ?_⟩
    rw [q, k]; rfl
  | d + 1, hd, w, t, e, he, h => by
    obtain ⟨e', rfl⟩ : ∃ e', e = e' + 1 := ⟨e - 1, by omega⟩
    refine all_body (F := f__law_all (e' + 1)) (g := pre d) hn t (fun x hx => Nat.le_trans (pre_len d x (t.kid hx)) (Nat.le_trans (Nat.pow_le_pow_right (by decide) (show d ≤ 7 by omega)) (by decide))) fun x hx h => all_spec hn d (by omega) x (t.kid hx) e' (by omega) h
/-- the deepest of some, and one more -/
def mx (f : W → Nat) : List W → Nat
  | [] => 0
  | x :: l => max (1 + f x) (mx f l)
def far : Nat → W → Nat
  | 0, _ => 0
  | d + 1, w => mx (far d) (kids w)
theorem intsW_map : ∀ {l : List Int}, intsW (l.map .int) = some l
  | [] => rfl
  | i :: l => by simp [intsW, intsW_map (l := l)]
theorem Tl.maxl {h : MH} {Q : W → MH → Prop} {r : Nat} {i : Int} {l : List Int} (e : h[r]? = some (.lst ((i :: l).map .int))) (c : Q (.int (maxI (i :: l))) h) : Tl (gMaxL [.ref r] h) Q := by
  have : gMaxL [.ref r] h = some (.int (maxI (i :: l)), h) := by
    unfold gMaxL
    simp only [lstAt_lst e, Option.bind_some, intsW_map]
  rw [this, Tl_some]; exact c
theorem fold_mx {f : W → Nat} : ∀ {l : List W} {a : Nat}, (l.map fun x => (1 : Int) + (f x : Int)).foldl (fun a b => if b > a then b else a) (a : Int) = ((max a (mx f l) : Nat) : Int)
  | [], a => by simp [mx]
  | x :: l, a => by
    rw [List.map_cons, List.foldl_cons]
    have : (if (1 : Int) + (f x : Int) > (a : Int) then (1 : Int) + (f x : Int) else (a : Int)) = ((max a (1 + f x) : Nat) : Int) := by
      split <;> omega
    rw [this, fold_mx (l := l)]
    simp only [mx]
    congr 1; omega
theorem maxI_mx {f : W → Nat} {l : List W} : maxI (0 :: l.map fun x => (1 : Int) + (f x : Int)) = ((mx f l : Nat) : Int) := by
  have := fold_mx (f := f) (l := l) (a := 0)
  simp only [Nat.zero_max] at this
  exact this
theorem far_body {n d : Nat} {w : W} {h : MH} {F : MF} {g : W → Nat} (hn : 1000 ≤ n) (t : Tm d w) (HF : ∀ x ∈ kids w, ∀ h, Tl (F n [x] h) fun v h' => v = .int (g x) ∧ Ext h h') :
    Tl (mDef 2 (B__law_far F) n [w] h) fun v h' => v = .int (mx g (kids w)) ∧ Ext h h' := by
  unfold B__law_far
  simp only [wp_c, wp_var, slotK_some, wp_op, wp_un, wp_b, asB_bl, wp_tr, asT_some, wp_yes, wp_and, wp_or, wp_not, wp_caseB, wp_andV, wp_orV, wp_notV, wp_if, wp_nil, wp_cons, wp_tup, wp_lst, wp_cb, wp_call, wp_m0, wp_m1, wp_ml0, wp_ml, wp_isi, wp_isi2, wp_nopart, asI_int, wp_part, wp_sl, wp_seq, seqK_nx, seqK_rt, seqK_bk, seqK_ct, wp_next, wp_brk, wp_cont, wp_drop, wp_ret, wp_ifS, wp_set, wp_par, wp_par3, wp_asg, wp_pat, asP_some, wp_sub, asH_some, wp_aug, wp_for, wp_while, wp_lc, wp_lc2, wp_def, defK_rt, defK_nx, wp_miseq, srcK_ref, srcK_tup, srcK_str, rngK_int, wp_range1, wp_enum, enumK_ref, Tl_some, Ts_some, loopK_nx, loopK_ct, loopK_bk, loopK_rt, ixK_some, atI_k0, atI_k1, atI_k2, atI_k3, atI_k4, atI_k5, atI_k6, atI_k8, atI_k9, L2.atI_last, atI_n, g_ix_t, g_ix_s, g_ix_r, cIx_l, cIx_z, cIx_d, cIx_f, g_sub, g_lt, g_le, g_gt, g_ge, g_addi, g_addI, g_adds, g_addt, g_mul, g_muls, g_fdiv, g_mod, g_neg, g_eqs, g_nes, g_eqi, g_nei, g_min, g_max, g_int_b, g_int_i, g_is_non, g_cuts, g_cutt, g_lens, g_lent, g_lenr, cLen_l, cLen_z, g_tupt, g_tupr, cTup_l, g_listt, isLst_r, lstAt_r, cLst_l, cLst_z, tr_r, cTr_l, tr_b, g_set, cSet_l, cSet_d, jK_some, kK_some, ixN_0, ixN_1, ixN_2, isS, mwipe, mPat, mPats, List.getElem?_cons_zero, List.getElem?_cons_succ, List.set_cons_zero, List.set_cons_succ, List.map_cons, List.map_nil, List.length_cons, List.length_nil, List.replicate_succ, List.replicate_zero, List.cons_append, List.nil_append, Nat.reduceAdd, Nat.reduceSub, Nat.reduceLeDiff, Nat.zero_add, Option.map_some, if_true, Bool.false_eq_true, if_false, true_and, and_true, decide_eq_true_eq, reduceIte, reduceCtorEq]
  refine Tl.newL (by decide) fun h1 x1 l1 e1 => ?_
  try simp only [wp_c, wp_var, slotK_some, wp_op, wp_un, wp_b, asB_bl, wp_tr, asT_some, wp_yes, wp_and, wp_or, wp_not, wp_caseB, wp_andV, wp_orV, wp_notV, wp_if, wp_nil, wp_cons, wp_tup, wp_lst, wp_cb, wp_call, wp_m0, wp_m1, wp_ml0, wp_ml, wp_isi, wp_isi2, wp_nopart, asI_int, wp_part, wp_sl, wp_seq, seqK_nx, seqK_rt, seqK_bk, seqK_ct, wp_next, wp_brk, wp_cont, wp_drop, wp_ret, wp_ifS, wp_set, wp_par, wp_par3, wp_asg, wp_pat, asP_some, wp_sub, asH_some, wp_aug, wp_for, wp_while, wp_lc, wp_lc2, wp_def, defK_rt, defK_nx, wp_miseq, srcK_ref, srcK_tup, srcK_str, rngK_int, wp_range1, wp_enum, enumK_ref, Tl_some, Ts_some, loopK_nx, loopK_ct, loopK_bk, loopK_rt, ixK_some, atI_k0, atI_k1, atI_k2, atI_k3, atI_k4, atI_k5, atI_k6, atI_k8, atI_k9, L2.atI_last, atI_n, g_ix_t, g_ix_s, g_ix_r, cIx_l, cIx_z, cIx_d, cIx_f, g_sub, g_lt, g_le, g_gt, g_ge, g_addi, g_addI, g_adds, g_addt, g_mul, g_muls, g_fdiv, g_mod, g_neg, g_eqs, g_nes, g_eqi, g_nei, g_min, g_max, g_int_b, g_int_i, g_is_non, g_cuts, g_cutt, g_lens, g_lent, g_lenr, cLen_l, cLen_z, g_tupt, g_tupr, cTup_l, g_listt, isLst_r, lstAt_r, cLst_l, cLst_z, tr_r, cTr_l, tr_b, g_set, cSet_l, cSet_d, jK_some, kK_some, ixN_0, ixN_1, ixN_2, isS, mwipe, mPat, mPats, List.getElem?_cons_zero, List.getElem?_cons_succ, List.set_cons_zero, List.set_cons_succ, List.map_cons, List.map_nil, List.length_cons, List.length_nil, List.replicate_succ, List.replicate_zero, List.cons_append, List.nil_append, Nat.reduceAdd, Nat.reduceSub, Nat.reduceLeDiff, Nat.zero_add, Option.map_some, if_true, Bool.false_eq_true, if_false, true_and, and_true, decide_eq_true_eq, reduceIte, reduceCtorEq]
  refine (within_spec hn t).by ?_
  rintro _ h2 ⟨rfl, x2, e2⟩
  have l := t.len.2
  simp only [wp_c, wp_var, slotK_some, wp_op, wp_un, wp_b, asB_bl, wp_tr, asT_some, wp_yes, wp_and, wp_or, wp_not, wp_caseB, wp_andV, wp_orV, wp_notV, wp_if, wp_nil, wp_cons, wp_tup, wp_lst, wp_cb, wp_call, wp_m0, wp_m1, wp_ml0, wp_ml, wp_isi, wp_isi2, wp_nopart, asI_int, wp_part, wp_sl, wp_seq, seqK_nx, seqK_rt, seqK_bk, seqK_ct, wp_next, wp_brk, wp_cont, wp_drop, wp_ret, wp_ifS, wp_set, wp_par, wp_par3, wp_asg, wp_pat, asP_some, wp_sub, asH_some, wp_aug, wp_for, wp_while, wp_lc, wp_lc2, wp_def, defK_rt, defK_nx, wp_miseq, srcK_ref, srcK_tup, srcK_str, rngK_int, wp_range1, wp_enum, enumK_ref, Tl_some, Ts_some, loopK_nx, loopK_ct, loopK_bk, loopK_rt, ixK_some, atI_k0, atI_k1, atI_k2, atI_k3, atI_k4, atI_k5, atI_k6, atI_k8, atI_k9, L2.atI_last, atI_n, g_ix_t, g_ix_s, g_ix_r, cIx_l, cIx_z, cIx_d, cIx_f, g_sub, g_lt, g_le, g_gt, g_ge, g_addi, g_addI, g_adds, g_addt, g_mul, g_muls, g_fdiv, g_mod, g_neg, g_eqs, g_nes, g_eqi, g_nei, g_min, g_max, g_int_b, g_int_i, g_is_non, g_cuts, g_cutt, g_lens, g_lent, g_lenr, cLen_l, cLen_z, g_tupt, g_tupr, cTup_l, g_listt, isLst_r, lstAt_r, cLst_l, cLst_z, tr_r, cTr_l, tr_b, g_set, cSet_l, cSet_d, jK_some, kK_some, ixN_0, ixN_1, ixN_2, isS, mwipe, mPat, mPats, List.getElem?_cons_zero, List.getElem?_cons_succ, List.set_cons_zero, List.set_cons_succ, List.map_cons, List.map_nil, List.length_cons, List.length_nil, List.replicate_succ, List.replicate_zero, List.cons_append, List.nil_append, Nat.reduceAdd, Nat.reduceSub, Nat.reduceLeDiff, Nat.zero_add, Option.map_some, if_true, Bool.false_eq_true, if_false, true_and, and_true, decide_eq_true_eq, reduceIte, reduceCtorEq, e2]
  refine Tl.lc_e (xs := kids w) (fun _ => true) (fun x => .int (1 + (g x : Int))) (fun _ x => is_cell (x.get e2)) (by omega) (by omega) ?_ ?_
  · intro x hx h3 x3
    refine ⟨_, rfl, ?_⟩
    simp only [wp_c, wp_var, slotK_some, wp_op, wp_un, wp_b, asB_bl, wp_tr, asT_some, wp_yes, wp_and, wp_or, wp_not, wp_caseB, wp_andV, wp_orV, wp_notV, wp_if, wp_nil, wp_cons, wp_tup, wp_lst, wp_cb, wp_call, wp_m0, wp_m1, wp_ml0, wp_ml, wp_isi, wp_isi2, wp_nopart, asI_int, wp_part, wp_sl, wp_seq, seqK_nx, seqK_rt, seqK_bk, seqK_ct, wp_next, wp_brk, wp_cont, wp_drop, wp_ret, wp_ifS, wp_set, wp_par, wp_par3, wp_asg, wp_pat, asP_some, wp_sub, asH_some, wp_aug, wp_for, wp_while, wp_lc, wp_lc2, wp_def, defK_rt, defK_nx, wp_miseq, srcK_ref, srcK_tup, srcK_str, rngK_int, wp_range1, wp_enum, enumK_ref, Tl_some, Ts_some, loopK_nx, loopK_ct, loopK_bk, loopK_rt, ixK_some, atI_k0, atI_k1, atI_k2, atI_k3, atI_k4, atI_k5, atI_k6, atI_k8, atI_k9, L2.atI_last, atI_n, g_ix_t, g_ix_s, g_ix_r, cIx_l, cIx_z, cIx_d, cIx_f, g_sub, g_lt, g_le, g_gt, g_ge, g_addi, g_addI, g_adds, g_addt, g_mul, g_muls, g_fdiv, g_mod, g_neg, g_eqs, g_nes, g_eqi, g_nei, g_min, g_max, g_int_b, g_int_i, g_is_non, g_cuts, g_cutt, g_lens, g_lent, g_lenr, cLen_l, cLen_z, g_tupt, g_tupr, cTup_l, g_listt, isLst_r, lstAt_r, cLst_l, cLst_z, tr_r, cTr_l, tr_b, g_set, cSet_l, cSet_d, jK_some, kK_some, ixN_0, ixN_1, ixN_2, isS, mwipe, mPat, mPats, List.getElem?_cons_zero, List.getElem?_cons_succ, List.set_cons_zero, List.set_cons_succ, List.map_cons, List.map_nil, List.length_cons, List.length_nil, List.replicate_succ, List.replicate_zero, List.cons_append, List.nil_append, Nat.reduceAdd, Nat.reduceSub, Nat.reduceLeDiff, Nat.zero_add, Option.map_some, if_true, Bool.false_eq_true, if_false, true_and, and_true, decide_eq_true_eq, reduceIte, reduceCtorEq]
    refine ⟨Ext.refl _, fun _ => ?_⟩
    refine (HF x hx h3).by ?_
    rintro _ h4 ⟨rfl, x4⟩
    simp only [wp_c, wp_var, slotK_some, wp_op, wp_un, wp_b, asB_bl, wp_tr, asT_some, wp_yes, wp_and, wp_or, wp_not, wp_caseB, wp_andV, wp_orV, wp_notV, wp_if, wp_nil, wp_cons, wp_tup, wp_lst, wp_cb, wp_call, wp_m0, wp_m1, wp_ml0, wp_ml, wp_isi, wp_isi2, wp_nopart, asI_int, wp_part, wp_sl, wp_seq, seqK_nx, seqK_rt, seqK_bk, seqK_ct, wp_next, wp_brk, wp_cont, wp_drop, wp_ret, wp_ifS, wp_set, wp_par, wp_par3, wp_asg, wp_pat, asP_some, wp_sub, asH_some, wp_aug, wp_for, wp_while, wp_lc, wp_lc2, wp_def, defK_rt, defK_nx, wp_miseq, srcK_ref, srcK_tup, srcK_str, rngK_int, wp_range1, wp_enum, enumK_ref, Tl_some, Ts_some, loopK_nx, loopK_ct, loopK_bk, loopK_rt, ixK_some, atI_k0, atI_k1, atI_k2, atI_k3, atI_k4, atI_k5, atI_k6, atI_k8, atI_k9, L2.atI_last, atI_n, g_ix_t, g_ix_s, g_ix_r, cIx_l, cIx_z, cIx_d, cIx_f, g_sub, g_lt, g_le, g_gt, g_ge, g_addi, g_addI, g_adds, g_addt, g_mul, g_muls, g_fdiv, g_mod, g_neg, g_eqs, g_nes, g_eqi, g_nei, g_min, g_max, g_int_b, g_int_i, g_is_non, g_cuts, g_cutt, g_lens, g_lent, g_lenr, cLen_l, cLen_z, g_tupt, g_tupr, cTup_l, g_listt, isLst_r, lstAt_r, cLst_l, cLst_z, tr_r, cTr_l, tr_b, g_set, cSet_l, cSet_d, jK_some, kK_some, ixN_0, ixN_1, ixN_2, isS, mwipe, mPat, mPats, List.getElem?_cons_zero, List.getElem?_cons_succ, List.set_cons_zero, List.set_cons_succ, List.map_cons, List.map_nil, List.length_cons, List.length_nil, List.replicate_succ, List.replicate_zero, List.cons_append, List.nil_append, Nat.reduceAdd, Nat.reduceSub, Nat.reduceLeDiff, Nat.zero_add, Option.map_some, if_true, Bool.false_eq_true, if_false, true_and, and_true, decide_eq_true_eq, reduceIte, reduceCtorEq]
    exact x4
  · intro h3 x3 e3
    rw [filter_yes] at e3
    refine Tl.addl ((x2.trans x3).get e1) e3 (by rw [List.length_map]; simp; omega) fun h4 x4 l4 e4 => ?_
    try simp only [wp_c, wp_var, slotK_some, wp_op, wp_un, wp_b, asB_bl, wp_tr, asT_some, wp_yes, wp_and, wp_or, wp_not, wp_caseB, wp_andV, wp_orV, wp_notV, wp_if, wp_nil, wp_cons, wp_tup, wp_lst, wp_cb, wp_call, wp_m0, wp_m1, wp_ml0, wp_ml, wp_isi, wp_isi2, wp_nopart, asI_int, wp_part, wp_sl, wp_seq, seqK_nx, seqK_rt, seqK_bk, seqK_ct, wp_next, wp_brk, wp_cont, wp_drop, wp_ret, wp_ifS, wp_set, wp_par, wp_par3, wp_asg, wp_pat, asP_some, wp_sub, asH_some, wp_aug, wp_for, wp_while, wp_lc, wp_lc2, wp_def, defK_rt, defK_nx, wp_miseq, srcK_ref, srcK_tup, srcK_str, rngK_int, wp_range1, wp_enum, enumK_ref, Tl_some, Ts_some, loopK_nx, loopK_ct, loopK_bk, loopK_rt, ixK_some, atI_k0, atI_k1, atI_k2, atI_k3, atI_k4, atI_k5, atI_k6, atI_k8, atI_k9, L2.atI_last, atI_n, g_ix_t, g_ix_s, g_ix_r, cIx_l, cIx_z, cIx_d, cIx_f, g_sub, g_lt, g_le, g_gt, g_ge, g_addi, g_addI, g_adds, g_addt, g_mul, g_muls, g_fdiv, g_mod, g_neg, g_eqs, g_nes, g_eqi, g_nei, g_min, g_max, g_int_b, g_int_i, g_is_non, g_cuts, g_cutt, g_lens, g_lent, g_lenr, cLen_l, cLen_z, g_tupt, g_tupr, cTup_l, g_listt, isLst_r, lstAt_r, cLst_l, cLst_z, tr_r, cTr_l, tr_b, g_set, cSet_l, cSet_d, jK_some, kK_some, ixN_0, ixN_1, ixN_2, isS, mwipe, mPat, mPats, List.getElem?_cons_zero, List.getElem?_cons_succ, List.set_cons_zero, List.set_cons_succ, List.map_cons, List.map_nil, List.length_cons, List.length_nil, List.replicate_succ, List.replicate_zero, List.cons_append, List.nil_append, Nat.reduceAdd, Nat.reduceSub, Nat.reduceLeDiff, Nat.zero_add, Option.map_some, if_true, Bool.false_eq_true, if_false, true_and, and_true, decide_eq_true_eq, reduceIte, reduceCtorEq]
    refine Tl.maxl (i := 0) (l := (kids w).map fun x => (1 : Int) + (g x : Int)) (by rw [e4]; simp) ?_
    rw [maxI_mx]
    exact ⟨rfl, ((x1.trans x2).trans x3).trans x4⟩
theorem far_spec {n : Nat} (hn : 1000 ≤ n) : ∀ (d : Nat) (w : W), Tm d w → ∀ (e : Nat), d ≤ e → ∀ h, Tl (f__law_far (e + 1) n [w] h) fun v h' => v = .int (far d w) ∧ Ext h h'
  | 0, w, t, e, _, h => by
    have k := t.kid0
    refine (far_body (F := f__law_far e) (g := fun _ => 0) hn t (by rw [k]; simp)).by fun v h' ⟨a, b⟩ => ⟨?_, b⟩
    rw [a, k]; rfl
  | d + 1, w, t, e, he, h => by
    obtain ⟨e', rfl⟩ : ∃ e', e = e' + 1 := ⟨e - 1, by omega⟩
    exact far_body (F := f__law_far (e' + 1)) (g := far d) hn t fun x hx h => far_spec hn d x (t.kid hx) e' (by omega) h
end K03

namespace K03
open PySem PySem.Spec PyProof.Rows L2 Mi
theorem Ext.fr {A : Nat → Prop} {a b c : MH} (x : Ext a b) (y : Fr A b c) (hA : ∀ i, A i → a.length ≤ i) : Ext a c := ⟨Nat.le_trans x.len y.len, fun i hi => (y.keep i (Nat.lt_of_lt_of_le hi x.len) fun z => by have := hA i z; omega).trans (x.keep i hi)⟩
theorem lcin_run {src : Src} {ys : List W} {p : Pat} {f : M} {n d : Nat} {s0 : MS} {h0 : MH} (still : ∀ h3, Fr (· = d) h0 h3 → src.is ys h3)
    (turn : ∀ y ∈ ys, ∀ h3, Fr (· = d) h0 h3 → ∃ s2, mPat p y s0 = some s2 ∧ f n s2 h3 = some (y, h3)) :
    ∀ (k i : Nat) (acc : List W) (h : MH), i ≤ ys.length → ys.length - i < k → Fr (· = d) h0 h → h[d]? = some (.lst acc) → acc.length + (ys.length - i) ≤ 16777216 → ∃ h', lcin src p mYes f n d s0 k i h = some h' ∧ Fr (· = d) h0 h' ∧ h'[d]? = some (.lst (acc ++ ys.drop i)) := by
  intro k
  induction k with
  | zero => intro i acc h _ hk; omega
  | succ k ih =>
    intro i acc h hi hk F hd hz
    unfold lcin
    rw [still h F i]
    by_cases hlt : i < ys.length
    · have ex : ys[i]? = some ys[i] := List.getElem?_eq_getElem hlt
      rw [ex]
      obtain ⟨s2, e1, e2⟩ := turn _ (List.getElem_mem hlt) h F
      have ep : pushAt h d ys[i] = some (h.set d (.lst (acc ++ [ys[i]]))) := by
        unfold pushAt; rw [hd]; simp; omega
      simp only [e1, mYes, e2, ep]
      obtain ⟨h', q1, q2, q3⟩ := ih (i + 1) (acc ++ [ys[i]]) (h.set d (.lst (acc ++ [ys[i]]))) (by omega) (by omega) (F.trans (Fr.chg Chg.set rfl)) (List.getElem?_set_self (lt_of_get hd)) (by simp; omega)
      refine ⟨h', q1, q2, ?_⟩
      rw [q3, List.drop_eq_getElem_cons hlt]; simp
    · have : i = ys.length := by omega
      subst this
      rw [List.getElem?_eq_none (Nat.le_refl _)]
      exact ⟨h, rfl, F, by simpa using hd⟩
theorem Tl.lc2_e {src : Src} {xs : List W} {p p1 : Pat} {fi1 : MI} {f : M} {vs1 : List Nat} {n : Nat} {s0 : MS} {h0 : MH} {Q : W → MH → Prop} (g : W → List W) (still : ∀ h', Ext h0 h' → src.is xs h') (hn : xs.length < n) (hz : (xs.flatMap g).length ≤ 16777216)
    (turn : ∀ x ∈ xs, ∀ h1, Ext h0 h1 → h0.length < h1.length → ∃ s1, mPat p x s0 = some s1 ∧ Tl (fi1 n s1 h1) fun src1 h2 => Ext h1 h2 ∧ (∀ h3, Fr (· = h0.length) h2 h3 → src1.is (g x) h3) ∧ (g x).length < n ∧ ∀ y ∈ g x, ∀ h3, Fr (· = h0.length) h2 h3 → ∃ s2, mPat p1 y (mwipe s1 vs1) = some s2 ∧ f n s2 h3 = some (y, h3))
    (fin : ∀ h', Ext h0 h' → h'[h0.length]? = some (.lst (xs.flatMap g)) → Q (.ref h0.length) h') : Tl (lc2loop src p mYes fi1 p1 mYes f vs1 n h0.length s0 n 0 (h0 ++ [.lst []])) Q := by
  have loop : ∀ (k i : Nat) (h : MH), i ≤ xs.length → xs.length - i < k → Ext h0 h → h[h0.length]? = some (.lst ((xs.take i).flatMap g)) → Tl (lc2loop src p mYes fi1 p1 mYes f vs1 n h0.length s0 k i h) Q := by
    intro k
    induction k with
    | zero => intro i h _ hk; omega
    | succ k ih =>
      intro i h hi hk X hd
      unfold lc2loop
      rw [still h X i]
      by_cases hlt : i < xs.length
      · have ex : xs[i]? = some xs[i] := List.getElem?_eq_getElem hlt
        rw [ex]
        obtain ⟨s1, e1, src1, h2, e2, x2, st, ln, tn⟩ := turn _ (List.getElem_mem hlt) h X (lt_of_get hd)
        have sum : (xs.take (i + 1)).flatMap g = (xs.take i).flatMap g ++ g xs[i] := by
          have tk : xs.take (i + 1) = xs.take i ++ [xs[i]] := by rw [List.take_add_one, ex]; rfl
          rw [tk, List.flatMap_append]; simp
        have le : ((xs.take (i + 1)).flatMap g).length ≤ (xs.flatMap g).length := by
          have : xs.flatMap g = (xs.take (i + 1)).flatMap g ++ (xs.drop (i + 1)).flatMap g := by rw [← List.flatMap_append, List.take_append_drop]
          rw [this, List.length_append]; omega
        rw [sum, List.length_append] at le
        obtain ⟨h3, q1, q2, q3⟩ := lcin_run (src := src1) (ys := g xs[i]) (p := p1) (f := f) (n := n) (d := h0.length) (s0 := mwipe s1 vs1) (h0 := h2) st tn n 0 _ h2 (Nat.zero_le _) (by omega) ⟨Nat.le_refl _, fun _ _ _ => rfl⟩ (x2.get hd) (by omega)
        simp only [e1, mYes, e2, q1]
        refine ih (i + 1) h3 (by omega) (by omega) (Ext.fr (X.trans x2) q2 fun i z => by subst z; exact Nat.le_refl _) ?_
        rw [q3, sum]; simp
      · have : i = xs.length := by omega
        subst this
        rw [List.getElem?_eq_none (Nat.le_refl _)]
        rw [List.take_length] at hd
        exact ⟨_, _, rfl, fin h X hd⟩
  exact loop n 0 _ (Nat.zero_le _) (by omega) (Ext.app _ _) (by simp)
theorem mx_congr {f g : W → Nat} : ∀ {l : List W}, (∀ x ∈ l, f x = g x) → mx f l = mx g l
  | [], _ => rfl
  | x :: l, h => by simp only [mx]; rw [h x (by simp), mx_congr fun y hy => h y (by simp [hy])]
theorem far_stab : ∀ (d a : Nat) (w : W), Tm d w → d ≤ a → far a w = far d w
  | 0, 0, w, t, _ => rfl
  | 0, a + 1, w, t, _ => by simp [far, t.kid0, mx]
  | d + 1, 0, w, t, h => absurd h (by omega)
  | d + 1, a + 1, w, t, h => mx_congr fun x hx => far_stab d a x (t.kid hx) (by omega)
def Far (w : W) : Nat := far 7 w
theorem Far_eq {w : W} (t : T7 w) : Far w = mx Far (kids w) := by
  obtain ⟨d, hd, t⟩ := t
  cases d with
  | zero => rw [t.kid0]; show mx (far 6) (kids w) = _; rw [t.kid0]; rfl
  | succ d =>
    show mx (far 6) (kids w) = mx (far 7) (kids w)
    exact mx_congr fun x hx => by rw [far_stab d 6 x (t.kid hx) (by omega), far_stab d 7 x (t.kid hx) (by omega)]
theorem mx_app {f : W → Nat} : ∀ {a b : List W}, mx f (a ++ b) = max (mx f a) (mx f b)
  | [], b => by simp [mx]
  | x :: a, b => by
    rw [List.cons_append]
    simp only [mx]
    rw [mx_app (a := a)]; omega
theorem mx_row : ∀ {row : List W}, row ≠ [] → (∀ x ∈ row, T7 x) → mx Far row = 1 + mx Far (row.flatMap kids)
  | [], h, _ => absurd rfl h
  | x :: l, _, h => by
    rw [List.flatMap_cons, mx_app, ← Far_eq (h x (by simp))]
    simp only [mx]
    by_cases c : l = []
    · subst c; simp [mx]
    · rw [mx_row c fun y hy => h y (by simp [hy])]; omega
theorem deep_spec {n : Nat} {w : W} {h : MH} (hn : 1000000 ≤ n) (t : T7 w) : Tl (f_deep n [w] h) fun v h' => v = .int (Far w) ∧ Ext h h' := by
  unfold f_deep B_deep
  simp only [wp_c, wp_var, slotK_some, wp_op, wp_un, wp_b, asB_bl, wp_tr, asT_some, wp_yes, wp_and, wp_or, wp_not, wp_caseB, wp_andV, wp_orV, wp_notV, wp_if, wp_nil, wp_cons, wp_tup, wp_lst, wp_cb, wp_call, wp_m0, wp_m1, wp_ml0, wp_ml, wp_isi, wp_isi2, wp_nopart, asI_int, wp_part, wp_sl, wp_seq, seqK_nx, seqK_rt, seqK_bk, seqK_ct, wp_next, wp_brk, wp_cont, wp_drop, wp_ret, wp_ifS, wp_set, wp_par, wp_par3, wp_asg, wp_pat, asP_some, wp_sub, asH_some, wp_aug, wp_for, wp_while, wp_lc, wp_lc2, wp_def, defK_rt, defK_nx, wp_miseq, srcK_ref, srcK_tup, srcK_str, rngK_int, wp_range1, wp_enum, enumK_ref, Tl_some, Ts_some, loopK_nx, loopK_ct, loopK_bk, loopK_rt, ixK_some, atI_k0, atI_k1, atI_k2, atI_k3, atI_k4, atI_k5, atI_k6, atI_k8, atI_k9, L2.atI_last, atI_n, g_ix_t, g_ix_s, g_ix_r, cIx_l, cIx_z, cIx_d, cIx_f, g_sub, g_lt, g_le, g_gt, g_ge, g_addi, g_addI, g_adds, g_addt, g_mul, g_muls, g_fdiv, g_mod, g_neg, g_eqs, g_nes, g_eqi, g_nei, g_min, g_max, g_int_b, g_int_i, g_is_non, g_cuts, g_cutt, g_lens, g_lent, g_lenr, cLen_l, cLen_z, g_tupt, g_tupr, cTup_l, g_listt, isLst_r, lstAt_r, cLst_l, cLst_z, tr_r, cTr_l, tr_b, g_set, cSet_l, cSet_d, jK_some, kK_some, ixN_0, ixN_1, ixN_2, isS, mwipe, mPat, mPats, List.getElem?_cons_zero, List.getElem?_cons_succ, List.set_cons_zero, List.set_cons_succ, List.map_cons, List.map_nil, List.length_cons, List.length_nil, List.replicate_succ, List.replicate_zero, List.cons_append, List.nil_append, Nat.reduceAdd, Nat.reduceSub, Nat.reduceLeDiff, Nat.zero_add, Option.map_some, if_true, Bool.false_eq_true, if_false, true_and, and_true, decide_eq_true_eq, reduceIte, reduceCtorEq]
  obtain ⟨d, hd, tm⟩ := t
  refine (terms_in_spec (by omega) tm).by ?_
  rintro _ h1 ⟨rfl, x1, e1⟩
  try simp only [wp_c, wp_var, slotK_some, wp_op, wp_un, wp_b, asB_bl, wp_tr, asT_some, wp_yes, wp_and, wp_or, wp_not, wp_caseB, wp_andV, wp_orV, wp_notV, wp_if, wp_nil, wp_cons, wp_tup, wp_lst, wp_cb, wp_call, wp_m0, wp_m1, wp_ml0, wp_ml, wp_isi, wp_isi2, wp_nopart, asI_int, wp_part, wp_sl, wp_seq, seqK_nx, seqK_rt, seqK_bk, seqK_ct, wp_next, wp_brk, wp_cont, wp_drop, wp_ret, wp_ifS, wp_set, wp_par, wp_par3, wp_asg, wp_pat, asP_some, wp_sub, asH_some, wp_aug, wp_for, wp_while, wp_lc, wp_lc2, wp_def, defK_rt, defK_nx, wp_miseq, srcK_ref, srcK_tup, srcK_str, rngK_int, wp_range1, wp_enum, enumK_ref, Tl_some, Ts_some, loopK_nx, loopK_ct, loopK_bk, loopK_rt, ixK_some, atI_k0, atI_k1, atI_k2, atI_k3, atI_k4, atI_k5, atI_k6, atI_k8, atI_k9, L2.atI_last, atI_n, g_ix_t, g_ix_s, g_ix_r, cIx_l, cIx_z, cIx_d, cIx_f, g_sub, g_lt, g_le, g_gt, g_ge, g_addi, g_addI, g_adds, g_addt, g_mul, g_muls, g_fdiv, g_mod, g_neg, g_eqs, g_nes, g_eqi, g_nei, g_min, g_max, g_int_b, g_int_i, g_is_non, g_cuts, g_cutt, g_lens, g_lent, g_lenr, cLen_l, cLen_z, g_tupt, g_tupr, cTup_l, g_listt, isLst_r, lstAt_r, cLst_l, cLst_z, tr_r, cTr_l, tr_b, g_set, cSet_l, cSet_d, jK_some, kK_some, ixN_0, ixN_1, ixN_2, isS, mwipe, mPat, mPats, List.getElem?_cons_zero, List.getElem?_cons_succ, List.set_cons_zero, List.set_cons_succ, List.map_cons, List.map_nil, List.length_cons, List.length_nil, List.replicate_succ, List.replicate_zero, List.cons_append, List.nil_append, Nat.reduceAdd, Nat.reduceSub, Nat.reduceLeDiff, Nat.zero_add, Option.map_some, if_true, Bool.false_eq_true, if_false, true_and, and_true, decide_eq_true_eq, reduceIte, reduceCtorEq]
  have tk : ∀ x ∈ kids w, T7 x := fun x hx => T7.kid ⟨d, hd, tm⟩ hx
  have size : ((kids w).flatMap Pre).length ≤ 3 * 16384 := Nat.le_trans (flat_len (k := 16384) fun x hx => Pre_len (tk x hx)) (Nat.mul_le_mul_right _ tm.len.2)
  have len_le : ∀ {l : List W}, (∀ x ∈ l, T7 x) → l.length + ((l.flatMap kids).flatMap Pre).length ≤ (l.flatMap Pre).length := fun {l} hl => by
    induction l with
    | nil => simp
    | cons z l ih =>
      rw [List.flatMap_cons, List.flatMap_append, List.flatMap_cons, List.length_append, List.length_append, List.length_cons, Pre_eq (hl z (by simp)), List.length_cons]
      have := ih fun x hx => hl x (by simp [hx])
      omega
  have Fm : mx Far (kids w) ≤ 3 * 16384 := by
    have : ∀ (m : Nat) (l : List W), mx Far l ≤ m → (∀ x ∈ l, T7 x) → mx Far l ≤ (l.flatMap Pre).length := fun m => by
      induction m with
      | zero => intro l hl _; omega
      | succ m ih =>
        intro l hl tl
        by_cases c : l = []
        · subst c; simp [mx]
        · rw [mx_row c tl] at hl ⊢
          have tl2 : ∀ x ∈ l.flatMap kids, T7 x := fun x hx => by
            obtain ⟨y, hy, hx⟩ := List.mem_flatMap.mp hx
            exact (tl y hy).kid hx
          have a := ih _ (by omega) tl2
          have b := len_le tl
          have : 0 < l.length := List.length_pos_iff.mpr c
          omega
    exact Nat.le_trans (this _ _ (Nat.le_refl _) tk) size
  refine Ts.while_ (mx Far (kids w)) (fun m s g => ∃ (fl r : Nat) (row : List W) (u3 u4 : Option W), s = [some w, some (.int fl), some (.ref r), u3, u4] ∧ g[r]? = some (.lst row) ∧ Ext h g ∧ (∀ x ∈ row, T7 x) ∧ fl + mx Far row = mx Far (kids w) ∧ m = mx Far row ∧ (row.flatMap Pre).length ≤ 3 * 16384)
    ⟨0, _, kids w, _, _, rfl, e1, x1, tk, by omega, rfl, size⟩ (by omega) ?_
  rintro m s g ⟨fl, r, row, u3, u4, rfl, eR, X, tr, hf, rfl, sz⟩
  simp only [wp_c, wp_var, slotK_some, wp_op, wp_un, wp_b, asB_bl, wp_tr, asT_some, wp_yes, wp_and, wp_or, wp_not, wp_caseB, wp_andV, wp_orV, wp_notV, wp_if, wp_nil, wp_cons, wp_tup, wp_lst, wp_cb, wp_call, wp_m0, wp_m1, wp_ml0, wp_ml, wp_isi, wp_isi2, wp_nopart, asI_int, wp_part, wp_sl, wp_seq, seqK_nx, seqK_rt, seqK_bk, seqK_ct, wp_next, wp_brk, wp_cont, wp_drop, wp_ret, wp_ifS, wp_set, wp_par, wp_par3, wp_asg, wp_pat, asP_some, wp_sub, asH_some, wp_aug, wp_for, wp_while, wp_lc, wp_lc2, wp_def, defK_rt, defK_nx, wp_miseq, srcK_ref, srcK_tup, srcK_str, rngK_int, wp_range1, wp_enum, enumK_ref, Tl_some, Ts_some, loopK_nx, loopK_ct, loopK_bk, loopK_rt, ixK_some, atI_k0, atI_k1, atI_k2, atI_k3, atI_k4, atI_k5, atI_k6, atI_k8, atI_k9, L2.atI_last, atI_n, g_ix_t, g_ix_s, g_ix_r, cIx_l, cIx_z, cIx_d, cIx_f, g_sub, g_lt, g_le, g_gt, g_ge, g_addi, g_addI, g_adds, g_addt, g_mul, g_muls, g_fdiv, g_mod, g_neg, g_eqs, g_nes, g_eqi, g_nei, g_min, g_max, g_int_b, g_int_i, g_is_non, g_cuts, g_cutt, g_lens, g_lent, g_lenr, cLen_l, cLen_z, g_tupt, g_tupr, cTup_l, g_listt, isLst_r, lstAt_r, cLst_l, cLst_z, tr_r, cTr_l, tr_b, g_set, cSet_l, cSet_d, jK_some, kK_some, ixN_0, ixN_1, ixN_2, isS, mwipe, mPat, mPats, List.getElem?_cons_zero, List.getElem?_cons_succ, List.set_cons_zero, List.set_cons_succ, List.map_cons, List.map_nil, List.length_cons, List.length_nil, List.replicate_succ, List.replicate_zero, List.cons_append, List.nil_append, Nat.reduceAdd, Nat.reduceSub, Nat.reduceLeDiff, Nat.zero_add, Option.map_some, if_true, Bool.false_eq_true, if_false, true_and, and_true, decide_eq_true_eq, reduceIte, reduceCtorEq, eR]
  by_cases c : row = []
  · subst c
    simp only [List.isEmpty_nil, Bool.not_true, wp_c, wp_var, slotK_some, wp_op, wp_un, wp_b, asB_bl, wp_tr, asT_some, wp_yes, wp_and, wp_or, wp_not, wp_caseB, wp_andV, wp_orV, wp_notV, wp_if, wp_nil, wp_cons, wp_tup, wp_lst, wp_cb, wp_call, wp_m0, wp_m1, wp_ml0, wp_ml, wp_isi, wp_isi2, wp_nopart, asI_int, wp_part, wp_sl, wp_seq, seqK_nx, seqK_rt, seqK_bk, seqK_ct, wp_next, wp_brk, wp_cont, wp_drop, wp_ret, wp_ifS, wp_set, wp_par, wp_par3, wp_asg, wp_pat, asP_some, wp_sub, asH_some, wp_aug, wp_for, wp_while, wp_lc, wp_lc2, wp_def, defK_rt, defK_nx, wp_miseq, srcK_ref, srcK_tup, srcK_str, rngK_int, wp_range1, wp_enum, enumK_ref, Tl_some, Ts_some, loopK_nx, loopK_ct, loopK_bk, loopK_rt, ixK_some, atI_k0, atI_k1, atI_k2, atI_k3, atI_k4, atI_k5, atI_k6, atI_k8, atI_k9, L2.atI_last, atI_n, g_ix_t, g_ix_s, g_ix_r, cIx_l, cIx_z, cIx_d, cIx_f, g_sub, g_lt, g_le, g_gt, g_ge, g_addi, g_addI, g_adds, g_addt, g_mul, g_muls, g_fdiv, g_mod, g_neg, g_eqs, g_nes, g_eqi, g_nei, g_min, g_max, g_int_b, g_int_i, g_is_non, g_cuts, g_cutt, g_lens, g_lent, g_lenr, cLen_l, cLen_z, g_tupt, g_tupr, cTup_l, g_listt, isLst_r, lstAt_r, cLst_l, cLst_z, tr_r, cTr_l, tr_b, g_set, cSet_l, cSet_d, jK_some, kK_some, ixN_0, ixN_1, ixN_2, isS, mwipe, mPat, mPats, List.getElem?_cons_zero, List.getElem?_cons_succ, List.set_cons_zero, List.set_cons_succ, List.map_cons, List.map_nil, List.length_cons, List.length_nil, List.replicate_succ, List.replicate_zero, List.cons_append, List.nil_append, Nat.reduceAdd, Nat.reduceSub, Nat.reduceLeDiff, Nat.zero_add, Option.map_some, if_true, Bool.false_eq_true, if_false, true_and, and_true, decide_eq_true_eq, reduceIte, reduceCtorEq]
    refine ⟨?_, X⟩
    rw [Far_eq ⟨d, hd, tm⟩, ← hf]; simp [mx]
  · have ne : row.isEmpty = false := by cases row with
      | nil => exact absurd rfl c
      | cons _ _ => rfl
    simp only [ne, Bool.not_false, wp_c, wp_var, slotK_some, wp_op, wp_un, wp_b, asB_bl, wp_tr, asT_some, wp_yes, wp_and, wp_or, wp_not, wp_caseB, wp_andV, wp_orV, wp_notV, wp_if, wp_nil, wp_cons, wp_tup, wp_lst, wp_cb, wp_call, wp_m0, wp_m1, wp_ml0, wp_ml, wp_isi, wp_isi2, wp_nopart, asI_int, wp_part, wp_sl, wp_seq, seqK_nx, seqK_rt, seqK_bk, seqK_ct, wp_next, wp_brk, wp_cont, wp_drop, wp_ret, wp_ifS, wp_set, wp_par, wp_par3, wp_asg, wp_pat, asP_some, wp_sub, asH_some, wp_aug, wp_for, wp_while, wp_lc, wp_lc2, wp_def, defK_rt, defK_nx, wp_miseq, srcK_ref, srcK_tup, srcK_str, rngK_int, wp_range1, wp_enum, enumK_ref, Tl_some, Ts_some, loopK_nx, loopK_ct, loopK_bk, loopK_rt, ixK_some, atI_k0, atI_k1, atI_k2, atI_k3, atI_k4, atI_k5, atI_k6, atI_k8, atI_k9, L2.atI_last, atI_n, g_ix_t, g_ix_s, g_ix_r, cIx_l, cIx_z, cIx_d, cIx_f, g_sub, g_lt, g_le, g_gt, g_ge, g_addi, g_addI, g_adds, g_addt, g_mul, g_muls, g_fdiv, g_mod, g_neg, g_eqs, g_nes, g_eqi, g_nei, g_min, g_max, g_int_b, g_int_i, g_is_non, g_cuts, g_cutt, g_lens, g_lent, g_lenr, cLen_l, cLen_z, g_tupt, g_tupr, cTup_l, g_listt, isLst_r, lstAt_r, cLst_l, cLst_z, tr_r, cTr_l, tr_b, g_set, cSet_l, cSet_d, jK_some, kK_some, ixN_0, ixN_1, ixN_2, isS, mwipe, mPat, mPats, List.getElem?_cons_zero, List.getElem?_cons_succ, List.set_cons_zero, List.set_cons_succ, List.map_cons, List.map_nil, List.length_cons, List.length_nil, List.replicate_succ, List.replicate_zero, List.cons_append, List.nil_append, Nat.reduceAdd, Nat.reduceSub, Nat.reduceLeDiff, Nat.zero_add, Option.map_some, if_true, Bool.false_eq_true, if_false, true_and, and_true, decide_eq_true_eq, reduceIte, reduceCtorEq, eR]
    have ll := len_le tr
    have lr : row.length ≤ 3 * 16384 := by omega
    have fk : ∀ {l : List W}, (∀ x ∈ l, T7 x) → l.length ≤ (l.flatMap Pre).length := fun hl => by have := len_le hl; omega
    have tl2 : ∀ x ∈ row.flatMap kids, T7 x := fun x hx => by
      obtain ⟨y, hy, hx⟩ := List.mem_flatMap.mp hx
      exact (tr y hy).kid hx
    refine Tl.lc2_e (xs := row) kids (fun _ x => is_cell (x.get eR)) (by omega) (by have := fk tl2; omega) ?_ ?_
    · intro x hx h2 x2 lg
      refine ⟨_, rfl, ?_⟩
      obtain ⟨dx, hdx, tx⟩ := tr x hx
      simp only [wp_c, wp_var, slotK_some, wp_op, wp_un, wp_b, asB_bl, wp_tr, asT_some, wp_yes, wp_and, wp_or, wp_not, wp_caseB, wp_andV, wp_orV, wp_notV, wp_if, wp_nil, wp_cons, wp_tup, wp_lst, wp_cb, wp_call, wp_m0, wp_m1, wp_ml0, wp_ml, wp_isi, wp_isi2, wp_nopart, asI_int, wp_part, wp_sl, wp_seq, seqK_nx, seqK_rt, seqK_bk, seqK_ct, wp_next, wp_brk, wp_cont, wp_drop, wp_ret, wp_ifS, wp_set, wp_par, wp_par3, wp_asg, wp_pat, asP_some, wp_sub, asH_some, wp_aug, wp_for, wp_while, wp_lc, wp_lc2, wp_def, defK_rt, defK_nx, wp_miseq, srcK_ref, srcK_tup, srcK_str, rngK_int, wp_range1, wp_enum, enumK_ref, Tl_some, Ts_some, loopK_nx, loopK_ct, loopK_bk, loopK_rt, ixK_some, atI_k0, atI_k1, atI_k2, atI_k3, atI_k4, atI_k5, atI_k6, atI_k8, atI_k9, L2.atI_last, atI_n, g_ix_t, g_ix_s, g_ix_r, cIx_l, cIx_z, cIx_d, cIx_f, g_sub, g_lt, g_le, g_gt, g_ge, g_addi, g_addI, g_adds, g_addt, g_mul, g_muls, g_fdiv, g_mod, g_neg, g_eqs, g_nes, g_eqi, g_nei, g_min, g_max, g_int_b, g_int_i, g_is_non, g_cuts, g_cutt, g_lens, g_lent, g_lenr, cLen_l, cLen_z, g_tupt, g_tupr, cTup_l, g_listt, isLst_r, lstAt_r, cLst_l, cLst_z, tr_r, cTr_l, tr_b, g_set, cSet_l, cSet_d, jK_some, kK_some, ixN_0, ixN_1, ixN_2, isS, mwipe, mPat, mPats, List.getElem?_cons_zero, List.getElem?_cons_succ, List.set_cons_zero, List.set_cons_succ, List.map_cons, List.map_nil, List.length_cons, List.length_nil, List.replicate_succ, List.replicate_zero, List.cons_append, List.nil_append, Nat.reduceAdd, Nat.reduceSub, Nat.reduceLeDiff, Nat.zero_add, Option.map_some, if_true, Bool.false_eq_true, if_false, true_and, and_true, decide_eq_true_eq, reduceIte, reduceCtorEq]
      refine (terms_in_spec (by omega) tx).by ?_
      rintro _ h3 ⟨rfl, x3, e3⟩
      simp only [wp_c, wp_var, slotK_some, wp_op, wp_un, wp_b, asB_bl, wp_tr, asT_some, wp_yes, wp_and, wp_or, wp_not, wp_caseB, wp_andV, wp_orV, wp_notV, wp_if, wp_nil, wp_cons, wp_tup, wp_lst, wp_cb, wp_call, wp_m0, wp_m1, wp_ml0, wp_ml, wp_isi, wp_isi2, wp_nopart, asI_int, wp_part, wp_sl, wp_seq, seqK_nx, seqK_rt, seqK_bk, seqK_ct, wp_next, wp_brk, wp_cont, wp_drop, wp_ret, wp_ifS, wp_set, wp_par, wp_par3, wp_asg, wp_pat, asP_some, wp_sub, asH_some, wp_aug, wp_for, wp_while, wp_lc, wp_lc2, wp_def, defK_rt, defK_nx, wp_miseq, srcK_ref, srcK_tup, srcK_str, rngK_int, wp_range1, wp_enum, enumK_ref, Tl_some, Ts_some, loopK_nx, loopK_ct, loopK_bk, loopK_rt, ixK_some, atI_k0, atI_k1, atI_k2, atI_k3, atI_k4, atI_k5, atI_k6, atI_k8, atI_k9, L2.atI_last, atI_n, g_ix_t, g_ix_s, g_ix_r, cIx_l, cIx_z, cIx_d, cIx_f, g_sub, g_lt, g_le, g_gt, g_ge, g_addi, g_addI, g_adds, g_addt, g_mul, g_muls, g_fdiv, g_mod, g_neg, g_eqs, g_nes, g_eqi, g_nei, g_min, g_max, g_int_b, g_int_i, g_is_non, g_cuts, g_cutt, g_lens, g_lent, g_lenr, cLen_l, cLen_z, g_tupt, g_tupr, cTup_l, g_listt, isLst_r, lstAt_r, cLst_l, cLst_z, tr_r, cTr_l, tr_b, g_set, cSet_l, cSet_d, jK_some, kK_some, ixN_0, ixN_1, ixN_2, isS, mwipe, mPat, mPats, List.getElem?_cons_zero, List.getElem?_cons_succ, List.set_cons_zero, List.set_cons_succ, List.map_cons, List.map_nil, List.length_cons, List.length_nil, List.replicate_succ, List.replicate_zero, List.cons_append, List.nil_append, Nat.reduceAdd, Nat.reduceSub, Nat.reduceLeDiff, Nat.zero_add, Option.map_some, if_true, Bool.false_eq_true, if_false, true_and, and_true, decide_eq_true_eq, reduceIte, reduceCtorEq, e3]
      have lx := x2.len
      refine ⟨x3, fun h4 F => is_cell (F.get e3 (by show ¬ (h2.length = g.length); omega)), by have := tx.len.2; omega, fun y hy h4 F => ⟨_, rfl, rfl⟩⟩
    · intro h2 x2 e2
      try simp only [wp_c, wp_var, slotK_some, wp_op, wp_un, wp_b, asB_bl, wp_tr, asT_some, wp_yes, wp_and, wp_or, wp_not, wp_caseB, wp_andV, wp_orV, wp_notV, wp_if, wp_nil, wp_cons, wp_tup, wp_lst, wp_cb, wp_call, wp_m0, wp_m1, wp_ml0, wp_ml, wp_isi, wp_isi2, wp_nopart, asI_int, wp_part, wp_sl, wp_seq, seqK_nx, seqK_rt, seqK_bk, seqK_ct, wp_next, wp_brk, wp_cont, wp_drop, wp_ret, wp_ifS, wp_set, wp_par, wp_par3, wp_asg, wp_pat, asP_some, wp_sub, asH_some, wp_aug, wp_for, wp_while, wp_lc, wp_lc2, wp_def, defK_rt, defK_nx, wp_miseq, srcK_ref, srcK_tup, srcK_str, rngK_int, wp_range1, wp_enum, enumK_ref, Tl_some, Ts_some, loopK_nx, loopK_ct, loopK_bk, loopK_rt, ixK_some, atI_k0, atI_k1, atI_k2, atI_k3, atI_k4, atI_k5, atI_k6, atI_k8, atI_k9, L2.atI_last, atI_n, g_ix_t, g_ix_s, g_ix_r, cIx_l, cIx_z, cIx_d, cIx_f, g_sub, g_lt, g_le, g_gt, g_ge, g_addi, g_addI, g_adds, g_addt, g_mul, g_muls, g_fdiv, g_mod, g_neg, g_eqs, g_nes, g_eqi, g_nei, g_min, g_max, g_int_b, g_int_i, g_is_non, g_cuts, g_cutt, g_lens, g_lent, g_lenr, cLen_l, cLen_z, g_tupt, g_tupr, cTup_l, g_listt, isLst_r, lstAt_r, cLst_l, cLst_z, tr_r, cTr_l, tr_b, g_set, cSet_l, cSet_d, jK_some, kK_some, ixN_0, ixN_1, ixN_2, isS, mwipe, mPat, mPats, List.getElem?_cons_zero, List.getElem?_cons_succ, List.set_cons_zero, List.set_cons_succ, List.map_cons, List.map_nil, List.length_cons, List.length_nil, List.replicate_succ, List.replicate_zero, List.cons_append, List.nil_append, Nat.reduceAdd, Nat.reduceSub, Nat.reduceLeDiff, Nat.zero_add, Option.map_some, if_true, Bool.false_eq_true, if_false, true_and, and_true, decide_eq_true_eq, reduceIte, reduceCtorEq]
      have mr := mx_row c tr
      refine ⟨mx Far (row.flatMap kids), by omega, fl + 1, g.length, row.flatMap kids, _, _, rfl, e2, X.trans x2, tl2, by omega, rfl, by omega⟩
end K03

namespace K03
open PySem PySem.Spec PyProof.Rows L2 Mi
mutual
def sz : W → Nat
  | .tup xs => 1 + szs xs
  | _ => 1
def szs : List W → Nat
  | [] => 0
  | x :: xs => sz x + szs xs
end
theorem szs_app : ∀ {a b : List W}, szs (a ++ b) = szs a + szs b
  | [], b => by simp [szs]
  | x :: a, b => by rw [List.cons_append]; simp only [szs]; rw [szs_app (a := a)]; omega
theorem sz_pos : ∀ w : W, 1 ≤ sz w
  | .tup xs => by simp [sz]
  | .non => by simp [sz]
  | .bl _ => by simp [sz]
  | .int _ => by simp [sz]
  | .str _ => by simp [sz]
  | .ref _ => by simp [sz]
theorem szs_len : ∀ {l : List W}, l.length ≤ szs l
  | [] => by simp
  | x :: l => by
    simp only [szs, List.length_cons]
    have := sz_pos x
    have := szs_len (l := l)
    omega
theorem szs_bound {S : Nat} : ∀ {a : List W}, (∀ x ∈ a, isP x = true ∨ (isT x = true ∧ sz x ≤ S)) → szs a ≤ a.length + (a.filter isT).length * S
  | [], _ => by simp [szs]
  | x :: a, h => by
    have ih := szs_bound (a := a) fun y hy => h y (by simp [hy])
    simp only [szs, List.length_cons]
    rcases h x (by simp) with q | ⟨q, r⟩
    · have e : sz x = 1 := by cases x <;> first | (simp [sz]; done) | cases q
      have f : isT x = false := by cases x <;> first | rfl | cases q
      rw [List.filter_cons, f]
      simp only [Bool.false_eq_true, if_false]
      omega
    · rw [List.filter_cons, q]
      simp only [if_true, List.length_cons, Nat.succ_mul]
      omega
theorem sz_tm : ∀ (d : Nat) (w : W), Tm d w → sz w ≤ 12 * 4 ^ d
  | 0, w, t => by
    cases t; simp [sz, szs]
  | d + 1, w, t => by
    have e : 0 < 4 ^ d := Nat.pow_pos (by decide)
    rw [Nat.pow_succ]
    cases t with
    | name hx => simp [sz, szs]; omega
    | @call _ f a hf k l =>
      have := szs_bound (S := 12 * 4 ^ d) (a := a) fun x hx => .inr ⟨(k x hx).isT, sz_tm d x (k x hx)⟩
      have b : (a.filter isT).length * (12 * 4 ^ d) ≤ 3 * (12 * 4 ^ d) := Nat.mul_le_mul_right _ (Nat.le_trans (List.length_filter_le _ _) l)
      simp only [sz, szs]
      omega
    | @use _ t h a ht hh kp k l l3 =>
      have := szs_bound (S := 12 * 4 ^ d) (a := a) fun x hx => by
        cases q : isP x with
        | true => exact .inl rfl
        | false => exact .inr ⟨(k x hx q).isT, sz_tm d x (k x hx q)⟩
      have b : (a.filter isT).length * (12 * 4 ^ d) ≤ 3 * (12 * 4 ^ d) := Nat.mul_le_mul_right _ l3
      simp only [sz, szs]
      omega
theorem szs_flat {f : W → List W} {k : Nat} : ∀ {l : List W}, (∀ x ∈ l, szs (f x) ≤ k) → szs (l.flatMap f) ≤ l.length * k
  | [], _ => by simp [szs]
  | x :: l, h => by
    rw [List.flatMap_cons, szs_app, List.length_cons, Nat.succ_mul]
    have a := h x (by simp)
    have b := szs_flat (l := l) fun y hy => h y (by simp [hy])
    omega
theorem szs_pre : ∀ (d : Nat) (w : W), Tm d w → szs (pre d w) ≤ 48 * 4 ^ d
  | 0, w, t => by
    cases t; simp [pre, sz, szs]
  | d + 1, w, t => by
    show szs (w :: (kids w).flatMap (pre d)) ≤ _
    simp only [szs]
    have a := szs_flat (f := pre d) (k := 48 * 4 ^ d) (l := kids w) fun x hx => szs_pre d x (t.kid hx)
    have b : (kids w).length * (48 * 4 ^ d) ≤ 3 * (48 * 4 ^ d) := Nat.mul_le_mul_right _ t.len.2
    have c := sz_tm (d + 1) w t
    rw [Nat.pow_succ] at c ⊢
    omega
theorem szs_Pre {w : W} (t : T7 w) : szs (Pre w) ≤ 800000 := by
  obtain ⟨d, hd, t⟩ := t
  rw [show Pre w = pre d w from pre_stab d 7 w t hd]
  have a := szs_pre d w t
  have b : 4 ^ d ≤ 4 ^ 7 := Nat.pow_le_pow_right (by decide) hd
  have c : 4 ^ 7 = 16384 := by decide
  omega
/-! trees of numbers and texts -/
mutual
def tree : W → Bool
  | .int _ => true
  | .str _ => true
  | .tup xs => trees xs
  | _ => false
def trees : List W → Bool
  | [] => true
  | x :: xs => tree x && trees xs
end
theorem trees_all : ∀ {xs : List W}, trees xs = true ↔ ∀ x ∈ xs, tree x = true
  | [] => by simp [trees]
  | x :: xs => by simp [trees, trees_all (xs := xs)]
theorem tree_tm : ∀ (d : Nat) (w : W), Tm d w → tree w = true
  | 0, w, t => by cases t; simp [tree, trees]
  | d + 1, w, t => by
    cases t with
    | name hx => simp [tree, trees]
    | @call _ f a hf k l =>
      have : trees a = true := trees_all.mpr fun x hx => tree_tm d x (k x hx)
      simp [tree, trees, this]
    | @use _ t h a ht hh kp k l l3 =>
      have : trees a = true := trees_all.mpr fun x hx => by
        cases q : isP x with
        | true => cases x <;> first | (simp [tree]; done) | cases q
        | false => exact tree_tm d x (k x hx q)
      simp [tree, trees, this]
def dbl (us : List W) : List W := us.map fun u => .tup [u, u]
theorem zip_dbl : ∀ {a : List W}, zipW a a = dbl a
  | [] => rfl
  | x :: a => by
    show W.tup [x, x] :: zipW a a = W.tup [x, x] :: dbl a
    rw [zip_dbl (a := a)]
theorem dbl_ok {us : List W} (h : ∀ u ∈ us, okT u = true ∧ dpW u ≤ 20) : okTs (dbl us) = true ∧ dpWs (dbl us) ≤ 60 := by
  constructor
  · refine okTs_all.mpr fun x hx => ?_
    obtain ⟨u, hu, rfl⟩ := List.mem_map.mp hx
    simp [okT, okTs, (h u hu).1]
  · refine dpWs_le.mpr fun x hx => ?_
    obtain ⟨u, hu, rfl⟩ := List.mem_map.mp hx
    have := (h u hu).2
    simp [dpW, dpWs]; omega
theorem dat_pair {h : MH} {p q : Nat} {xs : List W} (e1 : h[p]? = some (.lst xs)) (e2 : h[q]? = some (.lst xs)) (ok : ∀ x ∈ xs, okT x = true ∧ dpW x ≤ 20) : DatOk h (.tup [.ref p, .ref q]) := by
  have a : okTs xs = true := okTs_all.mpr fun x hx => (ok x hx).1
  have b : dpWs xs ≤ 20 := dpWs_le.mpr fun x hx => (ok x hx).2
  obtain ⟨c, d⟩ := dts_lay xs a
  have f1 : toD h 62 (.ref p) = some (.list (dtWs xs)) := by unfold toD; rw [lstAt_lst e1]; simp [toDs_tr xs 61 a (by omega)]
  have f2 : toD h 62 (.ref q) = some (.list (dtWs xs)) := by unfold toD; rw [lstAt_lst e2]; simp [toDs_tr xs 61 a (by omega)]
  refine ⟨.tuple [.list (dtWs xs), .list (dtWs xs)], ?_, ?_, ?_⟩
  · unfold toD; simp [toDs, f1, f2]
  · simp [PyData.canLay0, PyData.canLayAll0, c]
  · simp [PyData.depth, PyData.depthAll]; omega
theorem g_neb {h : MH} {a b : Bool} : gNe (.bl a) (.bl b) h = some (.bl (!(a == b)), h) := by
  have : eqW (.bl a) (.bl b) h = some (a == b) := by
    show eqD _ _ _ = _
    unfold eqD
    rw [toD_flat rfl, toD_flat rfl]
    simp [flD, SeqAt.shaped, PyData.canLay0, PyData.depth, PyData.eqv]
  simp [gNe, this]
theorem k1 : kitB2 "tuple" "tuple" "list" = some true := by decide +kernel
theorem k2 : kitB2 "list" "tuple" "list" = some true := by decide +kernel
theorem k3 : kitB2 "int" "tuple" "list" = some false := by decide +kernel
theorem k4 : kitB2 "str" "tuple" "list" = some false := by decide +kernel
theorem k5 : kitB "int" "bool" = some false := by decide +kernel
theorem k6 : kitB "str" "bool" = some false := by decide +kernel
theorem k7 : kitB "tuple" "list" = some false := by decide +kernel
theorem k8 : kitB "list" "tuple" = some false := by decide +kernel
theorem k9 : kitB "list" "list" = some true := by decide +kernel
def gZip : GA := fun xs h1 => match xs with
  | [.tup a, .tup b] => Mi.newL (zipW a b) h1
  | [.ref a, .ref b] => match lstAt h1 a, lstAt h1 b with
    | some u, some v => Mi.newL (zipW u v) h1
    | _, _ => none
  | _ => none
theorem wp_zip {fr : MA} {n : Nat} {s : MS} {h : MH} {Q : W → MH → Prop} : Tl (mListZip fr n s h) Q = Tl (fr n s h) fun xs h1 => Tl (gZip xs h1) Q := by
  unfold mListZip
  rw [Tl_andThen]
  rfl
theorem g_zipt {a b : List W} {h : MH} : gZip [.tup a, .tup b] h = Mi.newL (zipW a b) h := rfl
theorem g_zipl {a b : Nat} {xs ys : List W} {h : MH} (e1 : h[a]? = some (.lst xs)) (e2 : h[b]? = some (.lst ys)) : gZip [.ref a, .ref b] h = Mi.newL (zipW xs ys) h := by
  simp only [gZip, lstAt_lst e1, lstAt_lst e2]
theorem ty_lst {h : MH} {p : Nat} {xs : List W} (e : h[p]? = some (.lst xs)) : tyW h (.ref p) = some "list" := by simp [tyW, e]
theorem alike_spec {n p q : Nat} {h : MH} {xs : List W} (hn : 10000000 ≤ n) (e1 : h[p]? = some (.lst xs)) (e2 : h[q]? = some (.lst xs)) (ok : ∀ x ∈ xs, okT x = true ∧ dpW x ≤ 20) (tr : ∀ x ∈ xs, tree x = true) (hs : szs xs ≤ 800000) :
    Tl (f__law_alike n [.ref p, .ref q] h) fun v h' => v = .bl true ∧ Ext h h' := by
  unfold f__law_alike B__law_alike
  simp only [wp_c, wp_var, slotK_some, wp_op, wp_un, wp_b, asB_bl, wp_tr, asT_some, wp_yes, wp_and, wp_or, wp_not, wp_caseB, wp_andV, wp_orV, wp_notV, wp_if, wp_nil, wp_cons, wp_tup, wp_lst, wp_cb, wp_call, wp_m0, wp_m1, wp_ml0, wp_ml, wp_isi, wp_isi2, wp_nopart, asI_int, wp_part, wp_sl, wp_seq, seqK_nx, seqK_rt, seqK_bk, seqK_ct, wp_next, wp_brk, wp_cont, wp_drop, wp_ret, wp_ifS, wp_set, wp_par, wp_par3, wp_asg, wp_pat, asP_some, wp_sub, asH_some, wp_aug, wp_for, wp_while, wp_lc, wp_lc2, wp_def, defK_rt, defK_nx, wp_miseq, srcK_ref, srcK_tup, srcK_str, rngK_int, wp_range1, wp_enum, enumK_ref, Tl_some, Ts_some, loopK_nx, loopK_ct, loopK_bk, loopK_rt, ixK_some, atI_k0, atI_k1, atI_k2, atI_k3, atI_k4, atI_k5, atI_k6, atI_k8, atI_k9, L2.atI_last, atI_n, g_ix_t, g_ix_s, g_ix_r, cIx_l, cIx_z, cIx_d, cIx_f, g_sub, g_lt, g_le, g_gt, g_ge, g_addi, g_addI, g_adds, g_addt, g_mul, g_muls, g_fdiv, g_mod, g_neg, g_eqs, g_nes, g_eqi, g_nei, g_min, g_max, g_int_b, g_int_i, g_is_non, g_cuts, g_cutt, g_lens, g_lent, g_lenr, cLen_l, cLen_z, g_tupt, g_tupr, cTup_l, g_listt, isLst_r, lstAt_r, cLst_l, cLst_z, tr_r, cTr_l, tr_b, g_set, cSet_l, cSet_d, jK_some, kK_some, ixN_0, ixN_1, ixN_2, isS, mwipe, mPat, mPats, List.getElem?_cons_zero, List.getElem?_cons_succ, List.set_cons_zero, List.set_cons_succ, List.map_cons, List.map_nil, List.length_cons, List.length_nil, List.replicate_succ, List.replicate_zero, List.cons_append, List.nil_append, Nat.reduceAdd, Nat.reduceSub, Nat.reduceLeDiff, Nat.zero_add, Option.map_some, if_true, Bool.false_eq_true, if_false, true_and, and_true, decide_eq_true_eq, reduceIte, reduceCtorEq]
  repeat (refine ⟨by decide, ?_⟩)
  refine Tl.newL (by simp) fun h1 x1 l1 a1 => ?_
  try simp only [wp_c, wp_var, slotK_some, wp_op, wp_un, wp_b, asB_bl, wp_tr, asT_some, wp_yes, wp_and, wp_or, wp_not, wp_caseB, wp_andV, wp_orV, wp_notV, wp_if, wp_nil, wp_cons, wp_tup, wp_lst, wp_cb, wp_call, wp_m0, wp_m1, wp_ml0, wp_ml, wp_isi, wp_isi2, wp_nopart, asI_int, wp_part, wp_sl, wp_seq, seqK_nx, seqK_rt, seqK_bk, seqK_ct, wp_next, wp_brk, wp_cont, wp_drop, wp_ret, wp_ifS, wp_set, wp_par, wp_par3, wp_asg, wp_pat, asP_some, wp_sub, asH_some, wp_aug, wp_for, wp_while, wp_lc, wp_lc2, wp_def, defK_rt, defK_nx, wp_miseq, srcK_ref, srcK_tup, srcK_str, rngK_int, wp_range1, wp_enum, enumK_ref, Tl_some, Ts_some, loopK_nx, loopK_ct, loopK_bk, loopK_rt, ixK_some, atI_k0, atI_k1, atI_k2, atI_k3, atI_k4, atI_k5, atI_k6, atI_k8, atI_k9, L2.atI_last, atI_n, g_ix_t, g_ix_s, g_ix_r, cIx_l, cIx_z, cIx_d, cIx_f, g_sub, g_lt, g_le, g_gt, g_ge, g_addi, g_addI, g_adds, g_addt, g_mul, g_muls, g_fdiv, g_mod, g_neg, g_eqs, g_nes, g_eqi, g_nei, g_min, g_max, g_int_b, g_int_i, g_is_non, g_cuts, g_cutt, g_lens, g_lent, g_lenr, cLen_l, cLen_z, g_tupt, g_tupr, cTup_l, g_listt, isLst_r, lstAt_r, cLst_l, cLst_z, tr_r, cTr_l, tr_b, g_set, cSet_l, cSet_d, jK_some, kK_some, ixN_0, ixN_1, ixN_2, isS, mwipe, mPat, mPats, List.getElem?_cons_zero, List.getElem?_cons_succ, List.set_cons_zero, List.set_cons_succ, List.map_cons, List.map_nil, List.length_cons, List.length_nil, List.replicate_succ, List.replicate_zero, List.cons_append, List.nil_append, Nat.reduceAdd, Nat.reduceSub, Nat.reduceLeDiff, Nat.zero_add, Option.map_some, if_true, Bool.false_eq_true, if_false, true_and, and_true, decide_eq_true_eq, reduceIte, reduceCtorEq]
  refine Ts.while_ (szs xs + 1) (fun m s g => ∃ (left : List W) (u3 u4 : Option W), s = [some (.ref p), some (.ref q), some (.ref h.length), u3, u4] ∧ g[h.length]? = some (.lst left) ∧ Ext h g ∧ ((left = [.tup [.ref p, .ref q]] ∧ m = szs xs + 1) ∨ ∃ us, left = dbl us ∧ m = szs us ∧ m ≤ 800000 ∧ ∀ u ∈ us, (okT u = true ∧ dpW u ≤ 20) ∧ tree u = true))
    ⟨_, _, _, rfl, a1, x1, .inl ⟨rfl, rfl⟩⟩ (by omega) ?_
  rintro m s g ⟨left, u3, u4, rfl, eL, X, hh⟩
  have lL := lt_of_get eL
  simp only [wp_b, wp_op, wp_var, List.getElem?_cons_succ, List.getElem?_cons_zero, slotK_some, wp_lst, wp_nil]
  rcases hh with ⟨rfl, rfl⟩ | ⟨us, rfl, rfl, hm, hu⟩
  · refine Tl.ne_nilD eL (fun g1 y1 x hx => ?_) fun g1 y1 => ?_
    · rw [List.mem_singleton.mp hx]
      exact dat_pair ((X.trans y1).get e1) ((X.trans y1).get e2) ok
    · simp only [asB_bl, List.isEmpty_cons, Bool.not_false, if_true]
      have eL1 := y1.get eL
      have X1 := X.trans y1
      simp only [wp_c, wp_var, slotK_some, wp_op, wp_un, wp_b, asB_bl, wp_tr, asT_some, wp_yes, wp_and, wp_or, wp_not, wp_caseB, wp_andV, wp_orV, wp_notV, wp_if, wp_nil, wp_cons, wp_tup, wp_lst, wp_cb, wp_call, wp_m0, wp_m1, wp_ml0, wp_ml, wp_isi, wp_isi2, wp_nopart, asI_int, wp_part, wp_sl, wp_seq, seqK_nx, seqK_rt, seqK_bk, seqK_ct, wp_next, wp_brk, wp_cont, wp_drop, wp_ret, wp_ifS, wp_set, wp_par, wp_par3, wp_asg, wp_pat, asP_some, wp_sub, asH_some, wp_aug, wp_for, wp_while, wp_lc, wp_lc2, wp_def, defK_rt, defK_nx, wp_miseq, srcK_ref, srcK_tup, srcK_str, rngK_int, wp_range1, wp_enum, enumK_ref, Tl_some, Ts_some, loopK_nx, loopK_ct, loopK_bk, loopK_rt, ixK_some, atI_k0, atI_k1, atI_k2, atI_k3, atI_k4, atI_k5, atI_k6, atI_k8, atI_k9, L2.atI_last, atI_n, g_ix_t, g_ix_s, g_ix_r, cIx_l, cIx_z, cIx_d, cIx_f, g_sub, g_lt, g_le, g_gt, g_ge, g_addi, g_addI, g_adds, g_addt, g_mul, g_muls, g_fdiv, g_mod, g_neg, g_eqs, g_nes, g_eqi, g_nei, g_min, g_max, g_int_b, g_int_i, g_is_non, g_cuts, g_cutt, g_lens, g_lent, g_lenr, cLen_l, cLen_z, g_tupt, g_tupr, cTup_l, g_listt, isLst_r, lstAt_r, cLst_l, cLst_z, tr_r, cTr_l, tr_b, g_set, cSet_l, cSet_d, jK_some, kK_some, ixN_0, ixN_1, ixN_2, isS, mwipe, mPat, mPats, List.getElem?_cons_zero, List.getElem?_cons_succ, List.set_cons_zero, List.set_cons_succ, List.map_cons, List.map_nil, List.length_cons, List.length_nil, List.replicate_succ, List.replicate_zero, List.cons_append, List.nil_append, Nat.reduceAdd, Nat.reduceSub, Nat.reduceLeDiff, Nat.zero_add, Option.map_some, if_true, Bool.false_eq_true, if_false, true_and, and_true, decide_eq_true_eq, reduceIte, reduceCtorEq, eL1]
      refine Tl.pop (ys := []) eL1 fun g2 c2 a2 => ?_
      have hp : p ≠ h.length := by have := lt_of_get e1; omega
      have hq : q ≠ h.length := by have := lt_of_get e2; omega
      have p2 := c2.get (X1.get e1) hp
      have q2 := c2.get (X1.get e2) hq
      simp only [wp_c, wp_var, slotK_some, wp_op, wp_un, wp_b, asB_bl, wp_tr, asT_some, wp_yes, wp_and, wp_or, wp_not, wp_caseB, wp_andV, wp_orV, wp_notV, wp_if, wp_nil, wp_cons, wp_tup, wp_lst, wp_cb, wp_call, wp_m0, wp_m1, wp_ml0, wp_ml, wp_isi, wp_isi2, wp_nopart, asI_int, wp_part, wp_sl, wp_seq, seqK_nx, seqK_rt, seqK_bk, seqK_ct, wp_next, wp_brk, wp_cont, wp_drop, wp_ret, wp_ifS, wp_set, wp_par, wp_par3, wp_asg, wp_pat, asP_some, wp_sub, asH_some, wp_aug, wp_for, wp_while, wp_lc, wp_lc2, wp_def, defK_rt, defK_nx, wp_miseq, srcK_ref, srcK_tup, srcK_str, rngK_int, wp_range1, wp_enum, enumK_ref, Tl_some, Ts_some, loopK_nx, loopK_ct, loopK_bk, loopK_rt, ixK_some, atI_k0, atI_k1, atI_k2, atI_k3, atI_k4, atI_k5, atI_k6, atI_k8, atI_k9, L2.atI_last, atI_n, g_ix_t, g_ix_s, g_ix_r, cIx_l, cIx_z, cIx_d, cIx_f, g_sub, g_lt, g_le, g_gt, g_ge, g_addi, g_addI, g_adds, g_addt, g_mul, g_muls, g_fdiv, g_mod, g_neg, g_eqs, g_nes, g_eqi, g_nei, g_min, g_max, g_int_b, g_int_i, g_is_non, g_cuts, g_cutt, g_lens, g_lent, g_lenr, cLen_l, cLen_z, g_tupt, g_tupr, cTup_l, g_listt, isLst_r, lstAt_r, cLst_l, cLst_z, tr_r, cTr_l, tr_b, g_set, cSet_l, cSet_d, jK_some, kK_some, ixN_0, ixN_1, ixN_2, isS, mwipe, mPat, mPats, List.getElem?_cons_zero, List.getElem?_cons_succ, List.set_cons_zero, List.set_cons_succ, List.map_cons, List.map_nil, List.length_cons, List.length_nil, List.replicate_succ, List.replicate_zero, List.cons_append, List.nil_append, Nat.reduceAdd, Nat.reduceSub, Nat.reduceLeDiff, Nat.zero_add, Option.map_some, if_true, Bool.false_eq_true, if_false, true_and, and_true, decide_eq_true_eq, reduceIte, reduceCtorEq, ty_lst p2, ty_lst q2, Option.bind_some, k2, k8, k9, p2, q2, a2, g_neb, beq_self_eq_true, Bool.not_true]
      simp only [wp_zip, wp_c, wp_var, slotK_some, wp_op, wp_un, wp_b, asB_bl, wp_tr, asT_some, wp_yes, wp_and, wp_or, wp_not, wp_caseB, wp_andV, wp_orV, wp_notV, wp_if, wp_nil, wp_cons, wp_tup, wp_lst, wp_cb, wp_call, wp_m0, wp_m1, wp_ml0, wp_ml, wp_isi, wp_isi2, wp_nopart, asI_int, wp_part, wp_sl, wp_seq, seqK_nx, seqK_rt, seqK_bk, seqK_ct, wp_next, wp_brk, wp_cont, wp_drop, wp_ret, wp_ifS, wp_set, wp_par, wp_par3, wp_asg, wp_pat, asP_some, wp_sub, asH_some, wp_aug, wp_for, wp_while, wp_lc, wp_lc2, wp_def, defK_rt, defK_nx, wp_miseq, srcK_ref, srcK_tup, srcK_str, rngK_int, wp_range1, wp_enum, enumK_ref, Tl_some, Ts_some, loopK_nx, loopK_ct, loopK_bk, loopK_rt, ixK_some, atI_k0, atI_k1, atI_k2, atI_k3, atI_k4, atI_k5, atI_k6, atI_k8, atI_k9, L2.atI_last, atI_n, g_ix_t, g_ix_s, g_ix_r, cIx_l, cIx_z, cIx_d, cIx_f, g_sub, g_lt, g_le, g_gt, g_ge, g_addi, g_addI, g_adds, g_addt, g_mul, g_muls, g_fdiv, g_mod, g_neg, g_eqs, g_nes, g_eqi, g_nei, g_min, g_max, g_int_b, g_int_i, g_is_non, g_cuts, g_cutt, g_lens, g_lent, g_lenr, cLen_l, cLen_z, g_tupt, g_tupr, cTup_l, g_listt, isLst_r, lstAt_r, cLst_l, cLst_z, tr_r, cTr_l, tr_b, g_set, cSet_l, cSet_d, jK_some, kK_some, ixN_0, ixN_1, ixN_2, isS, mwipe, mPat, mPats, List.getElem?_cons_zero, List.getElem?_cons_succ, List.set_cons_zero, List.set_cons_succ, List.map_cons, List.map_nil, List.length_cons, List.length_nil, List.replicate_succ, List.replicate_zero, List.cons_append, List.nil_append, Nat.reduceAdd, Nat.reduceSub, Nat.reduceLeDiff, Nat.zero_add, Option.map_some, if_true, Bool.false_eq_true, if_false, true_and, and_true, decide_eq_true_eq, reduceIte, reduceCtorEq]
      rw [g_zipl p2 q2]
      have lx := szs_len (l := xs)
      have lz : (zipW xs xs).length = xs.length := by rw [zip_dbl]; simp [dbl]
      refine Tl.newL (by omega) fun g3 y3 l3 a3 => ?_
      rw [zip_dbl] at a3
      refine Tl.extend (y3.get a2) a3 (by simp [dbl]; omega) fun g4 c4 a4 => ?_
      exact ⟨szs xs, by omega, dbl xs, _, _, rfl, by rw [a4]; rfl, ((X1.chg c2 (Nat.le_refl _)).trans y3).chg c4 (Nat.le_refl _), .inr ⟨xs, rfl, rfl, hs, fun u hu => ⟨ok u hu, tr u hu⟩⟩⟩
  · have dk := dbl_ok fun u h => (hu u h).1
    refine Tl.ne_nil eL dk.1 dk.2 fun g1 y1 => ?_
    have eL1 := y1.get eL
    have X1 := X.trans y1
    rcases List.eq_nil_or_concat us with rfl | ⟨ys, y, rfl⟩
    · simp only [asB_bl, dbl, List.map_nil, List.isEmpty_nil, Bool.not_true, Bool.false_eq_true, if_false]
      simp only [wp_c, wp_var, slotK_some, wp_op, wp_un, wp_b, asB_bl, wp_tr, asT_some, wp_yes, wp_and, wp_or, wp_not, wp_caseB, wp_andV, wp_orV, wp_notV, wp_if, wp_nil, wp_cons, wp_tup, wp_lst, wp_cb, wp_call, wp_m0, wp_m1, wp_ml0, wp_ml, wp_isi, wp_isi2, wp_nopart, asI_int, wp_part, wp_sl, wp_seq, seqK_nx, seqK_rt, seqK_bk, seqK_ct, wp_next, wp_brk, wp_cont, wp_drop, wp_ret, wp_ifS, wp_set, wp_par, wp_par3, wp_asg, wp_pat, asP_some, wp_sub, asH_some, wp_aug, wp_for, wp_while, wp_lc, wp_lc2, wp_def, defK_rt, defK_nx, wp_miseq, srcK_ref, srcK_tup, srcK_str, rngK_int, wp_range1, wp_enum, enumK_ref, Tl_some, Ts_some, loopK_nx, loopK_ct, loopK_bk, loopK_rt, ixK_some, atI_k0, atI_k1, atI_k2, atI_k3, atI_k4, atI_k5, atI_k6, atI_k8, atI_k9, L2.atI_last, atI_n, g_ix_t, g_ix_s, g_ix_r, cIx_l, cIx_z, cIx_d, cIx_f, g_sub, g_lt, g_le, g_gt, g_ge, g_addi, g_addI, g_adds, g_addt, g_mul, g_muls, g_fdiv, g_mod, g_neg, g_eqs, g_nes, g_eqi, g_nei, g_min, g_max, g_int_b, g_int_i, g_is_non, g_cuts, g_cutt, g_lens, g_lent, g_lenr, cLen_l, cLen_z, g_tupt, g_tupr, cTup_l, g_listt, isLst_r, lstAt_r, cLst_l, cLst_z, tr_r, cTr_l, tr_b, g_set, cSet_l, cSet_d, jK_some, kK_some, ixN_0, ixN_1, ixN_2, isS, mwipe, mPat, mPats, List.getElem?_cons_zero, List.getElem?_cons_succ, List.set_cons_zero, List.set_cons_succ, List.map_cons, List.map_nil, List.length_cons, List.length_nil, List.replicate_succ, List.replicate_zero, List.cons_append, List.nil_append, Nat.reduceAdd, Nat.reduceSub, Nat.reduceLeDiff, Nat.zero_add, Option.map_some, if_true, Bool.false_eq_true, if_false, true_and, and_true, decide_eq_true_eq, reduceIte, reduceCtorEq]
      exact X1
    · rw [List.concat_eq_append] at *
      have db : dbl (ys ++ [y]) = dbl ys ++ [.tup [y, y]] := by simp [dbl]
      have ne : (dbl (ys ++ [y])).isEmpty = false := by rw [db]; cases dbl ys <;> rfl
      rw [ne]
      simp only [asB_bl, Bool.not_false, if_true]
      rw [db] at eL1
      simp only [wp_c, wp_var, slotK_some, wp_op, wp_un, wp_b, asB_bl, wp_tr, asT_some, wp_yes, wp_and, wp_or, wp_not, wp_caseB, wp_andV, wp_orV, wp_notV, wp_if, wp_nil, wp_cons, wp_tup, wp_lst, wp_cb, wp_call, wp_m0, wp_m1, wp_ml0, wp_ml, wp_isi, wp_isi2, wp_nopart, asI_int, wp_part, wp_sl, wp_seq, seqK_nx, seqK_rt, seqK_bk, seqK_ct, wp_next, wp_brk, wp_cont, wp_drop, wp_ret, wp_ifS, wp_set, wp_par, wp_par3, wp_asg, wp_pat, asP_some, wp_sub, asH_some, wp_aug, wp_for, wp_while, wp_lc, wp_lc2, wp_def, defK_rt, defK_nx, wp_miseq, srcK_ref, srcK_tup, srcK_str, rngK_int, wp_range1, wp_enum, enumK_ref, Tl_some, Ts_some, loopK_nx, loopK_ct, loopK_bk, loopK_rt, ixK_some, atI_k0, atI_k1, atI_k2, atI_k3, atI_k4, atI_k5, atI_k6, atI_k8, atI_k9, L2.atI_last, atI_n, g_ix_t, g_ix_s, g_ix_r, cIx_l, cIx_z, cIx_d, cIx_f, g_sub, g_lt, g_le, g_gt, g_ge, g_addi, g_addI, g_adds, g_addt, g_mul, g_muls, g_fdiv, g_mod, g_neg, g_eqs, g_nes, g_eqi, g_nei, g_min, g_max, g_int_b, g_int_i, g_is_non, g_cuts, g_cutt, g_lens, g_lent, g_lenr, cLen_l, cLen_z, g_tupt, g_tupr, cTup_l, g_listt, isLst_r, lstAt_r, cLst_l, cLst_z, tr_r, cTr_l, tr_b, g_set, cSet_l, cSet_d, jK_some, kK_some, ixN_0, ixN_1, ixN_2, isS, mwipe, mPat, mPats, List.getElem?_cons_zero, List.getElem?_cons_succ, List.set_cons_zero, List.set_cons_succ, List.map_cons, List.map_nil, List.length_cons, List.length_nil, List.replicate_succ, List.replicate_zero, List.cons_append, List.nil_append, Nat.reduceAdd, Nat.reduceSub, Nat.reduceLeDiff, Nat.zero_add, Option.map_some, if_true, Bool.false_eq_true, if_false, true_and, and_true, decide_eq_true_eq, reduceIte, reduceCtorEq, eL1]
      refine Tl.pop eL1 fun g2 c2 a2 => ?_
      have X2 : Ext h g2 := X1.chg c2 (Nat.le_refl _)
      have hy := hu y (by simp)
      have sy : szs (ys ++ [y]) = szs ys + sz y := by rw [szs_app]; simp [szs]
      have ly := szs_len (l := ys)
      have py := sz_pos y
      have lo : ∀ u ∈ ys, (okT u = true ∧ dpW u ≤ 20) ∧ tree u = true := fun u h => hu u (by simp [h])
      rw [sy] at hm
      rw [sy]
      cases y with
      | int i =>
        simp only [wp_c, wp_var, slotK_some, wp_op, wp_un, wp_b, asB_bl, wp_tr, asT_some, wp_yes, wp_and, wp_or, wp_not, wp_caseB, wp_andV, wp_orV, wp_notV, wp_if, wp_nil, wp_cons, wp_tup, wp_lst, wp_cb, wp_call, wp_m0, wp_m1, wp_ml0, wp_ml, wp_isi, wp_isi2, wp_nopart, asI_int, wp_part, wp_sl, wp_seq, seqK_nx, seqK_rt, seqK_bk, seqK_ct, wp_next, wp_brk, wp_cont, wp_drop, wp_ret, wp_ifS, wp_set, wp_par, wp_par3, wp_asg, wp_pat, asP_some, wp_sub, asH_some, wp_aug, wp_for, wp_while, wp_lc, wp_lc2, wp_def, defK_rt, defK_nx, wp_miseq, srcK_ref, srcK_tup, srcK_str, rngK_int, wp_range1, wp_enum, enumK_ref, Tl_some, Ts_some, loopK_nx, loopK_ct, loopK_bk, loopK_rt, ixK_some, atI_k0, atI_k1, atI_k2, atI_k3, atI_k4, atI_k5, atI_k6, atI_k8, atI_k9, L2.atI_last, atI_n, g_ix_t, g_ix_s, g_ix_r, cIx_l, cIx_z, cIx_d, cIx_f, g_sub, g_lt, g_le, g_gt, g_ge, g_addi, g_addI, g_adds, g_addt, g_mul, g_muls, g_fdiv, g_mod, g_neg, g_eqs, g_nes, g_eqi, g_nei, g_min, g_max, g_int_b, g_int_i, g_is_non, g_cuts, g_cutt, g_lens, g_lent, g_lenr, cLen_l, cLen_z, g_tupt, g_tupr, cTup_l, g_listt, isLst_r, lstAt_r, cLst_l, cLst_z, tr_r, cTr_l, tr_b, g_set, cSet_l, cSet_d, jK_some, kK_some, ixN_0, ixN_1, ixN_2, isS, mwipe, mPat, mPats, List.getElem?_cons_zero, List.getElem?_cons_succ, List.set_cons_zero, List.set_cons_succ, List.map_cons, List.map_nil, List.length_cons, List.length_nil, List.replicate_succ, List.replicate_zero, List.cons_append, List.nil_append, Nat.reduceAdd, Nat.reduceSub, Nat.reduceLeDiff, Nat.zero_add, Option.map_some, if_true, Bool.false_eq_true, if_false, true_and, and_true, decide_eq_true_eq, reduceIte, reduceCtorEq, tyW, Option.bind_some, k3, k5, g_neb, beq_self_eq_true, Bool.not_true]
        exact ⟨szs ys, by omega, dbl ys, _, _, rfl, a2, X2, .inr ⟨ys, rfl, rfl, by omega, lo⟩⟩
      | str z =>
        simp only [wp_c, wp_var, slotK_some, wp_op, wp_un, wp_b, asB_bl, wp_tr, asT_some, wp_yes, wp_and, wp_or, wp_not, wp_caseB, wp_andV, wp_orV, wp_notV, wp_if, wp_nil, wp_cons, wp_tup, wp_lst, wp_cb, wp_call, wp_m0, wp_m1, wp_ml0, wp_ml, wp_isi, wp_isi2, wp_nopart, asI_int, wp_part, wp_sl, wp_seq, seqK_nx, seqK_rt, seqK_bk, seqK_ct, wp_next, wp_brk, wp_cont, wp_drop, wp_ret, wp_ifS, wp_set, wp_par, wp_par3, wp_asg, wp_pat, asP_some, wp_sub, asH_some, wp_aug, wp_for, wp_while, wp_lc, wp_lc2, wp_def, defK_rt, defK_nx, wp_miseq, srcK_ref, srcK_tup, srcK_str, rngK_int, wp_range1, wp_enum, enumK_ref, Tl_some, Ts_some, loopK_nx, loopK_ct, loopK_bk, loopK_rt, ixK_some, atI_k0, atI_k1, atI_k2, atI_k3, atI_k4, atI_k5, atI_k6, atI_k8, atI_k9, L2.atI_last, atI_n, g_ix_t, g_ix_s, g_ix_r, cIx_l, cIx_z, cIx_d, cIx_f, g_sub, g_lt, g_le, g_gt, g_ge, g_addi, g_addI, g_adds, g_addt, g_mul, g_muls, g_fdiv, g_mod, g_neg, g_eqs, g_nes, g_eqi, g_nei, g_min, g_max, g_int_b, g_int_i, g_is_non, g_cuts, g_cutt, g_lens, g_lent, g_lenr, cLen_l, cLen_z, g_tupt, g_tupr, cTup_l, g_listt, isLst_r, lstAt_r, cLst_l, cLst_z, tr_r, cTr_l, tr_b, g_set, cSet_l, cSet_d, jK_some, kK_some, ixN_0, ixN_1, ixN_2, isS, mwipe, mPat, mPats, List.getElem?_cons_zero, List.getElem?_cons_succ, List.set_cons_zero, List.set_cons_succ, List.map_cons, List.map_nil, List.length_cons, List.length_nil, List.replicate_succ, List.replicate_zero, List.cons_append, List.nil_append, Nat.reduceAdd, Nat.reduceSub, Nat.reduceLeDiff, Nat.zero_add, Option.map_some, if_true, Bool.false_eq_true, if_false, true_and, and_true, decide_eq_true_eq, reduceIte, reduceCtorEq, tyW, Option.bind_some, k4, k6, g_neb, beq_self_eq_true, Bool.not_true, decide_true]
        exact ⟨szs ys, by omega, dbl ys, _, _, rfl, a2, X2, .inr ⟨ys, rfl, rfl, by omega, lo⟩⟩
      | tup a =>
        simp only [wp_c, wp_var, slotK_some, wp_op, wp_un, wp_b, asB_bl, wp_tr, asT_some, wp_yes, wp_and, wp_or, wp_not, wp_caseB, wp_andV, wp_orV, wp_notV, wp_if, wp_nil, wp_cons, wp_tup, wp_lst, wp_cb, wp_call, wp_m0, wp_m1, wp_ml0, wp_ml, wp_isi, wp_isi2, wp_nopart, asI_int, wp_part, wp_sl, wp_seq, seqK_nx, seqK_rt, seqK_bk, seqK_ct, wp_next, wp_brk, wp_cont, wp_drop, wp_ret, wp_ifS, wp_set, wp_par, wp_par3, wp_asg, wp_pat, asP_some, wp_sub, asH_some, wp_aug, wp_for, wp_while, wp_lc, wp_lc2, wp_def, defK_rt, defK_nx, wp_miseq, srcK_ref, srcK_tup, srcK_str, rngK_int, wp_range1, wp_enum, enumK_ref, Tl_some, Ts_some, loopK_nx, loopK_ct, loopK_bk, loopK_rt, ixK_some, atI_k0, atI_k1, atI_k2, atI_k3, atI_k4, atI_k5, atI_k6, atI_k8, atI_k9, L2.atI_last, atI_n, g_ix_t, g_ix_s, g_ix_r, cIx_l, cIx_z, cIx_d, cIx_f, g_sub, g_lt, g_le, g_gt, g_ge, g_addi, g_addI, g_adds, g_addt, g_mul, g_muls, g_fdiv, g_mod, g_neg, g_eqs, g_nes, g_eqi, g_nei, g_min, g_max, g_int_b, g_int_i, g_is_non, g_cuts, g_cutt, g_lens, g_lent, g_lenr, cLen_l, cLen_z, g_tupt, g_tupr, cTup_l, g_listt, isLst_r, lstAt_r, cLst_l, cLst_z, tr_r, cTr_l, tr_b, g_set, cSet_l, cSet_d, jK_some, kK_some, ixN_0, ixN_1, ixN_2, isS, mwipe, mPat, mPats, List.getElem?_cons_zero, List.getElem?_cons_succ, List.set_cons_zero, List.set_cons_succ, List.map_cons, List.map_nil, List.length_cons, List.length_nil, List.replicate_succ, List.replicate_zero, List.cons_append, List.nil_append, Nat.reduceAdd, Nat.reduceSub, Nat.reduceLeDiff, Nat.zero_add, Option.map_some, if_true, Bool.false_eq_true, if_false, true_and, and_true, decide_eq_true_eq, reduceIte, reduceCtorEq, tyW, Option.bind_some, k1, kb3, k7, g_neb, beq_self_eq_true, Bool.not_true, a2, wp_zip, g_zipt, zip_dbl]
        have la := szs_len (l := a)
        have sa : sz (.tup a) = 1 + szs a := by simp [sz]
        refine Tl.newL (by simp [dbl]; omega) fun g3 y3 l3 a3 => ?_
        refine Tl.extend (y3.get a2) a3 (by simp [dbl]; omega) fun g4 c4 a4 => ?_
        refine ⟨szs (ys ++ a), by rw [szs_app]; omega, dbl (ys ++ a), _, _, rfl, by rw [a4]; simp [dbl], (X2.trans y3).chg c4 (Nat.le_refl _), .inr ⟨ys ++ a, rfl, rfl, by rw [szs_app]; omega, fun u hu' => ?_⟩⟩
        rcases List.mem_append.mp hu' with q | q
        · exact lo u q
        · obtain ⟨⟨o1, o2⟩, o3⟩ := hy
          have b1 : okTs a = true := by simpa [okT] using o1
          have b2 : dpWs a ≤ 20 := by simp [dpW] at o2; omega
          have b3 : trees a = true := by simpa [tree] using o3
          exact ⟨⟨okTs_all.mp b1 u q, dpWs_le.mp b2 u q⟩, trees_all.mp b3 u q⟩
      | non => simp [tree] at hy
      | bl b => simp [tree] at hy
      | ref r => simp [tree] at hy
end K03

namespace K03
open PySem PySem.Spec PyProof.Rows L2 Mi
theorem Tl.clear {h : MH} {Q : W → MH → Prop} {d : Nat} {ys : List W} (e : h[d]? = some (.lst ys)) (k : ∀ h', Chg d h h' → Q .non h') : Tl (gClear (.ref d) [] h) Q := by
  have : gClear (.ref d) [] h = some (.non, h.set d (.lst [])) := by
    unfold gClear; simp only [lstM_lst e]
  rw [this, Tl_some]
  exact k _ Chg.set
theorem log_small {i : Nat} (h : i ≤ 100000) : (((i : Nat) : Int).natAbs.log2 < 1920) := by
  rw [Int.natAbs_natCast]
  by_cases c : i = 0
  · subst c; decide
  · rw [Nat.log2_lt c]
    exact Nat.lt_of_le_of_lt h (Nat.lt_of_lt_of_le (by decide : 100000 < 2 ^ 17) (Nat.pow_le_pow_right (by decide) (by decide)))
theorem Far_small : ∀ (d : Nat) (w : W), Tm d w → far d w ≤ d
  | 0, w, t => Nat.le_refl _
  | d + 1, w, t => by
    have : ∀ l : List W, (∀ x ∈ l, far d x ≤ d) → mx (far d) l ≤ d + 1 := fun l hl => by
      induction l with
      | nil => simp [mx]
      | cons x l ih =>
        simp only [mx]
        have := hl x (by simp)
        have := ih fun y hy => hl y (by simp [hy])
        omega
    exact this _ fun x hx => Far_small d x (t.kid hx)
theorem law_run (n : Nat) (hn : 100000000 ≤ n) (ns : List Int) (hl : ns.length ≤ 63) : Tl (f_law n [.ref 0] [.fz (ns.map .int)]) fun v _ => v = .bl true := by
  unfold f_law B_law
  have e0 : ([Cell.fz (ns.map W.int)] : MH)[0]? = some (.fz (ns.map .int)) := rfl
  simp only [wp_c, wp_var, slotK_some, wp_op, wp_un, wp_b, asB_bl, wp_tr, asT_some, wp_yes, wp_and, wp_or, wp_not, wp_caseB, wp_andV, wp_orV, wp_notV, wp_if, wp_nil, wp_cons, wp_tup, wp_lst, wp_cb, wp_call, wp_m0, wp_m1, wp_ml0, wp_ml, wp_isi, wp_isi2, wp_nopart, asI_int, wp_part, wp_sl, wp_seq, seqK_nx, seqK_rt, seqK_bk, seqK_ct, wp_next, wp_brk, wp_cont, wp_drop, wp_ret, wp_ifS, wp_set, wp_par, wp_par3, wp_asg, wp_pat, asP_some, wp_sub, asH_some, wp_aug, wp_for, wp_while, wp_lc, wp_lc2, wp_def, defK_rt, defK_nx, wp_miseq, srcK_ref, srcK_tup, srcK_str, rngK_int, wp_range1, wp_enum, enumK_ref, Tl_some, Ts_some, loopK_nx, loopK_ct, loopK_bk, loopK_rt, ixK_some, atI_k0, atI_k1, atI_k2, atI_k3, atI_k4, atI_k5, atI_k6, atI_k8, atI_k9, L2.atI_last, atI_n, g_ix_t, g_ix_s, g_ix_r, cIx_l, cIx_z, cIx_d, cIx_f, g_sub, g_lt, g_le, g_gt, g_ge, g_addi, g_addI, g_adds, g_addt, g_mul, g_muls, g_fdiv, g_mod, g_neg, g_eqs, g_nes, g_eqi, g_nei, g_min, g_max, g_int_b, g_int_i, g_is_non, g_cuts, g_cutt, g_lens, g_lent, g_lenr, cLen_l, cLen_z, g_tupt, g_tupr, cTup_l, g_listt, isLst_r, lstAt_r, cLst_l, cLst_z, tr_r, cTr_l, tr_b, g_set, cSet_l, cSet_d, jK_some, kK_some, ixN_0, ixN_1, ixN_2, isS, mwipe, mPat, mPats, List.getElem?_cons_zero, List.getElem?_cons_succ, List.set_cons_zero, List.set_cons_succ, List.map_cons, List.map_nil, List.length_cons, List.length_nil, List.replicate_succ, List.replicate_zero, List.cons_append, List.nil_append, Nat.reduceAdd, Nat.reduceSub, Nat.reduceLeDiff, Nat.zero_add, Option.map_some, if_true, Bool.false_eq_true, if_false, true_and, and_true, decide_eq_true_eq, reduceIte, reduceCtorEq, e0, List.length_map]
  obtain ⟨many, hm, em⟩ : ∃ many : Nat, many ≤ 2 ∧ (if (if (2 : Int) < (ns.length : Int) then (2 : Int) else (ns.length : Int)) > 1 then (if (2 : Int) < (ns.length : Int) then (2 : Int) else (ns.length : Int)) else 1) = (many : Int) := by
    by_cases c : 2 < ns.length
    · exact ⟨2, Nat.le_refl _, by rw [if_pos (show (2 : Int) < (ns.length : Int) by omega)]; rfl⟩
    · by_cases c2 : ns.length = 2
      · exact ⟨2, Nat.le_refl _, by rw [c2]; rfl⟩
      · exact ⟨1, by omega, by rw [if_neg (show ¬ (2 : Int) < (ns.length : Int) by omega), if_neg (by omega)]; rfl⟩
  rw [em]
  refine ⟨sm62 ⟨by omega, by omega⟩, ?_⟩
  rw [Int.toNat_natCast]
  refine Ts.for_ (rangeW 0 many) (fun i s hh => ∃ (u1 u2 u3 u4 u5 u6 u7 : Option W), s = [some (.ref 0), u1, u2, u3, u4, u5, u6, u7] ∧ hh[0]? = some (.fz (ns.map .int))) (fun _ _ _ _ => is_items) (by rw [range_len]; omega) ⟨_, _, _, _, _, _, _, rfl, e0⟩ ?_ ?_
  · rintro i x s hh ex ⟨u1, u2, u3, u4, u5, u6, u7, rfl, ez⟩
    obtain ⟨rfl, hi⟩ := range_get ex
    have lz := lt_of_get ez
    simp only [wp_c, wp_var, slotK_some, wp_op, wp_un, wp_b, asB_bl, wp_tr, asT_some, wp_yes, wp_and, wp_or, wp_not, wp_caseB, wp_andV, wp_orV, wp_notV, wp_if, wp_nil, wp_cons, wp_tup, wp_lst, wp_cb, wp_call, wp_m0, wp_m1, wp_ml0, wp_ml, wp_isi, wp_isi2, wp_nopart, asI_int, wp_part, wp_sl, wp_seq, seqK_nx, seqK_rt, seqK_bk, seqK_ct, wp_next, wp_brk, wp_cont, wp_drop, wp_ret, wp_ifS, wp_set, wp_par, wp_par3, wp_asg, wp_pat, asP_some, wp_sub, asH_some, wp_aug, wp_for, wp_while, wp_lc, wp_lc2, wp_def, defK_rt, defK_nx, wp_miseq, srcK_ref, srcK_tup, srcK_str, rngK_int, wp_range1, wp_enum, enumK_ref, Tl_some, Ts_some, loopK_nx, loopK_ct, loopK_bk, loopK_rt, ixK_some, atI_k0, atI_k1, atI_k2, atI_k3, atI_k4, atI_k5, atI_k6, atI_k8, atI_k9, L2.atI_last, atI_n, g_ix_t, g_ix_s, g_ix_r, cIx_l, cIx_z, cIx_d, cIx_f, g_sub, g_lt, g_le, g_gt, g_ge, g_addi, g_addI, g_adds, g_addt, g_mul, g_muls, g_fdiv, g_mod, g_neg, g_eqs, g_nes, g_eqi, g_nei, g_min, g_max, g_int_b, g_int_i, g_is_non, g_cuts, g_cutt, g_lens, g_lent, g_lenr, cLen_l, cLen_z, g_tupt, g_tupr, cTup_l, g_listt, isLst_r, lstAt_r, cLst_l, cLst_z, tr_r, cTr_l, tr_b, g_set, cSet_l, cSet_d, jK_some, kK_some, ixN_0, ixN_1, ixN_2, isS, mwipe, mPat, mPats, List.getElem?_cons_zero, List.getElem?_cons_succ, List.set_cons_zero, List.set_cons_succ, List.map_cons, List.map_nil, List.length_cons, List.length_nil, List.replicate_succ, List.replicate_zero, List.cons_append, List.nil_append, Nat.reduceAdd, Nat.reduceSub, Nat.reduceLeDiff, Nat.zero_add, Option.map_some, if_true, Bool.false_eq_true, if_false, true_and, and_true, decide_eq_true_eq, reduceIte, reduceCtorEq]
    refine (box_spec ez (by omega)).by ?_
    rintro _ h1 ⟨b, rfl, x1, lb, hb⟩
    try simp only [wp_c, wp_var, slotK_some, wp_op, wp_un, wp_b, asB_bl, wp_tr, asT_some, wp_yes, wp_and, wp_or, wp_not, wp_caseB, wp_andV, wp_orV, wp_notV, wp_if, wp_nil, wp_cons, wp_tup, wp_lst, wp_cb, wp_call, wp_m0, wp_m1, wp_ml0, wp_ml, wp_isi, wp_isi2, wp_nopart, asI_int, wp_part, wp_sl, wp_seq, seqK_nx, seqK_rt, seqK_bk, seqK_ct, wp_next, wp_brk, wp_cont, wp_drop, wp_ret, wp_ifS, wp_set, wp_par, wp_par3, wp_asg, wp_pat, asP_some, wp_sub, asH_some, wp_aug, wp_for, wp_while, wp_lc, wp_lc2, wp_def, defK_rt, defK_nx, wp_miseq, srcK_ref, srcK_tup, srcK_str, rngK_int, wp_range1, wp_enum, enumK_ref, Tl_some, Ts_some, loopK_nx, loopK_ct, loopK_bk, loopK_rt, ixK_some, atI_k0, atI_k1, atI_k2, atI_k3, atI_k4, atI_k5, atI_k6, atI_k8, atI_k9, L2.atI_last, atI_n, g_ix_t, g_ix_s, g_ix_r, cIx_l, cIx_z, cIx_d, cIx_f, g_sub, g_lt, g_le, g_gt, g_ge, g_addi, g_addI, g_adds, g_addt, g_mul, g_muls, g_fdiv, g_mod, g_neg, g_eqs, g_nes, g_eqi, g_nei, g_min, g_max, g_int_b, g_int_i, g_is_non, g_cuts, g_cutt, g_lens, g_lent, g_lenr, cLen_l, cLen_z, g_tupt, g_tupr, cTup_l, g_listt, isLst_r, lstAt_r, cLst_l, cLst_z, tr_r, cTr_l, tr_b, g_set, cSet_l, cSet_d, jK_some, kK_some, ixN_0, ixN_1, ixN_2, isS, mwipe, mPat, mPats, List.getElem?_cons_zero, List.getElem?_cons_succ, List.set_cons_zero, List.set_cons_succ, List.map_cons, List.map_nil, List.length_cons, List.length_nil, List.replicate_succ, List.replicate_zero, List.cons_append, List.nil_append, Nat.reduceAdd, Nat.reduceSub, Nat.reduceLeDiff, Nat.zero_add, Option.map_some, if_true, Bool.false_eq_true, if_false, true_and, and_true, decide_eq_true_eq, reduceIte, reduceCtorEq]
    have hbl := hb.lt
    refine (world_spec (by omega) hb).by ?_
    rintro _ h2 ⟨wd, rfl, B2, lwd, wo⟩
    try simp only [wp_c, wp_var, slotK_some, wp_op, wp_un, wp_b, asB_bl, wp_tr, asT_some, wp_yes, wp_and, wp_or, wp_not, wp_caseB, wp_andV, wp_orV, wp_notV, wp_if, wp_nil, wp_cons, wp_tup, wp_lst, wp_cb, wp_call, wp_m0, wp_m1, wp_ml0, wp_ml, wp_isi, wp_isi2, wp_nopart, asI_int, wp_part, wp_sl, wp_seq, seqK_nx, seqK_rt, seqK_bk, seqK_ct, wp_next, wp_brk, wp_cont, wp_drop, wp_ret, wp_ifS, wp_set, wp_par, wp_par3, wp_asg, wp_pat, asP_some, wp_sub, asH_some, wp_aug, wp_for, wp_while, wp_lc, wp_lc2, wp_def, defK_rt, defK_nx, wp_miseq, srcK_ref, srcK_tup, srcK_str, rngK_int, wp_range1, wp_enum, enumK_ref, Tl_some, Ts_some, loopK_nx, loopK_ct, loopK_bk, loopK_rt, ixK_some, atI_k0, atI_k1, atI_k2, atI_k3, atI_k4, atI_k5, atI_k6, atI_k8, atI_k9, L2.atI_last, atI_n, g_ix_t, g_ix_s, g_ix_r, cIx_l, cIx_z, cIx_d, cIx_f, g_sub, g_lt, g_le, g_gt, g_ge, g_addi, g_addI, g_adds, g_addt, g_mul, g_muls, g_fdiv, g_mod, g_neg, g_eqs, g_nes, g_eqi, g_nei, g_min, g_max, g_int_b, g_int_i, g_is_non, g_cuts, g_cutt, g_lens, g_lent, g_lenr, cLen_l, cLen_z, g_tupt, g_tupr, cTup_l, g_listt, isLst_r, lstAt_r, cLst_l, cLst_z, tr_r, cTr_l, tr_b, g_set, cSet_l, cSet_d, jK_some, kK_some, ixN_0, ixN_1, ixN_2, isS, mwipe, mPat, mPats, List.getElem?_cons_zero, List.getElem?_cons_succ, List.set_cons_zero, List.set_cons_succ, List.map_cons, List.map_nil, List.length_cons, List.length_nil, List.replicate_succ, List.replicate_zero, List.cons_append, List.nil_append, Nat.reduceAdd, Nat.reduceSub, Nat.reduceLeDiff, Nat.zero_add, Option.map_some, if_true, Bool.false_eq_true, if_false, true_and, and_true, decide_eq_true_eq, reduceIte, reduceCtorEq]
    refine ⟨by decide, ?_⟩
    refine Tl.lc_b (b := b) (fun i w => Tm 7 w) B2.box (fun h' _ => is_items) (by rw [range_len]; show 4 < n; omega) (by rw [range_len]; decide) ?_ ?_
    · intro j x ex h3 B3
      refine ⟨_, rfl, ?_⟩
      simp only [wp_c, wp_var, slotK_some, wp_op, wp_un, wp_b, asB_bl, wp_tr, asT_some, wp_yes, wp_and, wp_or, wp_not, wp_caseB, wp_andV, wp_orV, wp_notV, wp_if, wp_nil, wp_cons, wp_tup, wp_lst, wp_cb, wp_call, wp_m0, wp_m1, wp_ml0, wp_ml, wp_isi, wp_isi2, wp_nopart, asI_int, wp_part, wp_sl, wp_seq, seqK_nx, seqK_rt, seqK_bk, seqK_ct, wp_next, wp_brk, wp_cont, wp_drop, wp_ret, wp_ifS, wp_set, wp_par, wp_par3, wp_asg, wp_pat, asP_some, wp_sub, asH_some, wp_aug, wp_for, wp_while, wp_lc, wp_lc2, wp_def, defK_rt, defK_nx, wp_miseq, srcK_ref, srcK_tup, srcK_str, rngK_int, wp_range1, wp_enum, enumK_ref, Tl_some, Ts_some, loopK_nx, loopK_ct, loopK_bk, loopK_rt, ixK_some, atI_k0, atI_k1, atI_k2, atI_k3, atI_k4, atI_k5, atI_k6, atI_k8, atI_k9, L2.atI_last, atI_n, g_ix_t, g_ix_s, g_ix_r, cIx_l, cIx_z, cIx_d, cIx_f, g_sub, g_lt, g_le, g_gt, g_ge, g_addi, g_addI, g_adds, g_addt, g_mul, g_muls, g_fdiv, g_mod, g_neg, g_eqs, g_nes, g_eqi, g_nei, g_min, g_max, g_int_b, g_int_i, g_is_non, g_cuts, g_cutt, g_lens, g_lent, g_lenr, cLen_l, cLen_z, g_tupt, g_tupr, cTup_l, g_listt, isLst_r, lstAt_r, cLst_l, cLst_z, tr_r, cTr_l, tr_b, g_set, cSet_l, cSet_d, jK_some, kK_some, ixN_0, ixN_1, ixN_2, isS, mwipe, mPat, mPats, List.getElem?_cons_zero, List.getElem?_cons_succ, List.set_cons_zero, List.set_cons_succ, List.map_cons, List.map_nil, List.length_cons, List.length_nil, List.replicate_succ, List.replicate_zero, List.cons_append, List.nil_append, Nat.reduceAdd, Nat.reduceSub, Nat.reduceLeDiff, Nat.zero_add, Option.map_some, if_true, Bool.false_eq_true, if_false, true_and, and_true, decide_eq_true_eq, reduceIte, reduceCtorEq]
      exact drawn_spec (by omega) B3.box (wo.bx B3)
    · intro h3 ts B3 a3 l3 hts
      rw [range_len] at l3
      have l3' : ts.length = 4 := l3
      have tmem : ∀ x ∈ ts, Tm 7 x := fun x hx => by
        obtain ⟨j, hj, e⟩ := List.getElem_of_mem hx
        exact hts j x (by rw [← e]; exact List.getElem?_eq_getElem hj)
      have ez3 : h3[0]? = some (.fz (ns.map .int)) := B3.get (B2.get (x1.get ez) (by omega)) (by omega)
      try simp only [wp_c, wp_var, slotK_some, wp_op, wp_un, wp_b, asB_bl, wp_tr, asT_some, wp_yes, wp_and, wp_or, wp_not, wp_caseB, wp_andV, wp_orV, wp_notV, wp_if, wp_nil, wp_cons, wp_tup, wp_lst, wp_cb, wp_call, wp_m0, wp_m1, wp_ml0, wp_ml, wp_isi, wp_isi2, wp_nopart, asI_int, wp_part, wp_sl, wp_seq, seqK_nx, seqK_rt, seqK_bk, seqK_ct, wp_next, wp_brk, wp_cont, wp_drop, wp_ret, wp_ifS, wp_set, wp_par, wp_par3, wp_asg, wp_pat, asP_some, wp_sub, asH_some, wp_aug, wp_for, wp_while, wp_lc, wp_lc2, wp_def, defK_rt, defK_nx, wp_miseq, srcK_ref, srcK_tup, srcK_str, rngK_int, wp_range1, wp_enum, enumK_ref, Tl_some, Ts_some, loopK_nx, loopK_ct, loopK_bk, loopK_rt, ixK_some, atI_k0, atI_k1, atI_k2, atI_k3, atI_k4, atI_k5, atI_k6, atI_k8, atI_k9, L2.atI_last, atI_n, g_ix_t, g_ix_s, g_ix_r, cIx_l, cIx_z, cIx_d, cIx_f, g_sub, g_lt, g_le, g_gt, g_ge, g_addi, g_addI, g_adds, g_addt, g_mul, g_muls, g_fdiv, g_mod, g_neg, g_eqs, g_nes, g_eqi, g_nei, g_min, g_max, g_int_b, g_int_i, g_is_non, g_cuts, g_cutt, g_lens, g_lent, g_lenr, cLen_l, cLen_z, g_tupt, g_tupr, cTup_l, g_listt, isLst_r, lstAt_r, cLst_l, cLst_z, tr_r, cTr_l, tr_b, g_set, cSet_l, cSet_d, jK_some, kK_some, ixN_0, ixN_1, ixN_2, isS, mwipe, mPat, mPats, List.getElem?_cons_zero, List.getElem?_cons_succ, List.set_cons_zero, List.set_cons_succ, List.map_cons, List.map_nil, List.length_cons, List.length_nil, List.replicate_succ, List.replicate_zero, List.cons_append, List.nil_append, Nat.reduceAdd, Nat.reduceSub, Nat.reduceLeDiff, Nat.zero_add, Option.map_some, if_true, Bool.false_eq_true, if_false, true_and, and_true, decide_eq_true_eq, reduceIte, reduceCtorEq]
      refine Tl.cutl a3 (by omega) fun h4 x4 l4 a4 => ?_
      obtain ⟨c1, hc1⟩ : ∃ c1, c1 = cutW ts none (some 1) := ⟨_, rfl⟩
      rw [← hc1] at a4
      have mc1 : ∀ x ∈ c1, x ∈ ts := fun x hx => by
        rw [hc1] at hx
        unfold cutW at hx
        exact List.mem_of_mem_drop (List.mem_of_mem_take hx)
      have lc1 : c1.length ≤ 4 := by rw [hc1]; unfold cutW; rw [List.length_take, List.length_drop]; omega
      refine Tl.addl (x4.get a3) a4 (by omega) fun h5 x5 l5 a5 => ?_
      have ez5 := x5.get (x4.get ez3)
      have lz5 := lt_of_get ez5
      have lx4 := x4.len
      simp only [wp_c, wp_var, slotK_some, wp_op, wp_un, wp_b, asB_bl, wp_tr, asT_some, wp_yes, wp_and, wp_or, wp_not, wp_caseB, wp_andV, wp_orV, wp_notV, wp_if, wp_nil, wp_cons, wp_tup, wp_lst, wp_cb, wp_call, wp_m0, wp_m1, wp_ml0, wp_ml, wp_isi, wp_isi2, wp_nopart, asI_int, wp_part, wp_sl, wp_seq, seqK_nx, seqK_rt, seqK_bk, seqK_ct, wp_next, wp_brk, wp_cont, wp_drop, wp_ret, wp_ifS, wp_set, wp_par, wp_par3, wp_asg, wp_pat, asP_some, wp_sub, asH_some, wp_aug, wp_for, wp_while, wp_lc, wp_lc2, wp_def, defK_rt, defK_nx, wp_miseq, srcK_ref, srcK_tup, srcK_str, rngK_int, wp_range1, wp_enum, enumK_ref, Tl_some, Ts_some, loopK_nx, loopK_ct, loopK_bk, loopK_rt, ixK_some, atI_k0, atI_k1, atI_k2, atI_k3, atI_k4, atI_k5, atI_k6, atI_k8, atI_k9, L2.atI_last, atI_n, g_ix_t, g_ix_s, g_ix_r, cIx_l, cIx_z, cIx_d, cIx_f, g_sub, g_lt, g_le, g_gt, g_ge, g_addi, g_addI, g_adds, g_addt, g_mul, g_muls, g_fdiv, g_mod, g_neg, g_eqs, g_nes, g_eqi, g_nei, g_min, g_max, g_int_b, g_int_i, g_is_non, g_cuts, g_cutt, g_lens, g_lent, g_lenr, cLen_l, cLen_z, g_tupt, g_tupr, cTup_l, g_listt, isLst_r, lstAt_r, cLst_l, cLst_z, tr_r, cTr_l, tr_b, g_set, cSet_l, cSet_d, jK_some, kK_some, ixN_0, ixN_1, ixN_2, isS, mwipe, mPat, mPats, List.getElem?_cons_zero, List.getElem?_cons_succ, List.set_cons_zero, List.set_cons_succ, List.map_cons, List.map_nil, List.length_cons, List.length_nil, List.replicate_succ, List.replicate_zero, List.cons_append, List.nil_append, Nat.reduceAdd, Nat.reduceSub, Nat.reduceLeDiff, Nat.zero_add, Option.map_some, if_true, Bool.false_eq_true, if_false, true_and, and_true, decide_eq_true_eq, reduceIte, reduceCtorEq, a5]
      refine Ts.for_ (ts ++ c1) (fun _ s hh => ∃ (u5 u6 u7 : Option W), s = [some (.ref 0), some (.int i), some (.ref b), some (.ref wd), some (.ref h2.length), u5, u6, u7] ∧ hh[0]? = some (.fz (ns.map .int)) ∧ hh[h4.length]? = some (.lst (ts ++ c1))) (fun _ _ _ ⟨_, _, _, _, _, e⟩ => is_cell e) (by rw [List.length_append]; omega) ⟨_, _, _, rfl, ez5, a5⟩ ?_ ?_
      · rintro j x s g ex ⟨u5, u6, u7, rfl, ez, eL⟩
        have t7 : Tm 7 x := by
          have hx := List.mem_of_getElem? ex
          rcases List.mem_append.mp hx with q | q
          · exact tmem x q
          · exact tmem x (mc1 x q)
        have tT : T7 x := ⟨7, Nat.le_refl _, t7⟩
        simp only [wp_c, wp_var, slotK_some, wp_op, wp_un, wp_b, asB_bl, wp_tr, asT_some, wp_yes, wp_and, wp_or, wp_not, wp_caseB, wp_andV, wp_orV, wp_notV, wp_if, wp_nil, wp_cons, wp_tup, wp_lst, wp_cb, wp_call, wp_m0, wp_m1, wp_ml0, wp_ml, wp_isi, wp_isi2, wp_nopart, asI_int, wp_part, wp_sl, wp_seq, seqK_nx, seqK_rt, seqK_bk, seqK_ct, wp_next, wp_brk, wp_cont, wp_drop, wp_ret, wp_ifS, wp_set, wp_par, wp_par3, wp_asg, wp_pat, asP_some, wp_sub, asH_some, wp_aug, wp_for, wp_while, wp_lc, wp_lc2, wp_def, defK_rt, defK_nx, wp_miseq, srcK_ref, srcK_tup, srcK_str, rngK_int, wp_range1, wp_enum, enumK_ref, Tl_some, Ts_some, loopK_nx, loopK_ct, loopK_bk, loopK_rt, ixK_some, atI_k0, atI_k1, atI_k2, atI_k3, atI_k4, atI_k5, atI_k6, atI_k8, atI_k9, L2.atI_last, atI_n, g_ix_t, g_ix_s, g_ix_r, cIx_l, cIx_z, cIx_d, cIx_f, g_sub, g_lt, g_le, g_gt, g_ge, g_addi, g_addI, g_adds, g_addt, g_mul, g_muls, g_fdiv, g_mod, g_neg, g_eqs, g_nes, g_eqi, g_nei, g_min, g_max, g_int_b, g_int_i, g_is_non, g_cuts, g_cutt, g_lens, g_lent, g_lenr, cLen_l, cLen_z, g_tupt, g_tupr, cTup_l, g_listt, isLst_r, lstAt_r, cLst_l, cLst_z, tr_r, cTr_l, tr_b, g_set, cSet_l, cSet_d, jK_some, kK_some, ixN_0, ixN_1, ixN_2, isS, mwipe, mPat, mPats, List.getElem?_cons_zero, List.getElem?_cons_succ, List.set_cons_zero, List.set_cons_succ, List.map_cons, List.map_nil, List.length_cons, List.length_nil, List.replicate_succ, List.replicate_zero, List.cons_append, List.nil_append, Nat.reduceAdd, Nat.reduceSub, Nat.reduceLeDiff, Nat.zero_add, Option.map_some, if_true, Bool.false_eq_true, if_false, true_and, and_true, decide_eq_true_eq, reduceIte, reduceCtorEq]
        refine ⟨by decide, ?_⟩
        refine Ts.for_ (rangeW 0 (Int.toNat 2)) (fun _ s hh => ∃ (u6 u7 : Option W), s = [some (.ref 0), some (.int i), some (.ref b), some (.ref wd), some (.ref h2.length), some x, u6, u7] ∧ hh[0]? = some (.fz (ns.map .int)) ∧ hh[h4.length]? = some (.lst (ts ++ c1))) (fun _ _ _ _ => is_items) (by rw [range_len]; show 2 < n; omega) ⟨_, _, rfl, ez, eL⟩ ?_ ?_
        · rintro k y s g1 ey ⟨u6, u7, rfl, ez1, eL1⟩
          obtain ⟨rfl, hk⟩ := range_get ey
          have lz1 := lt_of_get ez1
          have lL1 := lt_of_get eL1
          simp only [wp_c, wp_var, slotK_some, wp_op, wp_un, wp_b, asB_bl, wp_tr, asT_some, wp_yes, wp_and, wp_or, wp_not, wp_caseB, wp_andV, wp_orV, wp_notV, wp_if, wp_nil, wp_cons, wp_tup, wp_lst, wp_cb, wp_call, wp_m0, wp_m1, wp_ml0, wp_ml, wp_isi, wp_isi2, wp_nopart, asI_int, wp_part, wp_sl, wp_seq, seqK_nx, seqK_rt, seqK_bk, seqK_ct, wp_next, wp_brk, wp_cont, wp_drop, wp_ret, wp_ifS, wp_set, wp_par, wp_par3, wp_asg, wp_pat, asP_some, wp_sub, asH_some, wp_aug, wp_for, wp_while, wp_lc, wp_lc2, wp_def, defK_rt, defK_nx, wp_miseq, srcK_ref, srcK_tup, srcK_str, rngK_int, wp_range1, wp_enum, enumK_ref, Tl_some, Ts_some, loopK_nx, loopK_ct, loopK_bk, loopK_rt, ixK_some, atI_k0, atI_k1, atI_k2, atI_k3, atI_k4, atI_k5, atI_k6, atI_k8, atI_k9, L2.atI_last, atI_n, g_ix_t, g_ix_s, g_ix_r, cIx_l, cIx_z, cIx_d, cIx_f, g_sub, g_lt, g_le, g_gt, g_ge, g_addi, g_addI, g_adds, g_addt, g_mul, g_muls, g_fdiv, g_mod, g_neg, g_eqs, g_nes, g_eqi, g_nei, g_min, g_max, g_int_b, g_int_i, g_is_non, g_cuts, g_cutt, g_lens, g_lent, g_lenr, cLen_l, cLen_z, g_tupt, g_tupr, cTup_l, g_listt, isLst_r, lstAt_r, cLst_l, cLst_z, tr_r, cTr_l, tr_b, g_set, cSet_l, cSet_d, jK_some, kK_some, ixN_0, ixN_1, ixN_2, isS, mwipe, mPat, mPats, List.getElem?_cons_zero, List.getElem?_cons_succ, List.set_cons_zero, List.set_cons_succ, List.map_cons, List.map_nil, List.length_cons, List.length_nil, List.replicate_succ, List.replicate_zero, List.cons_append, List.nil_append, Nat.reduceAdd, Nat.reduceSub, Nat.reduceLeDiff, Nat.zero_add, Option.map_some, if_true, Bool.false_eq_true, if_false, true_and, and_true, decide_eq_true_eq, reduceIte, reduceCtorEq]
          refine (parts_spec (by omega) tT).by ?_
          rintro _ g2 ⟨rfl, x2, e2⟩
          try simp only [wp_c, wp_var, slotK_some, wp_op, wp_un, wp_b, asB_bl, wp_tr, asT_some, wp_yes, wp_and, wp_or, wp_not, wp_caseB, wp_andV, wp_orV, wp_notV, wp_if, wp_nil, wp_cons, wp_tup, wp_lst, wp_cb, wp_call, wp_m0, wp_m1, wp_ml0, wp_ml, wp_isi, wp_isi2, wp_nopart, asI_int, wp_part, wp_sl, wp_seq, seqK_nx, seqK_rt, seqK_bk, seqK_ct, wp_next, wp_brk, wp_cont, wp_drop, wp_ret, wp_ifS, wp_set, wp_par, wp_par3, wp_asg, wp_pat, asP_some, wp_sub, asH_some, wp_aug, wp_for, wp_while, wp_lc, wp_lc2, wp_def, defK_rt, defK_nx, wp_miseq, srcK_ref, srcK_tup, srcK_str, rngK_int, wp_range1, wp_enum, enumK_ref, Tl_some, Ts_some, loopK_nx, loopK_ct, loopK_bk, loopK_rt, ixK_some, atI_k0, atI_k1, atI_k2, atI_k3, atI_k4, atI_k5, atI_k6, atI_k8, atI_k9, L2.atI_last, atI_n, g_ix_t, g_ix_s, g_ix_r, cIx_l, cIx_z, cIx_d, cIx_f, g_sub, g_lt, g_le, g_gt, g_ge, g_addi, g_addI, g_adds, g_addt, g_mul, g_muls, g_fdiv, g_mod, g_neg, g_eqs, g_nes, g_eqi, g_nei, g_min, g_max, g_int_b, g_int_i, g_is_non, g_cuts, g_cutt, g_lens, g_lent, g_lenr, cLen_l, cLen_z, g_tupt, g_tupr, cTup_l, g_listt, isLst_r, lstAt_r, cLst_l, cLst_z, tr_r, cTr_l, tr_b, g_set, cSet_l, cSet_d, jK_some, kK_some, ixN_0, ixN_1, ixN_2, isS, mwipe, mPat, mPats, List.getElem?_cons_zero, List.getElem?_cons_succ, List.set_cons_zero, List.set_cons_succ, List.map_cons, List.map_nil, List.length_cons, List.length_nil, List.replicate_succ, List.replicate_zero, List.cons_append, List.nil_append, Nat.reduceAdd, Nat.reduceSub, Nat.reduceLeDiff, Nat.zero_add, Option.map_some, if_true, Bool.false_eq_true, if_false, true_and, and_true, decide_eq_true_eq, reduceIte, reduceCtorEq]
          refine (all_spec (by omega) 7 (Nat.le_refl _) x t7 11 (by omega) g2).by ?_
          rintro _ g3 ⟨p, rfl, x3, lp, e3⟩
          try simp only [wp_c, wp_var, slotK_some, wp_op, wp_un, wp_b, asB_bl, wp_tr, asT_some, wp_yes, wp_and, wp_or, wp_not, wp_caseB, wp_andV, wp_orV, wp_notV, wp_if, wp_nil, wp_cons, wp_tup, wp_lst, wp_cb, wp_call, wp_m0, wp_m1, wp_ml0, wp_ml, wp_isi, wp_isi2, wp_nopart, asI_int, wp_part, wp_sl, wp_seq, seqK_nx, seqK_rt, seqK_bk, seqK_ct, wp_next, wp_brk, wp_cont, wp_drop, wp_ret, wp_ifS, wp_set, wp_par, wp_par3, wp_asg, wp_pat, asP_some, wp_sub, asH_some, wp_aug, wp_for, wp_while, wp_lc, wp_lc2, wp_def, defK_rt, defK_nx, wp_miseq, srcK_ref, srcK_tup, srcK_str, rngK_int, wp_range1, wp_enum, enumK_ref, Tl_some, Ts_some, loopK_nx, loopK_ct, loopK_bk, loopK_rt, ixK_some, atI_k0, atI_k1, atI_k2, atI_k3, atI_k4, atI_k5, atI_k6, atI_k8, atI_k9, L2.atI_last, atI_n, g_ix_t, g_ix_s, g_ix_r, cIx_l, cIx_z, cIx_d, cIx_f, g_sub, g_lt, g_le, g_gt, g_ge, g_addi, g_addI, g_adds, g_addt, g_mul, g_muls, g_fdiv, g_mod, g_neg, g_eqs, g_nes, g_eqi, g_nei, g_min, g_max, g_int_b, g_int_i, g_is_non, g_cuts, g_cutt, g_lens, g_lent, g_lenr, cLen_l, cLen_z, g_tupt, g_tupr, cTup_l, g_listt, isLst_r, lstAt_r, cLst_l, cLst_z, tr_r, cTr_l, tr_b, g_set, cSet_l, cSet_d, jK_some, kK_some, ixN_0, ixN_1, ixN_2, isS, mwipe, mPat, mPats, List.getElem?_cons_zero, List.getElem?_cons_succ, List.set_cons_zero, List.set_cons_succ, List.map_cons, List.map_nil, List.length_cons, List.length_nil, List.replicate_succ, List.replicate_zero, List.cons_append, List.nil_append, Nat.reduceAdd, Nat.reduceSub, Nat.reduceLeDiff, Nat.zero_add, Option.map_some, if_true, Bool.false_eq_true, if_false, true_and, and_true, decide_eq_true_eq, reduceIte, reduceCtorEq]
          have pp : Pre x = pre 7 x := rfl
          have ok : ∀ z ∈ Pre x, okT z = true ∧ dpW z ≤ 20 := fun z hz => by
            obtain ⟨d, hd, t⟩ := Pre_tm tT z hz
            have := tms d z t
            exact ⟨this.1, by omega⟩
          have tr : ∀ z ∈ Pre x, tree z = true := fun z hz => by
            obtain ⟨d, hd, t⟩ := Pre_tm tT z hz
            exact tree_tm d z t
          refine (alike_spec (by omega) (x3.get e2) (pp ▸ e3) ok tr (szs_Pre tT)).by ?_
          rintro _ g4 ⟨rfl, x4⟩
          simp only [wp_c, wp_var, slotK_some, wp_op, wp_un, wp_b, asB_bl, wp_tr, asT_some, wp_yes, wp_and, wp_or, wp_not, wp_caseB, wp_andV, wp_orV, wp_notV, wp_if, wp_nil, wp_cons, wp_tup, wp_lst, wp_cb, wp_call, wp_m0, wp_m1, wp_ml0, wp_ml, wp_isi, wp_isi2, wp_nopart, asI_int, wp_part, wp_sl, wp_seq, seqK_nx, seqK_rt, seqK_bk, seqK_ct, wp_next, wp_brk, wp_cont, wp_drop, wp_ret, wp_ifS, wp_set, wp_par, wp_par3, wp_asg, wp_pat, asP_some, wp_sub, asH_some, wp_aug, wp_for, wp_while, wp_lc, wp_lc2, wp_def, defK_rt, defK_nx, wp_miseq, srcK_ref, srcK_tup, srcK_str, rngK_int, wp_range1, wp_enum, enumK_ref, Tl_some, Ts_some, loopK_nx, loopK_ct, loopK_bk, loopK_rt, ixK_some, atI_k0, atI_k1, atI_k2, atI_k3, atI_k4, atI_k5, atI_k6, atI_k8, atI_k9, L2.atI_last, atI_n, g_ix_t, g_ix_s, g_ix_r, cIx_l, cIx_z, cIx_d, cIx_f, g_sub, g_lt, g_le, g_gt, g_ge, g_addi, g_addI, g_adds, g_addt, g_mul, g_muls, g_fdiv, g_mod, g_neg, g_eqs, g_nes, g_eqi, g_nei, g_min, g_max, g_int_b, g_int_i, g_is_non, g_cuts, g_cutt, g_lens, g_lent, g_lenr, cLen_l, cLen_z, g_tupt, g_tupr, cTup_l, g_listt, isLst_r, lstAt_r, cLst_l, cLst_z, tr_r, cTr_l, tr_b, g_set, cSet_l, cSet_d, jK_some, kK_some, ixN_0, ixN_1, ixN_2, isS, mwipe, mPat, mPats, List.getElem?_cons_zero, List.getElem?_cons_succ, List.set_cons_zero, List.set_cons_succ, List.map_cons, List.map_nil, List.length_cons, List.length_nil, List.replicate_succ, List.replicate_zero, List.cons_append, List.nil_append, Nat.reduceAdd, Nat.reduceSub, Nat.reduceLeDiff, Nat.zero_add, Option.map_some, if_true, Bool.false_eq_true, if_false, true_and, and_true, decide_eq_true_eq, reduceIte, reduceCtorEq, Bool.not_true]
          refine (deep_spec (by omega) tT).by ?_
          rintro _ g5 ⟨rfl, x5⟩
          have fs : Far x ≤ 100000 := by have := Far_small 7 x t7; show far 7 x ≤ _; omega
          have lg := log_small fs
          rw [show gRepr [.int (Far x : Int)] g5 = some (.str (toString (Far x : Int)), g5) by unfold gRepr; simp only [lg, decide_true, if_true]]
          try simp only [wp_c, wp_var, slotK_some, wp_op, wp_un, wp_b, asB_bl, wp_tr, asT_some, wp_yes, wp_and, wp_or, wp_not, wp_caseB, wp_andV, wp_orV, wp_notV, wp_if, wp_nil, wp_cons, wp_tup, wp_lst, wp_cb, wp_call, wp_m0, wp_m1, wp_ml0, wp_ml, wp_isi, wp_isi2, wp_nopart, asI_int, wp_part, wp_sl, wp_seq, seqK_nx, seqK_rt, seqK_bk, seqK_ct, wp_next, wp_brk, wp_cont, wp_drop, wp_ret, wp_ifS, wp_set, wp_par, wp_par3, wp_asg, wp_pat, asP_some, wp_sub, asH_some, wp_aug, wp_for, wp_while, wp_lc, wp_lc2, wp_def, defK_rt, defK_nx, wp_miseq, srcK_ref, srcK_tup, srcK_str, rngK_int, wp_range1, wp_enum, enumK_ref, Tl_some, Ts_some, loopK_nx, loopK_ct, loopK_bk, loopK_rt, ixK_some, atI_k0, atI_k1, atI_k2, atI_k3, atI_k4, atI_k5, atI_k6, atI_k8, atI_k9, L2.atI_last, atI_n, g_ix_t, g_ix_s, g_ix_r, cIx_l, cIx_z, cIx_d, cIx_f, g_sub, g_lt, g_le, g_gt, g_ge, g_addi, g_addI, g_adds, g_addt, g_mul, g_muls, g_fdiv, g_mod, g_neg, g_eqs, g_nes, g_eqi, g_nei, g_min, g_max, g_int_b, g_int_i, g_is_non, g_cuts, g_cutt, g_lens, g_lent, g_lenr, cLen_l, cLen_z, g_tupt, g_tupr, cTup_l, g_listt, isLst_r, lstAt_r, cLst_l, cLst_z, tr_r, cTr_l, tr_b, g_set, cSet_l, cSet_d, jK_some, kK_some, ixN_0, ixN_1, ixN_2, isS, mwipe, mPat, mPats, List.getElem?_cons_zero, List.getElem?_cons_succ, List.set_cons_zero, List.set_cons_succ, List.map_cons, List.map_nil, List.length_cons, List.length_nil, List.replicate_succ, List.replicate_zero, List.cons_append, List.nil_append, Nat.reduceAdd, Nat.reduceSub, Nat.reduceLeDiff, Nat.zero_add, Option.map_some, if_true, Bool.false_eq_true, if_false, true_and, and_true, decide_eq_true_eq, reduceIte, reduceCtorEq]
          refine (far_spec (by omega) 7 x t7 11 (by omega) g5).by ?_
          rintro _ g6 ⟨rfl, x6⟩
          rw [show gStrI [.int (far 7 x : Int)] g6 = some (.str (toString (Far x : Int)), g6) by unfold gStrI; simp only [show (((far 7 x : Nat) : Int).natAbs.log2 < 1920) from lg, decide_true, if_true]; rfl]
          simp only [wp_c, wp_var, slotK_some, wp_op, wp_un, wp_b, asB_bl, wp_tr, asT_some, wp_yes, wp_and, wp_or, wp_not, wp_caseB, wp_andV, wp_orV, wp_notV, wp_if, wp_nil, wp_cons, wp_tup, wp_lst, wp_cb, wp_call, wp_m0, wp_m1, wp_ml0, wp_ml, wp_isi, wp_isi2, wp_nopart, asI_int, wp_part, wp_sl, wp_seq, seqK_nx, seqK_rt, seqK_bk, seqK_ct, wp_next, wp_brk, wp_cont, wp_drop, wp_ret, wp_ifS, wp_set, wp_par, wp_par3, wp_asg, wp_pat, asP_some, wp_sub, asH_some, wp_aug, wp_for, wp_while, wp_lc, wp_lc2, wp_def, defK_rt, defK_nx, wp_miseq, srcK_ref, srcK_tup, srcK_str, rngK_int, wp_range1, wp_enum, enumK_ref, Tl_some, Ts_some, loopK_nx, loopK_ct, loopK_bk, loopK_rt, ixK_some, atI_k0, atI_k1, atI_k2, atI_k3, atI_k4, atI_k5, atI_k6, atI_k8, atI_k9, L2.atI_last, atI_n, g_ix_t, g_ix_s, g_ix_r, cIx_l, cIx_z, cIx_d, cIx_f, g_sub, g_lt, g_le, g_gt, g_ge, g_addi, g_addI, g_adds, g_addt, g_mul, g_muls, g_fdiv, g_mod, g_neg, g_eqs, g_nes, g_eqi, g_nei, g_min, g_max, g_int_b, g_int_i, g_is_non, g_cuts, g_cutt, g_lens, g_lent, g_lenr, cLen_l, cLen_z, g_tupt, g_tupr, cTup_l, g_listt, isLst_r, lstAt_r, cLst_l, cLst_z, tr_r, cTr_l, tr_b, g_set, cSet_l, cSet_d, jK_some, kK_some, ixN_0, ixN_1, ixN_2, isS, mwipe, mPat, mPats, List.getElem?_cons_zero, List.getElem?_cons_succ, List.set_cons_zero, List.set_cons_succ, List.map_cons, List.map_nil, List.length_cons, List.length_nil, List.replicate_succ, List.replicate_zero, List.cons_append, List.nil_append, Nat.reduceAdd, Nat.reduceSub, Nat.reduceLeDiff, Nat.zero_add, Option.map_some, if_true, Bool.false_eq_true, if_false, true_and, and_true, decide_eq_true_eq, reduceIte, reduceCtorEq, decide_true, Bool.not_true]
          have X := (((x2.trans x3).trans x4).trans x5).trans x6
          have e26 := ((x3.trans x4).trans (x5.trans x6)).get e2
          simp only [wp_c, wp_var, slotK_some, wp_op, wp_un, wp_b, asB_bl, wp_tr, asT_some, wp_yes, wp_and, wp_or, wp_not, wp_caseB, wp_andV, wp_orV, wp_notV, wp_if, wp_nil, wp_cons, wp_tup, wp_lst, wp_cb, wp_call, wp_m0, wp_m1, wp_ml0, wp_ml, wp_isi, wp_isi2, wp_nopart, asI_int, wp_part, wp_sl, wp_seq, seqK_nx, seqK_rt, seqK_bk, seqK_ct, wp_next, wp_brk, wp_cont, wp_drop, wp_ret, wp_ifS, wp_set, wp_par, wp_par3, wp_asg, wp_pat, asP_some, wp_sub, asH_some, wp_aug, wp_for, wp_while, wp_lc, wp_lc2, wp_def, defK_rt, defK_nx, wp_miseq, srcK_ref, srcK_tup, srcK_str, rngK_int, wp_range1, wp_enum, enumK_ref, Tl_some, Ts_some, loopK_nx, loopK_ct, loopK_bk, loopK_rt, ixK_some, atI_k0, atI_k1, atI_k2, atI_k3, atI_k4, atI_k5, atI_k6, atI_k8, atI_k9, L2.atI_last, atI_n, g_ix_t, g_ix_s, g_ix_r, cIx_l, cIx_z, cIx_d, cIx_f, g_sub, g_lt, g_le, g_gt, g_ge, g_addi, g_addI, g_adds, g_addt, g_mul, g_muls, g_fdiv, g_mod, g_neg, g_eqs, g_nes, g_eqi, g_nei, g_min, g_max, g_int_b, g_int_i, g_is_non, g_cuts, g_cutt, g_lens, g_lent, g_lenr, cLen_l, cLen_z, g_tupt, g_tupr, cTup_l, g_listt, isLst_r, lstAt_r, cLst_l, cLst_z, tr_r, cTr_l, tr_b, g_set, cSet_l, cSet_d, jK_some, kK_some, ixN_0, ixN_1, ixN_2, isS, mwipe, mPat, mPats, List.getElem?_cons_zero, List.getElem?_cons_succ, List.set_cons_zero, List.set_cons_succ, List.map_cons, List.map_nil, List.length_cons, List.length_nil, List.replicate_succ, List.replicate_zero, List.cons_append, List.nil_append, Nat.reduceAdd, Nat.reduceSub, Nat.reduceLeDiff, Nat.zero_add, Option.map_some, if_true, Bool.false_eq_true, if_false, true_and, and_true, decide_eq_true_eq, reduceIte, reduceCtorEq, e26]
          refine Tl.clear e26 fun g7 c7 => ?_
          try simp only [wp_c, wp_var, slotK_some, wp_op, wp_un, wp_b, asB_bl, wp_tr, asT_some, wp_yes, wp_and, wp_or, wp_not, wp_caseB, wp_andV, wp_orV, wp_notV, wp_if, wp_nil, wp_cons, wp_tup, wp_lst, wp_cb, wp_call, wp_m0, wp_m1, wp_ml0, wp_ml, wp_isi, wp_isi2, wp_nopart, asI_int, wp_part, wp_sl, wp_seq, seqK_nx, seqK_rt, seqK_bk, seqK_ct, wp_next, wp_brk, wp_cont, wp_drop, wp_ret, wp_ifS, wp_set, wp_par, wp_par3, wp_asg, wp_pat, asP_some, wp_sub, asH_some, wp_aug, wp_for, wp_while, wp_lc, wp_lc2, wp_def, defK_rt, defK_nx, wp_miseq, srcK_ref, srcK_tup, srcK_str, rngK_int, wp_range1, wp_enum, enumK_ref, Tl_some, Ts_some, loopK_nx, loopK_ct, loopK_bk, loopK_rt, ixK_some, atI_k0, atI_k1, atI_k2, atI_k3, atI_k4, atI_k5, atI_k6, atI_k8, atI_k9, L2.atI_last, atI_n, g_ix_t, g_ix_s, g_ix_r, cIx_l, cIx_z, cIx_d, cIx_f, g_sub, g_lt, g_le, g_gt, g_ge, g_addi, g_addI, g_adds, g_addt, g_mul, g_muls, g_fdiv, g_mod, g_neg, g_eqs, g_nes, g_eqi, g_nei, g_min, g_max, g_int_b, g_int_i, g_is_non, g_cuts, g_cutt, g_lens, g_lent, g_lenr, cLen_l, cLen_z, g_tupt, g_tupr, cTup_l, g_listt, isLst_r, lstAt_r, cLst_l, cLst_z, tr_r, cTr_l, tr_b, g_set, cSet_l, cSet_d, jK_some, kK_some, ixN_0, ixN_1, ixN_2, isS, mwipe, mPat, mPats, List.getElem?_cons_zero, List.getElem?_cons_succ, List.set_cons_zero, List.set_cons_succ, List.map_cons, List.map_nil, List.length_cons, List.length_nil, List.replicate_succ, List.replicate_zero, List.cons_append, List.nil_append, Nat.reduceAdd, Nat.reduceSub, Nat.reduceLeDiff, Nat.zero_add, Option.map_some, if_true, Bool.false_eq_true, if_false, true_and, and_true, decide_eq_true_eq, reduceIte, reduceCtorEq]
          exact ⟨_, _, rfl, c7.get (X.get ez1) (by omega), c7.get (X.get eL1) (by omega)⟩
        · rintro s g1 ⟨u6, u7, rfl, ez1, eL1⟩
          try simp only [wp_c, wp_var, slotK_some, wp_op, wp_un, wp_b, asB_bl, wp_tr, asT_some, wp_yes, wp_and, wp_or, wp_not, wp_caseB, wp_andV, wp_orV, wp_notV, wp_if, wp_nil, wp_cons, wp_tup, wp_lst, wp_cb, wp_call, wp_m0, wp_m1, wp_ml0, wp_ml, wp_isi, wp_isi2, wp_nopart, asI_int, wp_part, wp_sl, wp_seq, seqK_nx, seqK_rt, seqK_bk, seqK_ct, wp_next, wp_brk, wp_cont, wp_drop, wp_ret, wp_ifS, wp_set, wp_par, wp_par3, wp_asg, wp_pat, asP_some, wp_sub, asH_some, wp_aug, wp_for, wp_while, wp_lc, wp_lc2, wp_def, defK_rt, defK_nx, wp_miseq, srcK_ref, srcK_tup, srcK_str, rngK_int, wp_range1, wp_enum, enumK_ref, Tl_some, Ts_some, loopK_nx, loopK_ct, loopK_bk, loopK_rt, ixK_some, atI_k0, atI_k1, atI_k2, atI_k3, atI_k4, atI_k5, atI_k6, atI_k8, atI_k9, L2.atI_last, atI_n, g_ix_t, g_ix_s, g_ix_r, cIx_l, cIx_z, cIx_d, cIx_f, g_sub, g_lt, g_le, g_gt, g_ge, g_addi, g_addI, g_adds, g_addt, g_mul, g_muls, g_fdiv, g_mod, g_neg, g_eqs, g_nes, g_eqi, g_nei, g_min, g_max, g_int_b, g_int_i, g_is_non, g_cuts, g_cutt, g_lens, g_lent, g_lenr, cLen_l, cLen_z, g_tupt, g_tupr, cTup_l, g_listt, isLst_r, lstAt_r, cLst_l, cLst_z, tr_r, cTr_l, tr_b, g_set, cSet_l, cSet_d, jK_some, kK_some, ixN_0, ixN_1, ixN_2, isS, mwipe, mPat, mPats, List.getElem?_cons_zero, List.getElem?_cons_succ, List.set_cons_zero, List.set_cons_succ, List.map_cons, List.map_nil, List.length_cons, List.length_nil, List.replicate_succ, List.replicate_zero, List.cons_append, List.nil_append, Nat.reduceAdd, Nat.reduceSub, Nat.reduceLeDiff, Nat.zero_add, Option.map_some, if_true, Bool.false_eq_true, if_false, true_and, and_true, decide_eq_true_eq, reduceIte, reduceCtorEq]
          exact ⟨_, _, _, rfl, ez1, eL1⟩
      · rintro s hh ⟨u5, u6, u7, rfl, ez, _⟩
        simp only [wp_c, wp_var, slotK_some, wp_op, wp_un, wp_b, asB_bl, wp_tr, asT_some, wp_yes, wp_and, wp_or, wp_not, wp_caseB, wp_andV, wp_orV, wp_notV, wp_if, wp_nil, wp_cons, wp_tup, wp_lst, wp_cb, wp_call, wp_m0, wp_m1, wp_ml0, wp_ml, wp_isi, wp_isi2, wp_nopart, asI_int, wp_part, wp_sl, wp_seq, seqK_nx, seqK_rt, seqK_bk, seqK_ct, wp_next, wp_brk, wp_cont, wp_drop, wp_ret, wp_ifS, wp_set, wp_par, wp_par3, wp_asg, wp_pat, asP_some, wp_sub, asH_some, wp_aug, wp_for, wp_while, wp_lc, wp_lc2, wp_def, defK_rt, defK_nx, wp_miseq, srcK_ref, srcK_tup, srcK_str, rngK_int, wp_range1, wp_enum, enumK_ref, Tl_some, Ts_some, loopK_nx, loopK_ct, loopK_bk, loopK_rt, ixK_some, atI_k0, atI_k1, atI_k2, atI_k3, atI_k4, atI_k5, atI_k6, atI_k8, atI_k9, L2.atI_last, atI_n, g_ix_t, g_ix_s, g_ix_r, cIx_l, cIx_z, cIx_d, cIx_f, g_sub, g_lt, g_le, g_gt, g_ge, g_addi, g_addI, g_adds, g_addt, g_mul, g_muls, g_fdiv, g_mod, g_neg, g_eqs, g_nes, g_eqi, g_nei, g_min, g_max, g_int_b, g_int_i, g_is_non, g_cuts, g_cutt, g_lens, g_lent, g_lenr, cLen_l, cLen_z, g_tupt, g_tupr, cTup_l, g_listt, isLst_r, lstAt_r, cLst_l, cLst_z, tr_r, cTr_l, tr_b, g_set, cSet_l, cSet_d, jK_some, kK_some, ixN_0, ixN_1, ixN_2, isS, mwipe, mPat, mPats, List.getElem?_cons_zero, List.getElem?_cons_succ, List.set_cons_zero, List.set_cons_succ, List.map_cons, List.map_nil, List.length_cons, List.length_nil, List.replicate_succ, List.replicate_zero, List.cons_append, List.nil_append, Nat.reduceAdd, Nat.reduceSub, Nat.reduceLeDiff, Nat.zero_add, Option.map_some, if_true, Bool.false_eq_true, if_false, true_and, and_true, decide_eq_true_eq, reduceIte, reduceCtorEq]
        exact ⟨_, _, _, _, _, _, _, rfl, ez⟩
  · rintro s hh ⟨u1, u2, u3, u4, u5, u6, u7, rfl, ez⟩
    simp only [wp_c, wp_var, slotK_some, wp_op, wp_un, wp_b, asB_bl, wp_tr, asT_some, wp_yes, wp_and, wp_or, wp_not, wp_caseB, wp_andV, wp_orV, wp_notV, wp_if, wp_nil, wp_cons, wp_tup, wp_lst, wp_cb, wp_call, wp_m0, wp_m1, wp_ml0, wp_ml, wp_isi, wp_isi2, wp_nopart, asI_int, wp_part, wp_sl, wp_seq, seqK_nx, seqK_rt, seqK_bk, seqK_ct, wp_next, wp_brk, wp_cont, wp_drop, wp_ret, wp_ifS, wp_set, wp_par, wp_par3, wp_asg, wp_pat, asP_some, wp_sub, asH_some, wp_aug, wp_for, wp_while, wp_lc, wp_lc2, wp_def, defK_rt, defK_nx, wp_miseq, srcK_ref, srcK_tup, srcK_str, rngK_int, wp_range1, wp_enum, enumK_ref, Tl_some, Ts_some, loopK_nx, loopK_ct, loopK_bk, loopK_rt, ixK_some, atI_k0, atI_k1, atI_k2, atI_k3, atI_k4, atI_k5, atI_k6, atI_k8, atI_k9, L2.atI_last, atI_n, g_ix_t, g_ix_s, g_ix_r, cIx_l, cIx_z, cIx_d, cIx_f, g_sub, g_lt, g_le, g_gt, g_ge, g_addi, g_addI, g_adds, g_addt, g_mul, g_muls, g_fdiv, g_mod, g_neg, g_eqs, g_nes, g_eqi, g_nei, g_min, g_max, g_int_b, g_int_i, g_is_non, g_cuts, g_cutt, g_lens, g_lent, g_lenr, cLen_l, cLen_z, g_tupt, g_tupr, cTup_l, g_listt, isLst_r, lstAt_r, cLst_l, cLst_z, tr_r, cTr_l, tr_b, g_set, cSet_l, cSet_d, jK_some, kK_some, ixN_0, ixN_1, ixN_2, isS, mwipe, mPat, mPats, List.getElem?_cons_zero, List.getElem?_cons_succ, List.set_cons_zero, List.set_cons_succ, List.map_cons, List.map_nil, List.length_cons, List.length_nil, List.replicate_succ, List.replicate_zero, List.cons_append, List.nil_append, Nat.reduceAdd, Nat.reduceSub, Nat.reduceLeDiff, Nat.zero_add, Option.map_some, if_true, Bool.false_eq_true, if_false, true_and, and_true, decide_eq_true_eq, reduceIte, reduceCtorEq]
theorem law_true : ∀ ns : List Int, ns.length ≤ 63 → ∃ fuel h', f_law fuel [.ref 0] [.fz (ns.map .int)] = some (.bl true, h') := fun ns hl => by
  obtain ⟨v, h', e, rfl⟩ := law_run 100000000 (Nat.le_refl _) ns hl
  exact ⟨_, h', e⟩
end K03

open PySem PySem.W PyProof.Rows
set_option maxHeartbeats 0 in
theorem PySem.Challenge.cw_tonguetower_k03_parts_of_terms_holds : PySem.Challenge.rw_tonguetower_k03_parts_of_terms.Holds := by
  w_on; o_law; k_head; (case hw => w_witness2)
  k_fill
  refine Mi.walk_ofG (l := PySem.Challenge.rw_tonguetower_k03_parts_of_terms) (n := 63) (k := 27) (F := K03.f_law) (x := "_law_script") rfl (by decide) rfl ⟨rfl, by decide, by decide⟩ (fun w h Y => PySem.W.kIn_of Y) ?F K03.law_true
  case F =>
    intro w mg fa h KX G hmg
    refine' K03.all_mk KX G hmg ?a0 ?l0 ?c0 ?k0 ?a1 ?l1 ?c1 ?k1 ?a2 ?l2 ?c2 ?k2 ?a3 ?l3 ?c3 ?k3 ?a4 ?l4 ?c4 ?k4 ?a5 ?l5 ?c5 ?k5 ?a6 ?l6 ?c6 ?k6 ?a7 ?l7 ?c7 ?k7 ?a8 ?l8 ?c8 ?k8 ?a9 ?l9 ?c9 ?k9 ?a10 ?l10 ?c10 ?k10 ?a11 ?l11 ?c11 ?k11 ?a12 ?l12 ?c12 ?k12 ?a13 ?l13 ?c13 ?k13 ?a14 ?l14 ?c14 ?k14 ?a15 ?l15 ?c15 ?k15 ?a16 ?l16 ?c16 ?k16 ?a17 ?l17 ?c17 ?k17 ?a18 ?l18 ?c18 ?k18 ?a19 ?l19 ?c19 ?k19 ?z_bool ?z_dict ?z_enumerate ?z_int ?z_isinstance ?z_len ?z_list ?z_max ?z_min ?z_range ?z_repr ?z_str ?z_tuple ?z_zip
    (case a0 => k_is)
    (case l0 => k_is)
    (case c0 => k_is)
    (case k0 => k_is)
    (case a1 => k_is)
    (case l1 => k_is)
    (case c1 => k_is)
    (case k1 => k_is)
    (case a2 => k_is)
    (case l2 => k_is)
    (case c2 => k_is)
    (case k2 => k_is)
    (case a3 => k_is)
    (case l3 => k_is)
    (case c3 => k_is)
    (case k3 => k_is)
    (case a4 => k_is)
    (case l4 => k_is)
    (case c4 => k_is)
    (case k4 => k_is)
    (case a5 => k_is)
    (case l5 => k_is)
    (case c5 => k_is)
    (case k5 => k_is)
    (case a6 => k_is)
    (case l6 => k_is)
    (case c6 => k_is)
    (case k6 => k_is)
    (case a7 => k_is)
    (case l7 => k_is)
    (case c7 => k_is)
    (case k7 => k_is)
    (case a8 => k_is)
    (case l8 => k_is)
    (case c8 => k_is)
    (case k8 => k_is)
    (case a9 => k_is)
    (case l9 => k_is)
    (case c9 => k_is)
    (case k9 => k_is)
    (case a10 => k_is)
    (case l10 => k_is)
    (case c10 => k_is)
    (case k10 => k_is)
    (case a11 => k_is)
    (case l11 => k_is)
    (case c11 => k_is)
    (case k11 => k_is)
    (case a12 => k_is)
    (case l12 => k_is)
    (case c12 => k_is)
    (case k12 => k_is)
    (case a13 => k_is)
    (case l13 => k_is)
    (case c13 => k_is)
    (case k13 => k_is)
    (case a14 => k_is)
    (case l14 => k_is)
    (case c14 => k_is)
    (case k14 => k_is)
    (case a15 => k_is)
    (case l15 => k_is)
    (case c15 => k_is)
    (case k15 => k_is)
    (case a16 => k_is)
    (case l16 => k_is)
    (case c16 => k_is)
    (case k16 => k_is)
    (case a17 => k_is)
    (case l17 => k_is)
    (case c17 => k_is)
    (case k17 => k_is)
    (case a18 => k_is)
    (case l18 => k_is)
    (case c18 => k_is)
    (case k18 => k_is)
    (case a19 => k_is)
    (case l19 => k_is)
    (case c19 => k_is)
    (case k19 => k_is)
    (case z_bool => k_is)
    (case z_dict => k_is)
    (case z_enumerate => k_is)
    (case z_int => k_is)
    (case z_isinstance => k_is)
    (case z_len => k_is)
    (case z_list => k_is)
    (case z_max => k_is)
    (case z_min => k_is)
    (case z_range => k_is)
    (case z_repr => k_is)
    (case z_str => k_is)
    (case z_tuple => k_is)
    (case z_zip => k_is)


