import PyProof.Rows.All
import Wide.All
import OpenK.AllK
import Wide.FinOn
import HandS.ForMost
import HandS.RaiseMore
import HandS.TupAny
import HandS.TupLe
import HandS.IsInst
import HandS.StrMore
import HandS.Replace
import HandS.More
import PyProof.ListStr
import PyProof.StrOps2
import PyProof.FitsStr
import HandS.Zip
import HandS.Rev
import HandS.WordsDict
import PyProof.ReprRoads
import KE.KRevIter
import PyProof.StrLawsIn
import PyProof.Rows.StrLawsPart
import PyProof.Rows.StrCase
import PySem.Challenge.RW_tonguetower_k02_words
set_option Elab.async false
set_option linter.all false
set_option maxRecDepth 100000
set_option maxHeartbeats 4000000
/-! Mi: a small evaluator over trees and numbered cells; each construct's rule says that the machine does what the evaluator does. -/
namespace Mi
open PySem PySem.Spec PyProof.Rows L2

/-- a value: tuples are trees, what may change has a number -/
inductive W where
  | non | bl (b : Bool) | int (i : Int) | str (x : Str) | tup (xs : List W) | ref (n : Nat)
  deriving Inhabited
/-- what stands at a number -/
inductive Cell where
  | lst (xs : List W) | dic (kvs : List (Key × W)) | fz (xs : List W)
abbrev MH := List Cell
abbrev MS := List (Option W)

mutual
def Rep (K : PySem.W.Frag) (m : List Addr) (H : Hp) : W → V → Prop
  | .non, v => v = .non
  | .bl b, v => v = .bl b
  | .int i, v => v = .int i
  | .str x, v => v = .str x
  | .tup xs, v => ∃ a vs, v = .ref a ∧ SqT K H a vs ∧ Reps K m H xs vs
  | .ref n, v => ∃ a, m[n]? = some a ∧ v = .ref a
def Reps (K : PySem.W.Frag) (m : List Addr) (H : Hp) : List W → List V → Prop
  | [], vs => vs = []
  | x :: xs, vs => ∃ v r, vs = v :: r ∧ Rep K m H x v ∧ Reps K m H xs r
end

structure Le (K : PySem.W.Frag) (m m' : List Addr) (H H' : Hp) : Prop where
  pre : ∀ (n : Nat) (a : Addr), m[n]? = some a → m'[n]? = some a
  tup : ∀ a vs, SqT K H a vs → SqT K H' a vs
theorem Le.refl {K m H} : Le K m m H H := ⟨fun _ _ h => h, fun _ _ h => h⟩
theorem Le.trans {K m m1 m2 H H1 H2} (a : Le K m m1 H H1) (b : Le K m1 m2 H1 H2) : Le K m m2 H H2 :=
  ⟨fun n x h => b.pre n x (a.pre n x h), fun x vs h => b.tup x vs (a.tup x vs h)⟩

mutual
theorem Rep.mono {K m m' H H'} (l : Le K m m' H H') : ∀ (w : W) (v : V), Rep K m H w v → Rep K m' H' w v
  | .non, _, h => h
  | .bl _, _, h => h
  | .int _, _, h => h
  | .str _, _, h => h
  | .tup xs, _, h => by
    obtain ⟨a, vs, e, t, r⟩ := h
    exact ⟨a, vs, e, l.tup a vs t, Reps.mono l xs vs r⟩
  | .ref n, _, h => by
    obtain ⟨a, e, e2⟩ := h
    exact ⟨a, l.pre n a e, e2⟩
theorem Reps.mono {K m m' H H'} (l : Le K m m' H H') : ∀ (xs : List W) (vs : List V), Reps K m H xs vs → Reps K m' H' xs vs
  | [], _, h => h
  | x :: xs, _, h => by
    obtain ⟨v, r, e, h1, h2⟩ := h
    exact ⟨v, r, e, Rep.mono l x v h1, Reps.mono l xs r h2⟩
end
section
variable {K : PySem.W.Frag} {m : List Addr} {H : Hp}
theorem Reps.length : ∀ {xs : List W} {vs : List V}, Reps K m H xs vs → vs.length = xs.length
  | [], _, h => by rw [show _ = ([] : List V) from h]; rfl
  | x :: xs, _, h => by
    obtain ⟨v, r, e, _, h2⟩ := h
    subst e
    simp [Reps.length h2]
theorem Reps.get : ∀ {xs : List W} {vs : List V} {i : Nat} {x : W}, Reps K m H xs vs → xs[i]? = some x → ∃ v, vs[i]? = some v ∧ Rep K m H x v
  | [], _, _, _, _, e => by simp at e
  | y :: xs, _, 0, x, h, e => by
    obtain ⟨v, r, rfl, h1, h2⟩ := h
    simp at e; subst e
    exact ⟨v, rfl, h1⟩
  | y :: xs, _, i + 1, x, h, e => by
    obtain ⟨v, r, rfl, h1, h2⟩ := h
    have := Reps.get (i := i) (x := x) h2 (by simpa using e)
    simpa using this
theorem Reps.append : ∀ {xs ys : List W} {vs us : List V}, Reps K m H xs vs → Reps K m H ys us → Reps K m H (xs ++ ys) (vs ++ us)
  | [], _, _, _, h, g => by rw [show _ = ([] : List V) from h]; exact g
  | x :: xs, _, _, _, h, g => by
    obtain ⟨v, r, rfl, h1, h2⟩ := h
    exact ⟨v, r ++ _, rfl, h1, Reps.append h2 g⟩
theorem Reps.set : ∀ {xs : List W} {vs : List V} {x : W} {v : V} (i : Nat), Reps K m H xs vs → Rep K m H x v → Reps K m H (xs.set i x) (vs.set i v)
  | [], _, _, _, _, h, _ => by rw [show _ = ([] : List V) from h]; rfl
  | y :: xs, _, _, _, 0, h, g => by
    obtain ⟨v, r, rfl, h1, h2⟩ := h
    exact ⟨_, r, rfl, g, h2⟩
  | y :: xs, _, _, _, i + 1, h, g => by
    obtain ⟨v, r, rfl, h1, h2⟩ := h
    exact ⟨v, _, rfl, h1, Reps.set i h2 g⟩
theorem Reps.take : ∀ {xs : List W} {vs : List V} (n : Nat), Reps K m H xs vs → Reps K m H (xs.take n) (vs.take n)
  | [], _, n, h => by rw [show _ = ([] : List V) from h]; simp; rfl
  | x :: xs, _, 0, h => by simp; rfl
  | x :: xs, _, n + 1, h => by
    obtain ⟨v, r, rfl, h1, h2⟩ := h
    exact ⟨v, _, rfl, h1, Reps.take n h2⟩
theorem Reps.drop : ∀ {xs : List W} {vs : List V} (n : Nat), Reps K m H xs vs → Reps K m H (xs.drop n) (vs.drop n)
  | [], _, n, h => by rw [show _ = ([] : List V) from h]; simp; rfl
  | x :: xs, _, 0, h => h
  | x :: xs, _, n + 1, h => by
    obtain ⟨v, r, rfl, h1, h2⟩ := h
    exact Reps.drop n h2
theorem Reps.one {x : W} {v : V} (h : Rep K m H x v) : Reps K m H [x] [v] := ⟨v, [], rfl, h, rfl⟩
theorem Reps.eraseIdx : ∀ {xs : List W} {vs : List V} (n : Nat), Reps K m H xs vs → Reps K m H (xs.eraseIdx n) (vs.eraseIdx n)
  | [], _, n, h => by rw [show _ = ([] : List V) from h]; simp; rfl
  | x :: xs, _, 0, h => by
    obtain ⟨v, r, rfl, h1, h2⟩ := h
    exact h2
  | x :: xs, _, n + 1, h => by
    obtain ⟨v, r, rfl, h1, h2⟩ := h
    exact ⟨v, _, rfl, h1, Reps.eraseIdx n h2⟩
theorem Reps.reverse : ∀ {xs : List W} {vs : List V}, Reps K m H xs vs → Reps K m H xs.reverse vs.reverse
  | [], _, h => by rw [show _ = ([] : List V) from h]; rfl
  | x :: xs, _, h => by
    obtain ⟨v, r, rfl, h1, h2⟩ := h
    rw [List.reverse_cons, List.reverse_cons]
    exact (Reps.reverse h2).append (Reps.one h1)
theorem Reps.dropLast : ∀ {xs : List W} {vs : List V}, Reps K m H xs vs → Reps K m H xs.dropLast vs.dropLast := fun {xs vs} h => by
  rw [List.dropLast_eq_take, List.dropLast_eq_take, h.length]
  exact h.take _
/-- flat values -/
def flatW : W → Bool
  | .non => true | .bl _ => true | .int _ => true | .str _ => true | _ => false
def flV : W → V
  | .non => .non | .bl b => .bl b | .int i => .int i | .str x => .str x | _ => .non
theorem Rep.flat : ∀ {w : W} {v : V}, Rep K m H w v → flatW w = true → v = flV w
  | .non, _, h, _ => h
  | .bl _, _, h, _ => h
  | .int _, _, h, _ => h
  | .str _, _, h, _ => h
  | .tup _, _, _, f => by cases f
  | .ref _, _, _, f => by cases f
theorem Rep.ofFlat : ∀ {w : W}, flatW w = true → Rep K m H w (flV w)
  | .non, _ => rfl
  | .bl _, _ => rfl
  | .int _, _ => rfl
  | .str _, _ => rfl
  | .tup _, f => by cases f
  | .ref _, f => by cases f
theorem Reps.flat : ∀ {xs : List W} {vs : List V}, Reps K m H xs vs → xs.all flatW = true → vs = xs.map flV
  | [], _, h, _ => h
  | x :: xs, _, h, f => by
    obtain ⟨v, r, rfl, h1, h2⟩ := h
    rw [List.all_cons, Bool.and_eq_true] at f
    rw [h1.flat f.1, Reps.flat h2 f.2]; rfl
end

/-- the pairs of a dict -/
def RepKV (K : PySem.W.Frag) (m : List Addr) (H : Hp) : List (Key × W) → List (Key × V) → Prop
  | [], vs => vs = []
  | (k, w) :: r, vs => ∃ v s, vs = (k, v) :: s ∧ Rep K m H w v ∧ RepKV K m H r s
theorem RepKV.mono {K m m' H H'} (l : Le K m m' H H') : ∀ {xs : List (Key × W)} {vs : List (Key × V)}, RepKV K m H xs vs → RepKV K m' H' xs vs
  | [], _, h => h
  | (k, w) :: r, _, h => by
    obtain ⟨v, s, rfl, h1, h2⟩ := h
    exact ⟨v, s, rfl, Rep.mono l w v h1, RepKV.mono l h2⟩

/-- a list that is never changed here: the script, a list of the module's -/
def Frz (K : PySem.W.Frag) (H : Hp) (a : Addr) (vs : List V) : Prop :=
  (∃ o, H a = some (.frz o (.lst vs))) ∨ ∃ (o : Obj) (its : Array Value) (n : Nat), K.lookup a = some o ∧ o.cls = .type "list" ∧ o.dict = none ∧ o.data = .seq its n ∧ its.size ≤ sizeLine ∧ Vals vs its.toList
theorem Frz.sql {K H a vs} (h : Frz K H a vs) : SqL K H a vs := by
  rcases h with ⟨o, h⟩ | h
  · exact .inl (.inr ⟨o, h⟩)
  · exact .inr h
def CellOk (K : PySem.W.Frag) (m : List Addr) (H : Hp) : Cell → Addr → Prop
  | .lst xs, a => ∃ vs, H a = some (.lst vs) ∧ Reps K m H xs vs
  | .dic kvs, a => ∃ us, H a = some (.dK us) ∧ RepKV K m H kvs us
  | .fz xs, a => ∃ vs, Frz K H a vs ∧ Reps K m H xs vs
def Cell.mut : Cell → Bool
  | .fz _ => false
  | _ => true
structure Sm (K : PySem.W.Frag) (m : List Addr) (h : MH) (H : Hp) : Prop where
  len : m.length = h.length
  inj : ∀ (i j : Nat) (a : Addr) (c d : Cell), m[i]? = some a → m[j]? = some a → h[i]? = some c → h[j]? = some d → c.mut = true → d.mut = true → i = j
  cell : ∀ (i : Nat) (a : Addr) (c : Cell), m[i]? = some a → h[i]? = some c → CellOk K m H c a

section
variable {K : PySem.W.Frag} {m : List Addr} {h : MH} {H : Hp} {p a : Addr} {o u : HO}
theorem sqt_new (hn : H p = none) {b : Addr} {vs : List V} (t : SqT K H b vs) : SqT K (upd H p o) b vs := by
  rcases t with (t | ⟨ob, t⟩) | t
  · exact .inl (.inl (by rw [upd_ne (ne_of_none t hn)]; exact t))
  · exact .inl (.inr ⟨ob, by rw [upd_ne (ne_of_none t hn)]; exact t⟩)
  · exact .inr t
/-- what is written is no tuple -/
def NoTup : HO → Prop
  | .lst _ => True
  | .dK _ => True
  | _ => False
theorem sqt_upd (hp : H p = some u) (hu : NoTup u) {b : Addr} {vs : List V} (t : SqT K H b vs) : SqT K (upd H p o) b vs := by
  rcases t with (t | ⟨ob, t⟩) | t
  · exact .inl (.inl (by rw [upd_ne (ne_of t hp (by intro z; subst z; exact hu))]; exact t))
  · exact .inl (.inr ⟨ob, by rw [upd_ne (ne_of t hp (by intro z; subst z; exact hu))]; exact t⟩)
  · exact .inr t
theorem frz_new (hn : H p = none) {b : Addr} {vs : List V} (t : Frz K H b vs) : Frz K (upd H p o) b vs := by
  rcases t with ⟨ob, t⟩ | t
  · exact .inl ⟨ob, by rw [upd_ne (ne_of_none t hn)]; exact t⟩
  · exact .inr t
theorem frz_upd (hp : H p = some u) (hu : NoTup u) {b : Addr} {vs : List V} (t : Frz K H b vs) : Frz K (upd H p o) b vs := by
  rcases t with ⟨ob, t⟩ | t
  · exact .inl ⟨ob, by rw [upd_ne (ne_of t hp (by intro z; subst z; exact hu))]; exact t⟩
  · exact .inr t

theorem Sm.addr (S : Sm K m h H) {i : Nat} {c : Cell} (e : h[i]? = some c) : ∃ a, m[i]? = some a ∧ CellOk K m H c a := by
  have hi : i < h.length := by
    rcases Nat.lt_or_ge i h.length with q | q
    · exact q
    · rw [List.getElem?_eq_none q] at e; cases e
  have hm : i < m.length := by rw [S.len]; exact hi
  refine ⟨m[i], List.getElem?_eq_getElem hm, S.cell i _ c (List.getElem?_eq_getElem hm) e⟩
theorem Sm.cellMut (S : Sm K m h H) {i : Nat} {c : Cell} (e : m[i]? = some a) (e2 : h[i]? = some c) (hc : c.mut = true) : ∃ u, H a = some u ∧ NoTup u := by
  have := S.cell i a c e e2
  cases c with
  | lst xs => obtain ⟨vs, q, _⟩ := this; exact ⟨_, q, trivial⟩
  | dic kvs => obtain ⟨vs, q, _⟩ := this; exact ⟨_, q, trivial⟩
  | fz xs => cases hc
/-- a new tuple, nothing else -/
theorem Le.newT (hn : H p = none) : Le K m m H (upd H p o) := ⟨fun _ _ q => q, fun _ _ t => sqt_new hn t⟩
theorem cellOk_le {m' : List Addr} {H' : Hp} {c : Cell} (l : Le K m m' H H') (k : CellOk K m H c a) (e : c.mut = true → H' a = H a) (f : ∀ vs, Frz K H a vs → Frz K H' a vs) : CellOk K m' H' c a := by
  cases c with
  | lst xs => obtain ⟨vs, q, r⟩ := k; exact ⟨vs, by rw [e rfl]; exact q, Reps.mono l _ _ r⟩
  | dic kvs => obtain ⟨vs, q, r⟩ := k; exact ⟨vs, by rw [e rfl]; exact q, RepKV.mono l r⟩
  | fz xs => obtain ⟨vs, q, r⟩ := k; exact ⟨vs, f _ q, Reps.mono l _ _ r⟩
theorem Sm.newT (S : Sm K m h H) (hn : H p = none) : Sm K m h (upd H p o) :=
  ⟨S.len, S.inj, fun i a c e e2 => cellOk_le (Le.newT hn) (S.cell i a c e e2) (fun hc => by
    obtain ⟨u, q, _⟩ := S.cellMut e e2 hc
    rw [upd_ne (ne_of_none q hn)]) fun vs t => frz_new hn t⟩
/-- a new cell -/
theorem Le.newC (hn : H p = none) : Le K m (m ++ [p]) H (upd H p o) := ⟨fun n a q => by
  have : n < m.length := by
    rcases Nat.lt_or_ge n m.length with z | z
    · exact z
    · rw [List.getElem?_eq_none z] at q; cases q
  rw [List.getElem?_append_left this]; exact q, fun _ _ t => sqt_new hn t⟩
theorem get_snoc {α : Type} {l : List α} {x y : α} {i : Nat} (e : (l ++ [x])[i]? = some y) : l[i]? = some y ∨ (i = l.length ∧ y = x) := by
  rcases Nat.lt_trichotomy i l.length with z | z | z
  · rw [List.getElem?_append_left z] at e; exact .inl e
  · subst z; rw [List.getElem?_concat_length] at e; cases e; exact .inr ⟨rfl, rfl⟩
  · rw [List.getElem?_eq_none (by simp; omega)] at e; cases e
theorem Sm.newC (S : Sm K m h H) {c : Cell} (hn : H p = none) (hc : CellOk K (m ++ [p]) (upd H p o) c p) : Sm K (m ++ [p]) (h ++ [c]) (upd H p o) := by
  refine ⟨by simp [S.len], fun i j a c1 d1 e1 e2 e3 e4 hm1 hm2 => ?_, fun i a c1 e1 e2 => ?_⟩
  · have lim : ∀ {i : Nat} {c1 : Cell}, (m ++ [p])[i]? = some a → (h ++ [c])[i]? = some c1 → c1.mut = true → (m[i]? = some a ∧ h[i]? = some c1 ∧ a ≠ p) ∨ (i = m.length ∧ a = p) := by
      intro i c1 e1 e3 hm1
      rcases get_snoc e1 with q | ⟨q, r⟩
      · rcases get_snoc e3 with q' | ⟨q', _⟩
        · refine .inl ⟨q, q', fun z => ?_⟩
          obtain ⟨u, q2, _⟩ := S.cellMut q q' hm1
          rw [z, hn] at q2; cases q2
        · rw [q', ← S.len] at q
          rw [List.getElem?_eq_none (Nat.le_refl _)] at q; cases q
      · exact .inr ⟨q, r⟩
    rcases lim e1 e3 hm1 with ⟨a1, a2, a3⟩ | ⟨a1, a2⟩
    · rcases lim e2 e4 hm2 with ⟨b1, b2, b3⟩ | ⟨b1, b2⟩
      · exact S.inj i j a c1 d1 a1 b1 a2 b2 hm1 hm2
      · exact absurd b2 a3
    · rcases lim e2 e4 hm2 with ⟨b1, b2, b3⟩ | ⟨b1, b2⟩
      · exact absurd a2 b3
      · omega
  · rcases get_snoc e1 with q | ⟨q, r⟩
    · rcases get_snoc e2 with q' | ⟨q', _⟩
      · exact cellOk_le (Le.newC hn) (S.cell i a c1 q q') (fun hc => by
          obtain ⟨u, q, _⟩ := S.cellMut q q' hc
          rw [upd_ne (ne_of_none q hn)]) fun vs t => frz_new hn t
      · rw [q', ← S.len, List.getElem?_eq_none (Nat.le_refl _)] at q; cases q
    · rcases get_snoc e2 with q' | ⟨q', q2⟩
      · rw [q, S.len, List.getElem?_eq_none (Nat.le_refl _)] at q'; cases q'
      · subst r; subst q2; exact hc
/-- a cell is changed -/
theorem Le.upd (hp : H p = some u) (hu : NoTup u) : Le K m m H (upd H p o) := ⟨fun _ _ q => q, fun _ _ t => sqt_upd hp hu t⟩
theorem Sm.upd (S : Sm K m h H) {i : Nat} {c d : Cell} (e : m[i]? = some p) (e2 : h[i]? = some c) (hc : c.mut = true) (hd : CellOk K m (L2.upd H p o) d p) (dm : d.mut = true) : Sm K m (h.set i d) (L2.upd H p o) := by
  obtain ⟨u, hp, hu⟩ := S.cellMut e e2 hc
  have hi : i < h.length := by
    rcases Nat.lt_or_ge i h.length with q | q
    · exact q
    · rw [List.getElem?_eq_none q] at e2; cases e2
  have old : ∀ {j : Nat} {c1 : Cell}, (h.set i d)[j]? = some c1 → (j = i ∧ c1 = d) ∨ (j ≠ i ∧ h[j]? = some c1) := by
    intro j c1 q
    by_cases z : i = j
    · subst z; rw [List.getElem?_set_self hi] at q; cases q; exact .inl ⟨rfl, rfl⟩
    · rw [List.getElem?_set_ne z] at q; exact .inr ⟨fun y => z y.symm, q⟩
  refine ⟨by rw [List.length_set]; exact S.len, fun j k a c1 d1 e1 e3 e4 e5 hm1 hm2 => ?_, fun j a c1 e1 e3 => ?_⟩
  · have back : ∀ {j : Nat} {c1 : Cell}, (h.set i d)[j]? = some c1 → c1.mut = true → ∃ c2, h[j]? = some c2 ∧ c2.mut = true := by
      intro j c1 q hm
      rcases old q with ⟨q1, q2⟩ | ⟨_, q2⟩
      · subst q1; exact ⟨c, e2, hc⟩
      · exact ⟨c1, q2, hm⟩
    obtain ⟨c2, q2, m2⟩ := back e4 hm1
    obtain ⟨c3, q3, m3⟩ := back e5 hm2
    exact S.inj j k a c2 c3 e1 e3 q2 q3 m2 m3
  · rcases old e3 with ⟨q1, q2⟩ | ⟨q1, q2⟩
    · subst q1; subst q2
      rw [e] at e1; cases e1; exact hd
    · refine cellOk_le (Le.upd hp hu) (S.cell j a c1 e1 q2) (fun hm => ?_) fun vs t => frz_upd hp hu t
      have : a ≠ p := fun z => by
        subst z
        exact q1 (S.inj j i a c1 c e1 e q2 e2 hm hc)
      rw [upd_ne this]
end

/-! ### the locals -/
def RS (K : PySem.W.Frag) (m : List Addr) (H : Hp) (s : MS) (σ : L2.St) : Prop :=
  ∀ (i : Nat) (w : W), s[i]? = some (some w) → ∃ v, σ[i]? = some (some v) ∧ Rep K m H w v
theorem RS.mono {K m m' H H'} (l : Le K m m' H H') {s : MS} {σ : L2.St} (r : RS K m H s σ) : RS K m' H' s σ := fun i w e => by
  obtain ⟨v, q, p⟩ := r i w e
  exact ⟨v, q, Rep.mono l w v p⟩
theorem RS.set {K m H} {s : MS} {σ : L2.St} {i : Nat} {w : W} {v : V} (r : RS K m H s σ) (hl : s.length = σ.length) (p : Rep K m H w v) : RS K m H (s.set i (some w)) (σ.set i (some v)) := fun j x e => by
  by_cases z : i = j
  · subst z
    by_cases hi : i < s.length
    · rw [List.getElem?_set_self hi] at e; cases e
      rw [List.getElem?_set_self (by rw [← hl]; exact hi)]
      exact ⟨v, rfl, p⟩
    · rw [List.getElem?_eq_none (by simpa using hi)] at e; cases e
  · rw [List.getElem?_set_ne z] at e
    rw [List.getElem?_set_ne z]
    exact r j x e
theorem RS.wipe1 {K m H} {s : MS} {σ : L2.St} {i : Nat} (r : RS K m H s σ) : RS K m H (s.set i none) (σ.set i none) := fun j x e => by
  by_cases z : i = j
  · subst z
    by_cases hi : i < s.length
    · rw [List.getElem?_set_self hi] at e; cases e
    · rw [List.getElem?_eq_none (by simpa using hi)] at e; cases e
  · rw [List.getElem?_set_ne z] at e
    rw [List.getElem?_set_ne z]
    exact r j x e
def mwipe (s : MS) : List Nat → MS
  | [] => s
  | v :: vs => (mwipe s vs).set v none
theorem mwipe_length (s : MS) : ∀ vs : List Nat, (mwipe s vs).length = s.length
  | [] => rfl
  | v :: vs => by unfold mwipe; rw [List.length_set, mwipe_length s vs]
theorem RS.wipe {K m H} {s : MS} {σ : L2.St} (r : RS K m H s σ) : ∀ vs : List Nat, RS K m H (mwipe s vs) (wipe σ vs)
  | [] => r
  | v :: vs => (RS.wipe r vs).wipe1

/-- the evaluator's state and the machine's -/
structure In (K : PySem.W.Frag) (m : List Addr) (s : MS) (h : MH) (σ : L2.St) (H : Hp) : Prop where
  sm : Sm K m h H
  rs : RS K m H s σ
  len : s.length = σ.length
theorem In.le {K m m' s h h' σ H H'} (I : In K m s h σ H) (l : Le K m m' H H') (S : Sm K m' h' H') : In K m' s h' σ H' := ⟨S, I.rs.mono l, I.len⟩

/-! ### readings by the evaluator -/
abbrev M := Nat → MS → MH → Option (W × MH)
abbrev MT := Nat → MS → MH → Option (Bool × MH)
abbrev MA := Nat → MS → MH → Option (List W × MH)
def tM (K : PySem.W.Frag) (f : M) : TE := fun σ H Q => ∃ n s h m w h', In K m s h σ H ∧ f n s h = some (w, h') ∧
  ∀ m' H' v, Le K m m' H H' → Sm K m' h' H' → Rep K m' H' w v → Q v H'
def tMT (K : PySem.W.Frag) (f : MT) : TT := fun σ H Q => ∃ n s h m w h', In K m s h σ H ∧ f n s h = some (w, h') ∧
  ∀ m' H', Le K m m' H H' → Sm K m' h' H' → Q w H'
def tMA (K : PySem.W.Frag) (f : MA) : TA := fun σ H Q => ∃ n s h m w h', In K m s h σ H ∧ f n s h = some (w, h') ∧
  ∀ m' H' vs, Le K m m' H H' → Sm K m' h' H' → Reps K m' H' w vs → Q vs H'

theorem imp_pe {X : Cx} {e : Expr} {t t' : TE} (p : PE X e t) (h : ∀ σ H Q, t' σ H Q → t σ H Q) : PE X e t' := ⟨fun pins s σ H Q I q => p.run pins s σ H Q I (h σ H Q q)⟩
theorem imp_pt {X : Cx} {e : Expr} {t t' : TT} (p : PT X e t) (h : ∀ σ H Q, t' σ H Q → t σ H Q) : PT X e t' := ⟨fun pins s σ H Q I q => p.run pins s σ H Q I (h σ H Q q)⟩
theorem imp_pw {X : Cx} {e : Expr} {t t' : TT} (p : PW X e t) (h : ∀ σ H Q, t' σ H Q → t σ H Q) : PW X e t' := ⟨fun wh pins s σ H Q I q => p.run wh pins s σ H Q I (h σ H Q q)⟩
theorem imp_pa {X : Cx} {e : List Expr} {t t' : TA} (p : PA X e t) (h : ∀ σ H Q, t' σ H Q → t σ H Q) : PA X e t' := ⟨fun pos pins s σ H Q I q => p.run pos pins s σ H Q I (h σ H Q q)⟩

section
variable {X : Cx} {a b c : Expr} {fa fb fc : M} {pos : Pos}
/-- a value that a step tells -/
def andThen {α β : Type} (o : Option (α × MH)) (g : α → MH → Option (β × MH)) : Option (β × MH) := match o with
  | some (x, h) => g x h
  | none => none
theorem andThen_some {α β : Type} {o : Option (α × MH)} {g : α → MH → Option (β × MH)} {r : β × MH} (e : andThen o g = some r) : ∃ x h, o = some (x, h) ∧ g x h = some r := by
  cases o with
  | none => cases e
  | some p => exact ⟨p.1, p.2, rfl, e⟩

def mVar (i : Nat) : M := fun _ s h => match s[i]? with
  | some (some w) => some (w, h)
  | _ => none
theorem mVar_some {i n s h} {r : W × MH} (e : mVar i n s h = some r) : s[i]? = some (some r.1) ∧ r.2 = h := by
  unfold mVar at e
  split at e
  · next w q => cases e; exact ⟨q, rfl⟩
  · cases e
theorem m_var (i : Nat) {x : Str} (hN : X.N[i]? = some x := by rfl) (hv : Vis X.env.scope x := by first | exact Or.inl rfl | exact Or.inr (Or.inl rfl) | exact Or.inr (Or.inr rfl)) (hd : (x == ("__debug__" : Str)) = false := by decide)
    (hcd : (x == ("__classdict__" : Str)) = false := by decide) : PE X (.Name x pos) (tM X.K (mVar i)) := imp_pe (pe_var hN hv hd hcd) fun σ H Q ⟨n, s, h, m, w, h', I, e, k⟩ => by
  obtain ⟨q, q2⟩ := mVar_some e
  obtain ⟨v, e1, r⟩ := I.rs i w q
  simp only at q2; subst q2
  exact ⟨v, e1, k m H v Le.refl I.sm r⟩
def mC (w : W) : M := fun _ _ h => some (w, h)
theorem m_c {e : Expr} {w : W} {v : V} (p : PE X e (tC v)) (r : ∀ m H, Rep X.K m H w v) : PE X e (tM X.K (mC w)) := imp_pe p fun σ H Q ⟨n, s, h, m, w', h', I, e, k⟩ => by
  cases e
  exact k m H v Le.refl I.sm (r m H)
theorem m_int {i j} : PE X (.Constant (.int i) j pos) (tM X.K (mC (.int i))) := m_c pe_int fun _ _ => rfl
theorem m_bl {b j} : PE X (.Constant (.bool b) j pos) (tM X.K (mC (.bl b))) := m_c pe_bl fun _ _ => rfl
theorem m_non {j} : PE X (.Constant .none j pos) (tM X.K (mC .non)) := m_c pe_non fun _ _ => rfl
theorem m_str {x j} : PE X (.Constant (.str x) j pos) (tM X.K (mC (.str x))) := m_c pe_str fun _ _ => rfl

abbrev G2 := W → W → MH → Option (W × MH)
abbrev G1 := W → MH → Option (W × MH)
abbrev GA := List W → MH → Option (W × MH)
def Imp2 (K : PySem.W.Frag) (g : G2) (r : R2) : Prop := ∀ m h H x y vx vy w h', Sm K m h H → Rep K m H x vx → Rep K m H y vy → g x y h = some (w, h') →
  ∀ Q : VK, (∀ m' H' v, Le K m m' H H' → Sm K m' h' H' → Rep K m' H' w v → Q v H') → r vx vy H Q
def Imp1 (K : PySem.W.Frag) (g : G1) (r : V → Hp → VK → Prop) : Prop := ∀ m h H x vx w h', Sm K m h H → Rep K m H x vx → g x h = some (w, h') →
  ∀ Q : VK, (∀ m' H' v, Le K m m' H H' → Sm K m' h' H' → Rep K m' H' w v → Q v H') → r vx H Q
def ImpA (K : PySem.W.Frag) (g : GA) (r : List V → Hp → VK → Prop) : Prop := ∀ m h H xs vs w h', Sm K m h H → Reps K m H xs vs → g xs h = some (w, h') →
  ∀ Q : VK, (∀ m' H' v, Le K m m' H H' → Sm K m' h' H' → Rep K m' H' w v → Q v H') → r vs H Q
def mOp (g : G2) (fa fb : M) : M := fun n s h => andThen (fa n s h) fun x h1 => andThen (fb n s h1) fun y h2 => g x y h2
theorem run_op {r : R2} {g : G2} (hi : Imp2 X.K g r) {σ H Q} (q : tM X.K (mOp g fa fb) σ H Q) : tOp r (tM X.K fa) (tM X.K fb) σ H Q := by
  obtain ⟨n, s, h, m, w, h', I, e, k⟩ := q
  obtain ⟨x, h1, e1, e⟩ := andThen_some e
  obtain ⟨y, h2, e2, e3⟩ := andThen_some e
  exact ⟨n, s, h, m, x, h1, I, e1, fun m1 H1 v L1 S1 R1 => ⟨n, s, h1, m1, y, h2, I.le L1 S1, e2, fun m2 H2 u L2 S2 R2 =>
    hi m2 h2 H2 x y v u w h' S2 (Rep.mono L2 _ _ R1) R2 e3 Q fun m3 H3 z L3 S3 R3 => k m3 H3 z (L1.trans (L2.trans L3)) S3 R3⟩⟩
theorem m_op {op : Operator} {r : R2} {g : G2} (ho : OpR X (binaryOp op) r) (hi : Imp2 X.K g r) (ha : PE X a (tM X.K fa)) (hb : PE X b (tM X.K fb)) : PE X (.BinOp a op b pos) (tM X.K (mOp g fa fb)) :=
  imp_pe (pe_op ho ha hb) fun σ H Q q => run_op hi q
theorem m_cmp {op : CmpOp} {r : R2} {g : G2} (ho : OpR X (compareOp op) r) (hi : Imp2 X.K g r) (ha : PE X a (tM X.K fa)) (hb : PE X b (tM X.K fb)) (hm : behindInMarks op b = false) : PE X (.Compare a [op] [b] pos) (tM X.K (mOp g fa fb)) :=
  imp_pe (pe_cmpR ho ha hb hm) fun σ H Q q => run_op hi q
theorem m_ix {r : R2} {g : G2} (ho : IxR X r) (hi : Imp2 X.K g r) (ha : PE X a (tM X.K fa)) (hb : PE X b (tM X.K fb)) (hs : PlainIx b) : PE X (.Subscript a b pos) (tM X.K (mOp g fa fb)) :=
  imp_pe (pe_ix ho ha hb hs) fun σ H Q q => run_op hi q
def mUn (g : G1) (fa : M) : M := fun n s h => andThen (fa n s h) g
theorem m_un {op : UnaryOp} {r : V → Hp → VK → Prop} {g : G1} (ho : UnR X (unaryOp op) r) (hi : Imp1 X.K g r) (ha : PE X a (tM X.K fa)) : PE X (.UnaryOp op a pos) (tM X.K (mUn g fa)) :=
  imp_pe (pe_un ho ha) fun σ H Q ⟨n, s, h, m, w, h', I, e, k⟩ => by
    obtain ⟨x, h1, e1, e⟩ := andThen_some e
    exact ⟨n, s, h, m, x, h1, I, e1, fun m1 H1 v L1 S1 R1 => hi m1 h1 H1 x v w h' S1 R1 e Q fun m3 H3 z L3 S3 R3 => k m3 H3 z (L1.trans L3) S3 R3⟩

/-! ### tests -/
def mB (f : M) : MT := fun n s h => andThen (f n s h) fun x h1 => match x with
  | .bl b => some (b, h1)
  | _ => none
theorem run_b {f : M} {σ H} {Q : Bool → Hp → Prop} (q : tMT X.K (mB f) σ H Q) : tM X.K f σ H fun x H' => ∃ k, x = .bl k ∧ Q k H' := by
  obtain ⟨n, s, h, m, w, h', I, e, k⟩ := q
  obtain ⟨x, h1, e1, e⟩ := andThen_some e
  refine ⟨n, s, h, m, x, h1, I, e1, fun m1 H1 v L1 S1 R1 => ?_⟩
  cases x <;> try cases e
  exact ⟨_, R1, k m1 H1 L1 S1⟩
theorem mt_cmp {op : CmpOp} {r : R2} {g : G2} (ho : OpR X (compareOp op) r) (hi : Imp2 X.K g r) (ha : PE X a (tM X.K fa)) (hb : PE X b (tM X.K fb)) (hm : behindInMarks op b = false) : PT X (.Compare a [op] [b] pos) (tMT X.K (mB (mOp g fa fb))) :=
  imp_pt (pt_cmpR ho ha hb hm) fun σ H Q q => run_op hi (run_b q)
theorem mt_val {e : Expr} {f : M} (p : PE X e (tM X.K f)) (he : ∀ whole, isTrue e X.env whole = (do let v ← whole; standAt e.pos; holding [v] (truthy v)) := by intro _; rfl) : PT X e (tMT X.K (mB f)) :=
  imp_pt (pt_val p he) fun σ H Q q => run_b q
def mAnd (f g : MT) : MT := fun n s h => andThen (f n s h) fun c h1 => if c = true then g n s h1 else some (false, h1)
def mOr (f g : MT) : MT := fun n s h => andThen (f n s h) fun c h1 => if c = true then some (true, h1) else g n s h1
def mNot (f : MT) : MT := fun n s h => andThen (f n s h) fun c h1 => some (!c, h1)
variable {f g : MT} {rest : List Expr}
theorem mw_and1 (ha : PT X a (tMT X.K f)) : PW X (.BoolOp .And [a] pos) (tMT X.K f) := pw_and1 ha
theorem mw_or1 (ha : PT X a (tMT X.K f)) : PW X (.BoolOp .Or [a] pos) (tMT X.K f) := pw_or1 ha
theorem mw_and (ha : PT X a (tMT X.K f)) (hb : PW X (.BoolOp .And (b :: rest) pos) (tMT X.K g)) : PW X (.BoolOp .And (a :: b :: rest) pos) (tMT X.K (mAnd f g)) :=
  imp_pw (pw_and ha hb) fun σ H Q ⟨n, s, h, m, w, h', I, e, k⟩ => by
    obtain ⟨x, h1, e1, e⟩ := andThen_some e
    refine ⟨n, s, h, m, x, h1, I, e1, fun m1 H1 L1 S1 => ?_⟩
    cases x with
    | true =>
      rw [if_pos rfl] at e ⊢
      exact ⟨n, s, h1, m1, w, h', I.le L1 S1, e, fun m2 H2 L2 S2 => k m2 H2 (L1.trans L2) S2⟩
    | false =>
      rw [if_neg Bool.false_ne_true] at e ⊢
      cases e
      exact k m1 H1 L1 S1
theorem mw_or (ha : PT X a (tMT X.K f)) (hb : PW X (.BoolOp .Or (b :: rest) pos) (tMT X.K g)) : PW X (.BoolOp .Or (a :: b :: rest) pos) (tMT X.K (mOr f g)) :=
  imp_pw (pw_or ha hb) fun σ H Q ⟨n, s, h, m, w, h', I, e, k⟩ => by
    obtain ⟨x, h1, e1, e⟩ := andThen_some e
    refine ⟨n, s, h, m, x, h1, I, e1, fun m1 H1 L1 S1 => ?_⟩
    cases x with
    | true =>
      rw [if_pos rfl] at e ⊢
      cases e
      exact k m1 H1 L1 S1
    | false =>
      rw [if_neg Bool.false_ne_true] at e ⊢
      exact ⟨n, s, h1, m1, w, h', I.le L1 S1, e, fun m2 H2 L2 S2 => k m2 H2 (L1.trans L2) S2⟩
theorem mt_not (ha : PT X a (tMT X.K f)) : PT X (.UnaryOp .Not a pos) (tMT X.K (mNot f)) :=
  imp_pt (pt_not ha) fun σ H Q ⟨n, s, h, m, w, h', I, e, k⟩ => by
    obtain ⟨x, h1, e1, e⟩ := andThen_some e
    cases e
    exact ⟨n, s, h, m, x, h', I, e1, fun m1 H1 L1 S1 => k m1 H1 L1 S1⟩
/-- by a truth -/
def caseB {β : Type} (x : W) (A B : Option β) : Option β := match x with
  | .bl b => if b = true then A else B
  | _ => none
theorem caseB_some {β : Type} {x : W} {A B : Option β} {r : β} (e : caseB x A B = some r) : (x = .bl true ∧ A = some r) ∨ (x = .bl false ∧ B = some r) := by
  unfold caseB at e
  split at e
  · next b =>
    cases b with
    | true => exact .inl ⟨rfl, e⟩
    | false => exact .inr ⟨rfl, e⟩
  · cases e
/-- and, or, not as values of truths -/
def mAndV (fa fb : M) : M := fun n s h => andThen (fa n s h) fun x h1 => caseB x (fb n s h1) (some (.bl false, h1))
def mOrV (fa fb : M) : M := fun n s h => andThen (fa n s h) fun x h1 => caseB x (some (.bl true, h1)) (fb n s h1)
def mNotV (fa : M) : M := fun n s h => andThen (fa n s h) fun x h1 => match x with
  | .bl b => some (.bl (!b), h1)
  | _ => none
theorem m_one {op} (h : PE X a (tM X.K fa)) : PE X (.BoolOp op [a] pos) (tM X.K fa) := pe_one h
theorem m_and (ha : PE X a (tM X.K fa)) (hb : PE X (.BoolOp .And (b :: rest) pos) (tM X.K fb)) : PE X (.BoolOp .And (a :: b :: rest) pos) (tM X.K (mAndV fa fb)) :=
  imp_pe (pe_and ha hb) fun σ H Q ⟨n, s, h, m, w, h', I, e, k⟩ => by
    obtain ⟨x, h1, e1, e⟩ := andThen_some e
    refine ⟨n, s, h, m, x, h1, I, e1, fun m1 H1 v L1 S1 R1 => ?_⟩
    rcases caseB_some e with ⟨rfl, e⟩ | ⟨rfl, e⟩
    · exact ⟨true, R1, ⟨n, s, h1, m1, w, h', I.le L1 S1, e, fun m2 H2 z L2 S2 R2 => k m2 H2 z (L1.trans L2) S2 R2⟩⟩
    · cases e
      exact ⟨false, R1, k m1 H1 _ L1 S1 rfl⟩
theorem m_or (ha : PE X a (tM X.K fa)) (hb : PE X (.BoolOp .Or (b :: rest) pos) (tM X.K fb)) : PE X (.BoolOp .Or (a :: b :: rest) pos) (tM X.K (mOrV fa fb)) :=
  imp_pe (pe_or ha hb) fun σ H Q ⟨n, s, h, m, w, h', I, e, k⟩ => by
    obtain ⟨x, h1, e1, e⟩ := andThen_some e
    refine ⟨n, s, h, m, x, h1, I, e1, fun m1 H1 v L1 S1 R1 => ?_⟩
    rcases caseB_some e with ⟨rfl, e⟩ | ⟨rfl, e⟩
    · cases e
      exact ⟨true, R1, k m1 H1 _ L1 S1 rfl⟩
    · exact ⟨false, R1, ⟨n, s, h1, m1, w, h', I.le L1 S1, e, fun m2 H2 z L2 S2 R2 => k m2 H2 z (L1.trans L2) S2 R2⟩⟩
theorem m_not (ha : PE X a (tM X.K fa)) : PE X (.UnaryOp .Not a pos) (tM X.K (mNotV fa)) :=
  imp_pe (pe_not ha) fun σ H Q ⟨n, s, h, m, w, h', I, e, k⟩ => by
    obtain ⟨x, h1, e1, e⟩ := andThen_some e
    refine ⟨n, s, h, m, x, h1, I, e1, fun m1 H1 v L1 S1 R1 => ?_⟩
    cases x <;> try cases e
    exact ⟨_, R1, k m1 H1 _ L1 S1 rfl⟩
def mIf (c : MT) (fa fb : M) : M := fun n s h => andThen (c n s h) fun b h1 => if b = true then fa n s h1 else fb n s h1
theorem m_ifExp {c : Expr} (hc : PT X c (tMT X.K f)) (ha : PE X a (tM X.K fa)) (hb : PE X b (tM X.K fb)) : PE X (.IfExp c a b pos) (tM X.K (mIf f fa fb)) :=
  imp_pe (pe_ifExp hc ha hb) fun σ H Q ⟨n, s, h, m, w, h', I, e, k⟩ => by
    obtain ⟨x, h1, e1, e⟩ := andThen_some e
    refine ⟨n, s, h, m, x, h1, I, e1, fun m1 H1 L1 S1 => ?_⟩
    cases x with
    | true =>
      rw [if_pos rfl] at e ⊢
      exact ⟨n, s, h1, m1, w, h', I.le L1 S1, e, fun m2 H2 z L2 S2 R2 => k m2 H2 z (L1.trans L2) S2 R2⟩
    | false =>
      rw [if_neg Bool.false_ne_true] at e ⊢
      exact ⟨n, s, h1, m1, w, h', I.le L1 S1, e, fun m2 H2 z L2 S2 R2 => k m2 H2 z (L1.trans L2) S2 R2⟩
/-- a op1 b op2 c -/
def mChain (g g' : G2) (fa fb fc : M) : M := fun n s h => andThen (fa n s h) fun x h1 => andThen (fb n s h1) fun y h2 => andThen (g x y h2) fun z h3 => caseB z (andThen (fc n s h3) fun u h4 => g' y u h4) (some (.bl false, h3))
theorem run_chain {r r' : R2} {g g' : G2} (hi : Imp2 X.K g r) (hi' : Imp2 X.K g' r') {σ H Q} (q : tM X.K (mChain g g' fa fb fc) σ H Q) : tChain r r' (tM X.K fa) (tM X.K fb) (tM X.K fc) σ H Q := by
  obtain ⟨n, s, h, m, w, h', I, e, k⟩ := q
  obtain ⟨x, h1, e1, e⟩ := andThen_some e
  obtain ⟨y, h2, e2, e⟩ := andThen_some e
  obtain ⟨z, h3, e3, e⟩ := andThen_some e
  refine ⟨n, s, h, m, x, h1, I, e1, fun m1 H1 v L1 S1 R1 => ⟨n, s, h1, m1, y, h2, I.le L1 S1, e2, fun m2 H2 u L2 S2 R2 =>
    hi m2 h2 H2 x y v u z h3 S2 (Rep.mono L2 _ _ R1) R2 e3 _ fun m3 H3 z' L3 S3 R3 => ?_⟩⟩
  rcases caseB_some e with ⟨rfl, e⟩ | ⟨rfl, e⟩
  · obtain ⟨t, h4, e4, e⟩ := andThen_some e
    refine ⟨true, R3, ?_⟩
    rw [if_pos rfl]
    exact ⟨n, s, h3, m3, t, h4, (I.le L1 S1 |>.le L2 S2).le L3 S3, e4, fun m4 H4 t' L4 S4 R4 =>
      hi' m4 h4 H4 y t u t' w h' S4 (Rep.mono (L3.trans L4) _ _ R2) R4 e Q fun m5 H5 z5 L5 S5 R5 => k m5 H5 z5 (L1.trans (L2.trans (L3.trans (L4.trans L5)))) S5 R5⟩
  · cases e
    refine ⟨false, R3, ?_⟩
    rw [if_neg Bool.false_ne_true]
    exact k m3 H3 _ (L1.trans (L2.trans L3)) S3 rfl
theorem m_chain {op op' : CmpOp} {r r' : R2} {g g' : G2} (ho : OpR X (compareOp op) r) (hi : Imp2 X.K g r) (ho' : OpR X (compareOp op') r') (hi' : Imp2 X.K g' r') (ha : PE X a (tM X.K fa)) (hb : PE X b (tM X.K fb)) (hc : PE X c (tM X.K fc))
    (hm : lastMarks [op, op'] [b, c] = false := by with_unfolding_all rfl) : PE X (.Compare a [op, op'] [b, c] pos) (tM X.K (mChain g g' fa fb fc)) := imp_pe (pe_chain ho ho' ha hb hc hm) fun σ H Q q => run_chain hi hi' q
theorem mt_chain {op op' : CmpOp} {r r' : R2} {g g' : G2} (ho : OpR X (compareOp op) r) (hi : Imp2 X.K g r) (ho' : OpR X (compareOp op') r') (hi' : Imp2 X.K g' r') (ha : PE X a (tM X.K fa)) (hb : PE X b (tM X.K fb)) (hc : PE X c (tM X.K fc))
    (hm : lastMarks [op, op'] [b, c] = false := by with_unfolding_all rfl) : PT X (.Compare a [op, op'] [b, c] pos) (tMT X.K (mB (mChain g g' fa fb fc))) := imp_pt (pt_chain ho ho' ha hb hc hm) fun σ H Q q => run_chain hi hi' (run_b q)

/-! ### arguments, displays -/
def mNil : MA := fun _ _ h => some ([], h)
def mCons (f : M) (g : MA) : MA := fun n s h => andThen (f n s h) fun x h1 => andThen (g n s h1) fun xs h2 => some (x :: xs, h2)
theorem ma_nil : PA X [] (tMA X.K mNil) := imp_pa pa_nil fun σ H Q ⟨n, s, h, m, w, h', I, e, k⟩ => by
  cases e
  exact k m H [] Le.refl I.sm rfl
theorem ma_cons {es : List Expr} {fr : MA} (ha : PE X a (tM X.K fa)) (hr : PA X es (tMA X.K fr)) (hs : starEach (a :: es) X.env = (false, eval a X.env) :: starEach es X.env := by rfl) : PA X (a :: es) (tMA X.K (mCons fa fr)) :=
  imp_pa (pa_cons ha hr hs) fun σ H Q ⟨n, s, h, m, w, h', I, e, k⟩ => by
    obtain ⟨x, h1, e1, e⟩ := andThen_some e
    obtain ⟨xs, h2, e2, e⟩ := andThen_some e
    cases e
    exact ⟨n, s, h, m, x, h1, I, e1, fun m1 H1 v L1 S1 R1 => ⟨n, s, h1, m1, xs, h', I.le L1 S1, e2, fun m2 H2 vs L2 S2 R2 =>
      k m2 H2 _ (L1.trans L2) S2 ⟨v, vs, rfl, Rep.mono L2 _ _ R1, R2⟩⟩⟩
/-- sizes -/
def szOk (n : Nat) : Bool := decide (n ≤ 16777216)
theorem szOk_le {n : Nat} (h : szOk n = true) : n ≤ sizeLine := by rw [sizeLine_eq]; exact of_decide_eq_true h
def mTup (g : MA) : M := fun n s h => andThen (g n s h) fun xs h1 => if szOk xs.length = true then some (.tup xs, h1) else none
theorem m_tup {es : List Expr} {x1} {fr : MA} (h : PA X es (tMA X.K fr)) : PE X (.Tuple es x1 pos) (tM X.K (mTup fr)) :=
  imp_pe (pe_tup h) fun σ H Q ⟨n, s, h, m, w, h', I, e, k⟩ => by
    obtain ⟨xs, h1, e1, e⟩ := andThen_some e
    split at e
    · next hz =>
      cases e
      refine ⟨n, s, h, m, xs, h', I, e1, fun m1 H1 vs L1 S1 R1 => ⟨by rw [R1.length]; exact szOk_le hz, fun p hp => ?_⟩⟩
      exact k m1 _ _ (L1.trans (Le.newT hp)) (S1.newT hp) ⟨p, vs, rfl, .inl (.inl upd_same), Reps.mono (Le.newT hp) _ _ R1⟩
    · cases e
def newL (xs : List W) (h : MH) : Option (W × MH) := if szOk xs.length = true then some (.ref h.length, h ++ [.lst xs]) else none
theorem newL_ok {K m h H xs vs w h' p} (S : Sm K m h H) (R : Reps K m H xs vs) (e : newL xs h = some (w, h')) (hp : H p = none) :
    Le K m (m ++ [p]) H (upd H p (.lst vs)) ∧ Sm K (m ++ [p]) h' (upd H p (.lst vs)) ∧ Rep K (m ++ [p]) (upd H p (.lst vs)) w (.ref p) := by
  unfold newL at e
  split at e
  · cases e
    refine ⟨Le.newC hp, S.newC hp ⟨vs, upd_same, Reps.mono (Le.newC hp) _ _ R⟩, ⟨p, ?_, rfl⟩⟩
    rw [← S.len]; simp
  · cases e
theorem newL_sz {xs : List W} {h : MH} {r} (e : newL xs h = some r) : xs.length ≤ sizeLine := by
  unfold newL at e
  split at e
  · next z => exact szOk_le z
  · cases e
def mLst (g : MA) : M := fun n s h => andThen (g n s h) newL
theorem m_lst {es : List Expr} {fr : MA} (h : PA X es (tMA X.K fr)) : PE X (.List es pos) (tM X.K (mLst fr)) :=
  imp_pe (pe_lst h) fun σ H Q ⟨n, s, h, m, w, h', I, e, k⟩ => by
    obtain ⟨xs, h1, e1, e⟩ := andThen_some e
    refine ⟨n, s, h, m, xs, h1, I, e1, fun m1 H1 vs L1 S1 R1 => ⟨by rw [R1.length]; exact newL_sz e, fun p hp => ?_⟩⟩
    obtain ⟨l, S2, r⟩ := newL_ok S1 R1 e hp
    exact k _ _ _ (L1.trans l) S2 r

/-! ### calls of built-in functions and of methods, by values -/
def mCB (g : GA) (fr : MA) : M := fun n s h => andThen (fr n s h) g
theorem run_cb {r : List V → Hp → VK → Prop} {g : GA} {fr : MA} (hi : ImpA X.K g r) {σ H Q} (q : tM X.K (mCB g fr) σ H Q) : tCB r (tMA X.K fr) σ H Q := by
  obtain ⟨n, s, h, m, w, h', I, e, k⟩ := q
  obtain ⟨xs, h1, e1, e⟩ := andThen_some e
  exact ⟨n, s, h, m, xs, h1, I, e1, fun m1 H1 vs L1 S1 R1 => hi m1 h1 H1 xs vs w h' S1 R1 e Q fun m2 H2 v L2 S2 R2 => k m2 H2 v (L1.trans L2) S2 R2⟩
theorem m_callB {x : Str} {p : Pos} {e : Expr} {es : List Expr} {id : String} {r : List V → Hp → VK → Prop} {g : GA} {fr : MA} (hc : CallR X (.builtin id) r) (hi : ImpA X.K g r) (hg : Gl X x) (hm : X.mg x = none) (hv : bootBuiltins x = some (.builtin id)) (ha : PA X (e :: es) (tMA X.K fr)) (hn : x ≠ "__name__" := by decide) (hdb : (x == ("__debug__" : Str)) = false := by decide)
    (he : starEach (e :: es) X.env = (false, eval e X.env) :: starEach es X.env := by rfl) (hpl : (backTo pos (starEach es X.env)).any (·.1) = false := by rfl) : PE X (.Call (.Name x p) (e :: es) [] pos) (tM X.K (mCB g fr)) :=
  imp_pe (pe_callB hc hg hm hv ha hn hdb he hpl) fun σ H Q q => run_cb hi q
theorem m_callTy {x : Str} {p : Pos} {e : Expr} {es : List Expr} {T : String} {r : List V → Hp → VK → Prop} {g : GA} {fr : MA} (hc : CallR X (.type T) r) (hi : ImpA X.K g r) (hg : Gl X x) (hm : X.mg x = none) (hv : bootBuiltins x = some (.type T)) (ha : PA X (e :: es) (tMA X.K fr)) (hn : x ≠ "__name__" := by decide) (hdb : (x == ("__debug__" : Str)) = false := by decide)
    (he : starEach (e :: es) X.env = (false, eval e X.env) :: starEach es X.env := by rfl) (hpl : (backTo pos (starEach es X.env)).any (·.1) = false := by rfl) : PE X (.Call (.Name x p) (e :: es) [] pos) (tM X.K (mCB g fr)) :=
  imp_pe (pe_callTy hc hg hm hv ha hn hdb he hpl) fun σ H Q q => run_cb hi q
end
end Mi

/-! Mi: targets, statements, loops, comprehensions, defs and their calls. -/
namespace Mi
open PySem PySem.Spec PyProof.Rows L2

/-! ### statements -/
inductive Fl where
  | nx | rt (w : W) | bk | ct
abbrev MSt := Nat → MS → MH → Option (Fl × MS × MH)
def Fin (K : PySem.W.Frag) (D : Ends) (fl : Fl) (m : List Addr) (σ : L2.St) (H : Hp) : Prop := match fl with
  | .nx => D.nx σ H
  | .bk => D.bk σ H
  | .ct => D.ct σ H
  | .rt w => ∀ v, Rep K m H w v → D.rt v H
def tMS (K : PySem.W.Frag) (f : MSt) : TS := fun D σ H => ∃ n s h m fl s' h', In K m s h σ H ∧ f n s h = some (fl, s', h') ∧
  ∀ m' H' σ', Le K m m' H H' → In K m' s' h' σ' H' → Fin K D fl m' σ' H'
theorem imp_ps {X : Cx} {e : Stmt} {t t' : TS} (p : PS X e t) (h : ∀ D σ H, t' D σ H → t D σ H) : PS X e t' := ⟨fun pins s σ H D I q => p.run pins s σ H D I (h D σ H q)⟩
theorem imp_pss {X : Cx} {e : List Stmt} {t t' : TS} (p : PSs X e t) (h : ∀ D σ H, t' D σ H → t D σ H) : PSs X e t' := ⟨fun pins s σ H D I q => p.run pins s σ H D I (h D σ H q)⟩

section
variable {X : Cx} {st : Stmt} {rest : List Stmt} {e : Expr} {fe : M} {f g : MSt} {pos : Pos}
def mNext : MSt := fun _ s h => some (.nx, s, h)
def mSeq (f g : MSt) : MSt := fun n s h => match f n s h with
  | some (.nx, s1, h1) => g n s1 h1
  | r => r
theorem mss_nil : PSs X [] (tMS X.K mNext) := imp_pss pss_nil fun D σ H ⟨n, s, h, m, fl, s', h', I, e, k⟩ => by
  cases e
  exact k m H σ Le.refl I
theorem mss_one (p : PS X st (tMS X.K f)) : PSs X [st] (tMS X.K f) := pss_one p
theorem mss_cons (p : PS X st (tMS X.K f)) (q : PSs X rest (tMS X.K g)) : PSs X (st :: rest) (tMS X.K (mSeq f g)) := imp_pss (pss_cons p q) fun D σ H ⟨n, s, h, m, fl, s', h', I, e, k⟩ => by
  unfold mSeq at e
  split at e
  · next s1 h1 e1 =>
    exact ⟨n, s, h, m, .nx, s1, h1, I, e1, fun m1 H1 σ1 L1 I1 => ⟨n, s1, h1, m1, fl, s', h', I1, e, fun m2 H2 σ2 L2 I2 => k m2 H2 σ2 (L1.trans L2) I2⟩⟩
  · next r e1 =>
    refine ⟨n, s, h, m, fl, s', h', I, e, fun m1 H1 σ1 L1 I1 => ?_⟩
    have := k m1 H1 σ1 L1 I1
    cases fl with
    | nx => exact absurd e (e1 _ _)
    | _ => exact this
def mBreak : MSt := fun _ s h => some (.bk, s, h)
def mCont : MSt := fun _ s h => some (.ct, s, h)
theorem ms_pass : PS X (.Pass pos) (tMS X.K mNext) := imp_ps ps_pass fun D σ H ⟨n, s, h, m, fl, s', h', I, e, k⟩ => by
  cases e
  exact k m H σ Le.refl I
theorem ms_break : PS X (.Break pos) (tMS X.K mBreak) := imp_ps ps_break fun D σ H ⟨n, s, h, m, fl, s', h', I, e, k⟩ => by
  cases e
  exact k m H σ Le.refl I
theorem ms_continue : PS X (.Continue pos) (tMS X.K mCont) := imp_ps ps_continue fun D σ H ⟨n, s, h, m, fl, s', h', I, e, k⟩ => by
  cases e
  exact k m H σ Le.refl I
/-- a value, then what is done with it -/
def thenS {α : Type} (o : Option (α × MH)) (g : α → MH → Option (Fl × MS × MH)) : Option (Fl × MS × MH) := match o with
  | some (x, h) => g x h
  | none => none
theorem thenS_some {α : Type} {o : Option (α × MH)} {g : α → MH → Option (Fl × MS × MH)} {r : Fl × MS × MH} (e : thenS o g = some r) : ∃ x h, o = some (x, h) ∧ g x h = some r := by
  cases o with
  | none => cases e
  | some p => exact ⟨p.1, p.2, rfl, e⟩
def mDrop (f : M) : MSt := fun n s h => thenS (f n s h) fun _ h1 => some (.nx, s, h1)
theorem ms_expr (p : PE X e (tM X.K fe)) (hs : swapsWith e none pos.line X.env = pure false := by rfl) : PS X (.Expr e pos) (tMS X.K (mDrop fe)) := imp_ps (ps_expr p hs) fun D σ H ⟨n, s, h, m, fl, s', h', I, e, k⟩ => by
  obtain ⟨x, h1, e1, e⟩ := thenS_some e
  cases e
  exact ⟨n, s, h, m, x, h', I, e1, fun m1 H1 v L1 S1 R1 => k m1 H1 σ L1 (I.le L1 S1)⟩
def mRet (f : M) : MSt := fun n s h => thenS (f n s h) fun w h1 => some (.rt w, s, h1)
theorem ms_ret (p : PE X e (tM X.K fe)) : PS X (.Return (some e) pos) (tMS X.K (mRet fe)) := imp_ps (ps_ret p) fun D σ H ⟨n, s, h, m, fl, s', h', I, e, k⟩ => by
  obtain ⟨x, h1, e1, e⟩ := thenS_some e
  cases e
  exact ⟨n, s, h, m, x, h', I, e1, fun m1 H1 v L1 S1 R1 => k m1 H1 σ L1 (I.le L1 S1) v R1⟩
def mIfS (c : MT) (f g : MSt) : MSt := fun n s h => thenS (c n s h) fun b h1 => if b = true then f n s h1 else g n s h1
theorem ms_if {c : Expr} {a b : List Stmt} {fc : MT} (hc : PT X c (tMT X.K fc)) (ha : PSs X a (tMS X.K f)) (hb : PSs X b (tMS X.K g)) : PS X (.If c a b pos) (tMS X.K (mIfS fc f g)) := imp_ps (ps_if hc ha hb) fun D σ H ⟨n, s, h, m, fl, s', h', I, e, k⟩ => by
  obtain ⟨x, h1, e1, e⟩ := thenS_some e
  refine ⟨n, s, h, m, x, h1, I, e1, fun m1 H1 L1 S1 => ?_⟩
  cases x with
  | true =>
    rw [if_pos rfl] at e ⊢
    exact ⟨n, s, h1, m1, fl, s', h', I.le L1 S1, e, fun m2 H2 σ2 L2 I2 => k m2 H2 σ2 (L1.trans L2) I2⟩
  | false =>
    rw [if_neg Bool.false_ne_true] at e ⊢
    exact ⟨n, s, h1, m1, fl, s', h', I.le L1 S1, e, fun m2 H2 σ2 L2 I2 => k m2 H2 σ2 (L1.trans L2) I2⟩
end

/-! ### targets -/
theorem wipe_get (σ : L2.St) : ∀ (vs : List Nat) (j : Nat), (wipe σ vs)[j]? = if j ∈ vs then (if j < σ.length then some none else none) else σ[j]?
  | [], j => by simp [wipe]
  | v :: vs, j => by
    unfold wipe
    have hl := wipe_length σ vs
    by_cases hj : v = j
    · subst hj
      by_cases hv : v < σ.length
      · rw [List.getElem?_set_self (by rw [hl]; exact hv)]
        simp [hv]
      · rw [List.getElem?_eq_none (by simp [hl]; omega)]
        simp [hv]
    · rw [List.getElem?_set_ne hj, wipe_get σ vs j]
      have : (j ∈ v :: vs) = (j ∈ vs) := propext ⟨fun q => (List.mem_cons.mp q).elim (fun e => absurd e.symm hj) id, List.mem_cons_of_mem _⟩
      simp only [this]
theorem wipe_set {σ : L2.St} {i : Nat} {x : Option V} {vs : List Nat} (hi : i ∈ vs) : wipe (σ.set i x) vs = wipe σ vs := by
  apply List.ext_getElem?
  intro j
  rw [wipe_get, wipe_get, List.length_set]
  by_cases hj : j ∈ vs
  · rw [if_pos hj, if_pos hj]
  · rw [if_neg hj, if_neg hj]
    rw [List.getElem?_set_ne (fun e => by subst e; exact hj hi)]
theorem wipe_wipe (σ : L2.St) (vs : List Nat) : wipe (wipe σ vs) vs = wipe σ vs := by
  apply List.ext_getElem?
  intro j
  rw [wipe_get, wipe_length, wipe_get]
  by_cases hj : j ∈ vs
  · rw [if_pos hj, if_pos hj]
  · rw [if_neg hj, if_neg hj]
inductive Pat where
  | nm (i : Nat) | tp (ps : List Pat)
mutual
def mPat : Pat → W → MS → Option MS
  | .nm i, w, s => some (s.set i (some w))
  | .tp ps, w, s => match w with
    | .tup xs => mPats ps xs s
    | _ => none
def mPats : List Pat → List W → MS → Option MS
  | [], [], s => some s
  | p :: ps, x :: xs, s => match mPat p x s with
    | some s1 => mPats ps xs s1
    | none => none
  | _, _, _ => none
end
mutual
def gPat (K : PySem.W.Frag) : Pat → TG
  | .nm i => gName i
  | .tp ps => gTup K ps.length (gPats K ps)
def gPats (K : PySem.W.Frag) : List Pat → TGs
  | [] => gNil
  | p :: ps => gCons (gPat K p) (gPats K ps)
end
mutual
def pvars : Pat → List Nat
  | .nm i => [i]
  | .tp ps => pvarss ps
def pvarss : List Pat → List Nat
  | [] => []
  | p :: ps => pvars p ++ pvarss ps
end
section
variable {K : PySem.W.Frag} {m : List Addr} {h : MH} {H : Hp}
theorem mPats_len : ∀ {ps : List Pat} {xs : List W} {s s' : MS}, mPats ps xs s = some s' → xs.length = ps.length
  | [], [], _, _, _ => rfl
  | [], _ :: _, _, _, e => by simp [mPats] at e
  | _ :: _, [], _, _, e => by simp [mPats] at e
  | p :: ps, x :: xs, s, s', e => by
    unfold mPats at e
    split at e
    · simp [mPats_len e]
    · cases e
mutual
theorem gPat_run : ∀ (p : Pat) (w : W) (v : V) (s s' : MS) (σ : L2.St) (Q : L2.St → Hp → Prop), In K m s h σ H → Rep K m H w v → mPat p w s = some s' → (∀ σ', In K m s' h σ' H → (∀ vs : List Nat, (∀ i ∈ pvars p, i ∈ vs) → wipe σ' vs = wipe σ vs) → Q σ' H) → gPat K p v σ H Q
  | .nm i, w, v, s, s', σ, Q, I, R, e, q => by
    unfold mPat at e
    cases e
    unfold gPat
    refine q _ ⟨I.sm, I.rs.set I.len R, by rw [List.length_set, List.length_set]; exact I.len⟩ fun vs hv => ?_
    exact wipe_set (hv i (by simp [pvars]))
  | .tp ps, w, v, s, s', σ, Q, I, R, e, q => by
    unfold mPat at e
    cases w with
    | tup xs =>
      obtain ⟨a, us, ev, t, rs⟩ := R
      unfold gPat
      refine ⟨a, us, ev, t, by rw [rs.length, mPats_len e], ?_⟩
      exact gPats_run ps xs us s s' σ Q I rs e fun σ' I' hw => q σ' I' fun vs hv => hw vs (by simpa [pvars] using hv)
    | _ => simp at e
theorem gPats_run : ∀ (ps : List Pat) (xs : List W) (us : List V) (s s' : MS) (σ : L2.St) (Q : L2.St → Hp → Prop), In K m s h σ H → Reps K m H xs us → mPats ps xs s = some s' → (∀ σ', In K m s' h σ' H → (∀ vs : List Nat, (∀ i ∈ pvarss ps, i ∈ vs) → wipe σ' vs = wipe σ vs) → Q σ' H) → gPats K ps us σ H Q
  | [], xs, us, s, s', σ, Q, I, R, e, q => by
    cases xs with
    | nil =>
      unfold mPats at e
      cases e
      unfold gPats
      exact ⟨R, q σ I fun _ _ => rfl⟩
    | cons x xs => simp [mPats] at e
  | p :: ps, xs, us, s, s', σ, Q, I, R, e, q => by
    cases xs with
    | nil => simp [mPats] at e
    | cons x xs =>
      obtain ⟨v, r, rfl, R1, R2⟩ := R
      unfold mPats at e
      split at e
      · next s1 e1 =>
        unfold gPats
        refine ⟨v, r, rfl, gPat_run p x v s s1 σ _ I R1 e1 fun σ1 I1 w1 => ?_⟩
        exact gPats_run ps xs r s1 s' σ1 Q I1 R2 e fun σ2 I2 w2 => q σ2 I2 fun vs hv => by
          rw [w2 vs fun i hi => hv i (by simp [pvarss, hi]), w1 vs fun i hi => hv i (by simp [pvarss, hi])]
      · cases e
end
end

theorem pp_nm {X : Cx} {e : Expr} {i : Nat} (h : PG X e (gName i)) : PG X e (gPat X.K (.nm i)) := by
  unfold gPat
  exact h
theorem pps0 {X : Cx} : PGs X [] (gPats X.K []) := by
  unfold gPats
  exact pgs_nil
theorem pps1 {X : Cx} {e : Expr} {es : List Expr} {p : Pat} {ps : List Pat} (h : PG X e (gPat X.K p)) (h2 : PGs X es (gPats X.K ps)) (hs : (assignEach (e :: es) X.env).map (·.2) = assign e X.env :: (assignEach es X.env).map (·.2) := by rfl) : PGs X (e :: es) (gPats X.K (p :: ps)) := by
  unfold gPats
  exact pgs_cons h h2 hs
theorem pp_tp {X : Cx} {es : List Expr} {k : Nat} {pos : Pos} {ps : List Pat} (hc : X.calm = true) (h : PGs X es (gPats X.K ps)) (hn : (assignEach es X.env).length = ps.length := by rfl) (hst : (assignEach es X.env).findIdx? (·.1) = none := by rfl) : PG X (.Tuple es k pos) (gPat X.K (.tp ps)) := by
  unfold gPat
  exact pg_tup hc h hn hst
/-- target = value, any target of names -/
abbrev MG := Nat → W → MS → MH → Option (MS × MH)
def tMG (K : PySem.W.Frag) (g : MG) : TG := fun v σ H Q => ∃ n w s h m s' h', In K m s h σ H ∧ Rep K m H w v ∧ g n w s h = some (s', h') ∧
  ∀ m' H' σ', Le K m m' H H' → In K m' s' h' σ' H' → Q σ' H'
theorem imp_pg {X : Cx} {e : Expr} {t t' : TG} (p : PG X e t) (h : ∀ v σ H Q, t' v σ H Q → t v σ H Q) : PG X e t' := ⟨fun pins s σ H v u Q I r q => p.run pins s σ H v u Q I r (h v σ H Q q)⟩
def mgPat (p : Pat) : MG := fun _ w s h => match mPat p w s with
  | some s' => some (s', h)
  | none => none
theorem mg_pat {X : Cx} {e : Expr} (p : Pat) (h : PG X e (gPat X.K p)) : PG X e (tMG X.K (mgPat p)) := imp_pg h fun v σ H Q ⟨n, w, s, h, m, s', h', I, R, e, k⟩ => by
  unfold mgPat at e
  split at e
  · next s1 e1 =>
    cases e
    exact gPat_run p w v s _ σ Q I R e1 fun σ' I' _ => k m H σ' Le.refl I'
  · cases e
/-- xs[i] = v, a list's -/
def mgSub (fo fi : M) (g3 : W → W → W → MH → Option MH) : MG := fun n w s h => match fo n s h with
  | some (o, h1) => match fi n s h1 with
    | some (i, h2) => match g3 o i w h2 with
      | some h3 => some (s, h3)
      | none => none
    | none => none
  | none => none
def Imp3 (K : PySem.W.Frag) (g : W → W → W → MH → Option MH) (r : V → V → V → Hp → (Hp → Prop) → Prop) : Prop := ∀ m h H x y z vx vy vz h', Sm K m h H → Rep K m H x vx → Rep K m H y vy → Rep K m H z vz → g x y z h = some h' →
  ∀ Q : Hp → Prop, (∀ m' H', Le K m m' H H' → Sm K m' h' H' → Q H') → r vx vy vz H Q
theorem mg_sub {X : Cx} {o i : Expr} {pos : Pos} {fo fi : M} {t : TSet} {g3} (ho : PE X o (tM X.K fo)) (hi : PE X i (tM X.K fi)) (hs : PSet X t) (hq : Imp3 X.K g3 t)
    (ha : ∀ v, assign (.Subscript o i pos) X.env v = (do
      let ov ← holding [v] (eval o X.env)
      let iv ← holding [v, ov] (eval i X.env)
      standAt pos
      holding [v, ov, iv] (setItem ov iv v)
      release [v, ov, iv] []) := by intro _; rfl) : PG X (.Subscript o i pos) (tMG X.K (mgSub fo fi g3)) := imp_pg (pg_sub ho hi hs ha) fun v σ H Q ⟨n, w, s, h, m, s', h', I, R, e, k⟩ => by
  unfold mgSub at e
  split at e
  · next x h1 e1 =>
    split at e
    · next y h2 e2 =>
      split at e
      · next h3 e3 =>
        cases e
        exact ⟨n, s, h, m, x, h1, I, e1, fun m1 H1 v1 L1 S1 R1 => ⟨n, s, h1, m1, y, h2, I.le L1 S1, e2, fun m2 H2 v2 L2 S2 R2 =>
          hq m2 h2 H2 x y w v1 v2 v h' S2 (Rep.mono L2 _ _ R1) R2 (Rep.mono (L1.trans L2) _ _ R) e3 _ fun m3 H3 L3 S3 =>
            k m3 H3 σ (L1.trans (L2.trans L3)) (((I.le L1 S1).le L2 S2).le L3 S3)⟩⟩
      · cases e
    · cases e
  · cases e
section
variable {X : Cx} {pos : Pos}
def mAsg (f : M) (g : MG) : MSt := fun n s h => thenS (f n s h) fun w h1 => match g n w s h1 with
  | some (s2, h2) => some (.nx, s2, h2)
  | none => none
theorem run_asg {f : M} {g : MG} {D : Ends} {σ H} (q : tMS X.K (mAsg f g) D σ H) : tAsg (tM X.K f) (tMG X.K g) D σ H := by
  obtain ⟨n, s, h, m, fl, s', h', I, e, k⟩ := q
  obtain ⟨x, h1, e1, e⟩ := thenS_some e
  split at e
  · next s2 h2 e2 =>
    cases e
    exact ⟨n, s, h, m, x, h1, I, e1, fun m1 H1 v L1 S1 R1 => ⟨n, x, s, h1, m1, s', h', I.le L1 S1, R1, e2, fun m2 H2 σ2 L2 I2 => k m2 H2 σ2 (L1.trans L2) I2⟩⟩
  · cases e
theorem ms_asg {tg e : Expr} {f : M} {g : MG} (he : PE X e (tM X.K f)) (hg : PG X tg (tMG X.K g)) (hs : swapsWithSole [tg] e pos.line X.env = pure false := by rfl) (hw : swappedStores [tg] e X.env = pure none := by rfl)
    (h1 : (assignEach [tg] X.env).map (·.2) = [assign tg X.env] := by rfl) : PS X (.Assign [tg] e pos) (tMS X.K (mAsg f g)) := imp_ps (ps_asg he hg hs hw h1) fun D σ H q => run_asg q
/-- x = e -/
def mSet (i : Nat) (f : M) : MSt := fun n s h => thenS (f n s h) fun w h1 => some (.nx, s.set i (some w), h1)
theorem run_set {i : Nat} {f : M} {D : Ends} {σ H} (q : tMS X.K (mSet i f) D σ H) : tAsg (tM X.K f) (gName i) D σ H := by
  obtain ⟨n, s, h, m, fl, s', h', I, e, k⟩ := q
  obtain ⟨x, h1, e1, e⟩ := thenS_some e
  cases e
  refine ⟨n, s, h, m, x, h', I, e1, fun m1 H1 v L1 S1 R1 => ?_⟩
  have I1 := I.le L1 S1
  exact k m1 H1 _ L1 ⟨I1.sm, I1.rs.set I1.len R1, by rw [List.length_set, List.length_set]; exact I1.len⟩
theorem ms_set {x : Str} {e : Expr} {f : M} {pos' : Pos} (i : Nat) (he : PE X e (tM X.K f)) (hN : X.N.Nodup) (hi : X.N[i]? = some x := by rfl) (hx : Loc X.env.scope x := by first | exact Or.inl rfl | exact Or.inr rfl) (hs : swapsWith e (some (.Name x pos')) pos.line X.env = pure false := by rfl) (hf : X.fn x = true ∨ X.env.scope.names.lookup x = some .local := by first | exact .inl rfl | exact .inr rfl) :
    PS X (.Assign [.Name x pos'] e pos) (tMS X.K (mSet i f)) := imp_ps (ps_set hN hi hx he hs hf) fun D σ H q => run_set q
/-- a, b = x, y -/
def mPar (i j : Nat) (fa fb : M) : MSt := fun n s h => thenS (fa n s h) fun v h1 => thenS (fb n s h1) fun w h2 => some (.nx, (s.set i (some v)).set j (some w), h2)
theorem ms_par {x y : Str} {a b : Expr} {fa fb : M} {px py pt : Pos} {kt k2 pt2} (i j : Nat) (hc : X.calm = true) (hN : X.N.Nodup) (ha : PE X a (tM X.K fa)) (hb : PE X b (tM X.K fb)) (hi : X.N[i]? = some x := by rfl) (hj : X.N[j]? = some y := by rfl) (hij : i ≠ j := by decide)
    (hx : X.env.scope.names.lookup x = some .local := by rfl) (hy : X.env.scope.names.lookup y = some .local := by rfl)
    (hw : swappedStores [.Tuple [.Name x px, .Name y py] kt pt] (.Tuple [a, b] k2 pt2) X.env = pure (some [x, y]) := by rfl)
    (hs : swapsWithSole [.Tuple [.Name x px, .Name y py] kt pt] (.Tuple [a, b] k2 pt2) pos.line X.env = pure false := by rfl)
    (h1 : starEach [a, b] X.env = (false, eval a X.env) :: starEach [b] X.env := by rfl) (h2 : starEach [b] X.env = (false, eval b X.env) :: starEach [] X.env := by rfl) :
    PS X (.Assign [.Tuple [.Name x px, .Name y py] kt pt] (.Tuple [a, b] k2 pt2) pos) (tMS X.K (mPar i j fa fb)) := imp_ps (ps_par hc hN hi hj hij hx hy (pa_cons ha (pa_cons hb pa_nil h2) h1) hw hs) fun D σ H ⟨n, s, h, m, fl, s', h', I, e, k⟩ => by
  obtain ⟨v, h1, e1, e⟩ := thenS_some e
  obtain ⟨w, h2, e2, e⟩ := thenS_some e
  cases e
  refine ⟨n, s, h, m, v, h1, I, e1, fun m1 H1 v1 L1 S1 R1 => ⟨n, s, h1, m1, w, h', I.le L1 S1, e2, fun m2 H2 v2 L2 S2 R2 => ⟨v1, v2, rfl, ?_⟩⟩⟩
  have I2 := (I.le L1 S1).le L2 S2
  have R1' := Rep.mono L2 _ _ R1
  refine k m2 H2 _ (L1.trans L2) ⟨I2.sm, (I2.rs.set I2.len R1').set (by rw [List.length_set, List.length_set]; exact I2.len) R2, by simp [I2.len]⟩
/-- x op= e -/
def mAug (i : Nat) (f : M) (g : G2) : MSt := fun n s h => match s[i]? with
  | some (some x) => thenS (f n s h) fun y h1 => thenS (g x y h1) fun z h2 => some (.nx, s.set i (some z), h2)
  | _ => none
theorem ms_aug {x : Str} {e : Expr} {f : M} {g : G2} {op : Operator} {ti : TIp} {pos' : Pos} (i : Nat) (he : PE X e (tM X.K f)) (ho : PIp X op ti) (hg : Imp2 X.K g ti) (hN : X.N.Nodup) (hi : X.N[i]? = some x := by rfl) (hx : Loc X.env.scope x := by first | exact Or.inl rfl | exact Or.inr rfl) (hf : X.fn x = true ∨ X.env.scope.names.lookup x = some .local := by first | exact .inl rfl | exact .inr rfl) :
    PS X (.AugAssign (.Name x pos') op e pos) (tMS X.K (mAug i f g)) := imp_ps (ps_aug hN hi hx he ho hf) fun D σ H ⟨n, s, h, m, fl, s', h', I, e, k⟩ => by
  unfold mAug at e
  split at e
  · next x e0 =>
    obtain ⟨y, h1, e1, e⟩ := thenS_some e
    obtain ⟨z, h2, e2, e⟩ := thenS_some e
    cases e
    obtain ⟨v, ev, rv⟩ := I.rs i x e0
    refine ⟨v, ev, n, s, h, m, y, h1, I, e1, fun m1 H1 u L1 S1 R1 => hg m1 h1 H1 x y v u z h' S1 (Rep.mono L1 _ _ rv) R1 e2 _ fun m2 H2 t L2 S2 R2 => ?_⟩
    have I2 := (I.le L1 S1).le L2 S2
    exact k m2 H2 _ (L1.trans L2) ⟨I2.sm, I2.rs.set I2.len R2, by simp [I2.len]⟩
  · cases e
end

/-! ### while -/
def wloop (c : MT) (b : MSt) (n : Nat) : Nat → MS → MH → Option (Fl × MS × MH)
  | 0, _, _ => none
  | k + 1, s, h => thenS (c n s h) fun t h1 => if t = true then
      (match b n s h1 with
        | some (.nx, s2, h2) => wloop c b n k s2 h2
        | some (.ct, s2, h2) => wloop c b n k s2 h2
        | some (.bk, s2, h2) => some (.nx, s2, h2)
        | r => r)
    else some (.nx, s, h1)
def mWhile (c : MT) (b : MSt) : MSt := fun n s h => wloop c b n n s h
theorem ms_while {X : Cx} {c : Expr} {body : List Stmt} {fc : MT} {fb : MSt} {pos : Pos} (hp : PassesOwn (model X.prog X.w) X.A X.env X.xe) (hc : PT X c (tMT X.K fc)) (hb : PSs X body (tMS X.K fb)) : PS X (.While c body [] pos) (tMS X.K (mWhile fc fb)) :=
  imp_ps (ps_while hp hc hb) fun D σ0 H0 ⟨n, s0, h0, m0, fl, s', h', I0, e0, k⟩ => by
    refine ⟨fun j σ H => ∃ s h m, Le X.K m0 m H0 H ∧ In X.K m s h σ H ∧ wloop fc fb n j s h = some (fl, s', h'), ⟨n, s0, h0, m0, Le.refl, I0, e0⟩, fun j σ H ⟨s, h, m, L, I, e⟩ => ?_⟩
    cases j with
    | zero => simp [wloop] at e
    | succ j =>
      unfold wloop at e
      obtain ⟨t, h1, e1, e⟩ := thenS_some e
      refine ⟨n, s, h, m, t, h1, I, e1, fun m1 H1 L1 S1 => ?_⟩
      have I1 := I.le L1 S1
      cases t with
      | false =>
        rw [if_neg Bool.false_ne_true] at e
        cases e
        exact iteF (k m1 H1 σ (L.trans L1) I1)
      | true =>
        rw [if_pos rfl] at e
        refine iteT ⟨fun σ2 H2 => ∃ s2 h2 m2, Le X.K m0 m2 H0 H2 ∧ In X.K m2 s2 h2 σ2 H2 ∧ wloop fc fb n j s2 h2 = some (fl, s', h'), fun σ2 H2 q => ⟨j, Nat.lt_succ_self j, q⟩, ?_⟩
        split at e
        · next s2 h2 e2 => exact ⟨n, s, h1, m1, .nx, s2, h2, I1, e2, fun m2 H2 σ2 L2 I2 => ⟨s2, h2, m2, L.trans (L1.trans L2), I2, e⟩⟩
        · next s2 h2 e2 => exact ⟨n, s, h1, m1, .ct, s2, h2, I1, e2, fun m2 H2 σ2 L2 I2 => ⟨s2, h2, m2, L.trans (L1.trans L2), I2, e⟩⟩
        · next s2 h2 e2 =>
          cases e
          exact ⟨n, s, h1, m1, .bk, s', h', I1, e2, fun m2 H2 σ2 L2 I2 => k m2 H2 σ2 (L.trans (L1.trans L2)) I2⟩
        · next r2 n1 n2 n3 =>
          refine ⟨n, s, h1, m1, fl, s', h', I1, e, fun m2 H2 σ2 L2 I2 => ?_⟩
          have q := k m2 H2 σ2 (L.trans (L1.trans L2)) I2
          cases fl with
          | nx => exact absurd e (n1 _ _)
          | ct => exact absurd e (n2 _ _)
          | bk => exact absurd e (n3 _ _)
          | rt w => exact q

/-! ### what a loop walks -/
inductive Src where
  /-- the list at a number, as it stands at each turn -/
  | cell (n : Nat)
  /-- these, one by one -/
  | items (xs : List W)
  /-- the list at a number, each with its place -/
  | enum (n : Nat)
  /-- two lists at numbers -/
  | zip (a b : Nat)
  /-- the list at a number, of this length, from behind -/
  | rev (n : Nat) (k : Nat)
def lstAt (h : MH) (n : Nat) : Option (List W) := match h[n]? with
  | some (.lst xs) => some xs
  | some (.fz xs) => some xs
  | _ => none
/-- none: stuck; some none: it stops -/
def Src.get (src : Src) (h : MH) (i : Nat) : Option (Option W) := match src with
  | .cell n => (lstAt h n).map fun xs => xs[i]?
  | .items xs => some xs[i]?
  | .enum n => (lstAt h n).map fun xs => xs[i]?.map fun x => .tup [.int i, x]
  | .zip a b => match lstAt h a, lstAt h b with
    | some xs, some ys => some (match xs[i]?, ys[i]? with
      | some x, some y => some (.tup [x, y])
      | _, _ => none)
    | _, _ => none
  | .rev n k => (lstAt h n).bind fun xs => if xs.length = k then (if i < k then xs[k - 1 - i]?.map some else some none) else none
def ItOk (K : PySem.W.Frag) (m : List Addr) (H : Hp) (J : It) (src : Src) : Prop := ∀ m' H' h', Le K m m' H H' → Sm K m' h' H' → ∀ i,
  (src.get h' i = some none → J.stop i H') ∧ ∀ w, src.get h' i = some (some w) → J.go i H' ∧ ∀ x H2, J.yld i H' x H2 → Le K m' m' H' H2 ∧ Sm K m' h' H2 ∧ Rep K m' H2 w x
theorem ItOk.mono {K m m' H H' J src} (o : ItOk K m H J src) (l : Le K m m' H H') : ItOk K m' H' J src := fun m2 H2 h2 l2 s2 => o m2 H2 h2 (l.trans l2) s2
abbrev MI := Nat → MS → MH → Option (Src × MH)
def tMI (K : PySem.W.Frag) (f : MI) : TI := fun σ H R => ∃ n s h m src h', In K m s h σ H ∧ f n s h = some (src, h') ∧
  ∀ m' H' J, Le K m m' H H' → Sm K m' h' H' → ItOk K m' H' J src → R J H'
theorem imp_pi {X : Cx} {tg e : Expr} {t t' : TI} (p : PI X tg e t) (h : ∀ σ H R, t' σ H R → t σ H R) : PI X tg e t' := ⟨fun pins s σ H R I q => p.run pins s σ H R I (h σ H R q)⟩

/-! ### for -/
def floop (src : Src) (g : MG) (b : MSt) (n : Nat) : Nat → Nat → MS → MH → Option (Fl × MS × MH)
  | 0, _, _, _ => none
  | k + 1, i, s, h => match src.get h i with
    | none => none
    | some none => some (.nx, s, h)
    | some (some w) => match g n w s h with
      | none => none
      | some (s1, h1) => match b n s1 h1 with
        | some (.nx, s2, h2) => floop src g b n k (i + 1) s2 h2
        | some (.ct, s2, h2) => floop src g b n k (i + 1) s2 h2
        | some (.bk, s2, h2) => some (.nx, s2, h2)
        | r => r
def mFor (fi : MI) (g : MG) (b : MSt) : MSt := fun n s h => match fi n s h with
  | some (src, h1) => floop src g b n n 0 s h1
  | none => none
theorem ms_for {X : Cx} {tg iter : Expr} {body : List Stmt} {fi : MI} {g : MG} {fb : MSt} {pos : Pos} (hp : PassesOwn (model X.prog X.w) X.A X.env X.xe) (hc : X.calm = true) (hi : PI X tg iter (tMI X.K fi)) (hg : PG X tg (tMG X.K g)) (hb : PSs X body (tMS X.K fb))
    (hs : ∀ x, foldedSetIterable iter X.env x = pure x := by intro _; rfl) : PS X (.For tg iter body [] pos) (tMS X.K (mFor fi g fb)) :=
  imp_ps (ps_for hp hc hi hg hb hs) fun D σ0 H0 ⟨n, s0, h0, m0, fl, s', h', I0, e0, k⟩ => by
    unfold mFor at e0
    split at e0
    · next src h1 e1 =>
      refine ⟨n, s0, h0, m0, src, h1, I0, e1, fun m1 H1 J L1 S1 O1 => ?_⟩
      refine ⟨fun i j σ H => ∃ s h m, Le X.K m1 m H1 H ∧ In X.K m s h σ H ∧ floop src g fb n j i s h = some (fl, s', h'), ⟨n, s0, h1, m1, Le.refl, I0.le L1 S1, e0⟩, fun i j σ H ⟨s, h, m, L, I, e⟩ => ?_⟩
      cases j with
      | zero => simp [floop] at e
      | succ j =>
        unfold floop at e
        obtain ⟨o1, o2⟩ := O1 m H h L I.sm i
        split at e
        · cases e
        · next eg =>
          cases e
          exact .inl ⟨o1 eg, k m H σ (L1.trans L) I⟩
        · next w eg =>
          obtain ⟨go, yl⟩ := o2 w eg
          refine .inr ⟨go, fun σ2 H2 => ∃ s2 h2 m2, Le X.K m1 m2 H1 H2 ∧ In X.K m2 s2 h2 σ2 H2 ∧ floop src g fb n j (i + 1) s2 h2 = some (fl, s', h'), fun σ2 H2 q => ⟨j, Nat.lt_succ_self j, q⟩, fun x H2 y => ?_⟩
          obtain ⟨L2, S2, R2⟩ := yl x H2 y
          have I2 := I.le L2 S2
          split at e
          · cases e
          · next s1 h1' e2 =>
            refine ⟨n, w, s, h, m, s1, h1', I2, R2, e2, fun m3 H3 σ3 L3 I3 => ?_⟩
            split at e
            · next s2 h2 e3 => exact ⟨n, s1, h1', m3, .nx, s2, h2, I3, e3, fun m4 H4 σ4 L4 I4 => ⟨s2, h2, m4, L.trans (L2.trans (L3.trans L4)), I4, e⟩⟩
            · next s2 h2 e3 => exact ⟨n, s1, h1', m3, .ct, s2, h2, I3, e3, fun m4 H4 σ4 L4 I4 => ⟨s2, h2, m4, L.trans (L2.trans (L3.trans L4)), I4, e⟩⟩
            · next s2 h2 e3 =>
              cases e
              exact ⟨n, s1, h1', m3, .bk, s', h', I3, e3, fun m4 H4 σ4 L4 I4 => k m4 H4 σ4 (L1.trans (L.trans (L2.trans (L3.trans L4)))) I4⟩
            · next r n1 n2 n3 =>
              refine ⟨n, s1, h1', m3, fl, s', h', I3, e, fun m4 H4 σ4 L4 I4 => ?_⟩
              have q := k m4 H4 σ4 (L1.trans (L.trans (L2.trans (L3.trans L4)))) I4
              cases fl with
              | nx => exact absurd e (n1 _ _)
              | ct => exact absurd e (n2 _ _)
              | bk => exact absurd e (n3 _ _)
              | rt w => exact q
    · cases e0

/-! ### list comprehensions -/
/-- y is put behind the list at a number -/
def pushAt (h : MH) (d : Nat) (y : W) : Option MH := match h[d]? with
  | some (.lst acc) => if acc.length < 16777216 then some (h.set d (.lst (acc ++ [y]))) else none
  | _ => none
def lcloop (src : Src) (p : Pat) (t : MT) (f : M) (n d : Nat) (s0 : MS) : Nat → Nat → MH → Option (W × MH)
  | 0, _, _ => none
  | k + 1, i, h => match src.get h i with
    | none => none
    | some none => some (.ref d, h)
    | some (some w) => match mPat p w s0 with
      | none => none
      | some s1 => match t n s1 h with
        | none => none
        | some (false, h1) => lcloop src p t f n d s0 k (i + 1) h1
        | some (true, h1) => match f n s1 h1 with
          | none => none
          | some (y, h2) => match pushAt h2 d y with
            | none => none
            | some h3 => lcloop src p t f n d s0 k (i + 1) h3
def mLc (fi : MI) (p : Pat) (t : MT) (f : M) (vs : List Nat) : M := fun n s h => match fi n s h with
  | some (src, h1) => lcloop src p t f n h1.length (mwipe s vs) n 0 (h1 ++ [.lst []])
  | none => none
theorem run_lc {K : PySem.W.Frag} {fi : MI} {p : Pat} {t : MT} {f : M} {vs : List Nat} {σ0 H0 Q} (hv : ∀ i ∈ pvars p, i ∈ vs) (q : tM K (mLc fi p t f vs) σ0 H0 Q) : tLc (tMI K fi) (gPat K p) (tMT K t) (tM K f) vs σ0 H0 Q := by
  obtain ⟨n, s0, h0, m0, w, h', I0, e0, k⟩ := q
  unfold mLc at e0
  split at e0
  · next src h1 e1 =>
    refine ⟨n, s0, h0, m0, src, h1, I0, e1, fun m1 H1 J L1 S1 O1 => fun D hD => ?_⟩
    have LD : Le K m1 (m1 ++ [D]) H1 (upd H1 D (.lst [])) := Le.newC hD
    have SD : Sm K (m1 ++ [D]) (h1 ++ [.lst []]) (upd H1 D (.lst [])) := S1.newC hD ⟨[], upd_same, rfl⟩
    have hd : (m1 ++ [D])[h1.length]? = some D := by rw [← S1.len]; simp
    refine ⟨fun i j H => ∃ h m, Le K (m1 ++ [D]) m (upd H1 D (.lst [])) H ∧ Sm K m h H ∧ lcloop src p t f n h1.length (mwipe s0 vs) j i h = some (w, h'), ⟨n, h1 ++ [.lst []], m1 ++ [D], Le.refl, SD, e0⟩, fun i j H ⟨h, m, L, S, e⟩ => ?_⟩
    have Iw : In K m (mwipe s0 vs) h (wipe σ0 vs) H := ⟨S, (((I0.rs.mono L1).mono LD).mono L).wipe vs, by rw [mwipe_length, wipe_length]; exact I0.len⟩
    cases j with
    | zero => simp [lcloop] at e
    | succ j =>
      unfold lcloop at e
      obtain ⟨o1, o2⟩ := O1 m H h (LD.trans L) S i
      split at e
      · cases e
      · next eg =>
        cases e
        exact .inl ⟨o1 eg, k m H (.ref D) (L1.trans (LD.trans L)) S ⟨D, L.pre _ _ hd, rfl⟩⟩
      · next x eg =>
        obtain ⟨go, yl⟩ := o2 x eg
        refine .inr ⟨go, fun H2 => ∃ h2 m2, Le K (m1 ++ [D]) m2 (upd H1 D (.lst [])) H2 ∧ Sm K m2 h2 H2 ∧ lcloop src p t f n h1.length (mwipe s0 vs) j (i + 1) h2 = some (w, h'), fun H2 q => ⟨j, Nat.lt_succ_self j, q⟩, fun u H2 y => ?_⟩
        obtain ⟨L2, S2, R2⟩ := yl u H2 y
        have I2 := Iw.le L2 S2
        split at e
        · cases e
        · next s1 e2 =>
          refine gPat_run p x u _ s1 _ _ I2 R2 e2 fun σ3 I3 w3 => ⟨?_, ?_⟩
          · rw [w3 vs hv]
            -- wiped twice is wiped once
            exact wipe_wipe σ0 vs
          · split at e
            · cases e
            · next h3 e3 =>
              refine ⟨n, s1, h, m, false, h3, I3, e3, fun m4 H4 L4 S4 => ?_⟩
              exact iteF ⟨h3, m4, L.trans (L2.trans L4), S4, e⟩
            · next h3 e3 =>
              refine ⟨n, s1, h, m, true, h3, I3, e3, fun m4 H4 L4 S4 => iteT ?_⟩
              split at e
              · cases e
              · next y4 h4 e4 =>
                refine ⟨n, s1, h3, m4, y4, h4, I3.le L4 S4, e4, fun m5 H5 v5 L5 S5 R5 => ?_⟩
                split at e
                · cases e
                · next h5 e5 =>
                  unfold pushAt at e5
                  split at e5
                  · next acc ea =>
                    split at e5
                    · next hz =>
                      cases e5
                      have hm : m5[h1.length]? = some D := L5.pre _ _ (L4.pre _ _ (L2.pre _ _ (L.pre _ _ hd)))
                      obtain ⟨vs5, q5, r5⟩ := S5.cell _ D _ hm ea
                      refine ⟨vs5, q5, by rw [r5.length, sizeLine_eq]; exact hz, ?_⟩
                      have L6 : Le K m5 m5 H5 (upd H5 D (.lst (vs5 ++ [v5]))) := Le.upd q5 trivial
                      refine ⟨_, m5, L.trans (L2.trans (L4.trans (L5.trans L6))), S5.upd hm ea rfl (show CellOk K m5 _ (.lst (acc ++ [y4])) D from ⟨vs5 ++ [v5], upd_same, (Reps.mono L6 _ _ r5).append (Reps.one (Rep.mono L6 _ _ R5))⟩) rfl, e⟩
                    · cases e5
                  · cases e5
  · cases e0
def mYes : MT := fun _ _ h => some (true, h)
theorem mts_nil {X : Cx} : PTs X [] (tMT X.K mYes) := ⟨fun pins s σ H Q I q => pts_nil.run pins s σ H Q I (by
  obtain ⟨n, s, h, m, w, h', I, e, k⟩ := q
  cases e
  exact k m H Le.refl I.sm)⟩
theorem mts_one {X : Cx} {c : Expr} {t : MT} (h : PT X c (tMT X.K t)) : PTs X [c] (tMT X.K t) := pts_one h
section
variable {X : Cx}
theorem m_lc {elt tg iter : Expr} {ifs : List Expr} {scope : Scope} {own : List (Str × Nat)} {pos : Pos} {fi : MI} {p : Pat} {t : MT} {f : M} (hc : X.calm = true) (hN : X.N.Nodup) (hi : PI X tg iter (tMI X.K fi)) (ok : BlkOk X.N X.env.scope scope own)
    (hg : ∀ (s : Shared) (H : Hp) (C : Addr) (cl : List (Str × Addr)) (fp : List Addr), PG (X.blk s H scope (compEnvC scope cl C X.env) fp) tg (gPat X.K p)) (ht : ∀ (s : Shared) (H : Hp) (C : Addr) (cl : List (Str × Addr)) (fp : List Addr), PTs (X.blk s H scope (compEnvC scope cl C X.env) fp) ifs (tMT X.K t))
    (he : ∀ (s : Shared) (H : Hp) (C : Addr) (cl : List (Str × Addr)) (fp : List Addr), PE (X.blk s H scope (compEnvC scope cl C X.env) fp) elt (tM X.K f)) (hv : ∀ i ∈ pvars p, i ∈ own.map (·.2)) (hs : ∀ x, foldedSetIterable iter X.env x = pure x := by intro _; rfl) :
    PE X (.ListComp elt [⟨tg, iter, ifs, 0⟩] scope pos) (tM X.K (mLc fi p t f (own.map (·.2)))) := imp_pe (pe_lc hc hN hi ok hg ht he hs) fun σ H Q q => run_lc hv q
theorem ms_setLc {y : Str} {py : Pos} {elt tg iter : Expr} {ifs : List Expr} {scope : Scope} {own : List (Str × Nat)} {pos spos : Pos} {fi : MI} {p : Pat} {t : MT} {f : M} (i : Nat) (hc : X.calm = true) (hN : X.N.Nodup) (hy : X.N[i]? = some y) (hyl : X.env.scope.names.lookup y = some .local)
    (hsw : swapsWith (.ListComp elt [⟨tg, iter, ifs, 0⟩] scope pos) (some (.Name y py)) spos.line X.env = pure true) (hi : PI X tg iter (tMI X.K fi)) (ok : BlkOk X.N X.env.scope scope own)
    (hg : ∀ (s : Shared) (H : Hp) (C : Addr) (cl : List (Str × Addr)) (fp : List Addr), PG (X.blk s H scope (compEnvC scope cl C X.env) fp) tg (gPat X.K p)) (ht : ∀ (s : Shared) (H : Hp) (C : Addr) (cl : List (Str × Addr)) (fp : List Addr), PTs (X.blk s H scope (compEnvC scope cl C X.env) fp) ifs (tMT X.K t))
    (he : ∀ (s : Shared) (H : Hp) (C : Addr) (cl : List (Str × Addr)) (fp : List Addr), PE (X.blk s H scope (compEnvC scope cl C X.env) fp) elt (tM X.K f)) (hv : ∀ i ∈ pvars p, i ∈ own.map (·.2)) (hs : ∀ x, foldedSetIterable iter X.env x = pure x := by intro _; rfl) :
    PS X (.Assign [.Name y py] (.ListComp elt [⟨tg, iter, ifs, 0⟩] scope pos) spos) (tMS X.K (mSet i (mLc fi p t f (own.map (·.2))))) := imp_ps (ps_setLc hc hN hy hyl hsw hi ok hg ht he hs) fun D σ H q => by
  obtain ⟨n, s, h, m, fl, s', h', I, e, k⟩ := q
  obtain ⟨x, h1, e1, e⟩ := thenS_some e
  cases e
  exact run_lc hv ⟨n, s, h, m, x, h', I, e1, fun m1 H1 v L1 S1 R1 => by
    have I1 := I.le L1 S1
    exact k m1 H1 _ L1 ⟨I1.sm, I1.rs.set I1.len R1, by rw [List.length_set, List.length_set]; exact I1.len⟩⟩
end

/-! ### defs and their calls -/
abbrev MF := Nat → List W → MH → Option (W × MH)
def spM (K : PySem.W.Frag) (ar : Nat) (F : MF) : Sp := fun vs H Q _ => vs.length = ar ∧ ∃ n h m ws w h', Sm K m h H ∧ Reps K m H ws vs ∧ F n ws h = some (w, h') ∧
  ∀ m' H' v, Le K m m' H H' → Sm K m' h' H' → Rep K m' H' w v → Q v H'
def mDef (N : Nat) (B : MSt) : MF := fun n ws h => match B n (ws.map some ++ List.replicate (N - ws.length) none) h with
  | some (.rt w, _, h') => some (w, h')
  | some (.nx, _, h') => some (.non, h')
  | _ => none
theorem rs_start {K m H} {N : List Str} {ws : List W} {vs : List V} (R : Reps K m H ws vs) : RS K m H (ws.map some ++ List.replicate (N.length - ws.length) none) (L2.start N vs) := fun i w e => by
  by_cases hi : i < ws.length
  · rw [List.getElem?_append_left (by simpa using hi), List.getElem?_map] at e
    cases q : ws[i]? with
    | none => rw [q] at e; cases e
    | some x =>
      rw [q] at e; cases e
      obtain ⟨v, ev, r⟩ := R.get q
      refine ⟨v, ?_, r⟩
      have hv : i < vs.length := by rw [R.length]; exact hi
      unfold L2.start
      rw [List.getElem?_append_left (by simpa using hv), List.getElem?_map, ev]; rfl
  · rw [List.getElem?_append_right (by simpa using hi), List.getElem?_replicate] at e
    split at e <;> cases e
section
variable {P : Program} {w : World} {K : PySem.W.Frag} {mg : Str → Option Value} {base : Heap}
theorem def_ok {x qual : Str} {st : Stmt} {f : Addr} {fd : FuncData} {N ps : List Str} {k : Nat} {B : MSt} (F : Fun K x qual st f fd) (S : FnScope N ps (defScope st))
    (hb : ∀ (cdv : Value) (A : Around) (outer : List Env) (s : Shared) (H : Hp) (E : XK), Room k (A.deeper (envOfC qual (defScope st) s.heap.objs.size f cdv)) → PSs (cxOf CX0 P w K mg base N qual (defScope st) f cdv A outer s H E).nox (defBody st) (tMS K B)) :
    FnOk P w K mg base CX0 (k + 1) f fd ps (spM K ps.length (mDef N.length B)) := by
  refine F.ok S (fun vs H Q E h => h.1) fun cdv A outer s H vs Q E hr h => ⟨_, hb cdv A outer s H E hr, ?_⟩
  obtain ⟨hl, n, hh, m, ws, r, h', Sm0, R, e, q⟩ := h
  have hle : (L2.start N vs).length = (ws.map some ++ List.replicate (N.length - ws.length) (none : Option W)).length := by
    unfold L2.start
    simp [R.length]
  unfold mDef at e
  split at e
  · next r' s' h'' e1 =>
    cases e
    exact ⟨n, _, hh, m, .rt r, s', h', ⟨Sm0, rs_start R, hle.symm⟩, e1, fun m1 H1 σ1 L1 I1 v R1 => q m1 H1 v L1 I1.sm R1⟩
  · next s' h'' e1 =>
    cases e
    exact ⟨n, _, hh, m, .nx, s', h', ⟨Sm0, rs_start R, hle.symm⟩, e1, fun m1 H1 σ1 L1 I1 => q m1 H1 .non L1 I1.sm rfl⟩
  · cases e
/-- a def of which nothing is known -/
theorem def_zero {f : Addr} {fd : FuncData} {ps : List Str} {k : Nat} : FnOk P w K mg base CX0 k f fd ps (spM K ps.length fun _ _ _ => none) :=
  ⟨fun vs H Q E h => h.1, fun A outer s H args us vs Q E hr he hb hv hs => by
    obtain ⟨_, n, hh, m, ws, r, h', _, _, e, _⟩ := hs
    cases e⟩
end
def mCall (F : MF) (fr : MA) : M := fun n s h => andThen (fr n s h) fun ws h1 => F n ws h1
section
variable {X : Cx} {k : Nat} {f : Addr} {fd : FuncData} {ps : List Str} {F : MF} {x : Str} {p pos : Pos} {e : Expr} {es : List Expr} {fr : MA}
theorem run_call {ar : Nat} {σ H Q} (q : tM X.K (mCall F fr) σ H Q) (hl : ∀ n s h ws h1, fr n s h = some (ws, h1) → ws.length = ar) : tCall (spM X.K ar F) [] E0 (tMA X.K fr) σ H Q := by
  obtain ⟨n, s, h, m, w, h', I, e, k⟩ := q
  obtain ⟨ws, h1, e1, e⟩ := andThen_some e
  refine ⟨n, s, h, m, ws, h1, I, e1, fun m1 H1 vs L1 S1 R1 => ?_⟩
  show spM X.K ar F (vs ++ []) H1 Q E0
  rw [List.append_nil]
  exact ⟨by rw [R1.length]; exact hl _ _ _ _ _ e1, n, h1, m1, ws, w, h', S1, R1, e, fun m2 H2 v L2 S2 R2 => k m2 H2 v (L1.trans L2) S2 R2⟩
/-- how many arguments a row of them has -/
inductive ArN : MA → Nat → Prop
  | nil : ArN mNil 0
  | cons {f : M} {fr : MA} {k : Nat} : ArN fr k → ArN (mCons f fr) (k + 1)
theorem ArN.len : ∀ {fr : MA} {k : Nat}, ArN fr k → ∀ n s h ws h1, fr n s h = some (ws, h1) → ws.length = k := fun {fr k} a => by
  induction a with
  | nil => intro n s h ws h1 e; cases e; rfl
  | cons a ih =>
    intro n s h ws h1 e
    obtain ⟨x, h2, e1, e⟩ := andThen_some e
    obtain ⟨xs, h3, e2, e⟩ := andThen_some e
    cases e
    simp [ih _ _ _ _ _ e2]
theorem m_call (G : FnOk X.prog X.w X.K X.mg X.base CX0 k f fd ps (spM X.K ps.length F)) (hr : Room k X.A) (hg : Gl X x) (hm : X.mg x = some (.ref f)) (hk : PySem.W.keepIn X.K (.ref f) = true) (hb : Binds X.K fd ps [])
    (ha : PA X (e :: es) (tMA X.K fr)) (hl : ArN fr ps.length) (hdb : (x == ("__debug__" : Str)) = false := by decide) (he : starEach (e :: es) X.env = (false, eval e X.env) :: starEach es X.env := by rfl) (hpl : (backTo pos (starEach (e :: es) X.env)).any (·.1) = false := by rfl) (hpl' : (backTo pos (starEach es X.env)).any (·.1) = false := by rfl) :
    PE X (.Call (.Name x p) (e :: es) [] pos) (tM X.K (mCall F fr)) := imp_pe (pe_call G hr hg hm hk hb .nil pass0 ha hdb he hpl') fun σ H Q q => run_call q hl.len
theorem m_call0 (G : FnOk X.prog X.w X.K X.mg X.base CX0 k f fd ps (spM X.K ps.length F)) (hr : Room k X.A) (hg : Gl X x) (hm : X.mg x = some (.ref f)) (hk : PySem.W.keepIn X.K (.ref f) = true) (hb : Binds X.K fd ps []) (h0 : ps.length = 0) (hdb : (x == ("__debug__" : Str)) = false := by decide) :
    PE X (.Call (.Name x p) [] [] pos) (tM X.K (mCall F mNil)) := imp_pe (pe_call0 G hr hg hm hk hb .nil pass0 hdb) fun σ H Q q => by
  have := run_call (ar := 0) q (by intro n s h ws h1 e; cases e; rfl)
  rw [h0]
  obtain ⟨n, s, h, m, ws, h1, I, e1, k⟩ := this
  cases e1
  exact k m H [] Le.refl I.sm rfl
end
end Mi

/-! Mi: operators, built-in functions and methods, by values. -/
namespace Mi
open PySem PySem.Spec PyProof.Rows L2
section
variable {K : PySem.W.Frag}
theorem imp2_or1 {g : G2} {r r' : R2} (h : Imp2 K g r) : Imp2 K g fun x y H Q => r x y H Q ∨ r' x y H Q := fun m h0 H x y vx vy w h' S R1 R2 e Q q => .inl (h m h0 H x y vx vy w h' S R1 R2 e Q q)

/-! ### integers -/
def gInt (C : Int → Int → Bool) (f : Int → Int → W) : G2 := fun x y h => match x, y with
  | .int i, .int j => if C i j = true then some (f i j, h) else none
  | _, _ => none
theorem imp_int {C : Int → Int → Bool} {P : Int → Int → Prop} {f : Int → Int → W} (hC : ∀ i j, C i j = true → P i j) (hf : ∀ i j, flatW (f i j) = true) : Imp2 K (gInt C f) (rI P fun i j => flV (f i j)) := by
  intro m h H x y vx vy w h' S R1 R2 e Q q
  cases x <;> cases y <;> try (simp [gInt] at e; done)
  next i j =>
    unfold gInt at e
    simp only at e
    split at e
    · next c =>
      cases e
      exact ⟨i, j, R1, R2, hC i j c, q m H _ Le.refl S (Rep.ofFlat (hf i j))⟩
    · cases e
def yes2 : Int → Int → Bool := fun _ _ => true
def gI0 (f : Int → Int → W) : G2 := fun x y h => match x, y with
  | .int i, .int j => some (f i j, h)
  | _, _ => none
theorem imp_int0 {f : Int → Int → W} {g : Int → Int → V} (hf : ∀ i j, flatW (f i j) = true ∧ flV (f i j) = g i j) : Imp2 K (gI0 f) (rI0 g) := by
  intro m h H x y vx vy w h' S R1 R2 e Q q
  cases x <;> cases y <;> try (simp [gI0] at e; done)
  next i j =>
    simp [gI0] at e
    obtain ⟨e1, e2⟩ := e
    subst e1; subst e2
    refine ⟨i, j, R1, R2, ?_⟩
    rw [← (hf i j).2]
    exact q m H _ Le.refl S (Rep.ofFlat (hf i j).1)
def gSub : G2 := gI0 fun i j => .int (i - j)
def gLt : G2 := gI0 fun i j => .bl (decide (i < j))
def gLe : G2 := gI0 fun i j => .bl (decide (i ≤ j))
def gGt : G2 := gI0 fun i j => .bl (decide (j < i))
def gGe : G2 := gI0 fun i j => .bl (decide (j ≤ i))
theorem i_sub : Imp2 K gSub (rI0 fun i j => .int (i - j)) := imp_int0 fun _ _ => ⟨rfl, rfl⟩
theorem i_lt : Imp2 K gLt (rI0 fun i j => .bl (decide (i < j))) := imp_int0 fun _ _ => ⟨rfl, rfl⟩
theorem i_le : Imp2 K gLe (rI0 fun i j => .bl (decide (i ≤ j))) := imp_int0 fun _ _ => ⟨rfl, rfl⟩
theorem i_gt : Imp2 K gGt (rI0 fun i j => .bl (decide (j < i))) := imp_int0 fun _ _ => ⟨rfl, rfl⟩
theorem i_ge : Imp2 K gGe (rI0 fun i j => .bl (decide (j ≤ i))) := imp_int0 fun _ _ => ⟨rfl, rfl⟩
def cMul (i j : Int) : Bool := (decide (-(2 ^ 64) < i) && decide (i < 2 ^ 64)) || (decide (-(2 ^ 64) < j) && decide (j < 2 ^ 64))
def gFdiv : G2 := gInt (fun _ j => decide (0 < j) && decide (j < 1073741824)) fun i j => .int (i / j)
def gMod : G2 := gInt (fun _ j => decide (0 < j)) fun i j => .int (i % j)
def gPow : G2 := gInt (fun i j => decide (0 ≤ j) && decide (j ≤ 1000000) && decide (i.natAbs < 2 ^ 64)) fun i j => .int (i ^ j.toNat)
theorem i_fdiv : Imp2 K gFdiv (rI CDiv fun i j => .int (i / j)) := imp_int (fun i j c => by simpa [CDiv] using c) fun _ _ => rfl
theorem i_mod : Imp2 K gMod (rI (fun _ j => 0 < j) fun i j => .int (i % j)) := imp_int (fun i j c => by simpa using c) fun _ _ => rfl
theorem i_pow : Imp2 K gPow (rI CPow fun i j => .int (i ^ j.toNat)) := imp_int (fun i j c => by
  simp only [Bool.and_eq_true, decide_eq_true_eq] at c
  exact ⟨c.1.1, c.1.2, c.2⟩) fun _ _ => rfl
def gNeg : G1 := fun x h => match x with
  | .int i => some (.int (-i), h)
  | _ => none
theorem i_neg : Imp1 K gNeg (rU fun i => .int (-i)) := by
  intro m h H x vx w h' S R e Q q
  cases x <;> try (simp [gNeg] at e; done)
  next i =>
    simp [gNeg] at e
    obtain ⟨e1, e2⟩ := e
    subst e1; subst e2
    exact ⟨i, R, q m H _ Le.refl S rfl⟩

/-! ### + -/
def lstM (h : MH) (n : Nat) : Option (List W) := match h[n]? with
  | some (.lst xs) => some xs
  | _ => none
theorem lstM_some {h : MH} {n : Nat} {xs : List W} (e : lstM h n = some xs) : h[n]? = some (.lst xs) := by
  unfold lstM at e
  split at e
  · next q => cases e; exact q
  · cases e
theorem Sm.lst {m h H n xs vx} (S : Sm K m h H) (e : lstM h n = some xs) (R : Rep K m H (.ref n) vx) : ∃ a vs, vx = .ref a ∧ m[n]? = some a ∧ H a = some (.lst vs) ∧ Reps K m H xs vs := by
  obtain ⟨a, ea, ev⟩ := R
  obtain ⟨vs, q, r⟩ := S.cell n a _ ea (lstM_some e)
  exact ⟨a, vs, ev, ea, q, r⟩
theorem Sm.lsAt {m h H n xs vx} (S : Sm K m h H) (e : lstAt h n = some xs) (R : Rep K m H (.ref n) vx) : ∃ a vs, vx = .ref a ∧ m[n]? = some a ∧ SqL K H a vs ∧ Reps K m H xs vs := by
  obtain ⟨a, ea, ev⟩ := R
  unfold lstAt at e
  split at e
  · next ys q =>
    cases e
    obtain ⟨vs, q2, r⟩ := S.cell n a _ ea q
    exact ⟨a, vs, ev, ea, .inl (.inl q2), r⟩
  · next ys q =>
    cases e
    obtain ⟨vs, q2, r⟩ := S.cell n a _ ea q
    exact ⟨a, vs, ev, ea, q2.sql, r⟩
  · cases e
def gAdd : G2 := fun x y h => match x, y with
  | .int i, .int j => some (.int (i + j), h)
  | .str a, .str b => if szOk (a.length + b.length) = true then some (.str (a ++ b), h) else none
  | .ref a, .ref b => match lstM h a, lstM h b with
    | some xs, some ys => newL (xs ++ ys) h
    | _, _ => none
  | .tup xs, .tup ys => if szOk (xs.length + ys.length) = true then some (.tup (xs ++ ys), h) else none
  | _, _ => none
def rAdd4 (K : PySem.W.Frag) : R2 := fun x y H Q => (((rI0 (fun i j => .int (i + j))) x y H Q ∨ (∃ i j, x = V.str i ∧ y = V.str j ∧ i.length + j.length ≤ sizeLine ∧ Q (V.str (i ++ j)) H)) ∨ rCat x y H Q) ∨ rCatA K x y H Q
theorem op_add4 {X : Cx} : OpR X (binaryOp .Add) (rAdd4 X.K) := ((op_add.or op_add_str).or op_cat).or op_catA
theorem i_add : Imp2 K gAdd (rAdd4 K) := by
  intro m h H x y vx vy w h' S R1 R2 e Q q
  unfold gAdd at e
  split at e
  · cases e
    exact .inl (.inl (.inl ⟨_, _, R1, R2, q m H _ Le.refl S rfl⟩))
  · split at e
    · next hz =>
      cases e
      exact .inl (.inl (.inr ⟨_, _, R1, R2, szOk_le hz, q m H _ Le.refl S rfl⟩))
    · cases e
  · split at e
    · next xs ys e1 e2 =>
      obtain ⟨a1, vs1, rfl, _, h1, r1⟩ := S.lst e1 R1
      obtain ⟨a2, vs2, rfl, _, h2, r2⟩ := S.lst e2 R2
      refine .inl (.inr ⟨a1, a2, vs1, vs2, rfl, rfl, h1, h2, ?_, fun p hp => ?_⟩)
      · have := newL_sz e
        rw [List.length_append] at this
        rw [r1.length, r2.length]; exact this
      · obtain ⟨l, S2, r⟩ := newL_ok S (r1.append r2) e hp
        exact q _ _ _ l S2 r
    · cases e
  · split at e
    · next hz =>
      cases e
      obtain ⟨a1, vs1, rfl, t1, r1⟩ := R1
      obtain ⟨a2, vs2, rfl, t2, r2⟩ := R2
      refine .inr ⟨a1, a2, vs1, vs2, rfl, rfl, t1, t2, by rw [r1.length, r2.length]; exact szOk_le hz, fun z => ?_, fun z1 z2 => ?_, fun z1 z2 p hp => ?_⟩
      · subst z
        have : (_ : List W) = [] := List.length_eq_zero_iff.mp (by rw [← r1.length]; rfl)
        subst this
        exact q m H _ Le.refl S ⟨a2, vs2, rfl, t2, r2⟩
      · subst z2
        have : (_ : List W) = [] := List.length_eq_zero_iff.mp (by rw [← r2.length]; rfl)
        subst this
        rw [List.append_nil] at q
        exact q m H _ Le.refl S ⟨a1, vs1, rfl, t1, r1⟩
      · exact q m _ _ (Le.newT hp) (S.newT hp) ⟨p, _, rfl, .inl (.inl upd_same), Reps.mono (Le.newT hp) _ _ (r1.append r2)⟩
    · cases e
  · cases e

/-! ### * -/
def repS (x : Str) (n : Int) : Str := if n < 1 then Str.empty else if (n == 1 || x.length == 0) = true then x else ⟨(List.replicate n.toNat x.cps).foldl (· ++ ·) #[]⟩
/-- t * n, a short text a few times -/
theorem op_repS {X : Cx} : OpR X (binaryOp .Mult) (fun x y H Q => ∃ z n, x = .str z ∧ y = .int n ∧ z.length ≤ 1000 ∧ -1000 ≤ n ∧ n ≤ 1000 ∧ Q (.str (repS z n)) H) := by
  intro pins s σ H x y v u Q I rx ry h
  obtain ⟨z, n, rfl, rfl, hz, h1, h2, q⟩ := h
  obtain ⟨t, rfl⟩ := rx
  obtain ⟨t', rfl⟩ := ry
  have hs : sizeLine = 16777216 := sizeLine_eq
  have hprod : z.length * n.toNat ≤ 1000 * 1000 := Nat.mul_le_mul hz (by omega)
  refine PySem.P.mul_str ?_ (fun a b => ?_) (fun a b => ?_) ?_
  · have a1 : ¬ n < -(2 ^ 63 : Int) := by omega
    have a2 : ¬ n ≥ 2 ^ 63 := by omega
    rw [decide_eq_false a1, decide_eq_false a2]; rfl
  · intro c
    have hn : (0 : Int) < n := by omega
    have : (z.length : Int) * n ≤ 1000 * 1000 := by
      calc (z.length : Int) * n ≤ 1000 * n := Int.mul_le_mul_of_nonneg_right (by omega) (by omega)
        _ ≤ 1000 * 1000 := by omega
    have c2 : (2 ^ 63 - 1) / n < (z.length : Int) := c
    have c3 := Int.ediv_lt_iff_lt_mul hn |>.mp c2
    omega
  · unfold Builtin.Str.tooLong
    exact decide_eq_false (by omega)
  · unfold repS at q
    by_cases c : n < 1
    · rw [if_pos c] at q ⊢
      exact ⟨by decide, .str _, H, I.tok _, ⟨_, rfl⟩, q⟩
    · rw [if_neg c] at q ⊢
      by_cases d : (n == 1 || z.length == 0) = true
      · rw [if_pos d] at q ⊢
        exact ⟨.str _, H, I, ⟨_, rfl⟩, q⟩
      · rw [if_neg d] at q ⊢
        refine ⟨?_, .str _, H, I.tok _, ⟨_, rfl⟩, q⟩
        exact fits_reps (by unfold Builtin.Str.tooLong; exact decide_eq_false (by omega))
end
end Mi

/-! Mi: comparisons, subscripts, slices, built-in functions, methods. -/
namespace Mi
open PySem PySem.Spec PyProof.Rows L2
section
variable {K : PySem.W.Frag}
def gMul : G2 := fun x y h => match x, y with
  | .int i, .int j => if cMul i j = true then some (.int (i * j), h) else none
  | .str z, .int n => if (decide (z.length ≤ 1000) && decide (-1000 ≤ n) && decide (n ≤ 1000)) = true then some (.str (repS z n), h) else none
  | .ref a, .int k => match lstM h a with
    | some xs => if (decide (-1000 ≤ k) && decide (k ≤ 1000) && szOk (xs.length * k.toNat)) = true then newL (List.replicate k.toNat xs).flatten h else none
    | none => none
  | _, _ => none
def rMul3 : R2 := fun x y H Q => (rI CMul (fun i j => .int (i * j)) x y H Q ∨ (∃ z n, x = .str z ∧ y = .int n ∧ z.length ≤ 1000 ∧ -1000 ≤ n ∧ n ≤ 1000 ∧ Q (.str (repS z n)) H)) ∨ rRep x y H Q
theorem op_mul3 {X : Cx} : OpR X (binaryOp .Mult) rMul3 := (op_mul.or op_repS).or op_rep
theorem cMul_ok {i j : Int} (c : cMul i j = true) : CMul i j := by
  unfold cMul at c
  simp only [Bool.or_eq_true, Bool.and_eq_true, decide_eq_true_eq] at c
  exact c
theorem Reps.replicate {m H xs vs} (r : Reps K m H xs vs) : ∀ k : Nat, Reps K m H (List.replicate k xs).flatten (List.replicate k vs).flatten
  | 0 => rfl
  | k + 1 => by
    rw [List.replicate_succ, List.replicate_succ, List.flatten_cons, List.flatten_cons]
    exact r.append (Reps.replicate r k)
theorem i_mul : Imp2 K gMul rMul3 := by
  intro m h H x y vx vy w h' S R1 R2 e Q q
  unfold gMul at e
  split at e
  · split at e
    · next c =>
      cases e
      exact .inl (.inl ⟨_, _, R1, R2, cMul_ok c, q m H _ Le.refl S rfl⟩)
    · cases e
  · split at e
    · next c =>
      cases e
      simp only [Bool.and_eq_true, decide_eq_true_eq] at c
      exact .inl (.inr ⟨_, _, R1, R2, c.1.1, c.1.2, c.2, q m H _ Le.refl S rfl⟩)
    · cases e
  · split at e
    · next xs e1 =>
      split at e
      · next c =>
        simp only [Bool.and_eq_true, decide_eq_true_eq] at c
        obtain ⟨a1, vs1, rfl, _, h1, r1⟩ := S.lst e1 R1
        refine .inr ⟨a1, _, vs1, rfl, R2, h1, by omega, by omega, by rw [r1.length]; exact szOk_le c.2, fun p hp => ?_⟩
        obtain ⟨l, S2, r⟩ := newL_ok S (r1.replicate _) e hp
        exact q _ _ _ l S2 r
      · cases e
    · cases e
  · cases e

/-! ### == and != -/
mutual
/-- a value as data: lists by their numbers, to a depth -/
def toD (h : MH) : Nat → W → Option PyData
  | _, .non => some .none
  | _, .bl b => some (.bool b)
  | _, .int i => some (.int i)
  | _, .str x => some (.str x)
  | 0, _ => none
  | k + 1, .tup xs => (toDs h k xs).map .tuple
  | k + 1, .ref n => match lstAt h n with
    | some xs => (toDs h k xs).map .list
    | none => none
  termination_by k w => (k, sizeOf w)
def toDs (h : MH) : Nat → List W → Option (List PyData)
  | _, [] => some []
  | k, x :: xs => match toD h k x, toDs h k xs with
    | some d, some ds => some (d :: ds)
    | _, _ => none
  termination_by k xs => (k, sizeOf xs)
end
mutual
theorem toD_ok {m h H} (S : Sm K m h H) : ∀ (k : Nat) (x : W) (v : V) (d : PyData), Rep K m H x v → toD h k x = some d → Dp K H v d
  | _, .non, v, d, R, e => by rw [toD] at e; cases e; rw [show v = _ from R]; exact .non
  | _, .bl b, v, d, R, e => by rw [toD] at e; cases e; rw [show v = _ from R]; exact .bl b
  | _, .int i, v, d, R, e => by rw [toD] at e; cases e; rw [show v = _ from R]; exact .int i
  | _, .str x, v, d, R, e => by rw [toD] at e; cases e; rw [show v = _ from R]; exact .str x
  | 0, .tup _, v, d, R, e => by rw [toD] at e; cases e; all_goals simp
  | 0, .ref _, v, d, R, e => by rw [toD] at e; cases e; all_goals simp
  | k + 1, .tup xs, v, d, R, e => by
    rw [toD] at e
    obtain ⟨a, vs, rfl, t, rs⟩ := R
    cases q : toDs h k xs with
    | none => rw [q] at e; cases e
    | some ds =>
      rw [q] at e; cases e
      exact .tup t (toDs_ok S k xs vs ds rs q)
  | k + 1, .ref n, v, d, R, e => by
    rw [toD] at e
    split at e
    · next xs e1 =>
      obtain ⟨a, vs, rfl, _, t, rs⟩ := S.lsAt e1 R
      cases q : toDs h k xs with
      | none => rw [q] at e; cases e
      | some ds =>
        rw [q] at e; cases e
        exact .lst t (toDs_ok S k xs vs ds rs q)
    · cases e
  termination_by k w => (k, sizeOf w)
theorem toDs_ok {m h H} (S : Sm K m h H) : ∀ (k : Nat) (xs : List W) (vs : List V) (ds : List PyData), Reps K m H xs vs → toDs h k xs = some ds → DpAll K H vs ds
  | k, [], vs, ds, R, e => by rw [toDs] at e; cases e; rw [show vs = _ from R]; exact .nil
  | k, x :: xs, vs, ds, R, e => by
    rw [toDs] at e
    obtain ⟨v, r, rfl, R1, R2⟩ := R
    split at e
    · next d ds' e1 e2 =>
      cases e
      exact .cons (toD_ok S k x v d R1 e1) (toDs_ok S k xs r ds' R2 e2)
    · cases e
  termination_by k xs => (k, sizeOf xs)
end
def eqD (x y : W) (h : MH) : Option Bool := match toD h 64 x, toD h 64 y with
  | some d, some e => if (SeqAt.shaped d && SeqAt.shaped e) = true then some (PyData.eqv d e) else none
  | _, _ => none
def eqW (x y : W) (h : MH) : Option Bool := match x, y with
  | .str a, .str b => some (decide (a = b))
  | x, y => eqD x y h
def gEq : G2 := fun x y h => (eqW x y h).map fun b => (.bl b, h)
def gNe : G2 := fun x y h => (eqW x y h).map fun b => (.bl (!b), h)
def rEq2 (K : PySem.W.Frag) : R2 := fun x y H Q => rEq x y H Q ∨ rEqD K x y H Q
def rNe2 (K : PySem.W.Frag) : R2 := fun x y H Q => rNe x y H Q ∨ rNeD K x y H Q
theorem op_eq2 {X : Cx} (hu : X.A.units + 64 < cLine) : OpR X (compareOp .Eq) (rEq2 X.K) := op_eq.or (op_eqD hu)
theorem op_ne2 {X : Cx} (hu : X.A.units + 64 < cLine) : OpR X (compareOp .NotEq) (rNe2 X.K) := op_ne.or (op_neD hu)
theorem eqW_ok {m h H x y vx vy b} (S : Sm K m h H) (R1 : Rep K m H x vx) (R2 : Rep K m H y vy) (e : eqW x y h = some b) :
    (scal vx vy = true ∧ decide (vx = vy) = b) ∨ ∃ d1 d2, Dp K H vx d1 ∧ Dp K H vy d2 ∧ SeqAt.shaped d1 = true ∧ SeqAt.shaped d2 = true ∧ PyData.eqv d1 d2 = b := by
  unfold eqW at e
  split at e
  · next p q =>
    cases e
    rw [show vx = .str p from R1, show vy = .str q from R2]
    refine .inl ⟨rfl, ?_⟩
    by_cases z : p = q
    · subst z; simp
    · rw [decide_eq_false z, decide_eq_false (fun y => z (V.str.inj y))]
  · unfold eqD at e
    split at e
    · next d1 d2 e1 e2 =>
      split at e
      · next c =>
        simp only [Bool.and_eq_true] at c
        cases e
        exact .inr ⟨d1, d2, toD_ok S _ _ _ _ R1 e1, toD_ok S _ _ _ _ R2 e2, c.1, c.2, rfl⟩
      · cases e
    · cases e
theorem i_eq : Imp2 K gEq (rEq2 K) := by
  intro m h H x y vx vy w h' S R1 R2 e Q q
  unfold gEq at e
  cases eb : eqW x y h with
  | none => rw [eb] at e; cases e
  | some b =>
    rw [eb] at e; cases e
    rcases eqW_ok S R1 R2 eb with ⟨a1, a2⟩ | ⟨d1, d2, a1, a2, a3, a4, a5⟩
    · exact .inl ⟨a1, by rw [a2]; exact q m H _ Le.refl S rfl⟩
    · exact .inr ⟨d1, d2, a1, a2, a3, a4, by rw [a5]; exact q m H _ Le.refl S rfl⟩
theorem i_ne : Imp2 K gNe (rNe2 K) := by
  intro m h H x y vx vy w h' S R1 R2 e Q q
  unfold gNe at e
  cases eb : eqW x y h with
  | none => rw [eb] at e; cases e
  | some b =>
    rw [eb] at e; cases e
    rcases eqW_ok S R1 R2 eb with ⟨a1, a2⟩ | ⟨d1, d2, a1, a2, a3, a4, a5⟩
    · exact .inl ⟨a1, by rw [a2]; exact q m H _ Le.refl S rfl⟩
    · exact .inr ⟨d1, d2, a1, a2, a3, a4, by rw [a5]; exact q m H _ Le.refl S rfl⟩

/-! ### in -/
def occurs (i j : Str) : Bool := !(Builtin.Str.occurrences j i 0 j.length 1).isEmpty
def inW (x : W) (xs : List W) : Bool := xs.any fun y => eqV (flV y) (flV x)
theorem inV_flat {x : W} : ∀ {xs : List W}, inV (flV x) (xs.map flV) = inW x xs
  | [] => rfl
  | y :: xs => by
    have := inV_flat (x := x) (xs := xs)
    unfold inV inW at this ⊢
    rw [List.map_cons, List.any_cons, List.any_cons, this]
def seqOf (h : MH) : W → Option (List W)
  | .tup xs => some xs
  | .ref n => lstAt h n
  | _ => none
def hasW (x y : W) (h : MH) : Option Bool := match y with
  | .str j => match x with
    | .str i => some (occurs i j)
    | _ => none
  | y => match seqOf h y with
    | some xs => if (flatW x && xs.all flatW) = true then some (inW x xs) else none
    | none => none
def gIn : G2 := fun x y h => (hasW x y h).map fun b => (.bl b, h)
def gNotIn : G2 := fun x y h => (hasW x y h).map fun b => (.bl (!b), h)
def rIn2 (K : PySem.W.Frag) : R2 := fun x y H Q => (∃ i j, x = V.str i ∧ y = V.str j ∧ Q (.bl (!(Builtin.Str.occurrences j i 0 j.length 1).isEmpty)) H) ∨ rIn K false x y H Q
def rNotIn2 (K : PySem.W.Frag) : R2 := fun x y H Q => (∃ i j, x = V.str i ∧ y = V.str j ∧ Q (.bl (!(!(Builtin.Str.occurrences j i 0 j.length 1).isEmpty))) H) ∨ rIn K true x y H Q
theorem op_in2 {X : Cx} : OpR X (compareOp .In) (rIn2 X.K) := op_in_str.or op_in_seq
theorem op_notin2 {X : Cx} : OpR X (compareOp .NotIn) (rNotIn2 X.K) := op_notin_str.or op_notIn_seq
theorem seqOf_ok {m h H y vy xs} (S : Sm K m h H) (R : Rep K m H y vy) (e : seqOf h y = some xs) : ∃ p vs, vy = .ref p ∧ (SqL K H p vs ∨ SqT K H p vs) ∧ Reps K m H xs vs := by
  cases y <;> try (simp [seqOf] at e; done)
  · simp [seqOf] at e
    subst e
    obtain ⟨a, vs, rfl, t, rs⟩ := R
    exact ⟨a, vs, rfl, .inr t, rs⟩
  · simp [seqOf] at e
    obtain ⟨a, vs, rfl, _, t, rs⟩ := S.lsAt e R
    exact ⟨a, vs, rfl, .inl t, rs⟩
theorem has_ok {m h H x y vx vy b} (S : Sm K m h H) (R1 : Rep K m H x vx) (R2 : Rep K m H y vy) (e : hasW x y h = some b) :
    (∃ i j, vx = V.str i ∧ vy = V.str j ∧ b = occurs i j) ∨ ∃ p xs, vy = .ref p ∧ (SqL K H p xs ∨ SqT K H p xs) ∧ flatV vx = true ∧ xs.all flatV = true ∧ b = inV vx xs := by
  unfold hasW at e
  split at e
  · split at e
    · cases e
      exact .inl ⟨_, _, R1, R2, rfl⟩
    · cases e
  · split at e
    · next xs e1 =>
      split at e
      · next c =>
        simp only [Bool.and_eq_true] at c
        cases e
        obtain ⟨p, vs, rfl, t, rs⟩ := seqOf_ok S R2 e1
        have f : ∀ w : W, flatW w = true → flatV (flV w) = true := fun w hw => by
          cases w <;> first | rfl | cases hw
        have ev := rs.flat c.2
        refine .inr ⟨p, vs, rfl, t, ?_, ?_, ?_⟩
        · rw [R1.flat c.1]; exact f _ c.1
        · rw [ev, List.all_map, List.all_eq_true]
          exact fun w hw => f w (List.all_eq_true.mp c.2 w hw)
        · rw [ev, R1.flat c.1, inV_flat]
      · cases e
    · cases e
theorem i_in : Imp2 K gIn (rIn2 K) := by
  intro m h H x y vx vy w h' S R1 R2 e Q q
  unfold gIn at e
  cases eb : hasW x y h with
  | none => rw [eb] at e; cases e
  | some b =>
    rw [eb] at e; cases e
    rcases has_ok S R1 R2 eb with ⟨i, j, rfl, rfl, rfl⟩ | ⟨p, xs, rfl, t, f1, f2, rfl⟩
    · exact .inl ⟨i, j, rfl, rfl, q m H _ Le.refl S rfl⟩
    · exact .inr ⟨p, xs, rfl, t, f1, f2, q m H _ Le.refl S rfl⟩
theorem i_notin : Imp2 K gNotIn (rNotIn2 K) := by
  intro m h H x y vx vy w h' S R1 R2 e Q q
  unfold gNotIn at e
  cases eb : hasW x y h with
  | none => rw [eb] at e; cases e
  | some b =>
    rw [eb] at e; cases e
    rcases has_ok S R1 R2 eb with ⟨i, j, rfl, rfl, rfl⟩ | ⟨p, xs, rfl, t, f1, f2, rfl⟩
    · exact .inl ⟨i, j, rfl, rfl, q m H _ Le.refl S rfl⟩
    · exact .inr ⟨p, xs, rfl, t, f1, f2, q m H _ Le.refl S rfl⟩
/-- is None, is True .. -/
def isNon : W → Bool
  | .non => true
  | _ => false
theorem isNon_ok {m H x vx} (R : Rep K m H x vx) : isNon x = decide (vx = .non) := by
  cases x with
  | non => rw [show vx = .non from R]; rfl
  | bl b => rw [show vx = _ from R]; rfl
  | int b => rw [show vx = _ from R]; rfl
  | str b => rw [show vx = _ from R]; rfl
  | tup b => obtain ⟨a, vs, rfl, _⟩ := R; rfl
  | ref b => obtain ⟨a, _, rfl⟩ := R; rfl
def isW (x y : W) : Option Bool := match y with
  | .non => some (isNon x)
  | .bl b => match x with
    | .bl a => some (decide (a = b))
    | _ => none
  | _ => none
def gIs : G2 := fun x y h => (isW x y).map fun b => (.bl b, h)
def gIsNot : G2 := fun x y h => (isW x y).map fun b => (.bl (!b), h)
def rIs2 : R2 := fun x y H Q => (y = V.non ∧ Q (.bl (decide (x = V.non))) H) ∨ (∃ a b, x = V.bl a ∧ y = V.bl b ∧ Q (V.bl (decide (a = b))) H)
def rIsNot2 : R2 := fun x y H Q => (y = V.non ∧ Q (.bl (!decide (x = V.non))) H) ∨ (∃ a b, x = V.bl a ∧ y = V.bl b ∧ Q (V.bl (!decide (a = b))) H)
theorem op_is2 {X : Cx} : OpR X (compareOp .Is) rIs2 := op_isN.or op_is_bl
theorem op_isnot2 {X : Cx} : OpR X (compareOp .IsNot) rIsNot2 := op_notN.or op_isnot_bl
theorem i_is : Imp2 K gIs rIs2 := by
  intro m h H x y vx vy w h' S R1 R2 e Q q
  unfold gIs isW at e
  split at e
  · cases e
    rw [isNon_ok R1] at q
    exact .inl ⟨R2, q m H _ Le.refl S rfl⟩
  · split at e
    · cases e
      exact .inr ⟨_, _, R1, R2, q m H _ Le.refl S rfl⟩
    · cases e
  · cases e
theorem i_isnot : Imp2 K gIsNot rIsNot2 := by
  intro m h H x y vx vy w h' S R1 R2 e Q q
  unfold gIsNot isW at e
  split at e
  · cases e
    rw [isNon_ok R1] at q
    exact .inl ⟨R2, q m H _ Le.refl S rfl⟩
  · split at e
    · cases e
      exact .inr ⟨_, _, R1, R2, q m H _ Le.refl S rfl⟩
    · cases e
  · cases e

/-! ### subscripts and slices -/
theorem ixN_lt {n : Nat} {i : Int} {j : Nat} (e : ixN n i = some j) : j < n := by
  unfold ixN at e
  split at e
  · split at e
    · cases e; omega
    · cases e
  · split at e
    · cases e; omega
    · cases e
theorem Reps.atI {m H xs vs i x} (r : Reps K m H xs vs) (e : L2.atI xs i = some x) : ∃ v, L2.atI vs i = some v ∧ Rep K m H x v := by
  unfold L2.atI at e ⊢
  rw [r.length]
  cases ej : ixN xs.length i with
  | none => rw [ej] at e; cases e
  | some j =>
    rw [ej] at e
    exact r.get e
def gIx : G2 := fun x y h => match y with
  | .int i => match x with
    | .str z => if szOk z.length = true then (L2.atI z.cps.toList i).map fun c => (.str ⟨#[c]⟩, h) else none
    | x => match seqOf h x with
      | some xs => (L2.atI xs i).map fun w => (w, h)
      | none => none
  | _ => none
theorem i_ix : Imp2 K gIx (rIx K) := by
  intro m h H x y vx vy w h' S R1 R2 e Q q
  unfold gIx at e
  split at e
  · next i =>
    split at e
    · next z =>
      split at e
      · next hz =>
        cases ec : L2.atI z.cps.toList i with
        | none => rw [ec] at e; cases e
        | some c =>
          rw [ec] at e; cases e
          exact .inr (.inr ⟨z, i, c, R1, R2, szOk_le hz, ec, q m H _ Le.refl S rfl⟩)
      · cases e
    · split at e
      · next xs e1 =>
        cases ec : L2.atI xs i with
        | none => rw [ec] at e; cases e
        | some c =>
          rw [ec] at e; cases e
          obtain ⟨p, vs, rfl, t, rs⟩ := seqOf_ok S R1 e1
          obtain ⟨v, ev, rv⟩ := rs.atI ec
          rcases t with t | t
          · exact .inl ⟨p, vs, i, v, rfl, R2, t, ev, q m H _ Le.refl S rv⟩
          · exact .inr (.inl ⟨p, vs, i, v, rfl, R2, t, ev, q m H _ Le.refl S rv⟩)
      · cases e
  · cases e
/-- xs[i] = v -/
def gSetIx : W → W → W → MH → Option MH := fun x y v h => match x, y with
  | .ref n, .int i => match lstM h n with
    | some xs => (ixN xs.length i).map fun j => h.set n (.lst (xs.set j v))
    | none => none
  | _, _ => none
theorem i_setIx : Imp3 K gSetIx rSetL := by
  intro m h H x y z vx vy vz h' S R1 R2 R3 e Q q
  unfold gSetIx at e
  split at e
  · next n i =>
    split at e
    · next xs e1 =>
      cases ej : ixN xs.length i with
      | none => rw [ej] at e; cases e
      | some j =>
        rw [ej] at e; cases e
        obtain ⟨a, vs, rfl, ea, t, rs⟩ := S.lst e1 R1
        have L : Le K m m H (upd H a (.lst (vs.set j vz))) := Le.upd t trivial
        exact ⟨a, vs, i, j, rfl, R2, t, by rw [rs.length]; exact ej, q m _ L (S.upd ea (lstM_some e1) rfl (show CellOk K m _ (.lst (xs.set j z)) a from ⟨_, upd_same, Reps.mono L _ _ (rs.set j R3)⟩) rfl)⟩
    · cases e
  · cases e
end

/-! ### slices -/
abbrev MO := Nat → MS → MH → Option (Option Int × MH)
def tMO (K : PySem.W.Frag) (f : MO) : TO := fun σ H Q => ∃ n s h m o h', In K m s h σ H ∧ f n s h = some (o, h') ∧ ∀ m' H', Le K m m' H H' → Sm K m' h' H' → Q o H'
theorem imp_po {X : Cx} {e : Option Expr} {t t' : TO} (p : PO X e t) (h : ∀ σ H Q, t' σ H Q → t σ H Q) : PO X e t' := ⟨fun pins s σ H Q I q => p.run pins s σ H Q I (h σ H Q q)⟩
def mNoPart : MO := fun _ _ h => some (none, h)
def mPart (f : M) : MO := fun n s h => match f n s h with
  | some (.int i, h1) => some (some i, h1)
  | _ => none
section
variable {X : Cx}
theorem mo_none : PO X none (tMO X.K mNoPart) := imp_po po_none fun σ H Q ⟨n, s, h, m, o, h', I, e, k⟩ => by
  cases e
  exact k m H Le.refl I.sm
theorem mo_some {e : Expr} {f : M} (p : PE X e (tM X.K f)) : PO X (some e) (tMO X.K (mPart f)) := imp_po (po_some p) fun σ H Q ⟨n, s, h, m, o, h', I, e, k⟩ => by
  unfold mPart at e
  split at e
  · next i h1 e1 =>
    cases e
    exact ⟨n, s, h, m, .int i, h', I, e1, fun m1 H1 v L1 S1 R1 => ⟨i, R1, k m1 H1 L1 S1⟩⟩
  · cases e
abbrev G3 := W → Option Int → Option Int → MH → Option (W × MH)
def ImpS (K : PySem.W.Frag) (g : G3) (r : V → Option Int → Option Int → Hp → VK → Prop) : Prop := ∀ m h H x lo hi vx w h', Sm K m h H → Rep K m H x vx → g x lo hi h = some (w, h') →
  ∀ Q : VK, (∀ m' H' v, Le K m m' H H' → Sm K m' h' H' → Rep K m' H' w v → Q v H') → r vx lo hi H Q
def mSl (g : G3) (f : M) (lo hi : MO) : M := fun n s h => match f n s h with
  | some (x, h1) => match lo n s h1 with
    | some (l, h2) => match hi n s h2 with
      | some (u, h3) => g x l u h3
      | none => none
    | none => none
  | none => none
theorem m_slice {e : Expr} {lo hi : Option Expr} {p2 pos : Pos} {r : V → Option Int → Option Int → Hp → VK → Prop} {g : G3} {f : M} {fl fh : MO} (hr : SlR X r) (hg : ImpS X.K g r) (he : PE X e (tM X.K f)) (hl : PO X lo (tMO X.K fl)) (hh : PO X hi (tMO X.K fh)) :
    PE X (.Subscript e (.Slice lo hi none p2) pos) (tM X.K (mSl g f fl fh)) := imp_pe (pe_slice hr he hl hh) fun σ H Q ⟨n, s, h, m, w, h', I, e, k⟩ => by
  unfold mSl at e
  split at e
  · next x h1 e1 =>
    split at e
    · next l h2 e2 =>
      split at e
      · next u h3 e3 =>
        refine ⟨n, s, h, m, x, h1, I, e1, fun m1 H1 v L1 S1 R1 => ⟨n, s, h1, m1, l, h2, I.le L1 S1, e2, fun m2 H2 L2 S2 => ⟨n, s, h2, m2, u, h3, (I.le L1 S1).le L2 S2, e3, fun m3 H3 L3 S3 => ?_⟩⟩⟩
        exact hg m3 h3 H3 x l u v w h' S3 (Rep.mono (L2.trans L3) _ _ R1) e Q fun m4 H4 z L4 S4 R4 => k m4 H4 z (L1.trans (L2.trans (L3.trans L4))) S4 R4
      · cases e
    · cases e
  · cases e
end
def cutW (xs : List W) (lo hi : Option Int) : List W := (xs.drop (HT.sIx xs.length 0 lo)).take (HT.sIx xs.length xs.length hi - HT.sIx xs.length 0 lo)
section
variable {K : PySem.W.Frag}
theorem Reps.cut {m H xs vs lo hi} (r : Reps K m H xs vs) : Reps K m H (cutW xs lo hi) (cutV vs lo hi) := by
  unfold cutW cutV
  rw [r.length]
  exact (r.drop _).take _
def gCut : G3 := fun x lo hi h => match x with
  | .str z => if szOk z.length = true then some (.str (cutS z lo hi), h) else none
  | .tup xs => some (.tup (cutW xs lo hi), h)
  | .ref n => match lstAt h n with
    | some xs => newL (cutW xs lo hi) h
    | none => none
  | _ => none
def rCut3 (K : PySem.W.Frag) : V → Option Int → Option Int → Hp → VK → Prop := fun x lo hi H Q => (rSlL K x lo hi H Q ∨ rSlS x lo hi H Q) ∨ rSlA K x lo hi H Q
theorem sl_cut3 {X : Cx} : SlR X (rCut3 X.K) := (sl_list.or sl_str).or sl_tupA
theorem i_cut : ImpS K gCut (rCut3 K) := by
  intro m h H x lo hi vx w h' S R e Q q
  unfold gCut at e
  split at e
  · split at e
    · next hz =>
      cases e
      exact .inl (.inr ⟨_, R, szOk_le hz, q m H _ Le.refl S rfl⟩)
    · cases e
  · cases e
    obtain ⟨a, vs, rfl, t, rs⟩ := R
    refine .inr ⟨a, vs, rfl, t, fun ⟨z1, z2⟩ => ?_, fun z p hp => ?_⟩
    · refine q m H _ Le.refl S ⟨a, vs, rfl, t, ?_⟩
      have := rs.cut (lo := lo) (hi := hi)
      have e2 : cutV vs lo hi = vs := by
        unfold cutV
        rw [z1, z2]
        simp
      rw [e2] at this
      exact this
    · exact q m _ _ (Le.newT hp) (S.newT hp) ⟨p, _, rfl, .inl (.inl upd_same), Reps.mono (Le.newT hp) _ _ rs.cut⟩
  · split at e
    · next xs e1 =>
      obtain ⟨a, vs, rfl, _, t, rs⟩ := S.lsAt e1 R
      refine .inl (.inl ⟨a, vs, rfl, t, fun p hp => ?_⟩)
      obtain ⟨l, S2, r⟩ := newL_ok S rs.cut e hp
      exact q _ _ _ l S2 r
    · cases e
  · cases e
end
end Mi

/-! Mi: what loops walk; built-in functions; methods. -/
namespace Mi
open PySem PySem.Spec PyProof.Rows L2

/-! ### walked: lists, tuples, texts, ranges, enumerate -/
section
variable {K : PySem.W.Frag} {m : List Addr} {H : Hp}
theorem it_list {n : Nat} {a : Addr} (ha : m[n]? = some a) : ItOk K m H (Itl K a) (.cell n) := fun m' H' h' L S i => by
  have ha' := L.pre _ _ ha
  have R : Rep K m' H' (.ref n) (.ref a) := ⟨a, ha', rfl⟩
  refine ⟨fun e => ?_, fun w e => ?_⟩
  · unfold Src.get at e
    cases q : lstAt h' n with
    | none => simp only [q] at e; cases e
    | some xs =>
      simp only [q, Option.map_some, Option.some.injEq] at e
      obtain ⟨b, vs, eb, _, t, rs⟩ := S.lsAt q R
      cases eb
      exact ⟨vs, t, by rw [rs.length]; exact List.getElem?_eq_none_iff.mp e⟩
  · unfold Src.get at e
    cases q : lstAt h' n with
    | none => simp only [q] at e; cases e
    | some xs =>
      simp only [q, Option.map_some, Option.some.injEq] at e
      obtain ⟨b, vs, eb, _, t, rs⟩ := S.lsAt q R
      cases eb
      obtain ⟨v, ev, rv⟩ := rs.get e
      refine ⟨⟨vs, v, t, ev⟩, fun x H2 y => ?_⟩
      obtain ⟨rfl, y⟩ := y
      have := Option.some.inj ((y vs t).symm.trans ev)
      subst this
      exact ⟨Le.refl, S, rv⟩
theorem it_tup {a : Addr} {xs : List W} {vs : List V} (t : SqT K H a vs) (r : Reps K m H xs vs) : ItOk K m H (Itt K a) (.items xs) := fun m' H' h' L S i => by
  have t' := L.tup _ _ t
  have r' := Reps.mono L _ _ r
  refine ⟨fun e => ?_, fun w e => ?_⟩
  · simp only [Src.get, Option.some.injEq] at e
    exact ⟨vs, t', by rw [r'.length]; exact List.getElem?_eq_none_iff.mp e⟩
  · simp only [Src.get, Option.some.injEq] at e
    obtain ⟨v, ev, rv⟩ := r'.get e
    refine ⟨⟨vs, v, t', ev⟩, fun x H2 y => ?_⟩
    obtain ⟨rfl, y⟩ := y
    have := Option.some.inj ((y vs t').symm.trans ev)
    subst this
    exact ⟨Le.refl, S, rv⟩
def signs (z : Str) : List W := z.cps.toList.map fun c => .str ⟨#[c]⟩
theorem signs_get {z : Str} {i : Nat} : (signs z)[i]? = (z.cps[i]?).map fun c => .str ⟨#[c]⟩ := by
  unfold signs
  rw [List.getElem?_map, Array.getElem?_toList]
theorem it_str {z : Str} : ItOk K m H (Its z) (.items (signs z)) := fun m' H' h' L S i => by
  refine ⟨fun e => ?_, fun w e => ?_⟩
  · simp only [Src.get, Option.some.injEq] at e
    have := List.getElem?_eq_none_iff.mp e
    show z.cps.size ≤ i
    simpa [signs] using this
  · simp only [Src.get, Option.some.injEq] at e
    rw [signs_get] at e
    cases q : z.cps[i]? with
    | none => rw [q] at e; cases e
    | some c =>
      rw [q] at e; cases e
      refine ⟨?_, fun x H2 y => ?_⟩
      · show i < z.cps.size
        by_cases hi : i < z.cps.size
        · exact hi
        · rw [Array.getElem?_eq_none (by omega)] at q; cases q
      · obtain ⟨rfl, c', ec, rfl⟩ := y
        rw [q] at ec; cases ec
        exact ⟨Le.refl, S, rfl⟩
def rangeW (lo : Int) (n : Nat) : List W := (List.range n).map fun i : Nat => W.int (lo + (i : Int))
theorem it_range {lo : Int} {n : Nat} : ItOk K m H (Itr lo n) (.items (rangeW lo n)) := fun m' H' h' L S i => by
  refine ⟨fun e => ?_, fun w e => ?_⟩
  · simp only [Src.get, Option.some.injEq] at e
    have := List.getElem?_eq_none_iff.mp e
    show n ≤ i
    simpa [rangeW] using this
  · simp only [Src.get, Option.some.injEq, rangeW, List.getElem?_map] at e
    by_cases hi : i < n
    · rw [List.getElem?_range hi] at e
      cases e
      refine ⟨hi, fun x H2 y => ?_⟩
      obtain ⟨rfl, rfl⟩ := y
      exact ⟨Le.refl, S, rfl⟩
    · rw [List.getElem?_eq_none (by simp; omega)] at e
      cases e
theorem it_enum {n : Nat} {a : Addr} (ha : m[n]? = some a) : ItOk K m H (Ite K a) (.enum n) := fun m' H' h' L S i => by
  have ha' := L.pre _ _ ha
  have R : Rep K m' H' (.ref n) (.ref a) := ⟨a, ha', rfl⟩
  refine ⟨fun e => ?_, fun w e => ?_⟩
  · unfold Src.get at e
    cases q : lstAt h' n with
    | none => simp only [q] at e; cases e
    | some xs =>
      simp only [q, Option.map_some, Option.some.injEq, Option.map_eq_none_iff] at e
      obtain ⟨b, vs, eb, _, t, rs⟩ := S.lsAt q R
      cases eb
      exact ⟨vs, t, by rw [rs.length]; exact List.getElem?_eq_none_iff.mp e⟩
  · unfold Src.get at e
    cases q : lstAt h' n with
    | none => simp only [q] at e; cases e
    | some xs =>
      simp only [q, Option.map_some, Option.some.injEq, Option.map_eq_some_iff] at e
      obtain ⟨u, e, rfl⟩ := e
      obtain ⟨b, vs, eb, _, t, rs⟩ := S.lsAt q R
      cases eb
      obtain ⟨v, ev, rv⟩ := rs.get e
      refine ⟨⟨vs, v, t, ev⟩, fun x H2 y => ?_⟩
      obtain ⟨T, z, rfl, hT, rfl, y⟩ := y
      have := Option.some.inj ((y vs t).symm.trans ev)
      subst this
      refine ⟨Le.newT hT, S.newT hT, ⟨T, _, rfl, .inl (.inl upd_same), ?_⟩⟩
      exact Reps.mono (Le.newT hT) _ _ ⟨_, _, rfl, rfl, Reps.one rv⟩
end

section
variable {X : Cx} {tg e : Expr} {pos : Pos}
theorem pi_or {t t' : TI} (p : PI X tg e t) (q : PI X tg e t') : PI X tg e (fun σ H R => t σ H R ∨ t' σ H R) := ⟨fun pins s σ H R I h => h.elim (p.run pins s σ H R I) (q.run pins s σ H R I)⟩
/-- a list, a tuple, a text -/
def miSeq (f : M) : MI := fun n s h => match f n s h with
  | some (.ref k, h1) => match lstAt h1 k with
    | some _ => some (.cell k, h1)
    | none => none
  | some (.tup xs, h1) => some (.items xs, h1)
  | some (.str z, h1) => some (.items (signs z), h1)
  | _ => none
theorem mi_seq {f : M} (p : PE X e (tM X.K f)) : PI X tg e (tMI X.K (miSeq f)) := imp_pi (pi_or (pi_or (pi_list p) (pi_tup p)) (pi_str p)) fun σ H R ⟨n, s, h, m, src, h', I, e, k⟩ => by
  unfold miSeq at e
  split at e
  · next k1 h1 e1 =>
    split at e
    · next ys e2 =>
      cases e
      refine .inl (.inl ⟨n, s, h, m, _, h', I, e1, fun m1 H1 v L1 S1 R1 => ?_⟩)
      obtain ⟨a, vs, rfl, ea, t, rs⟩ := S1.lsAt e2 R1
      exact ⟨a, rfl, ⟨vs, t⟩, k m1 H1 _ L1 S1 (it_list ea)⟩
    · cases e
  · next xs h1 e1 =>
    cases e
    refine .inl (.inr ⟨n, s, h, m, _, h', I, e1, fun m1 H1 v L1 S1 R1 => ?_⟩)
    obtain ⟨a, vs, rfl, t, rs⟩ := R1
    exact ⟨a, rfl, ⟨vs, t⟩, k m1 H1 _ L1 S1 (it_tup t rs)⟩
  · next z h1 e1 =>
    cases e
    exact .inr ⟨n, s, h, m, _, h', I, e1, fun m1 H1 v L1 S1 R1 => ⟨z, R1, k m1 H1 _ L1 S1 it_str⟩⟩
  · cases e
def small62 (j : Int) : Bool := decide (-(2 ^ 62) ≤ j) && decide (j < 2 ^ 62)
theorem small62_ok {j : Int} (e : small62 j = true) : -(2 ^ 62) ≤ j ∧ j < 2 ^ 62 := by
  unfold small62 at e
  simp only [Bool.and_eq_true, decide_eq_true_eq] at e
  exact e
def miRange1 (f : M) : MI := fun n s h => match f n s h with
  | some (.int j, h1) => if small62 j = true then some (.items (rangeW 0 j.toNat), h1) else none
  | _ => none
theorem mi_range1 {a : Expr} {f : M} {p : Pos} (hg : Gl X "range") (hm : X.mg "range" = none) (ha : PE X a (tM X.K f)) (he : starEach [a] X.env = (false, eval a X.env) :: starEach [] X.env := by rfl)
    (he' : starEach [a] X.env = [(false, eval a X.env)] := by rfl) : PI X tg (.Call (.Name "range" p) [a] [] pos) (tMI X.K (miRange1 f)) := imp_pi (pi_range1 hg hm (pa_cons ha pa_nil he) he') fun σ H R ⟨n, s, h, m, src, h', I, e, k⟩ => by
  unfold miRange1 at e
  split at e
  · next j h1 e1 =>
    split at e
    · next c =>
      cases e
      exact ⟨n, s, h, m, _, h', I, e1, fun m1 H1 v L1 S1 R1 => ⟨j, by rw [show v = _ from R1], (small62_ok c).1, (small62_ok c).2, k m1 H1 _ L1 S1 it_range⟩⟩
    · cases e
  · cases e
def miRange2 (f g : M) : MI := fun n s h => match f n s h with
  | some (.int i, h1) => match g n s h1 with
    | some (.int j, h2) => if (small62 i && small62 j) = true then some (.items (rangeW i (j - i).toNat), h2) else none
    | _ => none
  | _ => none
theorem mi_range2 {a b : Expr} {f g : M} {p : Pos} (hg : Gl X "range") (hm : X.mg "range" = none) (ha : PE X a (tM X.K f)) (hb : PE X b (tM X.K g)) (he : starEach [a, b] X.env = (false, eval a X.env) :: starEach [b] X.env := by rfl)
    (heb : starEach [b] X.env = (false, eval b X.env) :: starEach [] X.env := by rfl)
    (he' : starEach [a, b] X.env = [(false, eval a X.env), (false, eval b X.env)] := by rfl) (he2 : starEach [b] X.env = [(false, eval b X.env)] := by rfl) : PI X tg (.Call (.Name "range" p) [a, b] [] pos) (tMI X.K (miRange2 f g)) := imp_pi (pi_range2 hg hm (pa_cons ha (pa_cons hb pa_nil heb) he) he' he2) fun σ H R ⟨n, s, h, m, src, h', I, e, k⟩ => by
  unfold miRange2 at e
  split at e
  · next i h1 e1 =>
    split at e
    · next j h2 e2 =>
      split at e
      · next c =>
        cases e
        simp only [Bool.and_eq_true] at c
        refine ⟨n, s, h, m, _, h1, I, e1, fun m1 H1 v L1 S1 R1 => ⟨n, s, h1, m1, _, h', I.le L1 S1, e2, fun m2 H2 u L2 S2 R2 => ⟨i, j, by rw [show v = _ from R1, show u = _ from R2], ⟨(small62_ok c.1).1, (small62_ok c.1).2, (small62_ok c.2).1, (small62_ok c.2).2⟩, ?_⟩⟩⟩
        exact k m2 H2 _ (L1.trans L2) S2 it_range
      · cases e
    · cases e
  · cases e
def miEnum (f : M) : MI := fun n s h => match f n s h with
  | some (.ref k, h1) => match lstAt h1 k with
    | some _ => some (.enum k, h1)
    | none => none
  | _ => none
theorem mi_enum {a : Expr} {f : M} {p tpos : Pos} {elts : List Expr} {kk : Nat} (hg : Gl X "enumerate") (hm : X.mg "enumerate" = none) (ha : PE X a (tM X.K f)) (he : starEach [a] X.env = (false, eval a X.env) :: starEach [] X.env := by rfl)
    (he' : starEach [a] X.env = [(false, eval a X.env)] := by rfl) : PI X (.Tuple elts kk tpos) (.Call (.Name "enumerate" p) [a] [] pos) (tMI X.K (miEnum f)) := imp_pi (pi_enum hg hm (pa_cons ha pa_nil he) he') fun σ H R ⟨n, s, h, m, src, h', I, e, k⟩ => by
  unfold miEnum at e
  split at e
  · next k1 h1 e1 =>
    split at e
    · next ys e2 =>
      cases e
      refine ⟨n, s, h, m, _, h', I, e1, fun m1 H1 v L1 S1 R1 => ?_⟩
      obtain ⟨a, vs, rfl, ea, t, rs⟩ := S1.lsAt e2 R1
      exact ⟨a, vs, rfl, t, k m1 H1 _ L1 S1 (it_enum ea)⟩
    · cases e
  · cases e
end

/-! ### built-in functions -/
section
variable {K : PySem.W.Frag}
def gLen : GA := fun xs h => match xs with
  | [.str z] => if szOk z.length = true then some (.int z.length, h) else none
  | [.tup ys] => some (.int ys.length, h)
  | [.ref n] => match lstAt h n with
    | some ys => some (.int ys.length, h)
    | none => none
  | _ => none
theorem i_len : ImpA K gLen (fun xs H Q => ∃ x n, xs = [x] ∧ LenV K x H n ∧ Q (.int n) H) := by
  intro m h H xs vs w h' S R e Q q
  unfold gLen at e
  split at e
  · next z =>
    split at e
    · next hz =>
      cases e
      obtain ⟨v, r, rfl, R1, R2⟩ := R
      rw [show r = [] from R2, show v = _ from R1]
      exact ⟨_, _, rfl, ⟨szOk_le hz, rfl⟩, q m H _ Le.refl S rfl⟩
    · cases e
  · next ys =>
    cases e
    obtain ⟨v, r, rfl, ⟨a, us, rfl, t, rs⟩, R2⟩ := R
    rw [show r = [] from R2]
    refine ⟨_, us.length, rfl, .inr ⟨us, t, rfl⟩, ?_⟩
    rw [rs.length]
    exact q m H _ Le.refl S rfl
  · split at e
    · next ys e1 =>
      cases e
      obtain ⟨v, r, rfl, R1, R2⟩ := R
      obtain ⟨a, us, rfl, _, t, rs⟩ := S.lsAt e1 R1
      rw [show r = [] from R2]
      refine ⟨_, us.length, rfl, .inl ⟨us, t, rfl⟩, ?_⟩
      rw [rs.length]
      exact q m H _ Le.refl S rfl
    · cases e
  · cases e
def gTwo (f : Int → Int → Int) : GA := fun xs h => match xs with
  | [.int i, .int j] => some (.int (f i j), h)
  | _ => none
theorem i_two {f : Int → Int → Int} : ImpA K (gTwo f) (fun xs H Q => ∃ i j, xs = [.int i, .int j] ∧ Q (.int (f i j)) H) := by
  intro m h H xs vs w h' S R e Q q
  unfold gTwo at e
  split at e
  · cases e
    obtain ⟨v, r, rfl, R1, v2, r2, rfl, R2, R3⟩ := R
    rw [show r2 = [] from R3, show v = _ from R1, show v2 = _ from R2]
    exact ⟨_, _, rfl, q m H _ Le.refl S rfl⟩
  · cases e
def gMax : GA := gTwo fun i j => if j > i then j else i
def gMin : GA := gTwo fun i j => if j < i then j else i
theorem i_max : ImpA K gMax (fun xs H Q => ∃ i j, xs = [.int i, .int j] ∧ Q (.int (if j > i then j else i)) H) := i_two
theorem i_min : ImpA K gMin (fun xs H Q => ∃ i j, xs = [.int i, .int j] ∧ Q (.int (if j < i then j else i)) H) := i_two
def gInt1 : GA := fun xs h => match xs with
  | [.int i] => some (.int i, h)
  | [.bl b] => some (.int (if b then 1 else 0), h)
  | _ => none
theorem i_int1 : ImpA K gInt1 (fun xs H Q => (∃ i, xs = [.int i] ∧ Q (.int i) H) ∨ ∃ k, xs = [.bl k] ∧ Q (.int (if k then 1 else 0)) H) := by
  intro m h H xs vs w h' S R e Q q
  unfold gInt1 at e
  split at e
  · cases e
    obtain ⟨v, r, rfl, R1, R2⟩ := R
    rw [show r = [] from R2, show v = _ from R1]
    exact .inl ⟨_, rfl, q m H _ Le.refl S rfl⟩
  · cases e
    obtain ⟨v, r, rfl, R1, R2⟩ := R
    rw [show r = [] from R2, show v = _ from R1]
    exact .inr ⟨_, rfl, q m H _ Le.refl S rfl⟩
  · cases e
/-- the text of an int, of few figures -/
def gStrI : GA := fun xs h => match xs with
  | [.int i] => if decide (i.natAbs.log2 < 1920) = true then some (.str (toString i), h) else none
  | _ => none
theorem i_strI : ImpA K gStrI (fun xs H Q => ∃ i, xs = [.int i] ∧ i.natAbs.log2 < 1920 ∧ Q (.str (toString i)) H) := by
  intro m h H xs vs w h' S R e Q q
  unfold gStrI at e
  split at e
  · split at e
    · next c =>
      cases e
      obtain ⟨v, r, rfl, R1, R2⟩ := R
      rw [show r = [] from R2, show v = _ from R1]
      exact ⟨_, rfl, of_decide_eq_true c, q m H _ Le.refl S rfl⟩
    · cases e
  · cases e
/-- list(t) of a list, a tuple, a text -/
def gList : GA := fun xs h => match xs with
  | [.str z] => newL (signs z) h
  | [.tup ys] => newL ys h
  | [.ref n] => match lstAt h n with
    | some ys => newL ys h
    | none => none
  | _ => none
theorem vals_of : ∀ {xs : List V} {us : List Value}, xs.length = us.length → (∀ (i : Nat) (x : V) (u : Value), xs[i]? = some x → us[i]? = some u → RelV x u) → Vals xs us
  | [], [], _, _ => .nil
  | [], _ :: _, hl, _ => by simp at hl
  | _ :: _, [], hl, _ => by simp at hl
  | x :: xs, u :: us, hl, h => .cons (h 0 x u rfl rfl) (vals_of (by simpa using hl) fun i y v e1 e2 => h (i + 1) y v (by simpa using e1) (by simpa using e2))
theorem call_listS {X : Cx} (hc : X.calm = true) : CallR X (.type "list") (fun xs H Q => ∃ z : Str, xs = [.str z] ∧ z.length ≤ sizeLine ∧ ∀ l, H l = none → Q (.ref l) (upd H l (.lst (z.cps.toList.map fun c => .str ⟨#[c]⟩)))) := by
  intro pins s σ H xs us Q I r h
  obtain ⟨z, rfl, hz, q⟩ := h
  obtain ⟨u, rfl, t, rfl⟩ := vals1 r
  refine PySem.call_list_str (I.ok.hd hc) z t (fun h' tk acc' c' kp e hi => ?_) (hn := hz)
  have hv : Vals (z.cps.toList.map fun c => V.str ⟨#[c]⟩) acc'.toList := by
    refine vals_of (by rw [List.length_map, Array.length_toList, Array.length_toList, hi.1]) fun i x u e1 e2 => ?_
    rw [Array.getElem?_toList] at e2
    obtain ⟨c, t2, ec, rfl⟩ := hi.2 i u e2
    rw [List.getElem?_map, Array.getElem?_toList, ec] at e1
    cases e1
    exact ⟨t2, rfl⟩
  refine ⟨.ref s.heap.objs.size, _, I.laid (t' := tk) kp (Nat.le_refl _) (show ObjOk X.prog X.w _ h' _ (.lst _) from ⟨by rw [List.length_map, Array.length_toList]; exact hz, acc'.toList, c', hv, by simpa using e⟩), rfl, q _ (I.hok.fresh (Nat.le_refl _))⟩
def rList3 (K : PySem.W.Frag) : List V → Hp → VK → Prop := fun xs H Q => (∃ p ys, xs = [.ref p] ∧ (SqL K H p ys ∨ SqT K H p ys) ∧ ∀ l, H l = none → Q (.ref l) (upd H l (.lst ys))) ∨ ∃ z : Str, xs = [.str z] ∧ z.length ≤ sizeLine ∧ ∀ l, H l = none → Q (.ref l) (upd H l (.lst (z.cps.toList.map fun c => .str ⟨#[c]⟩)))
theorem call_or {X : Cx} {f : Value} {r r' : List V → Hp → VK → Prop} (p : CallR X f r) (q : CallR X f r') : CallR X f (fun xs H Q => r xs H Q ∨ r' xs H Q) := fun pins s σ H xs us Q I v h => h.elim (p pins s σ H xs us Q I v) (q pins s σ H xs us Q I v)
theorem call_list3 {X : Cx} (hc : X.calm = true) : CallR X (.type "list") (rList3 X.K) := call_or call_list_of (call_listS hc)
theorem reps_signs {m H} {z : Str} : Reps K m H (signs z) (z.cps.toList.map fun c => .str ⟨#[c]⟩) := by
  unfold signs
  induction z.cps.toList with
  | nil => rfl
  | cons c r ih => exact ⟨_, _, rfl, rfl, ih⟩
theorem i_list : ImpA K gList (rList3 K) := by
  intro m h H xs vs w h' S R e Q q
  unfold gList at e
  split at e
  · next z =>
    obtain ⟨v, r, rfl, R1, R2⟩ := R
    rw [show r = [] from R2, show v = _ from R1]
    refine .inr ⟨z, rfl, ?_, fun p hp => ?_⟩
    · have := newL_sz e
      unfold signs at this
      rw [List.length_map, Array.length_toList] at this
      exact this
    · obtain ⟨l, S2, r⟩ := newL_ok S reps_signs e hp
      exact q _ _ _ l S2 r
  · next ys =>
    obtain ⟨v, r, rfl, ⟨a, us, rfl, t, rs⟩, R2⟩ := R
    rw [show r = [] from R2]
    refine .inl ⟨a, us, rfl, .inr t, fun p hp => ?_⟩
    obtain ⟨l, S2, r⟩ := newL_ok S rs e hp
    exact q _ _ _ l S2 r
  · split at e
    · next ys e1 =>
      obtain ⟨v, r, rfl, R1, R2⟩ := R
      obtain ⟨a, us, rfl, _, t, rs⟩ := S.lsAt e1 R1
      rw [show r = [] from R2]
      refine .inl ⟨a, us, rfl, .inl t, fun p hp => ?_⟩
      obtain ⟨l, S2, r⟩ := newL_ok S rs e hp
      exact q _ _ _ l S2 r
    · cases e
  · cases e
def gTuple : GA := fun xs h => match xs with
  | [.tup ys] => some (.tup ys, h)
  | [.ref n] => match lstAt h n with
    | some ys => some (.tup ys, h)
    | none => none
  | _ => none
theorem i_tuple : ImpA K gTuple (fun xs H Q => ∃ p ys, xs = [.ref p] ∧ ((SqL K H p ys ∧ ∀ l, H l = none → Q (.ref l) (upd H l (.tup ys))) ∨ (SqT K H p ys ∧ Q (.ref p) H))) := by
  intro m h H xs vs w h' S R e Q q
  unfold gTuple at e
  split at e
  · next ys =>
    cases e
    obtain ⟨v, r, rfl, ⟨a, us, rfl, t, rs⟩, R2⟩ := R
    rw [show r = [] from R2]
    exact ⟨a, us, rfl, .inr ⟨t, q m H _ Le.refl S ⟨a, us, rfl, t, rs⟩⟩⟩
  · split at e
    · next ys e1 =>
      cases e
      obtain ⟨v, r, rfl, R1, R2⟩ := R
      obtain ⟨a, us, rfl, _, t, rs⟩ := S.lsAt e1 R1
      rw [show r = [] from R2]
      refine ⟨a, us, rfl, .inl ⟨t, fun p hp => ?_⟩⟩
      exact q m _ _ (Le.newT hp) (S.newT hp) ⟨p, _, rfl, .inl (.inl upd_same), Reps.mono (Le.newT hp) _ _ rs⟩
    · cases e
  · cases e
end

/-! ### methods -/
abbrev GM := W → List W → MH → Option (W × MH)
def ImpM (K : PySem.W.Frag) (g : GM) (r : V → List V → Hp → VK → Prop) : Prop := ∀ m h H x xs vx vs w h', Sm K m h H → Rep K m H x vx → Reps K m H xs vs → g x xs h = some (w, h') →
  ∀ Q : VK, (∀ m' H' v, Le K m m' H H' → Sm K m' h' H' → Rep K m' H' w v → Q v H') → r vx vs H Q
def mM0 (g : GM) (fo : M) : M := fun n s h => andThen (fo n s h) fun x h1 => match x with
  | .str z => g (.str z) [] h1
  | _ => none
def mM1 (g : GM) (fo fe : M) : M := fun n s h => andThen (fo n s h) fun x h1 => match x with
  | .str z => andThen (fe n s h1) fun y h2 => g (.str z) [y] h2
  | _ => none
def isLst (x : W) (h : MH) : Bool := match x with
  | .ref n => (lstAt h n).isSome
  | _ => false
def mML0 (g : GM) (fo : M) : M := fun n s h => andThen (fo n s h) fun x h1 => if isLst x h1 = true then g x [] h1 else none
def mML (g : GM) (fo : M) (fr : MA) : M := fun n s h => andThen (fo n s h) fun x h1 => if isLst x h1 = true then andThen (fr n s h1) fun xs h2 => g x xs h2 else none
section
variable {X : Cx} {o e : Expr} {fo fe : M} {id : String} {name : Str} {apos pos cpos : Pos} {r : V → List V → Hp → VK → Prop} {g : GM}
theorem m_m0 (slot : Slot "str" name id) (ty : typeOf (.builtin id) = pure (.type "method_descriptor")) (rule : MtR X id r) (hg : ImpM X.K g r) (ho : PE X o (tM X.K fo)) (hb : attributeBase o name X.env (eval o X.env) = eval o X.env := by rfl) (hl : (apos.endLine == pos.line) = true := by rfl) :
    PE X (.Call (.Attribute o name apos) [] [] pos) (tM X.K (mM0 g fo)) := imp_pe (pe_m0 slot ty rule ho hb hl) fun σ H Q ⟨n, s, h, m, w, h', I, e, k⟩ => by
  obtain ⟨x, h1, e1, e⟩ := andThen_some e
  cases x <;> try (simp at e; done)
  refine ⟨n, s, h, m, _, h1, I, e1, fun m1 H1 v L1 S1 R1 => ⟨⟨_, R1⟩, ?_⟩⟩
  exact hg m1 h1 H1 _ [] v [] w h' S1 R1 rfl e Q fun m2 H2 z L2 S2 R2 => k m2 H2 z (L1.trans L2) S2 R2
theorem m_m1 (slot : Slot "str" name id) (ty : typeOf (.builtin id) = pure (.type "method_descriptor")) (rule : MtR X id r) (hg : ImpM X.K g r) (ho : PE X o (tM X.K fo)) (he : PE X e (tM X.K fe)) (hs : starEach [e] X.env = [(false, eval e X.env)] := by rfl) (hb : attributeBase o name X.env (eval o X.env) = eval o X.env := by rfl) (hl : (apos.endLine == pos.line) = true := by rfl) :
    PE X (.Call (.Attribute o name apos) [e] [] pos) (tM X.K (mM1 g fo fe)) := imp_pe (pe_m1 slot ty rule ho he hs hb hl) fun σ H Q ⟨n, s, h, m, w, h', I, e, k⟩ => by
  obtain ⟨x, h1, e1, e⟩ := andThen_some e
  cases x <;> try (simp at e; done)
  obtain ⟨y, h2, e2, e⟩ := andThen_some e
  refine ⟨n, s, h, m, _, h1, I, e1, fun m1 H1 v L1 S1 R1 => ⟨⟨_, R1⟩, ⟨n, s, h1, m1, y, h2, I.le L1 S1, e2, fun m2 H2 u L2 S2 R2 => ?_⟩⟩⟩
  exact hg m2 h2 H2 _ [y] v [u] w h' S2 (Rep.mono L2 _ _ R1) (Reps.one R2) e Q fun m3 H3 z L3 S3 R3 => k m3 H3 z (L1.trans (L2.trans L3)) S3 R3
theorem isLst_ty {m h H x v} (S : Sm X.K m h H) (R : Rep X.K m H x v) (e : isLst x h = true) : tyV X.K "list" v H := by
  cases x <;> try (simp [isLst] at e; done)
  next n =>
    simp only [isLst] at e
    cases q : lstAt h n with
    | none => rw [q] at e; cases e
    | some xs =>
      obtain ⟨a, vs, rfl, _, t, _⟩ := S.lsAt q R
      exact .inl ⟨rfl, vs, t⟩
theorem m_ml0 (pa : PlainAttrs "list") (slot : Slot "list" name id) (ty : typeOf (.builtin id) = pure (.type "method_descriptor")) (rule : MtR X id r) (hg : ImpM X.K g r) (ho : PE X o (tM X.K fo)) (hb : attributeBase o name X.env (eval o X.env) = eval o X.env := by rfl) (hl : (apos.endLine == cpos.line) = true := by rfl) :
    PE X (.Call (.Attribute o name apos) [] [] cpos) (tM X.K (mML0 g fo)) := imp_pe (pe_bm0 pa slot ty rule ho hb hl) fun σ H Q ⟨n, s, h, m, w, h', I, e, k⟩ => by
  obtain ⟨x, h1, e1, e⟩ := andThen_some e
  split at e
  · next c =>
    refine ⟨n, s, h, m, _, h1, I, e1, fun m1 H1 v L1 S1 R1 => ⟨isLst_ty S1 R1 c, ?_⟩⟩
    exact hg m1 h1 H1 _ [] v [] w h' S1 R1 rfl e Q fun m2 H2 z L2 S2 R2 => k m2 H2 z (L1.trans L2) S2 R2
  · cases e
end
theorem m_ml {X : Cx} {o e : Expr} {es : List Expr} {fo : M} {fr : MA} {name : Str} {apos cpos : Pos} {r : V → List V → Hp → VK → Prop} {g : GM} (hg : ImpM X.K g r)
    (h : PE X (.Call (.Attribute o name apos) (e :: es) [] cpos) (tBM X.K "list" r (tM X.K fo) (tMA X.K fr))) : PE X (.Call (.Attribute o name apos) (e :: es) [] cpos) (tM X.K (mML g fo fr)) := imp_pe h fun σ H Q ⟨n, s, h, m, w, h', I, e, k⟩ => by
  obtain ⟨x, h1, e1, e⟩ := andThen_some e
  split at e
  · next c =>
    obtain ⟨xs, h2, e2, e⟩ := andThen_some e
    refine ⟨n, s, h, m, _, h1, I, e1, fun m1 H1 v L1 S1 R1 => ⟨isLst_ty S1 R1 c, ⟨n, s, h1, m1, xs, h2, I.le L1 S1, e2, fun m2 H2 us L2 S2 R2 => ?_⟩⟩⟩
    exact hg m2 h2 H2 _ xs v us w h' S2 (Rep.mono L2 _ _ R1) R2 e Q fun m3 H3 z L3 S3 R3 => k m3 H3 z (L1.trans (L2.trans L3)) S3 R3
  · cases e
section
variable {K : PySem.W.Frag}
/-- a text's method without arguments, with one -/
def gS0 (C : Str → Bool) (f : Str → W) : GM := fun x xs h => match x, xs with
  | .str a, [] => if C a = true then some (f a, h) else none
  | _, _ => none
theorem i_s0 {C : Str → Bool} {P : Str → Prop} {f : Str → W} {g : Str → V} (hC : ∀ a, C a = true → P a) (hf : ∀ a, flatW (f a) = true ∧ flV (f a) = g a) : ImpM K (gS0 C f) (fun x xs H Q => ∃ a, x = .str a ∧ xs = [] ∧ P a ∧ Q (g a) H) := by
  intro m h H x xs vx vs w h' S R1 R2 e Q q
  unfold gS0 at e
  split at e
  · split at e
    · next c =>
      cases e
      refine ⟨_, R1, R2, hC _ c, ?_⟩
      rw [← (hf _).2]
      exact q m H _ Le.refl S (Rep.ofFlat (hf _).1)
    · cases e
  · cases e
def gS1 (f : Str → Str → W) : GM := fun x xs h => match x, xs with
  | .str a, [.str b] => some (f a b, h)
  | _, _ => none
theorem i_s1 {f : Str → Str → W} {g : Str → Str → V} (hf : ∀ a b, flatW (f a b) = true ∧ flV (f a b) = g a b) : ImpM K (gS1 f) (fun x xs H Q => ∃ a b, x = .str a ∧ xs = [.str b] ∧ Q (g a b) H) := by
  intro m h H x xs vx vs w h' S R1 R2 e Q q
  unfold gS1 at e
  split at e
  · cases e
    obtain ⟨v, r, rfl, R2, R3⟩ := R2
    rw [show r = [] from R3, show v = _ from R2]
    refine ⟨_, _, R1, rfl, ?_⟩
    rw [← (hf _ _).2]
    exact q m H _ Le.refl S (Rep.ofFlat (hf _ _).1)
  · cases e
def gFind : GM := gS1 fun a b => .int (Txt.find a b)
def gStarts : GM := gS1 fun a b => .bl (Txt.startswith a b)
theorem i_find : ImpM K gFind (fun x xs H Q => ∃ a b, x = .str a ∧ xs = [.str b] ∧ Q (.int (Txt.find a b)) H) := i_s1 fun _ _ => ⟨rfl, rfl⟩
theorem i_starts : ImpM K gStarts (fun x xs H Q => ∃ a b, x = .str a ∧ xs = [.str b] ∧ Q (.bl (Txt.startswith a b)) H) := i_s1 fun _ _ => ⟨rfl, rfl⟩
def gUpper : GM := gS0 (fun a => decide (a.length ≤ 5592405)) fun a => .str (Txt.upper a)
theorem i_upper : ImpM K gUpper (fun x xs H Q => ∃ a, x = .str a ∧ xs = [] ∧ a.length ≤ 5592405 ∧ Q (.str (Txt.upper a)) H) := i_s0 (fun a c => of_decide_eq_true c) fun _ => ⟨rfl, rfl⟩
def gAsk (f : Str → Bool) : GM := gS0 (fun _ => true) fun a => .bl (f a)
theorem i_ask {f : Str → Bool} : ImpM K (gAsk f) (fun x xs H Q => ∃ a, x = .str a ∧ xs = [] ∧ True ∧ Q (.bl (f a)) H) := i_s0 (fun _ _ => trivial) fun _ => ⟨rfl, rfl⟩
def gPartition : GM := fun x xs h => match x, xs with
  | .str a, [.str b] => if (!(b.length == 0) && szOk a.length) = true then some (.tup [.str (Txt.partition a b).1, .str (Txt.partition a b).2.1, .str (Txt.partition a b).2.2], h) else none
  | _, _ => none
theorem i_partition : ImpM K gPartition (fun x xs H Q => ∃ a b, x = .str a ∧ xs = [.str b] ∧ (b.length == 0) = false ∧ a.length ≤ sizeLine ∧ ∀ p, H p = none → Q (.ref p) (upd H p (.tup [.str (Txt.partition a b).1, .str (Txt.partition a b).2.1, .str (Txt.partition a b).2.2]))) := by
  intro m h H x xs vx vs w h' S R1 R2 e Q q
  unfold gPartition at e
  split at e
  · split at e
    · next c =>
      cases e
      simp only [Bool.and_eq_true, Bool.not_eq_true'] at c
      obtain ⟨v, r, rfl, R2, R3⟩ := R2
      rw [show r = [] from R3, show v = _ from R2]
      refine ⟨_, _, R1, rfl, c.1, szOk_le c.2, fun p hp => ?_⟩
      exact q m _ _ (Le.newT hp) (S.newT hp) ⟨p, _, rfl, .inl (.inl upd_same), ⟨_, _, rfl, rfl, _, _, rfl, rfl, _, _, rfl, rfl, rfl⟩⟩
    · cases e
  · cases e
def gSIndex : GM := fun x xs h => match x, xs with
  | .str a, [.str b] => match Builtin.Str.occurrences a b 0 a.length 1 with
    | i :: _ => some (.int (i : Nat), h)
    | [] => none
  | _, _ => none
theorem i_sindex : ImpM K gSIndex (fun x xs H Q => ∃ a b i rest, x = .str a ∧ xs = [.str b] ∧ Builtin.Str.occurrences a b 0 a.length 1 = i :: rest ∧ Q (.int (i : Nat)) H) := by
  intro m h H x xs vx vs w h' S R1 R2 e Q q
  unfold gSIndex at e
  split at e
  · split at e
    · next i rest e1 =>
      cases e
      obtain ⟨v, r, rfl, R2, R3⟩ := R2
      rw [show r = [] from R3, show v = _ from R2]
      exact ⟨_, _, i, rest, R1, rfl, e1, q m H _ Le.refl S rfl⟩
    · cases e
  · cases e
/-- a row of texts -/
def strsW : List W → Option (List Str)
  | [] => some []
  | .str z :: r => (strsW r).map (z :: ·)
  | _ :: _ => none
theorem strsW_ok : ∀ {xs : List W} {ys : List Str}, strsW xs = some ys → xs = ys.map .str
  | [], ys, e => by cases e; rfl
  | x :: r, ys, e => by
    cases x <;> try (simp [strsW] at e; done)
    next z =>
      simp only [strsW] at e
      cases q : strsW r with
      | none => rw [q] at e; cases e
      | some zs => rw [q] at e; cases e; rw [strsW_ok q]; rfl
theorem reps_strs {m H} : ∀ {ys : List Str} {vs : List V}, Reps K m H (ys.map .str) vs → vs = ys.map V.str
  | [], _, h => h
  | y :: ys, _, h => by
    obtain ⟨v, r, rfl, h1, h2⟩ := h
    rw [show v = _ from h1, reps_strs h2]; rfl
def gJoin : GM := fun x xs h => match x, xs with
  | .str a, [y] => match seqOf h y with
    | some zs => match strsW zs with
      | some ys => if decide ((ys.map (·.length)).sum + ys.length * a.length ≤ 16777216) = true then some (.str (Txt.join a ys), h) else none
      | none => none
    | none => none
  | _, _ => none
theorem i_join : ImpM K gJoin (fun x xs H Q => ∃ a p, ∃ ys : List Str, x = .str a ∧ xs = [.ref p] ∧ (SqL K H p (ys.map V.str) ∨ SqT K H p (ys.map V.str)) ∧ (ys.map (·.length)).sum + ys.length * a.length ≤ 16777216 ∧ Q (.str (Txt.join a ys)) H) := by
  intro m h H x xs vx vs w h' S R1 R2 e Q q
  unfold gJoin at e
  split at e
  · split at e
    · next zs e1 =>
      split at e
      · next ys e2 =>
        split at e
        · next c =>
          cases e
          obtain ⟨v, r, rfl, R2, R3⟩ := R2
          rw [show r = [] from R3]
          obtain ⟨p, us, rfl, t, rs⟩ := seqOf_ok S R2 e1
          rw [strsW_ok e2] at rs
          have := reps_strs rs
          subst this
          exact ⟨_, p, ys, R1, rfl, t, of_decide_eq_true c, q m H _ Le.refl S rfl⟩
        · cases e
      · cases e
    · cases e
  · cases e
/-! lists' methods -/
def gAppend : GM := fun x xs h => match x, xs with
  | .ref n, [y] => match lstM h n with
    | some ys => if decide (ys.length < 16777216) = true then some (.non, h.set n (.lst (ys ++ [y]))) else none
    | none => none
  | _, _ => none
theorem i_append : ImpM K gAppend rAppend := by
  intro m h H x xs vx vs w h' S R1 R2 e Q q
  unfold gAppend at e
  split at e
  · split at e
    · next ys e1 =>
      split at e
      · next c =>
        cases e
        obtain ⟨v, r, rfl, R2, R3⟩ := R2
        rw [show r = [] from R3]
        obtain ⟨a, us, rfl, ea, t, rs⟩ := S.lst e1 R1
        have L : Le K m m H (upd H a (.lst (us ++ [v]))) := Le.upd t trivial
        refine ⟨a, us, v, rfl, rfl, t, by rw [rs.length, sizeLine_eq]; exact of_decide_eq_true c, q m _ _ L (S.upd ea (lstM_some e1) rfl ?_ rfl) rfl⟩
        exact ⟨_, upd_same, (Reps.mono L _ _ rs).append (Reps.one (Rep.mono L _ _ R2))⟩
      · cases e
    · cases e
  · cases e
def gExtend : GM := fun x xs h => match x, xs with
  | .ref n, [.ref k] => match lstM h n, lstM h k with
    | some ys, some zs => if szOk (ys.length + zs.length) = true then some (.non, h.set n (.lst (ys ++ zs))) else none
    | _, _ => none
  | _, _ => none
theorem i_extend : ImpM K gExtend rExtend := by
  intro m h H x xs vx vs w h' S R1 R2 e Q q
  unfold gExtend at e
  split at e
  · split at e
    · next ys zs e1 e2 =>
      split at e
      · next c =>
        cases e
        obtain ⟨v, r, rfl, R2, R3⟩ := R2
        rw [show r = [] from R3]
        obtain ⟨a, us, rfl, ea, t, rs⟩ := S.lst e1 R1
        obtain ⟨b, us2, rfl, eb, t2, rs2⟩ := S.lst e2 R2
        have L : Le K m m H (upd H a (.lst (us ++ us2))) := Le.upd t trivial
        refine ⟨a, b, us, us2, rfl, rfl, t, t2, by rw [rs.length, rs2.length]; exact szOk_le c, q m _ _ L (S.upd ea (lstM_some e1) rfl ?_ rfl) rfl⟩
        exact ⟨_, upd_same, (Reps.mono L _ _ rs).append (Reps.mono L _ _ rs2)⟩
      · cases e
    · cases e
  · cases e
def gPop : GM := fun x xs h => match x, xs with
  | .ref n, [] => match lstM h n with
    | some ys => match ys[ys.length - 1]? with
      | some y => some (y, h.set n (.lst ys.dropLast))
      | none => none
    | none => none
  | _, _ => none
theorem i_pop : ImpM K gPop rPop := by
  intro m h H x xs vx vs w h' S R1 R2 e Q q
  unfold gPop at e
  split at e
  · split at e
    · next ys e1 =>
      split at e
      · next y e2 =>
        cases e
        obtain ⟨a, us, rfl, ea, t, rs⟩ := S.lst e1 R1
        obtain ⟨v, ev, rv⟩ := rs.get e2
        have L : Le K m m H (upd H a (.lst us.dropLast)) := Le.upd t trivial
        refine ⟨a, us, v, rfl, R2, t, by rw [rs.length]; exact ev, q m _ _ L (S.upd ea (lstM_some e1) rfl ?_ rfl) (Rep.mono L _ _ rv)⟩
        exact ⟨_, upd_same, (Reps.mono L _ _ rs).dropLast⟩
      · cases e
    · cases e
  · cases e
def gClear : GM := fun x xs h => match x, xs with
  | .ref n, [] => match lstM h n with
    | some _ => some (.non, h.set n (.lst []))
    | none => none
  | _, _ => none
theorem i_clear : ImpM K gClear rClear := by
  intro m h H x xs vx vs w h' S R1 R2 e Q q
  unfold gClear at e
  split at e
  · split at e
    · next ys e1 =>
      cases e
      obtain ⟨a, us, rfl, ea, t, rs⟩ := S.lst e1 R1
      have L : Le K m m H (upd H a (.lst [])) := Le.upd t trivial
      exact ⟨a, us, rfl, R2, t, q m _ _ L (S.upd ea (lstM_some e1) rfl (show CellOk K m _ (.lst []) a from ⟨[], upd_same, rfl⟩) rfl) rfl⟩
    · cases e
  · cases e
end
end Mi

/-! Mi: int of a text, repr, a def that is called where no repr is under way, the law's own call. -/
namespace Mi
open PySem PySem.Spec PyProof.Rows L2
theorem hu64 {k : Nat} {A : Around} (hr : Room k A) : A.units + 64 < cLine := by
  have := hr.un
  omega
section
variable {K : PySem.W.Frag}
def gInt3 : GA := fun xs h => match xs with
  | [.int i] => some (.int i, h)
  | [.bl b] => some (.int (if b then 1 else 0), h)
  | [.str z] => match PySem.intText? z with
    | some n => if decide (z.length ≤ 640) = true then some (.int n, h) else none
    | none => none
  | _ => none
def rInt3 : List V → Hp → VK → Prop := fun xs H Q => ((∃ i, xs = [.int i] ∧ Q (.int i) H) ∨ ∃ k, xs = [.bl k] ∧ Q (.int (if k then 1 else 0)) H) ∨ ∃ a n, xs = [.str a] ∧ PySem.intText? a = some n ∧ a.length ≤ 640 ∧ Q (.int n) H
theorem call_int3 {X : Cx} : CallR X (.type "int") rInt3 := call_or call_int1 call_int_str
theorem i_int3 : ImpA K gInt3 rInt3 := by
  intro m h H xs vs w h' S R e Q q
  unfold gInt3 at e
  split at e
  · cases e
    obtain ⟨v, r, rfl, R1, R2⟩ := R
    rw [show r = [] from R2, show v = _ from R1]
    exact .inl (.inl ⟨_, rfl, q m H _ Le.refl S rfl⟩)
  · cases e
    obtain ⟨v, r, rfl, R1, R2⟩ := R
    rw [show r = [] from R2, show v = _ from R1]
    exact .inl (.inr ⟨_, rfl, q m H _ Le.refl S rfl⟩)
  · split at e
    · next n e1 =>
      split at e
      · next c =>
        cases e
        obtain ⟨v, r, rfl, R1, R2⟩ := R
        rw [show r = [] from R2, show v = _ from R1]
        exact .inr ⟨_, n, rfl, e1, of_decide_eq_true c, q m H _ Le.refl S rfl⟩
      · cases e
    · cases e
  · cases e

/-! ### a constant of the module: a tuple of flat values -/
def sameV : W → Value → Bool
  | .non, .none => true
  | .bl a, .bool b => a == b
  | .int i, .int j _ => i == j
  | .str x, .str y _ => x == y
  | _, _ => false
def sameVs : List W → List Value → Bool
  | [], [] => true
  | x :: xs, v :: vs => sameV x v && sameVs xs vs
  | _, _ => false
theorem sameV_ok {m H} : ∀ {x : W} {v : Value}, sameV x v = true → RelV (flV x) v ∧ Rep K m H x (flV x)
  | .non, v, e => by cases v <;> first | exact ⟨rfl, rfl⟩ | cases e
  | .bl a, v, e => by
    cases v <;> try (simp [sameV] at e; done)
    simp only [sameV, beq_iff_eq] at e
    subst e; exact ⟨rfl, rfl⟩
  | .int a, v, e => by
    cases v <;> try (simp [sameV] at e; done)
    simp only [sameV, beq_iff_eq] at e
    subst e; exact ⟨⟨_, rfl⟩, rfl⟩
  | .str a, v, e => by
    cases v <;> try (simp [sameV] at e; done)
    simp only [sameV, beq_iff_eq] at e
    subst e; exact ⟨⟨_, rfl⟩, rfl⟩
  | .tup a, v, e => by cases v <;> cases e
  | .ref a, v, e => by cases v <;> cases e
theorem sameVs_ok {m H} : ∀ {xs : List W} {vs : List Value}, sameVs xs vs = true → Vals (xs.map flV) vs ∧ Reps K m H xs (xs.map flV)
  | [], [], _ => ⟨.nil, rfl⟩
  | [], _ :: _, e => by cases e
  | _ :: _, [], e => by cases e
  | x :: xs, v :: vs, e => by
    unfold sameVs at e
    rw [Bool.and_eq_true] at e
    obtain ⟨a1, a2⟩ := sameV_ok (m := m) (H := H) e.1
    obtain ⟨b1, b2⟩ := sameVs_ok (m := m) (H := H) e.2
    exact ⟨.cons a1 b1, ⟨_, _, rfl, a2, b2⟩⟩
theorem rep_const {a : Addr} {xs : List W} {dd : Option Addr} {its : Array Value} {n : Nat} {sl : Array (Option Value)} (l : K.lookup a = some ⟨.type "tuple", dd, .seq its n, sl⟩) (e : sameVs xs its.toList = true) (hz : szOk its.size = true) : ∀ m H, Rep K m H (.tup xs) (.ref a) := fun m H => by
  obtain ⟨h1, h2⟩ := sameVs_ok (m := m) (H := H) e
  exact ⟨a, _, rfl, .inr ⟨_, its, n, l, rfl, rfl, szOk_le hz, h1⟩, h2⟩

/-! ### repr -/
def rReprD (K : PySem.W.Frag) : List V → Hp → VK → Prop := fun xs H Q => ∃ a d, xs = [.ref a] ∧ Dp K H (.ref a) d ∧ d.showable = true ∧ d.hasDict = false ∧ d.depth ≤ 60 ∧ d.shown.length ≤ sizeLine ∧ Q (.str d.shown) H
theorem call_reprD {X : Cx} (hg : X.A.guards = some []) (hu : X.A.units + 64 < cLine) : CallR X (.builtin "repr") (rReprD X.K) := by
  intro pins s σ H xs us Q I r h
  obtain ⟨a, d, rfl, hd, h1, h2, h3, h4, q⟩ := h
  obtain ⟨u, rfl, rx⟩ := vals1 r
  obtain ⟨as, rd⟩ := Dp.reads I d _ u hd rx
  cases rx
  refine repr_of_reads' rd h1 (fun z => by rw [h2] at z; cases z) hg (by omega) (fun _ _ e => e) (fun h' u tk kp => ?_) h4
  exact ⟨.str _, H, I.kept (h' := h') (t' := tk) kp, ⟨_, rfl⟩, q⟩
def rRepr2 (K : PySem.W.Frag) : List V → Hp → VK → Prop := fun xs H Q => (∃ i, xs = [.int i] ∧ i.natAbs.log2 < 1920 ∧ Q (.str (toString i)) H) ∨ rReprD K xs H Q
theorem call_reprI {X : Cx} : CallR X (.builtin "repr") (fun xs H Q => ∃ i, xs = [.int i] ∧ i.natAbs.log2 < 1920 ∧ Q (.str (toString i)) H) := fun pins s σ H xs us Q I r ⟨i, e, hz, q⟩ => by
  subst e
  obtain ⟨u, e, t, e2⟩ := vals1 r
  subst e; subst e2
  exact PySem.P.repr_of_int hz ⟨.str _, H, I.tok _, ⟨_, rfl⟩, q⟩
theorem call_repr2 {X : Cx} (hg : X.A.guards = some []) (hu : X.A.units + 64 < cLine) : CallR X (.builtin "repr") (rRepr2 X.K) := call_or call_reprI (call_reprD hg hu)
def isBox : W → Bool
  | .tup _ => true
  | .ref _ => true
  | _ => false
def gRepr : GA := fun xs h => match xs with
  | [.int i] => if decide (i.natAbs.log2 < 1920) = true then some (.str (toString i), h) else none
  | [x] => match toD h 60 x with
    | some d => if (isBox x && d.showable && !d.hasDict && decide (d.depth ≤ 60) && szOk d.shown.length) = true then some (.str d.shown, h) else none
    | none => none
  | _ => none
theorem i_repr2 : ImpA K gRepr (rRepr2 K) := by
  intro m h H xs vs w h' S R e Q q
  unfold gRepr at e
  split at e
  · split at e
    · next c =>
      cases e
      obtain ⟨v, r, rfl, R1, R2⟩ := R
      rw [show r = [] from R2, show v = _ from R1]
      exact .inl ⟨_, rfl, of_decide_eq_true c, q m H _ Le.refl S rfl⟩
    · cases e
  · next x _ =>
    split at e
    · next d e1 =>
      split at e
      · next c =>
        cases e
        simp only [Bool.and_eq_true, Bool.not_eq_true', decide_eq_true_eq] at c
        obtain ⟨v, r, rfl, R1, R2⟩ := R
        rw [show r = [] from R2]
        have hd := toD_ok S _ _ _ _ R1 e1
        obtain ⟨a, rfl⟩ : ∃ a, v = .ref a := by
          cases x <;> try (simp [isBox] at c; done)
          · obtain ⟨a, vs, rfl, _⟩ := R1; exact ⟨a, rfl⟩
          · obtain ⟨a, _, rfl⟩ := R1; exact ⟨a, rfl⟩
        exact .inr ⟨a, d, rfl, hd, c.1.1.1.2, c.1.1.2, c.1.2, szOk_le c.2, q m H _ Le.refl S rfl⟩
      · cases e
    · cases e
  · cases e
end

/-! ### a def's promise where no repr is under way -/
def FnOkG (P : Program) (w : World) (K : PySem.W.Frag) (mg : Str → Option Value) (base : Heap) (CX : CXT) (k : Nat) (f : Addr) (fd : FuncData) (ps : List Str) (sp : Sp) : Prop :=
  ∀ (A : Around) (outer : List Env) (s : Shared) (H : Hp) (args : Args) (us : List Value) (vs : List V) (Q : VK) (E : XK), A.guards = some [] → Room k A → Env0 P w K mg base A outer s H → BindsTo s fd args (ps.zip us) → Vals vs us → sp vs H Q E →
    codeAny (model P w) A (.call (.ref f) args) (CR CX outer P w H s Q E) s
section
variable {P : Program} {w : World} {K : PySem.W.Frag} {mg : Str → Option Value} {base : Heap}
theorem def_okG {x qual : Str} {st : Stmt} {f : Addr} {fd : FuncData} {N ps : List Str} {k : Nat} {B : MSt} (F : Fun K x qual st f fd) (S : FnScope N ps (defScope st))
    (hb : ∀ (cdv : Value) (A : Around) (outer : List Env) (s : Shared) (H : Hp) (E : XK), Room k (A.deeper (envOfC qual (defScope st) s.heap.objs.size f cdv)) → (A.deeper (envOfC qual (defScope st) s.heap.objs.size f cdv)).guards = some [] →
      PSs (cxOf CX0 P w K mg base N qual (defScope st) f cdv A outer s H E).nox (defBody st) (tMS K B)) : FnOkG P w K mg base CX0 (k + 1) f fd ps (spM K ps.length (mDef N.length B)) := by
  obtain ⟨oc, od, kV, doc, pm, an, cdv, ct, osl, rfl, lk, hcd⟩ := F.ex
  intro A outer s H args us vs Q E gd hr e0 bt rv hsp
  obtain ⟨hl, n, hh, m, ws, r, h', Sm0, R, e, q⟩ := hsp
  have KX : K.In s.heap := e0.mod.kin.keeps fun b o z => (e0.bs b o z).1
  have lim : s.heap.NoLimit := e0.mod.nolimit.keeps fun b o z => (e0.bs b o z).1
  have hkind : ∀ y ∈ ps.zip us, (defScope st).names.lookup y.1 = some .local ∨ ((defScope st).names.lookup y.1 = some .cell ∧ ((cellsFrom (s.heap.objs.size + 1) (defScope st).names []).lookup y.1).isSome = true) := by
    rintro ⟨y, v⟩ hy
    rcases S.par y (List.of_mem_zip hy).1 with z | z
    · exact .inl z
    · exact .inr ⟨z, PySem.W.cellsFrom_some _ _ _ (.inl z)⟩
  refine codeAny_call_function hr.depth (KX _ _ lk) rfl S.co S.gen rfl (PySem.W.codeRec_of KX hcd) (bt _ _ _ _ ?_)
  refine wpAny_newFunctionEnv_cells S.kind hkind fun env he s1 x => ?_
  subst he
  refine ⟨lim.keeps x.toInCall.keep, codeAny_func ?_⟩
  have I := inv_start (CX := CX0) (P := P) (w := w) (mg := mg) (E := E) S hr.hd e0 hl rv x
  have ht := (hb cdv A outer s H E (hr.deeper _) gd).nox
  have hle : (L2.start N vs).length = (ws.map some ++ List.replicate (N.length - ws.length) (none : Option W)).length := by
    unfold L2.start
    simp [R.length]
  have out : ∀ {σ' : L2.St} {H' : Hp} {v : V} {u : Value} {s' : Shared}, Inv (cxOf CX0 P w K mg base N qual (defScope st) f cdv A outer s H E) [] σ' H' s' → RelV v u → Q v H' → CE outer P w H s Q u s' :=
    fun {_ H' v u s'} J r2 q2 => ⟨v, H', J.os, J.bare, J.base, J.hok, r2, q2⟩
  have hq : (tMS K B) { nx := fun _ H' => Q .non H', rt := Q } (L2.start N vs) H := by
    unfold mDef at e
    split at e
    · next r' s' h'' e1 =>
      cases e
      exact ⟨n, _, hh, m, .rt r, s', h', ⟨Sm0, rs_start R, hle.symm⟩, e1, fun m1 H1 σ1 L1 I1 v R1 => q m1 H1 v L1 I1.sm R1⟩
    · next s' h'' e1 =>
      cases e
      exact ⟨n, _, hh, m, .nx, s', h', ⟨Sm0, rs_start R, hle.symm⟩, e1, fun m1 H1 σ1 L1 I1 => q m1 H1 .non L1 I1.sm rfl⟩
    · cases e
  refine wpAny_mono (ht.run [] s1 (L2.start N vs) H _ I hq) (fun fl s' hs => ?_) fun _ _ z => z
  cases fl with
  | ret u => obtain ⟨v, σ', H', J, r2, q2⟩ := hs; exact out J r2 q2
  | next => obtain ⟨σ', H', J, q2⟩ := hs; exact out (v := V.non) (u := Value.none) J rfl q2
  | brk => obtain ⟨_, _, _, z⟩ := hs; exact z.elim
  | cont => obtain ⟨_, _, _, z⟩ := hs; exact z.elim

/-! ### the law's own call -/
/-- what is known of the script's object, and of what is tracked when the law is called -/
structure Scr (K : PySem.W.Frag) (g : Heap) (a : Addr) (ns : List Int) (H : Hp) : Prop where
  frz : Frz K H a (ns.map V.int)
  only : ∀ b u, H b = some u → b = a ∧ ∃ o, g.get? a = some o ∧ u = .frz o (.lst (ns.map V.int))
  apart : ∀ u, H a = some u → K.lookup a = none
theorem Scr.hok {P : Program} {w : World} {g : Heap} {a : Addr} {ns : List Int} {H : Hp} (S : Scr K g a ns H) {vs : List Value} (ha : g.get? a = some { cls := .type "list", data := .seq vs.toArray }) (rv : Vals (ns.map V.int) vs) (hl : ns.length ≤ sizeLine) : HOk P w H g := fun b u e => by
  obtain ⟨eb, o, eo, eu⟩ := S.only b u e
  subst eb; subst eu
  rw [ha] at eo; cases eo
  exact ⟨ha, by rw [List.length_map]; exact hl, vs, _, rv, ha⟩
theorem law_callG {mb : Str → Option Value} {k : Nat} {fa a : Addr} {fd : FuncData} {x : Str} {sp : Sp} {s₁ : Shared} {vs : List Value} {ns : List Int} (KX : K.In s₁.heap) (hns : s₁.heap.Ns mainGlobals mg) (hb : s₁.heap.Ns builtinsNs mb) (hbb : ∀ x : Str, x ≠ "__name__" → mb x = bootBuiltins x)
    (hlim : s₁.heap.NoLimit) (hg : s₁.gens = #[]) (ha : s₁.heap.get? a = some { cls := .type "list", data := .seq vs.toArray }) (hi : IntsAre vs ns) (hl : ns.length ≤ sizeLine) (hr : Room k callerA)
    (F : ∀ g : Heap, K.In g → g.Ns mainGlobals mg → FnOkG P w K mg g CX0 k fa fd [x] sp) (hbind : ∀ (s : Shared) (u : Value), BindsTo s fd ⟨[u], []⟩ [(x, u)])
    (hsp : ∀ H : Hp, Frz K H a (ns.map V.int) → sp [.ref a] H (fun v _ => v = .bl true) fun _ _ _ => False) :
    codeAny (model P w) callerA (.call (.ref fa) ⟨[.ref a], []⟩) (fun r s' => r = .ok (.ret (.bool true)) ∧ OldK s₁.heap s'.heap ∧ s'.os = s₁.os ∧ AllBare s'.gens) s₁ := by
  have rv := vals_ints hi
  obtain ⟨H, S⟩ : ∃ H, Scr K s₁.heap a ns H := by
    cases hk : K.lookup a with
    | some o =>
      have e := KX a o hk
      rw [ha] at e; cases e
      exact ⟨fun _ => none, .inr ⟨_, vs.toArray, _, hk, rfl, rfl, rfl, by rw [List.size_toArray, hi.length]; exact hl, by simpa using rv⟩, fun b u z => absurd z (by simp), fun u z => absurd z (by simp)⟩
    | none =>
      refine ⟨fun b => if b = a then some (.frz { cls := .type "list", data := .seq vs.toArray } (.lst (ns.map V.int))) else none, .inl ⟨_, if_pos rfl⟩, fun b u z => ?_, fun _ _ => hk⟩
      by_cases q : b = a
      · rw [if_pos q] at z; cases z; exact ⟨q, _, ha, rfl⟩
      · rw [if_neg q] at z; cases z
  have ok : HOk P w H s₁.heap := S.hok ha rv hl
  -- what is no list stands in the base
  have keepD : ∀ {b : Addr} {o : Obj} {es : Array DictEntry} {ep : Nat}, s₁.heap.get? b = some o → o.data = .dict es ep → H b = none := fun {b o es ep} e d => by
    cases q : H b with
    | none => rfl
    | some u =>
      obtain ⟨eb, _⟩ := S.only b u q
      rw [eb, ha] at e; cases e; cases d
  have toB : ∀ {b : Addr} {f : Str → Option Value}, s₁.heap.Ns b f → (hidT s₁.heap H).Ns b f := fun {b f} z => by
    obtain ⟨o, es, ep, e, d, r⟩ := z
    exact ⟨o, es, ep, hidT_get e (keepD e d), d, r⟩
  have inB : K.In (hidT s₁.heap H) := fun b o e => hidT_get (KX b o e) (by
    cases q : H b with
    | none => rfl
    | some u =>
      obtain ⟨eb, _⟩ := S.only b u q
      rw [eb] at e q
      rw [S.apart u q] at e; cases e)
  obtain ⟨mc, l1, l2⟩ := hlim
  have M : Mod K mg (hidT s₁.heap H) := ⟨inB, toB hns, ⟨mb, toB hb, hbb⟩, ⟨mc, toB l1, l2⟩⟩
  have e0 : Env0 P w K mg (hidT s₁.heap H) callerA [] s₁ H := ⟨rfl, M, fun b o e => of_hidT e, Nat.le_of_eq (hidT_size _ _), trivial, fun b z => absurd z (by simp [frs]), ok, .of_eq hg⟩
  refine codeAny_mono (F _ inB (toB hns) callerA [] s₁ H ⟨[.ref a], []⟩ [.ref a] [.ref a] _ _ rfl hr e0 (hbind s₁ (.ref a)) (.cons rfl .nil) (hsp H S.frz)) fun r s' h => ?_
  rcases r with e | fl
  · exact h.elim
  · cases fl with
    | ret u =>
      obtain ⟨v, H', os, bare, un, hok', rr, q⟩ := h
      have q' : v = .bl true := q
      subst q'
      obtain rfl : u = Value.bool true := rr
      refine ⟨rfl, OldK.of_keep fun b o e => ?_, os, bare⟩
      cases q : H b with
      | none => exact un.keep b o e q (by simp [frs]) (by simp)
      | some u =>
        obtain ⟨eb, ob, eo, eu⟩ := S.only b u q
        subst eu
        have z2 := un.frzs b ob _ q
        obtain ⟨e2, _⟩ := hok' b _ z2
        rw [← eb, e] at eo; cases eo
        exact e2
    | next => exact h.elim
    | brk => exact h.elim
    | cont => exact h.elim
end
theorem walk_ofG {l : PySem.W.OpenLaw} {n k : Nat} {q : Program} {loose : List Str} {XP : (Str → Option Value) → Heap → Prop} {YP : World → Heap → Prop} {d : DefRec} {K : Params → PySem.W.Frag} {F : MF} {x : Str} (hn : l.most = some n) (hn2 : n ≤ sizeLine) (hdf : d.params.defaults = []) (hr : Room k callerA)
    (hY : ∀ (w : World) (h : Heap), YP w h → (K w.params).In h)
    (hF : ∀ (w : World) (mg : Str → Option Value) (fa : Addr) (h : Heap), (K w.params).In h → h.Ns mainGlobals mg → mg d.name = some (.ref fa) → ∃ fd : FuncData, (∀ (s : Shared) (u : Value), BindsTo s fd ⟨[u], []⟩ [(x, u)]) ∧
        ∀ g : Heap, (K w.params).In g → g.Ns mainGlobals mg → FnOkG l.prog w (K w.params) mg g CX0 k fa fd [x] (spM (K w.params) 1 F))
    (law : ∀ ns : List Int, ns.length ≤ n → ∃ fuel h', F fuel [.ref 0] [.fz (ns.map .int)] = some (.bl true, h')) : PySem.W.WalkO q loose XP YP l.row.toRowW d [] (fun f vs => PySem.call f vs) := by
  refine Att.attach_call hn hdf fun w s₀ s₁ mg mb fa o pm cd doc a vs ns G Y ho hd hcd hmg hobj hints hlen hg => ?_
  obtain ⟨fd, hb, h2⟩ := hF w mg fa _ (hY w _ Y) G.T.g hmg
  refine law_callG (hY w _ Y) G.T.g G.T.b G.T.builtins G.T.nolimit hg hobj hints (Nat.le_trans hlen hn2) hr h2 hb fun H hz => ?_
  obtain ⟨fuel, h', e⟩ := law ns hlen
  have rints : ∀ (m : List Addr) (xs : List Int), Reps (K w.params) m H (xs.map .int) (xs.map V.int) := fun m xs => by
    induction xs with
    | nil => rfl
    | cons x r ih => exact ⟨_, _, rfl, rfl, ih⟩
  refine ⟨rfl, fuel, [.fz (ns.map .int)], [a], [.ref 0], _, h', ⟨rfl, fun i j b c d' e1 e2 e3 e4 m1 m2 => ?_, fun i b c e1 e2 => ?_⟩, ⟨_, _, rfl, ⟨a, rfl, rfl⟩, rfl⟩, e, fun m' H' v L S' R => R⟩
  · cases i with
    | zero => cases e3; cases m1
    | succ i => simp at e3
  · cases i with
    | zero => cases e2; cases e1; exact ⟨_, hz, rints _ ns⟩
    | succ i => simp at e2
end Mi

/-! What loops of the evaluator come to; what a run leaves of the cells. -/
namespace Mi
open PySem L2
/-- cells that stood stand -/
structure Ext (h h' : MH) : Prop where
  len : h.length ≤ h'.length
  keep : ∀ i, i < h.length → h'[i]? = h[i]?
theorem Ext.refl (h : MH) : Ext h h := ⟨Nat.le_refl _, fun _ _ => rfl⟩
theorem Ext.trans {a b c : MH} (x : Ext a b) (y : Ext b c) : Ext a c := ⟨Nat.le_trans x.len y.len, fun i hi => (y.keep i (Nat.lt_of_lt_of_le hi x.len)).trans (x.keep i hi)⟩
theorem Ext.app (h l : MH) : Ext h (h ++ l) := ⟨by simp, fun i hi => List.getElem?_append_left hi⟩
theorem Ext.get {h h' : MH} (x : Ext h h') {i : Nat} {c : Cell} (e : h[i]? = some c) : h'[i]? = some c := by
  have hi : i < h.length := by
    rcases Nat.lt_or_ge i h.length with q | q
    · exact q
    · rw [List.getElem?_eq_none q] at e; cases e
  rw [x.keep i hi, e]
theorem lt_of_get {α : Type} {l : List α} {i : Nat} {c : α} (e : l[i]? = some c) : i < l.length := by
  rcases Nat.lt_or_ge i l.length with q | q
  · exact q
  · rw [List.getElem?_eq_none q] at e; cases e
/-- a cell behind h is changed -/
theorem Ext.set {h h' : MH} (x : Ext h h') {d : Nat} {c : Cell} (hd : h.length ≤ d) : Ext h (h'.set d c) := ⟨by rw [List.length_set]; exact x.len, fun i hi => by
  rw [List.getElem?_set_ne (by omega)]; exact x.keep i hi⟩
/-- the same but for the cell at b, a box of three ints -/
def IsBox (h : MH) (b : Nat) : Prop := ∃ a s c : Int, h[b]? = some (.lst [.int a, .int s, .int c])
structure Bx (b : Nat) (h h' : MH) : Prop where
  len : h.length ≤ h'.length
  keep : ∀ i, i < h.length → i ≠ b → h'[i]? = h[i]?
  box : IsBox h' b
theorem Bx.refl {b : Nat} {h : MH} (q : IsBox h b) : Bx b h h := ⟨Nat.le_refl _, fun _ _ _ => rfl, q⟩
theorem Bx.trans {b : Nat} {a c d : MH} (x : Bx b a c) (y : Bx b c d) : Bx b a d := ⟨Nat.le_trans x.len y.len, fun i hi hb => (y.keep i (Nat.lt_of_lt_of_le hi x.len) hb).trans (x.keep i hi hb), y.box⟩
theorem Bx.ext {b : Nat} {a c d : MH} (x : Bx b a c) (y : Ext c d) : Bx b a d := ⟨Nat.le_trans x.len y.len, fun i hi hb => (y.keep i (Nat.lt_of_lt_of_le hi x.len)).trans (x.keep i hi hb), by
  obtain ⟨p, q, r, e⟩ := x.box
  exact ⟨p, q, r, y.get e⟩⟩
theorem Ext.bx {b : Nat} {a c d : MH} (x : Ext a c) (y : Bx b c d) : Bx b a d := ⟨Nat.le_trans x.len y.len, fun i hi hb => (y.keep i (Nat.lt_of_lt_of_le hi x.len) hb).trans (x.keep i hi), y.box⟩
theorem Bx.get {b : Nat} {h h' : MH} (x : Bx b h h') {i : Nat} {c : Cell} (e : h[i]? = some c) (hb : i ≠ b) : h'[i]? = some c := by
  rw [x.keep i (lt_of_get e) hb, e]
theorem Bx.set {b : Nat} {h h' : MH} (x : Bx b h h') {d : Nat} {c : Cell} (hd : h.length ≤ d) (hb : d ≠ b) : Bx b h (h'.set d c) := ⟨by rw [List.length_set]; exact x.len, fun i hi hib => by
  rw [List.getElem?_set_ne (by omega)]; exact x.keep i hi hib, by
  obtain ⟨p, q, r, e⟩ := x.box
  exact ⟨p, q, r, by rw [List.getElem?_set_ne hb]; exact e⟩⟩
theorem get_snoc_self {h : MH} {c : Cell} : (h ++ [c])[h.length]? = some c := by simp

theorem var_at {s : MS} {i n : Nat} {h : MH} {w : W} (e : s[i]? = some (some w)) : mVar i n s h = some (w, h) := by
  unfold mVar; rw [e]
/-- a comprehension over what stands still -/
theorem lc_run {src : Src} {xs : List W} {p : Pat} {t : MT} {f : M} {n d : Nat} {s0 : MS} (I : Nat → List W → MH → Prop) (hget : ∀ i acc h, I i acc h → h[d]? = some (.lst acc) → src.get h i = some xs[i]?)
    (turn : ∀ i x acc h, xs[i]? = some x → I i acc h → h[d]? = some (.lst acc) → ∃ s1, mPat p x s0 = some s1 ∧
      ((∃ h1, t n s1 h = some (false, h1) ∧ h1[d]? = some (.lst acc) ∧ I (i + 1) acc h1) ∨
       (∃ h1 y h2, t n s1 h = some (true, h1) ∧ f n s1 h1 = some (y, h2) ∧ h2[d]? = some (.lst acc) ∧ acc.length < 16777216 ∧ I (i + 1) (acc ++ [y]) (h2.set d (.lst (acc ++ [y])))))) :
    ∀ (k i : Nat) (acc : List W) (h : MH), i ≤ xs.length → xs.length - i < k → I i acc h → h[d]? = some (.lst acc) → ∃ acc' h', lcloop src p t f n d s0 k i h = some (.ref d, h') ∧ h'[d]? = some (.lst acc') ∧ I xs.length acc' h' := by
  intro k
  induction k with
  | zero => intro i acc h _ hk; omega
  | succ k ih =>
    intro i acc h hi hk hI hd
    unfold lcloop
    rw [hget i acc h hI hd]
    by_cases hlt : i < xs.length
    · have ex : xs[i]? = some xs[i] := List.getElem?_eq_getElem hlt
      rw [ex]
      obtain ⟨s1, e1, hh⟩ := turn i _ acc h ex hI hd
      simp only [e1]
      rcases hh with ⟨h1, e2, hd1, I1⟩ | ⟨h1, y, h2, e2, e3, hd2, hz, I2⟩
      · simp only [e2]
        exact ih (i + 1) acc h1 (by omega) (by omega) I1 hd1
      · simp only [e2, e3]
        have ep : pushAt h2 d y = some (h2.set d (.lst (acc ++ [y]))) := by
          unfold pushAt
          rw [hd2]
          simp [hz]
        simp only [ep]
        exact ih (i + 1) _ _ (by omega) (by omega) I2 (by rw [List.getElem?_set_self (lt_of_get hd2)])
    · have : i = xs.length := by omega
      subst this
      rw [List.getElem?_eq_none (Nat.le_refl _)]
      exact ⟨acc, h, rfl, hd, hI⟩
/-- a for loop over what stands still, its body going on -/
theorem f_run {src : Src} {xs : List W} {g : MG} {b : MSt} {n : Nat} (I : Nat → MS → MH → Prop) (hget : ∀ i s h, I i s h → src.get h i = some xs[i]?)
    (turn : ∀ i x s h, xs[i]? = some x → I i s h → ∃ s1 h1, g n x s h = some (s1, h1) ∧ ∃ s2 h2, (b n s1 h1 = some (.nx, s2, h2) ∨ b n s1 h1 = some (.ct, s2, h2)) ∧ I (i + 1) s2 h2) :
    ∀ (k i : Nat) (s : MS) (h : MH), i ≤ xs.length → xs.length - i < k → I i s h → ∃ s' h', floop src g b n k i s h = some (.nx, s', h') ∧ I xs.length s' h' := by
  intro k
  induction k with
  | zero => intro i s h _ hk; omega
  | succ k ih =>
    intro i s h hi hk hI
    unfold floop
    rw [hget i s h hI]
    by_cases hlt : i < xs.length
    · have ex : xs[i]? = some xs[i] := List.getElem?_eq_getElem hlt
      rw [ex]
      obtain ⟨s1, h1, e1, s2, h2, e2, I2⟩ := turn i _ s h ex hI
      simp only [e1]
      rcases e2 with e2 | e2
      · simp only [e2]; exact ih (i + 1) s2 h2 (by omega) (by omega) I2
      · simp only [e2]; exact ih (i + 1) s2 h2 (by omega) (by omega) I2
    · have : i = xs.length := by omega
      subst this
      rw [List.getElem?_eq_none (Nat.le_refl _)]
      exact ⟨s, h, rfl, hI⟩
theorem get_items {xs : List W} {h : MH} {i : Nat} : (Src.items xs).get h i = some xs[i]? := rfl
theorem get_cell {n : Nat} {xs : List W} {h : MH} {i : Nat} (e : h[n]? = some (.lst xs)) : (Src.cell n).get h i = some xs[i]? := by
  simp [Src.get, Mi.lstAt, e]
theorem lstAt_lst {h : MH} {n : Nat} {xs : List W} (e : h[n]? = some (.lst xs)) : Mi.lstAt h n = some xs := by simp [Mi.lstAt, e]
theorem lstM_lst {h : MH} {n : Nat} {xs : List W} (e : h[n]? = some (.lst xs)) : lstM h n = some xs := by simp [lstM, e]
theorem newL_eq {xs : List W} {h : MH} (hz : xs.length ≤ 16777216) : newL xs h = some (.ref h.length, h ++ [.lst xs]) := by
  simp [newL, szOk, hz]
/-! data of flat lists -/
def flD : W → PyData
  | .non => .none | .bl b => .bool b | .int i => .int i | .str x => .str x | _ => .none
theorem toD_flat {h : MH} {k : Nat} {w : W} (f : flatW w = true) : toD h k w = some (flD w) := by
  cases w <;> first | (unfold toD; rfl) | cases f
theorem toDs_flat {h : MH} {k : Nat} : ∀ {xs : List W}, xs.all flatW = true → toDs h k xs = some (xs.map flD)
  | [], _ => by unfold toDs; rfl
  | x :: xs, f => by
    rw [List.all_cons, Bool.and_eq_true] at f
    unfold toDs
    rw [toD_flat f.1, toDs_flat f.2]; rfl
def okW : W → Bool
  | .non => true | .bl _ => true | .int _ => true | .str x => PyData.strOk x | _ => false
theorem okW_flat {w : W} (f : okW w = true) : flatW w = true := by cases w <;> first | rfl | cases f
theorem lay_flat : ∀ {xs : List W}, xs.all okW = true → PyData.canLayAll0 (xs.map flD) = true ∧ PyData.depthAll (xs.map flD) = 0
  | [], _ => ⟨by simp [PyData.canLayAll0], by simp [PyData.depthAll]⟩
  | x :: xs, f => by
    rw [List.all_cons, Bool.and_eq_true] at f
    obtain ⟨a, b⟩ := lay_flat f.2
    have : (flD x).canLay0 = true ∧ (flD x).depth = 0 := by
      cases x with
      | non => exact ⟨by simp [flD, PyData.canLay0], by simp [flD, PyData.depth]⟩
      | bl _ => exact ⟨by simp [flD, PyData.canLay0], by simp [flD, PyData.depth]⟩
      | int _ => exact ⟨by simp [flD, PyData.canLay0], by simp [flD, PyData.depth]⟩
      | str z => exact ⟨by rw [show flD (.str z) = .str z from rfl, PyData.canLay0]; exact f.1, by simp [flD, PyData.depth]⟩
      | tup _ => cases f.1
      | ref _ => cases f.1
    exact ⟨by simp [PyData.canLayAll0, this.1, a], by simp [PyData.depthAll, this.2, b]⟩
/-- a list's == with an empty one -/
theorem eq_empty {h : MH} {d e : Nat} {xs : List W} (hd : h[d]? = some (.lst xs)) (he : h[e]? = some (.lst [])) (f : xs.all okW = true) : eqW (.ref d) (.ref e) h = some xs.isEmpty := by
  have f2 : xs.all flatW = true := List.all_eq_true.mpr fun x hx => okW_flat (List.all_eq_true.mp f x hx)
  obtain ⟨a, b⟩ := lay_flat f
  have e1 : toD h 64 (.ref d) = some (.list (xs.map flD)) := by
    unfold toD; rw [lstAt_lst hd]; simp [toDs_flat f2]
  have e2 : toD h 64 (.ref e) = some (.list []) := by
    unfold toD; rw [lstAt_lst he]; simp [toDs]
  show eqD _ _ _ = _
  unfold eqD
  rw [e1, e2]
  have s1 : SeqAt.shaped (.list (xs.map flD)) = true := by simp [SeqAt.shaped, PyData.canLay0, PyData.depth, a, b]
  have s2 : SeqAt.shaped (.list []) = true := by simp [SeqAt.shaped, PyData.canLay0, PyData.canLayAll0, PyData.depth, PyData.depthAll]
  simp only [s1, s2, Bool.and_self, if_true]
  cases xs with
  | nil => simp [PyData.eqv, PyData.eqvAll]
  | cons x r => simp [PyData.eqv, PyData.eqvAll]
/-- == of two texts -/
theorem eq_strs {h : MH} {x y : Str} (_ : PyData.strOk x = true) (_ : PyData.strOk y = true) : eqW (.str x) (.str y) h = some (x == y) := by
  unfold eqW
  simp only [Option.some.injEq]
  by_cases z : x = y
  · subst z; simp
  · rw [decide_eq_false z]
    exact (beq_eq_false_iff_ne.mpr z).symm
theorem eq_ints {h : MH} {x y : Int} : eqW (.int x) (.int y) h = some (x == y) := by
  show eqD _ _ _ = _
  unfold eqD
  rw [toD_flat rfl, toD_flat rfl]
  simp [flD, SeqAt.shaped, PyData.canLay0, PyData.depth, PyData.eqv]
end Mi

namespace K02
open PySem PySem.Spec PyProof.Rows L2 Mi
def topS (i : Nat) : Stmt := PySem.Challenge.pw_tonguetower_k02_words.main.body.getD i (.Pass ⟨0, 0, 0, 0⟩)
abbrev s_is_short : Stmt := topS 2
theorem sc_is_short : FnScope ["text"] ["text"] (defScope s_is_short) := ⟨rfl, rfl, rfl, by decide +kernel, rfl, by decide +kernel, by decide +kernel⟩
abbrev s_is_name : Stmt := topS 3
theorem sc_is_name : FnScope ["text"] ["text"] (defScope s_is_name) := ⟨rfl, rfl, rfl, by decide +kernel, rfl, by decide +kernel, by decide +kernel⟩
abbrev s_is_sign : Stmt := topS 4
theorem sc_is_sign : FnScope ["text"] ["text"] (defScope s_is_sign) := ⟨rfl, rfl, rfl, by decide +kernel, rfl, by decide +kernel, by decide +kernel⟩
abbrev s_is_call : Stmt := topS 5
theorem sc_is_call : FnScope ["text", "part", "_", "function"] ["text"] (defScope s_is_call) := ⟨rfl, rfl, rfl, by decide +kernel, rfl, by decide +kernel, by decide +kernel⟩
abbrev s_number_of : Stmt := topS 6
theorem sc_number_of : FnScope ["text"] ["text"] (defScope s_number_of) := ⟨rfl, rfl, rfl, by decide +kernel, rfl, by decide +kernel, by decide +kernel⟩
abbrev s__law_box : Stmt := topS 8
theorem sc__law_box : FnScope ["_law_script", "_law_k", "_law_cell", "_law_seed"] ["_law_script", "_law_k"] (defScope s__law_box) := ⟨rfl, rfl, rfl, by decide +kernel, rfl, by decide +kernel, by decide +kernel⟩
abbrev s__law_take : Stmt := topS 9
theorem sc__law_take : FnScope ["_law_box_here", "_law_many", "_law_one", "_law_digit"] ["_law_box_here", "_law_many"] (defScope s__law_take) := ⟨rfl, rfl, rfl, by decide +kernel, rfl, by decide +kernel, by decide +kernel⟩
abbrev s__law_word : Stmt := topS 10
theorem sc__law_word : FnScope ["_law_box_here", "_law_signs", "_law_most", "_law_k"] ["_law_box_here", "_law_signs", "_law_most"] (defScope s__law_word) := ⟨rfl, rfl, rfl, by decide +kernel, rfl, by decide +kernel, by decide +kernel⟩
abbrev s__law_otherwise : Stmt := topS 11
theorem sc__law_otherwise : FnScope ["_law_box_here", "_law_text", "_law_signs", "_law_sign", "_law_at", "_law_way"] ["_law_box_here", "_law_text", "_law_signs"] (defScope s__law_otherwise) := ⟨rfl, rfl, rfl, by decide +kernel, rfl, by decide +kernel, by decide +kernel⟩
abbrev s__law_is_word : Stmt := topS 12
theorem sc__law_is_word : FnScope ["_law_text", "_law_signs", "_law_sign"] ["_law_text", "_law_signs"] (defScope s__law_is_word) := ⟨rfl, rfl, rfl, by decide +kernel, rfl, by decide +kernel, by decide +kernel⟩
abbrev s__law_due : Stmt := topS 13
theorem sc__law_due : FnScope ["_law_text", "_law_marks", "_law_sign_due", "_law_at", "_law_call_due", "_law_number", "_law_small", "_law_figures", "_law_sign"] ["_law_text"] (defScope s__law_due) := ⟨rfl, rfl, rfl, by decide +kernel, rfl, by decide +kernel, by decide +kernel⟩
abbrev s__law_texts : Stmt := topS 14
theorem sc__law_texts : FnScope ["_law_box_here", "_law_marks", "_law_found", "_law_turn", "_law_small", "_law_figures", "_law_one", "_law_other"] ["_law_box_here"] (defScope s__law_texts) := ⟨rfl, rfl, rfl, by decide +kernel, rfl, by decide +kernel, by decide +kernel⟩
abbrev s_law : Stmt := topS 15
theorem sc_law : FnScope ["_law_script", "_law_any_signs", "_law_k", "_law_box_here", "_law_texts_here", "_law_text", "_law_found"] ["_law_script"] (defScope s_law) := ⟨rfl, rfl, rfl, by decide +kernel, rfl, by decide +kernel, by decide +kernel⟩
def c_MARKS : W := (.tup [(.str "+"), (.str "-"), (.str "*"), (.str "/"), (.str "="), (.str "<"), (.str ">"), (.str "("), (.str ")"), (.str "["), (.str "]"), (.str ","), (.str ";"), (.str "?")])
structure Txt (K : PySem.W.Frag) (mg : Str → Option Value) where
  a_is_short : Addr
  d_is_short : FuncData
  F_is_short : Fun K "is_short" "is_short" s_is_short a_is_short d_is_short
  g_is_short : mg "is_short" = some (.ref a_is_short)
  b_is_short : Binds K d_is_short ["text"] []
  a_is_name : Addr
  d_is_name : FuncData
  F_is_name : Fun K "is_name" "is_name" s_is_name a_is_name d_is_name
  g_is_name : mg "is_name" = some (.ref a_is_name)
  b_is_name : Binds K d_is_name ["text"] []
  a_is_sign : Addr
  d_is_sign : FuncData
  F_is_sign : Fun K "is_sign" "is_sign" s_is_sign a_is_sign d_is_sign
  g_is_sign : mg "is_sign" = some (.ref a_is_sign)
  b_is_sign : Binds K d_is_sign ["text"] []
  a_is_call : Addr
  d_is_call : FuncData
  F_is_call : Fun K "is_call" "is_call" s_is_call a_is_call d_is_call
  g_is_call : mg "is_call" = some (.ref a_is_call)
  b_is_call : Binds K d_is_call ["text"] []
  a_number_of : Addr
  d_number_of : FuncData
  F_number_of : Fun K "number_of" "number_of" s_number_of a_number_of d_number_of
  g_number_of : mg "number_of" = some (.ref a_number_of)
  b_number_of : Binds K d_number_of ["text"] []
  a__law_box : Addr
  d__law_box : FuncData
  F__law_box : Fun K "_law_box" "_law_box" s__law_box a__law_box d__law_box
  g__law_box : mg "_law_box" = some (.ref a__law_box)
  b__law_box : Binds K d__law_box ["_law_script", "_law_k"] []
  a__law_take : Addr
  d__law_take : FuncData
  F__law_take : Fun K "_law_take" "_law_take" s__law_take a__law_take d__law_take
  g__law_take : mg "_law_take" = some (.ref a__law_take)
  b__law_take : Binds K d__law_take ["_law_box_here", "_law_many"] []
  a__law_word : Addr
  d__law_word : FuncData
  F__law_word : Fun K "_law_word" "_law_word" s__law_word a__law_word d__law_word
  g__law_word : mg "_law_word" = some (.ref a__law_word)
  b__law_word : Binds K d__law_word ["_law_box_here", "_law_signs", "_law_most"] []
  a__law_otherwise : Addr
  d__law_otherwise : FuncData
  F__law_otherwise : Fun K "_law_otherwise" "_law_otherwise" s__law_otherwise a__law_otherwise d__law_otherwise
  g__law_otherwise : mg "_law_otherwise" = some (.ref a__law_otherwise)
  b__law_otherwise : Binds K d__law_otherwise ["_law_box_here", "_law_text", "_law_signs"] []
  a__law_is_word : Addr
  d__law_is_word : FuncData
  F__law_is_word : Fun K "_law_is_word" "_law_is_word" s__law_is_word a__law_is_word d__law_is_word
  g__law_is_word : mg "_law_is_word" = some (.ref a__law_is_word)
  b__law_is_word : Binds K d__law_is_word ["_law_text", "_law_signs"] []
  a__law_due : Addr
  d__law_due : FuncData
  F__law_due : Fun K "_law_due" "_law_due" s__law_due a__law_due d__law_due
  g__law_due : mg "_law_due" = some (.ref a__law_due)
  b__law_due : Binds K d__law_due ["_law_text"] []
  a__law_texts : Addr
  d__law_texts : FuncData
  F__law_texts : Fun K "_law_texts" "_law_texts" s__law_texts a__law_texts d__law_texts
  g__law_texts : mg "_law_texts" = some (.ref a__law_texts)
  b__law_texts : Binds K d__law_texts ["_law_box_here"] []
  a_law : Addr
  d_law : FuncData
  F_law : Fun K "law" "law" s_law a_law d_law
  g_law : mg "law" = some (.ref a_law)
  b_law : Binds K d_law ["_law_script"] []
  n_int : mg "int" = none
  n_len : mg "len" = none
  n_list : mg "list" = none
  n_max : mg "max" = none
  n_min : mg "min" = none
  n_range : mg "range" = none
  n_repr : mg "repr" = none
  aC_MARKS : Addr
  gC_MARKS : mg "MARKS" = some (.ref aC_MARKS)
  rC_MARKS : ∀ m H, Rep K m H c_MARKS (.ref aC_MARKS)
section
variable {P : Program} {w : World} {K : PySem.W.Frag} {mg : Str → Option Value} {base : Heap}
def B_is_short : MSt := (mRet (mAndV (mOp gLe (mCB gLen (mCons (mVar 0) mNil)) (mC (.int 6))) (mAndV (mM0 (gAsk Txt.isascii) (mVar 0)) (mM0 (gAsk Txt.isalpha) (mVar 0)))))
def f_is_short : MF := mDef 1 B_is_short
theorem ok_is_short (T : Txt K mg) : FnOk P w K mg base CX0 1 T.a_is_short T.d_is_short ["text"] (spM K 1 f_is_short) :=
  def_ok T.F_is_short sc_is_short fun cdv A outer s H E hr =>
    have hu := hu64 hr; have nd := sc_is_short.nd
    (show PSs _ _ (tMS K B_is_short) from (mss_one (ms_ret (m_and (m_cmp op_le i_le (m_callB call_len i_len rfl T.n_len (by decide +kernel) (ma_cons (m_var 0) ma_nil)) m_int (nomark _)) (m_and (m_m0 PySem.F.slot_str_isascii PySem.F.type_str_isascii mt_isascii i_ask (m_var 0)) (m_one (m_m0 PySem.F.slot_str_isalpha PySem.F.type_str_isalpha mt_isalpha i_ask (m_var 0))))))))
def B_is_name : MSt := (mRet (mAndV (mCall f_is_short (mCons (mVar 0) mNil)) (mM0 (gAsk Txt.islower) (mVar 0))))
def f_is_name : MF := mDef 1 B_is_name
theorem ok_is_name (T : Txt K mg) : FnOk P w K mg base CX0 2 T.a_is_name T.d_is_name ["text"] (spM K 1 f_is_name) :=
  def_ok T.F_is_name sc_is_name fun cdv A outer s H E hr =>
    have hu := hu64 hr; have nd := sc_is_name.nd
    (show PSs _ _ (tMS K B_is_name) from (mss_one (ms_ret (m_and (m_call (ok_is_short T) (hr.mono (by decide)) rfl T.g_is_short T.F_is_short.kp T.b_is_short (ma_cons (m_var 0) ma_nil) (.cons .nil)) (m_one (m_m0 PySem.F.slot_str_islower PySem.F.type_str_islower mt_islower i_ask (m_var 0)))))))
def B_is_sign : MSt := (mRet (mOrV (mOp gIn (mVar 0) (mC c_MARKS)) (mAndV (mCall f_is_short (mCons (mVar 0) mNil)) (mM0 (gAsk Txt.isupper) (mVar 0)))))
def f_is_sign : MF := mDef 1 B_is_sign
theorem ok_is_sign (T : Txt K mg) : FnOk P w K mg base CX0 2 T.a_is_sign T.d_is_sign ["text"] (spM K 1 f_is_sign) :=
  def_ok T.F_is_sign sc_is_sign fun cdv A outer s H E hr =>
    have hu := hu64 hr; have nd := sc_is_sign.nd
    (show PSs _ _ (tMS K B_is_sign) from (mss_one (ms_ret (m_or (m_cmp op_in2 i_in (m_var 0) (m_c (pe_glob (v := .ref T.aC_MARKS) rfl T.gC_MARKS rfl) T.rC_MARKS) (by rfl)) (m_one (m_and (m_call (ok_is_short T) (hr.mono (by decide)) rfl T.g_is_short T.F_is_short.kp T.b_is_short (ma_cons (m_var 0) ma_nil) (.cons .nil)) (m_one (m_m0 PySem.F.slot_str_isupper PySem.F.type_str_isupper mt_isupper i_ask (m_var 0)))))))))
def B_is_call : MSt := (mSeq (mAsg (mM1 gPartition (mVar 0) (mC (.str "."))) (mgPat (.tp [(.nm 1), (.nm 2), (.nm 3)])))
    (mRet (mAndV (mCall f_is_name (mCons (mVar 1) mNil)) (mCall f_is_name (mCons (mVar 3) mNil)))))
def f_is_call : MF := mDef 4 B_is_call
theorem ok_is_call (T : Txt K mg) : FnOk P w K mg base CX0 3 T.a_is_call T.d_is_call ["text"] (spM K 1 f_is_call) :=
  def_ok T.F_is_call sc_is_call fun cdv A outer s H E hr =>
    have hu := hu64 hr; have nd := sc_is_call.nd
    (show PSs _ _ (tMS K B_is_call) from (mss_cons (ms_asg (m_m1 PySem.F.slot_str_partition PySem.F.type_str_partition mt_partition i_partition (m_var 0) m_str) (mg_pat (.tp [(.nm 1), (.nm 2), (.nm 3)]) (pp_tp rfl (pps1 (pp_nm (pg_name (i := 1) nd rfl (Or.inl rfl))) (pps1 (pp_nm (pg_name (i := 2) nd rfl (Or.inl rfl))) (pps1 (pp_nm (pg_name (i := 3) nd rfl (Or.inl rfl))) pps0))))))
    (mss_one (ms_ret (m_and (m_call (ok_is_name T) (hr.mono (by decide)) rfl T.g_is_name T.F_is_name.kp T.b_is_name (ma_cons (m_var 1) ma_nil) (.cons .nil)) (m_one (m_call (ok_is_name T) (hr.mono (by decide)) rfl T.g_is_name T.F_is_name.kp T.b_is_name (ma_cons (m_var 3) ma_nil) (.cons .nil))))))))
def B_number_of : MSt := (mSeq (mIfS (mOr (mB (mOp gGt (mCB gLen (mCons (mVar 0) mNil)) (mC (.int 3)))) (mOr (mNot (mB (mM0 (gAsk Txt.isascii) (mVar 0)))) (mNot (mB (mM0 (gAsk Txt.isdigit) (mVar 0)))))) (mRet (mC .non)) mNext)
    (mSeq (mIfS (mAnd (mB (mOp gGt (mCB gLen (mCons (mVar 0) mNil)) (mC (.int 1)))) (mB (mM1 gStarts (mVar 0) (mC (.str "0"))))) (mRet (mC .non)) mNext)
    (mRet (mCB gInt3 (mCons (mVar 0) mNil)))))
def f_number_of : MF := mDef 1 B_number_of
theorem ok_number_of (T : Txt K mg) : FnOk P w K mg base CX0 1 T.a_number_of T.d_number_of ["text"] (spM K 1 f_number_of) :=
  def_ok T.F_number_of sc_number_of fun cdv A outer s H E hr =>
    have hu := hu64 hr; have nd := sc_number_of.nd
    (show PSs _ _ (tMS K B_number_of) from (mss_cons (ms_if (PW.pt (mw_or (mt_cmp op_gt i_gt (m_callB call_len i_len rfl T.n_len (by decide +kernel) (ma_cons (m_var 0) ma_nil)) m_int (nomark _)) (mw_or (mt_not (mt_val (m_m0 PySem.F.slot_str_isascii PySem.F.type_str_isascii mt_isascii i_ask (m_var 0)))) (mw_or1 (mt_not (mt_val (m_m0 PySem.F.slot_str_isdigit PySem.F.type_str_isdigit mt_isdigit i_ask (m_var 0)))))))) (mss_one (ms_ret m_non)) mss_nil)
    (mss_cons (ms_if (PW.pt (mw_and (mt_cmp op_gt i_gt (m_callB call_len i_len rfl T.n_len (by decide +kernel) (ma_cons (m_var 0) ma_nil)) m_int (nomark _)) (mw_and1 (mt_val (m_m1 PySem.F.slot_str_startswith PySem.F.type_str_startswith mt_startswith i_starts (m_var 0) m_str))))) (mss_one (ms_ret m_non)) mss_nil)
    (mss_one (ms_ret (m_callTy call_int3 i_int3 rfl T.n_int (by decide +kernel) (ma_cons (m_var 0) ma_nil)))))))
def B__law_box : MSt := (mSeq (mSet 2 (mOp gAdd (mOp gMul (mC (.int 8087)) (mVar 1)) (mC (.int 31))))
    (mSeq (mIfS (mB (mOp gLt (mVar 1) (mCB gLen (mCons (mVar 0) mNil)))) (mSet 2 (mCB gMax (mCons (mOp gIx (mVar 0) (mVar 1)) (mCons (mOp gSub (mC (.int 0)) (mOp gIx (mVar 0) (mVar 1))) mNil)))) (mIfS (mB (mOp gGt (mCB gLen (mCons (mVar 0) mNil)) (mC (.int 0)))) (mSet 2 (mOp gAdd (mVar 2) (mOp gMul (mOp gMod (mOp gIx (mVar 0) (mOp gMod (mVar 1) (mCB gLen (mCons (mVar 0) mNil)))) (mC (.int 2147483629))) (mC (.int 71167))))) mNext))
    (mSeq (mSet 3 (mOp gAdd (mOp gMod (mOp gAdd (mOp gAdd (mOp gMul (mOp gMod (mVar 2) (mC (.int 2147483629))) (mC (.int 48271))) (mOp gMul (mC (.int 39841)) (mVar 1))) (mC (.int 11))) (mC (.int 2147483629))) (mC (.int 1))))
    (mRet (mLst (mCons (mOp gIx (mLst (mCons (mC (.int 0)) (mCons (mVar 2) mNil))) (mCB gInt3 (mCons (mOp gGe (mVar 2) (mOp gPow (mC (.int 10)) (mC (.int 18)))) mNil))) (mCons (mVar 3) (mCons (mC (.int 0)) mNil))))))))
def f__law_box : MF := mDef 4 B__law_box
theorem ok__law_box (T : Txt K mg) : FnOk P w K mg base CX0 1 T.a__law_box T.d__law_box ["_law_script", "_law_k"] (spM K 2 f__law_box) :=
  def_ok T.F__law_box sc__law_box fun cdv A outer s H E hr =>
    have hu := hu64 hr; have nd := sc__law_box.nd
    (show PSs _ _ (tMS K B__law_box) from (mss_cons (ms_set 2 (m_op op_add4 i_add (m_op op_mul3 i_mul m_int (m_var 1)) m_int) nd)
    (mss_cons (ms_if (mt_cmp op_lt i_lt (m_var 1) (m_callB call_len i_len rfl T.n_len (by decide +kernel) (ma_cons (m_var 0) ma_nil)) (nomark _)) (mss_one (ms_set 2 (m_callB (call_max2 rfl) i_max rfl T.n_max (by decide +kernel) (ma_cons (m_ix ix_seq i_ix (m_var 0) (m_var 1) (fun _ _ => rfl)) (ma_cons (m_op op_sub i_sub m_int (m_ix ix_seq i_ix (m_var 0) (m_var 1) (fun _ _ => rfl))) ma_nil))) nd)) (mss_one (ms_if (mt_cmp op_gt i_gt (m_callB call_len i_len rfl T.n_len (by decide +kernel) (ma_cons (m_var 0) ma_nil)) m_int (nomark _)) (mss_one (ms_set 2 (m_op op_add4 i_add (m_var 2) (m_op op_mul3 i_mul (m_op op_mod i_mod (m_ix ix_seq i_ix (m_var 0) (m_op op_mod i_mod (m_var 1) (m_callB call_len i_len rfl T.n_len (by decide +kernel) (ma_cons (m_var 0) ma_nil))) (fun _ _ => rfl)) m_int) m_int)) nd)) mss_nil)))
    (mss_cons (ms_set 3 (m_op op_add4 i_add (m_op op_mod i_mod (m_op op_add4 i_add (m_op op_add4 i_add (m_op op_mul3 i_mul (m_op op_mod i_mod (m_var 2) m_int) m_int) (m_op op_mul3 i_mul m_int (m_var 1))) m_int) m_int) m_int) nd)
    (mss_one (ms_ret (m_lst (ma_cons (m_ix ix_seq i_ix (m_lst (ma_cons m_int (ma_cons (m_var 2) ma_nil))) (m_callTy call_int3 i_int3 rfl T.n_int (by decide +kernel) (ma_cons (m_cmp op_ge i_ge (m_var 2) (m_op op_pow i_pow m_int m_int) (nomark _)) ma_nil)) (fun _ _ => rfl)) (ma_cons (m_var 3) (ma_cons m_int ma_nil))))))))))
def B__law_take : MSt := (mSeq (mIfS (mB (mOp gGt (mOp gIx (mVar 0) (mC (.int 0))) (mC (.int 0)))) (mSeq (mSet 3 (mOp gMod (mOp gIx (mVar 0) (mC (.int 0))) (mVar 1)))
    (mSeq (mAsg (mOp gFdiv (mOp gIx (mVar 0) (mC (.int 0))) (mVar 1)) (mgSub (mVar 0) (mC (.int 0)) gSetIx))
    (mRet (mVar 3)))) mNext)
    (mSeq (mAsg (mOp gAdd (mOp gIx (mVar 0) (mC (.int 2))) (mC (.int 1))) (mgSub (mVar 0) (mC (.int 2)) gSetIx))
    (mSeq (mSet 2 (mOp gMod (mOp gMul (mOp gAdd (mOp gIx (mVar 0) (mC (.int 1))) (mOp gMul (mC (.int 104717)) (mOp gIx (mVar 0) (mC (.int 2))))) (mC (.int 69621))) (mC (.int 2147483647))))
    (mSeq (mAsg (mOp gAdd (mOp gMod (mOp gAdd (mOp gMul (mVar 2) (mC (.int 48271))) (mC (.int 30097))) (mC (.int 2147483629))) (mC (.int 1))) (mgSub (mVar 0) (mC (.int 1)) gSetIx))
    (mRet (mOp gMod (mOp gFdiv (mOp gAdd (mOp gMul (mVar 2) (mC (.int 2147483647))) (mOp gIx (mVar 0) (mC (.int 1)))) (mC (.int 8167))) (mVar 1)))))))
def f__law_take : MF := mDef 4 B__law_take
theorem ok__law_take (T : Txt K mg) : FnOk P w K mg base CX0 1 T.a__law_take T.d__law_take ["_law_box_here", "_law_many"] (spM K 2 f__law_take) :=
  def_ok T.F__law_take sc__law_take fun cdv A outer s H E hr =>
    have hu := hu64 hr; have nd := sc__law_take.nd
    (show PSs _ _ (tMS K B__law_take) from (mss_cons (ms_if (mt_cmp op_gt i_gt (m_ix ix_seq i_ix (m_var 0) m_int (fun _ _ => rfl)) m_int (nomark _)) (mss_cons (ms_set 3 (m_op op_mod i_mod (m_ix ix_seq i_ix (m_var 0) m_int (fun _ _ => rfl)) (m_var 1)) nd)
    (mss_cons (ms_asg (m_op op_fdiv i_fdiv (m_ix ix_seq i_ix (m_var 0) m_int (fun _ _ => rfl)) (m_var 1)) (mg_sub (m_var 0) m_int set_list i_setIx))
    (mss_one (ms_ret (m_var 3))))) mss_nil)
    (mss_cons (ms_asg (m_op op_add4 i_add (m_ix ix_seq i_ix (m_var 0) m_int (fun _ _ => rfl)) m_int) (mg_sub (m_var 0) m_int set_list i_setIx))
    (mss_cons (ms_set 2 (m_op op_mod i_mod (m_op op_mul3 i_mul (m_op op_add4 i_add (m_ix ix_seq i_ix (m_var 0) m_int (fun _ _ => rfl)) (m_op op_mul3 i_mul m_int (m_ix ix_seq i_ix (m_var 0) m_int (fun _ _ => rfl)))) m_int) m_int) nd)
    (mss_cons (ms_asg (m_op op_add4 i_add (m_op op_mod i_mod (m_op op_add4 i_add (m_op op_mul3 i_mul (m_var 2) m_int) m_int) m_int) m_int) (mg_sub (m_var 0) m_int set_list i_setIx))
    (mss_one (ms_ret (m_op op_mod i_mod (m_op op_fdiv i_fdiv (m_op op_add4 i_add (m_op op_mul3 i_mul (m_var 2) m_int) (m_ix ix_seq i_ix (m_var 0) m_int (fun _ _ => rfl))) m_int) (m_var 1)))))))))
def B__law_word : MSt := (mRet (mM1 gJoin (mC (.str "")) (mLc (miRange1 (mCall f__law_take (mCons (mVar 0) (mCons (mOp gAdd (mVar 2) (mC (.int 1))) mNil)))) (.nm 3) mYes (mOp gIx (mVar 1) (mCall f__law_take (mCons (mVar 0) (mCons (mCB gLen (mCons (mVar 1) mNil)) mNil)))) [3])))
def f__law_word : MF := mDef 4 B__law_word
theorem ok__law_word (T : Txt K mg) : FnOk P w K mg base CX0 2 T.a__law_word T.d__law_word ["_law_box_here", "_law_signs", "_law_most"] (spM K 3 f__law_word) :=
  def_ok T.F__law_word sc__law_word fun cdv A outer s H E hr =>
    have hu := hu64 hr; have nd := sc__law_word.nd
    (show PSs _ _ (tMS K B__law_word) from (mss_one (ms_ret (m_m1 PySem.F.slot_str_join PySem.F.type_str_join mt_join i_join m_str (m_lc (own := [("_law_k", 3)]) (p := (.nm 3)) rfl nd (mi_range1 rfl T.n_range (m_call (ok__law_take T) (hr.mono (by decide)) rfl T.g__law_take T.F__law_take.kp T.b__law_take (ma_cons (m_var 0) (ma_cons (m_op op_add4 i_add (m_var 2) m_int) ma_nil)) (.cons (.cons .nil)))) (blkOk_by (N := ["_law_box_here", "_law_signs", "_law_most", "_law_k"]) (sc := defScope s__law_word) (by decide +kernel)) (fun _ _ _ _ _ => (pp_nm (pg_name (i := 3) nd rfl (Or.inl rfl)))) (fun _ _ _ _ _ => mts_nil) (fun _ _ _ _ _ => (m_ix ix_seq i_ix (m_var 1) (m_call (ok__law_take T) (hr.mono (by decide)) rfl T.g__law_take T.F__law_take.kp T.b__law_take (ma_cons (m_var 0) (ma_cons (m_callB call_len i_len rfl T.n_len (by decide +kernel) (ma_cons (m_var 1) ma_nil)) ma_nil)) (.cons (.cons .nil))) (fun _ _ => rfl))) (by decide))))))
def B__law_otherwise : MSt := (mSeq (mPar 4 5 (mCall f__law_take (mCons (mVar 0) (mCons (mOp gAdd (mCB gLen (mCons (mVar 1) mNil)) (mC (.int 1))) mNil))) (mCall f__law_take (mCons (mVar 0) (mCons (mC (.int 3)) mNil))))
    (mSeq (mSet 3 (mOp gIx (mVar 2) (mCall f__law_take (mCons (mVar 0) (mCons (mCB gLen (mCons (mVar 2) mNil)) mNil)))))
    (mSeq (mIfS (mB (mOp gEq (mVar 5) (mC (.int 0)))) (mRet (mOp gAdd (mOp gAdd (mSl gCut (mVar 1) mNoPart (mPart (mVar 4))) (mVar 3)) (mSl gCut (mVar 1) (mPart (mVar 4)) mNoPart))) mNext)
    (mSeq (mIfS (mB (mOp gEq (mVar 5) (mC (.int 1)))) (mRet (mOp gAdd (mSl gCut (mVar 1) mNoPart (mPart (mVar 4))) (mSl gCut (mVar 1) (mPart (mOp gAdd (mVar 4) (mC (.int 1)))) mNoPart))) mNext)
    (mRet (mOp gAdd (mOp gAdd (mSl gCut (mVar 1) mNoPart (mPart (mVar 4))) (mVar 3)) (mSl gCut (mVar 1) (mPart (mOp gAdd (mVar 4) (mC (.int 1)))) mNoPart)))))))
def f__law_otherwise : MF := mDef 6 B__law_otherwise
theorem ok__law_otherwise (T : Txt K mg) : FnOk P w K mg base CX0 2 T.a__law_otherwise T.d__law_otherwise ["_law_box_here", "_law_text", "_law_signs"] (spM K 3 f__law_otherwise) :=
  def_ok T.F__law_otherwise sc__law_otherwise fun cdv A outer s H E hr =>
    have hu := hu64 hr; have nd := sc__law_otherwise.nd
    (show PSs _ _ (tMS K B__law_otherwise) from (mss_cons (ms_par 4 5 rfl nd (m_call (ok__law_take T) (hr.mono (by decide)) rfl T.g__law_take T.F__law_take.kp T.b__law_take (ma_cons (m_var 0) (ma_cons (m_op op_add4 i_add (m_callB call_len i_len rfl T.n_len (by decide +kernel) (ma_cons (m_var 1) ma_nil)) m_int) ma_nil)) (.cons (.cons .nil))) (m_call (ok__law_take T) (hr.mono (by decide)) rfl T.g__law_take T.F__law_take.kp T.b__law_take (ma_cons (m_var 0) (ma_cons m_int ma_nil)) (.cons (.cons .nil))))
    (mss_cons (ms_set 3 (m_ix ix_seq i_ix (m_var 2) (m_call (ok__law_take T) (hr.mono (by decide)) rfl T.g__law_take T.F__law_take.kp T.b__law_take (ma_cons (m_var 0) (ma_cons (m_callB call_len i_len rfl T.n_len (by decide +kernel) (ma_cons (m_var 2) ma_nil)) ma_nil)) (.cons (.cons .nil))) (fun _ _ => rfl)) nd)
    (mss_cons (ms_if (mt_cmp (op_eq2 hu) i_eq (m_var 5) m_int (nomark _)) (mss_one (ms_ret (m_op op_add4 i_add (m_op op_add4 i_add (m_slice sl_cut3 i_cut (m_var 1) mo_none (mo_some (m_var 4))) (m_var 3)) (m_slice sl_cut3 i_cut (m_var 1) (mo_some (m_var 4)) mo_none)))) mss_nil)
    (mss_cons (ms_if (mt_cmp (op_eq2 hu) i_eq (m_var 5) m_int (nomark _)) (mss_one (ms_ret (m_op op_add4 i_add (m_slice sl_cut3 i_cut (m_var 1) mo_none (mo_some (m_var 4))) (m_slice sl_cut3 i_cut (m_var 1) (mo_some (m_op op_add4 i_add (m_var 4) m_int)) mo_none)))) mss_nil)
    (mss_one (ms_ret (m_op op_add4 i_add (m_op op_add4 i_add (m_slice sl_cut3 i_cut (m_var 1) mo_none (mo_some (m_var 4))) (m_var 3)) (m_slice sl_cut3 i_cut (m_var 1) (mo_some (m_op op_add4 i_add (m_var 4) m_int)) mo_none)))))))))
def B__law_is_word : MSt := (mRet (mAndV (mChain gLt gLt (mC (.int 0)) (mCB gLen (mCons (mVar 0) mNil)) (mC (.int 7))) (mOp gEq (mLc (miSeq (mVar 0)) (.nm 2) (mB (mOp gNotIn (mVar 2) (mVar 1))) (mVar 2) [2]) (mLst mNil))))
def f__law_is_word : MF := mDef 3 B__law_is_word
theorem ok__law_is_word (T : Txt K mg) : FnOk P w K mg base CX0 1 T.a__law_is_word T.d__law_is_word ["_law_text", "_law_signs"] (spM K 2 f__law_is_word) :=
  def_ok T.F__law_is_word sc__law_is_word fun cdv A outer s H E hr =>
    have hu := hu64 hr; have nd := sc__law_is_word.nd
    (show PSs _ _ (tMS K B__law_is_word) from (mss_one (ms_ret (m_and (m_chain op_lt i_lt op_lt i_lt m_int (m_callB call_len i_len rfl T.n_len (by decide +kernel) (ma_cons (m_var 0) ma_nil)) m_int) (m_one (m_cmp (op_eq2 hu) i_eq (m_lc (own := [("_law_sign", 2)]) (p := (.nm 2)) rfl nd (mi_seq (m_var 0)) (blkOk_by (N := ["_law_text", "_law_signs", "_law_sign"]) (sc := defScope s__law_is_word) (by decide +kernel)) (fun _ _ _ _ _ => (pp_nm (pg_name (i := 2) nd rfl (Or.inl rfl)))) (fun _ _ _ _ _ => (mts_one (mt_cmp op_notin2 i_notin (m_var 2) (m_var 1) (by rfl)))) (fun _ _ _ _ _ => (m_var 2)) (by decide)) (m_lst ma_nil) (nomark _)))))))
def B__law_due : MSt := (mSeq (mAsg (mTup (mCons (mC (.str "abcdefghijklmnopqrstuvwxyz")) (mCons (mC (.str "0123456789")) mNil))) (mgPat (.tp [(.nm 6), (.nm 7)])))
    (mSeq (mSet 1 (mLst (mCons (mC (.str "+")) (mCons (mC (.str "-")) (mCons (mC (.str "*")) (mCons (mC (.str "/")) (mCons (mC (.str "=")) (mCons (mC (.str "<")) (mCons (mC (.str ">")) (mCons (mC (.str "(")) (mCons (mC (.str ")")) (mCons (mC (.str "[")) (mCons (mC (.str "]")) (mCons (mC (.str ",")) (mCons (mC (.str ";")) (mCons (mC (.str "?")) mNil))))))))))))))))
    (mSeq (mSet 2 (mOrV (mCall f__law_is_word (mCons (mVar 0) (mCons (mM0 gUpper (mVar 6)) mNil))) (mOp gIn (mVar 0) (mVar 1))))
    (mSeq (mSet 3 (mM1 gFind (mVar 0) (mC (.str "."))))
    (mSeq (mSet 4 (mAndV (mOp gGt (mVar 3) (mC (.int 0))) (mAndV (mCall f__law_is_word (mCons (mSl gCut (mVar 0) mNoPart (mPart (mVar 3))) (mCons (mVar 6) mNil))) (mCall f__law_is_word (mCons (mSl gCut (mVar 0) (mPart (mOp gAdd (mVar 3) (mC (.int 1)))) mNoPart) (mCons (mVar 6) mNil))))))
    (mSeq (mSet 5 (mC .non))
    (mSeq (mIfS (mAnd (mB (mChain gLt gLt (mC (.int 0)) (mCB gLen (mCons (mVar 0) mNil)) (mC (.int 4)))) (mAnd (mB (mOp gEq (mLc (miSeq (mVar 0)) (.nm 8) (mB (mOp gNotIn (mVar 8) (mVar 7))) (mVar 8) [8]) (mLst mNil))) (mOr (mB (mOp gNe (mOp gIx (mVar 0) (mC (.int 0))) (mC (.str "0")))) (mB (mOp gEq (mVar 0) (mC (.str "0"))))))) (mSeq (mSet 5 (mC (.int 0)))
    (mFor (miSeq (mVar 0)) (mgPat (.nm 8)) (mSet 5 (mOp gAdd (mOp gMul (mC (.int 10)) (mVar 5)) (mM1 gSIndex (mVar 7) (mVar 8)))))) mNext)
    (mRet (mTup (mCons (mCall f__law_is_word (mCons (mVar 0) (mCons (mVar 6) mNil))) (mCons (mVar 2) (mCons (mVar 4) (mCons (mVar 5) mNil)))))))))))))
def f__law_due : MF := mDef 9 B__law_due
theorem ok__law_due (T : Txt K mg) : FnOk P w K mg base CX0 2 T.a__law_due T.d__law_due ["_law_text"] (spM K 1 f__law_due) :=
  def_ok T.F__law_due sc__law_due fun cdv A outer s H E hr =>
    have hu := hu64 hr; have nd := sc__law_due.nd
    (show PSs _ _ (tMS K B__law_due) from (mss_cons (ms_asg (m_tup (ma_cons m_str (ma_cons m_str ma_nil))) (mg_pat (.tp [(.nm 6), (.nm 7)]) (pp_tp rfl (pps1 (pp_nm (pg_name (i := 6) nd rfl (Or.inl rfl))) (pps1 (pp_nm (pg_name (i := 7) nd rfl (Or.inr rfl))) pps0)))))
    (mss_cons (ms_set 1 (m_lst (ma_cons m_str (ma_cons m_str (ma_cons m_str (ma_cons m_str (ma_cons m_str (ma_cons m_str (ma_cons m_str (ma_cons m_str (ma_cons m_str (ma_cons m_str (ma_cons m_str (ma_cons m_str (ma_cons m_str (ma_cons m_str ma_nil))))))))))))))) nd)
    (mss_cons (ms_set 2 (m_or (m_call (ok__law_is_word T) (hr.mono (by decide)) rfl T.g__law_is_word T.F__law_is_word.kp T.b__law_is_word (ma_cons (m_var 0) (ma_cons (m_m0 PySem.F.slot_str_upper PySem.F.type_str_upper mt_upper i_upper (m_var 6)) ma_nil)) (.cons (.cons .nil))) (m_one (m_cmp op_in2 i_in (m_var 0) (m_var 1) (by rfl)))) nd)
    (mss_cons (ms_set 3 (m_m1 PySem.F.slot_str_find PySem.F.type_str_find mt_find i_find (m_var 0) m_str) nd)
    (mss_cons (ms_set 4 (m_and (m_cmp op_gt i_gt (m_var 3) m_int (nomark _)) (m_and (m_call (ok__law_is_word T) (hr.mono (by decide)) rfl T.g__law_is_word T.F__law_is_word.kp T.b__law_is_word (ma_cons (m_slice sl_cut3 i_cut (m_var 0) mo_none (mo_some (m_var 3))) (ma_cons (m_var 6) ma_nil)) (.cons (.cons .nil))) (m_one (m_call (ok__law_is_word T) (hr.mono (by decide)) rfl T.g__law_is_word T.F__law_is_word.kp T.b__law_is_word (ma_cons (m_slice sl_cut3 i_cut (m_var 0) (mo_some (m_op op_add4 i_add (m_var 3) m_int)) mo_none) (ma_cons (m_var 6) ma_nil)) (.cons (.cons .nil)))))) nd)
    (mss_cons (ms_set 5 m_non nd)
    (mss_cons (ms_if (PW.pt (mw_and (mt_chain op_lt i_lt op_lt i_lt m_int (m_callB call_len i_len rfl T.n_len (by decide +kernel) (ma_cons (m_var 0) ma_nil)) m_int) (mw_and (mt_cmp (op_eq2 hu) i_eq (m_lc (own := [("_law_sign", 8)]) (p := (.nm 8)) rfl nd (mi_seq (m_var 0)) (blkOk_by (N := ["_law_text", "_law_marks", "_law_sign_due", "_law_at", "_law_call_due", "_law_number", "_law_small", "_law_figures", "_law_sign"]) (sc := defScope s__law_due) (by decide +kernel)) (fun _ _ _ _ _ => (pp_nm (pg_name (i := 8) nd rfl (Or.inl rfl)))) (fun _ _ _ _ _ => (mts_one (mt_cmp op_notin2 i_notin (m_var 8) (m_var 7) (by rfl)))) (fun _ _ _ _ _ => (m_var 8)) (by decide)) (m_lst ma_nil) (nomark _)) (mw_and1 (PW.pt (mw_or (mt_cmp (op_ne2 hu) i_ne (m_ix ix_seq i_ix (m_var 0) m_int (fun _ _ => rfl)) m_str (nomark _)) (mw_or1 (mt_cmp (op_eq2 hu) i_eq (m_var 0) m_str (nomark _))))))))) (mss_cons (ms_set 5 m_int nd)
    (mss_one (ms_for PassesOwn.never rfl (mi_seq (m_var 0)) (mg_pat (.nm 8) (pp_nm (pg_name (i := 8) nd rfl (Or.inl rfl)))) (mss_one (ms_set 5 (m_op op_add4 i_add (m_op op_mul3 i_mul m_int (m_var 5)) (m_m1 PySem.F.slot_str_index PySem.F.type_str_index mt_sindex i_sindex (m_var 7) (m_var 8))) nd))))) mss_nil)
    (mss_one (ms_ret (m_tup (ma_cons (m_call (ok__law_is_word T) (hr.mono (by decide)) rfl T.g__law_is_word T.F__law_is_word.kp T.b__law_is_word (ma_cons (m_var 0) (ma_cons (m_var 6) ma_nil)) (.cons (.cons .nil))) (ma_cons (m_var 2) (ma_cons (m_var 4) (ma_cons (m_var 5) ma_nil)))))))))))))))
def B__law_texts : MSt := (mSeq (mAsg (mTup (mCons (mC (.str "abcdefghijklmnopqrstuvwxyz")) (mCons (mC (.str "0123456789")) mNil))) (mgPat (.tp [(.nm 4), (.nm 5)])))
    (mSeq (mSet 1 (mC (.str "+-*/=<>()[],;?")))
    (mSeq (mSet 2 (mLst (mCons (mC (.str "")) (mCons (mC (.str " ")) (mCons (mC (.str ".")) (mCons (mC (.str "0")) (mCons (mC (.str "00")) (mCons (mC (.str "999")) (mCons (mC (.str "1000")) (mCons (mC (.str "a.b")) (mCons (mC (.str "ground")) (mCons (mC (.str "GROUND")) (mCons (mC (.str "a.")) (mCons (mC (.str ".a")) (mCons (mC (.str "a.b.c")) mNil)))))))))))))))
    (mSeq (mDrop (mML gExtend (mVar 2) (mCons (mCB gList (mCons (mVar 1) mNil)) mNil)))
    (mSeq (mFor (miRange1 (mC (.int 3))) (mgPat (.nm 3)) (mSeq (mPar 6 7 (mCall f__law_word (mCons (mVar 0) (mCons (mVar 4) (mCons (mC (.int 7)) mNil)))) (mCall f__law_word (mCons (mVar 0) (mCons (mVar 4) (mCons (mC (.int 7)) mNil)))))
    (mSeq (mDrop (mML gExtend (mVar 2) (mCons (mLst (mCons (mVar 6) (mCons (mM0 gUpper (mVar 6)) (mCons (mOp gAdd (mOp gAdd (mVar 6) (mC (.str "."))) (mVar 7)) (mCons (mOp gAdd (mVar 6) (mM0 gUpper (mVar 7))) (mCons (mOp gAdd (mOp gAdd (mOp gAdd (mOp gAdd (mVar 6) (mC (.str "."))) (mVar 7)) (mC (.str "."))) (mVar 6)) mNil)))))) mNil)))
    (mDrop (mML gExtend (mVar 2) (mCons (mLst (mCons (mCall f__law_word (mCons (mVar 0) (mCons (mVar 1) (mCons (mC (.int 2)) mNil)))) (mCons (mCall f__law_word (mCons (mVar 0) (mCons (mVar 5) (mCons (mC (.int 5)) mNil)))) (mCons (mCall f__law_word (mCons (mVar 0) (mCons (mOp gAdd (mVar 4) (mVar 5)) (mCons (mC (.int 4)) mNil)))) mNil)))) mNil))))))
    (mRet (mVar 2)))))))
def f__law_texts : MF := mDef 8 B__law_texts
theorem ok__law_texts (T : Txt K mg) : FnOk P w K mg base CX0 3 T.a__law_texts T.d__law_texts ["_law_box_here"] (spM K 1 f__law_texts) :=
  def_ok T.F__law_texts sc__law_texts fun cdv A outer s H E hr =>
    have hu := hu64 hr; have nd := sc__law_texts.nd
    (show PSs _ _ (tMS K B__law_texts) from (mss_cons (ms_asg (m_tup (ma_cons m_str (ma_cons m_str ma_nil))) (mg_pat (.tp [(.nm 4), (.nm 5)]) (pp_tp rfl (pps1 (pp_nm (pg_name (i := 4) nd rfl (Or.inl rfl))) (pps1 (pp_nm (pg_name (i := 5) nd rfl (Or.inl rfl))) pps0)))))
    (mss_cons (ms_set 1 m_str nd)
    (mss_cons (ms_set 2 (m_lst (ma_cons m_str (ma_cons m_str (ma_cons m_str (ma_cons m_str (ma_cons m_str (ma_cons m_str (ma_cons m_str (ma_cons m_str (ma_cons m_str (ma_cons m_str (ma_cons m_str (ma_cons m_str (ma_cons m_str ma_nil)))))))))))))) nd)
    (mss_cons (ms_expr (m_ml i_extend (pe_bm PySem.F.plainAttrs_list PySem.F.slot_list_extend PySem.F.type_list_extend mt_extend (m_var 2) (ma_cons (m_callTy (call_list3 rfl) i_list rfl T.n_list (by decide +kernel) (ma_cons (m_var 1) ma_nil)) ma_nil))))
    (mss_cons (ms_for PassesOwn.never rfl (mi_range1 rfl T.n_range m_int) (mg_pat (.nm 3) (pp_nm (pg_name (i := 3) nd rfl (Or.inl rfl)))) (mss_cons (ms_par 6 7 rfl nd (m_call (ok__law_word T) (hr.mono (by decide)) rfl T.g__law_word T.F__law_word.kp T.b__law_word (ma_cons (m_var 0) (ma_cons (m_var 4) (ma_cons m_int ma_nil))) (.cons (.cons (.cons .nil)))) (m_call (ok__law_word T) (hr.mono (by decide)) rfl T.g__law_word T.F__law_word.kp T.b__law_word (ma_cons (m_var 0) (ma_cons (m_var 4) (ma_cons m_int ma_nil))) (.cons (.cons (.cons .nil)))))
    (mss_cons (ms_expr (m_ml i_extend (pe_bm PySem.F.plainAttrs_list PySem.F.slot_list_extend PySem.F.type_list_extend mt_extend (m_var 2) (ma_cons (m_lst (ma_cons (m_var 6) (ma_cons (m_m0 PySem.F.slot_str_upper PySem.F.type_str_upper mt_upper i_upper (m_var 6)) (ma_cons (m_op op_add4 i_add (m_op op_add4 i_add (m_var 6) m_str) (m_var 7)) (ma_cons (m_op op_add4 i_add (m_var 6) (m_m0 PySem.F.slot_str_upper PySem.F.type_str_upper mt_upper i_upper (m_var 7))) (ma_cons (m_op op_add4 i_add (m_op op_add4 i_add (m_op op_add4 i_add (m_op op_add4 i_add (m_var 6) m_str) (m_var 7)) m_str) (m_var 6)) ma_nil)))))) ma_nil))))
    (mss_one (ms_expr (m_ml i_extend (pe_bm PySem.F.plainAttrs_list PySem.F.slot_list_extend PySem.F.type_list_extend mt_extend (m_var 2) (ma_cons (m_lst (ma_cons (m_call (ok__law_word T) (hr.mono (by decide)) rfl T.g__law_word T.F__law_word.kp T.b__law_word (ma_cons (m_var 0) (ma_cons (m_var 1) (ma_cons m_int ma_nil))) (.cons (.cons (.cons .nil)))) (ma_cons (m_call (ok__law_word T) (hr.mono (by decide)) rfl T.g__law_word T.F__law_word.kp T.b__law_word (ma_cons (m_var 0) (ma_cons (m_var 5) (ma_cons m_int ma_nil))) (.cons (.cons (.cons .nil)))) (ma_cons (m_call (ok__law_word T) (hr.mono (by decide)) rfl T.g__law_word T.F__law_word.kp T.b__law_word (ma_cons (m_var 0) (ma_cons (m_op op_add4 i_add (m_var 4) (m_var 5)) (ma_cons m_int ma_nil))) (.cons (.cons (.cons .nil)))) ma_nil)))) ma_nil))))))))
    (mss_one (ms_ret (m_var 2)))))))))
def B_law : MSt := (mSeq (mSet 1 (mC (.str " !\"#$&'()*+,-./0123456789:;<=>?@ABCXYZ[\\]^_`abcxyz{|}~\n")))
    (mSeq (mFor (miRange1 (mCB gMax (mCons (mC (.int 1)) (mCons (mCB gMin (mCons (mCB gLen (mCons (mVar 0) mNil)) (mCons (mC (.int 2)) mNil))) mNil)))) (mgPat (.nm 2)) (mSeq (mSet 3 (mCall f__law_box (mCons (mVar 0) (mCons (mVar 2) mNil))))
    (mSeq (mSet 4 (mCall f__law_texts (mCons (mVar 3) mNil)))
    (mSeq (mSet 4 (mOp gAdd (mVar 4) (mLc (miSeq (mVar 4)) (.nm 5) mYes (mCall f__law_otherwise (mCons (mVar 3) (mCons (mVar 5) (mCons (mVar 1) mNil)))) [5])))
    (mFor (miSeq (mOp gAdd (mVar 4) (mSl gCut (mVar 4) mNoPart (mPart (mC (.int 3)))))) (mgPat (.nm 5)) (mSeq (mSet 6 (mTup (mCons (mCall f_is_name (mCons (mVar 5) mNil)) (mCons (mCall f_is_sign (mCons (mVar 5) mNil)) (mCons (mCall f_is_call (mCons (mVar 5) mNil)) (mCons (mCall f_number_of (mCons (mVar 5) mNil)) mNil))))))
    (mIfS (mB (mOp gNe (mCB gRepr (mCons (mVar 6) mNil)) (mCB gRepr (mCons (mCall f__law_due (mCons (mVar 5) mNil)) mNil)))) (mRet (mC (.bl false))) mNext)))))))
    (mRet (mC (.bl true)))))
def f_law : MF := mDef 7 B_law
theorem ok_law (T : Txt K mg) : FnOkG P w K mg base CX0 4 T.a_law T.d_law ["_law_script"] (spM K 1 f_law) :=
  def_okG T.F_law sc_law fun cdv A outer s H E hr hg =>
    have hu := hu64 hr; have nd := sc_law.nd
    (show PSs _ _ (tMS K B_law) from (mss_cons (ms_set 1 m_str nd)
    (mss_cons (ms_for PassesOwn.never rfl (mi_range1 rfl T.n_range (m_callB (call_max2 rfl) i_max rfl T.n_max (by decide +kernel) (ma_cons m_int (ma_cons (m_callB (call_min2 rfl) i_min rfl T.n_min (by decide +kernel) (ma_cons (m_callB call_len i_len rfl T.n_len (by decide +kernel) (ma_cons (m_var 0) ma_nil)) (ma_cons m_int ma_nil))) ma_nil)))) (mg_pat (.nm 2) (pp_nm (pg_name (i := 2) nd rfl (Or.inl rfl)))) (mss_cons (ms_set 3 (m_call (ok__law_box T) (hr.mono (by decide)) rfl T.g__law_box T.F__law_box.kp T.b__law_box (ma_cons (m_var 0) (ma_cons (m_var 2) ma_nil)) (.cons (.cons .nil))) nd)
    (mss_cons (ms_set 4 (m_call (ok__law_texts T) (hr.mono (by decide)) rfl T.g__law_texts T.F__law_texts.kp T.b__law_texts (ma_cons (m_var 3) ma_nil) (.cons .nil)) nd)
    (mss_cons (ms_set 4 (m_op op_add4 i_add (m_var 4) (m_lc (own := [("_law_text", 5)]) (p := (.nm 5)) rfl nd (mi_seq (m_var 4)) (blkOk_by (N := ["_law_script", "_law_any_signs", "_law_k", "_law_box_here", "_law_texts_here", "_law_text", "_law_found"]) (sc := defScope s_law) (by decide +kernel)) (fun _ _ _ _ _ => (pp_nm (pg_name (i := 5) nd rfl (Or.inl rfl)))) (fun _ _ _ _ _ => mts_nil) (fun _ _ _ _ _ => (m_call (ok__law_otherwise T) (hr.mono (by decide)) rfl T.g__law_otherwise T.F__law_otherwise.kp T.b__law_otherwise (ma_cons (m_var 3) (ma_cons (m_var 5) (ma_cons (m_var 1) ma_nil))) (.cons (.cons (.cons .nil))))) (by decide))) nd)
    (mss_one (ms_for PassesOwn.never rfl (mi_seq (m_op op_add4 i_add (m_var 4) (m_slice sl_cut3 i_cut (m_var 4) mo_none (mo_some m_int)))) (mg_pat (.nm 5) (pp_nm (pg_name (i := 5) nd rfl (Or.inl rfl)))) (mss_cons (ms_set 6 (m_tup (ma_cons (m_call (ok_is_name T) (hr.mono (by decide)) rfl T.g_is_name T.F_is_name.kp T.b_is_name (ma_cons (m_var 5) ma_nil) (.cons .nil)) (ma_cons (m_call (ok_is_sign T) (hr.mono (by decide)) rfl T.g_is_sign T.F_is_sign.kp T.b_is_sign (ma_cons (m_var 5) ma_nil) (.cons .nil)) (ma_cons (m_call (ok_is_call T) (hr.mono (by decide)) rfl T.g_is_call T.F_is_call.kp T.b_is_call (ma_cons (m_var 5) ma_nil) (.cons .nil)) (ma_cons (m_call (ok_number_of T) (hr.mono (by decide)) rfl T.g_number_of T.F_number_of.kp T.b_number_of (ma_cons (m_var 5) ma_nil) (.cons .nil)) ma_nil))))) nd)
    (mss_one (ms_if (mt_cmp (op_ne2 hu) i_ne (m_callB (call_repr2 hg hu) i_repr2 rfl T.n_repr (by decide +kernel) (ma_cons (m_var 6) ma_nil)) (m_callB (call_repr2 hg hu) i_repr2 rfl T.n_repr (by decide +kernel) (ma_cons (m_call (ok__law_due T) (hr.mono (by decide)) rfl T.g__law_due T.F__law_due.kp T.b__law_due (ma_cons (m_var 5) ma_nil) (.cons .nil)) ma_nil)) (nomark _)) (mss_one (ms_ret m_bl)) mss_nil)))))))))
    (mss_one (ms_ret m_bl)))))
end
theorem all_mk {l : PySem.W.OpenLaw} {w : World} {K : PySem.W.Frag} {h : Heap} {mg : Str → Option Value} {fa : Addr} (X : K.In h) (G : h.Ns mainGlobals mg) (hfa : mg "law" = some (.ref fa))
    {f0 : Addr} {od0 an0 : Option Addr} {sl0 : Array (Option Value)} {oc0 kV0 dc0 pm0 cd0 ct0 : Value}
    {f1 : Addr} {od1 an1 : Option Addr} {sl1 : Array (Option Value)} {oc1 kV1 dc1 pm1 cd1 ct1 : Value}
    {f2 : Addr} {od2 an2 : Option Addr} {sl2 : Array (Option Value)} {oc2 kV2 dc2 pm2 cd2 ct2 : Value}
    {f3 : Addr} {od3 an3 : Option Addr} {sl3 : Array (Option Value)} {oc3 kV3 dc3 pm3 cd3 ct3 : Value}
    {f4 : Addr} {od4 an4 : Option Addr} {sl4 : Array (Option Value)} {oc4 kV4 dc4 pm4 cd4 ct4 : Value}
    {f5 : Addr} {od5 an5 : Option Addr} {sl5 : Array (Option Value)} {oc5 kV5 dc5 pm5 cd5 ct5 : Value}
    {f6 : Addr} {od6 an6 : Option Addr} {sl6 : Array (Option Value)} {oc6 kV6 dc6 pm6 cd6 ct6 : Value}
    {f7 : Addr} {od7 an7 : Option Addr} {sl7 : Array (Option Value)} {oc7 kV7 dc7 pm7 cd7 ct7 : Value}
    {f8 : Addr} {od8 an8 : Option Addr} {sl8 : Array (Option Value)} {oc8 kV8 dc8 pm8 cd8 ct8 : Value}
    {f9 : Addr} {od9 an9 : Option Addr} {sl9 : Array (Option Value)} {oc9 kV9 dc9 pm9 cd9 ct9 : Value}
    {f10 : Addr} {od10 an10 : Option Addr} {sl10 : Array (Option Value)} {oc10 kV10 dc10 pm10 cd10 ct10 : Value}
    {f11 : Addr} {od11 an11 : Option Addr} {sl11 : Array (Option Value)} {oc11 kV11 dc11 pm11 cd11 ct11 : Value}
    {f12 : Addr} {od12 an12 : Option Addr} {sl12 : Array (Option Value)} {oc12 kV12 dc12 pm12 cd12 ct12 : Value}
    {fC_MARKS : Addr}
    (a0 : PySem.W.nsIn K mainGlobals "is_short" = some (some (.ref f0))) (l0 : K.lookup f0 = some ⟨oc0, od0, .func (PySem.W.fnOf "is_short" "is_short" (defArgs s_is_short) (defBody s_is_short) (defScope s_is_short) .none kV0 dc0 pm0 an0 cd0 ct0), sl0⟩) (c0 : PySem.W.codeIn K cd0 "is_short" = true) (k0 : PySem.W.keepIn K (.ref f0) = true)
    (a1 : PySem.W.nsIn K mainGlobals "is_name" = some (some (.ref f1))) (l1 : K.lookup f1 = some ⟨oc1, od1, .func (PySem.W.fnOf "is_name" "is_name" (defArgs s_is_name) (defBody s_is_name) (defScope s_is_name) .none kV1 dc1 pm1 an1 cd1 ct1), sl1⟩) (c1 : PySem.W.codeIn K cd1 "is_name" = true) (k1 : PySem.W.keepIn K (.ref f1) = true)
    (a2 : PySem.W.nsIn K mainGlobals "is_sign" = some (some (.ref f2))) (l2 : K.lookup f2 = some ⟨oc2, od2, .func (PySem.W.fnOf "is_sign" "is_sign" (defArgs s_is_sign) (defBody s_is_sign) (defScope s_is_sign) .none kV2 dc2 pm2 an2 cd2 ct2), sl2⟩) (c2 : PySem.W.codeIn K cd2 "is_sign" = true) (k2 : PySem.W.keepIn K (.ref f2) = true)
    (a3 : PySem.W.nsIn K mainGlobals "is_call" = some (some (.ref f3))) (l3 : K.lookup f3 = some ⟨oc3, od3, .func (PySem.W.fnOf "is_call" "is_call" (defArgs s_is_call) (defBody s_is_call) (defScope s_is_call) .none kV3 dc3 pm3 an3 cd3 ct3), sl3⟩) (c3 : PySem.W.codeIn K cd3 "is_call" = true) (k3 : PySem.W.keepIn K (.ref f3) = true)
    (a4 : PySem.W.nsIn K mainGlobals "number_of" = some (some (.ref f4))) (l4 : K.lookup f4 = some ⟨oc4, od4, .func (PySem.W.fnOf "number_of" "number_of" (defArgs s_number_of) (defBody s_number_of) (defScope s_number_of) .none kV4 dc4 pm4 an4 cd4 ct4), sl4⟩) (c4 : PySem.W.codeIn K cd4 "number_of" = true) (k4 : PySem.W.keepIn K (.ref f4) = true)
    (a5 : PySem.W.nsIn K mainGlobals "_law_box" = some (some (.ref f5))) (l5 : K.lookup f5 = some ⟨oc5, od5, .func (PySem.W.fnOf "_law_box" "_law_box" (defArgs s__law_box) (defBody s__law_box) (defScope s__law_box) .none kV5 dc5 pm5 an5 cd5 ct5), sl5⟩) (c5 : PySem.W.codeIn K cd5 "_law_box" = true) (k5 : PySem.W.keepIn K (.ref f5) = true)
    (a6 : PySem.W.nsIn K mainGlobals "_law_take" = some (some (.ref f6))) (l6 : K.lookup f6 = some ⟨oc6, od6, .func (PySem.W.fnOf "_law_take" "_law_take" (defArgs s__law_take) (defBody s__law_take) (defScope s__law_take) .none kV6 dc6 pm6 an6 cd6 ct6), sl6⟩) (c6 : PySem.W.codeIn K cd6 "_law_take" = true) (k6 : PySem.W.keepIn K (.ref f6) = true)
    (a7 : PySem.W.nsIn K mainGlobals "_law_word" = some (some (.ref f7))) (l7 : K.lookup f7 = some ⟨oc7, od7, .func (PySem.W.fnOf "_law_word" "_law_word" (defArgs s__law_word) (defBody s__law_word) (defScope s__law_word) .none kV7 dc7 pm7 an7 cd7 ct7), sl7⟩) (c7 : PySem.W.codeIn K cd7 "_law_word" = true) (k7 : PySem.W.keepIn K (.ref f7) = true)
    (a8 : PySem.W.nsIn K mainGlobals "_law_otherwise" = some (some (.ref f8))) (l8 : K.lookup f8 = some ⟨oc8, od8, .func (PySem.W.fnOf "_law_otherwise" "_law_otherwise" (defArgs s__law_otherwise) (defBody s__law_otherwise) (defScope s__law_otherwise) .none kV8 dc8 pm8 an8 cd8 ct8), sl8⟩) (c8 : PySem.W.codeIn K cd8 "_law_otherwise" = true) (k8 : PySem.W.keepIn K (.ref f8) = true)
    (a9 : PySem.W.nsIn K mainGlobals "_law_is_word" = some (some (.ref f9))) (l9 : K.lookup f9 = some ⟨oc9, od9, .func (PySem.W.fnOf "_law_is_word" "_law_is_word" (defArgs s__law_is_word) (defBody s__law_is_word) (defScope s__law_is_word) .none kV9 dc9 pm9 an9 cd9 ct9), sl9⟩) (c9 : PySem.W.codeIn K cd9 "_law_is_word" = true) (k9 : PySem.W.keepIn K (.ref f9) = true)
    (a10 : PySem.W.nsIn K mainGlobals "_law_due" = some (some (.ref f10))) (l10 : K.lookup f10 = some ⟨oc10, od10, .func (PySem.W.fnOf "_law_due" "_law_due" (defArgs s__law_due) (defBody s__law_due) (defScope s__law_due) .none kV10 dc10 pm10 an10 cd10 ct10), sl10⟩) (c10 : PySem.W.codeIn K cd10 "_law_due" = true) (k10 : PySem.W.keepIn K (.ref f10) = true)
    (a11 : PySem.W.nsIn K mainGlobals "_law_texts" = some (some (.ref f11))) (l11 : K.lookup f11 = some ⟨oc11, od11, .func (PySem.W.fnOf "_law_texts" "_law_texts" (defArgs s__law_texts) (defBody s__law_texts) (defScope s__law_texts) .none kV11 dc11 pm11 an11 cd11 ct11), sl11⟩) (c11 : PySem.W.codeIn K cd11 "_law_texts" = true) (k11 : PySem.W.keepIn K (.ref f11) = true)
    (a12 : PySem.W.nsIn K mainGlobals "law" = some (some (.ref f12))) (l12 : K.lookup f12 = some ⟨oc12, od12, .func (PySem.W.fnOf "law" "law" (defArgs s_law) (defBody s_law) (defScope s_law) .none kV12 dc12 pm12 an12 cd12 ct12), sl12⟩) (c12 : PySem.W.codeIn K cd12 "law" = true) (k12 : PySem.W.keepIn K (.ref f12) = true)
    (z_int : PySem.W.nsIn K mainGlobals "int" = some none)
    (z_len : PySem.W.nsIn K mainGlobals "len" = some none)
    (z_list : PySem.W.nsIn K mainGlobals "list" = some none)
    (z_max : PySem.W.nsIn K mainGlobals "max" = some none)
    (z_min : PySem.W.nsIn K mainGlobals "min" = some none)
    (z_range : PySem.W.nsIn K mainGlobals "range" = some none)
    (z_repr : PySem.W.nsIn K mainGlobals "repr" = some none)
    (aC_MARKS : PySem.W.nsIn K mainGlobals "MARKS" = some (some (.ref fC_MARKS))) (rC_MARKS : ∀ m H, Rep K m H c_MARKS (.ref fC_MARKS)) :
    ∃ fd : FuncData, (∀ (s : Shared) (v : Value), BindsTo s fd ⟨[v], []⟩ [("_law_script", v)]) ∧ ∀ base : Heap, K.In base → base.Ns mainGlobals mg → FnOkG l.prog w K mg base CX0 4 fa fd ["_law_script"] (spM K 1 f_law) := by
  have e := hfa.symm.trans (PySem.W.mg_of X G a12)
  cases e
  let T : Txt K mg := { a_is_short := f0, d_is_short := _, F_is_short := fun_mk (st := s_is_short) l0 c0 k0, g_is_short := PySem.W.mg_of X G a0, b_is_short := (fun_mk (st := s_is_short) l0 c0 k0).binds (ps := ["text"]) (fun _ _ _ _ _ _ us hl => match us, hl with | [_], _ => rfl), a_is_name := f1, d_is_name := _, F_is_name := fun_mk (st := s_is_name) l1 c1 k1, g_is_name := PySem.W.mg_of X G a1, b_is_name := (fun_mk (st := s_is_name) l1 c1 k1).binds (ps := ["text"]) (fun _ _ _ _ _ _ us hl => match us, hl with | [_], _ => rfl), a_is_sign := f2, d_is_sign := _, F_is_sign := fun_mk (st := s_is_sign) l2 c2 k2, g_is_sign := PySem.W.mg_of X G a2, b_is_sign := (fun_mk (st := s_is_sign) l2 c2 k2).binds (ps := ["text"]) (fun _ _ _ _ _ _ us hl => match us, hl with | [_], _ => rfl), a_is_call := f3, d_is_call := _, F_is_call := fun_mk (st := s_is_call) l3 c3 k3, g_is_call := PySem.W.mg_of X G a3, b_is_call := (fun_mk (st := s_is_call) l3 c3 k3).binds (ps := ["text"]) (fun _ _ _ _ _ _ us hl => match us, hl with | [_], _ => rfl), a_number_of := f4, d_number_of := _, F_number_of := fun_mk (st := s_number_of) l4 c4 k4, g_number_of := PySem.W.mg_of X G a4, b_number_of := (fun_mk (st := s_number_of) l4 c4 k4).binds (ps := ["text"]) (fun _ _ _ _ _ _ us hl => match us, hl with | [_], _ => rfl), a__law_box := f5, d__law_box := _, F__law_box := fun_mk (st := s__law_box) l5 c5 k5, g__law_box := PySem.W.mg_of X G a5, b__law_box := (fun_mk (st := s__law_box) l5 c5 k5).binds (ps := ["_law_script", "_law_k"]) (fun _ _ _ _ _ _ us hl => match us, hl with | [_, _], _ => rfl), a__law_take := f6, d__law_take := _, F__law_take := fun_mk (st := s__law_take) l6 c6 k6, g__law_take := PySem.W.mg_of X G a6, b__law_take := (fun_mk (st := s__law_take) l6 c6 k6).binds (ps := ["_law_box_here", "_law_many"]) (fun _ _ _ _ _ _ us hl => match us, hl with | [_, _], _ => rfl), a__law_word := f7, d__law_word := _, F__law_word := fun_mk (st := s__law_word) l7 c7 k7, g__law_word := PySem.W.mg_of X G a7, b__law_word := (fun_mk (st := s__law_word) l7 c7 k7).binds (ps := ["_law_box_here", "_law_signs", "_law_most"]) (fun _ _ _ _ _ _ us hl => match us, hl with | [_, _, _], _ => rfl), a__law_otherwise := f8, d__law_otherwise := _, F__law_otherwise := fun_mk (st := s__law_otherwise) l8 c8 k8, g__law_otherwise := PySem.W.mg_of X G a8, b__law_otherwise := (fun_mk (st := s__law_otherwise) l8 c8 k8).binds (ps := ["_law_box_here", "_law_text", "_law_signs"]) (fun _ _ _ _ _ _ us hl => match us, hl with | [_, _, _], _ => rfl), a__law_is_word := f9, d__law_is_word := _, F__law_is_word := fun_mk (st := s__law_is_word) l9 c9 k9, g__law_is_word := PySem.W.mg_of X G a9, b__law_is_word := (fun_mk (st := s__law_is_word) l9 c9 k9).binds (ps := ["_law_text", "_law_signs"]) (fun _ _ _ _ _ _ us hl => match us, hl with | [_, _], _ => rfl), a__law_due := f10, d__law_due := _, F__law_due := fun_mk (st := s__law_due) l10 c10 k10, g__law_due := PySem.W.mg_of X G a10, b__law_due := (fun_mk (st := s__law_due) l10 c10 k10).binds (ps := ["_law_text"]) (fun _ _ _ _ _ _ us hl => match us, hl with | [_], _ => rfl), a__law_texts := f11, d__law_texts := _, F__law_texts := fun_mk (st := s__law_texts) l11 c11 k11, g__law_texts := PySem.W.mg_of X G a11, b__law_texts := (fun_mk (st := s__law_texts) l11 c11 k11).binds (ps := ["_law_box_here"]) (fun _ _ _ _ _ _ us hl => match us, hl with | [_], _ => rfl), a_law := fa, d_law := _, F_law := fun_mk (st := s_law) l12 c12 k12, g_law := PySem.W.mg_of X G a12, b_law := (fun_mk (st := s_law) l12 c12 k12).binds (ps := ["_law_script"]) (fun _ _ _ _ _ _ us hl => match us, hl with | [_], _ => rfl), n_int := PySem.W.mg_none_of X G z_int, n_len := PySem.W.mg_none_of X G z_len, n_list := PySem.W.mg_none_of X G z_list, n_max := PySem.W.mg_none_of X G z_max, n_min := PySem.W.mg_none_of X G z_min, n_range := PySem.W.mg_none_of X G z_range, n_repr := PySem.W.mg_none_of X G z_repr, aC_MARKS := fC_MARKS, gC_MARKS := PySem.W.mg_of X G aC_MARKS, rC_MARKS := rC_MARKS }
  exact ⟨T.d_law, fun s v => .of_eq rfl, fun base _ _ => ok_law T⟩
end K02

namespace K02
open PySem L2 Mi
def shortB (z : Str) : Bool := decide ((z.length : Int) ≤ 6) && (Txt.isascii z && Txt.isalpha z)
theorem is_short_eq (n : Nat) (h : MH) (z : Str) (hz : szOk z.length = true) : f_is_short n [.str z] h = some (.bl (shortB z), h) := by
  simp [f_is_short, B_is_short, hz, shortB, mDef, mRet, mAndV, mOrV, mNotV, mOp, mUn, mCB, mCons, mNil, mVar, mC, mM0, mM1, mML0, mML, mCall, mTup, mLst, mIf, mIfS, mB, mOr, mAnd, mNot, mSet, mAsg, mgPat, mPat, mPats, mSeq, mNext, mDrop, mPar, mChain, mSl, mPart, mNoPart, mgSub, gLe, gLt, gGt, gGe, Mi.gSub, gI0, gInt, gAdd, gMul, gFdiv, gMod, gPow, gLen, gMax, gMin, gTwo, gInt1, gInt3, gIx, gSetIx, gCut, gAsk, gS0, gS1, gStarts, gFind, gUpper, gPartition, gIn, gNotIn, gIs, gIsNot, isW, Mi.isNon, andThen, thenS, caseB]
  cases Txt.isascii z <;> cases Txt.isalpha z <;> by_cases q : (z.length : Int) ≤ 6 <;> simp [q]
theorem is_name_eq (n : Nat) (h : MH) (z : Str) (hz : szOk z.length = true) : f_is_name n [.str z] h = some (.bl (shortB z && Txt.islower z), h) := by
  simp [f_is_name, B_is_name, hz, is_short_eq, mDef, mRet, mAndV, mOrV, mNotV, mOp, mUn, mCB, mCons, mNil, mVar, mC, mM0, mM1, mML0, mML, mCall, mTup, mLst, mIf, mIfS, mB, mOr, mAnd, mNot, mSet, mAsg, mgPat, mPat, mPats, mSeq, mNext, mDrop, mPar, mChain, mSl, mPart, mNoPart, mgSub, gLe, gLt, gGt, gGe, Mi.gSub, gI0, gInt, gAdd, gMul, gFdiv, gMod, gPow, gLen, gMax, gMin, gTwo, gInt1, gInt3, gIx, gSetIx, gCut, gAsk, gS0, gS1, gStarts, gFind, gUpper, gPartition, gIn, gNotIn, gIs, gIsNot, isW, Mi.isNon, andThen, thenS, caseB]
  cases shortB z <;> simp
theorem is_sign_eq (n : Nat) (h : MH) (z : Str) (hz : szOk z.length = true) : f_is_sign n [.str z] h = some (.bl (inW (.str z) (match c_MARKS with | .tup xs => xs | _ => []) || (shortB z && Txt.isupper z)), h) := by
  have e : hasW (.str z) c_MARKS h = some (inW (.str z) (match c_MARKS with | .tup xs => xs | _ => [])) := by
    simp [hasW, c_MARKS, seqOf, flatW]
  simp [f_is_sign, B_is_sign, hz, is_short_eq, e, mDef, mRet, mAndV, mOrV, mNotV, mOp, mUn, mCB, mCons, mNil, mVar, mC, mM0, mM1, mML0, mML, mCall, mTup, mLst, mIf, mIfS, mB, mOr, mAnd, mNot, mSet, mAsg, mgPat, mPat, mPats, mSeq, mNext, mDrop, mPar, mChain, mSl, mPart, mNoPart, mgSub, gLe, gLt, gGt, gGe, Mi.gSub, gI0, gInt, gAdd, gMul, gFdiv, gMod, gPow, gLen, gMax, gMin, gTwo, gInt1, gInt3, gIx, gSetIx, gCut, gAsk, gS0, gS1, gStarts, gFind, gUpper, gPartition, gIn, gNotIn, gIs, gIsNot, isW, Mi.isNon, andThen, thenS, caseB]
  generalize inW (.str z) (match c_MARKS with | .tup xs => xs | _ => []) = b
  cases b <;> cases shortB z <;> simp
theorem is_call_eq (n : Nat) (h : MH) (z : Str) (hz : szOk z.length = true) (h1 : szOk (Txt.partition z (Str.ofString ".")).1.length = true) (h2 : szOk (Txt.partition z (Str.ofString ".")).2.2.length = true) :
    f_is_call n [.str z] h = some (.bl ((shortB (Txt.partition z (Str.ofString ".")).1 && Txt.islower (Txt.partition z (Str.ofString ".")).1) && (shortB (Txt.partition z (Str.ofString ".")).2.2 && Txt.islower (Txt.partition z (Str.ofString ".")).2.2)), h) := by
  have e0 : ((Str.ofString ".").length == 0) = false := by decide
  have e0' : ¬ (Str.ofString ".").length = 0 := by decide
  simp [f_is_call, B_is_call, hz, h1, h2, e0, e0', is_name_eq, mDef, mRet, mAndV, mOrV, mNotV, mOp, mUn, mCB, mCons, mNil, mVar, mC, mM0, mM1, mML0, mML, mCall, mTup, mLst, mIf, mIfS, mB, mOr, mAnd, mNot, mSet, mAsg, mgPat, mPat, mPats, mSeq, mNext, mDrop, mPar, mChain, mSl, mPart, mNoPart, mgSub, gLe, gLt, gGt, gGe, Mi.gSub, gI0, gInt, gAdd, gMul, gFdiv, gMod, gPow, gLen, gMax, gMin, gTwo, gInt1, gInt3, gIx, gSetIx, gCut, gAsk, gS0, gS1, gStarts, gFind, gUpper, gPartition, gIn, gNotIn, gIs, gIsNot, isW, Mi.isNon, andThen, thenS, caseB]
  cases shortB (Txt.partition z (Str.ofString ".")).1 <;> cases Txt.islower (Txt.partition z (Str.ofString ".")).1 <;> simp
def numB (z : Str) : W := if (z.length : Int) > 3 ∨ Txt.isascii z = false ∨ Txt.isdigit z = false ∨ ((z.length : Int) > 1 ∧ Txt.startswith z (Str.ofString "0") = true) then .non else match PySem.intText? z with
  | some i => .int i
  | none => .bl true
theorem number_of_eq (n : Nat) (h : MH) (z : Str) (hz : szOk z.length = true) (hn : (z.length : Int) ≤ 3 → Txt.isascii z = true → Txt.isdigit z = true → ∃ i, PySem.intText? z = some i) : f_number_of n [.str z] h = some (numB z, h) := by
  unfold numB
  by_cases q : (z.length : Int) > 3
  · have q' : (3 : Int) < z.length := q
    simp [f_number_of, B_number_of, hz, q, q', mDef, mRet, mAndV, mOrV, mNotV, mOp, mUn, mCB, mCons, mNil, mVar, mC, mM0, mM1, mML0, mML, mCall, mTup, mLst, mIf, mIfS, mB, mOr, mAnd, mNot, mSet, mAsg, mgPat, mPat, mPats, mSeq, mNext, mDrop, mPar, mChain, mSl, mPart, mNoPart, mgSub, gLe, gLt, gGt, gGe, Mi.gSub, gI0, gInt, gAdd, gMul, gFdiv, gMod, gPow, gLen, gMax, gMin, gTwo, gInt1, gInt3, gIx, gSetIx, gCut, gAsk, gS0, gS1, gStarts, gFind, gUpper, gPartition, gIn, gNotIn, gIs, gIsNot, isW, Mi.isNon, andThen, thenS, caseB]
  · have q' : ¬ (3 : Int) < z.length := q
    cases a : Txt.isascii z
    · simp [f_number_of, B_number_of, hz, q, q', a, mDef, mRet, mAndV, mOrV, mNotV, mOp, mUn, mCB, mCons, mNil, mVar, mC, mM0, mM1, mML0, mML, mCall, mTup, mLst, mIf, mIfS, mB, mOr, mAnd, mNot, mSet, mAsg, mgPat, mPat, mPats, mSeq, mNext, mDrop, mPar, mChain, mSl, mPart, mNoPart, mgSub, gLe, gLt, gGt, gGe, Mi.gSub, gI0, gInt, gAdd, gMul, gFdiv, gMod, gPow, gLen, gMax, gMin, gTwo, gInt1, gInt3, gIx, gSetIx, gCut, gAsk, gS0, gS1, gStarts, gFind, gUpper, gPartition, gIn, gNotIn, gIs, gIsNot, isW, Mi.isNon, andThen, thenS, caseB]
    · cases d : Txt.isdigit z
      · simp [f_number_of, B_number_of, hz, q, q', a, d, mDef, mRet, mAndV, mOrV, mNotV, mOp, mUn, mCB, mCons, mNil, mVar, mC, mM0, mM1, mML0, mML, mCall, mTup, mLst, mIf, mIfS, mB, mOr, mAnd, mNot, mSet, mAsg, mgPat, mPat, mPats, mSeq, mNext, mDrop, mPar, mChain, mSl, mPart, mNoPart, mgSub, gLe, gLt, gGt, gGe, Mi.gSub, gI0, gInt, gAdd, gMul, gFdiv, gMod, gPow, gLen, gMax, gMin, gTwo, gInt1, gInt3, gIx, gSetIx, gCut, gAsk, gS0, gS1, gStarts, gFind, gUpper, gPartition, gIn, gNotIn, gIs, gIsNot, isW, Mi.isNon, andThen, thenS, caseB]
      · obtain ⟨i, hi⟩ := hn (by omega) a d
        have hl : z.length ≤ 640 := by omega
        by_cases r : (z.length : Int) > 1
        · have r' : (1 : Int) < z.length := r
          cases st : Txt.startswith z (Str.ofString "0")
          · simp [f_number_of, B_number_of, hz, q, q', a, d, r, r', st, hi, hl, mDef, mRet, mAndV, mOrV, mNotV, mOp, mUn, mCB, mCons, mNil, mVar, mC, mM0, mM1, mML0, mML, mCall, mTup, mLst, mIf, mIfS, mB, mOr, mAnd, mNot, mSet, mAsg, mgPat, mPat, mPats, mSeq, mNext, mDrop, mPar, mChain, mSl, mPart, mNoPart, mgSub, gLe, gLt, gGt, gGe, Mi.gSub, gI0, gInt, gAdd, gMul, gFdiv, gMod, gPow, gLen, gMax, gMin, gTwo, gInt1, gInt3, gIx, gSetIx, gCut, gAsk, gS0, gS1, gStarts, gFind, gUpper, gPartition, gIn, gNotIn, gIs, gIsNot, isW, Mi.isNon, andThen, thenS, caseB]
          · simp [f_number_of, B_number_of, hz, q, q', a, d, r, r', st, hi, hl, mDef, mRet, mAndV, mOrV, mNotV, mOp, mUn, mCB, mCons, mNil, mVar, mC, mM0, mM1, mML0, mML, mCall, mTup, mLst, mIf, mIfS, mB, mOr, mAnd, mNot, mSet, mAsg, mgPat, mPat, mPats, mSeq, mNext, mDrop, mPar, mChain, mSl, mPart, mNoPart, mgSub, gLe, gLt, gGt, gGe, Mi.gSub, gI0, gInt, gAdd, gMul, gFdiv, gMod, gPow, gLen, gMax, gMin, gTwo, gInt1, gInt3, gIx, gSetIx, gCut, gAsk, gS0, gS1, gStarts, gFind, gUpper, gPartition, gIn, gNotIn, gIs, gIsNot, isW, Mi.isNon, andThen, thenS, caseB]
        · have r' : ¬ (1 : Int) < z.length := r
          simp [f_number_of, B_number_of, hz, q, q', a, d, r, r', hi, hl, mDef, mRet, mAndV, mOrV, mNotV, mOp, mUn, mCB, mCons, mNil, mVar, mC, mM0, mM1, mML0, mML, mCall, mTup, mLst, mIf, mIfS, mB, mOr, mAnd, mNot, mSet, mAsg, mgPat, mPat, mPats, mSeq, mNext, mDrop, mPar, mChain, mSl, mPart, mNoPart, mgSub, gLe, gLt, gGt, gGe, Mi.gSub, gI0, gInt, gAdd, gMul, gFdiv, gMod, gPow, gLen, gMax, gMin, gTwo, gInt1, gInt3, gIx, gSetIx, gCut, gAsk, gS0, gS1, gStarts, gFind, gUpper, gPartition, gIn, gNotIn, gIs, gIsNot, isW, Mi.isNon, andThen, thenS, caseB]
end K02

namespace K02
open PySem L2 Mi
theorem atI_0 {α : Type} {x : α} {r : List α} : L2.atI (x :: r) 0 = some x := by
  simp [L2.atI, ixN]
theorem atI_1 {α : Type} {x y : α} {r : List α} : L2.atI (x :: y :: r) 1 = some y := by
  have : (1 : Int) < (r.length : Int) + 1 + 1 := by omega
  simp [L2.atI, ixN, this]
theorem atI_2 {α : Type} {x y z : α} {r : List α} : L2.atI (x :: y :: z :: r) 2 = some z := by
  have : (2 : Int) < (r.length : Int) + 1 + 1 + 1 := by omega
  simp [L2.atI, ixN, this]
theorem take_spec {n b : Nat} {h : MH} {m : Int} (hb : IsBox h b) (h0 : 0 < m) (h1 : m < 1073741824) : ∃ d h', f__law_take n [.ref b, .int m] h = some (.int d, h') ∧ 0 ≤ d ∧ d < m ∧ Bx b h h' := by
  obtain ⟨a, s, c, e⟩ := hb
  have hlt := lt_of_get e
  have e1 : Mi.lstAt h b = some [.int a, .int s, .int c] := lstAt_lst e
  have e2 : lstM h b = some [.int a, .int s, .int c] := lstM_lst e
  have x0 : ixN 3 0 = some 0 := by decide
  have x1 : ixN 3 1 = some 1 := by decide
  have x2 : ixN 3 2 = some 2 := by decide
  have bx : ∀ a' s' c' : Int, Bx b h (h.set b (.lst [.int a', .int s', .int c'])) := fun a' s' c' =>
    ⟨by simp, fun i _ hi => List.getElem?_set_ne (fun z => hi z.symm), a', s', c', List.getElem?_set_self hlt⟩
  by_cases q : 0 < a
  · refine ⟨a % m, h.set b (.lst [.int (a / m), .int s, .int c]), ?_, Int.emod_nonneg _ (by omega), Int.emod_lt_of_pos _ h0, bx _ _ _⟩
    simp [f__law_take, B__law_take, seqOf, e1, e2, atI_0, x0, q, h0, h1, mDef, mRet, mAndV, mOrV, mNotV, mOp, mUn, mCB, mCons, mNil, mVar, mC, mM0, mM1, mML0, mML, mCall, mTup, mLst, mIf, mIfS, mB, mOr, mAnd, mNot, mSet, mAsg, mgPat, mPat, mPats, mSeq, mNext, mDrop, mPar, mChain, mSl, mPart, mNoPart, mgSub, gLe, gLt, gGt, gGe, Mi.gSub, gI0, gInt, gAdd, gMul, gFdiv, gMod, gPow, gLen, gMax, gMin, gTwo, gInt1, gInt3, gIx, gSetIx, gCut, gAsk, gS0, gS1, gStarts, gFind, gUpper, gPartition, gIn, gNotIn, gIs, gIsNot, isW, Mi.isNon, andThen, thenS, caseB]
  · have st1 : ∀ xs, Mi.lstAt (h.set b (.lst xs)) b = some xs := fun xs => lstAt_lst (List.getElem?_set_self hlt)
    have st2 : ∀ xs, lstM (h.set b (.lst xs)) b = some xs := fun xs => lstM_lst (List.getElem?_set_self hlt)
    let one := (s + 104717 * (c + 1)) * 69621 % 2147483647
    let s' := (one * 48271 + 30097) % 2147483629 + 1
    refine ⟨(one * 2147483647 + s') / 8167 % m, h.set b (.lst [.int a, .int s', .int (c + 1)]), ?_, Int.emod_nonneg _ (by omega), Int.emod_lt_of_pos _ h0, bx _ _ _⟩
    simp [f__law_take, B__law_take, seqOf, e1, e2, st1, st2, atI_0, atI_1, atI_2, x0, x1, x2, q, h0, h1, cMul, one, s', mDef, mRet, mAndV, mOrV, mNotV, mOp, mUn, mCB, mCons, mNil, mVar, mC, mM0, mM1, mML0, mML, mCall, mTup, mLst, mIf, mIfS, mB, mOr, mAnd, mNot, mSet, mAsg, mgPat, mPat, mPats, mSeq, mNext, mDrop, mPar, mChain, mSl, mPart, mNoPart, mgSub, gLe, gLt, gGt, gGe, Mi.gSub, gI0, gInt, gAdd, gMul, gFdiv, gMod, gPow, gLen, gMax, gMin, gTwo, gInt1, gInt3, gIx, gSetIx, gCut, gAsk, gS0, gS1, gStarts, gFind, gUpper, gPartition, gIn, gNotIn, gIs, gIsNot, isW, Mi.isNon, andThen, thenS, caseB]
theorem atI_map {ns : List Int} {i : Nat} (hi : i < ns.length) : L2.atI (ns.map W.int) (i : Int) = some (.int ns[i]) := by
  have h2 : (i : Int) < (ns.length : Int) := by omega
  simp [L2.atI, ixN, h2, hi]
theorem box_tail {n : Nat} {h : MH} {v : Int} {x0 x1 x2 : Option W} (hn : x2 = some (.int v)) (k : Int) (hx : x1 = some (.int k)) (_hk : -1000 ≤ k ∧ k ≤ 1000) : ∃ b h', (mSeq (mSet 3 (mOp gAdd (mOp gMod (mOp gAdd (mOp gAdd (mOp gMul (mOp gMod (mVar 2) (mC (.int 2147483629))) (mC (.int 48271))) (mOp gMul (mC (.int 39841)) (mVar 1))) (mC (.int 11))) (mC (.int 2147483629))) (mC (.int 1))))
    (mRet (mLst (mCons (mOp gIx (mLst (mCons (mC (.int 0)) (mCons (mVar 2) mNil))) (mCB gInt3 (mCons (mOp gGe (mVar 2) (mOp gPow (mC (.int 10)) (mC (.int 18)))) mNil))) (mCons (mVar 3) (mCons (mC (.int 0)) mNil)))))) n [x0, x1, x2, none] h = some (.rt (.ref b), [x0, x1, x2, some (.int ((v % 2147483629 * 48271 + 39841 * k + 11) % 2147483629 + 1))], h') ∧ Ext h h' ∧ h.length ≤ b ∧ IsBox h' b := by
  subst hn; subst hx
  have e2 : ∀ w, Mi.lstAt (h ++ [.lst [.int 0, w]]) h.length = some [.int 0, w] := fun w => lstAt_lst get_snoc_self
  by_cases q : (10 : Int) ^ 18 ≤ v
  · refine ⟨h.length + 1, (h ++ [.lst [.int 0, .int v]]) ++ [.lst [.int v, .int ((v % 2147483629 * 48271 + 39841 * k + 11) % 2147483629 + 1), .int 0]], ?_, (Ext.app _ _).trans (Ext.app _ _), by omega, ⟨v, (v % 2147483629 * 48271 + 39841 * k + 11) % 2147483629 + 1, 0, by simp⟩⟩
    have q' : (1000000000000000000 : Int) ≤ v := q
    simp [seqOf, e2, atI_0, atI_1, newL, szOk, cMul, q', mDef, mRet, mAndV, mOrV, mNotV, mOp, mUn, mCB, mCons, mNil, mVar, mC, mM0, mM1, mML0, mML, mCall, mTup, mLst, mIf, mIfS, mB, mOr, mAnd, mNot, mSet, mAsg, mgPat, mPat, mPats, mSeq, mNext, mDrop, mPar, mChain, mSl, mPart, mNoPart, mgSub, gLe, gLt, gGt, gGe, Mi.gSub, gI0, gInt, gAdd, gMul, gFdiv, gMod, gPow, gLen, gMax, gMin, gTwo, gInt1, gInt3, gIx, gSetIx, gCut, gAsk, gS0, gS1, gStarts, gFind, gUpper, gPartition, gIn, gNotIn, gIs, gIsNot, isW, Mi.isNon, andThen, thenS, caseB]
  · refine ⟨h.length + 1, (h ++ [.lst [.int 0, .int v]]) ++ [.lst [.int 0, .int ((v % 2147483629 * 48271 + 39841 * k + 11) % 2147483629 + 1), .int 0]], ?_, (Ext.app _ _).trans (Ext.app _ _), by omega, ⟨0, (v % 2147483629 * 48271 + 39841 * k + 11) % 2147483629 + 1, 0, by simp⟩⟩
    have q' : ¬ (1000000000000000000 : Int) ≤ v := q
    simp [seqOf, e2, atI_0, atI_1, newL, szOk, cMul, q', mDef, mRet, mAndV, mOrV, mNotV, mOp, mUn, mCB, mCons, mNil, mVar, mC, mM0, mM1, mML0, mML, mCall, mTup, mLst, mIf, mIfS, mB, mOr, mAnd, mNot, mSet, mAsg, mgPat, mPat, mPats, mSeq, mNext, mDrop, mPar, mChain, mSl, mPart, mNoPart, mgSub, gLe, gLt, gGt, gGe, Mi.gSub, gI0, gInt, gAdd, gMul, gFdiv, gMod, gPow, gLen, gMax, gMin, gTwo, gInt1, gInt3, gIx, gSetIx, gCut, gAsk, gS0, gS1, gStarts, gFind, gUpper, gPartition, gIn, gNotIn, gIs, gIsNot, isW, Mi.isNon, andThen, thenS, caseB]
theorem seq_step {f g : MSt} {n : Nat} {s s1 : MS} {h h1 : MH} (e : f n s h = some (.nx, s1, h1)) : mSeq f g n s h = g n s1 h1 := by
  unfold mSeq; rw [e]
theorem def_ret {N n : Nat} {B : MSt} {ws : List W} {h h' : MH} {w : W} {s' : MS} (e : B n (ws.map some ++ List.replicate (N - ws.length) none) h = some (.rt w, s', h')) : mDef N B n ws h = some (w, h') := by
  unfold mDef; rw [e]
theorem box_spec {n : Nat} {h : MH} {ns : List Int} {k : Nat} (h0 : h[0]? = some (.fz (ns.map .int))) (hk : k ≤ 2) (hl : ns.length ≤ 63) : ∃ b h', f__law_box n [.ref 0, .int k] h = some (.ref b, h') ∧ Ext h h' ∧ h.length ≤ b ∧ IsBox h' b := by
  have e1 : Mi.lstAt h 0 = some (ns.map .int) := by simp [Mi.lstAt, h0]
  have c2 : ∀ i, cMul i 71167 = true := fun i => by simp [cMul]
  have key : ∃ v : Int, (mIfS (mB (mOp gLt (mVar 1) (mCB gLen (mCons (mVar 0) mNil)))) (mSet 2 (mCB gMax (mCons (mOp gIx (mVar 0) (mVar 1)) (mCons (mOp Mi.gSub (mC (.int 0)) (mOp gIx (mVar 0) (mVar 1))) mNil)))) (mIfS (mB (mOp gGt (mCB gLen (mCons (mVar 0) mNil)) (mC (.int 0)))) (mSet 2 (mOp gAdd (mVar 2) (mOp gMul (mOp gMod (mOp gIx (mVar 0) (mOp gMod (mVar 1) (mCB gLen (mCons (mVar 0) mNil)))) (mC (.int 2147483629))) (mC (.int 71167))))) mNext)) n [some (.ref 0), some (.int k), some (.int (8087 * (k : Int) + 31)), none] h = some (.nx, [some (.ref 0), some (.int k), some (.int v), none], h) := by
    by_cases q : k < ns.length
    · have q' : (k : Int) < (ns.length : Int) := by omega
      have ea := atI_map q
      refine ⟨if (0 - ns[k]) > ns[k] then 0 - ns[k] else ns[k], ?_⟩
      simp [seqOf, e1, q, ea, mDef, mRet, mAndV, mOrV, mNotV, mOp, mUn, mCB, mCons, mNil, mVar, mC, mM0, mM1, mML0, mML, mCall, mTup, mLst, mIf, mIfS, mB, mOr, mAnd, mNot, mSet, mAsg, mgPat, mPat, mPats, mSeq, mNext, mDrop, mPar, mChain, mSl, mPart, mNoPart, mgSub, gLe, gLt, gGt, gGe, Mi.gSub, gI0, gInt, gAdd, gMul, gFdiv, gMod, gPow, gLen, gMax, gMin, gTwo, gInt1, gInt3, gIx, gSetIx, gCut, gAsk, gS0, gS1, gStarts, gFind, gUpper, gPartition, gIn, gNotIn, gIs, gIsNot, isW, Mi.isNon, andThen, thenS, caseB]
    · by_cases z : 0 < ns.length
      · have q' : ¬ (k : Int) < (ns.length : Int) := by omega
        have hm : k % ns.length < ns.length := Nat.mod_lt _ z
        have ea := atI_map hm
        have ea' : L2.atI (ns.map W.int) ((k : Int) % (ns.length : Int)) = some (.int ns[k % ns.length]) := by
          rw [show ((k : Int) % (ns.length : Int)) = ((k % ns.length : Nat) : Int) from (Int.natCast_emod k ns.length).symm]
          exact ea
        refine ⟨8087 * (k : Int) + 31 + ns[k % ns.length] % 2147483629 * 71167, ?_⟩
        simp [seqOf, e1, q, z, ea', c2, mDef, mRet, mAndV, mOrV, mNotV, mOp, mUn, mCB, mCons, mNil, mVar, mC, mM0, mM1, mML0, mML, mCall, mTup, mLst, mIf, mIfS, mB, mOr, mAnd, mNot, mSet, mAsg, mgPat, mPat, mPats, mSeq, mNext, mDrop, mPar, mChain, mSl, mPart, mNoPart, mgSub, gLe, gLt, gGt, gGe, Mi.gSub, gI0, gInt, gAdd, gMul, gFdiv, gMod, gPow, gLen, gMax, gMin, gTwo, gInt1, gInt3, gIx, gSetIx, gCut, gAsk, gS0, gS1, gStarts, gFind, gUpper, gPartition, gIn, gNotIn, gIs, gIsNot, isW, Mi.isNon, andThen, thenS, caseB]
      · refine ⟨8087 * (k : Int) + 31, ?_⟩
        simp [seqOf, e1, q, z, mDef, mRet, mAndV, mOrV, mNotV, mOp, mUn, mCB, mCons, mNil, mVar, mC, mM0, mM1, mML0, mML, mCall, mTup, mLst, mIf, mIfS, mB, mOr, mAnd, mNot, mSet, mAsg, mgPat, mPat, mPats, mSeq, mNext, mDrop, mPar, mChain, mSl, mPart, mNoPart, mgSub, gLe, gLt, gGt, gGe, Mi.gSub, gI0, gInt, gAdd, gMul, gFdiv, gMod, gPow, gLen, gMax, gMin, gTwo, gInt1, gInt3, gIx, gSetIx, gCut, gAsk, gS0, gS1, gStarts, gFind, gUpper, gPartition, gIn, gNotIn, gIs, gIsNot, isW, Mi.isNon, andThen, thenS, caseB]
  obtain ⟨v, ev⟩ := key
  obtain ⟨b, h', et, r⟩ := box_tail (n := n) (h := h) (v := v) (x0 := some (.ref 0)) (x1 := some (.int k)) rfl k rfl (by omega)
  have eb : B__law_box n [some (.ref 0), some (.int k), none, none] h = some (.rt (.ref b), [some (.ref 0), some (.int k), some (.int v), some (.int ((v % 2147483629 * 48271 + 39841 * k + 11) % 2147483629 + 1))], h') := by
    unfold B__law_box
    have c1 : cMul 8087 k = true := by simp [cMul]
    rw [seq_step (s1 := [some (.ref 0), some (.int k), some (.int (8087 * (k : Int) + 31)), none]) (h1 := h) (by simp [c1, mDef, mRet, mAndV, mOrV, mNotV, mOp, mUn, mCB, mCons, mNil, mVar, mC, mM0, mM1, mML0, mML, mCall, mTup, mLst, mIf, mIfS, mB, mOr, mAnd, mNot, mSet, mAsg, mgPat, mPat, mPats, mSeq, mNext, mDrop, mPar, mChain, mSl, mPart, mNoPart, mgSub, gLe, gLt, gGt, gGe, Mi.gSub, gI0, gInt, gAdd, gMul, gFdiv, gMod, gPow, gLen, gMax, gMin, gTwo, gInt1, gInt3, gIx, gSetIx, gCut, gAsk, gS0, gS1, gStarts, gFind, gUpper, gPartition, gIn, gNotIn, gIs, gIsNot, isW, Mi.isNon, andThen, thenS, caseB]), seq_step ev, et]
  exact ⟨b, h', def_ret eb, r⟩
end K02

namespace K02
open PySem L2 Mi
/-- a text of few signs, each below 128 -/
structure GoodT (L : Nat) (z : Str) : Prop where
  len : z.length ≤ L
  low : ∀ c ∈ z.cps.toList, c < 128
theorem GoodT.mono {L M : Nat} {z : Str} (g : GoodT L z) (h : L ≤ M) : GoodT M z := ⟨Nat.le_trans g.len h, g.low⟩
theorem GoodT.append {L M : Nat} {x y : Str} (a : GoodT L x) (b : GoodT M y) : GoodT (L + M) (x ++ y) := by
  refine ⟨by rw [Str.length_append]; exact Nat.add_le_add a.len b.len, fun c hc => ?_⟩
  have : c ∈ x.cps.toList ++ y.cps.toList := by
    rw [← Array.toList_append]; exact hc
  rcases List.mem_append.mp this with q | q
  · exact a.low c q
  · exact b.low c q
theorem GoodT.cut {L : Nat} {z : Str} (g : GoodT L z) (lo hi : Option Int) : GoodT L (cutS z lo hi) := by
  refine ⟨?_, fun c hc => ?_⟩
  · have : (cutS z lo hi).length = ((z.cps.toList.drop (HT.sIx z.length 0 lo)).take (HT.sIx z.length z.length hi - HT.sIx z.length 0 lo)).length := by
      show (List.toArray _).size = _
      rw [List.size_toArray]
    rw [this, List.length_take, List.length_drop, Array.length_toList]
    have := g.len
    have e : z.cps.size = z.length := rfl
    omega
  · have : c ∈ ((z.cps.toList.drop (HT.sIx z.length 0 lo)).take (HT.sIx z.length z.length hi - HT.sIx z.length 0 lo)) := by simpa [cutS] using hc
    exact g.low c (List.mem_of_mem_drop (List.mem_of_mem_take this))
theorem GoodT.upper {L : Nat} {z : Str} (g : GoodT L z) : GoodT L (Txt.upper z) := by
  rw [PyProof.Rows.upper_ascii g.low]
  refine ⟨by show (z.cps.map _).size ≤ L; rw [Array.size_map]; exact g.len, fun c hc => ?_⟩
  have : ∃ a ∈ z.cps.toList, PyProof.Rows.up1 a = c := by simpa using hc
  obtain ⟨a, ha, rfl⟩ := this
  have q := g.low a ha
  have all : ∀ b : Fin 128, PyProof.Rows.up1 b < 128 := by decide +kernel
  exact all ⟨a, q⟩
theorem GoodT.sz {L : Nat} {z : Str} (g : GoodT L z) (h : L ≤ 5000) : szOk z.length = true := by
  have := g.len
  simp [szOk]; omega
theorem GoodT.ok {L : Nat} {z : Str} (g : GoodT L z) : PyData.strOk z = true := by
  unfold PyData.strOk
  rw [Array.all_eq_true_iff_forall_mem]
  intro c hc
  have := g.low c (by simpa using hc)
  simp; omega
theorem GoodT.sign {z : Str} {L : Nat} (g : GoodT L z) {c : Nat} (hc : c ∈ z.cps.toList) : GoodT 1 ⟨#[c]⟩ := ⟨Nat.le_refl _, fun d hd => by
  have : d = c := by simpa using hd
  subst this; exact g.low _ hc⟩
theorem glue_good {M : Nat} : ∀ {ys : List Str} (acc : Array Nat), (∀ y ∈ ys, GoodT M y) → (∀ c ∈ acc.toList, c < 128) →
    (ys.foldl (fun acc p => acc ++ (Str.mk #[]).cps ++ p.cps) acc).size ≤ acc.size + M * ys.length ∧ ∀ c ∈ (ys.foldl (fun acc p => acc ++ (Str.mk #[]).cps ++ p.cps) acc).toList, c < 128
  | [], acc, _, ha => ⟨by simp, ha⟩
  | y :: ys, acc, hy, ha => by
    have gy := hy y (by simp)
    obtain ⟨h1, h2⟩ := glue_good (ys := ys) (acc ++ (Str.mk #[]).cps ++ y.cps) (fun z hz => hy z (by simp [hz])) (fun c hc => by
      have : c ∈ acc.toList ∨ c ∈ y.cps.toList := by simpa using hc
      rcases this with q | q
      · exact ha c q
      · exact gy.low c q)
    refine ⟨Nat.le_trans h1 ?_, h2⟩
    have : (acc ++ (Str.mk #[]).cps ++ y.cps).size = acc.size + y.length := by simp [Str.length]
    rw [this, List.length_cons, Nat.mul_succ]
    have := gy.len
    omega
theorem join_good {M : Nat} {ys : List Str} (hy : ∀ y ∈ ys, GoodT M y) : GoodT (M * ys.length) (Txt.join ⟨#[]⟩ ys) := by
  unfold Txt.join Builtin.Str.glued
  cases ys with
  | nil => exact ⟨by simp [Str.length, Str.empty], fun c hc => by simp [Str.empty] at hc⟩
  | cons y r =>
    have gy := hy y (by simp)
    obtain ⟨h1, h2⟩ := glue_good (M := M) (ys := r) y.cps (fun z hz => hy z (by simp [hz])) gy.low
    refine ⟨Nat.le_trans h1 ?_, h2⟩
    rw [List.length_cons, Nat.mul_succ]
    have := gy.len
    have e : y.cps.size = y.length := rfl
    omega

/-! ### words that are drawn -/
theorem atI_nat {α : Type} {xs : List α} {i : Nat} {x : α} (e : xs[i]? = some x) : L2.atI xs (i : Int) = some x := by
  have hi := lt_of_get e
  have h2 : (i : Int) < (xs.length : Int) := by omega
  simp [L2.atI, ixN, h2, e]
theorem strsW_map : ∀ ys : List Str, strsW (ys.map W.str) = some ys
  | [] => rfl
  | y :: r => by simp [strsW, strsW_map r]
theorem sum_le : ∀ {ys : List Str}, (∀ y ∈ ys, GoodT 1 y) → (ys.map (·.length)).sum ≤ ys.length
  | [], _ => by simp
  | y :: r, hy => by
    have a := (hy y (by simp)).len
    have b := sum_le (ys := r) fun z hz => hy z (by simp [hz])
    simp; omega
theorem word_spec {n b : Nat} {h : MH} {g : Str} {L most : Nat} (hn : 1000 ≤ n) (hb : IsBox h b) (hg : GoodT L g) (hL : L ≤ 1000) (h0 : 0 < g.length) (hm : most ≤ 100) :
    ∃ z h', f__law_word n [.ref b, .str g, .int most] h = some (.str z, h') ∧ GoodT most z ∧ Bx b h h' := by
  obtain ⟨d, h1, e1, d0, d1, B1⟩ := take_spec (n := n) (m := (most : Int) + 1) hb (by omega) (by omega)
  have hlt : b < h.length := by
    obtain ⟨_, _, _, e⟩ := hb
    exact lt_of_get e
  have hb1 : b < h1.length := Nat.lt_of_lt_of_le hlt B1.len
  let xs := rangeW 0 d.toNat
  have hxs : xs.length = d.toNat := by simp [xs, rangeW]
  obtain ⟨acc, h', er, ed, eI⟩ := lc_run (src := .items xs) (xs := xs) (p := .nm 3) (t := mYes) (f := mOp gIx (mVar 1) (mCall f__law_take (mCons (mVar 0) (mCons (mCB gLen (mCons (mVar 1) mNil)) mNil)))) (n := n) (d := h1.length) (s0 := mwipe [some (.ref b), some (.str g), some (.int most), none] [3])
    (fun i acc hh => Bx b h1 hh ∧ acc.length = i ∧ ∃ ys : List Str, acc = ys.map .str ∧ ∀ y ∈ ys, GoodT 1 y) (fun _ _ _ _ _ => rfl)
    (fun i x acc hh ex ⟨I1, I2, ys, I3, I4⟩ hd => by
      have hsz : szOk g.length = true := hg.sz (by omega)
      obtain ⟨k, h2, e2, k0, k1, B2⟩ := take_spec (n := n) (m := (g.length : Int)) I1.box (by omega) (by have := hg.len; omega)
      have hkl : k.toNat < g.cps.toList.length := by
        rw [Array.length_toList]; have e : g.cps.size = g.length := rfl; omega
      obtain ⟨ch, hch⟩ : ∃ ch, g.cps.toList[k.toNat]? = some ch := ⟨_, List.getElem?_eq_getElem hkl⟩
      have ek : L2.atI g.cps.toList k = some ch := by
        have := atI_nat hch
        rwa [Int.toNat_of_nonneg k0] at this
      refine ⟨[some (.ref b), some (.str g), some (.int most), some x], by simp [mPat, mwipe], .inr ⟨hh, .str ⟨#[ch]⟩, h2, rfl, ?_, ?_, ?_, ?_⟩⟩
      · simp [hsz, e2, ek, mDef, mRet, mAndV, mOrV, mNotV, mOp, mUn, mCB, mCons, mNil, mVar, mC, mM0, mM1, mML0, mML, mCall, mTup, mLst, mIf, mIfS, mB, mOr, mAnd, mNot, mSet, mAsg, mgPat, mPat, mPats, mSeq, mNext, mDrop, mPar, mChain, mSl, mPart, mNoPart, mgSub, gLe, gLt, gGt, gGe, Mi.gSub, gI0, gInt, gAdd, gMul, gFdiv, gMod, gPow, gLen, gMax, gMin, gTwo, gInt1, gInt3, gIx, gSetIx, gCut, gAsk, gS0, gS1, gStarts, gFind, gUpper, gPartition, gIn, gNotIn, gIs, gIsNot, isW, Mi.isNon, andThen, thenS, caseB]
      · exact B2.get hd (by omega)
      · have : xs.length ≤ 101 := by rw [hxs]; omega
        have := lt_of_get ex
        omega
      · refine ⟨(I1.trans B2).set (Nat.le_refl _) (by omega), by simp [I2], ys ++ [⟨#[ch]⟩], by simp [I3], fun y hy => ?_⟩
        rcases List.mem_append.mp hy with q | q
        · exact I4 y q
        · have : y = ⟨#[ch]⟩ := by simpa using q
          subst this
          exact hg.sign (List.mem_of_getElem? hch))
    n 0 [] (h1 ++ [.lst []]) (Nat.zero_le _) (by rw [hxs]; omega) ⟨(Bx.refl B1.box).ext (Ext.app _ _), rfl, [], rfl, by simp⟩ get_snoc_self
  obtain ⟨B3, al, ys, rfl, hy⟩ := eI
  have st := strsW_map ys
  have hj := join_good hy
  have hyl : ys.length = d.toNat := by rw [← hxs, ← al]; simp
  refine ⟨Txt.join ⟨#[]⟩ ys, h', ?_, hj.mono (by omega), B1.trans B3⟩
  have hsum := sum_le hy
  have hsum2 : (ys.map (·.length)).sum + ys.length * (Str.ofString "").length ≤ 16777216 := by
    have : (Str.ofString "").length = 0 := by decide
    rw [this]; omega
  have hemp : Str.ofString "" = ⟨#[]⟩ := by decide
  have sm : small62 d = true := by simp [small62]; omega
  have el : mLc (miRange1 (mCall f__law_take (mCons (mVar 0) (mCons (mOp gAdd (mVar 2) (mC (.int 1))) mNil)))) (.nm 3) mYes (mOp gIx (mVar 1) (mCall f__law_take (mCons (mVar 0) (mCons (mCB gLen (mCons (mVar 1) mNil)) mNil)))) [3] n [some (.ref b), some (.str g), some (.int most), none] h = some (.ref h1.length, h') := by
    unfold mLc
    have : miRange1 (mCall f__law_take (mCons (mVar 0) (mCons (mOp gAdd (mVar 2) (mC (.int 1))) mNil))) n [some (.ref b), some (.str g), some (.int most), none] h = some (.items xs, h1) := by
      simp [miRange1, e1, sm, xs, mDef, mRet, mAndV, mOrV, mNotV, mOp, mUn, mCB, mCons, mNil, mVar, mC, mM0, mM1, mML0, mML, mCall, mTup, mLst, mIf, mIfS, mB, mOr, mAnd, mNot, mSet, mAsg, mgPat, mPat, mPats, mSeq, mNext, mDrop, mPar, mChain, mSl, mPart, mNoPart, mgSub, gLe, gLt, gGt, gGe, Mi.gSub, gI0, gInt, gAdd, gMul, gFdiv, gMod, gPow, gLen, gMax, gMin, gTwo, gInt1, gInt3, gIx, gSetIx, gCut, gAsk, gS0, gS1, gStarts, gFind, gUpper, gPartition, gIn, gNotIn, gIs, gIsNot, isW, Mi.isNon, andThen, thenS, caseB]
    rw [this]
    exact er
  have ej : gJoin (.str (Str.ofString "")) [.ref h1.length] h' = some (.str (Txt.join ⟨#[]⟩ ys), h') := by
    simp [gJoin, seqOf, lstAt_lst ed, st, hsum2]
    rw [hemp]
  simp only [f__law_word, mDef, B__law_word, mRet, mM1, andThen, thenS, mC, el, ej, List.map, List.length, List.replicate, List.append, List.cons_append, List.nil_append, Nat.reduceSub, Nat.reduceAdd]
end K02

namespace K02
open PySem L2 Mi
theorem otherwise_spec {n b : Nat} {h : MH} {z g : Str} {L M : Nat} (hb : IsBox h b) (hz : GoodT L z) (hL : L ≤ 1000) (hg : GoodT M g) (hM : M ≤ 1000) (h0 : 0 < g.length) :
    ∃ z' h', f__law_otherwise n [.ref b, .str z, .str g] h = some (.str z', h') ∧ GoodT (L + 1 + L) z' ∧ Bx b h h' := by
  have lz := hz.len
  obtain ⟨at', h1, e1, a0, a1, B1⟩ := take_spec (n := n) (m := (z.length : Int) + 1) hb (by omega) (by omega)
  obtain ⟨way, h2, e2, w0, w1, B2⟩ := take_spec (n := n) (m := 3) B1.box (by omega) (by omega)
  have lg := hg.len
  obtain ⟨k, h3, e3, k0, k1, B3⟩ := take_spec (n := n) (m := (g.length : Int)) B2.box (by omega) (by omega)
  have hkl : k.toNat < g.cps.toList.length := by
    rw [Array.length_toList]; have e : g.cps.size = g.length := rfl; omega
  obtain ⟨ch, hch⟩ : ∃ ch, g.cps.toList[k.toNat]? = some ch := ⟨_, List.getElem?_eq_getElem hkl⟩
  have ek : L2.atI g.cps.toList k = some ch := by
    have := atI_nat hch
    rwa [Int.toNat_of_nonneg k0] at this
  have s1 := hz.sz (by omega)
  have s2 := hg.sz (by omega)
  have gs : GoodT 1 ⟨#[ch]⟩ := hg.sign (List.mem_of_getElem? hch)
  have B := (B1.trans B2).trans B3
  have c1 := hz.cut none (some at')
  have c2 := hz.cut (some at') none
  have c3 := hz.cut (some (at' + 1)) none
  have sz : ∀ {x y : Str} {P Q : Nat}, GoodT P x → GoodT Q y → P + Q ≤ 5000 → szOk (x.length + y.length) = true := fun {x y P Q} a b c => by
    have := a.len; have := b.len
    simp [szOk]; omega
  have q1 := sz c1 gs (by omega)
  have q2 := sz (c1.append gs) c2 (by omega)
  have q3 := sz c1 c3 (by omega)
  have q4 := sz (c1.append gs) c3 (by omega)
  have len1 : (Str.mk #[ch]).length = 1 := rfl
  by_cases p0 : way = 0
  · subst p0
    refine ⟨_, h3, ?_, (c1.append gs).append c2, B⟩
    simp [f__law_otherwise, B__law_otherwise, s1, s2, e1, e2, e3, ek, eq_ints, gEq, q1, q2, q3, q4, mDef, mRet, mAndV, mOrV, mNotV, mOp, mUn, mCB, mCons, mNil, mVar, mC, mM0, mM1, mML0, mML, mCall, mTup, mLst, mIf, mIfS, mB, mOr, mAnd, mNot, mSet, mAsg, mgPat, mPat, mPats, mSeq, mNext, mDrop, mPar, mChain, mSl, mPart, mNoPart, mgSub, gLe, gLt, gGt, gGe, Mi.gSub, gI0, gInt, gAdd, gMul, gFdiv, gMod, gPow, gLen, gMax, gMin, gTwo, gInt1, gInt3, gIx, gSetIx, gCut, gAsk, gS0, gS1, gStarts, gFind, gUpper, gPartition, gIn, gNotIn, gIs, gIsNot, isW, Mi.isNon, andThen, thenS, caseB]
  · by_cases p1 : way = 1
    · subst p1
      refine ⟨_, h3, ?_, (c1.append c3).mono (by omega), B⟩
      simp [f__law_otherwise, B__law_otherwise, s1, s2, e1, e2, e3, ek, eq_ints, gEq, q1, q2, q3, q4, mDef, mRet, mAndV, mOrV, mNotV, mOp, mUn, mCB, mCons, mNil, mVar, mC, mM0, mM1, mML0, mML, mCall, mTup, mLst, mIf, mIfS, mB, mOr, mAnd, mNot, mSet, mAsg, mgPat, mPat, mPats, mSeq, mNext, mDrop, mPar, mChain, mSl, mPart, mNoPart, mgSub, gLe, gLt, gGt, gGe, Mi.gSub, gI0, gInt, gAdd, gMul, gFdiv, gMod, gPow, gLen, gMax, gMin, gTwo, gInt1, gInt3, gIx, gSetIx, gCut, gAsk, gS0, gS1, gStarts, gFind, gUpper, gPartition, gIn, gNotIn, gIs, gIsNot, isW, Mi.isNon, andThen, thenS, caseB]
    · refine ⟨_, h3, ?_, (c1.append gs).append c3, B⟩
      have p0' : (way == 0) = false := by simpa using p0
      have p1' : (way == 1) = false := by simpa using p1
      simp [f__law_otherwise, B__law_otherwise, s1, s2, e1, e2, e3, ek, eq_ints, gEq, p0, p1, q1, q2, q3, q4, mDef, mRet, mAndV, mOrV, mNotV, mOp, mUn, mCB, mCons, mNil, mVar, mC, mM0, mM1, mML0, mML, mCall, mTup, mLst, mIf, mIfS, mB, mOr, mAnd, mNot, mSet, mAsg, mgPat, mPat, mPats, mSeq, mNext, mDrop, mPar, mChain, mSl, mPart, mNoPart, mgSub, gLe, gLt, gGt, gGe, Mi.gSub, gI0, gInt, gAdd, gMul, gFdiv, gMod, gPow, gLen, gMax, gMin, gTwo, gInt1, gInt3, gIx, gSetIx, gCut, gAsk, gS0, gS1, gStarts, gFind, gUpper, gPartition, gIn, gNotIn, gIs, gIsNot, isW, Mi.isNon, andThen, thenS, caseB]
/-- of small words: signs of few letters -/
def wordB (z g : Str) : Bool := (decide (0 < z.length) && decide (z.length < 7)) && z.cps.toList.all fun c => decide (c ∈ g.cps.toList)
theorem occurs_one (c : Nat) (g : Str) : occurs ⟨#[c]⟩ g = decide (c ∈ g.cps.toList) := StrLaws.found_one g c
/-- the signs of z that aren't in g -/
theorem strange_run {n : Nat} {h : MH} {z g : Str} {s0 s1 : MS} {i j v : Nat} (hn : 1000 ≤ n) (hz : z.length ≤ 900) (hi : ∀ w : W, (mwipe s0 [v]).set v (some w) = (mwipe s0 [v]).set v (some w)) (hsi : s0[i]? = some (some (.str z)))
    (hv : ∀ c : Nat, ((mwipe s0 [v]).set v (some (.str ⟨#[c]⟩)))[v]? = some (some (.str ⟨#[c]⟩))) (hj : ∀ c : Nat, ((mwipe s0 [v]).set v (some (.str ⟨#[c]⟩)))[j]? = some (some (.str g))) :
    ∃ h', mLc (miSeq (mVar i)) (.nm v) (mB (mOp gNotIn (mVar v) (mVar j))) (mVar v) [v] n s0 h = some (.ref h.length, h') ∧ Ext h h' ∧ h'[h.length]? = some (.lst ((z.cps.toList.filter fun c => !decide (c ∈ g.cps.toList)).map fun c => .str ⟨#[c]⟩)) := by
  have hl : (signs z).length = z.length := by simp [signs, Str.length]
  obtain ⟨acc, h', er, ed, eI⟩ := lc_run (src := .items (signs z)) (xs := signs z) (p := .nm v) (t := mB (mOp gNotIn (mVar v) (mVar j))) (f := mVar v) (n := n) (d := h.length) (s0 := mwipe s0 [v])
    (fun k acc hh => Ext h hh ∧ acc = ((z.cps.toList.take k).filter fun c => !decide (c ∈ g.cps.toList)).map fun c => .str ⟨#[c]⟩) (fun _ _ _ _ _ => rfl)
    (fun k x acc hh ex ⟨I1, I2⟩ hd => by
      have hk : k < z.cps.toList.length := by
        have := lt_of_get ex
        rw [hl] at this
        rw [Array.length_toList]; exact this
      obtain ⟨c, hc⟩ : ∃ c, z.cps.toList[k]? = some c := ⟨_, List.getElem?_eq_getElem hk⟩
      have exx : x = .str ⟨#[c]⟩ := by
        unfold signs at ex
        rw [List.getElem?_map, hc] at ex
        exact (Option.some.inj ex).symm
      subst exx
      have tk : z.cps.toList.take (k + 1) = z.cps.toList.take k ++ [c] := by
        rw [List.take_add_one, hc]; rfl
      refine ⟨_, rfl, ?_⟩
      by_cases q : c ∈ g.cps.toList
      · have q' : c ∈ g.cps := by simpa using q
        refine .inl ⟨hh, ?_, hd, I1, ?_⟩
        · simp [mB, mOp, var_at (hv c), var_at (hj c), gNotIn, hasW, occurs_one, q, andThen]
        · rw [I2, tk, List.filter_append]; simp [q']
      · have q' : ¬ c ∈ g.cps := by simpa using q
        refine .inr ⟨hh, .str ⟨#[c]⟩, hh, ?_, var_at (hv c), hd, ?_, I1.set (Nat.le_refl _), ?_⟩
        · simp [mB, mOp, var_at (hv c), var_at (hj c), gNotIn, hasW, occurs_one, q, andThen]
        · have : acc.length ≤ k := by
            rw [I2, List.length_map]
            exact Nat.le_trans (List.length_filter_le _ _) (by rw [List.length_take]; omega)
          have e : z.cps.toList.length = z.length := by simp [Str.length]
          omega
        · rw [I2, tk, List.filter_append]; simp [q'])
    n 0 [] (h ++ [.lst []]) (Nat.zero_le _) (by rw [hl]; omega) ⟨Ext.app _ _, by simp⟩ get_snoc_self
  refine ⟨h', ?_, eI.1, ?_⟩
  · unfold mLc
    have : miSeq (mVar i) n s0 h = some (.items (signs z), h) := by simp [miSeq, var_at hsi]
    rw [this]; exact er
  · have e2 := eI.2
    rw [hl, List.take_of_length_le (by simp [Str.length])] at e2
    rw [ed, e2]
theorem strange_empty {z g : Str} : ((z.cps.toList.filter fun c => !decide (c ∈ g.cps.toList)).map fun c => W.str ⟨#[c]⟩).isEmpty = z.cps.toList.all fun c => decide (c ∈ g.cps.toList) := by
  rw [List.isEmpty_map, Bool.eq_iff_iff, List.isEmpty_iff, List.filter_eq_nil_iff, List.all_eq_true]
  simp
theorem strange_ok {z g : Str} {L : Nat} (hz : GoodT L z) : (((z.cps.toList.filter fun c => !decide (c ∈ g.cps.toList)).map fun c => W.str ⟨#[c]⟩)).all okW = true := by
  rw [List.all_map, List.all_eq_true]
  intro c hc
  have hm := (List.mem_filter.mp hc).1
  exact (hz.sign hm).ok
theorem is_word_spec {n : Nat} {h : MH} {z g : Str} {L : Nat} (hn : 1000 ≤ n) (hz : GoodT L z) (hL : L ≤ 900) : ∃ h', f__law_is_word n [.str z, .str g] h = some (.bl (wordB z g), h') ∧ Ext h h' := by
  have lz := hz.len
  have sz := hz.sz (by omega)
  by_cases q : 0 < z.length ∧ z.length < 7
  · obtain ⟨h1, e1, x1, d1⟩ := strange_run (n := n) (h := h) (z := z) (g := g) (s0 := [some (.str z), some (.str g), none]) (s1 := []) (i := 0) (j := 1) (v := 2) hn (by omega) (fun _ => rfl) rfl (fun _ => rfl) (fun _ => rfl)
    refine ⟨h1 ++ [.lst []], ?_, x1.trans (Ext.app _ _)⟩
    have d2 : (h1 ++ [Cell.lst []])[h.length]? = some (.lst ((z.cps.toList.filter fun c => !decide (c ∈ g.cps.toList)).map fun c => .str ⟨#[c]⟩)) := (Ext.app _ _).get d1
    have e2 := eq_empty d2 (get_snoc_self (h := h1) (c := .lst [])) (strange_ok hz)
    rw [strange_empty] at e2
    have e3 : newL [] h1 = some (.ref h1.length, h1 ++ [.lst []]) := newL_eq (by simp)
    have q1 : (0 : Int) < z.length := by omega
    have q2 : (z.length : Int) < 7 := by omega
    simp only [f__law_is_word, mDef, B__law_is_word, mRet, mAndV, List.map, List.length, List.replicate, List.append, List.cons_append, List.nil_append, Nat.reduceSub, Nat.reduceAdd, mChain, mCB, mCons, mNil, mVar, mC, List.getElem?_cons_zero, andThen, thenS, gLen, sz, if_true, gLt, gI0, q1, q2, decide_true, caseB, mOp, e1, mLst, e3, gEq, e2, Option.map_some, wordB, q.1, q.2, Bool.and_self, Bool.true_and]
  · refine ⟨h, ?_, Ext.refl h⟩
    have hw : wordB z g = false := by
      unfold wordB
      by_cases a : 0 < z.length
      · have b : ¬ z.length < 7 := fun b => q ⟨a, b⟩
        simp [b]
      · simp [a]
    rw [hw]
    by_cases a : (0 : Int) < z.length
    · have b : ¬ (z.length : Int) < 7 := fun b => q ⟨by omega, by omega⟩
      have b' : ¬ z.length < 7 := by omega
      have a' : 0 < z.length := by omega
      simp [f__law_is_word, B__law_is_word, sz, a', b', b, mDef, mRet, mAndV, mOrV, mNotV, mOp, mUn, mCB, mCons, mNil, mVar, mC, mM0, mM1, mML0, mML, mCall, mTup, mLst, mIf, mIfS, mB, mOr, mAnd, mNot, mSet, mAsg, mgPat, mPat, mPats, mSeq, mNext, mDrop, mPar, mChain, mSl, mPart, mNoPart, mgSub, gLe, gLt, gGt, gGe, Mi.gSub, gI0, gInt, gAdd, gMul, gFdiv, gMod, gPow, gLen, gMax, gMin, gTwo, gInt1, gInt3, gIx, gSetIx, gCut, gAsk, gS0, gS1, gStarts, gFind, gUpper, gPartition, gIn, gNotIn, gIs, gIsNot, isW, Mi.isNon, andThen, thenS, caseB]
    · have a' : ¬ 0 < z.length := by omega
      simp [f__law_is_word, B__law_is_word, sz, a', mDef, mRet, mAndV, mOrV, mNotV, mOp, mUn, mCB, mCons, mNil, mVar, mC, mM0, mM1, mML0, mML, mCall, mTup, mLst, mIf, mIfS, mB, mOr, mAnd, mNot, mSet, mAsg, mgPat, mPat, mPats, mSeq, mNext, mDrop, mPar, mChain, mSl, mPart, mNoPart, mgSub, gLe, gLt, gGt, gGe, Mi.gSub, gI0, gInt, gAdd, gMul, gFdiv, gMod, gPow, gLen, gMax, gMin, gTwo, gInt1, gInt3, gIx, gSetIx, gCut, gAsk, gS0, gS1, gStarts, gFind, gUpper, gPartition, gIn, gNotIn, gIs, gIsNot, isW, Mi.isNon, andThen, thenS, caseB]
end K02

namespace K02
open PySem L2 Mi
abbrev SMALL : Str := Str.ofString "abcdefghijklmnopqrstuvwxyz"
abbrev FIGS : Str := Str.ofString "0123456789"
def MKS : List W := [.str "+", .str "-", .str "*", .str "/", .str "=", .str "<", .str ">", .str "(", .str ")", .str "[", .str "]", .str ",", .str ";", .str "?"]
def signD (z : Str) : Bool := wordB z (Txt.upper SMALL) || inW (.str z) MKS
def callD (z : Str) : Bool := decide (0 < Txt.find z (Str.ofString ".")) && (wordB (cutS z none (some (Txt.find z (Str.ofString ".")))) SMALL && wordB (cutS z (some (Txt.find z (Str.ofString ".") + 1)) none) SMALL)
def val (l : List Nat) : Int := l.foldl (fun (acc : Int) (c : Nat) => 10 * acc + (((c - 48 : Nat)) : Int)) 0
def numC (z : Str) : Bool := (decide (0 < z.length) && decide (z.length < 4)) && (z.cps.toList.all (fun c => decide (c ∈ FIGS.cps.toList)) && (!(z.cps.toList[0]? == some 48) || z == Str.ofString "0"))
def numD (z : Str) : W := if numC z = true then .int (val z.cps.toList) else .non
theorem good_small : GoodT 26 SMALL := ⟨by decide, by decide⟩
theorem upper_small : Txt.upper SMALL = Str.ofString "ABCDEFGHIJKLMNOPQRSTUVWXYZ" := by decide +kernel
theorem figs_index : ∀ c : Nat, c ∈ FIGS.cps.toList → ∃ r, Builtin.Str.occurrences FIGS ⟨#[c]⟩ 0 FIGS.length 1 = (c - 48) :: r ∧ 48 ≤ c := by
  have all : ∀ c ∈ FIGS.cps.toList, Builtin.Str.occurrences FIGS ⟨#[c]⟩ 0 FIGS.length 1 = [c - 48] ∧ 48 ≤ c := by decide +kernel
  exact fun c hc => ⟨[], all c hc⟩
theorem due_num {n : Nat} {h : MH} {z : Str} {w1 w2 w3 w4 : Option W} {L : Nat} (hn : 1000 ≤ n) (hz : GoodT L z) (hL : L ≤ 900) :
    ∃ h' w8, (mIfS (mAnd (mB (mChain gLt gLt (mC (.int 0)) (mCB gLen (mCons (mVar 0) mNil)) (mC (.int 4)))) (mAnd (mB (mOp gEq (mLc (miSeq (mVar 0)) (.nm 8) (mB (mOp gNotIn (mVar 8) (mVar 7))) (mVar 8) [8]) (mLst mNil))) (mOr (mB (mOp gNe (mOp gIx (mVar 0) (mC (.int 0))) (mC (.str "0")))) (mB (mOp gEq (mVar 0) (mC (.str "0"))))))) (mSeq (mSet 5 (mC (.int 0)))
    (mFor (miSeq (mVar 0)) (mgPat (.nm 8)) (mSet 5 (mOp gAdd (mOp gMul (mC (.int 10)) (mVar 5)) (mM1 gSIndex (mVar 7) (mVar 8)))))) mNext) n [some (.str z), w1, w2, w3, w4, some .non, some (.str SMALL), some (.str FIGS), none] h
      = some (.nx, [some (.str z), w1, w2, w3, w4, some (numD z), some (.str SMALL), some (.str FIGS), w8], h') ∧ Ext h h' := by
  have lz := hz.len
  have sz := hz.sz (by omega)
  have ok0 : PyData.strOk (Str.ofString "0") = true := by decide +kernel
  by_cases q : 0 < z.length ∧ z.length < 4
  · have q1 : (0 : Int) < z.length := by omega
    have q2 : (z.length : Int) < 4 := by omega
    obtain ⟨h1, e1, x1, d1⟩ := strange_run (n := n) (h := h) (z := z) (g := FIGS) (s0 := [some (.str z), w1, w2, w3, w4, some .non, some (.str SMALL), some (.str FIGS), none]) (s1 := []) (i := 0) (j := 7) (v := 8) hn (by omega) (fun _ => rfl) rfl (fun _ => rfl) (fun _ => rfl)
    have d2 : (h1 ++ [Cell.lst []])[h.length]? = some (.lst ((z.cps.toList.filter fun c => !decide (c ∈ FIGS.cps.toList)).map fun c => .str ⟨#[c]⟩)) := (Ext.app _ _).get d1
    have e2 := eq_empty d2 (get_snoc_self (h := h1) (c := .lst [])) (strange_ok hz)
    rw [strange_empty] at e2
    have e3 : newL [] h1 = some (.ref h1.length, h1 ++ [.lst []]) := newL_eq (by simp)
    have xx : Ext h (h1 ++ [.lst []]) := x1.trans (Ext.app _ _)
    obtain ⟨c0, hc0⟩ : ∃ c, z.cps.toList[0]? = some c := ⟨_, List.getElem?_eq_getElem (by rw [Array.length_toList]; exact q.1)⟩
    have ea : L2.atI z.cps.toList 0 = some c0 := by
      have := atI_nat hc0
      simpa using this
    have g0 : GoodT 1 ⟨#[c0]⟩ := hz.sign (List.mem_of_getElem? hc0)
    have en : ∀ hh, eqW (.str ⟨#[c0]⟩) (.str (Str.ofString "0")) hh = some ((⟨#[c0]⟩ : Str) == Str.ofString "0") := fun hh => eq_strs g0.ok ok0
    have ez : ∀ hh, eqW (.str z) (.str (Str.ofString "0")) hh = some (z == Str.ofString "0") := fun hh => eq_strs hz.ok ok0
    have test : (mAnd (mB (mChain gLt gLt (mC (.int 0)) (mCB gLen (mCons (mVar 0) mNil)) (mC (.int 4)))) (mAnd (mB (mOp gEq (mLc (miSeq (mVar 0)) (.nm 8) (mB (mOp gNotIn (mVar 8) (mVar 7))) (mVar 8) [8]) (mLst mNil))) (mOr (mB (mOp gNe (mOp gIx (mVar 0) (mC (.int 0))) (mC (.str "0")))) (mB (mOp gEq (mVar 0) (mC (.str "0"))))))) n [some (.str z), w1, w2, w3, w4, some .non, some (.str SMALL), some (.str FIGS), none] h = some (numC z, h1 ++ [.lst []]) := by
      have hn0 : ((⟨#[c0]⟩ : Str) == Str.ofString "0") = (some c0 == some 48) := by
        by_cases e : c0 = 48
        · subst e; decide +kernel
        · have a1 : ((some c0 : Option Nat) == some 48) = false := by simp [e]
          rw [a1, beq_eq_false_iff_ne]
          intro z0
          have : (Str.mk #[c0]).cps = (Str.ofString "0").cps := by rw [z0]
          have e2 : (Str.ofString "0").cps = #[48] := by decide +kernel
          rw [e2] at this
          simp at this
          exact e this
      have hc : numC z = ((z.cps.toList.all fun c => decide (c ∈ FIGS.cps.toList)) && (!((⟨#[c0]⟩ : Str) == Str.ofString "0") || z == Str.ofString "0")) := by
        unfold numC
        rw [hc0, hn0]
        simp [q.1, q.2]
      rw [hc]
      simp only [mAnd, mB, mChain, mCB, mCons, mNil, mVar, mC, List.getElem?_cons_zero, andThen, gLen, sz, if_true, gLt, gI0, q1, q2, decide_true, caseB, mOp, e1, mLst, e3, gEq, e2, Option.map_some]
      cases (z.cps.toList.all fun c => decide (c ∈ FIGS.cps.toList))
      · simp
      · cases u : ((⟨#[c0]⟩ : Str) == Str.ofString "0")
        · simp [sz, ea, en, ez, u, gNe, gEq, mDef, mRet, mAndV, mOrV, mNotV, mOp, mUn, mCB, mCons, mNil, mVar, mC, mM0, mM1, mML0, mML, mCall, mTup, mLst, mIf, mIfS, mB, mOr, mAnd, mNot, mSet, mAsg, mgPat, mPat, mPats, mSeq, mNext, mDrop, mPar, mChain, mSl, mPart, mNoPart, mgSub, gLe, gLt, gGt, gGe, Mi.gSub, gI0, gInt, gAdd, gMul, gFdiv, gMod, gPow, gLen, gMax, gMin, gTwo, gInt1, gInt3, gIx, gSetIx, gCut, gAsk, gS0, gS1, gStarts, gFind, gUpper, gPartition, gIn, gNotIn, gIs, gIsNot, isW, Mi.isNon, andThen, thenS, caseB]
        · simp [sz, ea, en, ez, u, gNe, gEq, mDef, mRet, mAndV, mOrV, mNotV, mOp, mUn, mCB, mCons, mNil, mVar, mC, mM0, mM1, mML0, mML, mCall, mTup, mLst, mIf, mIfS, mB, mOr, mAnd, mNot, mSet, mAsg, mgPat, mPat, mPats, mSeq, mNext, mDrop, mPar, mChain, mSl, mPart, mNoPart, mgSub, gLe, gLt, gGt, gGe, Mi.gSub, gI0, gInt, gAdd, gMul, gFdiv, gMod, gPow, gLen, gMax, gMin, gTwo, gInt1, gInt3, gIx, gSetIx, gCut, gAsk, gS0, gS1, gStarts, gFind, gUpper, gPartition, gIn, gNotIn, gIs, gIsNot, isW, Mi.isNon, andThen, thenS, caseB]
    by_cases hC : numC z = true
    · -- the number is reckoned
      have hall : ∀ c ∈ z.cps.toList, c ∈ FIGS.cps.toList := by
        unfold numC at hC
        simp only [Bool.and_eq_true, List.all_eq_true, decide_eq_true_eq] at hC
        exact hC.2.1
      have hl : (signs z).length = z.length := by simp [signs, Str.length]
      obtain ⟨s', h', er, es, eh⟩ := f_run (src := .items (signs z)) (xs := signs z) (g := mgPat (.nm 8)) (b := mSet 5 (mOp gAdd (mOp gMul (mC (.int 10)) (mVar 5)) (mM1 gSIndex (mVar 7) (mVar 8)))) (n := n)
        (fun i s hh => (∃ w8, s = [some (.str z), w1, w2, w3, w4, some (.int (val (z.cps.toList.take i))), some (.str SMALL), some (.str FIGS), w8]) ∧ hh = h1 ++ [.lst []]) (fun _ _ _ _ => rfl)
        (fun i x s hh ex ⟨⟨w8, I1⟩, I2⟩ => by
          subst I1; subst I2
          have hk : i < z.cps.toList.length := by
            have := lt_of_get ex
            rw [hl] at this
            rw [Array.length_toList]; exact this
          obtain ⟨c, hcc⟩ : ∃ c, z.cps.toList[i]? = some c := ⟨_, List.getElem?_eq_getElem hk⟩
          have exx : x = .str ⟨#[c]⟩ := by
            unfold signs at ex
            rw [List.getElem?_map, hcc] at ex
            exact (Option.some.inj ex).symm
          subst exx
          obtain ⟨r, eo, _⟩ := figs_index c (hall c (List.mem_of_getElem? hcc))
          have tk : val (z.cps.toList.take (i + 1)) = 10 * val (z.cps.toList.take i) + ((c - 48 : Nat) : Int) := by
            rw [List.take_add_one, hcc]
            unfold val
            simp
          have c10 : ∀ k, cMul 10 k = true := fun k => by simp [cMul]
          refine ⟨[some (.str z), w1, w2, w3, w4, some (.int (val (z.cps.toList.take i))), some (.str SMALL), some (.str FIGS), some (.str ⟨#[c]⟩)], h1 ++ [.lst []], rfl,
            [some (.str z), w1, w2, w3, w4, some (.int (10 * val (z.cps.toList.take i) + ((c - 48 : Nat) : Int))), some (.str SMALL), some (.str FIGS), some (.str ⟨#[c]⟩)], h1 ++ [.lst []], .inl ?_, ⟨some (.str ⟨#[c]⟩), ?_⟩, rfl⟩
          · simp only [mSet, mOp, mC, mVar, mM1, gMul, gAdd, gSIndex, c10, eo, thenS, andThen, List.getElem?_cons_succ, List.getElem?_cons_zero, if_true, List.set]
          · rw [tk])
        n 0 [some (.str z), w1, w2, w3, w4, some (.int 0), some (.str SMALL), some (.str FIGS), none] (h1 ++ [.lst []]) (Nat.zero_le _) (by rw [hl]; omega) ⟨⟨none, by simp [val]⟩, rfl⟩
      subst eh
      obtain ⟨w8, es⟩ := es
      rw [hl, List.take_of_length_le (by simp [Str.length])] at es
      subst es
      refine ⟨_, w8, ?_, xx⟩
      unfold mIfS
      rw [test, hC]
      have ei : miSeq (mVar 0) n [some (.str z), w1, w2, w3, w4, some (.int 0), some (.str SMALL), some (.str FIGS), none] (h1 ++ [.lst []]) = some (.items (signs z), h1 ++ [.lst []]) := by simp [miSeq, mVar]
      simp only [thenS, if_true, mSeq, mSet, mC, List.set, mFor, ei, er, numD, hC]
    · have hC' : numC z = false := by simpa using hC
      refine ⟨_, none, ?_, xx⟩
      unfold mIfS
      rw [test, hC']
      simp [thenS, mNext, numD, hC']
  · have hw : numC z = false := by
      unfold numC
      by_cases a : 0 < z.length
      · have b : ¬ z.length < 4 := fun b => q ⟨a, b⟩
        simp [b]
      · simp [a]
    refine ⟨h, none, ?_, Ext.refl h⟩
    by_cases a : (0 : Int) < z.length
    · have b : ¬ (z.length : Int) < 4 := fun b => q ⟨by omega, by omega⟩
      have a' : 0 < z.length := by omega
      simp [sz, a', b, numD, hw, mDef, mRet, mAndV, mOrV, mNotV, mOp, mUn, mCB, mCons, mNil, mVar, mC, mM0, mM1, mML0, mML, mCall, mTup, mLst, mIf, mIfS, mB, mOr, mAnd, mNot, mSet, mAsg, mgPat, mPat, mPats, mSeq, mNext, mDrop, mPar, mChain, mSl, mPart, mNoPart, mgSub, gLe, gLt, gGt, gGe, Mi.gSub, gI0, gInt, gAdd, gMul, gFdiv, gMod, gPow, gLen, gMax, gMin, gTwo, gInt1, gInt3, gIx, gSetIx, gCut, gAsk, gS0, gS1, gStarts, gFind, gUpper, gPartition, gIn, gNotIn, gIs, gIsNot, isW, Mi.isNon, andThen, thenS, caseB]
    · have a' : ¬ 0 < z.length := by omega
      simp [sz, a', numD, hw, mDef, mRet, mAndV, mOrV, mNotV, mOp, mUn, mCB, mCons, mNil, mVar, mC, mM0, mM1, mML0, mML, mCall, mTup, mLst, mIf, mIfS, mB, mOr, mAnd, mNot, mSet, mAsg, mgPat, mPat, mPats, mSeq, mNext, mDrop, mPar, mChain, mSl, mPart, mNoPart, mgSub, gLe, gLt, gGt, gGe, Mi.gSub, gI0, gInt, gAdd, gMul, gFdiv, gMod, gPow, gLen, gMax, gMin, gTwo, gInt1, gInt3, gIx, gSetIx, gCut, gAsk, gS0, gS1, gStarts, gFind, gUpper, gPartition, gIn, gNotIn, gIs, gIsNot, isW, Mi.isNon, andThen, thenS, caseB]
end K02

namespace K02
open PySem L2 Mi
def dueW (z : Str) : W := .tup [.bl (wordB z SMALL), .bl (signD z), .bl (callD z), numD z]
theorem has_mks {h : MH} {k : Nat} {z : Str} (e : h[k]? = some (.lst MKS)) : hasW (.str z) (.ref k) h = some (inW (.str z) MKS) := by
  simp [hasW, seqOf, lstAt_lst e, flatW, MKS]
theorem due_spec {n : Nat} {h : MH} {z : Str} {L : Nat} (hn : 1000 ≤ n) (hz : GoodT L z) (hL : L ≤ 900) : ∃ h', f__law_due n [.str z] h = some (dueW z, h') ∧ Ext h h' := by
  have lz := hz.len
  have sz := hz.sz (by omega)
  let hm := h ++ [Cell.lst MKS]
  obtain ⟨h2, e2, x2⟩ := is_word_spec (n := n) (h := hm) (z := z) (g := Txt.upper SMALL) hn hz hL
  have xm : Ext h hm := Ext.app _ _
  have dm : h2[h.length]? = some (.lst MKS) := x2.get get_snoc_self
  have st2 : ∃ h3, (mOrV (mCall f__law_is_word (mCons (mVar 0) (mCons (mM0 gUpper (mVar 6)) mNil))) (mOp gIn (mVar 0) (mVar 1))) n [some (.str z), some (.ref h.length), none, none, none, none, some (.str SMALL), some (.str FIGS), none] hm = some (.bl (signD z), h3) ∧ Ext hm h3 := by
    refine ⟨h2, ?_, x2⟩
    have up : decide (SMALL.length ≤ 5592405) = true := by decide +kernel
    unfold signD
    cases u : wordB z (Txt.upper SMALL)
    · rw [u] at e2
      simp only [mOrV, mCall, mCons, mNil, mVar, mM0, gUpper, gS0, up, andThen, List.getElem?_cons_succ, List.getElem?_cons_zero, if_true, e2, caseB, mOp, gIn, has_mks dm, Option.map_some, Bool.false_or, Bool.false_eq_true, if_false]
    · rw [u] at e2
      simp only [mOrV, mCall, mCons, mNil, mVar, mM0, gUpper, gS0, up, andThen, List.getElem?_cons_succ, List.getElem?_cons_zero, if_true, e2, caseB, Bool.true_or]
  obtain ⟨h3, e3, x3⟩ := st2
  let at' := Txt.find z (Str.ofString ".")
  have st4 : ∃ h4, (mAndV (mOp gGt (mVar 3) (mC (.int 0))) (mAndV (mCall f__law_is_word (mCons (mSl gCut (mVar 0) mNoPart (mPart (mVar 3))) (mCons (mVar 6) mNil))) (mCall f__law_is_word (mCons (mSl gCut (mVar 0) (mPart (mOp gAdd (mVar 3) (mC (.int 1)))) mNoPart) (mCons (mVar 6) mNil))))) n
      [some (.str z), some (.ref h.length), some (.bl (signD z)), some (.int at'), none, none, some (.str SMALL), some (.str FIGS), none] h3 = some (.bl (callD z), h4) ∧ Ext h3 h4 := by
    unfold callD
    by_cases p : (0 : Int) < at'
    · obtain ⟨ha, ea, xa⟩ := is_word_spec (n := n) (h := h3) (z := cutS z none (some at')) (g := SMALL) hn (hz.cut _ _) hL
      cases u : wordB (cutS z none (some at')) SMALL
      · rw [u] at ea
        refine ⟨ha, ?_, xa⟩
        simp [p, u, ea, sz, at', mDef, mRet, mAndV, mOrV, mNotV, mOp, mUn, mCB, mCons, mNil, mVar, mC, mM0, mM1, mML0, mML, mCall, mTup, mLst, mIf, mIfS, mB, mOr, mAnd, mNot, mSet, mAsg, mgPat, mPat, mPats, mSeq, mNext, mDrop, mPar, mChain, mSl, mPart, mNoPart, mgSub, gLe, gLt, gGt, gGe, Mi.gSub, gI0, gInt, gAdd, gMul, gFdiv, gMod, gPow, gLen, gMax, gMin, gTwo, gInt1, gInt3, gIx, gSetIx, gCut, gAsk, gS0, gS1, gStarts, gFind, gUpper, gPartition, gIn, gNotIn, gIs, gIsNot, isW, Mi.isNon, andThen, thenS, caseB]
      · rw [u] at ea
        obtain ⟨hb, eb, xb⟩ := is_word_spec (n := n) (h := ha) (z := cutS z (some (at' + 1)) none) (g := SMALL) hn (hz.cut _ _) hL
        refine ⟨hb, ?_, xa.trans xb⟩
        simp only [at'] at p ea eb u
        simp [p, u, ea, eb, sz, at', mDef, mRet, mAndV, mOrV, mNotV, mOp, mUn, mCB, mCons, mNil, mVar, mC, mM0, mM1, mML0, mML, mCall, mTup, mLst, mIf, mIfS, mB, mOr, mAnd, mNot, mSet, mAsg, mgPat, mPat, mPats, mSeq, mNext, mDrop, mPar, mChain, mSl, mPart, mNoPart, mgSub, gLe, gLt, gGt, gGe, Mi.gSub, gI0, gInt, gAdd, gMul, gFdiv, gMod, gPow, gLen, gMax, gMin, gTwo, gInt1, gInt3, gIx, gSetIx, gCut, gAsk, gS0, gS1, gStarts, gFind, gUpper, gPartition, gIn, gNotIn, gIs, gIsNot, isW, Mi.isNon, andThen, thenS, caseB]
    · refine ⟨h3, ?_, Ext.refl _⟩
      simp only [at'] at p
      simp [p, at', mDef, mRet, mAndV, mOrV, mNotV, mOp, mUn, mCB, mCons, mNil, mVar, mC, mM0, mM1, mML0, mML, mCall, mTup, mLst, mIf, mIfS, mB, mOr, mAnd, mNot, mSet, mAsg, mgPat, mPat, mPats, mSeq, mNext, mDrop, mPar, mChain, mSl, mPart, mNoPart, mgSub, gLe, gLt, gGt, gGe, Mi.gSub, gI0, gInt, gAdd, gMul, gFdiv, gMod, gPow, gLen, gMax, gMin, gTwo, gInt1, gInt3, gIx, gSetIx, gCut, gAsk, gS0, gS1, gStarts, gFind, gUpper, gPartition, gIn, gNotIn, gIs, gIsNot, isW, Mi.isNon, andThen, thenS, caseB]
  obtain ⟨h4, e4, x4⟩ := st4
  obtain ⟨h5, w8, e5, x5⟩ := due_num (n := n) (h := h4) (w1 := some (.ref h.length)) (w2 := some (.bl (signD z))) (w3 := some (.int at')) (w4 := some (.bl (callD z))) hn hz hL
  obtain ⟨h6, e6, x6⟩ := is_word_spec (n := n) (h := h5) (z := z) (g := SMALL) hn hz hL
  refine ⟨h6, def_ret (s' := [some (.str z), some (.ref h.length), some (.bl (signD z)), some (.int at'), some (.bl (callD z)), some (numD z), some (.str SMALL), some (.str FIGS), w8]) ?_, (((xm.trans x3).trans x4).trans x5).trans x6⟩
  show B__law_due n [some (.str z), none, none, none, none, none, none, none, none] h = _
  unfold B__law_due
  rw [seq_step (s1 := [some (.str z), none, none, none, none, none, some (.str SMALL), some (.str FIGS), none]) (h1 := h) (by simp [szOk, mDef, mRet, mAndV, mOrV, mNotV, mOp, mUn, mCB, mCons, mNil, mVar, mC, mM0, mM1, mML0, mML, mCall, mTup, mLst, mIf, mIfS, mB, mOr, mAnd, mNot, mSet, mAsg, mgPat, mPat, mPats, mSeq, mNext, mDrop, mPar, mChain, mSl, mPart, mNoPart, mgSub, gLe, gLt, gGt, gGe, Mi.gSub, gI0, gInt, gAdd, gMul, gFdiv, gMod, gPow, gLen, gMax, gMin, gTwo, gInt1, gInt3, gIx, gSetIx, gCut, gAsk, gS0, gS1, gStarts, gFind, gUpper, gPartition, gIn, gNotIn, gIs, gIsNot, isW, Mi.isNon, andThen, thenS, caseB])]
  rw [seq_step (s1 := [some (.str z), some (.ref h.length), none, none, none, none, some (.str SMALL), some (.str FIGS), none]) (h1 := hm) (by simp [newL, szOk, hm, MKS, mDef, mRet, mAndV, mOrV, mNotV, mOp, mUn, mCB, mCons, mNil, mVar, mC, mM0, mM1, mML0, mML, mCall, mTup, mLst, mIf, mIfS, mB, mOr, mAnd, mNot, mSet, mAsg, mgPat, mPat, mPats, mSeq, mNext, mDrop, mPar, mChain, mSl, mPart, mNoPart, mgSub, gLe, gLt, gGt, gGe, Mi.gSub, gI0, gInt, gAdd, gMul, gFdiv, gMod, gPow, gLen, gMax, gMin, gTwo, gInt1, gInt3, gIx, gSetIx, gCut, gAsk, gS0, gS1, gStarts, gFind, gUpper, gPartition, gIn, gNotIn, gIs, gIsNot, isW, Mi.isNon, andThen, thenS, caseB])]
  rw [seq_step (s1 := [some (.str z), some (.ref h.length), some (.bl (signD z)), none, none, none, some (.str SMALL), some (.str FIGS), none]) (h1 := h3) (by unfold mSet; rw [e3]; rfl)]
  rw [seq_step (s1 := [some (.str z), some (.ref h.length), some (.bl (signD z)), some (.int at'), none, none, some (.str SMALL), some (.str FIGS), none]) (h1 := h3) (by simp [at', mDef, mRet, mAndV, mOrV, mNotV, mOp, mUn, mCB, mCons, mNil, mVar, mC, mM0, mM1, mML0, mML, mCall, mTup, mLst, mIf, mIfS, mB, mOr, mAnd, mNot, mSet, mAsg, mgPat, mPat, mPats, mSeq, mNext, mDrop, mPar, mChain, mSl, mPart, mNoPart, mgSub, gLe, gLt, gGt, gGe, Mi.gSub, gI0, gInt, gAdd, gMul, gFdiv, gMod, gPow, gLen, gMax, gMin, gTwo, gInt1, gInt3, gIx, gSetIx, gCut, gAsk, gS0, gS1, gStarts, gFind, gUpper, gPartition, gIn, gNotIn, gIs, gIsNot, isW, Mi.isNon, andThen, thenS, caseB])]
  rw [seq_step (s1 := [some (.str z), some (.ref h.length), some (.bl (signD z)), some (.int at'), some (.bl (callD z)), none, some (.str SMALL), some (.str FIGS), none]) (h1 := h4) (by unfold mSet; rw [e4]; rfl)]
  rw [seq_step (s1 := [some (.str z), some (.ref h.length), some (.bl (signD z)), some (.int at'), some (.bl (callD z)), some .non, some (.str SMALL), some (.str FIGS), none]) (h1 := h4) (by simp [mDef, mRet, mAndV, mOrV, mNotV, mOp, mUn, mCB, mCons, mNil, mVar, mC, mM0, mM1, mML0, mML, mCall, mTup, mLst, mIf, mIfS, mB, mOr, mAnd, mNot, mSet, mAsg, mgPat, mPat, mPats, mSeq, mNext, mDrop, mPar, mChain, mSl, mPart, mNoPart, mgSub, gLe, gLt, gGt, gGe, Mi.gSub, gI0, gInt, gAdd, gMul, gFdiv, gMod, gPow, gLen, gMax, gMin, gTwo, gInt1, gInt3, gIx, gSetIx, gCut, gAsk, gS0, gS1, gStarts, gFind, gUpper, gPartition, gIn, gNotIn, gIs, gIsNot, isW, Mi.isNon, andThen, thenS, caseB])]
  rw [seq_step e5]
  simp [e6, szOk, dueW, mDef, mRet, mAndV, mOrV, mNotV, mOp, mUn, mCB, mCons, mNil, mVar, mC, mM0, mM1, mML0, mML, mCall, mTup, mLst, mIf, mIfS, mB, mOr, mAnd, mNot, mSet, mAsg, mgPat, mPat, mPats, mSeq, mNext, mDrop, mPar, mChain, mSl, mPart, mNoPart, mgSub, gLe, gLt, gGt, gGe, Mi.gSub, gI0, gInt, gAdd, gMul, gFdiv, gMod, gPow, gLen, gMax, gMin, gTwo, gInt1, gInt3, gIx, gSetIx, gCut, gAsk, gS0, gS1, gStarts, gFind, gUpper, gPartition, gIn, gNotIn, gIs, gIsNot, isW, Mi.isNon, andThen, thenS, caseB]
end K02

namespace K02
open PySem L2 Mi
theorem ascii_facts : ∀ c : Fin 128, Unicode.isAlpha c = (decide (97 ≤ c.val ∧ c.val ≤ 122) || decide (65 ≤ c.val ∧ c.val ≤ 90)) ∧ Unicode.isLower c = decide (97 ≤ c.val ∧ c.val ≤ 122) ∧ Unicode.isUpper c = decide (65 ≤ c.val ∧ c.val ≤ 90) ∧ Unicode.isTitle c = false ∧ Unicode.isDigit c = decide (48 ≤ c.val ∧ c.val ≤ 57) := by decide +kernel
theorem small_iff (c : Nat) : c ∈ SMALL.cps.toList ↔ 97 ≤ c ∧ c ≤ 122 := by
  have e : SMALL.cps.toList = (List.range 26).map (· + 97) := by decide +kernel
  rw [e, List.mem_map]
  constructor
  · rintro ⟨a, ha, rfl⟩
    have := List.mem_range.mp ha
    omega
  · intro h
    exact ⟨c - 97, List.mem_range.mpr (by omega), by omega⟩
theorem big_iff (c : Nat) : c ∈ (Txt.upper SMALL).cps.toList ↔ 65 ≤ c ∧ c ≤ 90 := by
  have e : (Txt.upper SMALL).cps.toList = (List.range 26).map (· + 65) := by rw [upper_small]; decide +kernel
  rw [e, List.mem_map]
  constructor
  · rintro ⟨a, ha, rfl⟩
    have := List.mem_range.mp ha
    omega
  · intro h
    exact ⟨c - 65, List.mem_range.mpr (by omega), by omega⟩
theorem figs_iff (c : Nat) : c ∈ FIGS.cps.toList ↔ 48 ≤ c ∧ c ≤ 57 := by
  have e : FIGS.cps.toList = (List.range 10).map (· + 48) := by decide +kernel
  rw [e, List.mem_map]
  constructor
  · rintro ⟨a, ha, rfl⟩
    have := List.mem_range.mp ha
    omega
  · intro h
    exact ⟨c - 48, List.mem_range.mpr (by omega), by omega⟩
theorem arr_all {a : Array Nat} {p : Nat → Bool} : a.all p = a.toList.all p := by
  rw [Array.all_toList]
theorem arr_any {a : Array Nat} {p : Nat → Bool} : a.any p = a.toList.any p := by
  rw [Array.any_toList]
section
variable {z : Str} {L : Nat}
theorem alpha_at (g : GoodT L z) {c : Nat} (hc : c ∈ z.cps.toList) : Unicode.isAlpha c = (decide (97 ≤ c ∧ c ≤ 122) || decide (65 ≤ c ∧ c ≤ 90)) ∧ Unicode.isLower c = decide (97 ≤ c ∧ c ≤ 122) ∧ Unicode.isUpper c = decide (65 ≤ c ∧ c ≤ 90) ∧ Unicode.isTitle c = false ∧ Unicode.isDigit c = decide (48 ≤ c ∧ c ≤ 57) :=
  ascii_facts ⟨c, g.low c hc⟩
theorem is_ascii (g : GoodT L z) : Txt.isascii z = true := by
  unfold Txt.isascii
  rw [arr_all, List.all_eq_true]
  exact fun c hc => decide_eq_true (g.low c hc)
theorem name_eq (g : GoodT L z) : (shortB z && Txt.islower z) = wordB z SMALL := by
  rw [Bool.eq_iff_iff]
  unfold shortB wordB Txt.isalpha Txt.islower
  rw [is_ascii g, arr_all, arr_any, arr_any]
  simp only [Bool.and_eq_true, decide_eq_true_eq, List.all_eq_true, List.any_eq_true, Bool.not_eq_true', Bool.true_and]
  constructor
  · rintro ⟨⟨h1, h2, h3⟩, ⟨c, hc, h4⟩, h5⟩
    refine ⟨⟨h2, by omega⟩, fun d hd => (small_iff d).mpr ?_⟩
    have a := alpha_at g hd
    have b := h3 d hd
    rw [a.1, Bool.or_eq_true, decide_eq_true_eq, decide_eq_true_eq] at b
    rcases b with b | b
    · exact b
    · exfalso
      have : (z.cps.toList.any fun c => Unicode.isUpper c || Unicode.isTitle c) = true := List.any_eq_true.mpr ⟨d, hd, by rw [a.2.2.1, decide_eq_true b]; rfl⟩
      rw [h5] at this; cases this
  · rintro ⟨⟨h1, h2⟩, h3⟩
    have lo : ∀ d ∈ z.cps.toList, 97 ≤ d ∧ d ≤ 122 := fun d hd => (small_iff d).mp (h3 d hd)
    refine ⟨⟨by omega, h1, fun d hd => ?_⟩, ?_, ?_⟩
    · rw [(alpha_at g hd).1, decide_eq_true (lo d hd)]; rfl
    · have hk : 0 < z.cps.toList.length := by rw [Array.length_toList]; exact h1
      exact ⟨z.cps.toList[0], List.getElem_mem hk, by rw [(alpha_at g (List.getElem_mem hk)).2.1, decide_eq_true (lo _ (List.getElem_mem hk))]⟩
    · rw [Bool.eq_false_iff]
      intro hx
      obtain ⟨d, hd, e⟩ := List.any_eq_true.mp hx
      have a := alpha_at g hd
      have := lo d hd
      rw [a.2.2.1, a.2.2.2.1, Bool.or_false, decide_eq_true_eq] at e
      omega
theorem sign_eq (g : GoodT L z) : (shortB z && Txt.isupper z) = wordB z (Txt.upper SMALL) := by
  rw [Bool.eq_iff_iff]
  unfold shortB wordB Txt.isalpha Txt.isupper
  rw [is_ascii g, arr_all, arr_any, arr_any]
  simp only [Bool.and_eq_true, decide_eq_true_eq, List.all_eq_true, List.any_eq_true, Bool.not_eq_true', Bool.true_and]
  constructor
  · rintro ⟨⟨h1, h2, h3⟩, ⟨c, hc, h4⟩, h5⟩
    refine ⟨⟨h2, by omega⟩, fun d hd => (big_iff d).mpr ?_⟩
    have a := alpha_at g hd
    have b := h3 d hd
    rw [a.1, Bool.or_eq_true, decide_eq_true_eq, decide_eq_true_eq] at b
    rcases b with b | b
    · exfalso
      have : (z.cps.toList.any fun c => Unicode.isLower c || Unicode.isTitle c) = true := List.any_eq_true.mpr ⟨d, hd, by rw [a.2.1, decide_eq_true b]; rfl⟩
      rw [h5] at this; cases this
    · exact b
  · rintro ⟨⟨h1, h2⟩, h3⟩
    have lo : ∀ d ∈ z.cps.toList, 65 ≤ d ∧ d ≤ 90 := fun d hd => (big_iff d).mp (h3 d hd)
    refine ⟨⟨by omega, h1, fun d hd => ?_⟩, ?_, ?_⟩
    · rw [(alpha_at g hd).1, decide_eq_true (lo d hd), Bool.or_true]
    · have hk : 0 < z.cps.toList.length := by rw [Array.length_toList]; exact h1
      exact ⟨z.cps.toList[0], List.getElem_mem hk, by rw [(alpha_at g (List.getElem_mem hk)).2.2.1, decide_eq_true (lo _ (List.getElem_mem hk))]⟩
    · rw [Bool.eq_false_iff]
      intro hx
      obtain ⟨d, hd, e⟩ := List.any_eq_true.mp hx
      have a := alpha_at g hd
      have := lo d hd
      rw [a.2.1, a.2.2.2.1, Bool.or_false, decide_eq_true_eq] at e
      omega
/-- the parts at the first point -/
theorem call_eq (g : GoodT L z) : GoodT L (Txt.partition z (Str.ofString ".")).1 ∧ GoodT L (Txt.partition z (Str.ofString ".")).2.2 ∧
    ((shortB (Txt.partition z (Str.ofString ".")).1 && Txt.islower (Txt.partition z (Str.ofString ".")).1) && (shortB (Txt.partition z (Str.ofString ".")).2.2 && Txt.islower (Txt.partition z (Str.ofString ".")).2.2)) = callD z := by
  have pl : (Str.ofString ".").length = 1 := by decide +kernel
  unfold callD Txt.partition Txt.find
  cases e : Builtin.Str.occurrences z (Str.ofString ".") 0 z.length 1 with
  | nil =>
    refine ⟨g, ⟨Nat.zero_le _, fun c hc => by simp [Str.empty] at hc⟩, ?_⟩
    have : (shortB Str.empty && Txt.islower Str.empty) = false := by decide +kernel
    simp [this]
  | cons i r =>
    have hi : i + 1 ≤ z.length := by
      have := (StrLaws.occ_spec z (Str.ofString ".") 0 z.length 1 i (by rw [e]; simp)).1
      rw [pl] at this; exact this
    have c1 : Builtin.Str.strSub z 0 i = cutS z none (some (i : Int)) := by
      unfold Builtin.Str.strSub cutS HT.sIx
      congr 1
      apply Array.ext'
      have : ¬ (i : Int) < 0 := by omega
      simp [this]
      omega
    have c2 : Builtin.Str.strSub z (i + (Str.ofString ".").length) z.length = cutS z (some ((i : Int) + 1)) none := by
      rw [pl]
      unfold Builtin.Str.strSub cutS HT.sIx
      congr 1
      apply Array.ext'
      have h1 : ¬ (i : Int) + 1 < 0 := by omega
      have h2 : min ((i : Int) + 1).toNat z.length = i + 1 := by omega
      simp [h1, h2]
      rw [Nat.min_eq_left hi]
    have g1 := g.cut none (some (i : Int))
    have g2 := g.cut (some ((i : Int) + 1)) none
    simp only [c1, c2]
    refine ⟨g1, g2, ?_⟩
    rw [name_eq g1, name_eq g2]
    by_cases h0 : 0 < (i : Int)
    · have h0' : 0 < i := by omega
      simp [h0']
    · have : i = 0 := by omega
      subst this
      have w0 : wordB (cutS z none (some 0)) SMALL = false := by
        have l0 : (cutS z none (some 0)).length = 0 := by simp [cutS, HT.sIx, Str.length]
        unfold wordB
        rw [l0]; rfl
      simp [w0]
theorem int1 : ∀ a : Fin 10, PySem.intText? ⟨#[48 + a.val]⟩ = some (val [48 + a.val]) := by decide +kernel
theorem int2 : ∀ a b : Fin 10, PySem.intText? ⟨#[48 + a.val, 48 + b.val]⟩ = some (val [48 + a.val, 48 + b.val]) := by decide +kernel
theorem int3 : ∀ a b c : Fin 10, PySem.intText? ⟨#[48 + a.val, 48 + b.val, 48 + c.val]⟩ = some (val [48 + a.val, 48 + b.val, 48 + c.val]) := by decide +kernel
theorem int_val (h0 : 0 < z.length) (h3 : z.length ≤ 3) (hd : ∀ c ∈ z.cps.toList, 48 ≤ c ∧ c ≤ 57) : PySem.intText? z = some (val z.cps.toList) := by
  obtain ⟨⟨l⟩⟩ := z
  have hl : l.length ≤ 3 := h3
  have hl0 : 0 < l.length := h0
  have hd' : ∀ c ∈ l, 48 ≤ c ∧ c ≤ 57 := hd
  match l, hl, hl0, hd' with
  | [a], _, _, hd' =>
    have ha := hd' a (by simp)
    have := int1 ⟨a - 48, by omega⟩
    rw [show 48 + (a - 48) = a by omega] at this
    exact this
  | [a, b], _, _, hd' =>
    have ha := hd' a (by simp)
    have hb := hd' b (by simp)
    have := int2 ⟨a - 48, by omega⟩ ⟨b - 48, by omega⟩
    simp only [show 48 + (a - 48) = a by omega, show 48 + (b - 48) = b by omega] at this
    exact this
  | [a, b, c], _, _, hd' =>
    have ha := hd' a (by simp)
    have hb := hd' b (by simp)
    have hc := hd' c (by simp)
    have := int3 ⟨a - 48, by omega⟩ ⟨b - 48, by omega⟩ ⟨c - 48, by omega⟩
    simp only [show 48 + (a - 48) = a by omega, show 48 + (b - 48) = b by omega, show 48 + (c - 48) = c by omega] at this
    exact this
theorem digit_iff (g : GoodT L z) : Txt.isdigit z = true ↔ 0 < z.length ∧ ∀ c ∈ z.cps.toList, 48 ≤ c ∧ c ≤ 57 := by
  unfold Txt.isdigit
  rw [arr_all, Bool.and_eq_true, decide_eq_true_eq, List.all_eq_true]
  constructor
  · rintro ⟨a, b⟩
    exact ⟨a, fun c hc => by
      have := b c hc
      rw [(alpha_at g hc).2.2.2.2, decide_eq_true_eq] at this
      exact this⟩
  · rintro ⟨a, b⟩
    exact ⟨a, fun c hc => by rw [(alpha_at g hc).2.2.2.2]; exact decide_eq_true (b c hc)⟩
theorem zero_start : Txt.startswith z (Str.ofString "0") = true ↔ z.cps.toList[0]? = some 48 := by
  have e : Str.ofString "0" = ⟨#[48]⟩ := by decide +kernel
  unfold Txt.startswith
  rw [e, Bool.and_eq_true, decide_eq_true_eq, StrLaws.subAt_one z 48 0]
  all_goals first
    | done
    | exact ⟨fun h => h.2, fun h => ⟨by have := lt_of_get h; rw [Array.length_toList] at this; exact this, h⟩⟩
theorem num_eq (g : GoodT L z) : numB z = numD z := by
  have e0 : Str.ofString "0" = ⟨#[48]⟩ := by decide +kernel
  unfold numB numD
  by_cases c : numC z = true
  · rw [if_pos c]
    unfold numC at c
    simp only [Bool.and_eq_true, Bool.or_eq_true, decide_eq_true_eq, List.all_eq_true, Bool.not_eq_true'] at c
    obtain ⟨⟨h0, h4⟩, hf, hz⟩ := c
    have hd : ∀ c ∈ z.cps.toList, 48 ≤ c ∧ c ≤ 57 := fun c hc => (figs_iff c).mp (hf c hc)
    rw [if_neg ?_, int_val h0 (by omega) hd]
    rintro (a | a | a | ⟨a, b⟩)
    · omega
    · rw [is_ascii g] at a; cases a
    · rw [(digit_iff g).mpr ⟨h0, hd⟩] at a; cases a
    · have f := zero_start.mp b
      rcases hz with hz | hz
      · rw [f] at hz; simp at hz
      · rw [e0, beq_iff_eq] at hz
        rw [hz] at a
        have : (Str.mk #[48]).length = 1 := rfl
        omega
  · rw [if_neg c]
    rw [if_pos]
    refine Decidable.by_contra fun hn => c ?_
    simp only [not_or, not_and] at hn
    obtain ⟨h1, h2, h3, h4⟩ := hn
    have hd := (digit_iff g).mp (by simpa using h3)
    unfold numC
    simp only [Bool.and_eq_true, Bool.or_eq_true, decide_eq_true_eq, List.all_eq_true, Bool.not_eq_true']
    refine ⟨⟨hd.1, by omega⟩, fun c hc => (figs_iff c).mpr (hd.2 c hc), ?_⟩
    by_cases f : z.cps.toList[0]? = some 48
    · right
      have l1 : z.length = 1 := by
        have : ¬ (z.length : Int) > 1 := fun q => h4 q (zero_start.mpr f)
        have := hd.1
        omega
      rw [e0, beq_iff_eq]
      obtain ⟨⟨l⟩⟩ := z
      have : l.length = 1 := l1
      match l, this, f with
      | [a], _, f =>
        have : a = 48 := by simpa using f
        subst this; rfl
    · left
      simpa using f
theorem num_hn (g : GoodT L z) : (z.length : Int) ≤ 3 → Txt.isascii z = true → Txt.isdigit z = true → ∃ i, PySem.intText? z = some i := fun h _ d => by
  have := (digit_iff g).mp d
  exact ⟨_, int_val this.1 (by omega) this.2⟩
end
end K02

namespace K02
open PySem L2 Mi
abbrev MARKT : Str := Str.ofString "+-*/=<>()[],;?"
def BASE : List Str := ["", " ", ".", "0", "00", "999", "1000", "a.b", "ground", "GROUND", "a.", ".a", "a.b.c"].map Str.ofString
/-- a list of good texts at a cell -/
def Texts (h : MH) (r : Nat) (N : Nat) : Prop := ∃ ts : List Str, h[r]? = some (Cell.lst (ts.map W.str)) ∧ ts.length ≤ N ∧ ∀ t ∈ ts, GoodT 40 t
theorem lst_strs {a b c : Str} : [W.str a, W.str b, W.str c] = [a, b, c].map W.str := rfl
theorem extend_spec {n r : Nat} {h : MH} {s : MS} {fr : M} {h1 : MH} {N k : Nat} {xs : List Str} {i : Nat} (hs : s[i]? = some (some (.ref r))) (hl : ∃ ys, Mi.lstAt h r = some ys) (e : fr n s h = some (.ref h1.length, h1 ++ [Cell.lst (xs.map W.str)])) (T : Texts h1 r N) (hx : xs.length ≤ k) (gx : ∀ t ∈ xs, GoodT 40 t) (hN : N + k ≤ 1000) :
    ∃ h2, (mDrop (mML gExtend (mVar i) (mCons fr mNil))) n s h = some (.nx, s, h2) ∧ Texts h2 r (N + k) ∧ ∃ ys, h2 = (h1 ++ [Cell.lst (xs.map W.str)]).set r (.lst ys) := by
  obtain ⟨ts, e1, l1, g1⟩ := T
  have hr := lt_of_get e1
  have e2 : (h1 ++ [Cell.lst (xs.map W.str)])[r]? = some (Cell.lst (ts.map W.str)) := by rw [List.getElem?_append_left hr]; exact e1
  obtain ⟨ys, hys⟩ := hl
  refine ⟨(h1 ++ [Cell.lst (xs.map W.str)]).set r (Cell.lst (ts.map W.str ++ xs.map W.str)), ?_, ⟨ts ++ xs, ?_, by simp; omega, fun t ht => ?_⟩, _, rfl⟩
  · have z : szOk ((ts.map W.str).length + (xs.map W.str).length) = true := by simp [szOk]; omega
    simp only [mDrop, mML, mCons, mNil, var_at hs, andThen, thenS, isLst, hys, Option.isSome_some, if_true, e, gExtend, lstM_lst e2, lstM_lst get_snoc_self, z]
  · rw [List.getElem?_set_self (by simp; omega), List.map_append]
  · rcases List.mem_append.mp ht with q | q
    · exact g1 t q
    · exact gx t q
theorem good_lit {s : Str} (h : (decide (s.length ≤ 40) && s.cps.toList.all fun c => decide (c < 128)) = true) : GoodT 40 s := by
  rw [Bool.and_eq_true, decide_eq_true_eq, List.all_eq_true] at h
  exact ⟨h.1, fun c hc => of_decide_eq_true (h.2 c hc)⟩
theorem texts_spec {n b : Nat} {h : MH} (hn : 1000 ≤ n) (hb : IsBox h b) : ∃ r h', f__law_texts n [.ref b] h = some (.ref r, h') ∧ Bx b h h' ∧ h.length ≤ r ∧ Texts h' r 60 := by
  have hlt : b < h.length := by
    obtain ⟨_, _, _, e⟩ := hb
    exact lt_of_get e
  let h1 := h ++ [Cell.lst (BASE.map W.str)]
  have gb : ∀ t ∈ BASE, GoodT 40 t := by
    have : ∀ t ∈ BASE, (decide (t.length ≤ 40) && t.cps.toList.all fun c => decide (c < 128)) = true := by decide +kernel
    exact fun t ht => good_lit (this t ht)
  have T1 : Texts h1 h.length 13 := ⟨BASE, get_snoc_self, by decide, gb⟩
  -- the marks, each a text
  have gm : ∀ t ∈ (MARKT.cps.toList.map fun c => (⟨#[c]⟩ : Str)), GoodT 40 t := by
    have : ∀ t ∈ (MARKT.cps.toList.map fun c => (⟨#[c]⟩ : Str)), (decide (t.length ≤ 40) && t.cps.toList.all fun c => decide (c < 128)) = true := by decide +kernel
    exact fun t ht => good_lit (this t ht)
  have lm : (MARKT.cps.toList.map fun c => (⟨#[c]⟩ : Str)).length = 14 := by decide +kernel
  have em : signs MARKT = (MARKT.cps.toList.map fun c => (⟨#[c]⟩ : Str)).map W.str := by unfold signs; rw [List.map_map]; rfl
  obtain ⟨h2, e2, T2, ys2, x2⟩ := extend_spec (n := n) (r := h.length) (h := h1) (h1 := h1) (s := [some (.ref b), some (.str MARKT), some (.ref h.length), none, some (.str SMALL), some (.str FIGS), none, none]) (fr := mCB gList (mCons (mVar 1) mNil)) (N := 13) (k := 14) (xs := MARKT.cps.toList.map fun c => ⟨#[c]⟩) (i := 2) rfl ⟨_, lstAt_lst get_snoc_self⟩
    (by
      have : newL (signs MARKT) h1 = some (.ref h1.length, h1 ++ [Cell.lst (signs MARKT)]) := newL_eq (by rw [em, List.length_map, lm]; omega)
      rw [em] at this
      simp only [mCB, mCons, mNil, mVar, List.getElem?_cons_succ, List.getElem?_cons_zero, andThen, gList, em, this]) T1 (by rw [lm]; exact Nat.le_refl _) gm (by omega)
  have B2 : Bx b h h2 := by
    rw [x2]
    exact ((Bx.refl hb).ext ((Ext.app _ _).trans (Ext.app _ _))).set (Nat.le_refl _) (by omega)
  let body : MSt := (mSeq (mPar 6 7 (mCall f__law_word (mCons (mVar 0) (mCons (mVar 4) (mCons (mC (.int 7)) mNil)))) (mCall f__law_word (mCons (mVar 0) (mCons (mVar 4) (mCons (mC (.int 7)) mNil)))))
    (mSeq (mDrop (mML gExtend (mVar 2) (mCons (mLst (mCons (mVar 6) (mCons (mM0 gUpper (mVar 6)) (mCons (mOp gAdd (mOp gAdd (mVar 6) (mC (.str "."))) (mVar 7)) (mCons (mOp gAdd (mVar 6) (mM0 gUpper (mVar 7))) (mCons (mOp gAdd (mOp gAdd (mOp gAdd (mOp gAdd (mVar 6) (mC (.str "."))) (mVar 7)) (mC (.str "."))) (mVar 6)) mNil)))))) mNil)))
    (mDrop (mML gExtend (mVar 2) (mCons (mLst (mCons (mCall f__law_word (mCons (mVar 0) (mCons (mVar 1) (mCons (mC (.int 2)) mNil)))) (mCons (mCall f__law_word (mCons (mVar 0) (mCons (mVar 5) (mCons (mC (.int 5)) mNil)))) (mCons (mCall f__law_word (mCons (mVar 0) (mCons (mOp gAdd (mVar 4) (mVar 5)) (mCons (mC (.int 4)) mNil)))) mNil)))) mNil)))))
  have gS : GoodT 40 SMALL := good_small.mono (by omega)
  have gM : GoodT 40 MARKT := good_lit (by decide +kernel)
  have gF : GoodT 40 FIGS := good_lit (by decide +kernel)
  have gP : GoodT 1 (Str.ofString ".") := ⟨by decide +kernel, by decide +kernel⟩
  obtain ⟨s', h', er, ⟨w3, w6, w7, es⟩, B', T'⟩ := f_run (src := .items (rangeW 0 3)) (xs := rangeW 0 3) (g := mgPat (.nm 3)) (b := body) (n := n)
    (fun i s hh => (∃ w3 w6 w7, s = [some (.ref b), some (.str MARKT), some (.ref h.length), w3, some (.str SMALL), some (.str FIGS), w6, w7]) ∧ Bx b h hh ∧ Texts hh h.length (27 + 8 * i)) (fun _ _ _ _ => rfl)
    (fun i x s hh ex ⟨⟨w3, w6, w7, I1⟩, IB, IT⟩ => by
      subst I1
      have hi : i < 3 := by
        have := lt_of_get ex
        simpa [rangeW] using this
      refine ⟨_, _, rfl, ?_⟩
      obtain ⟨z1, ha, ea, g1, Ba⟩ := word_spec (n := n) (most := 7) hn IB.box gS (by omega) (by decide +kernel) (by omega)
      obtain ⟨z2, hb', eb, g2, Bb⟩ := word_spec (n := n) (most := 7) hn Ba.box gS (by omega) (by decide +kernel) (by omega)
      have hne : h.length ≠ b := by omega
      have Tb : Texts hb' h.length (27 + 8 * i) := by
        obtain ⟨ts, d1, d2, d3⟩ := IT
        exact ⟨ts, (Ba.trans Bb).get d1 hne, d2, d3⟩
      have l1 := g1.len
      have l2 := g2.len
      have lu1 := g1.upper.len
      have lu2 := g2.upper.len
      have lp : (Str.ofString ".").length = 1 := by decide +kernel
      have sz : ∀ k : Nat, k ≤ 1000 → szOk k = true := fun k hk => by simp [szOk]; omega
      let five : List Str := [z1, Txt.upper z1, z1 ++ Str.ofString "." ++ z2, z1 ++ Txt.upper z2, z1 ++ Str.ofString "." ++ z2 ++ Str.ofString "." ++ z1]
      have g5 : ∀ t ∈ five, GoodT 40 t := by
        intro t ht
        simp only [five, List.mem_cons, List.not_mem_nil, or_false] at ht
        rcases ht with rfl | rfl | rfl | rfl | rfl
        · exact g1.mono (by omega)
        · exact g1.upper.mono (by omega)
        · exact ((g1.append gP).append g2).mono (by omega)
        · exact (g1.append g2.upper).mono (by omega)
        · exact ((((g1.append gP).append g2).append gP).append g1).mono (by omega)
      let s1 : MS := [some (.ref b), some (.str MARKT), some (.ref h.length), some x, some (.str SMALL), some (.str FIGS), some (.str z1), some (.str z2)]
      have la : ∃ ys, Mi.lstAt hb' h.length = some ys := by
        obtain ⟨ts, d1, _⟩ := Tb
        exact ⟨_, lstAt_lst d1⟩
      obtain ⟨hc, ec, Tc, yc, xc⟩ := extend_spec (n := n) (r := h.length) (h := hb') (h1 := hb') (s := s1) (fr := mLst (mCons (mVar 6) (mCons (mM0 gUpper (mVar 6)) (mCons (mOp gAdd (mOp gAdd (mVar 6) (mC (.str "."))) (mVar 7)) (mCons (mOp gAdd (mVar 6) (mM0 gUpper (mVar 7))) (mCons (mOp gAdd (mOp gAdd (mOp gAdd (mOp gAdd (mVar 6) (mC (.str "."))) (mVar 7)) (mC (.str "."))) (mVar 6)) mNil)))))) (N := 27 + 8 * i) (k := 5) (xs := five) (i := 2) rfl la
        (by
          have u1 : z1.length ≤ 5592405 := by omega
          have u2 : z2.length ≤ 5592405 := by omega
          simp [s1, five, u1, u2, lp, Str.length_append, sz, newL, show z1.length + 1 ≤ 1000 by omega, show z1.length + 1 + z2.length ≤ 1000 by omega, show z1.length + (Txt.upper z2).length ≤ 1000 by omega, show z1.length + 1 + z2.length + 1 ≤ 1000 by omega, show z1.length + 1 + z2.length + 1 + z1.length ≤ 1000 by omega, mDef, mRet, mAndV, mOrV, mNotV, mOp, mUn, mCB, mCons, mNil, mVar, mC, mM0, mM1, mML0, mML, mCall, mTup, mLst, mIf, mIfS, mB, mOr, mAnd, mNot, mSet, mAsg, mgPat, mPat, mPats, mSeq, mNext, mDrop, mPar, mChain, mSl, mPart, mNoPart, mgSub, gLe, gLt, gGt, gGe, Mi.gSub, gI0, gInt, gAdd, gMul, gFdiv, gMod, gPow, gLen, gMax, gMin, gTwo, gInt1, gInt3, gIx, gSetIx, gCut, gAsk, gS0, gS1, gStarts, gFind, gUpper, gPartition, gIn, gNotIn, gIs, gIsNot, isW, Mi.isNon, andThen, thenS, caseB]) Tb (Nat.le_refl _) g5 (by omega)
      have Bc : Bx b h hc := by
        rw [xc]
        exact (((IB.trans Ba).trans Bb).ext (Ext.app _ _)).set (Nat.le_refl _) hne
      obtain ⟨z3, hd, ed, g3, Bd⟩ := word_spec (n := n) (most := 2) hn Bc.box gM (by omega) (by decide +kernel) (by omega)
      obtain ⟨z4, he, ee, g4, Be⟩ := word_spec (n := n) (most := 5) hn Bd.box gF (by omega) (by decide +kernel) (by omega)
      obtain ⟨z5, hf, ef, g6, Bf⟩ := word_spec (n := n) (most := 4) (g := SMALL ++ FIGS) hn Be.box (gS.append gF) (by omega) (by decide +kernel) (by omega)
      have Tf : Texts hf h.length (27 + 8 * i + 5) := by
        obtain ⟨ts, d1, d2, d3⟩ := Tc
        exact ⟨ts, ((Bd.trans Be).trans Bf).get d1 hne, d2, d3⟩
      have lc : ∃ ys, Mi.lstAt hc h.length = some ys := by
        obtain ⟨ts, d1, _⟩ := Tc
        exact ⟨_, lstAt_lst d1⟩
      let three : List Str := [z3, z4, z5]
      have g3' : ∀ t ∈ three, GoodT 40 t := by
        intro t ht
        simp only [three, List.mem_cons, List.not_mem_nil, or_false] at ht
        rcases ht with rfl | rfl | rfl
        · exact g3.mono (by omega)
        · exact g4.mono (by omega)
        · exact g6.mono (by omega)
      obtain ⟨hg, eg, Tg, yg, xg⟩ := extend_spec (n := n) (r := h.length) (h := hc) (h1 := hf) (s := s1) (fr := mLst (mCons (mCall f__law_word (mCons (mVar 0) (mCons (mVar 1) (mCons (mC (.int 2)) mNil)))) (mCons (mCall f__law_word (mCons (mVar 0) (mCons (mVar 5) (mCons (mC (.int 5)) mNil)))) (mCons (mCall f__law_word (mCons (mVar 0) (mCons (mOp gAdd (mVar 4) (mVar 5)) (mCons (mC (.int 4)) mNil)))) mNil)))) (N := 27 + 8 * i + 5) (k := 3) (xs := three) (i := 2) rfl lc
        (by
          have q1 : szOk (SMALL.length + FIGS.length) = true := by decide +kernel
          have ed' : f__law_word n [.ref b, .str MARKT, .int 2] hc = some (.str z3, hd) := ed
          have ee' : f__law_word n [.ref b, .str FIGS, .int 5] hd = some (.str z4, he) := ee
          have ef' : f__law_word n [.ref b, .str (SMALL ++ FIGS), .int 4] he = some (.str z5, hf) := ef
          simp [s1, three, ed', ee', ef', q1, newL, sz, mDef, mRet, mAndV, mOrV, mNotV, mOp, mUn, mCB, mCons, mNil, mVar, mC, mM0, mM1, mML0, mML, mCall, mTup, mLst, mIf, mIfS, mB, mOr, mAnd, mNot, mSet, mAsg, mgPat, mPat, mPats, mSeq, mNext, mDrop, mPar, mChain, mSl, mPart, mNoPart, mgSub, gLe, gLt, gGt, gGe, Mi.gSub, gI0, gInt, gAdd, gMul, gFdiv, gMod, gPow, gLen, gMax, gMin, gTwo, gInt1, gInt3, gIx, gSetIx, gCut, gAsk, gS0, gS1, gStarts, gFind, gUpper, gPartition, gIn, gNotIn, gIs, gIsNot, isW, Mi.isNon, andThen, thenS, caseB]) Tf (Nat.le_refl _) g3' (by omega)
      have Bg : Bx b h hg := by
        rw [xg]
        exact (((((Bc.trans Bd).trans Be).trans Bf)).ext (Ext.app _ _)).set (Nat.le_refl _) hne
      refine ⟨s1, hg, .inl ?_, ⟨⟨_, _, _, rfl⟩, Bg, ?_⟩⟩
      · have ea' : f__law_word n [.ref b, .str SMALL, .int 7] hh = some (.str z1, ha) := ea
        have eb' : f__law_word n [.ref b, .str SMALL, .int 7] ha = some (.str z2, hb') := eb
        show body n _ _ = _
        unfold body
        rw [seq_step (s1 := s1) (h1 := hb') (by simp [s1, mPat, ea', eb', mDef, mRet, mAndV, mOrV, mNotV, mOp, mUn, mCB, mCons, mNil, mVar, mC, mM0, mM1, mML0, mML, mCall, mTup, mLst, mIf, mIfS, mB, mOr, mAnd, mNot, mSet, mAsg, mgPat, mPat, mPats, mSeq, mNext, mDrop, mPar, mChain, mSl, mPart, mNoPart, mgSub, gLe, gLt, gGt, gGe, Mi.gSub, gI0, gInt, gAdd, gMul, gFdiv, gMod, gPow, gLen, gMax, gMin, gTwo, gInt1, gInt3, gIx, gSetIx, gCut, gAsk, gS0, gS1, gStarts, gFind, gUpper, gPartition, gIn, gNotIn, gIs, gIsNot, isW, Mi.isNon, andThen, thenS, caseB]), seq_step ec, eg]
      · rw [show 27 + 8 * (i + 1) = 27 + 8 * i + 5 + 3 by omega]; exact Tg)
    n 0 [some (.ref b), some (.str MARKT), some (.ref h.length), none, some (.str SMALL), some (.str FIGS), none, none] h2 (Nat.zero_le _) (by simp [rangeW]; omega) ⟨⟨none, none, none, rfl⟩, B2, T2⟩
  subst es
  have l3 : (rangeW 0 3).length = 3 := by simp [rangeW]
  rw [l3] at T'
  refine ⟨h.length, h', def_ret (s' := [some (.ref b), some (.str MARKT), some (.ref h.length), w3, some (.str SMALL), some (.str FIGS), w6, w7]) ?_, B', Nat.le_refl _, ?_⟩
  · show B__law_texts n [some (.ref b), none, none, none, none, none, none, none] h = _
    unfold B__law_texts
    rw [seq_step (s1 := [some (.ref b), none, none, none, some (.str SMALL), some (.str FIGS), none, none]) (h1 := h) (by simp [szOk, mDef, mRet, mAndV, mOrV, mNotV, mOp, mUn, mCB, mCons, mNil, mVar, mC, mM0, mM1, mML0, mML, mCall, mTup, mLst, mIf, mIfS, mB, mOr, mAnd, mNot, mSet, mAsg, mgPat, mPat, mPats, mSeq, mNext, mDrop, mPar, mChain, mSl, mPart, mNoPart, mgSub, gLe, gLt, gGt, gGe, Mi.gSub, gI0, gInt, gAdd, gMul, gFdiv, gMod, gPow, gLen, gMax, gMin, gTwo, gInt1, gInt3, gIx, gSetIx, gCut, gAsk, gS0, gS1, gStarts, gFind, gUpper, gPartition, gIn, gNotIn, gIs, gIsNot, isW, Mi.isNon, andThen, thenS, caseB])]
    rw [seq_step (s1 := [some (.ref b), some (.str MARKT), none, none, some (.str SMALL), some (.str FIGS), none, none]) (h1 := h) (by simp [mDef, mRet, mAndV, mOrV, mNotV, mOp, mUn, mCB, mCons, mNil, mVar, mC, mM0, mM1, mML0, mML, mCall, mTup, mLst, mIf, mIfS, mB, mOr, mAnd, mNot, mSet, mAsg, mgPat, mPat, mPats, mSeq, mNext, mDrop, mPar, mChain, mSl, mPart, mNoPart, mgSub, gLe, gLt, gGt, gGe, Mi.gSub, gI0, gInt, gAdd, gMul, gFdiv, gMod, gPow, gLen, gMax, gMin, gTwo, gInt1, gInt3, gIx, gSetIx, gCut, gAsk, gS0, gS1, gStarts, gFind, gUpper, gPartition, gIn, gNotIn, gIs, gIsNot, isW, Mi.isNon, andThen, thenS, caseB])]
    rw [seq_step (s1 := [some (.ref b), some (.str MARKT), some (.ref h.length), none, some (.str SMALL), some (.str FIGS), none, none]) (h1 := h1) (by simp [newL, szOk, h1, BASE, mDef, mRet, mAndV, mOrV, mNotV, mOp, mUn, mCB, mCons, mNil, mVar, mC, mM0, mM1, mML0, mML, mCall, mTup, mLst, mIf, mIfS, mB, mOr, mAnd, mNot, mSet, mAsg, mgPat, mPat, mPats, mSeq, mNext, mDrop, mPar, mChain, mSl, mPart, mNoPart, mgSub, gLe, gLt, gGt, gGe, Mi.gSub, gI0, gInt, gAdd, gMul, gFdiv, gMod, gPow, gLen, gMax, gMin, gTwo, gInt1, gInt3, gIx, gSetIx, gCut, gAsk, gS0, gS1, gStarts, gFind, gUpper, gPartition, gIn, gNotIn, gIs, gIsNot, isW, Mi.isNon, andThen, thenS, caseB])]
    rw [seq_step e2]
    have ef : mFor (miRange1 (mC (.int 3))) (mgPat (.nm 3)) body n [some (.ref b), some (.str MARKT), some (.ref h.length), none, some (.str SMALL), some (.str FIGS), none, none] h2 = some (.nx, [some (.ref b), some (.str MARKT), some (.ref h.length), w3, some (.str SMALL), some (.str FIGS), w6, w7], h') := by
      unfold mFor
      have : miRange1 (mC (.int 3)) n [some (.ref b), some (.str MARKT), some (.ref h.length), none, some (.str SMALL), some (.str FIGS), none, none] h2 = some (.items (rangeW 0 3), h2) := by
        simp [miRange1, mC, small62]
      rw [this]; exact er
    rw [seq_step ef]
    rfl
  · obtain ⟨ts, d1, d2, d3⟩ := T'
    exact ⟨ts, d1, by omega, d3⟩
end K02

namespace K02
open PySem L2 Mi
theorem short_ints : ∀ v : Fin 1000, (PyData.shown (.int (v.val : Int))).length ≤ 8 := by decide +kernel
theorem val_bound {l : List Nat} (h : l.length < 4) (hd : ∀ c ∈ l, 48 ≤ c ∧ c ≤ 57) : ∃ v : Fin 1000, val l = (v.val : Int) := by
  match l, h, hd with
  | [], _, _ => exact ⟨⟨0, by omega⟩, rfl⟩
  | [a], _, hd =>
    have ha := hd a (by simp)
    exact ⟨⟨a - 48, by omega⟩, by simp [val]⟩
  | [a, b], _, hd =>
    have ha := hd a (by simp)
    have hb := hd b (by simp)
    exact ⟨⟨10 * (a - 48) + (b - 48), by omega⟩, by simp [val]⟩
  | [a, b, c], _, hd =>
    have ha := hd a (by simp)
    have hb := hd b (by simp)
    have hc := hd c (by simp)
    exact ⟨⟨10 * (10 * (a - 48) + (b - 48)) + (c - 48), by omega⟩, by simp [val]⟩
/-- the number's place: none, or a number -/
theorem numD_cases (z : Str) : numD z = .non ∨ ∃ v : Fin 1000, numD z = .int (v.val : Int) := by
  unfold numD
  by_cases c : numC z = true
  · rw [if_pos c]
    unfold numC at c
    simp only [Bool.and_eq_true, decide_eq_true_eq, List.all_eq_true] at c
    obtain ⟨v, e⟩ := val_bound (l := z.cps.toList) (by rw [Array.length_toList]; exact c.1.2) fun d hd => (figs_iff d).mp (c.2.1 d hd)
    exact .inr ⟨v, by rw [e]⟩
  · rw [if_neg c]
    exact .inl rfl
theorem repr_due (z : Str) : ∃ t : Str, ∀ h : MH, gRepr [dueW z] h = some (.str t, h) := by
  unfold dueW
  generalize wordB z SMALL = a
  generalize signD z = b
  generalize callD z = c
  have go : ∀ (e : W) (d : PyData), flatW e = true → flD e = d → d.showable = true → d.hasDict = false → d.depth = 0 → d.leavesShort 8 = true → d.bulk = 0 → ∃ t : Str, ∀ h : MH, gRepr [.tup [.bl a, .bl b, .bl c, e]] h = some (.str t, h) := by
    intro e d f1 f2 f3 f4 f5 f6 f7
    have ed : ∀ h : MH, toD h 60 (.tup [.bl a, .bl b, .bl c, e]) = some (.tuple [.bool a, .bool b, .bool c, d]) := by
      intro h
      have fa : [W.bl a, .bl b, .bl c, e].all flatW = true := by
        simp only [List.all_cons, List.all_nil, f1, Bool.and_true]; rfl
      rw [toD, toDs_flat fa]
      show (some [PyData.bool a, .bool b, .bool c, flD e]).map PyData.tuple = _
      rw [f2]; rfl
    have s1 : (PyData.tuple [.bool a, .bool b, .bool c, d]).showable = true := by simp [PyData.showable, PyData.showableAll, f3]
    have s2 : (PyData.tuple [.bool a, .bool b, .bool c, d]).hasDict = false := by simp [PyData.hasDict, PyData.hasDictAll, f4]
    have s3 : (PyData.tuple [.bool a, .bool b, .bool c, d]).depth = 1 := by simp [PyData.depth, PyData.depthAll, f5]
    have s4 : (PyData.tuple [.bool a, .bool b, .bool c, d]).shown.length ≤ sizeLine := PyData.shown_fits_bulk (B := 8) (by omega) (by omega) (by simp [PyData.leavesShort, PyData.leavesShortAll, f6]) (by simp [PyData.bulk, PyData.bulkAll, f7])
    rw [sizeLine_eq] at s4
    refine ⟨(PyData.tuple [.bool a, .bool b, .bool c, d]).shown, fun h => ?_⟩
    simp only [gRepr, ed, isBox, s1, s2, s3, szOk, s4, Bool.true_and, Bool.and_self, Bool.not_false, decide_true, if_true, show decide ((1 : Nat) ≤ 60) = true from rfl]
  rcases numD_cases z with e | ⟨v, e⟩
  · rw [e]
    exact go .non .none rfl rfl (by simp [PyData.showable]) (by simp [PyData.hasDict]) (by simp [PyData.depth]) (by simp [PyData.leavesShort]) (by simp [PyData.bulk])
  · rw [e]
    refine go (.int _) (.int _) rfl rfl ?_ (by simp [PyData.hasDict]) (by simp [PyData.depth]) ?_ (by simp [PyData.bulk])
    · have hv := v.isLt
      simp only [PyData.showable, Int.natAbs_natCast, decide_eq_true_eq]
      have : v.val.log2 ≤ v.val := Nat.log2_le_self _
      omega
    · simp only [PyData.leavesShort, decide_eq_true_eq]
      exact short_ints v
theorem found_eq {n : Nat} {h : MH} {z : Str} {L : Nat} (g : GoodT L z) (hL : L ≤ 900) {x0 x1 x2 x3 x4 x6 : Option W} :
    (mTup (mCons (mCall f_is_name (mCons (mVar 5) mNil)) (mCons (mCall f_is_sign (mCons (mVar 5) mNil)) (mCons (mCall f_is_call (mCons (mVar 5) mNil)) (mCons (mCall f_number_of (mCons (mVar 5) mNil)) mNil))))) n [x0, x1, x2, x3, x4, some (.str z), x6] h = some (dueW z, h) := by
  have sz := g.sz (by omega)
  obtain ⟨g1, g2, e3⟩ := call_eq g
  have s1 := g1.sz (by omega)
  have s2 := g2.sz (by omega)
  have e1 : f_is_name n [.str z] h = some (.bl (wordB z SMALL), h) := by rw [is_name_eq n h z sz, name_eq g]
  have e2 : f_is_sign n [.str z] h = some (.bl (signD z), h) := by
    rw [is_sign_eq n h z sz, sign_eq g]
    unfold signD
    rw [Bool.or_comm]
    rfl
  have e4 : f_is_call n [.str z] h = some (.bl (callD z), h) := by rw [is_call_eq n h z sz s1 s2, e3]
  have e5 : f_number_of n [.str z] h = some (numD z, h) := by rw [number_of_eq n h z sz (num_hn g), num_eq g]
  simp only [mTup, mCons, mNil, mCall, mVar, List.getElem?_cons_succ, List.getElem?_cons_zero, andThen, e1, e2, e4, e5, List.length, szOk, dueW, show decide ((0 : Nat) + 1 + 1 + 1 + 1 ≤ 16777216) = true from rfl, if_true]
theorem turn_spec {n : Nat} {h : MH} {z : Str} {L : Nat} (hn : 1000 ≤ n) (g : GoodT L z) (hL : L ≤ 900) {x0 x1 x2 x3 x4 x6 : Option W} :
    ∃ h', (mSeq (mSet 6 (mTup (mCons (mCall f_is_name (mCons (mVar 5) mNil)) (mCons (mCall f_is_sign (mCons (mVar 5) mNil)) (mCons (mCall f_is_call (mCons (mVar 5) mNil)) (mCons (mCall f_number_of (mCons (mVar 5) mNil)) mNil))))))
    (mIfS (mB (mOp gNe (mCB gRepr (mCons (mVar 6) mNil)) (mCB gRepr (mCons (mCall f__law_due (mCons (mVar 5) mNil)) mNil)))) (mRet (mC (.bl false))) mNext)) n [x0, x1, x2, x3, x4, some (.str z), x6] h = some (.nx, [x0, x1, x2, x3, x4, some (.str z), some (dueW z)], h') ∧ Ext h h' := by
  obtain ⟨h1, e1, x1'⟩ := due_spec (n := n) (h := h) hn g hL
  obtain ⟨t, et⟩ := repr_due z
  refine ⟨h1, ?_, x1'⟩
  rw [seq_step (s1 := [x0, x1, x2, x3, x4, some (.str z), some (dueW z)]) (h1 := h) (by unfold mSet; rw [found_eq g hL]; rfl)]
  simp only [mIfS, mB, mOp, mCB, mCons, mNil, mVar, mCall, List.getElem?_cons_succ, List.getElem?_cons_zero, andThen, thenS, et, e1, gNe, eqW, decide_true, Option.map_some, Bool.not_true, Bool.false_eq_true, if_false, mNext]
/-- all texts, one by one -/
theorem inner_spec {n q : Nat} {h : MH} {ts : List Str} {x0 x1 x2 x3 x4 w5 w6 : Option W} (hn : 1000 ≤ n) (hq : h[q]? = some (.lst (ts.map W.str))) (hl : ts.length ≤ 900) (g : ∀ t ∈ ts, GoodT 100 t) :
    ∃ h' w5' w6', floop (.cell q) (mgPat (.nm 5)) (mSeq (mSet 6 (mTup (mCons (mCall f_is_name (mCons (mVar 5) mNil)) (mCons (mCall f_is_sign (mCons (mVar 5) mNil)) (mCons (mCall f_is_call (mCons (mVar 5) mNil)) (mCons (mCall f_number_of (mCons (mVar 5) mNil)) mNil))))))
    (mIfS (mB (mOp gNe (mCB gRepr (mCons (mVar 6) mNil)) (mCB gRepr (mCons (mCall f__law_due (mCons (mVar 5) mNil)) mNil)))) (mRet (mC (.bl false))) mNext)) n n 0 [x0, x1, x2, x3, x4, w5, w6] h = some (.nx, [x0, x1, x2, x3, x4, w5', w6'], h') ∧ Ext h h' := by
  obtain ⟨s', h', er, ⟨w5', w6', es⟩, eE⟩ := f_run (src := .cell q) (xs := ts.map W.str) (g := mgPat (.nm 5)) (b := (mSeq (mSet 6 (mTup (mCons (mCall f_is_name (mCons (mVar 5) mNil)) (mCons (mCall f_is_sign (mCons (mVar 5) mNil)) (mCons (mCall f_is_call (mCons (mVar 5) mNil)) (mCons (mCall f_number_of (mCons (mVar 5) mNil)) mNil))))))
    (mIfS (mB (mOp gNe (mCB gRepr (mCons (mVar 6) mNil)) (mCB gRepr (mCons (mCall f__law_due (mCons (mVar 5) mNil)) mNil)))) (mRet (mC (.bl false))) mNext))) (n := n)
    (fun i s hh => (∃ w5 w6, s = [x0, x1, x2, x3, x4, w5, w6]) ∧ Ext h hh) (fun i s hh ⟨_, x⟩ => get_cell (x.get hq))
    (fun i x s hh ex ⟨⟨w5, w6, e⟩, xx⟩ => by
      subst e
      rw [List.getElem?_map] at ex
      cases et : ts[i]? with
      | none => rw [et] at ex; cases ex
      | some t =>
        rw [et] at ex; cases ex
        obtain ⟨h2, e2, x2'⟩ := turn_spec (n := n) (h := hh) (z := t) (x0 := x0) (x1 := x1) (x2 := x2) (x3 := x3) (x4 := x4) (x6 := w6) hn (g t (List.mem_of_getElem? et)) (by omega)
        exact ⟨[x0, x1, x2, x3, x4, some (.str t), w6], hh, rfl, _, h2, .inl e2, ⟨_, _, rfl⟩, xx.trans x2'⟩)
    n 0 [x0, x1, x2, x3, x4, w5, w6] h (Nat.zero_le _) (by rw [List.length_map]; omega) ⟨⟨w5, w6, rfl⟩, Ext.refl h⟩
  subst es
  exact ⟨h', w5', w6', er, eE⟩
abbrev ANYT : Str := Str.ofString " !\"#$&'()*+,-./0123456789:;<=>?@ABCXYZ[\\]^_`abcxyz{|}~\n"
theorem good_any : GoodT 60 ANYT := ⟨by decide +kernel, by
  have : ∀ c ∈ ANYT.cps.toList, decide (c < 128) = true := by decide +kernel
  exact fun c hc => of_decide_eq_true (this c hc)⟩
def inner : MSt := (mFor (miSeq (mOp gAdd (mVar 4) (mSl gCut (mVar 4) mNoPart (mPart (mC (.int 3)))))) (mgPat (.nm 5)) (mSeq (mSet 6 (mTup (mCons (mCall f_is_name (mCons (mVar 5) mNil)) (mCons (mCall f_is_sign (mCons (mVar 5) mNil)) (mCons (mCall f_is_call (mCons (mVar 5) mNil)) (mCons (mCall f_number_of (mCons (mVar 5) mNil)) mNil))))))
    (mIfS (mB (mOp gNe (mCB gRepr (mCons (mVar 6) mNil)) (mCB gRepr (mCons (mCall f__law_due (mCons (mVar 5) mNil)) mNil)))) (mRet (mC (.bl false))) mNext)))
def outer : MSt := (mSeq (mSet 3 (mCall f__law_box (mCons (mVar 0) (mCons (mVar 2) mNil))))
    (mSeq (mSet 4 (mCall f__law_texts (mCons (mVar 3) mNil)))
    (mSeq (mSet 4 (mOp gAdd (mVar 4) (mLc (miSeq (mVar 4)) (.nm 5) mYes (mCall f__law_otherwise (mCons (mVar 3) (mCons (mVar 5) (mCons (mVar 1) mNil)))) [5])))
    inner)))
theorem outer_spec {n k : Nat} {h : MH} {ns : List Int} {w3 w4 w5 w6 : Option W} (hn : 1000 ≤ n) (hk : k ≤ 2) (hl : ns.length ≤ 63) (h0 : h[0]? = some (.fz (ns.map .int))) :
    ∃ h' w3' w4' w5' w6', outer n [some (.ref 0), some (.str ANYT), some (.int k), w3, w4, w5, w6] h = some (.nx, [some (.ref 0), some (.str ANYT), some (.int k), w3', w4', w5', w6'], h') ∧ h'[0]? = some (.fz (ns.map .int)) := by
  have hpos := lt_of_get h0
  obtain ⟨b, h1, e1, x1, lb, bx⟩ := box_spec (n := n) (k := k) h0 hk hl
  have nb : (0 : Nat) ≠ b := by omega
  have hb1 : b < h1.length := by
    obtain ⟨_, _, _, e⟩ := bx
    exact lt_of_get e
  obtain ⟨r, h2, e2, B2, lr, ts, d2, l2, g2⟩ := texts_spec (n := n) (h := h1) hn bx
  have nr : r ≠ b := by omega
  -- the same, otherwise
  obtain ⟨acc, h3, e3, d3, B3, la, us, ea, g3⟩ := lc_run (src := .cell r) (xs := ts.map W.str) (p := .nm 5) (t := mYes) (f := mCall f__law_otherwise (mCons (mVar 3) (mCons (mVar 5) (mCons (mVar 1) mNil)))) (n := n) (d := h2.length) (s0 := mwipe [some (.ref 0), some (.str ANYT), some (.int k), some (.ref b), some (.ref r), w5, w6] [5])
    (fun i acc hh => Bx b h2 hh ∧ acc.length = i ∧ ∃ us : List Str, acc = us.map W.str ∧ ∀ t ∈ us, GoodT 100 t) (fun i acc hh ⟨x, _⟩ _ => get_cell (x.get d2 nr))
    (fun i x acc hh ex ⟨I1, I2, us, I3, I4⟩ hd => by
      rw [List.getElem?_map] at ex
      cases et : ts[i]? with
      | none => rw [et] at ex; cases ex
      | some t =>
        rw [et] at ex; cases ex
        obtain ⟨z, h4, e4, g4, B4⟩ := otherwise_spec (n := n) (h := hh) (z := t) (g := ANYT) I1.box (g2 t (List.mem_of_getElem? et)) (by omega) good_any (by omega) (by decide +kernel)
        refine ⟨[some (.ref 0), some (.str ANYT), some (.int k), some (.ref b), some (.ref r), some (.str t), w6], by simp [mPat, mwipe], .inr ⟨hh, .str z, h4, rfl, ?_, ?_, ?_, ?_⟩⟩
        · simp only [mCall, mCons, mNil, mVar, List.getElem?_cons_succ, List.getElem?_cons_zero, andThen, e4]
        · have : b < h2.length := Nat.lt_of_lt_of_le hb1 B2.len
          exact B4.get hd (by omega)
        · have := lt_of_get et
          omega
        · have : b < h2.length := Nat.lt_of_lt_of_le hb1 B2.len
          refine ⟨(I1.trans B4).set (Nat.le_refl _) (by omega), by simp [I2], us ++ [z], by simp [I3], fun y hy => ?_⟩
          rcases List.mem_append.mp hy with q | q
          · exact I4 y q
          · have : y = z := by simpa using q
            subst this
            exact g4.mono (by omega))
    n 0 [] (h2 ++ [.lst []]) (Nat.zero_le _) (by rw [List.length_map]; omega) ⟨(Bx.refl B2.box).ext (Ext.app _ _), rfl, [], rfl, by simp⟩ get_snoc_self
  subst ea
  have lu : us.length = ts.length := by simpa using la
  have d2' := B3.get d2 nr
  have el : mLc (miSeq (mVar 4)) (.nm 5) mYes (mCall f__law_otherwise (mCons (mVar 3) (mCons (mVar 5) (mCons (mVar 1) mNil)))) [5] n [some (.ref 0), some (.str ANYT), some (.int k), some (.ref b), some (.ref r), w5, w6] h2 = some (.ref h2.length, h3) := by
    unfold mLc
    have : miSeq (mVar 4) n [some (.ref 0), some (.str ANYT), some (.int k), some (.ref b), some (.ref r), w5, w6] h2 = some (.cell r, h2) := by
      simp [miSeq, mVar, lstAt_lst d2]
    rw [this]; exact e3
  let vs := ts ++ us
  have lv : vs.length ≤ 120 := by simp [vs]; omega
  have gv : ∀ t ∈ vs, GoodT 100 t := fun t ht => (List.mem_append.mp ht).elim (fun q => (g2 t q).mono (by omega)) (g3 t)
  let h5 := h3 ++ [Cell.lst (vs.map W.str)]
  have e5 : newL (ts.map W.str ++ us.map W.str) h3 = some (.ref h3.length, h5) := by
    rw [← List.map_append]
    exact newL_eq (by rw [List.length_map]; show vs.length ≤ _; omega)
  have d5 : h5[h3.length]? = some (.lst (vs.map W.str)) := get_snoc_self
  let c3 := cutW (vs.map W.str) none (some 3)
  obtain ⟨ws, ec, gw, lw⟩ : ∃ ws : List Str, c3 = ws.map W.str ∧ (∀ t ∈ ws, GoodT 100 t) ∧ ws.length ≤ 120 := by
    refine ⟨(vs.drop (HT.sIx (vs.map W.str).length 0 none)).take (HT.sIx (vs.map W.str).length (vs.map W.str).length (some 3) - HT.sIx (vs.map W.str).length 0 none), ?_, fun t ht => gv t (List.mem_of_mem_drop (List.mem_of_mem_take ht)), ?_⟩
    · simp [c3, cutW, List.map_take, List.map_drop]
    · rw [List.length_take, List.length_drop]; omega
  let h6 := h5 ++ [Cell.lst c3]
  have e6 : newL c3 h5 = some (.ref h5.length, h6) := newL_eq (by rw [ec, List.length_map]; omega)
  let h7 := h6 ++ [Cell.lst ((vs ++ ws).map W.str)]
  have e7 : newL (vs.map W.str ++ c3) h6 = some (.ref h6.length, h7) := by
    rw [ec, ← List.map_append]
    exact newL_eq (by rw [List.length_map, List.length_append]; omega)
  have d7 : h7[h6.length]? = some (.lst ((vs ++ ws).map W.str)) := get_snoc_self
  have d6 : h6[h3.length]? = some (.lst (vs.map W.str)) := (Ext.app _ _).get d5
  have d6' : h6[h5.length]? = some (.lst c3) := get_snoc_self
  obtain ⟨h8, w5', w6', e8, x8⟩ := inner_spec (n := n) (q := h6.length) (h := h7) (ts := vs ++ ws) (x0 := some (.ref 0)) (x1 := some (.str ANYT)) (x2 := some (.int k)) (x3 := some (.ref b)) (x4 := some (.ref h3.length)) (w5 := w5) (w6 := w6) hn get_snoc_self (by rw [List.length_append]; omega) (fun t ht => (List.mem_append.mp ht).elim (gv t) (gw t))
  refine ⟨h8, some (.ref b), some (.ref h3.length), w5', w6', ?_, ?_⟩
  · unfold outer
    rw [seq_step (s1 := [some (.ref 0), some (.str ANYT), some (.int k), some (.ref b), w4, w5, w6]) (h1 := h1) (by simp only [mSet, mCall, mCons, mNil, mVar, List.getElem?_cons_succ, List.getElem?_cons_zero, andThen, thenS, e1, List.set])]
    rw [seq_step (s1 := [some (.ref 0), some (.str ANYT), some (.int k), some (.ref b), some (.ref r), w5, w6]) (h1 := h2) (by simp only [mSet, mCall, mCons, mNil, mVar, List.getElem?_cons_succ, List.getElem?_cons_zero, andThen, thenS, e2, List.set])]
    rw [seq_step (s1 := [some (.ref 0), some (.str ANYT), some (.int k), some (.ref b), some (.ref h3.length), w5, w6]) (h1 := h5) (by
      simp only [mSet, mOp, mVar, List.getElem?_cons_succ, List.getElem?_cons_zero, andThen, thenS, el, gAdd, lstM_lst d2', lstM_lst d3, e5, List.set])]
    unfold inner mFor
    have es : miSeq (mOp gAdd (mVar 4) (mSl gCut (mVar 4) mNoPart (mPart (mC (.int 3))))) n [some (.ref 0), some (.str ANYT), some (.int k), some (.ref b), some (.ref h3.length), w5, w6] h5 = some (.cell h6.length, h7) := by
      have e6' : newL (cutW (vs.map W.str) none (some 3)) h5 = some (.ref h5.length, h6) := e6
      simp only [miSeq, mOp, mSl, mNoPart, mPart, mC, mVar, List.getElem?_cons_succ, List.getElem?_cons_zero, andThen, gCut, lstAt_lst d5, e6', gAdd, lstM_lst d6, lstM_lst d6', e7, lstAt_lst d7]
    rw [es]
    exact e8
  · have z1 := x1.get h0
    have z2 := B2.get z1 nb
    have z3 := B3.get z2 nb
    exact x8.get ((Ext.app _ _).get ((Ext.app _ _).get ((Ext.app _ _).get z3)))
theorem law_true : ∀ ns : List Int, ns.length ≤ 63 → ∃ fuel h', f_law fuel [.ref 0] [.fz (ns.map .int)] = some (.bl true, h') := by
  intro ns hl
  let N := 1000
  let m : Nat := max 1 (min ns.length 2)
  have hm : m ≤ 2 := by simp only [m]; omega
  have hm1 : ((if (if (2 : Int) < (ns.length : Int) then (2 : Int) else (ns.length : Int)) > 1 then (if (2 : Int) < (ns.length : Int) then (2 : Int) else (ns.length : Int)) else 1)) = (m : Int) := by
    simp only [m]
    by_cases a : 2 < ns.length
    · have a' : (2 : Int) < ns.length := by omega
      rw [if_pos a']
      have : max 1 (min ns.length 2) = 2 := by omega
      rw [this]; decide
    · have a' : ¬ (2 : Int) < ns.length := by omega
      rw [if_neg a']
      by_cases c : 1 < ns.length
      · have c' : (ns.length : Int) > 1 := by omega
        rw [if_pos c']
        omega
      · have c' : ¬ (ns.length : Int) > 1 := by omega
        rw [if_neg c']
        omega
  obtain ⟨s', h', er, ⟨w2, w3, w4, w5, w6, es⟩, _⟩ := f_run (src := .items (rangeW 0 m)) (xs := rangeW 0 m) (g := mgPat (.nm 2)) (b := outer) (n := N)
    (fun i s hh => (∃ w2 w3 w4 w5 w6, s = [some (.ref 0), some (.str ANYT), w2, w3, w4, w5, w6]) ∧ hh[0]? = some (.fz (ns.map .int))) (fun _ _ _ _ => rfl)
    (fun i x s hh ex ⟨⟨w2, w3, w4, w5, w6, e⟩, h0⟩ => by
      subst e
      have hi : i < m := by
        have := lt_of_get ex
        simpa [rangeW] using this
      have exx : x = .int (i : Int) := by
        have e2 : (rangeW 0 m)[i]? = some (.int (i : Int)) := by
          simp [rangeW, hi]
        rw [e2] at ex
        exact (Option.some.inj ex).symm
      subst exx
      obtain ⟨h2, w3', w4', w5', w6', e2, z2⟩ := outer_spec (n := N) (k := i) (h := hh) (w3 := w3) (w4 := w4) (w5 := w5) (w6 := w6) (by simp [N]) (by omega) hl h0
      exact ⟨[some (.ref 0), some (.str ANYT), some (.int i), w3, w4, w5, w6], hh, rfl, _, h2, .inl e2, ⟨_, _, _, _, _, rfl⟩, z2⟩)
    N 0 [some (.ref 0), some (.str ANYT), none, none, none, none, none] [.fz (ns.map .int)] (Nat.zero_le _) (by simp [rangeW, N]; omega) ⟨⟨none, none, none, none, none, rfl⟩, rfl⟩
  subst es
  refine ⟨N, h', def_ret (s' := [some (.ref 0), some (.str ANYT), w2, w3, w4, w5, w6]) ?_⟩
  show B_law N [some (.ref 0), none, none, none, none, none, none] [.fz (ns.map .int)] = _
  have ei : miRange1 (mCB gMax (mCons (mC (.int 1)) (mCons (mCB gMin (mCons (mCB gLen (mCons (mVar 0) mNil)) (mCons (mC (.int 2)) mNil))) mNil))) N [some (.ref 0), some (.str ANYT), none, none, none, none, none] [.fz (ns.map .int)] = some (.items (rangeW 0 m), [.fz (ns.map .int)]) := by
    have e0 : Mi.lstAt [Cell.fz (ns.map .int)] 0 = some (ns.map W.int) := rfl
    have sm : small62 (m : Int) = true := by simp [small62]; omega
    simp only [miRange1, mCB, mCons, mNil, mC, mVar, List.getElem?_cons_zero, andThen, gLen, e0, List.length_map, gMin, gMax, gTwo, hm1, sm, if_true, Int.toNat_natCast]
  have ef : (mFor (miRange1 (mCB gMax (mCons (mC (.int 1)) (mCons (mCB gMin (mCons (mCB gLen (mCons (mVar 0) mNil)) (mCons (mC (.int 2)) mNil))) mNil)))) (mgPat (.nm 2)) outer) N [some (.ref 0), some (.str ANYT), none, none, none, none, none] [.fz (ns.map .int)] = some (.nx, [some (.ref 0), some (.str ANYT), w2, w3, w4, w5, w6], h') := by
    unfold mFor
    rw [ei]; exact er
  unfold B_law
  rw [seq_step (s1 := [some (.ref 0), some (.str ANYT), none, none, none, none, none]) (h1 := [.fz (ns.map .int)]) (by rfl)]
  change mSeq (mFor (miRange1 (mCB gMax (mCons (mC (.int 1)) (mCons (mCB gMin (mCons (mCB gLen (mCons (mVar 0) mNil)) (mCons (mC (.int 2)) mNil))) mNil)))) (mgPat (.nm 2)) outer) (mRet (mC (.bl true))) N [some (.ref 0), some (.str ANYT), none, none, none, none, none] [.fz (ns.map .int)] = _
  rw [seq_step ef]
  rfl
end K02

open PySem PySem.W PyProof.Rows
set_option maxHeartbeats 0 in
theorem PySem.Challenge.cw_tonguetower_k02_words_holds : PySem.Challenge.rw_tonguetower_k02_words.Holds := by
  w_on; o_law; k_head; (case hw => w_witness2)
  k_fill
  refine Mi.walk_ofG (l := PySem.Challenge.rw_tonguetower_k02_words) (n := 63) (k := 4) (F := K02.f_law) (x := "_law_script") rfl (by decide) rfl ⟨rfl, by decide, by decide⟩ (fun w h Y => PySem.W.kIn_of Y) ?F K02.law_true
  case F =>
    intro w mg fa h KX G hmg
    refine' K02.all_mk KX G hmg ?a0 ?l0 ?c0 ?k0 ?a1 ?l1 ?c1 ?k1 ?a2 ?l2 ?c2 ?k2 ?a3 ?l3 ?c3 ?k3 ?a4 ?l4 ?c4 ?k4 ?a5 ?l5 ?c5 ?k5 ?a6 ?l6 ?c6 ?k6 ?a7 ?l7 ?c7 ?k7 ?a8 ?l8 ?c8 ?k8 ?a9 ?l9 ?c9 ?k9 ?a10 ?l10 ?c10 ?k10 ?a11 ?l11 ?c11 ?k11 ?a12 ?l12 ?c12 ?k12 ?z_int ?z_len ?z_list ?z_max ?z_min ?z_range ?z_repr ?aC_MARKS ?rC_MARKS
    (case a0 => k_is)
    (case l0 => k_is)
    (case c0 => k_is)
    (case k0 => k_is)
    (case a1 => k_is)
    (case l1 => k_is)
    (case c1 => k_is)
    (case k1 => k_is)
    (case a2 => k_is)
    (case l2 => k_is)
    (case c2 => k_is)
    (case k2 => k_is)
    (case a3 => k_is)
    (case l3 => k_is)
    (case c3 => k_is)
    (case k3 => k_is)
    (case a4 => k_is)
    (case l4 => k_is)
    (case c4 => k_is)
    (case k4 => k_is)
    (case a5 => k_is)
    (case l5 => k_is)
    (case c5 => k_is)
    (case k5 => k_is)
    (case a6 => k_is)
    (case l6 => k_is)
    (case c6 => k_is)
    (case k6 => k_is)
    (case a7 => k_is)
    (case l7 => k_is)
    (case c7 => k_is)
    (case k7 => k_is)
    (case a8 => k_is)
    (case l8 => k_is)
    (case c8 => k_is)
    (case k8 => k_is)
    (case a9 => k_is)
    (case l9 => k_is)
    (case c9 => k_is)
    (case k9 => k_is)
    (case a10 => k_is)
    (case l10 => k_is)
    (case c10 => k_is)
    (case k10 => k_is)
    (case a11 => k_is)
    (case l11 => k_is)
    (case c11 => k_is)
    (case k11 => k_is)
    (case a12 => k_is)
    (case l12 => k_is)
    (case c12 => k_is)
    (case k12 => k_is)
    (case z_int => k_is)
    (case z_len => k_is)
    (case z_list => k_is)
    (case z_max => k_is)
    (case z_min => k_is)
    (case z_range => k_is)
    (case z_repr => k_is)
    (case aC_MARKS => k_is)
    (case rC_MARKS => refine' Mi.rep_const ?l ?e ?z; (case l => k_is); (case e => rfl); (case z => rfl))

